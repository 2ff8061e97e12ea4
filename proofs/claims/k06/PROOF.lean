import PyProof.Rows.All
import Wide.All
import OpenK.AllK
import Wide.FinOn
import HandS.ForMost
import HandS.Wide
import HandS.Codes
import HandS.ForExc
import HandS.ExcInit
import HandS.ExcValue
import HandS.ExcIs
import HandS.IsInst
import HandS.SetFor
import KE.KExcIs
import PyProof.ReprReads
import PyProof.Rows.CountFlat
import PyProof.ReprRoads
import KE.GoesEnum
import KE.GoesZip
import KE.GoesMore
import HandS.SlotsOwn
import HandS.Property
import HandS.ClsMeth
import KE.KCallOwn
import HandS.Replace
import HandS.ReplaceDef
import HandS.ReplaceLit
import HandS.WordsExc
import HandS.ReplaceList
import HandS.Lambda
import HandS.EndTab
import HandS.Conv
import PyProof.StrOps2
import PyProof.WalkInts
import PyProof.FString5
import HandS.Star
import KE.KTupSum
import PyProof.Rows.StrCountLaw
import HandS.Base
import HandS.Call
import PyProof.ToksMono
import HandS.List
import HandS.RaiseMore
import HandS.StrMore
import HandS.WideBits
import HandS.SetTxt0
import HandS.Strs
import PyProof.Rows.SortShellAny
import HandS.Set
import HandS.TryOnly
import PySem.Challenge.RW_fallenbits_k06_whole_torn_reads
set_option Elab.async false
set_option linter.all false
set_option maxRecDepth 100000
set_option maxHeartbeats 4000000
namespace Fb
open PySem PySem.Spec PyProof.Rows L2
/-! the pen -/
def penK (l : Addr) (a r f : Int) : List (Key × V) := [(.inr "cells", .ref l), (.inr "at", .int a), (.inr "rest", .int r), (.inr "fold", .int f)]
theorem ne1 : ¬ (("cells" : Str) = "rest") := by decide +kernel
theorem ne2 : ¬ (("at" : Str) = "rest") := by decide +kernel
theorem ne3 : ¬ (("cells" : Str) = "at") := by decide +kernel
theorem ne4 : ¬ (("cells" : Str) = "fold") := by decide +kernel
theorem ne5 : ¬ (("at" : Str) = "fold") := by decide +kernel
theorem ne6 : ¬ (("rest" : Str) = "fold") := by decide +kernel
theorem ne7 : ¬ (("rest" : Str) = "at") := by decide +kernel
theorem ne8 : ¬ (("fold" : Str) = "at") := by decide +kernel
theorem ne9 : ¬ (("fold" : Str) = "rest") := by decide +kernel
theorem inr_ne {a b : Str} (h : ¬ a = b) : ¬ ((Sum.inr a : Key) = Sum.inr b) := fun e => h (Sum.inr.inj e)
section
variable {H : Hp} {p l : Addr} {a r f x : Int}
theorem penK_cells : valV (penK l a r f) (.inr "cells") = some (.ref l) := by
  unfold penK; exact valV_pos rfl
theorem penK_at : valV (penK l a r f) (.inr "at") = some (.int a) := by
  unfold penK; rw [valV_neg (inr_ne ne3)]; exact valV_pos rfl
theorem penK_rest : valV (penK l a r f) (.inr "rest") = some (.int r) := by
  unfold penK; rw [valV_neg (inr_ne ne1), valV_neg (inr_ne ne2)]; exact valV_pos rfl
theorem penK_fold : valV (penK l a r f) (.inr "fold") = some (.int f) := by
  unfold penK; rw [valV_neg (inr_ne ne4), valV_neg (inr_ne ne5), valV_neg (inr_ne ne6)]; exact valV_pos rfl
theorem penK_put_at : putK (penK l a r f) (.inr "at") (.int x) = penK l x r f := by
  unfold putK
  rw [valV_any, penK_at, Option.isSome_some, if_pos rfl]
  unfold penK
  simp only [List.map_cons, List.map_nil, if_neg (inr_ne ne3), if_neg (inr_ne ne7), if_neg (inr_ne ne8), if_true]
theorem penK_put_rest : putK (penK l a r f) (.inr "rest") (.int x) = penK l a x f := by
  unfold putK
  rw [valV_any, penK_rest, Option.isSome_some, if_pos rfl]
  unfold penK
  simp only [List.map_cons, List.map_nil, if_neg (inr_ne ne1), if_neg (inr_ne ne2), if_neg (inr_ne ne9), if_true]
theorem g_cells (e : H p = some (.dK (penK l a r f))) : DGet H p (.str "cells") (some (.ref l)) := by
  have h := DGet.k (k := .inr "cells") e
  rw [penK_cells] at h; exact h
theorem g_at (e : H p = some (.dK (penK l a r f))) : DGet H p (.str "at") (some (.int a)) := by
  have h := DGet.k (k := .inr "at") e
  rw [penK_at] at h; exact h
theorem g_rest (e : H p = some (.dK (penK l a r f))) : DGet H p (.str "rest") (some (.int r)) := by
  have h := DGet.k (k := .inr "rest") e
  rw [penK_rest] at h; exact h
theorem g_fold (e : H p = some (.dK (penK l a r f))) : DGet H p (.str "fold") (some (.int f)) := by
  have h := DGet.k (k := .inr "fold") e
  rw [penK_fold] at h; exact h
theorem pen_sz : (penK l a r f).length < sizeLine := by
  show 4 < sizeLine
  rw [sizeLine_eq]; decide
theorem p_at (e : H p = some (.dK (penK l a r f))) : DPut H p (.str "at") (.int x) (upd H p (.dK (penK l x r f))) := by
  have h := DPut.k (k := .inr "at") (v := .int x) e pen_sz
  rw [penK_put_at] at h; exact h
theorem p_rest (e : H p = some (.dK (penK l a r f))) : DPut H p (.str "rest") (.int x) (upd H p (.dK (penK l a x f))) := by
  have h := DPut.k (k := .inr "rest") (v := .int x) e pen_sz
  rw [penK_put_rest] at h; exact h
end
/-- a pen at p, its cells at l, that has been asked at most n times -/
def PenL (H : Hp) (p l : Addr) (n : Nat) : Prop := ∃ (cs : List Int) (a r f : Int), H p = some (.dK (penK l a r f)) ∧ H l = some (.lst (cs.map V.int)) ∧ 0 ≤ a ∧ a ≤ n ∧ 0 ≤ r ∧ 0 ≤ f ∧ f < 2147483629
theorem PenL.mono {H : Hp} {p l : Addr} {n m : Nat} (h : PenL H p l n) (le : n ≤ m) : PenL H p l m := by
  obtain ⟨cs, a, r, f, h1, h2, h3, h4, h5⟩ := h
  exact ⟨cs, a, r, f, h1, h2, h3, by omega, h5⟩
theorem PenL.same {H H' : Hp} {p l : Addr} {n : Nat} (h : PenL H p l n) (s : Same H H') : PenL H' p l n := by
  obtain ⟨cs, a, r, f, h1, h2, h3⟩ := h
  exact ⟨cs, a, r, f, s _ _ h1, s _ _ h2, h3⟩
def spTake : Sp := fun vs H Q _ => ∃ (p l : Addr) (m : Int) (n : Nat), vs = [.ref p, .int m] ∧ 0 < m ∧ m < 1073741824 ∧ n < 1000000 ∧ PenL H p l n ∧
  ∀ (d : Int) (H' : Hp), 0 ≤ d → d < m → PenL H' p l (n + 1) → (∀ c, c ≠ p → H' c = H c) → Q (.int d) H'
structure TxP (mg : Str → Option Value) : Prop where
  n_int : mg "int" = none
  n_len : mg "len" = none
  n_abs : mg "abs" = none
  n_list : mg "list" = none
section
variable {P : Program} {w : World} {K : PySem.W.Frag} {mg : Str → Option Value} {base : Heap}
/-! the pen's making -/
theorem cut_map (ns : List Int) (lo hi : Option Int) : ∃ ms : List Int, cutV (ns.map V.int) lo hi = ms.map V.int ∧ ms.length ≤ ns.length := by
  unfold cutV
  refine ⟨(ns.drop (HT.sIx (ns.map V.int).length 0 lo)).take (HT.sIx (ns.map V.int).length (ns.map V.int).length hi - HT.sIx (ns.map V.int).length 0 lo), ?_, ?_⟩
  · rw [List.map_take, List.map_drop]
  · rw [List.length_take, List.length_drop]; omega
theorem putK_newS {kvs : List (Key × V)} {x : Str} {v : V} (h : valV kvs (.inr x) = none) : putK kvs (.inr x) v = kvs ++ [(.inr x, v)] := putK_new v h
theorem merge_pen {l : Addr} {a r f : Int} : mergeK [] [(.inr "cells", .ref l), (.inr "at", .int a), (.inr "rest", .int r), (.inr "fold", .int f)] = penK l a r f := by
  unfold mergeK
  simp only [List.foldl_cons, List.foldl_nil]
  rw [putK_newS (x := "cells") valV_nil]
  rw [putK_newS (x := "at") (by rw [List.nil_append, valV_neg (inr_ne ne3)]; exact valV_nil)]
  rw [putK_newS (x := "rest") (by simp only [List.nil_append, List.cons_append]; rw [valV_neg (inr_ne ne1), valV_neg (inr_ne ne2)]; exact valV_nil)]
  rw [putK_newS (x := "fold") (by simp only [List.nil_append, List.cons_append]; rw [valV_neg (inr_ne ne4), valV_neg (inr_ne ne5), valV_neg (inr_ne ne6)]; exact valV_nil)]
  rfl
def spPen (K : PySem.W.Frag) : Sp := fun vs H Q _ => ∃ (a : Addr) (ns : List Int), vs = [.ref a] ∧ SqL K H a (ns.map V.int) ∧ ns.length ≤ 63 ∧
  ∀ (p l : Addr) (H' : Hp), H p = none → H l = none → Same H H' → PenL H' p l 0 → Q (.ref p) H'
theorem smN {H H' : Hp} {p : Addr} {o : HO} (s : Same H H') (h : H' p = none) : Same H (upd H' p o) := fun b u e => by
  rw [upd_ne (ne_of_none (s b u e) h)]
  exact s b u e
end
end Fb
set_option maxRecDepth 100000
set_option maxHeartbeats 4000000
namespace Fb
open PySem PySem.Spec PyProof.Rows L2
def top (i : Nat) : Stmt := PySem.Challenge.pw_fallenbits_k06_whole_torn_reads.main.body.getD i (.Pass ⟨0, 0, 0, 0⟩)
abbrev s_Ltake : Stmt := top 32
theorem sc_Ltake : FnScope ["_law_pen_here", "_law_many", "_law_digit", "_law_at", "_law_cell", "_law_great", "_law_mixed"] ["_law_pen_here", "_law_many"] (defScope s_Ltake) := ⟨rfl, rfl, rfl, by decide +kernel, rfl, by decide +kernel, by decide +kernel⟩
abbrev s_Lpen : Stmt := top 31
theorem sc_Lpen : FnScope ["_law_script", "_law_fold", "_law_cell"] ["_law_script"] (defScope s_Lpen) := ⟨rfl, rfl, rfl, by decide +kernel, rfl, by decide +kernel, by decide +kernel⟩
section
variable {P : Program} {w : World} {K : PySem.W.Frag} {mg : Str → Option Value} {base : Heap}
theorem ok_take {f : Addr} {fd : FuncData} (F : Fun K "_law_take" "_law_take" s_Ltake f fd) (T : TxP mg) : FnOk P w K mg base CX0 2 f fd ["_law_pen_here", "_law_many"] spTake := by
  refine F.ok sc_Ltake (fun vs H Q E h => ?_) (fun cdv A outer s H vs Q E hr h => ?_)
  · obtain ⟨p, l, m, n, rfl, _⟩ := h
    rfl
  · obtain ⟨p, l, m, n, rfl, hm0, hm1, hn, ⟨cs, a, r, f, hp, hl, ha0, ha1, hr0, hf0, hf1⟩, k⟩ := h
    have hu := hu_of hr
    have npl : l ≠ p := ne_of hl hp (by intro z; cases z)
    refine ⟨_, (pss_cons (ps_if (pt_cmpR op_gt (pe_dget hu (pv 0) pe_str (fun _ _ => rfl)) pe_int (nomark _))
    (pss_cons (ps_set (i := 2) sc_Ltake.nd rfl (Or.inl rfl) (pe_op op_mod (pe_callTy call_int1 (by rfl) T.n_int (by decide +kernel) (pa_cons (pe_dget hu (pv 0) pe_str (fun _ _ => rfl)) pa_nil)) (pv 1)))
    (pss_cons (ps_dput hu (pv 0) pe_str (pe_op op_fdiv (pe_callTy call_int1 (by rfl) T.n_int (by decide +kernel) (pa_cons (pe_dget hu (pv 0) pe_str (fun _ _ => rfl)) pa_nil)) (pv 1)) rfl)
    (pss_one (ps_ret (pv 2)))))
    pss_nil)
  (pss_cons (ps_set (i := 3) sc_Ltake.nd rfl (Or.inl rfl) (pe_dget hu (pv 0) pe_str (fun _ _ => rfl)))
  (pss_cons (ps_dput hu (pv 0) pe_str (pe_op op_add (pv 3) pe_int) rfl)
  (pss_cons (ps_set (i := 4) sc_Ltake.nd rfl (Or.inl rfl) pe_int)
  (C8.pss_cut (ps_if (pt_cmpR op_lt (pv 3) (pe_callB call_len_seq (by rfl) T.n_len (by decide +kernel) (pa_cons (pe_dget hu (pv 0) pe_str (fun _ _ => rfl)) pa_nil)) (nomark _))
    (pss_one (ps_set (i := 4) sc_Ltake.nd rfl (Or.inl rfl) (pe_ix ix_list (pe_dget hu (pv 0) pe_str (fun _ _ => rfl)) (pv 3) (fun _ _ => rfl))))
    pss_nil)
  (pss_cons (ps_if (pt_cmpR op_ge (pe_callB call_abs (by rfl) T.n_abs (by decide +kernel) (pa_cons (pv 4) pa_nil)) (pe_op op_pow pe_int pe_int) (nomark _))
    (pss_cons (ps_set (i := 5) sc_Ltake.nd rfl (Or.inl rfl) (pe_op op_add (pe_op op_mul pe_int (pe_callB call_abs (by rfl) T.n_abs (by decide +kernel) (pa_cons (pv 4) pa_nil))) (pe_callTy call_int1 (by rfl) T.n_int (by decide +kernel) (pa_cons (pe_cmpR op_lt (pv 4) pe_int (nomark _)) pa_nil))))
    (pss_cons (ps_dput hu (pv 0) pe_str (pe_op op_fdiv (pe_callTy call_int1 (by rfl) T.n_int (by decide +kernel) (pa_cons (pv 5) pa_nil)) (pv 1)) rfl)
    (pss_one (ps_ret (pe_op op_mod (pe_callTy call_int1 (by rfl) T.n_int (by decide +kernel) (pa_cons (pv 5) pa_nil)) (pv 1))))))
    pss_nil)
  (pss_cons (ps_set (i := 6) sc_Ltake.nd rfl (Or.inl rfl) (pe_op op_mod (pe_callTy call_int1 (by rfl) T.n_int (by decide +kernel) (pa_cons (pe_op op_pow (pe_op op_add (pe_op op_add (pe_op op_mod (pe_callTy call_int1 (by rfl) T.n_int (by decide +kernel) (pa_cons (pv 4) pa_nil)) pe_int) (pe_callTy call_int1 (by rfl) T.n_int (by decide +kernel) (pa_cons (pe_dget hu (pv 0) pe_str (fun _ _ => rfl)) pa_nil))) (pe_op op_mul pe_int (pv 3))) pe_int) pa_nil)) pe_int))
  (pss_cons (ps_set (i := 6) sc_Ltake.nd rfl (Or.inl rfl) (pe_op op_mod (pe_callTy call_int1 (by rfl) T.n_int (by decide +kernel) (pa_cons (pe_op op_pow (pe_op op_add (pe_op op_add (pv 6) (pe_op op_mul (pe_op op_mul pe_int (pv 3)) (pv 3))) (pe_op op_fdiv (pe_callTy call_int1 (by rfl) T.n_int (by decide +kernel) (pa_cons (pe_dget hu (pv 0) pe_str (fun _ _ => rfl)) pa_nil)) pe_int)) pe_int) pa_nil)) pe_int))
  (pss_one (ps_ret (pe_op op_mod (pe_callTy call_int1 (by rfl) T.n_int (by decide +kernel) (pa_cons (pe_op op_fdiv (pv 6) pe_int) pa_nil)) (pv 1)))))))))))), ?_⟩
    -- if pen['rest'] > 0
    refine ⟨_, rfl, p, _, rfl, g_rest hp, _, _, rfl, rfl, _, rfl, ?_⟩
    refine ite2 (fun h1 => ?_) (fun h1 => ?_)
    · -- the rest
      refine ⟨_, rfl, p, _, rfl, g_rest hp, .inl ⟨_, rfl, ?_⟩⟩
      refine ⟨_, rfl, _, _, rfl, rfl, hm0, ?_⟩
      refine ⟨_, rfl, p, _, rfl, g_rest hp, .inl ⟨_, rfl, ?_⟩⟩
      refine ⟨_, rfl, _, _, rfl, rfl, ⟨hm0, hm1⟩, ?_⟩
      refine ⟨_, rfl, p, _, rfl, p_rest hp, ?_⟩
      refine ⟨_, rfl, ?_⟩
      refine k _ _ (Int.emod_nonneg _ (by omega)) (Int.emod_lt_of_pos _ hm0) ⟨cs, a, r / m, f, upd_same, by rw [upd_ne npl]; exact hl, ha0, by omega, Int.ediv_nonneg hr0 (by omega), hf0, hf1⟩ (fun c hc => upd_ne hc)
    · -- at = pen['at']; pen['at'] = at + 1; cell = 0
      refine ⟨_, rfl, p, _, rfl, g_at hp, ?_⟩
      refine ⟨_, rfl, _, _, rfl, rfl, _, rfl, p, _, rfl, p_at hp, ?_⟩
      have hp' : ∀ {x : Int}, (upd H p (.dK (penK l x r f))) p = some (.dK (penK l x r f)) := upd_same
      have hl' : ∀ {x : Int}, (upd H p (.dK (penK l x r f))) l = some (.lst (cs.map V.int)) := by intro x; rw [upd_ne npl]; exact hl
      refine ⟨fun σ H' => H' = upd H p (.dK (penK l (a + 1) r f)) ∧ ∃ c : Int, σ = [some (.ref p), some (.int m), none, some (.int a), some (.int c), none, none], ?_, ?_⟩
      · -- if at < len(pen['cells'])
        refine ⟨_, rfl, _, rfl, p, _, rfl, g_cells hp', l, _, rfl, .inl (SqL.of hl'), _, _, rfl, rfl, _, rfl, ?_⟩
        refine ite2 (fun h2 => ?_) (fun h2 => ?_)
        · rw [List.length_map] at h2
          have h3 : a < (cs.length : Int) := by simpa using h2
          obtain ⟨j, rfl⟩ : ∃ j : Nat, a = (j : Int) := ⟨a.toNat, by omega⟩
          refine ⟨_, rfl, p, _, rfl, g_cells hp', _, rfl, l, _, _, _, rfl, rfl, SqL.of hl', atI_nat (j := j) (v := V.int (cs[j]'(by omega))) (by rw [List.getElem?_map, List.getElem?_eq_getElem (show j < cs.length by omega)]; rfl), ?_⟩
          exact ⟨rfl, _, rfl⟩
        · exact ⟨rfl, 0, rfl⟩
      · rintro σ _ ⟨rfl, c, rfl⟩
        -- if abs(cell) >= 10 ** 18
        refine ⟨_, rfl, _, rfl, _, _, rfl, rfl, ⟨by decide, by decide, by decide⟩, _, _, rfl, rfl, _, rfl, ?_⟩
        refine ite2 (fun h2 => ?_) (fun h2 => ?_)
        · -- great
          have hg : 0 ≤ 2 * (if c < 0 then -c else c) + (if decide (c < 0) = true then (1 : Int) else 0) := by
            split <;> split <;> omega
          refine ⟨_, rfl, _, rfl, _, _, rfl, rfl, .inl ⟨by decide, by decide⟩, ?_⟩
          refine ⟨_, rfl, _, _, rfl, rfl, .inr ⟨_, rfl, ?_⟩⟩
          refine ⟨_, _, rfl, rfl, ?_⟩
          refine ⟨_, rfl, .inl ⟨_, rfl, ?_⟩⟩
          refine ⟨_, rfl, _, _, rfl, rfl, ⟨hm0, hm1⟩, _, rfl, p, _, rfl, p_rest hp', ?_⟩
          refine ⟨_, rfl, .inl ⟨_, rfl, ?_⟩⟩
          refine ⟨_, rfl, _, _, rfl, rfl, hm0, ?_⟩
          refine k _ _ (Int.emod_nonneg _ (by omega)) (Int.emod_lt_of_pos _ hm0) ⟨cs, a + 1, _, f, upd_same, by rw [upd_ne npl]; exact hl', by omega, by omega, Int.ediv_nonneg hg (by omega), hf0, hf1⟩ (fun c hc => by rw [upd_ne hc, upd_ne hc])
        · -- mixed
          refine ⟨_, rfl, .inl ⟨_, rfl, ?_⟩⟩
          refine ⟨_, _, rfl, rfl, (show (0 : Int) < 2147483563 by decide), ?_⟩
          refine ⟨_, rfl, p, _, rfl, g_fold hp', .inl ⟨_, rfl, ?_⟩⟩
          refine ⟨_, _, rfl, rfl, ?_⟩
          refine ⟨_, rfl, _, _, rfl, rfl, .inl ⟨by decide, by decide⟩, ?_⟩
          refine ⟨_, _, rfl, rfl, ?_⟩
          have e1 := Int.emod_nonneg c (show (2147483563 : Int) ≠ 0 by decide)
          have e2 := Int.emod_lt_of_pos c (show (0 : Int) < 2147483563 by decide)
          refine ⟨_, _, rfl, rfl, ⟨by decide, by decide, ?_⟩, ?_⟩
          · have : (c % 2147483563 + f + 70001 * a) < 2 ^ 63 := by omega
            omega
          refine .inl ⟨_, rfl, ?_⟩
          refine ⟨_, _, rfl, rfl, (show (0 : Int) < 2147483647 by decide), ?_⟩
          generalize hx : (c % 2147483563 + f + 70001 * a) ^ (3 : Int).toNat % 2147483647 = x
          have e3 : 0 ≤ x := by rw [← hx]; exact Int.emod_nonneg _ (by decide)
          have e4 : x < 2147483647 := by rw [← hx]; exact Int.emod_lt_of_pos _ (by decide)
          refine ⟨_, rfl, ?_⟩
          refine ⟨_, rfl, _, _, rfl, rfl, .inl ⟨by decide, by decide⟩, ?_⟩
          refine ⟨_, rfl, _, _, rfl, rfl, .inr ⟨by omega, by omega⟩, ?_⟩
          refine ⟨_, _, rfl, rfl, ?_⟩
          refine ⟨_, rfl, p, _, rfl, g_fold hp', .inl ⟨_, rfl, ?_⟩⟩
          refine ⟨_, _, rfl, rfl, ⟨by decide, by decide⟩, ?_⟩
          refine ⟨_, _, rfl, rfl, ?_⟩
          have e5 : 0 ≤ 30011 * a * a := Int.mul_nonneg (by omega) ha0
          have e6 : 30011 * a * a ≤ 30011 * 1000000 * 1000000 := Int.mul_le_mul (by omega) (by omega) ha0 (by decide)
          refine ⟨_, _, rfl, rfl, ⟨by decide, by decide, ?_⟩, ?_⟩
          · generalize 30011 * a * a = z at *
            omega
          refine .inl ⟨_, rfl, ?_⟩
          refine ⟨_, _, rfl, rfl, (show (0 : Int) < 2147483587 by decide), ?_⟩
          refine ⟨_, rfl, _, _, rfl, rfl, ⟨by decide, by decide⟩, .inl ⟨_, rfl, ?_⟩⟩
          refine ⟨_, rfl, _, _, rfl, rfl, hm0, ?_⟩
          refine k _ _ (Int.emod_nonneg _ (by omega)) (Int.emod_lt_of_pos _ hm0) ⟨cs, a + 1, r, f, upd_same, hl', by omega, by omega, hr0, hf0, hf1⟩ (fun c hc => upd_ne hc)

theorem ok_pen {f : Addr} {fd : FuncData} (F : Fun K "_law_pen" "_law_pen" s_Lpen f fd) (T : TxP mg) : FnOk P w K mg base CX0 2 f fd ["_law_script"] (spPen K) := by
  refine F.ok sc_Lpen (fun vs H Q E h => ?_) (fun cdv A outer s H vs Q E hr h => ?_)
  · obtain ⟨a, ns, rfl, _⟩ := h
    rfl
  · obtain ⟨a, ns, rfl, hS, hl, k⟩ := h
    refine ⟨_, (pss_cons (ps_set (i := 1) sc_Lpen.nd rfl (Or.inl rfl) pe_int)
  (pss_cons (ps_for PassesOwn.never rfl (pi_list (pe_slice sl_list (pv 0) po_none (po_some pe_int))) (pg_name (i := 2) sc_Lpen.nd rfl (Or.inl rfl))
    (pss_one (ps_set (i := 1) sc_Lpen.nd rfl (Or.inl rfl) (pe_op op_mod (pe_callTy call_int1 (by rfl) T.n_int (by decide +kernel) (pa_cons (pe_op op_add (pe_op op_add (pe_op op_mul (pv 1) pe_int) (pe_op op_mod (pe_callTy call_int1 (by rfl) T.n_int (by decide +kernel) (pa_cons (pv 2) pa_nil)) pe_int)) pe_int) pa_nil)) pe_int))))
  (pss_one (ps_ret (pe_disp (pps_cons pe_str (pe_callTy call_list_of (by rfl) T.n_list (by decide +kernel) (pa_cons (pe_slice sl_list (pv 0) po_none (po_some pe_int)) pa_nil)) (pps_cons pe_str pe_int (pps_cons pe_str pe_int (pps_cons pe_str (pv 1) pps_nil)))) rfl rfl (by decide) (by decide)))))), ?_⟩
    obtain ⟨ms, hms, hml⟩ := cut_map ns none (some 63)
    refine ⟨_, rfl, ?_⟩
    refine ⟨_, rfl, a, _, rfl, hS, fun q hq => ?_⟩
    rw [hms]
    have s1 : Same H (upd H q (.lst (ms.map V.int))) := smN (Same.refl H) hq
    refine ⟨q, rfl, ⟨_, SqL.of upd_same⟩, for_list (K := K) (a := q) (xs := ms.map V.int) (fun i σ H' => H' = upd H q (.lst (ms.map V.int)) ∧ ∃ (f : Int) (v : Option V), 0 ≤ f ∧ f < 2147483629 ∧ σ = [some (.ref a), some (.int f), v])
      ⟨rfl, 97, none, by decide, by decide, rfl⟩ (fun i σ H' _ ⟨e, _⟩ => by rw [e]; exact SqL.of upd_same) ?_ ?_⟩
    · rintro i y σ _ hi ⟨rfl, f, v, hf0, hf1, rfl⟩
      obtain ⟨z, hz, rfl⟩ : ∃ z, ms[i]? = some z ∧ V.int z = y := by
        rw [List.getElem?_map] at hi
        cases e : ms[i]? with
        | none => rw [e] at hi; cases hi
        | some z => rw [e] at hi; exact ⟨z, rfl, Option.some.inj hi⟩
      refine ⟨_, rfl, _, _, rfl, rfl, .inr ⟨by decide, by decide⟩, ?_⟩
      refine ⟨_, rfl, .inl ⟨_, rfl, ?_⟩⟩
      refine ⟨_, _, rfl, rfl, (show (0 : Int) < 2147483629 by decide), ?_⟩
      refine ⟨_, _, rfl, rfl, ?_⟩
      refine ⟨_, _, rfl, rfl, ?_⟩
      refine .inl ⟨_, rfl, ?_⟩
      refine ⟨_, _, rfl, rfl, (show (0 : Int) < 2147483629 by decide), ?_⟩
      exact ⟨rfl, _, _, Int.emod_nonneg _ (by decide), Int.emod_lt_of_pos _ (by decide), rfl⟩
    · rintro σ _ ⟨rfl, f, v, hf0, hf1, rfl⟩
      intro p hp
      have s2 : Same H (upd (upd H q (.lst (ms.map V.int))) p (.dK [])) := smN s1 hp
      refine ⟨_, rfl, ?_⟩
      refine ⟨_, rfl, a, _, rfl, s2.seq hS, fun q2 hq2 => ?_⟩
      rw [hms]
      refine ⟨q2, _, rfl, .inl (SqL.of upd_same), fun l hl => ?_⟩
      refine ⟨_, rfl, ?_⟩
      have nl : l ≠ p := by
        intro e; subst e
        have h : (upd (upd H q (.lst (ms.map V.int))) l (.dK [])) l = some (.dK []) := upd_same
        have h2 := smN (o := .lst (ms.map V.int)) (Same.refl _) hq2 _ _ h
        rw [h2] at hl; cases hl
      have np2 : p ≠ q2 := by
        intro e; subst e; rw [upd_same] at hq2; cases hq2
      refine ⟨by rw [upd_ne nl.symm, upd_ne np2]; exact upd_same, [(.inr "cells", .ref l), (.inr "at", .int 0), (.inr "rest", .int 0), (.inr "fold", .int f)], rfl, (by show 4 ≤ 15; decide), ?_⟩
      rw [merge_pen]
      refine k p l _ (Same.free s1 hp) ((smN s2 hq2).free hl) ?_ ⟨ms, 0, 0, f, upd_same, by rw [upd_ne nl]; exact upd_same, by decide, by decide, by decide, hf0, hf1⟩
      intro b o e
      have e2 := s2 b o e
      rw [upd_ne (ne_of_none (s1 b o e) hp)]
      rw [upd_ne (ne_of_none (smN (Same.refl _) hq2 b o e2) hl), upd_ne (ne_of_none e2 hq2)]
      exact e2
end
end Fb
set_option maxRecDepth 100000
set_option maxHeartbeats 4000000
namespace Fb
open PySem PySem.Spec PyProof.Rows L2
/-! own exceptions as values -/
/-- C(e, ..), C's own __init__ keeping sp: a new exception, held -/
def tExI (C : Addr) (sp : Sp) (dvs : List V) (ta : TA) : TE := fun σ H Q => ta σ H fun vs H1 => vs.length ≤ 1000 ∧ ∀ a, H1 a = none → sp (.ref a :: (vs ++ dvs)) (upd H1 a (exo a C none)) (fun v H2 => v = .non ∧ Q (.ref a) H2) (fun _ _ _ => False)
section
variable {X : Cx} {e : Expr} {es : List Expr} {ta : TA} {p pos : Pos}
theorem pe_exI {CX : CXT} {x : Str} {C fI : Addr} {k : Nat} {fd : FuncData} {ps : List Str} {sp : Sp} {ds : List Value} {dvs : List V} (T : OexC X.K C) (own : PySem.W.findIn X.K (.ref C) "__init__" = some (some (.ref fI))) (isf : PySem.W.typeIn X.K (.ref fI) = some (.type "function"))
    (G : FnOk X.prog X.w X.K X.mg X.base CX k fI fd ps sp) (room : Room (k + 1) X.A) (bnd : Binds X.K fd ps ds) (dfl : Vals dvs ds) (out : Passes CX X (fun _ _ _ => False)) (gl : Gl X x) (at_ : X.mg x = some (.ref C)) (ha : PA X (e :: es) ta)
    (h1 : (x == ("__debug__" : Str)) = false := by decide) (h2 : starEach (e :: es) X.env = (false, eval e X.env) :: starEach es X.env := by rfl) (h3 : (backTo pos (starEach es X.env)).any (·.1) = false := by rfl) :
    PE X (.Call (.Name x p) (e :: es) [] pos) (tExI C sp dvs ta) := by
  constructor
  intro pins s σ H Q I asked
  obtain ⟨_, _, _, _, bm, _, _, _, _, _, _, _, _, _, _, cls, refs⟩ := T.cls
  apply wpAny_Call_Name_kw
  refine ld_glob I gl at_ ?_ h1
  apply PySem.W.callWith_K (h₀ := X.base) I.ok.mod.kin T.kC ?_ h2 h3
  apply thn (ha.run pos pins s σ H _ I asked)
  rintro us ⟨hp, g, dr, tk, os⟩ ⟨vs, H1, I1, rel, few, next⟩
  refine ⟨I1.kIn, ?_⟩
  show wpAny _ _ (call (.ref C) us) _ _ _
  have above : hp.objs.size ≤ hp.objs.size + 1 := Nat.le_succ _
  have q := next (hp.objs.size + 1) (I1.hok.fresh above)
  have made : ((hp.push (PySem.W.kdv_tup us)).push (PySem.HandSPX.excO C hp.objs.size)).get? (hp.objs.size + 1) = some (PySem.HandSPX.excO C hp.objs.size) := by heap_get
  have I2 := I1.laid (t' := tk) (fun b o z => Heap.get?_push_of_some _ (Heap.get?_push_of_some (PySem.W.kdv_tup us) z)) above (exo_ok (H := upd H1 (hp.objs.size + 1) (exo (hp.objs.size + 1) C none)) (P := X.prog) (w := X.w) made)
  have rel2 : Vals (V.ref (hp.objs.size + 1) :: (vs ++ dvs)) (Value.ref (hp.objs.size + 1) :: (us ++ ds)) := .cons rfl (rel.append dfl)
  have len : (Value.ref (hp.objs.size + 1) :: us ++ ds).length = ps.length := rel2.length.symm.trans (G.len _ _ _ _ q)
  have small : us.length ≤ sizeLine := by
    rw [sizeLine_eq, ← Paired.length rel]
    omega
  apply wpAny_call
  refine PySem.HandSPX.call_own PySem.F.excBase_ValueError (fun Y => PySem.HandSPX.refsVE_contains Y bm refs) (I1.kIn _ _ cls) (PySem.W.looks_findIn I1.kIn own) (fun self => PySem.W.bind_fn I1.kIn self isf) small ?_
  refine codeAny_mono (G.run _ X.stack _ _ ⟨Value.ref (hp.objs.size + 1) :: us, []⟩ _ _ _ (fun _ _ _ => False) (room.make C us []) (I2.env0.make C us []) (bnd _ (Value.ref (hp.objs.size + 1) :: us) I2.kIn len) rel2 q) ?_
  intro r s' z
  cases r with
  | error er => exact out pins σ _ _ er s' I2 z
  | ok fl =>
    cases fl with
    | brk => exact (show False from z).elim
    | cont => exact (show False from z).elim
    | next => exact (show False from z).elim
    | ret u =>
      obtain ⟨v, H', I3, rv, rfl, q3⟩ := I2.after z
      exact ⟨rv, V.ref (hp.objs.size + 1), H', I3, rfl, q3⟩
end
/-- at a an exception of the class at C stands, with its own dict or without -/
def ExAt (H : Hp) (a C : Addr) : Prop := H a = some (ExO (.ref C) a) ∨ ∃ (d : Addr) (fs : List (Str × V)), H a = some (exo a C (some d)) ∧ H d = some (exd d fs)
/-- .. with a field -/
def ExFld (H : Hp) (a C : Addr) (fs : List (Str × V)) : Prop := ∃ d : Addr, H a = some (exo a C (some d)) ∧ H d = some (exd d fs)
theorem ExFld.at {H : Hp} {a C : Addr} {fs : List (Str × V)} (h : ExFld H a C fs) : ExAt H a C := by
  obtain ⟨d, h1, h2⟩ := h
  exact .inr ⟨d, fs, h1, h2⟩
theorem ExFld.same {H H' : Hp} {a C : Addr} {fs : List (Str × V)} (h : ExFld H a C fs) (s : Same H H') : ExFld H' a C fs := by
  obtain ⟨d, h1, h2⟩ := h
  exact ⟨d, s _ _ h1, s _ _ h2⟩
theorem ExAt.same {H H' : Hp} {a C : Addr} (h : ExAt H a C) (s : Same H H') : ExAt H' a C := by
  rcases h with h | ⟨d, fs, h1, h2⟩
  · exact .inl (s _ _ h)
  · exact .inr ⟨d, fs, s _ _ h1, s _ _ h2⟩
/-- what the written part says of an exception class, for isinstance and fields -/
structure XC (K : PySem.W.Frag) (C : Addr) : Prop where
  cl : (PySem.W.clsIn K C).isSome = true
  ga : PySem.W.findIn K (.ref C) "__getattribute__" = some (some (.builtin "BaseException.__getattribute__"))
  gg : PySem.W.findIn K (.ref C) "__getattr__" = some none
  sb : PySem.W.subIn K (.ref C) (.type "BaseException") = some true
  ca : PySem.W.findIn K (.ref C) "__class__" = some (some (.builtin "object.__class__"))
  ob : PySem.W.mroIn K C (.type "object") = some true
  hd : PySem.W.hasDictIn K C = true
structure XB (K : PySem.W.Frag) : Prop where
  hn : PySem.W.specialIn K (.builtin "object.__class__") "__get__" = some (some (.builtin "getset_descriptor.__get__"))
  ht : PySem.W.takesIn K (.builtin "object.__class__") = some true
section
variable {X : Cx} {pins : List (Addr × Obj)} {σ : L2.St} {H : Hp} {s : Shared}
theorem ExAt.inst {a C : Addr} (I : Inv X pins σ H s) (h : ExAt H a C) : ∃ ox od, PySem.W.InstAt s.heap a ox C od := by
  rcases h with h | ⟨d, fs, h1, h2⟩
  · obtain ⟨⟨oe, vs, ho, hz, hd, _⟩, _, _⟩ := I.hok a _ h
    refine ⟨oe, none, ho, hz.1, ?_, ?_⟩
    · unfold PySem.W.notCls; rw [hd] <;> rfl
    · rw [hz.2] <;> trivial
  · obtain ⟨t1, ho⟩ := exo_at I.hok h1
    obtain ⟨mA, ⟨o, es, ep, e1, _⟩, _⟩ := exd_at I.hok h2
    exact ⟨_, some o, ho, rfl, rfl, e1⟩
def rIsX (K : PySem.W.Frag) : List V → Hp → VK → Prop := fun xs H Q => ∃ (a C : Addr) (c : V) (cv : Value) (b : Bool), xs = [.ref a, c] ∧ XC K C ∧ XB K ∧ ExAt H a C ∧ ClsV c cv ∧ PySem.W.kitOne K (.ref C) cv = some b ∧ Q (.bl b) H
theorem call_isX : CallR X (.builtin "isinstance") (rIsX X.K) := by
  intro pins s σ H xs us Q I r h
  obtain ⟨a, C, c, cv, b, rfl, T, B, hE, k, e, q⟩ := h
  obtain ⟨u1, u2, rfl, r1, r2⟩ := vals2 r
  have e2 := k.eq r2
  subst e2
  cases (show u1 = Value.ref a from r1)
  obtain ⟨ox, od, J⟩ := hE.inst I
  exact PySem.W.kia_one (PySem.W.kitx_exc T.cl T.ga T.gg T.sb T.ca B.hn B.ht T.ob) I.kIn J e (fun z => nomatch z) fun tk => ⟨.bl b, H, I.tok tk, rfl, q⟩
/-- e.f of an exception that is held -/
def tXat (K : PySem.W.Frag) (f : Str) (te : TE) : TE := fun σ H Q => te σ H fun x H1 => ∃ (a C : Addr) (fs : List (Str × V)) (v : V), x = .ref a ∧ XC K C ∧ PySem.W.findIn K (.ref C) f = some none ∧ ExFld H1 a C fs ∧ fs.lookup f = some v ∧ Q v H1
theorem pe_xat {e : Expr} {te : TE} {f : Str} {pos : Pos} (he : PE X e te) (hb : attributeBase e f X.env (eval e X.env) = eval e X.env := by rfl) : PE X (.Attribute e f pos) (tXat X.K f te) := by
  refine ⟨fun pins s σ H Q I h => ?_⟩
  refine attr_of hb (thn (he.run pins s σ H _ I h) fun u s1 hh => ?_)
  obtain ⟨x, H1, I1, rx, a, C, fs, v, ex, T, hno, ⟨d, h1, h2⟩, hl, q⟩ := hh
  subst ex
  obtain rfl : u = Value.ref a := rx
  obtain ⟨t1, ho⟩ := exo_at I1.hok h1
  obtain ⟨mA, hns, hr⟩ := exd_at I1.hok h2
  obtain ⟨od, hod, hlk⟩ := lookIn_ns hns
  obtain ⟨u, hu, ru⟩ := RelO.some_of (v := v) (o := mA f) (by rw [← hl]; exact hr f)
  have J : PySem.W.InstAt s1.heap a { cls := .ref C, dict := some d, data := .fields #[.ref t1, .none, .none, .none, .bool false, .none] } C (some od) := ⟨ho, rfl, rfl, hod⟩
  exact HandSPX.exc_get I1.kIn J T.ga T.gg T.sb (PySem.W.findObj_own T.hd hno rfl (by rw [hlk, hu])) (handed_of ru) ⟨v, H1, I1.tok _, ru, q⟩
end
end Fb
set_option maxRecDepth 100000
set_option maxHeartbeats 4000000
namespace Fb
open PySem PySem.Spec PyProof.Rows L2
/-! defs whose promise is asked only where no repr is under way -/
/-- no repr is under way -/
abbrev Q0 (A : Around) : Prop := A.guards = some []
structure FnG (P : Program) (w : World) (K : PySem.W.Frag) (mg : Str → Option Value) (base : Heap) (CX : CXT) (k : Nat) (f : Addr) (fd : FuncData) (ps : List Str) (sp : Sp) : Prop where
  many : ∀ {vs H Q E}, sp vs H Q E → vs.length = ps.length
  go : ∀ {A : Around} {outer : List Env} {s : Shared} {H : Hp} {args : Args} {us : List Value} {vs : List V} {Q : VK} {E : XK}, Q0 A → Room k A → Env0 P w K mg base A outer s H →
    BindsTo s fd args (ps.zip us) → Vals vs us → sp vs H Q E → codeAny (model P w) A (.call (.ref f) args) (CR CX outer P w H s Q E) s
section
variable {P : Program} {w : World} {K : PySem.W.Frag} {mg : Str → Option Value} {base : Heap} {CX : CXT} {k : Nat} {f : Addr} {fd : FuncData} {ps : List Str} {sp : Sp}
theorem FnG.of (F : FnOk P w K mg base CX k f fd ps sp) : FnG P w K mg base CX k f fd ps sp :=
  ⟨fun h => F.len _ _ _ _ h, fun _ hr he hb hv h => F.run _ _ _ _ _ _ _ _ _ hr he hb hv h⟩
theorem q0_deeper {A : Around} {env : Env} (h : Q0 A) : Q0 (A.deeper env) := by
  first
    | exact h
    | (obtain ⟨hd, d, fr, gs, u⟩ := A; simp_all [Around.deeper, pushGuards])
end
/-- the rule for a def, its body told where no repr is under way -/
theorem Fun.okG {P : Program} {w : World} {K : PySem.W.Frag} {mg : Str → Option Value} {base : Heap} {CX : CXT} {x qual : Str} {st : Stmt} {f : Addr} {fd : FuncData} {N ps : List Str} {k : Nat} {sp : Sp} (F : Fun K x qual st f fd) (S : FnScope N ps (defScope st))
    (len : ∀ {vs H Q E}, sp vs H Q E → vs.length = ps.length)
    (body : ∀ {cdv : Value} {A : Around} {outer : List Env} {s : Shared} {H : Hp} {vs : List V} {Q : VK} {E : XK}, Q0 (A.deeper (envOfC qual (defScope st) s.heap.objs.size f cdv)) → Room k (A.deeper (envOfC qual (defScope st) s.heap.objs.size f cdv)) → sp vs H Q E →
      ∃ t, PSs (cxOf CX P w K mg base N qual (defScope st) f cdv A outer s H E) (defBody st) t ∧ t { nx := fun _ H' => Q .non H', rt := Q } (start N vs) H) : FnG P w K mg base CX (k + 1) f fd ps sp := by
  obtain ⟨oc, od, kV, doc, pm, an, cdv, ct, osl, rfl, lk, hcd⟩ := F.ex
  refine ⟨len, ?_⟩
  intro A outer s H args us vs Q E hg room env bnd rel asked
  have stays : ∀ b o, base.get? b = some o → s.heap.get? b = some o := fun b o z => (env.bs b o z).1
  have kin : K.In s.heap := env.mod.kin.keeps stays
  have kinds : ∀ y ∈ ps.zip us, (defScope st).names.lookup y.1 = some .local ∨ ((defScope st).names.lookup y.1 = some .cell ∧ ((cellsFrom (s.heap.objs.size + 1) (defScope st).names []).lookup y.1).isSome = true) := by
    rintro ⟨n, v⟩ hy
    rcases S.par n (List.of_mem_zip hy).1 with z | z
    · exact Or.inl z
    · exact Or.inr ⟨z, PySem.W.cellsFrom_some _ _ _ (Or.inl z)⟩
  refine codeAny_call_function room.depth (kin _ _ lk) rfl S.co S.gen rfl (PySem.W.codeRec_of kin hcd) (bnd _ _ _ _ (wpAny_newFunctionEnv_cells S.kind kinds ?_))
  rintro _ rfl s1 born
  refine ⟨(env.mod.nolimit.keeps stays).keeps born.toInCall.keep, codeAny_func ?_⟩
  obtain ⟨t, ht, asked2⟩ := body (outer := outer) (s := s) (q0_deeper hg) (room.deeper _) asked
  have I := inv_start (CX := CX) (E := E) S room.hd env (len asked) rel born
  refine wpAny_mono (ht.run [] s1 _ H _ I asked2) ?_ (fun _ _ z => z)
  intro fl s' z
  cases fl with
  | brk =>
    obtain ⟨_, _, _, q⟩ := z
    exact (show False from q).elim
  | cont =>
    obtain ⟨_, _, _, q⟩ := z
    exact (show False from q).elim
  | next =>
    obtain ⟨σ', H', J, q⟩ := z
    exact ⟨.non, H', J.os, J.bare, J.base, J.hok, rfl, q⟩
  | ret u =>
    obtain ⟨v, σ', H', J, rv, q⟩ := z
    exact ⟨v, H', J.os, J.bare, J.base, J.hok, rv, q⟩
/-- .. that lets no exception out -/
theorem Fun.okG0 {P : Program} {w : World} {K : PySem.W.Frag} {mg : Str → Option Value} {base : Heap} {x qual : Str} {st : Stmt} {f : Addr} {fd : FuncData} {N ps : List Str} {k : Nat} {sp : Sp} (F : Fun K x qual st f fd) (S : FnScope N ps (defScope st))
    (len : ∀ {vs H Q E}, sp vs H Q E → vs.length = ps.length)
    (body : ∀ {cdv : Value} {A : Around} {outer : List Env} {s : Shared} {H : Hp} {vs : List V} {Q : VK} {E : XK}, Q0 (A.deeper (envOfC qual (defScope st) s.heap.objs.size f cdv)) → Room k (A.deeper (envOfC qual (defScope st) s.heap.objs.size f cdv)) → sp vs H Q E →
      ∃ t, PSs (cxOf CX0 P w K mg base N qual (defScope st) f cdv A outer s H E).nox (defBody st) t ∧ t { nx := fun _ H' => Q .non H', rt := Q } (start N vs) H) : FnG P w K mg base CX0 (k + 1) f fd ps sp :=
  Fun.okG F S len fun hg hr h => by
    obtain ⟨t, a, b⟩ := body hg hr h
    exact ⟨t, a.nox, b⟩
section
variable {X : Cx} {CX : CXT} {k : Nat} {f : Addr} {fd : FuncData} {ps : List Str} {sp : Sp} {dvs : List V} {ds : List Value} {E : XK} {x : Str} {p pos : Pos} {e : Expr} {es : List Expr} {t : TA}
/-- f(e, ..), no repr under way -/
theorem pe_callG (hq : Q0 X.A) (F : FnG X.prog X.w X.K X.mg X.base CX k f fd ps sp) (hr : Room k X.A) (hg : Gl X x) (hm : X.mg x = some (.ref f)) (hk : PySem.W.keepIn X.K (.ref f) = true) (hb : Binds X.K fd ps ds) (hd : Vals dvs ds) (hx : Passes CX X E)
    (ha : PA X (e :: es) t) (hdb : (x == ("__debug__" : Str)) = false := by decide) (he : starEach (e :: es) X.env = (false, eval e X.env) :: starEach es X.env := by rfl) (hpl : (backTo pos (starEach es X.env)).any (·.1) = false := by rfl) :
    PE X (.Call (.Name x p) (e :: es) [] pos) (tCall sp dvs E t) := by
  constructor
  intro pins s σ H Q I h
  apply wpAny_Call_Name_kw
  refine ld_glob I hg hm ?_ hdb
  apply PySem.W.callWith_K (h₀ := X.base) I.ok.mod.kin hk ?_ he hpl
  apply thn (ha.run pos pins s σ H _ I h)
  rintro us s1 ⟨vs, H1, I1, rel, asked⟩
  have rel2 : Vals (vs ++ dvs) (us ++ ds) := rel.append hd
  have hl : (us ++ ds).length = ps.length := rel2.length.symm.trans (F.many asked)
  refine ⟨I1.kIn, wpAny_call (codeAny_mono (F.go hq hr I1.env0 (hb s1 us I1.kIn hl) rel2 asked) ?_)⟩
  intro r s' z
  cases r with
  | error er => exact hx pins σ _ _ er s' I1 z
  | ok fl =>
    cases fl with
    | ret u => exact I1.after z
    | brk => exact (show False from z).elim
    | cont => exact (show False from z).elim
    | next => exact (show False from z).elim
end
/-! the law's own call -/
section
variable {P : Program} {w : World} {K : PySem.W.Frag} {mg mb : Str → Option Value} {CX : CXT} {k : Nat} {fa a : Addr} {fd : FuncData} {x : Str} {sp : Sp} {s₁ : Shared} {vs : List Value} {ns : List Int}
/-- what the law's def is asked from outside, H telling of nothing but the script -/
theorem law_core (kin : K.In s₁.heap) (hns : s₁.heap.Ns mainGlobals mg) (hb : s₁.heap.Ns builtinsNs mb) (hbb : ∀ x : Str, x ≠ "__name__" → mb x = bootBuiltins x) (hlim : s₁.heap.NoLimit) (hg : s₁.gens = #[])
    (ha : s₁.heap.get? a = some { cls := .type "list", data := .seq vs.toArray }) (room : Room k callerA)
    (F : ∀ base : Heap, K.In base → base.Ns mainGlobals mg → FnG P w K mg base CX k fa fd [x] sp) (bnd : ∀ (s : Shared) (u : Value), BindsTo s fd ⟨[u], []⟩ [(x, u)])
    (hCX : ∀ H e s', CX [] H s₁ (fun _ _ _ => False) e s' → False) {H : Hp} (only : Only H) (asked : sp [.ref a] H (fun v _ => v = .bl true) fun _ _ _ => False) (hok : HOk P w H s₁.heap)
    (hA : ∀ {b u}, H b = some u → b = a) (hK : ∀ {u}, H a = some u → K.lookup a = none) :
    codeAny (model P w) callerA (.call (.ref fa) ⟨[.ref a], []⟩) (fun r s' => r = .ok (.ret (.bool true)) ∧ OldK s₁.heap s'.heap ∧ s'.os = s₁.os ∧ AllBare s'.gens) s₁ := by
  have seen : ∀ {b : Addr} {o : Obj}, s₁.heap.get? b = some o → (∀ u, H b = some u → False) → (hidT s₁.heap H).get? b = some o := fun {b o} z n =>
    hidT_get z (by cases q : H b with | none => rfl | some u => exact (n u q).elim)
  have seenNs : ∀ {b : Addr} {m : Str → Option Value}, s₁.heap.Ns b m → (hidT s₁.heap H).Ns b m := by
    rintro b m ⟨o, es, ep, z, d, r⟩
    refine ⟨o, es, ep, seen z fun u q => ?_, d, r⟩
    have e := hA q
    subst e
    rw [ha] at z
    cases z
    exact nomatch d
  have kin2 : K.In (hidT s₁.heap H) := fun b o z => seen (kin b o z) fun u q => by
    have e := hA q
    subst e
    rw [hK q] at z
    cases z
  obtain ⟨mc, l1, l2⟩ := hlim
  have e0 : Env0 P w K mg (hidT s₁.heap H) callerA [] s₁ H := ⟨rfl, ⟨kin2, seenNs hns, ⟨mb, seenNs hb, hbb⟩, ⟨mc, seenNs l1, l2⟩⟩, fun b o z => of_hidT z, Nat.le_of_eq (hidT_size _ _), trivial, (fun b z => nomatch z), hok, .of_eq hg⟩
  refine codeAny_mono ((F _ kin2 (seenNs hns)).go (show Q0 callerA from rfl) room e0 (us := [.ref a]) (vs := [.ref a]) (bnd s₁ (.ref a)) (.cons rfl .nil) asked) ?_
  intro r s' z
  cases r with
  | error e => exact (hCX H e s' z).elim
  | ok fl =>
    cases fl with
    | brk => exact (show False from z).elim
    | cont => exact (show False from z).elim
    | next => exact (show False from z).elim
    | ret u =>
      obtain ⟨v, H', os, bare, un, hok', rv, rfl⟩ := z
      cases (show u = Value.bool true from rv)
      refine ⟨rfl, OldK.of_keep fun b o z => ?_, os, bare⟩
      rcases only b with n | ⟨ob, xs, n⟩
      · exact un.keep b o z n (fun q => nomatch q) (fun q => nomatch q)
      · obtain ⟨z1, _⟩ := hok b _ n
        obtain ⟨z2, _⟩ := hok' b _ (un.frzs b ob _ n)
        rw [z2, ← z1, z]
theorem law_callG (kin : K.In s₁.heap) (hns : s₁.heap.Ns mainGlobals mg) (hb : s₁.heap.Ns builtinsNs mb) (hbb : ∀ x : Str, x ≠ "__name__" → mb x = bootBuiltins x) (hlim : s₁.heap.NoLimit) (hg : s₁.gens = #[])
    (ha : s₁.heap.get? a = some { cls := .type "list", data := .seq vs.toArray }) (hi : IntsAre vs ns) (hl : ns.length ≤ sizeLine) (room : Room k callerA)
    (F : ∀ base : Heap, K.In base → base.Ns mainGlobals mg → FnG P w K mg base CX k fa fd [x] sp) (bnd : ∀ (s : Shared) (u : Value), BindsTo s fd ⟨[u], []⟩ [(x, u)])
    (hsp : ∀ H : Hp, Only H → SqL K H a (ns.map V.int) → sp [.ref a] H (fun v _ => v = .bl true) fun _ _ _ => False)
    (hCX : ∀ H e s', CX [] H s₁ (fun _ _ _ => False) e s' → False) :
    codeAny (model P w) callerA (.call (.ref fa) ⟨[.ref a], []⟩) (fun r s' => r = .ok (.ret (.bool true)) ∧ OldK s₁.heap s'.heap ∧ s'.os = s₁.os ∧ AllBare s'.gens) s₁ := by
  have rel : Vals (ns.map V.int) vs := vals_ints hi
  cases hk : K.lookup a with
  | some o =>
    have z := kin a o hk
    rw [ha] at z
    cases z
    have only : Only (fun _ => none) := fun _ => Or.inl rfl
    refine law_core kin hns hb hbb hlim hg ha room F bnd hCX only (hsp _ only (Or.inr ⟨_, vs.toArray, _, hk, rfl, rfl, rfl, ?_, ?_⟩)) ?_ ?_ ?_
    · rw [List.size_toArray, hi.length]
      exact hl
    · simpa using rel
    · exact fun b u z => nomatch z
    · exact fun z => nomatch z
    · exact fun z => nomatch z
  | none =>
    let H0 : Hp := fun b => if b = a then some (.frz { cls := .type "list", data := .seq vs.toArray } (.lst (ns.map V.int))) else none
    have at0 : H0 a = some (.frz { cls := .type "list", data := .seq vs.toArray } (.lst (ns.map V.int))) := if_pos rfl
    have off : ∀ {b u}, H0 b = some u → b = a := fun {b u} z => by
      by_cases e : b = a
      · exact e
      · have z2 : H0 b = none := if_neg e
        rw [z2] at z
        cases z
    have only : Only H0 := fun b => by
      by_cases e : b = a
      · rw [e]
        exact Or.inr ⟨_, _, at0⟩
      · exact Or.inl (if_neg e)
    refine law_core kin hns hb hbb hlim hg ha room F bnd hCX only (hsp _ only (Or.inl (Or.inr ⟨_, at0⟩))) (fun b u z => ?_) off (fun _ => hk)
    have e := off z
    subst e
    rw [at0] at z
    cases z
    exact ⟨ha, by rw [List.length_map]; exact hl, vs, _, rel, ha⟩
end
/-- the goal that k_head leaves, from the law's promise over FnG -/
theorem walk_ofG {l : PySem.W.OpenLaw} {n k : Nat} {q : Program} {loose : List Str} {XP : (Str → Option Value) → Heap → Prop} {YP : World → Heap → Prop} {d : DefRec} {K : Params → PySem.W.Frag} {CX : World → CXT} {sp : World → Sp} {x : Str}
    (hn : l.most = some n) (hn2 : n ≤ sizeLine) (hdf : d.params.defaults = []) (hr : Room k callerA) (hY : ∀ (w : World) (h : Heap), YP w h → (K w.params).In h)
    (F : ∀ (w : World) (mg : Str → Option Value) (fa : Addr) (h : Heap), (K w.params).In h → h.Ns mainGlobals mg → mg d.name = some (.ref fa) →
      ∃ fd : FuncData, (∀ (s : Shared) (u : Value), BindsTo s fd ⟨[u], []⟩ [(x, u)]) ∧ ∀ base : Heap, (K w.params).In base → base.Ns mainGlobals mg → FnG l.prog w (K w.params) mg base (CX w) k fa fd [x] (sp w))
    (hsp : ∀ (w : World) (H : Hp) (a : Addr) (ns : List Int), ns.length ≤ n → Only H → SqL (K w.params) H a (ns.map V.int) → sp w [.ref a] H (fun v _ => v = .bl true) fun _ _ _ => False)
    (hCX : ∀ (w : World) (H : Hp) (s : Shared) (e : Value) (s' : Shared), CX w [] H s (fun _ _ _ => False) e s' → False) : PySem.W.WalkO q loose XP YP l.row.toRowW d [] (fun f vs => PySem.call f vs) := by
  apply Att.attach_call hn hdf
  intro w s₀ s₁ mg mb fa o pm cd doc a vs ns G Y _ _ _ hmg hobj hints hlen hg
  obtain ⟨fd, bnd, hF⟩ := F w mg fa _ (hY w _ Y) G.T.g hmg
  exact law_callG (hY w _ Y) G.T.g G.T.b G.T.builtins G.T.nolimit hg hobj hints (Nat.le_trans hlen hn2) hr hF bnd (fun H only hS => hsp w H a ns hlen only hS) (fun H e s' => hCX w H s₁ e s')
/-! repr of data; how often a truth value stands in a list -/
section
variable {X : Cx}
def rRepr (K : PySem.W.Frag) : List V → Hp → VK → Prop := fun xs H Q => ∃ (x : V) (d : PyData), xs = [x] ∧ Dp K H x d ∧ d.showable = true ∧ d.hasDict = false ∧ d.depth ≤ 60 ∧ d.shown.length ≤ sizeLine ∧ Q (.str d.shown) H
theorem call_repr (hq : Q0 X.A) (hu : X.A.units + 64 < cLine) : CallR X (.builtin "repr") (rRepr X.K) := by
  intro pins s σ H xs us Q I r h
  obtain ⟨x, d, rfl, hd, hs, hnd, hdep, hsz, q⟩ := h
  obtain ⟨u, rfl, ru⟩ := vals1 r
  have done : ∀ (h' : Heap) (t tk : Tok), (∀ b o, s.heap.get? b = some o → h'.get? b = some o) → EP X pins σ Q (.str d.shown t) { s with heap := h', toks := tk } :=
    fun h' t tk k => ⟨.str d.shown, H, I.kept k, ⟨t, rfl⟩, q⟩
  cases hd with
  | non =>
    cases (show u = Value.none from ru)
    exact PySem.P.repr_of_none (done s.heap _ _ fun _ _ z => z)
  | bl b =>
    cases (show u = Value.bool b from ru)
    have e : PyData.shown (.bool b) = (if b then "True" else "False" : Str) := by simp only [PyData.shown]
    rw [e] at done
    exact PySem.P.repr_of_bool (by cases b <;> exact done s.heap _ _ fun _ _ z => z)
  | int i =>
    obtain ⟨t, rfl⟩ := (show ∃ t, u = Value.int i t from ru)
    have e : PyData.shown (.int i) = toString i := by simp only [PyData.shown]
    rw [e] at done
    exact PySem.P.repr_of_int (by simpa [PyData.showable] using hs) (done s.heap _ _ fun _ _ z => z)
  | str y =>
    obtain ⟨t, rfl⟩ := (show ∃ t, u = Value.str y t from ru)
    have e : PyData.shown (.str y) = reprText y := by simp only [PyData.shown]
    rw [e] at done hsz
    exact PySem.P.repr_of_str (done s.heap _ _ fun _ _ z => z) hsz
  | @lst a ys ds h1 h2 =>
    obtain ⟨as, rd⟩ := Dp.reads I (.list ds) _ u (.lst h1 h2) ru
    cases (show u = Value.ref a from ru)
    exact PySem.repr_of_reads' rd hs (PyData.noDict_hsm hnd) hq (by omega) (fun _ _ z => z) (fun h' t tk k => done h' t tk k) hsz
  | @tup a ys ds h1 h2 =>
    obtain ⟨as, rd⟩ := Dp.reads I (.tuple ds) _ u (.tup h1 h2) ru
    cases (show u = Value.ref a from ru)
    exact PySem.repr_of_reads' rd hs (PyData.noDict_hsm hnd) hq (by omega) (fun _ _ z => z) (fun h' t tk k => done h' t tk k) hsz
theorem dp_bools {K : PySem.W.Frag} {H : Hp} : ∀ bs : List Bool, DpAll K H (bs.map V.bl) (bs.map PyData.bool)
  | [] => .nil
  | b :: bs => .cons (.bl b) (dp_bools bs)
theorem countIn_bools (k : Bool) : ∀ bs : List Bool, countIn (.bool k) (bs.map PyData.bool) = ((bs.count k : Nat) : Int)
  | [] => by simp [countIn]
  | b :: bs => by
    rw [List.map_cons, countIn, countIn_bools k bs, List.count_cons]
    simp only [same]
    cases b <;> cases k <;> simp <;> omega
def rCntB (K : PySem.W.Frag) : V → List V → Hp → VK → Prop := fun x xs H Q => ∃ (p : Addr) (bs : List Bool) (k : Bool), x = .ref p ∧ xs = [.bl k] ∧ SqL K H p (bs.map V.bl) ∧ Q (.int (bs.count k : Nat)) H
theorem mt_lcountB : MtR X "list.count" (rCntB X.K) := by
  intro pins s σ H x xs v us Q I rx rxs h
  obtain ⟨p, bs, k, rfl, rfl, hs, q⟩ := h
  cases rx
  obtain ⟨u, rfl, ru⟩ := rxs.one
  cases (show u = Value.bool k from ru)
  obtain ⟨its, rv, ⟨ob, n, ho, hc, _, hdat⟩, _⟩ := I.list hs
  obtain ⟨as, rd⟩ := Dp.readsAll I _ _ its (dp_bools bs) rv
  have all : (bs.map PyData.bool).all Shape.bool.has = true := by
    rw [List.all_eq_true]
    intro d hd
    obtain ⟨b, _, rfl⟩ := List.mem_map.mp hd
    rfl
  refine count_list_bools (vs := its) ⟨ob, ho, hc, n, hdat⟩ rd all ?_
  rw [countIn_bools]
  exact ⟨.int (bs.count k : Nat), H, I.tok _, ⟨_, rfl⟩, q⟩
end
end Fb
set_option maxRecDepth 100000
set_option maxHeartbeats 4000000
namespace Fb
open PySem PySem.Spec PyProof.Rows L2
/-! an exception that was caught and is kept: try: .. except X as e: y = e -/
/-- at a: an exception of the class cls, its own dict at d -/
def ExR (cls : Value) (d : Option Addr) (a : Addr) : HO := .ext fun h => ∃ (oe : Obj) (vs : Array Value), h.get? a = some oe ∧ oe.cls = cls ∧ oe.dict = d ∧ oe.data = .fields vs
section
variable {X : Cx} {pins : List (Addr × Obj)} {σ : L2.St} {H : Hp} {s : Shared}
/-- an object of ours that nothing tells of is taken up -/
theorem adopt {a : Addr} {oe : Obj} {vs : Array Value} {cls : Value} {d : Option Addr} (I : Inv X ((a, oe) :: pins) σ H s) (new : ∀ o, X.s_0.heap.get? a = some o → False) (np : ∀ p ∈ X.pn ++ pins, p.1 ≠ a) (z : Zc cls d oe) (dat : oe.data = .fields vs) : Inv X pins σ (upd H a (ExR cls d a)) s := by
  obtain ⟨he, hn, hL, hF, _⟩ := I.pin (a, oe) (List.mem_append_right _ List.mem_cons_self)
  have old : ∀ {b : Addr} {o : HO}, H b = some o → upd H a (ExR cls d a) b = some o := fun {b o} q => (upd_ne (ne_of_none q hn)).trans q
  have off : ∀ {b : Addr}, b ≠ a → H b = none → upd H a (ExR cls d a) b = none := fun q n => (upd_ne q).trans n
  have nc : ∀ {x : Str} {c : Addr}, X.env.cells.lookup x = some c → c ≠ a := by
    intro x c e q
    obtain ⟨v, o, ho, hd⟩ := I.cell x c e
    subst q
    have he' : s.heap.get? c = some oe := he
    rw [ho] at he'
    cases he'
    rw [dat] at hd
    cases hd
  have n0 : ∀ {b : Addr} {o : Obj}, X.s_0.heap.get? b = some o → b ≠ a := fun {b o} q e => new o (by rw [← e]; exact q)
  constructor
  · exact I.ok
  · exact I.os
  · exact I.bare
  · constructor
    · exact I.base.keep
    · exact I.base.slot
    · exact fun b o q n x => off (n0 q) (I.base.free b o q n x)
    · exact I.base.there
    · exact fun b xs q => old (I.base.tups b xs q)
    · exact fun b o u q => old (I.base.frzs b o u q)
    · intro b ps q
      obtain ⟨more, e⟩ := I.base.tbls b ps q
      exact ⟨more, old e⟩
  · exact I.loc
  · exact I.cell
  · exact off (Ne.symm hL) I.free
  · exact fun x c e => off (nc e) (I.freeC x c e)
  · intro p hp
    have hp' : p ∈ X.pn ++ (a, oe) :: pins := by
      rcases List.mem_append.mp hp with h | h
      · exact List.mem_append_left _ h
      · exact List.mem_append_right _ (List.mem_cons_of_mem _ h)
    obtain ⟨h1, h2, h3, h4, h5⟩ := I.pin p hp'
    exact ⟨h1, off (np p hp) h2, h3, h4, h5⟩
  · intro b o q
    by_cases e : b = a
    · subst e
      rw [upd_same] at q
      cases q
      exact ⟨⟨oe, vs, he, z.1, z.2, dat⟩, ⟨oe, he⟩, fun h1 h2 ⟨o', v', q, r⟩ k => ⟨o', v', k _ q, r⟩⟩
    · rw [upd_ne e] at q
      exact (I.hok b o q).stay (fun c u _ r => r) (fun c r => old r) (fun c xs r => old r)
  · exact I.len
end
/-- what the clause does: y holds the exception, its own name goes -/
def wHold (K : PySem.W.Frag) (c : Value) (i j : Nat) (Wout : WX) (D : Ends) : WX := fun cls d σ H =>
  ∃ b, PySem.W.exmOne K cls c = some b ∧ (b = true → ∀ a, H a = none → D.nx (((σ.set i (some (.ref a))).set j (some (.ref a))).set i none) (upd H a (ExR cls d a))) ∧ (b = false → Wout cls d σ H)
section
variable {X : Cx} {x n y : Str} {c : Value} {i j : Nat} {body : List Stmt} {np pos pos' p1 p2 p3 : Pos} {tb : WX → TS} {Wout : WX}
theorem ps_try_hold (hs : X.stack = X.env :: X.outer) (hf : X.env.frame = some X.env.locals) (hex : X.ex = []) (hN : X.N.Nodup) (hi : X.N[i]? = some n) (hj : X.N[j]? = some y) (hln : X.env.kindOf n = some .local) (hly : X.env.scope.names.lookup y = some .local) (hc : Names X x c) (tk : Takes X Wout)
    (hdn : (n == ("__debug__" : Str)) = false) (hcn : (n == ("__classdict__" : Str)) = false)
    (hb : ∀ (W : WX) (pn : List (Addr × Obj)) (xe : Value → Shared → Prop), Takes (X.tr pn xe) W → PassesOwn (model X.prog X.w) X.A X.env xe → PSs (X.tr pn xe) body (tb W)) :
    PS X (.Try body [.ExceptHandler (some (.Name x np)) (some n) [.Assign [.Name y p1] (.Name n p2) p3] pos'] [] [] pos) (fun D σ H => tb (wHold X.K c i j Wout D) D σ H) := by
  constructor
  intro pins s σ H D I asked
  have ok := I.ok
  have frames : X.A.frames = some (X.env :: X.outer) := by rw [ok.frames, hs]
  apply wpAny_Try_except
  let clauses : List ExceptHandler := [.ExceptHandler (some (.Name x np)) (some n) [.Assign [.Name y p1] (.Name n p2) p3] pos']
  let behind : Value → Shared → Prop := fun e s₁ => wpAny (model X.prog X.w) X.A (noteFrame e X.env) (fun _ s₂ => wpAny (model X.prog X.w) X.A (setFlight e none) (fun _ s₃ => wpAny (model X.prog X.w) X.A (handleBy e X.env clauses) (SP X pins D) X.xe s₃) X.xe s₂) X.xe s₁
  have caught : Takes (X.tr (X.pn ++ pins) behind) (wHold X.K c i j Wout D) := by
    rintro u s' ⟨a, B, sI, pins', σ', H', cls, d, rfl, J', ground, up, sky, na, os, ag, b, eb, yes, no⟩
    have J : Inv X pins σ' H' sI := J'.ofTry ok
    have Ba : B.get? a = none := by
      rcases sky with h | h | h
      · exact h.2.1
      · exact h.2.1
      · exact h.2.1
    have sky' : Sky B (X.env :: X.outer) a (Zc cls d) X.env.locals s'.heap := by rw [← hs]; exact sky
    show wpAny (model X.prog X.w) X.A (noteFrame (.ref a) X.env) _ _ _
    refine Sky.land Zc.steady frames hf sky' fun h3 fl3 up3 => ?_
    have J3 : Inv X pins σ' H' { s' with heap := h3 } := J.landed ground fl3.1 (up.trans up3) os ag
    obtain ⟨oe3, vs3, he3, hz3, hd3⟩ := fl3.there
    have nofr : a ∉ frs (X.env :: X.outer) := by
      intro hm
      obtain ⟨_, o', e', hnf⟩ := fl3.2.2.1.mem hm
      rw [he3] at e'
      cases e'
      exact hnf _ hd3
    have nL : a ≠ X.env.locals := fun q => nofr (List.mem_filterMap.mpr ⟨X.env, List.mem_cons_self, by rw [hf, q]⟩)
    have nF : a ∉ X.fs := by
      intro hm
      obtain ⟨e, he, q⟩ := List.mem_filterMap.mp hm
      exact nofr (List.mem_filterMap.mpr ⟨e, List.mem_cons_of_mem _ he, q⟩)
    have inI : ∀ {o : Obj}, sI.heap.get? a = some o → False := fun {o} q => by
      have z := ground a o q (by rw [hs]; exact nofr)
      rw [Ba] at z
      cases z
    have new : ∀ o, X.s_0.heap.get? a = some o → False := fun o q => by
      obtain ⟨o', q'⟩ := J.base.there a o q (by rw [hex]; exact fun z => nomatch z)
      exact inI q'
    have others : ∀ p ∈ X.pn ++ pins, p.1 ≠ a := fun p hp q => by
      have z := (J.pin p hp).1
      rw [q] at z
      exact inI z
    have S3 := J3.suite he3 hd3 na nL nF
    refine wpAny_handleBy_cons (codeAny_handlers_test ?_) (fun q => by cases q)
    have LT1 : PySem.W.Looks (model X.prog X.w) h3 (typeOf (.ref a)) cls := fun A Q E s k q => wpAny_typeOf_ref (k _ _ he3) (by rw [hz3.1]; exact q)
    have LT2 := PySem.W.exm_one (M := model X.prog X.w) J3.kIn LT1 eb
    have name : ∀ {Q : Value → Shared → Prop} {E : Value → Shared → Prop}, Q c { s' with heap := h3 } → wpAny (model X.prog X.w) (X.A.mark (some (.ref a))) (eval (.Name x np) X.env) Q E { s' with heap := h3 } := by
      intro Q E q
      obtain ⟨g1, g2, g3 | ⟨g3, g4, g5⟩⟩ := hc
      · exact ld_glob (X := X.suite a ((a, oe3) :: (X.pn ++ pins))) S3 g1 g3 q g2
      · exact ld_blt (X := X.suite a ((a, oe3) :: (X.pn ++ pins))) S3 g1 g3 g4 q g5 g2
    refine name (LT2.here ?_)
    cases b with
    | true =>
      refine codeAny_handlers_suite_as (HandSPX.lands_againZ fl3 fun h4 fl4 up4 => ?_)
      have J4 : Inv X pins σ' H' { s' with heap := h4 } := J.landed ground fl4.1 ((up.trans up3).trans up4) os ag
      obtain ⟨oe4, vs4, he4, hz4, hd4⟩ := fl4.there
      have S4 := J4.suite he4 hd4 na nL nF
      refine store_ok (X := X.suite a ((a, oe4) :: (X.pn ++ pins))) (v := .ref a) S4 hN hi (Or.inl hln) rfl (fun s5 S5 => ?_) (Or.inr hln)
      have rd : PE (X.suite a ((a, oe4) :: (X.pn ++ pins))) (.Name n p2) (tVar i) := pe_var hi (Or.inl hln) hdn hcn
      have st : PSs (X.suite a ((a, oe4) :: (X.pn ++ pins))) [.Assign [.Name y p1] (.Name n p2) p3] (tAsg (tVar i) (gName j)) := pss_one (ps_set hN hj (Or.inl hly) rd (by rfl) (Or.inr hly))
      have li : i < σ'.length := by
        rw [J.len]
        exact (List.getElem?_eq_some_iff.mp hi).1
      refine wpAny_mono (st.run [] s5 _ H' { nx := fun σ6 H6 => σ6 = (σ'.set i (some (.ref a))).set j (some (.ref a)) ∧ H6 = H', rt := fun _ _ => False, bk := fun _ _ => False, ct := fun _ _ => False } S5 ⟨_, List.getElem?_set_self li, rfl, rfl⟩) ?_ (fun _ _ z => (show False from z).elim)
      intro f s6 z
      have J6 : ∀ {σ6 : L2.St} {H6 : Hp}, Inv (X.suite a ((a, oe4) :: (X.pn ++ pins))) [] σ6 H6 s6 → Inv X ((a, oe4) :: pins) σ6 H6 s6 := fun {σ6 H6} I6 =>
        ⟨ok, I6.os, I6.bare, I6.base, I6.loc, I6.cell, I6.free, I6.freeC, fun p hp => I6.pin p (by
          rw [List.append_nil]
          rcases List.mem_append.mp hp with h | h
          · exact List.mem_cons_of_mem _ (List.mem_append_left _ h)
          · rcases List.mem_cons.mp h with h | h
            · rw [h]; exact List.mem_cons_self
            · exact List.mem_cons_of_mem _ (List.mem_append_right _ h)), I6.hok, I6.len⟩
      cases f with
      | next =>
        obtain ⟨σ6, H6, S6, rfl, rfl⟩ := z
        refine gone_ok (J6 S6) hN hi hln fun s7 J7 => ?_
        exact ⟨_, _, adopt J7 new others hz4 hd4, yes rfl a na⟩
      | brk =>
        obtain ⟨_, _, _, q⟩ := z
        exact (show False from q).elim
      | cont =>
        obtain ⟨_, _, _, q⟩ := z
        exact (show False from q).elim
      | ret u =>
        obtain ⟨_, _, _, _, _, q⟩ := z
        exact (show False from q).elim
    | false =>
      show wpAny _ X.A (handleBy (.ref a) X.env []) _ _ _
      apply wpAny_handleBy_nil
      obtain ⟨_, _, _, oe, vs, T, oT, ts', he, hz, hd, h1, hr⟩ := id fl3
      have up_ : wpAny (model X.prog X.w) X.A (setFlight (.ref a) X.env.frame) (fun _ s4 => wpAny (model X.prog X.w) X.A (throw (.ref a) : Sem Flow) (SP X pins D) X.xe s4) X.xe { s' with heap := h3 } := by
        rw [hf]
        refine HandSPX.setFlight_upZ fl3 fun h4 hh4 up4 => wpAny_throw (tk _ _ ?_)
        exact ⟨a, B, sI, pins, σ', H', cls, d, rfl, J, ground, (up.trans up3).trans up4, Or.inr (Or.inr (by rw [hs]; exact hh4)), na, os, ag, no rfl⟩
      unfold PySem.passOn
      refine wpAny_bind (wpAny_field he hd h1 ?_)
      rw [if_neg (show ¬ ((Value.ref T == Value.none) = true) from by simp)]
      first
        | exact wpAny_bind (wpAny_pure (wpAny_bind up_))
        | exact wpAny_bind up_
  refine wpAny_mono ((hb _ _ behind caught PassesOwn.looking).run [] s σ H D (I.toTry _) asked) ?_ (fun e s1 he => he)
  intro f s1 z
  cases f with
  | next =>
    obtain ⟨σ', H', J', q⟩ := z
    exact wpAny_execs_nil ⟨σ', H', J'.ofTry ok, q⟩
  | brk =>
    obtain ⟨σ', H', J', q⟩ := z
    exact ⟨σ', H', J'.ofTry ok, q⟩
  | cont =>
    obtain ⟨σ', H', J', q⟩ := z
    exact ⟨σ', H', J'.ofTry ok, q⟩
  | ret u =>
    obtain ⟨v, σ', H', J', r, q⟩ := z
    exact ⟨v, σ', H', J'.ofTry ok, r, q⟩
end
end Fb
set_option maxRecDepth 100000
set_option maxHeartbeats 4000000
namespace Fb
open PySem PySem.Spec PyProof.Rows L2
/-! walks that yield new tuples of what is known beforehand: enumerate(text), zip(text, text), zip of three -/
def ItT (vals : Nat → List V) (n : Nat) : It := ⟨fun i _ => i < n, fun i H v H' => ∃ T, v = .ref T ∧ H T = none ∧ H' = upd H T (.tup (vals i)), fun i _ => i = n⟩
theorem turn_T {P : Program} {w : World} {K : PySem.W.Frag} {elts : List Expr} {kk : Nat} {tpos : Pos} {it : Addr} {fp wr : List Addr} {n : Nat} {Pt : Nat → Array Value → Prop} {St : Nat → Heap → Prop} {Mid : Nat → Addr → Heap → Prop} {vals : Nat → List V}
    (W : ∀ A : Around, A.handled = none → WalksT P w A it fp wr n Pt St Mid) (mem : it ∈ fp) (obj : ∀ i h, St i h → ∀ b ∈ fp, ∃ o, h.get? b = some o ∧ ∀ v, o.data ≠ .cell v)
    (tell : ∀ i a, Pt i a → Vals (vals i) a.toList) (few : ∀ i, (vals i).length ≤ sizeLine)
    (self : ∀ (A : Around) (i : Nat) (s : Shared) (Q : Value → Shared → Prop) (E : Value → Shared → Prop), St i s.heap → Q (.ref it) s → wpAny (model P w) A (pyIter (.ref it)) Q E s) : Turn P w K (.Tuple elts kk tpos) (ItT vals n) fp it St where
  mem := mem
  obj := obj
  keep := fun i h h' st k => (W {} rfl).frame i h h' st k
  item := by
    rintro X rfl rfl rfl calm i pins s σ H E I apart st go
    have w := W X.A (I.ok.hd calm)
    refine w.item i s _ _ go st fun T a h' tk pt young isT mid keep => ⟨_, rfl, w.go elts kk tpos i T _ _ _ mid fun h'' st' keep2 => ?_⟩
    obtain ⟨o, ho, hc, m, hd⟩ := isT
    have ho2 : h''.get? T = some o := keep2 T o (w.apart i T _ mid) ho
    have J : Inv X pins σ (upd H T (.tup (vals i))) { s with heap := h'', toks := tk } := by
      refine I.turnedNew (ch := wr) (fun b u hb q => keep2 b u hb (keep b u hb q)) (fun b hb => apart b (w.sub b hb)) young ⟨few i, a.toList, tell i a pt, o, ho2, hc, m, ?_⟩
      rw [hd]
    refine ⟨.ref T, _, J, rfl, ⟨T, rfl, I.hok.fresh young, rfl⟩, st', fun b hb => ?_⟩
    obtain ⟨ob, hb2, _⟩ := obj i _ st b hb
    rw [upd_ne (Nat.ne_of_lt (Nat.lt_of_lt_of_le (Heap.lt_size hb2) young))]
    exact (apart b hb).1
  done := by
    rintro X rfl rfl rfl calm i pins s σ H E I apart st stop
    have w := W X.A (I.ok.hd calm)
    cases (show i = n from stop)
    exact w.done s _ _ st fun h' tk keep => ⟨rfl, I.turnedL (ch := wr) keep fun b hb => apart b (w.sub b hb)⟩
  self := self
/-- the sign of a text at a place -/
def sgn (x : Str) (i : Nat) : Str := ⟨#[x.cps.getD i 0]⟩
theorem sgn_at {x : Str} {i c : Nat} (h : x.cps[i]? = some c) : (⟨#[c]⟩ : Str) = sgn x i := by
  unfold sgn
  rw [Array.getD_eq_getD_getElem?, h] <;> rfl
abbrev PTx (x : Str) : Nat → Value → Prop := fun i v => ∃ c u, x.cps[i]? = some c ∧ v = .str ⟨#[c]⟩ u
theorem draws_text {prog : Program} {w : World} {A : Around} (hh : A.handled = none) (it : Addr) (x : Str) (t : Tok) : Draws prog w A it [it] x.cps.size (PTx x) (fun i h => h.IsStrIter it (strIterType x) x t i) := by
  unfold strIterType
  cases h : x.cps.all (· < 128)
  · exact Draws.strWide hh it x t
  · exact Draws.strAscii hh it x t
theorem text_begun {x : Str} {t : Tok} {h : Heap} {it : Addr} (e : h.get? it = some { cls := .type (strIterType x), data := .fields #[.str x t, .int 0 0] }) : h.IsStrIter it (strIterType x) x t 0 := ⟨_, e, rfl, rfl⟩
theorem text_cell {ty : String} {x : Str} {t : Tok} {i : Nat} {h : Heap} {it : Addr} (e : h.IsStrIter it ty x t i) : ∃ o, h.get? it = some o ∧ ∀ v, o.data ≠ .cell v := by
  obtain ⟨o, e1, _, e2⟩ := e
  exact ⟨o, e1, fun v z => by rw [e2] at z; cases z⟩
theorem rel_sgn {x : Str} {i : Nat} {v : Value} (h : PTx x i v) : RelV (.str (sgn x i)) v := by
  obtain ⟨c, u, e, rfl⟩ := h
  rw [← sgn_at e]
  exact ⟨u, rfl⟩
section
variable {X : Cx} {elts : List Expr} {kk : Nat} {tpos p pos : Pos} {e e1 e2 e3 : Expr} {ta : TA}
def iEnumS (ta : TA) : TI := fun σ H R => ta σ H fun vs H1 => ∃ x : Str, vs = [.str x] ∧ R (ItT (fun i => [.int (i : Nat), .str (sgn x i)]) x.cps.size) H1
theorem pi_enumS (hg : Gl X "enumerate") (hm : X.mg "enumerate" = none) (ha : PA X [e] ta) (hs : starEach [e] X.env = [(false, eval e X.env)] := by rfl) :
    PI X (.Tuple elts kk tpos) (.Call (.Name "enumerate" p) [e] [] pos) (iEnumS ta) := by
  constructor
  intro pins s σ H R I h
  refine Call_ (ld_blt I hg hm boot_enumerate (callWith_type1 ?_ hs rfl))
  apply thn (ha.run pos pins s σ H _ I h)
  rintro us s1 ⟨vs, H1, I1, rel, x, rfl, q⟩
  obtain ⟨u, rfl, ru⟩ := vals1 rel
  obtain ⟨t, rfl⟩ := (show ∃ t, u = Value.str x t from ru)
  apply call_enumerate_str
  intro h' he hit hsz keep
  apply wpAny_pyIter_enum he
  have I2 : Inv X pins σ H1 { s1 with heap := h' } := I1.kept (t' := s1.toks) keep
  have ne : s1.heap.objs.size + 1 ≠ s1.heap.objs.size := Nat.succ_ne_self _
  refine ⟨s1.heap.objs.size + 1, [s1.heap.objs.size + 1, s1.heap.objs.size], _, _, H1, rfl, I2,
    turn_T (fun A hh => WalksT.enumerateD (draws_text (A := A.in1) hh s1.heap.objs.size x t) (s1.heap.objs.size + 1) ne (fun z => ne (by simpa using z)) (by simp)) (by simp) ?_ ?_ (fun i => by show 2 ≤ sizeLine; decide) (fun A i s Q E st q => wpAny_pyIter_enum st.1.choose_spec q), ⟨⟨.none, he⟩, hit⟩, ?_, q⟩
  · rintro i h ⟨⟨old, h1⟩, h2⟩ b hb
    have hb' : b = s1.heap.objs.size + 1 ∨ b = s1.heap.objs.size := by simpa using hb
    rcases hb' with rfl | rfl
    · exact ⟨_, h1, fun v z => nomatch z⟩
    · exact text_cell h2
  · rintro i a ⟨t2, v, hv, rfl⟩
    exact .cons ⟨t2, rfl⟩ (.cons (rel_sgn hv) .nil)
  · intro b hb
    have hb' : b = s1.heap.objs.size + 1 ∨ b = s1.heap.objs.size := by simpa using hb
    have le : s1.heap.objs.size ≤ b := by rcases hb' with rfl | rfl <;> omega
    exact I1.fpOk le (I1.hok.fresh le)
def iZipS2 (ta : TA) : TI := fun σ H R => ta σ H fun vs H1 => ∃ x y : Str, vs = [.str x, .str y] ∧ R (ItT (fun i => [.str (sgn x i), .str (sgn y i)]) (min x.cps.size y.cps.size)) H1
theorem pi_zipS2 (hg : Gl X "zip") (hm : X.mg "zip" = none) (ha : PA X [e1, e2] ta) (hs : starEach [e1, e2] X.env = (false, eval e1 X.env) :: starEach [e2] X.env := by rfl) (hp : (backTo pos (starEach [e2] X.env)).any (·.1) = false := by rfl) :
    PI X (.Tuple elts kk tpos) (.Call (.Name "zip" p) [e1, e2] [] pos) (iZipS2 ta) := by
  constructor
  intro pins s σ H R I h
  refine Call_ (ld_blt I hg hm PyProof.Rows.boot_zip (callWith_type1 ?_ hs hp))
  apply thn (ha.run pos pins s σ H _ I h)
  rintro us s1 ⟨vs, H1, I1, rel, x, y, rfl, q⟩
  obtain ⟨u1, u2, rfl, r1, r2⟩ := vals2 rel
  obtain ⟨t1, rfl⟩ := (show ∃ t, u1 = Value.str x t from r1)
  obtain ⟨t2, rfl⟩ := (show ∃ t, u2 = Value.str y t from r2)
  apply zip_begins2 (begins_text x t1) (begins_text y t2) trivial trivial
  intro h' hz hTI hTO g1 g2 hsz keep
  apply wpAny_pyIter_zip hz
  have I2 : Inv X pins σ H1 { s1 with heap := h' } := I1.kept (t' := s1.toks) keep
  have S := zip_sep2 (N := s1.heap.objs.size) (fp1 := []) (fp2 := []) (fun b z => nomatch z) (fun b z => nomatch z)
  have five : ∀ {b : Addr}, b ∈ (s1.heap.objs.size + 4) :: (s1.heap.objs.size + 2) :: (s1.heap.objs.size + 3) :: ([s1.heap.objs.size] ++ [s1.heap.objs.size + 1]) → b = s1.heap.objs.size + 4 ∨ b = s1.heap.objs.size + 2 ∨ b = s1.heap.objs.size + 3 ∨ b = s1.heap.objs.size ∨ b = s1.heap.objs.size + 1 := fun z => by simpa using z
  refine ⟨s1.heap.objs.size + 4, _, _, _, H1, rfl, I2, turn_T (fun A hh => WalksT.zipD2 S (draws_text (A := A.in1) hh _ x t1) (draws_text (A := A.in1) hh _ y t2)) (by simp) ?_ ?_ (fun i => by show 2 ≤ sizeLine; decide) (fun A i s Q E st q => wpAny_pyIter_zip st.1 q),
    ⟨hz, hTI, ⟨_, _, hTO⟩, text_begun g1, text_begun g2⟩, ?_, q⟩
  · rintro i h ⟨h1, h2, ⟨_, _, h3⟩, h4, h5⟩ b hb
    rcases five hb with rfl | rfl | rfl | rfl | rfl
    · exact ⟨_, h1, fun v z => nomatch z⟩
    · exact ⟨_, h2, fun v z => nomatch z⟩
    · exact ⟨_, h3, fun v z => nomatch z⟩
    · exact text_cell h4
    · exact text_cell h5
  · rintro i a ⟨v1, v2, hv1, hv2, rfl⟩
    exact .cons (rel_sgn hv1) (.cons (rel_sgn hv2) .nil)
  · intro b hb
    have le : s1.heap.objs.size ≤ b := by rcases five hb with rfl | rfl | rfl | rfl | rfl <;> omega
    exact I1.fpOk le (I1.hok.fresh le)
def iZipS3 (ta : TA) : TI := fun σ H R => ta σ H fun vs H1 => ∃ x y z : Str, vs = [.str x, .str y, .str z] ∧ R (ItT (fun i => [.str (sgn x i), .str (sgn y i), .str (sgn z i)]) (min (min x.cps.size y.cps.size) z.cps.size)) H1
theorem pi_zipS3 (hg : Gl X "zip") (hm : X.mg "zip" = none) (ha : PA X [e1, e2, e3] ta) (hs : starEach [e1, e2, e3] X.env = (false, eval e1 X.env) :: starEach [e2, e3] X.env := by rfl) (hp : (backTo pos (starEach [e2, e3] X.env)).any (·.1) = false := by rfl) :
    PI X (.Tuple elts kk tpos) (.Call (.Name "zip" p) [e1, e2, e3] [] pos) (iZipS3 ta) := by
  constructor
  intro pins s σ H R I h
  refine Call_ (ld_blt I hg hm PyProof.Rows.boot_zip (callWith_type1 ?_ hs hp))
  apply thn (ha.run pos pins s σ H _ I h)
  rintro us s1 ⟨vs, H1, I1, rel, x, y, z, rfl, q⟩
  cases rel with
  | cons r1 rr =>
    rename_i u1 us
    obtain ⟨u2, u3, rfl, r2, r3⟩ := vals2 rr
    obtain ⟨t1, rfl⟩ := (show ∃ t, u1 = Value.str x t from r1)
    obtain ⟨t2, rfl⟩ := (show ∃ t, u2 = Value.str y t from r2)
    obtain ⟨t3, rfl⟩ := (show ∃ t, u3 = Value.str z t from r3)
    apply zip_begins3 (begins_text x t1) (begins_text y t2) (begins_text z t3) trivial trivial trivial
    intro h' hz hTI hTO g1 g2 g3 hsz keep
    apply wpAny_pyIter_zip hz
    have I2 : Inv X pins σ H1 { s1 with heap := h' } := I1.kept (t' := s1.toks) keep
    have S := zip_sep3 (N := s1.heap.objs.size) (fp1 := []) (fp2 := []) (fp3 := []) (fun b z => nomatch z) (fun b z => nomatch z) (fun b z => nomatch z)
    have six : ∀ {b : Addr}, b ∈ (s1.heap.objs.size + 5) :: (s1.heap.objs.size + 3) :: (s1.heap.objs.size + 4) :: ([s1.heap.objs.size] ++ [s1.heap.objs.size + 1] ++ [s1.heap.objs.size + 2]) → b = s1.heap.objs.size + 5 ∨ b = s1.heap.objs.size + 3 ∨ b = s1.heap.objs.size + 4 ∨ b = s1.heap.objs.size ∨ b = s1.heap.objs.size + 1 ∨ b = s1.heap.objs.size + 2 := fun z => by simpa using z
    refine ⟨s1.heap.objs.size + 5, _, _, _, H1, rfl, I2, turn_T (fun A hh => WalksT.zipD3 S (draws_text (A := A.in1) hh _ x t1) (draws_text (A := A.in1) hh _ y t2) (draws_text (A := A.in1) hh _ z t3)) (by simp) ?_ ?_ (fun i => by show 3 ≤ sizeLine; decide) (fun A i s Q E st q => wpAny_pyIter_zip st.1 q),
      ⟨hz, hTI, ⟨_, _, _, hTO⟩, text_begun g1, text_begun g2, text_begun g3⟩, ?_, q⟩
    · rintro i h ⟨h1, h2, ⟨_, _, _, h3⟩, h4, h5, h6⟩ b hb
      rcases six hb with rfl | rfl | rfl | rfl | rfl | rfl
      · exact ⟨_, h1, fun v z => nomatch z⟩
      · exact ⟨_, h2, fun v z => nomatch z⟩
      · exact ⟨_, h3, fun v z => nomatch z⟩
      · exact text_cell h4
      · exact text_cell h5
      · exact text_cell h6
    · rintro i a ⟨v1, v2, v3, hv1, hv2, hv3, rfl⟩
      exact .cons (rel_sgn hv1) (.cons (rel_sgn hv2) (.cons (rel_sgn hv3) .nil))
    · intro b hb
      have le : s1.heap.objs.size ≤ b := by rcases six hb with rfl | rfl | rfl | rfl | rfl | rfl <;> omega
      exact I1.fpOk le (I1.hok.fresh le)
end
/-! loops and comprehensions over such a walk -/
theorem for_T {vals : Nat → List V} {n : Nat} {g : TG} {tb : TS} {D : Ends} {σ : L2.St} {H : Hp} (Pv : Nat → L2.St → Hp → Prop) (h0 : Pv 0 σ H)
    (hs : ∀ i T σ H, i < n → Pv i σ H → H T = none → g (.ref T) σ (upd H T (.tup (vals i))) fun σ2 H2 => tb { D with nx := Pv (i + 1), ct := Pv (i + 1), bk := D.nx } σ2 H2) (hd : ∀ σ H, Pv n σ H → D.nx σ H) :
    ∃ W : Nat → Nat → L2.St → Hp → Prop, (∃ m, W 0 m σ H) ∧ ∀ i m σ H, W i m σ H →
      ((ItT vals n).stop i H ∧ D.nx σ H) ∨ ((ItT vals n).go i H ∧ ∃ N : L2.St → Hp → Prop, (∀ σ' H', N σ' H' → ∃ m', m' < m ∧ W (i + 1) m' σ' H') ∧ ∀ x H', (ItT vals n).yld i H x H' → g x σ H' fun σ2 H2 => tb { D with nx := N, ct := N, bk := D.nx } σ2 H2) := by
  refine ⟨fun i m σ H => i + m = n ∧ Pv i σ H, ⟨n, by omega, h0⟩, fun i m σ H ⟨hm, p⟩ => ?_⟩
  by_cases lt : i < n
  · refine Or.inr ⟨lt, Pv (i + 1), fun σ' H' p' => ⟨m - 1, by omega, by omega, p'⟩, ?_⟩
    rintro x H' ⟨T, rfl, hT, rfl⟩
    exact hs i T σ H lt p hT
  · obtain rfl : i = n := by omega
    exact Or.inl ⟨rfl, hd σ H p⟩
theorem lc_T {vals : Nat → List V} {n : Nat} {g : TG} {tt : TT} {te : TE} {vs : List Nat} {σ : L2.St} {H1 : Hp} {D : Addr} {Qd : Hp → Prop} (Pv : Nat → Hp → Prop) (h0 : Pv 0 (upd H1 D (.lst [])))
    (hs : ∀ i T H, i < n → Pv i H → H T = none → g (.ref T) (wipe σ vs) (upd H T (.tup (vals i))) fun σ2 H2 => wipe σ2 vs = wipe σ vs ∧ tt σ2 H2 fun b H3 =>
      if b = true then te σ2 H3 fun y H4 => ∃ acc, H4 D = some (.lst acc) ∧ acc.length < sizeLine ∧ Pv (i + 1) (upd H4 D (.lst (acc ++ [y]))) else Pv (i + 1) H3) (hd : ∀ H, Pv n H → Qd H) :
    ∃ W : Nat → Nat → Hp → Prop, (∃ m, W 0 m (upd H1 D (.lst []))) ∧ ∀ i m H, W i m H →
      ((ItT vals n).stop i H ∧ Qd H) ∨ ((ItT vals n).go i H ∧ ∃ Nx : Hp → Prop, (∀ H', Nx H' → ∃ m', m' < m ∧ W (i + 1) m' H') ∧ ∀ x H', (ItT vals n).yld i H x H' → g x (wipe σ vs) H' fun σ2 H2 => wipe σ2 vs = wipe σ vs ∧ tt σ2 H2 fun b H3 =>
        if b = true then te σ2 H3 fun y H4 => ∃ acc, H4 D = some (.lst acc) ∧ acc.length < sizeLine ∧ Nx (upd H4 D (.lst (acc ++ [y]))) else Nx H3) := by
  refine ⟨fun i m H => i + m = n ∧ Pv i H, ⟨n, by omega, h0⟩, fun i m H ⟨hm, p⟩ => ?_⟩
  by_cases lt : i < n
  · refine Or.inr ⟨lt, Pv (i + 1), fun H' p' => ⟨m - 1, by omega, by omega, p'⟩, ?_⟩
    rintro x H' ⟨T, rfl, hT, rfl⟩
    exact hs i T H lt p hT
  · obtain rfl : i = n := by omega
    exact Or.inl ⟨rfl, hd H p⟩
end Fb
set_option maxRecDepth 100000
set_option maxHeartbeats 4000000
namespace Fb
open PySem PySem.Spec PyProof.Rows L2
/-! what own classes say of operators: instances with a dict -/
/-- what never comes to pass needs no reading -/
theorem ps_no {X : Cx} {st : Stmt} : PS X st (fun _ _ _ => False) := ⟨fun _ _ _ _ _ _ h => h.elim⟩
theorem pss_no {X : Cx} {sts : List Stmt} : PSs X sts (fun _ _ _ => False) := ⟨fun _ _ _ _ _ _ h => h.elim⟩
theorem pe_no {X : Cx} {e : Expr} : PE X e (fun _ _ _ => False) := ⟨fun _ _ _ _ _ _ h => h.elim⟩
section
variable {X : Cx} {CX : CXT} {pins : List (Addr × Obj)} {σ : L2.St} {H : Hp} {s : Shared} {a C dx g : Addr} {fs : List (Str × V)} {n : Nat} {sp : Sp} {E : XK}
theorem ins_at (I : Inv X pins σ H s) (e : H a = some (.ins C dx fs)) : ∃ od, PySem.W.InstAt s.heap a (PySem.W.instObj C dx) C (some od) := by
  obtain ⟨mA, O, _⟩ := ins_get I.hok e
  obtain ⟨od, J, _⟩ := O.look
  exact ⟨od, J⟩
/-- the type of what may stand on the right -/
inductive RTy (H : Hp) : V → Value → Prop where
  | non : RTy H .non (.type "NoneType")
  | str (x : Str) : RTy H (.str x) (.type "str")
  | ins {b C' dy : Addr} {gs : List (Str × V)} (e : H b = some (.ins C' dy gs)) : RTy H (.ref b) (.ref C')
theorem RTy.looks {y : V} {t u : Value} (I : Inv X pins σ H s) (r : RTy H y t) (ry : RelV y u) : PySem.W.Looks (model X.prog X.w) s.heap (typeOf u) t := by
  cases r with
  | non =>
    cases (show u = Value.none from ry)
    exact fun A Q E s k q => wpAny_typeOf (show s.TypeIs .none "NoneType" from rfl) q
  | str x =>
    obtain ⟨t, rfl⟩ := (show ∃ t, u = Value.str x t from ry)
    exact fun A Q E s k q => wpAny_typeOf (show s.TypeIs (.str x t) "str" from rfl) q
  | ins e =>
    cases (show u = Value.ref _ from ry)
    obtain ⟨od, J⟩ := ins_at I e
    exact J.type
theorem first_str {K : PySem.W.Frag} {C : Addr} : PySem.W.notFirst K C (.type "str") = true := by
  have e : fastBuiltinMro "str" = some [.type "str", .type "object"] := by decide +kernel
  have h : PySem.W.subIn K (.type "str") (.ref C) = some false := by
    show (fastBuiltinMro "str").map (·.contains (.ref C)) = some false
    rw [e]
    first
      | rfl
      | simp
  unfold PySem.W.notFirst
  rw [h]
  simp
theorem first_non {K : PySem.W.Frag} {C : Addr} : PySem.W.notFirst K C (.type "NoneType") = true := by
  unfold PySem.W.notFirst
  rw [HN.sub_none]
  simp
theorem first_self {K : PySem.W.Frag} {C : Addr} : PySem.W.notFirst K C (.ref C) = true := by
  unfold PySem.W.notFirst
  simp
/-- x op y by the def of x's class -/
def rCmpI (K : PySem.W.Frag) (C : Addr) (sp : Sp) (E : XK) : R2 := fun x y H Q => ∃ a dx fs t, x = .ref a ∧ H a = some (.ins C dx fs) ∧ RTy H y t ∧ PySem.W.notFirst K C t = true ∧ sp [x, y] H Q E
theorem op_cmpI {op : CmpOp} (hop : ∀ a b, compareOp op a b = richCompare op a b) (hs : PySem.W.findIn X.K (.ref C) (cmpInfo op).2.1 = some (some (.ref g))) (hf : PySem.W.isFn X.K (.ref g) = true) (F : FnR X.prog X.w X.K X.mg X.base CX n g sp)
    (hr : Room n X.A) (hx : Passes CX X E) : OpR X (compareOp op) (rCmpI X.K C sp E) := by
  intro pins s σ H x y v u Q I rx ry h
  obtain ⟨a, dx, fs, t, rfl, ha, hb, hn, q⟩ := h
  cases (show v = Value.ref a from rx)
  obtain ⟨od, J⟩ := ins_at I ha
  obtain ⟨m, hF⟩ := I.fr
  rw [hop]
  refine PySem.W.cmp_K (op := op) (tb := t) hr.units0 hF I.ok.mod.kin J (hb.looks I ry) hn hs hf ?_
  refine wpAny_mono (wpAny_call (run_fnR (us := [.ref a, u]) (vs := [.ref a, y]) F hr hx I (.cons rfl (.cons ry .nil)) q)) (fun w s' z => ?_) fun _ _ x => x
  obtain ⟨z', H', I', rz, qz⟩ := z
  exact SlX.cmpback rz ⟨z', H', I', rz, qz⟩
/-- two instances of C -/
def rBinI (C : Addr) (sp : Sp) (E : XK) : R2 := fun x y H Q => ∃ a dx fs b dy gs, x = .ref a ∧ H a = some (.ins C dx fs) ∧ y = .ref b ∧ H b = some (.ins C dy gs) ∧ sp [x, y] H Q E
theorem op_binI {op : Operator} (hc : PySem.W.selfFirst X.K C = true) (hs : PySem.W.findIn X.K (.ref C) (PySem.dunder op.info.2) = some (some (.ref g))) (hf : PySem.W.isFn X.K (.ref g) = true) (F : FnR X.prog X.w X.K X.mg X.base CX n g sp)
    (hr : Room n X.A) (hx : Passes CX X E) : OpR X (binaryOp op) (rBinI C sp E) := by
  intro pins s σ H x y v u Q I rx ry h
  obtain ⟨a, dx, fs, b, dy, gs, rfl, ha, rfl, hb, q⟩ := h
  cases (show v = Value.ref a from rx)
  cases (show u = Value.ref b from ry)
  obtain ⟨od, J⟩ := ins_at I ha
  obtain ⟨od', J'⟩ := ins_at I hb
  obtain ⟨m, hF⟩ := I.fr
  refine PySem.W.binop_K (op := op) hF I.ok.mod.kin J J'.type hc hs hf ?_
  refine wpAny_mono (wpAny_call (run_fnR (us := [.ref a, .ref b]) (vs := [.ref a, .ref b]) F hr hx I (.cons rfl (.cons rfl .nil)) q)) (fun w s' z => ?_) fun _ _ x => x
  obtain ⟨z', H', I', rz, qz⟩ := z
  exact SlX.cmpback rz ⟨z', H', I', rz, qz⟩
/-! str(x), len(x) -/
theorem relv_str {v : Value} {y : Str} (r : RelV (.str y) v) : ∃ t, v = .str y t := r
def rStrI (C : Addr) (sp : Sp) (E : XK) : List V → Hp → VK → Prop := fun xs H Q => ∃ a dx fs, xs = [.ref a] ∧ H a = some (.ins C dx fs) ∧ sp [.ref a] H (fun z H' => ∃ y, z = .str y ∧ Q (.str y) H') E
theorem call_strI (hs : PySem.W.findIn X.K (.ref C) "__str__" = some (some (.ref g))) (hf : PySem.W.isFn X.K (.ref g) = true) (F : FnR X.prog X.w X.K X.mg X.base CX n g sp) (hr : Room (n + 2) X.A) (hx : Passes CX X E) : CallR X (.type "str") (rStrI C sp E) := by
  intro pins s σ H xs us Q I r h
  obtain ⟨a, dx, fs, rfl, ha, q⟩ := h
  obtain ⟨u, rfl, ru⟩ := r.one
  cases (show u = Value.ref a from ru)
  obtain ⟨od, J⟩ := ins_at I ha
  have hr2 : Room n X.A.in1.in1 := (show Room (n + 1) X.A.in1 from Room.in1 hr).in1
  refine PySem.W.kso_call hr2.units0 I.kIn J hs hf (wpAny_mono (wpAny_call (SlX.run_at (us := [.ref a]) (ws := [.ref a]) F hr2 I.env0.in1.in1 hx I (.cons rfl .nil) q)) (fun w s' z => ?_) fun _ _ x => x)
  obtain ⟨z', H', I', rz, y, ey, qz⟩ := z
  subst ey
  obtain ⟨t, e⟩ := relv_str rz
  cases e
  exact ⟨.str y, H', I', ⟨t, rfl⟩, qz⟩
def rLenI (C : Addr) (sp : Sp) (E : XK) : List V → Hp → VK → Prop := fun xs H Q => ∃ a dx fs, xs = [.ref a] ∧ H a = some (.ins C dx fs) ∧ sp [.ref a] H (fun z H' => ∃ i : Nat, z = .int i ∧ (i : Int) < 2 ^ 63 ∧ Q (.int i) H') E
theorem call_lenI (hs : PySem.W.findIn X.K (.ref C) "__len__" = some (some (.ref g))) (hf : PySem.W.isFn X.K (.ref g) = true) (F : FnR X.prog X.w X.K X.mg X.base CX n g sp) (hr : Room (n + 1) X.A) (hx : Passes CX X E) : CallR X (.builtin "len") (rLenI C sp E) := by
  intro pins s σ H xs us Q I r h
  obtain ⟨a, dx, fs, rfl, ha, q⟩ := h
  obtain ⟨u, rfl, ru⟩ := r.one
  cases (show u = Value.ref a from ru)
  obtain ⟨od, J⟩ := ins_at I ha
  have hr2 : Room n X.A.in1 := Room.in1 hr
  obtain ⟨m, hF⟩ := I.fr
  refine PySem.W.len_K hF I.ok.mod.kin J hs hf (wpAny_mono (wpAny_call (SlX.run_at (us := [.ref a]) (ws := [.ref a]) F hr2 I.env0.in1 hx I (.cons rfl .nil) q)) (fun w s' z => ?_) fun _ _ x => x)
  obtain ⟨z', H', I', rz, i, ei, lt, qz⟩ := z
  subst ei
  obtain ⟨t, e⟩ := (show ∃ t, w = Value.int i t from rz)
  cases e
  exact ⟨⟨by omega, lt⟩, .int i, H', I'.tok _, ⟨_, rfl⟩, qz⟩
end
/-! !=, by the own == -/
section
variable {M : Model} {prog : Program} {w : World} {A : Around} {E : Value → Shared → Prop} {s : Shared} {K : PySem.W.Frag} {x C f : Addr} {ox : Obj} {od : Option Obj} {y : Value}
theorem objNe_K {Q : Fin → Shared → Prop} (hu : A.units < cLine) (X : K.In s.heap) (I : PySem.W.InstAt s.heap x ox C od) (hs : PySem.W.findIn K (.ref C) "__eq__" = some (some (.ref f))) (hf : PySem.W.isFn K (.ref f) = true)
    (hcall : wpAny (model prog w) A (call (.ref f) [.ref x, y]) (fun v s' => ∃ b, v = .bool b ∧ Q (.done (.ret (.bool (!b)))) s') E s) :
    wpAny (model prog w) A (Builtin.«object.__ne__» ⟨[.ref x, y], []⟩) Q E s := by
  unfold Builtin.«object.__ne__»
  repeat (first
    | with_reducible refine wpAny_cRoomFor hu ?_
    | (refine wpAny_bind (m := callSpecialIfBound? (.ref x) (Str.ofString "__eq__") [y])
        (PySem.W.ifBound_K X I hs hf (wpAny_mono hcall (fun r s' hr => by
          obtain ⟨b, rfl, hq⟩ := hr
          repeat (first | exact hq | exact wpAny_pure hq | exact wpAny_truthy_bool hq | (refine wpAny_bind (m := truthy (.bool _)) (wpAny_truthy_bool ?_)) | wp_step)) fun _ _ e => e)))
    | wp_step)
theorem ifBound_objNe {args : List Value} {Q : Option Value → Shared → Prop} (X : K.In s.heap) (I : PySem.W.InstAt s.heap x ox C od) (hs : PySem.W.findIn K (.ref C) "__ne__" = some (some (.builtin "object.__ne__")))
    (h : wpAny M A (call (.builtin "object.__ne__") (.ref x :: args)) (fun v => Q (some v)) E s) : wpAny M A (callSpecialIfBound? (.ref x) "__ne__" args) Q E s := by
  simp only [callSpecialIfBound?, bindSpecialIfBound?]
  refine wpAny_holding (wpAny_bind (wpAny_bind (wpAny_bind (I.type.here ((PySem.W.looks_findIn X hs).here ?_)))))
  refine wpAny_bind (wpAny_askSetting (wpAny_ite ?_))
  have fin : wpAny M A (call (.builtin "object.__ne__") ([.ref x] ++ args) >>= fun v => pure (some v)) Q E s := wpAny_bind (wpAny_mono h (fun v s' h' => wpAny_pure h') fun _ _ h' => h')
  split
  · exact wpAny_bind (wpAny_of_eq (F.cmp_object.ne.bind _) (wpAny_pure (by exact fin)))
  · exact wpAny_tryCatch (wpAny_bind (wpAny_of_eq (F.cmp_object.ne.bind _) (wpAny_pure (by exact fin))))
theorem ne_K {Q : Value → Shared → Prop} {tb : Value} (hu : A.units + 1 < cLine) (X : K.In s.heap) (I : PySem.W.InstAt s.heap x ox C od) (hb : PySem.W.Looks (model prog w) s.heap (typeOf y) (.ref C)) (hm : PySem.W.mroIn K C (.type "object") = some true)
    (hn : PySem.W.findIn K (.ref C) "__ne__" = some (some (.builtin "object.__ne__"))) (hs : PySem.W.findIn K (.ref C) "__eq__" = some (some (.ref f))) (hf : PySem.W.isFn K (.ref f) = true)
    (hcall : wpAny (model prog w) A.in1 (call (.ref f) [.ref x, y]) (fun v s' => ∃ b, v = .bool b ∧ Q (.bool (!b)) s') E s) : wpAny (model prog w) A (richCompare .NotEq (.ref x) y) Q E s := by
  have one : wpAny (model prog w) A (tryCompare (.ref x) "__ne__" y) (fun r s' => ∃ b : Bool, r = some (.bool (!b)) ∧ Q (.bool (!b)) s') E s := by
    unfold tryCompare
    refine wpAny_bind (ifBound_objNe X I hn (wpAny_call (codeAny_call_builtin F.cmp_object.ne.plain F.cmpEntry_ne (PySem.W.check_slot F.cmpKind_ne F.cmpSplit_ne (I.type.andThen (PySem.W.looks_mroIn X hm)) (F.cmpArgs_ne _ _)
      (objNe_K (A := A.in1) (show A.in1.units < cLine from hu) X I hs hf (wpAny_mono hcall (fun v s' hv => ?_) fun _ _ e => e))))))
    obtain ⟨b, rfl, hq⟩ := hv
    first | exact ⟨b, rfl, wpAny_pure ⟨b, rfl, hq⟩⟩ | exact ⟨b, rfl, wpAny_pure (wpAny_pure ⟨b, rfl, hq⟩)⟩
  simp only [richCompare, cmpInfo_NotEq, oneThing_ref]
  refine wpAny_holding (wpAny_bind (wpAny_cRoomFor (Nat.lt_of_succ_lt hu) ?_))
  refine wpAny_bind (I.type.here (wpAny_bind (hb.here ?_)))
  rw [show (Value.ref C != Value.ref C) = false from by simp]
  simp only [Bool.false_eq_true, if_false]
  refine wpAny_bind (wpAny_pure ?_)
  simp only [Bool.false_eq_true, if_false]
  refine wpAny_bind (m := tryCompare (.ref x) _ y) (wpAny_mono one (fun r s' z => ?_) fun _ _ e => e)
  obtain ⟨b, rfl, hq⟩ := z
  first | exact wpAny_pure hq | exact wpAny_pure (wpAny_pure hq)
end
section
variable {X : Cx} {CX : CXT} {C g : Addr} {n : Nat} {sp : Sp} {E : XK}
def rNeI (C : Addr) (sp : Sp) (E : XK) : R2 := fun x y H Q => ∃ a dx fs b dy gs, x = .ref a ∧ H a = some (.ins C dx fs) ∧ y = .ref b ∧ H b = some (.ins C dy gs) ∧ sp [x, y] H (fun v H' => ∃ k, v = .bl k ∧ Q (.bl (!k)) H') E
theorem op_neI (hn : PySem.W.findIn X.K (.ref C) "__ne__" = some (some (.builtin "object.__ne__"))) (hm : PySem.W.mroIn X.K C (.type "object") = some true) (hs : PySem.W.findIn X.K (.ref C) "__eq__" = some (some (.ref g))) (hf : PySem.W.isFn X.K (.ref g) = true)
    (F : FnR X.prog X.w X.K X.mg X.base CX n g sp) (hr : Room (n + 1) X.A) (hx : Passes CX X E) : OpR X (compareOp .NotEq) (rNeI C sp E) := by
  intro pins s σ H x y v u Q I rx ry h
  obtain ⟨a, dx, fs, b, dy, gs, rfl, ha, rfl, hb, q⟩ := h
  cases (show v = Value.ref a from rx)
  cases (show u = Value.ref b from ry)
  obtain ⟨od, J⟩ := ins_at I ha
  obtain ⟨od', J'⟩ := ins_at I hb
  have hu : X.A.units + 1 < cLine := by have := hr.un; omega
  unfold compareOp
  refine ne_K (tb := .none) hu I.kIn J J'.type hm hn hs hf ?_
  refine wpAny_mono (wpAny_call (SlX.run_at (us := [.ref a, .ref b]) (ws := [.ref a, .ref b]) F hr.in1 I.env0.in1 hx I (.cons rfl (.cons rfl .nil)) q)) (fun w s' z => ?_) fun _ _ x => x
  obtain ⟨z', H', I', rz, k, ek, qz⟩ := z
  subst ek
  cases (show w = Value.bool k from rz)
  exact ⟨k, rfl, .bl (!k), H', I', rfl, qz⟩
end
/-! x op= y, no own in-place def -/
section
variable {prog : Program} {w : World} {A : Around} {E : Value → Shared → Prop} {s : Shared} {K : PySem.W.Frag} {x C L f : Addr} {h₀ : Heap} {m : Str → Option Value} {ox : Obj} {od : Option Obj}
theorem noFill {M : Model} {h : Heap} {nm : String} {cd : PySem.ClassData} (X : K.In h) (hc : PySem.W.clsIn K C = some cd) (hm : cd.mro = [.ref C, .type "object"]) (hs : PySem.W.findIn K (.ref C) (PySem.dunderI nm) = some none) (ho : typeLookup (.type "object") (PySem.dunderI nm) = pure none) :
    PySem.W.Looks M h (fillsInplaceSlot (.ref C) nm false) false := by
  intro A Q E s k q
  unfold fillsInplaceSlot
  refine wpAny_bind ((PySem.W.looks_clsIn X hc).andThen (f := fun cd => pure cd.mro) .now A _ E s k ?_)
  rw [hm, List.anyM_cons]
  refine wpAny_bind (wpAny_bind (PySem.W.looks_findIn X hs A _ E s k ?_))
  dsimp only
  refine wpAny_pure ?_
  simp only [Bool.false_eq_true, if_false]
  rw [List.anyM_cons]
  refine wpAny_bind (wpAny_bind (wpAny_of_eq ho ?_))
  dsimp only
  refine wpAny_pure ?_
  simp only [Bool.false_eq_true, if_false]
  rw [List.anyM_nil]
  exact wpAny_pure q
theorem ibinop_K {op : Operator} {b : Value} {Q : Value → Shared → Prop} {cd : PySem.ClassData} (hop : (op == .Add) = false) (F : Fr h₀ L s.heap m) (X₀ : K.In h₀) (I : PySem.W.InstAt s.heap x ox C od) (hb : PySem.W.Looks (model prog w) s.heap (typeOf b) (.ref C)) (hc : PySem.W.clsIn K C = some cd) (hm : cd.mro = [.ref C, .type "object"])
    (hi : PySem.W.findIn K (.ref C) (PySem.dunderI op.info.2) = some none) (ho : typeLookup (.type "object") (PySem.dunderI op.info.2) = pure none)
    (hs : PySem.W.findIn K (.ref C) (PySem.dunder op.info.2) = some (some (.ref f))) (hf : PySem.W.isFn K (.ref f) = true)
    (h : wpAny (model prog w) A (call (.ref f) [.ref x, b]) (PySem.W.CmpBack Q) E s) : wpAny (model prog w) A (inplaceOp op (.ref x) b) Q E s := by
  have X := X₀.keeps F.keep
  unfold inplaceOp
  refine wpAny_holding (wpAny_bind (I.type.here ?_))
  rw [hop]
  refine wpAny_bind ((noFill X hc hm hi ho).here ?_)
  simp only [Bool.false_eq_true, if_false]
  refine wpAny_bind ?_
  unfold binaryOp1
  refine wpAny_bind (I.type.here (wpAny_bind (hb.here (wpAny_bind ((PySem.W.fills_K X hc hm hs).here ?_)))))
  simp only [beq_self_eq_true, if_true]
  refine wpAny_bind (wpAny_pure ?_)
  simp only [Bool.and_false, Bool.false_eq_true, if_false, Bool.false_and]
  refine wpAny_bind (wpAny_pure ?_)
  simp only [Bool.false_eq_true, if_false]
  refine wpAny_bind (m := tryMethod (.ref x) _ b) ?_
  unfold tryMethod
  refine wpAny_bind (PySem.W.special_fn X I hs (beq_iff_eq.mp hf) (wpAny_mono h (fun v s' hv => ?_) fun _ _ e => e))
  cases v <;> first | exact hv.elim | exact wpAny_pure (wpAny_pure (wpAny_pure hv))
end
section
variable {X : Cx} {CX : CXT} {C g : Addr} {n : Nat} {sp : Sp} {E : XK}
theorem iop_binI {op : Operator} (hop : (op == .Add) = false) (hc : ∃ cd, PySem.W.clsIn X.K C = some cd ∧ cd.mro = [.ref C, .type "object"]) (hi : PySem.W.findIn X.K (.ref C) (PySem.dunderI op.info.2) = some none) (ho : typeLookup (.type "object") (PySem.dunderI op.info.2) = pure none)
    (hs : PySem.W.findIn X.K (.ref C) (PySem.dunder op.info.2) = some (some (.ref g))) (hf : PySem.W.isFn X.K (.ref g) = true) (F : FnR X.prog X.w X.K X.mg X.base CX n g sp)
    (hr : Room n X.A) (hx : Passes CX X E) : OpR X (inplaceOp op) (rBinI C sp E) := by
  intro pins s σ H x y v u Q I rx ry h
  obtain ⟨a, dx, fs, b, dy, gs, rfl, ha, rfl, hb, q⟩ := h
  cases (show v = Value.ref a from rx)
  cases (show u = Value.ref b from ry)
  obtain ⟨od, J⟩ := ins_at I ha
  obtain ⟨od', J'⟩ := ins_at I hb
  obtain ⟨m, hF⟩ := I.fr
  obtain ⟨cd, c1, c2⟩ := hc
  refine ibinop_K (op := op) hop hF I.ok.mod.kin J J'.type c1 c2 hi ho hs hf ?_
  refine wpAny_mono (wpAny_call (run_fnR (us := [.ref a, .ref b]) (vs := [.ref a, .ref b]) F hr hx I (.cons rfl (.cons rfl .nil)) q)) (fun w s' z => ?_) fun _ _ x => x
  obtain ⟨z', H', I', rz, qz⟩ := z
  exact SlX.cmpback rz ⟨z', H', I', rz, qz⟩
end
/-! tokens -/
/-- an expression that gives one out -/
def PEK (X : Cx) (e : Expr) (t : TE) : Prop :=
  ∀ (pins : List (Addr × Obj)) (s : Shared) (σ : L2.St) (H : Hp) (Q : VK), Inv X pins σ H s → t σ H Q → wpAny (model X.prog X.w) X.A (eval e X.env) (fun v s' => 1 ≤ s'.toks ∧ EP X pins σ Q v s') X.xe s
section
variable {X : Cx} {a e : Expr} {es : List Expr} {ta te : TE} {t : TA} {pos cp : Pos} {x : Str} {j : Nat}
theorem pek_op {op : Operator} {r : R2} (ho : OpR X (binaryOp op) r) (ha : PE X a ta) : PEK X (.BinOp a op (.Constant (.str x) j cp) pos) (tOp r ta (tC (.str x))) := by
  intro pins s σ H Q I h
  refine wpAny_BinOp (thn (ha.run pins s σ H _ I h) fun v s1 ⟨z, H1, I1, r1, q1⟩ => ?_)
  refine Calls.Constant_str ?_
  exact wpAny_mono (PySem.wpAny_toks_of (n := 1) (by show 1 ≤ s1.toks + 1; omega) (ho pins _ σ H1 z (.str x) v _ Q (I1.tok _) r1 ⟨_, rfl⟩ q1)) (fun _ _ z => z) fun _ _ z => z.2
theorem PAT.of (h : PA X es t) : PAT X es t := fun pos pins s σ H Q _ I q => h.run pos pins s σ H Q I q
theorem pa_consK (ha : PEK X e te) (hr : PAT X es t) (hs : starEach (e :: es) X.env = (false, eval e X.env) :: starEach es X.env := by rfl) : PA X (e :: es) (tCons te t) := by
  refine ⟨fun pos pins s σ H Q I h => ?_⟩
  rw [hs]
  show wpAny _ _ (spliced ((false, eval e X.env) :: backTo pos (starEach es X.env))) _ _ s
  refine Calls.spliced_cons (thn (ha pins s σ H _ I h) fun u s1 ⟨ht, x, H1, I1, r1, q1⟩ => ?_)
  exact thn (hr pos pins s1 σ H1 _ ht I1 q1) fun us s2 ⟨xs, H2, I2, r2, q2⟩ => ⟨x :: xs, H2, I2, .cons r1 r2, q2⟩
theorem pat_cons (ha : PET X e te) (hr : PAT X es t) (hs : starEach (e :: es) X.env = (false, eval e X.env) :: starEach es X.env := by rfl) : PAT X (e :: es) (tCons te t) := by
  intro pos pins s σ H Q h0 I h
  rw [hs]
  show wpAny _ _ (spliced ((false, eval e X.env) :: backTo pos (starEach es X.env))) _ _ s
  refine Calls.spliced_cons (wpAny_mono (PySem.wpAny_toks (ha pins s σ H _ h0 I h)) (fun u s1 q => ?_) fun _ _ z => z.2)
  obtain ⟨hk, x, H1, I1, r1, q1⟩ := q
  exact thn (hr pos pins s1 σ H1 _ (Nat.le_trans h0 hk) I1 q1) fun us s2 ⟨xs, H2, I2, r2, q2⟩ => ⟨x :: xs, H2, I2, .cons r1 r2, q2⟩
end
/-- a def of at least one parameter: a token is out when its body begins -/
theorem Fun.okT {P : Program} {w : World} {K : PySem.W.Frag} {mg : Str → Option Value} {base : Heap} {x qual : Str} {st : Stmt} {f : Addr} {fd : FuncData} {N ps : List Str} {k : Nat} {sp : Sp} (F : Fun K x qual st f fd) (S : FnScope N ps (defScope st))
    (hnc : ∀ y ∈ (defScope st).names, y.2 ≠ .cell) (hps : 1 ≤ ps.length) (len : ∀ vs H Q E, sp vs H Q E → vs.length = ps.length)
    (hbody : ∀ (cdv : Value) (A : Around) (outer : List Env) (s : Shared) (H : Hp) (vs : List V) (Q : VK) (E : XK), Room k (A.deeper (envOfC qual (defScope st) s.heap.objs.size f cdv)) → sp vs H Q E →
      ∃ t, PSsT (cxOf CX0 P w K mg base N qual (defScope st) f cdv A outer s H E) (defBody st) t ∧ t { nx := fun _ H' => Q .non H', rt := Q } (start N vs) H) : FnOk P w K mg base CX0 (k + 1) f fd ps sp := by
  obtain ⟨oc, od, kV, doc, pm, an, cdv, ct, osl, rfl, lk, hcd⟩ := F.ex
  exact fn_ofT lk hcd S hnc hps len fun A outer s H vs Q E hr hsp => hbody cdv A outer s H vs Q E hr hsp
/-! a static method, called off the class -/
structure SMet (K : PySem.W.Frag) (C : Addr) (mc : Value) (m : Str) (p g : Addr) : Prop where
  at_ : PySem.W.findCls K (.ref C) mc m = some (.get (.builtin "staticmethod.__get__") (.ref p) .none (.ref C))
  rc : ∃ rest, PySem.W.recIn K p "staticmethod" = some (.ref g :: rest)
  kp : PySem.W.keepIn K (.ref g) = true
def tSMeth (C : Addr) (sp : Sp) (E : XK) (ta : TE) (t : TA) : TE := fun σ H Q => ta σ H fun x H1 => x = .ref C ∧ t σ H1 fun vs H2 => sp vs H2 Q E
section
variable {X : Cx} {CX : CXT} {k : Nat} {C p g : Addr} {mc : Value} {sp : Sp} {E : XK} {o e : Expr} {es : List Expr} {m : Str} {pos apos : Pos} {ta : TE} {t : TA} {pl : Sem Bool}
theorem pe_smeth (he : PE X o ta) (r : ClX.CRead X.K C mc) (c : SMet X.K C mc m p g) (F : FnR X.prog X.w X.K X.mg X.base CX k g sp) (hr : Room k X.A) (hx : Passes CX X E) (ha : PA X (e :: es) t)
    (h1 : starEach (e :: es) X.env = (false, eval e X.env) :: starEach es X.env := by rfl) (h2 : (backTo pos (starEach es X.env)).any (·.1) = false := by rfl)
    (h3 : eval (.Call (.Attribute o m apos) (e :: es) [] pos) X.env = (do
      let ov ← eval o X.env
      standAt apos.atName
      let (f, first) ← holding [ov] (getMethod ov m pl)
      callWith pos f first (backTo pos (starEach (e :: es) X.env)) (backToKw pos (keywordEach [] X.env))) := by rfl) :
    PE X (.Call (.Attribute o m apos) (e :: es) [] pos) (tSMeth C sp E ta t) := by
  constructor
  intro pins s σ H Q I asked
  obtain ⟨rest, rec_⟩ := c.rc
  apply PySem.W.methodCall_KW (pl := pl) ?_ h3
  apply thn (he.run pins s σ H _ I asked)
  rintro u s1 ⟨x, H1, I1, rx, ex, q⟩
  subst ex
  cases (show u = Value.ref C from rx)
  apply PySem.W.method_cls I1.kIn r.ga
  apply PySem.W.cls_bind I1.kIn r.rd c.at_
  apply wpAny_call
  apply PySem.W.sm_get (s := { s1 with toks := s1.toks + 1 }) I1.kIn rec_
  apply PySem.W.handed_on rfl
  have I2 : Inv X pins σ H1 { s1 with toks := s1.toks + 1 } := I1.tok _
  apply PySem.W.callWith_K (h₀ := X.base) I2.ok.mod.kin c.kp ?_ h1 h2
  apply thn (ha.run pos pins _ σ H1 _ I2 q)
  rintro us s3 ⟨vs, H3, I3, rv, q3⟩
  exact ⟨I3.kIn, wpAny_call (run_fnR (us := us) (vs := vs) F hr hx I3 rv q3)⟩
end
end Fb
set_option maxRecDepth 100000
set_option maxHeartbeats 4000000
namespace Fb
open PySem PySem.Spec PyProof.Rows L2
open SX (S)
/-! patterns as lists of signs: 48, 49, 46 -/
/-- how many leading signs begin some pattern; none for a pattern -/
def pfa : List Nat → Nat → Nat → Nat → Nat → Option Nat
  | [], at_, _, _, size => if size = 0 then some at_ else none
  | c :: cs, at_, bits, blocks, size =>
    if ¬(c = 48 ∨ c = 49 ∨ c = 46) ∨ bits = 120 then some at_
    else if c = 46 then (if size = 0 ∨ blocks = 3 then some at_ else pfa cs (at_ + 1) bits (blocks + 1) 0)
    else pfa cs (at_ + 1) (bits + 1) blocks (size + 1)
def pf (l : List Nat) : Option Nat := pfa l 0 0 1 0
/-- the sizes of the parts between dots -/
def szA : Nat → List Nat → List Nat
  | n, [] => [n]
  | n, c :: cs => if c = 46 then n :: szA 0 cs else szA (n + 1) cs
def szs (l : List Nat) : List Nat := szA 0 l
theorem spl_len : ∀ (l acc : List Nat), (TL.spl [46] 0 acc l).map List.length = szA acc.length l
  | [], acc => by rw [TL.spl_nil]; rfl
  | c :: l, acc => by
    by_cases h : c = 46
    · subst h
      have hp : TL.pre [46] (46 :: l) = true := TL.pre_self [46] l
      rw [TL.spl_hit hp]
      show acc.length :: (TL.spl [46] 0 [] l).map List.length = szA acc.length (46 :: l)
      rw [spl_len l []]
      rfl
    · have hp : TL.pre [46] (c :: l) = false := TL.pre_of_head _ _ fun e => h e
      rw [TL.spl_miss hp, spl_len l (acc ++ [c])]
      show szA (acc ++ [c]).length l = if c = 46 then _ else szA (acc.length + 1) l
      rw [if_neg h, List.length_append]
      rfl
theorem split_lens (l : List Nat) : (Txt.split (S l) ".").map (fun z => z.length) = szs l := by
  have e : ((".":Str)) = S [46] := by decide +kernel
  rw [e, SX.split_S (by simp) (by decide), List.map_map]
  have h := spl_len l []
  show _ = szA 0 l
  rw [← (show ([] : List Nat).length = 0 from rfl), ← h]
  refine List.map_congr_left fun x _ => ?_
  show (S x).length = x.length
  exact SX.S_len x
theorem szA_len : ∀ (l : List Nat) (n : Nat), 1 ≤ (szA n l).length ∧ (szA n l).length ≤ l.length + 1
  | [], n => by simp [szA]
  | c :: l, n => by
    unfold szA
    by_cases h : c = 46
    · rw [if_pos h]
      have := szA_len l 0
      simp only [List.length_cons]
      omega
    · rw [if_neg h]
      have := szA_len l (n + 1)
      simp only [List.length_cons]
      omega
/-- signs of a pattern -/
def Sg (l : List Nat) : Prop := ∀ c ∈ l, c = 48 ∨ c = 49 ∨ c = 46
def nb (l : List Nat) : Nat := (l.filter (fun c => c != 46)).length
theorem szA_sum : ∀ (l : List Nat) (n : Nat), (szA n l).sum = n + nb l
  | [], n => by simp [szA, nb]
  | c :: l, n => by
    unfold szA nb
    by_cases h : c = 46
    · subst h
      rw [if_pos rfl, List.sum_cons, szA_sum l 0]
      simp [nb]
    · rw [if_neg h, szA_sum l (n + 1), List.filter_cons_of_pos (by simpa using h), List.length_cons]
      unfold nb
      omega
theorem pfa_good : ∀ (l : List Nat) (a bits blocks size : Nat), Sg l → (∀ n ∈ szA size l, 1 ≤ n) → blocks + (szA size l).length ≤ 4 → bits + nb l ≤ 120 → pfa l a bits blocks size = none
  | [], a, bits, blocks, size, _, h2, _, _ => by
    have : 1 ≤ size := h2 size (by simp [szA])
    unfold pfa
    rw [if_neg (by omega)]
  | c :: l, a, bits, blocks, size, h1, h2, h3, h4 => by
    have hc := h1 c List.mem_cons_self
    have h1' : Sg l := fun d hd => h1 d (List.mem_cons_of_mem _ hd)
    unfold pfa
    by_cases h : c = 46
    · subst h
      have e : szA size (46 :: l) = size :: szA 0 l := by
        show (if 46 = 46 then _ else _) = _
        rw [if_pos rfl]
      rw [e] at h2 h3
      have hs : 1 ≤ size := h2 size List.mem_cons_self
      have hl := szA_len l 0
      have sm := szA_sum l 0
      have pos : 1 ≤ (szA 0 l).sum := by
        cases q : szA 0 l with
        | nil => rw [q] at hl; simp at hl
        | cons x r =>
          have := h2 x (by rw [q]; simp)
          rw [List.sum_cons]
          omega
      have en : nb (46 :: l) = nb l := by simp [nb]
      rw [en] at h4
      rw [List.length_cons] at h3
      rw [if_neg (by omega), if_pos rfl, if_neg (by omega)]
      exact pfa_good l _ _ _ _ h1' (fun n hn => h2 n (List.mem_cons_of_mem _ hn)) (by omega) (by omega)
    · have e : szA size (c :: l) = szA (size + 1) l := by
        show (if c = 46 then _ else _) = _
        rw [if_neg h]
      rw [e] at h2 h3
      have en : nb (c :: l) = nb l + 1 := by
        unfold nb
        rw [List.filter_cons_of_pos (by simpa using h), List.length_cons]
      rw [en] at h4
      rw [if_neg (by omega), if_neg h]
      exact pfa_good l _ _ _ _ h1' h2 h3 (by omega)
/-- a pattern -/
structure IsP (l : List Nat) : Prop where
  sg : Sg l
  one : ∀ n ∈ szs l, 1 ≤ n
  few : (szs l).length ≤ 3
  sum : nb l ≤ 120
theorem IsP.pf {l : List Nat} (h : IsP l) : pf l = none := pfa_good l 0 0 1 0 h.sg h.one (by have := h.few; unfold szs at this; omega) (by have := h.sum; omega)
theorem len_nb : ∀ (l : List Nat) (n : Nat), l.length + 1 = nb l + (szA n l).length
  | [], n => by simp [nb, szA]
  | c :: l, n => by
    unfold szA nb
    by_cases h : c = 46
    · subst h
      rw [if_pos rfl, List.length_cons, List.length_cons, len_nb l 0]
      simp [nb]
      omega
    · rw [if_neg h, List.length_cons, len_nb l (n + 1), List.filter_cons_of_pos (by simpa using h), List.length_cons]
      unfold nb
      omega
theorem IsP.len {l : List Nat} (h : IsP l) : l.length ≤ 122 := by
  have h1 := len_nb l 0
  have h2 := h.few
  have h3 := h.sum
  unfold szs at h2
  omega
/-! two patterns of equal sizes -/
def AlS (a b : Nat) : Prop := (a = 46 ∧ b = 46) ∨ ((a = 48 ∨ a = 49) ∧ (b = 48 ∨ b = 49))
abbrev Al (l m : List Nat) : Prop := Paired AlS l m
theorem Al.szA : ∀ {l m : List Nat}, Al l m → ∀ n, Fb.szA n l = Fb.szA n m
  | _, _, .nil, n => rfl
  | a :: l, b :: m, .cons r t, n => by
    show (if a = 46 then _ else _) = (if b = 46 then _ else _)
    rcases r with ⟨rfl, rfl⟩ | ⟨h1, h2⟩
    · rw [if_pos rfl, if_pos rfl, Al.szA t 0]
    · rw [if_neg (by omega), if_neg (by omega), Al.szA t (n + 1)]
theorem Al.szs {l m : List Nat} (h : Al l m) : Fb.szs l = Fb.szs m := h.szA 0
theorem Al.nb {l m : List Nat} (h : Al l m) : Fb.nb l = Fb.nb m := by
  have h1 := szA_sum l 0
  have h2 := szA_sum m 0
  rw [h.szA 0] at h1
  omega
theorem Al.len : ∀ {l m : List Nat}, Al l m → l.length = m.length
  | _, _, .nil => rfl
  | _, _, .cons _ t => by rw [List.length_cons, List.length_cons, Al.len t]
theorem Al.sg : ∀ {l m : List Nat}, Al l m → Sg m
  | _, _, .nil => fun c hc => by simp at hc
  | _, _, .cons r t => fun c hc => by
    rcases List.mem_cons.mp hc with e | e
    · subst e
      rcases r with ⟨_, h⟩ | ⟨_, h⟩ <;> omega
    · exact Al.sg t c e
theorem Al.symm : ∀ {l m : List Nat}, Al l m → Al m l
  | _, _, .nil => .nil
  | _, _, .cons r t => .cons (by rcases r with ⟨h1, h2⟩ | ⟨h1, h2⟩; exact .inl ⟨h2, h1⟩; exact .inr ⟨h2, h1⟩) (Al.symm t)
theorem Al.refl : ∀ {l : List Nat}, Sg l → Al l l
  | [], _ => .nil
  | c :: l, h => .cons (by rcases h c List.mem_cons_self with e | e | e; exact .inr ⟨.inl e, .inl e⟩; exact .inr ⟨.inr e, .inr e⟩; exact .inl ⟨e, e⟩) (Al.refl fun d hd => h d (List.mem_cons_of_mem _ hd))
theorem Al.trans : ∀ {l m k : List Nat}, Al l m → Al m k → Al l k
  | _, _, _, .nil, .nil => .nil
  | _, _, _, .cons r t, .cons r' t' => .cons (by rcases r with ⟨h1, h2⟩ | ⟨h1, h2⟩ <;> rcases r' with ⟨h3, h4⟩ | ⟨h3, h4⟩; exact .inl ⟨h1, h4⟩; omega; omega; exact .inr ⟨h1, h4⟩) (Al.trans t t')
theorem Al.isP {l m : List Nat} (h : Al l m) (p : IsP l) : IsP m :=
  ⟨h.sg, by rw [← h.szs]; exact p.one, by rw [← h.szs]; exact p.few, by rw [← h.nb]; exact p.sum⟩
/-- sign by sign -/
def zw (f : Nat → Nat → Nat) (l m : List Nat) : List Nat := List.zipWith f l m
theorem Al.zw {f : Nat → Nat → Nat} (hf : ∀ a b, AlS a b → AlS a (f a b)) : ∀ {l m : List Nat}, Al l m → Al l (zw f l m)
  | _, _, .nil => .nil
  | _, _, .cons r t => .cons (hf _ _ r) (Al.zw hf t)
def fAnd (a b : Nat) : Nat := if a = b then a else 48
def fOr (a b : Nat) : Nat := if a = b then a else 49
def fXor (a b : Nat) : Nat := if a ≠ b then 49 else if a = 46 then 46 else 48
theorem al_and (a b : Nat) (h : AlS a b) : AlS a (fAnd a b) := by
  unfold AlS fAnd at *
  by_cases e : a = b
  · subst e; rw [if_pos rfl]; omega
  · rw [if_neg e]; omega
theorem al_or (a b : Nat) (h : AlS a b) : AlS a (fOr a b) := by
  unfold AlS fOr at *
  by_cases e : a = b
  · subst e; rw [if_pos rfl]; omega
  · rw [if_neg e]; omega
theorem al_xor (a b : Nat) (h : AlS a b) : AlS a (fXor a b) := by
  unfold AlS fXor at *
  by_cases e : a = b
  · subst e; rw [if_neg (by simp)]; by_cases q : a = 46
    · rw [if_pos q]; omega
    · rw [if_neg q]; omega
  · rw [if_pos e]; omega
/-- each sign of the one is at most the other's -/
def below (l m : List Nat) : Bool := (List.zipWith (fun a b => decide (a ≤ b)) l m).all id
theorem szA_head : ∀ (l : List Nat) (n : Nat), ∃ h r, szA n l = h :: r ∧ n ≤ h
  | [], n => ⟨n, [], rfl, Nat.le_refl _⟩
  | c :: l, n => by
    unfold szA
    by_cases h : c = 46
    · rw [if_pos h]
      exact ⟨n, _, rfl, Nat.le_refl _⟩
    · rw [if_neg h]
      obtain ⟨x, r, e, hx⟩ := szA_head l (n + 1)
      exact ⟨x, r, e, by omega⟩
theorem al_of : ∀ {l m : List Nat}, Sg l → Sg m → ∀ n, szA n l = szA n m → Al l m
  | [], [], _, _, _, _ => .nil
  | [], c :: m, _, _, n, e => by
    exfalso
    unfold szA at e
    by_cases h : c = 46
    · rw [if_pos h] at e
      have := szA_len m 0
      simp at e
      rw [e] at this
      simp at this
    · rw [if_neg h] at e
      obtain ⟨x, r, e2, hx⟩ := szA_head m (n + 1)
      rw [e2] at e
      simp at e
      omega
  | c :: l, [], _, _, n, e => by
    exfalso
    unfold szA at e
    by_cases h : c = 46
    · rw [if_pos h] at e
      have := szA_len l 0
      simp at e
      rw [e] at this
      simp at this
    · rw [if_neg h] at e
      obtain ⟨x, r, e2, hx⟩ := szA_head l (n + 1)
      rw [e2] at e
      simp at e
      omega
  | c :: l, d :: m, hl, hm, n, e => by
    have h1 : Sg l := fun x hx => hl x (List.mem_cons_of_mem _ hx)
    have h2 : Sg m := fun x hx => hm x (List.mem_cons_of_mem _ hx)
    have hc := hl c List.mem_cons_self
    have hd := hm d List.mem_cons_self
    unfold szA at e
    by_cases h : c = 46
    · by_cases h' : d = 46
      · rw [if_pos h, if_pos h'] at e
        exact .cons (.inl ⟨h, h'⟩) (al_of h1 h2 0 (List.cons.inj e).2)
      · exfalso
        rw [if_pos h, if_neg h'] at e
        obtain ⟨x, r, e2, hx⟩ := szA_head m (n + 1)
        rw [e2] at e
        have := (List.cons.inj e).1
        omega
    · by_cases h' : d = 46
      · exfalso
        rw [if_neg h, if_pos h'] at e
        obtain ⟨x, r, e2, hx⟩ := szA_head l (n + 1)
        rw [e2] at e
        have := (List.cons.inj e).1
        omega
      · rw [if_neg h, if_neg h'] at e
        exact .cons (.inr ⟨by omega, by omega⟩) (al_of h1 h2 (n + 1) e)
/-! places -/
theorem S_sgn {l : List Nat} {i c : Nat} (h : l[i]? = some c) : (⟨#[(S l).cps.getD i 0]⟩ : Str) = S [c] := by
  have e : (S l).cps.getD i 0 = c := by
    show l.toArray.getD i 0 = c
    rw [Array.getD_eq_getD_getElem?]
    simp [h]
  rw [e]
theorem join_empty : ∀ xs : List Nat, TL.joinL [] (xs.map fun c => [c]) = xs
  | [] => rfl
  | [a] => rfl
  | a :: b :: r => by
    have h := join_empty (b :: r)
    show [a] ++ [] ++ TL.joinL [] ((b :: r).map fun c => [c]) = _
    rw [h]
    rfl
theorem join_signs (xs : List Nat) : Txt.join "" (xs.map fun c => S [c]) = S xs := by
  have e : (("" : Str)) = S [] := by decide +kernel
  have h := SX.join_S [] (xs.map fun c => [c])
  rw [e]
  rw [List.map_map] at h
  rw [join_empty] at h
  exact h
theorem repl_dots : ∀ l : List Nat, StrLaws.replL [46] [] l = l.filter (fun c => c != 46)
  | [] => StrLaws.replL_nil
  | c :: l => by
    by_cases h : c = 46
    · subst h
      rw [StrLaws.replL_hit (by simp) (by simp), List.filter_cons_of_neg (by simp)]
      exact repl_dots l
    · rw [StrLaws.replL_miss (by simpa using h), List.filter_cons_of_pos (by simpa using h), repl_dots l]
theorem replace_dots (l : List Nat) : Txt.replace (S l) "." "" = S (l.filter (fun c => c != 46)) := by
  have e1 : ((".":Str)) = S [46] := by decide +kernel
  have e2 : (("" : Str)) = S [] := by decide +kernel
  rw [e1, e2]
  refine TL.ext_tl ?_
  have h := StrLaws.replace_list (x := S l) (y := S [46]) (z := S []) (by decide)
  exact h.trans (repl_dots l)
/-! the other way -/
theorem pfa_conv : ∀ (l : List Nat) (a bits blocks size : Nat), blocks ≤ 3 → bits ≤ 120 → pfa l a bits blocks size = none → Sg l ∧ (∀ n ∈ szA size l, 1 ≤ n) ∧ blocks + (szA size l).length ≤ 4 ∧ bits + nb l ≤ 120
  | [], a, bits, blocks, size, hb, hc, h => by
    unfold pfa at h
    by_cases e : size = 0
    · rw [if_pos e] at h; cases h
    · refine ⟨fun c hc => by simp at hc, fun n hn => ?_, by simp [szA]; omega, by simp [nb]; omega⟩
      have : n = size := by simpa [szA] using hn
      omega
  | c :: l, a, bits, blocks, size, hb, hc, h => by
    unfold pfa at h
    by_cases e : ¬(c = 48 ∨ c = 49 ∨ c = 46) ∨ bits = 120
    · rw [if_pos e] at h; cases h
    · rw [if_neg e] at h
      have e1 : c = 48 ∨ c = 49 ∨ c = 46 := by
        by_cases q : c = 48 ∨ c = 49 ∨ c = 46
        · exact q
        · exact absurd (.inl q) e
      have e2 : ¬ bits = 120 := fun q => e (.inr q)
      have sg : ∀ {l : List Nat}, Sg l → Sg (c :: l) := fun h d hd => by
        rcases List.mem_cons.mp hd with q | q
        · rw [q]; exact e1
        · exact h d q
      by_cases d : c = 46
      · rw [if_pos d] at h
        by_cases f : size = 0 ∨ blocks = 3
        · rw [if_pos f] at h; cases h
        · rw [if_neg f] at h
          obtain ⟨h1, h2, h3, h4⟩ := pfa_conv l _ _ _ _ (by omega) (by omega) h
          have es : szA size (c :: l) = size :: szA 0 l := by
            show (if c = 46 then _ else _) = _
            rw [if_pos d]
          have en : nb (c :: l) = nb l := by subst d; simp [nb]
          rw [es, en]
          refine ⟨sg h1, fun n hn => ?_, by rw [List.length_cons]; omega, h4⟩
          rcases List.mem_cons.mp hn with q | q
          · omega
          · exact h2 n q
      · rw [if_neg d] at h
        obtain ⟨h1, h2, h3, h4⟩ := pfa_conv l _ _ _ _ (by omega) (by omega) h
        have es : szA size (c :: l) = szA (size + 1) l := by
          show (if c = 46 then _ else _) = _
          rw [if_neg d]
        have en : nb (c :: l) = nb l + 1 := by
          unfold nb
          rw [List.filter_cons_of_pos (by simpa using d), List.length_cons]
        rw [es, en]
        exact ⟨sg h1, h2, h3, by omega⟩
theorem isP_pf {l : List Nat} (h : Fb.pf l = none) : IsP l := by
  obtain ⟨h1, h2, h3, h4⟩ := pfa_conv l 0 0 1 0 (by decide) (by decide) h
  exact ⟨h1, h2, by unfold szs; omega, by omega⟩
end Fb
set_option maxRecDepth 100000
set_option maxHeartbeats 4000000
namespace Fb
open PySem PySem.Spec PyProof.Rows L2
/-! the document's own error classes -/
abbrev bmX (fe : Addr) : List Value := [.ref fe, .type "ValueError", .type "Exception", .type "BaseException", .type "object"]
/-- what the written part says of an own error class under FallenError -/
structure XF (K : PySem.W.Frag) (mg : Str → Option Value) (fe : Addr) (x : Str) (C : Addr) : Prop where
  g : mg x = some (.ref C)
  ob : ∃ nm q N bs sn sub ab col dd k0 k1 k2 k3 k5, K.lookup C = some (excClassObj nm q C N bs (bmX fe) true sn sub ab col dd k0 k1 k2 k3 k5 "ValueError.__new__")
  kp : PySem.W.keepIn K (.ref C) = true
  ty : PySem.W.typeIn K (.ref C) = some (.type "type")
  sa : PySem.W.findIn K (.ref C) "__setattr__" = some (some (.builtin "object.__setattr__"))
  ga : PySem.W.findIn K (.ref C) "__getattribute__" = some (some (.builtin "BaseException.__getattribute__"))
  gg : PySem.W.findIn K (.ref C) "__getattr__" = some none
  ca : PySem.W.findIn K (.ref C) "__class__" = some (some (.builtin "object.__class__"))
section
variable {K : PySem.W.Frag} {mg : Str → Option Value} {fe C : Addr} {x : Str}
theorem XF.cls (T : XF K mg fe x C) : ∃ cd, PySem.W.clsIn K C = some cd ∧ cd.mro = .ref C :: bmX fe ∧ cd.hasDict = true := by
  obtain ⟨nm, q, N, bs, sn, sub, ab, col, dd, k0, k1, k2, k3, k5, h⟩ := T.ob
  exact ⟨{ name := nm, bases := bs, mro := .ref C :: bmX fe, ns := N, qualname := q, hasDict := true, slotNames := sn, subclasses := sub, abstract := ab, collection := col, hasDel := false }, by unfold PySem.W.clsIn; rw [h] <;> rfl, rfl, rfl⟩
theorem XF.mro (T : XF K mg fe x C) (b : Value) : PySem.W.mroIn K C b = some ((Value.ref C :: bmX fe).contains b) := by
  obtain ⟨cd, h1, h2, _⟩ := T.cls
  unfold PySem.W.mroIn
  rw [h1, Option.bind_some, h2] <;> rfl
theorem XF.xc (T : XF K mg fe x C) : XC K C := by
  obtain ⟨cd, h1, h2, h3⟩ := T.cls
  refine ⟨by rw [h1]; rfl, T.ga, T.gg, ?_, T.ca, ?_, by unfold PySem.W.hasDictIn; rw [h1] <;> exact h3⟩
  · show PySem.W.mroIn K C _ = _
    rw [T.mro] <;> simp
  · rw [T.mro] <;> simp
theorem XF.oc (T : XF K mg fe x C) : OexC K C := by
  obtain ⟨nm, q, N, bs, sn, sub, ab, col, dd, k0, k1, k2, k3, k5, h⟩ := T.ob
  exact ⟨⟨nm, q, N, bs, bmX fe, sn, sub, ab, col, dd, k0, k1, k2, k3, k5, h, by rfl⟩, T.sa, T.xc.sb, T.ty, T.kp⟩
/-- isinstance(e, D), e of the class at C, D at another address that is a class too -/
theorem XF.is {D : Addr} {y : Str} (T : XF K mg fe x C) (U : XF K mg fe y D) (hf : D ≠ fe) : PySem.W.kitOne K (.ref C) (.ref D) = some (decide (C = D)) := by
  unfold PySem.W.kitOne
  by_cases e : C = D
  · subst e
    simp
  · have e1 : (Value.ref C == Value.ref D) = false := beq_eq_false_iff_ne.mpr fun z => e (Value.ref.inj z)
    rw [e1, if_neg Bool.false_ne_true, decide_eq_false e]
    unfold PySem.W.kitCls
    have e2 : ((PySem.W.clsIn K D).isSome && PySem.W.typeIn K (.ref D) == some (.type "type")) = true := by
      rw [U.xc.cl, U.ty] <;> rfl
    show (if ((PySem.W.clsIn K D).isSome && PySem.W.typeIn K (.ref D) == some (.type "type")) = true then PySem.W.subIn K (.ref C) (.ref D) else none) = _
    rw [if_pos e2]
    show PySem.W.mroIn K C (.ref D) = _
    rw [T.mro]
    have e3 : (Value.ref D == Value.ref C) = false := beq_eq_false_iff_ne.mpr fun z => e (Value.ref.inj z).symm
    have e4 : (Value.ref D == Value.ref fe) = false := beq_eq_false_iff_ne.mpr fun z => hf (Value.ref.inj z)
    have e5 : ∀ T : String, (Value.ref D == Value.type T) = false := fun T => rfl
    simp [List.contains, List.elem, e3, e4, e5]
theorem XF.isF (T : XF K mg fe x C) (hc : (PySem.W.clsIn K fe).isSome = true) (ht : PySem.W.typeIn K (.ref fe) = some (.type "type")) : PySem.W.kitOne K (.ref C) (.ref fe) = some true := by
  unfold PySem.W.kitOne
  by_cases e : C = fe
  · subst e
    simp
  · have e1 : (Value.ref C == Value.ref fe) = false := beq_eq_false_iff_ne.mpr fun z => e (Value.ref.inj z)
    rw [e1, if_neg Bool.false_ne_true]
    have e2 : ((PySem.W.clsIn K fe).isSome && PySem.W.typeIn K (.ref fe) == some (.type "type")) = true := by
      rw [hc, ht] <;> rfl
    show (if ((PySem.W.clsIn K fe).isSome && PySem.W.typeIn K (.ref fe) == some (.type "type")) = true then PySem.W.subIn K (.ref C) (.ref fe) else none) = _
    rw [if_pos e2]
    show PySem.W.mroIn K C (.ref fe) = _
    rw [T.mro]
    simp
theorem XF.isV (T : XF K mg fe x C) : PySem.W.kitOne K (.ref C) (.type "ValueError") = some true := by
  unfold PySem.W.kitOne
  have e1 : (Value.ref C == Value.type "ValueError") = false := by rfl
  rw [e1, if_neg Bool.false_ne_true]
  show (if PySem.W.kitMeta "ValueError" = true then PySem.W.subIn K (.ref C) (.type "ValueError") else none) = _
  rw [if_pos (by decide +kernel)]
  show PySem.W.mroIn K C _ = _
  rw [T.mro]
  simp
end
theorem XF.of {K : PySem.W.Frag} {h : Heap} {mg : Str → Option Value} {fe C N : Addr} {x nm q : Str} {bs : List Value} {sn : List Str} {sub : List Value} {ab : Bool} {col : Option Bool} {dd : Option Addr} {k0 k1 k2 k3 k5 : Option Value} (X : K.In h) (G : h.Ns mainGlobals mg)
    (g : PySem.W.nsIn K mainGlobals x = some (some (.ref C))) (ob : K.lookup C = some (excClassObj nm q C N bs (bmX fe) true sn sub ab col dd k0 k1 k2 k3 k5 "ValueError.__new__")) (kp : PySem.W.keepIn K (.ref C) = true) (ty : PySem.W.typeIn K (.ref C) = some (.type "type"))
    (sa : PySem.W.findIn K (.ref C) "__setattr__" = some (some (.builtin "object.__setattr__"))) (ga : PySem.W.findIn K (.ref C) "__getattribute__" = some (some (.builtin "BaseException.__getattribute__"))) (gg : PySem.W.findIn K (.ref C) "__getattr__" = some none)
    (ca : PySem.W.findIn K (.ref C) "__class__" = some (some (.builtin "object.__class__"))) : XF K mg fe x C :=
  ⟨PySem.W.mg_of X G g, ⟨nm, q, N, bs, sn, sub, ab, col, dd, k0, k1, k2, k3, k5, ob⟩, kp, ty, sa, ga, gg, ca⟩
/-! isinstance of an exception that was caught and is kept -/
section
variable {X : Cx} {pins : List (Addr × Obj)} {σ : L2.St} {H : Hp} {s : Shared}
theorem exr_inst {a C : Addr} (I : Inv X pins σ H s) (h : H a = some (ExR (.ref C) none a)) : ∃ ox, PySem.W.InstAt s.heap a ox C none := by
  obtain ⟨⟨oe, vs, ho, h1, h2, h3⟩, _, _⟩ := I.hok a _ h
  refine ⟨oe, ho, h1, ?_, ?_⟩
  · unfold PySem.W.notCls; rw [h3] <;> rfl
  · rw [h2] <;> trivial
def rIsR (K : PySem.W.Frag) : List V → Hp → VK → Prop := fun xs H Q => ∃ (a C : Addr) (c : V) (cv : Value) (b : Bool), xs = [.ref a, c] ∧ XC K C ∧ XB K ∧ H a = some (ExR (.ref C) none a) ∧ ClsV c cv ∧ PySem.W.kitOne K (.ref C) cv = some b ∧ Q (.bl b) H
theorem call_isR : CallR X (.builtin "isinstance") (rIsR X.K) := by
  intro pins s σ H xs us Q I r h
  obtain ⟨a, C, c, cv, b, rfl, T, B, hE, k, e, q⟩ := h
  obtain ⟨u1, u2, rfl, r1, r2⟩ := vals2 r
  have e2 := k.eq r2
  subst e2
  cases (show u1 = Value.ref a from r1)
  obtain ⟨ox, J⟩ := exr_inst I hE
  exact PySem.W.kia_one (PySem.W.kitx_exc T.cl T.ga T.gg T.sb T.ca B.hn B.ht T.ob) I.kIn J e (fun z => nomatch z) fun tk => ⟨.bl b, H, I.tok tk, rfl, q⟩
end
/-- an own __init__ of one field -/
def spI1 (C : Addr) (f : Str) : Sp := fun vs H Q _ => ∃ (a : Addr) (v : V), vs = [.ref a, v] ∧ H a = some (exo a C none) ∧ ∀ d, H d = none → d ≠ a → Q .non (upd (upd H d (exd d [(f, v)])) a (exo a C (some d)))
end Fb
set_option maxRecDepth 100000
set_option maxHeartbeats 4000000
namespace Fb
open PySem PySem.Spec PyProof.Rows L2
/-! list comprehensions that leave what was: the list so far is told by a function of the turn -/
section
variable {g : TG} {tt : TT} {te : TE} {vs : List Nat} {σ : L2.St} {H1 : Hp} {D : Addr} {Qd : Hp → Prop} (out : Nat → List V)
def OutI (H1 : Hp) (D : Addr) (o : List V) (H : Hp) : Prop := Same H1 H ∧ H D = some (.lst o)
theorem OutI.start {H1 : Hp} {D : Addr} (hD : H1 D = none) : OutI H1 D [] (upd H1 D (.lst [])) := ⟨smN (Same.refl _) hD, upd_same⟩
theorem OutI.put {H1 H H4 : Hp} {D : Addr} {o : List V} {y : V} (hD : H1 D = none) (h : OutI H1 D o H) (s : Same H H4) : OutI H1 D (o ++ [y]) (upd H4 D (.lst (o ++ [y]))) :=
  ⟨fun b u e => by rw [upd_ne (ne_of_none e hD)]; exact s _ _ (h.1 _ _ e), upd_same⟩
theorem OutI.stay {H1 H H4 : Hp} {D : Addr} {o : List V} (h : OutI H1 D o H) (s : Same H H4) : OutI H1 D o H4 := ⟨h.1.trans s, s _ _ h.2⟩
theorem lc_outL {K : PySem.W.Frag} {a : Addr} {xs : List V} (hD : H1 D = none) (hl : SqL K H1 a xs) (o0 : out 0 = []) (ol : ∀ i, i < xs.length → (out i).length < sizeLine)
    (hs : ∀ i x H (Kc : V → Hp → Prop) (K0 : Hp → Prop), xs[i]? = some x → Same H1 H → (∀ y H4, Same H H4 → out (i + 1) = out i ++ [y] → Kc y H4) → (∀ H4, Same H H4 → out (i + 1) = out i → K0 H4) →
      g x (wipe σ vs) H fun σ2 H2 => wipe σ2 vs = wipe σ vs ∧ tt σ2 H2 fun b H3 => if b = true then te σ2 H3 Kc else K0 H3)
    (hd : ∀ H, Same H1 H → H D = some (.lst (out xs.length)) → Qd H) :
    ∃ W : Nat → Nat → Hp → Prop, (∃ m, W 0 m (upd H1 D (.lst []))) ∧ ∀ i m H, W i m H →
      ((Itl K a).stop i H ∧ Qd H) ∨ ((Itl K a).go i H ∧ ∃ Nx : Hp → Prop, (∀ H', Nx H' → ∃ m', m' < m ∧ W (i + 1) m' H') ∧ ∀ x H', (Itl K a).yld i H x H' → g x (wipe σ vs) H' fun σ2 H2 => wipe σ2 vs = wipe σ vs ∧ tt σ2 H2 fun b H3 =>
        if b = true then te σ2 H3 fun y H4 => ∃ acc, H4 D = some (.lst acc) ∧ acc.length < sizeLine ∧ Nx (upd H4 D (.lst (acc ++ [y]))) else Nx H3) := by
  refine lc_list (xs := xs) (fun i H => OutI H1 D (out i) H) (by rw [o0]; exact OutI.start hD) (fun i H _ h => h.1.seq hl) (fun i x H e h => ?_) (fun H h => hd H h.1 h.2)
  have lt : i < xs.length := (List.getElem?_eq_some_iff.mp e).1
  exact hs i x H _ _ e h.1 (fun y H4 s q => ⟨out i, (h.stay s).2, ol i lt, by rw [q]; exact h.put hD s⟩) (fun H4 s q => by rw [q]; exact h.stay s)
theorem lc_outT {vals : Nat → List V} {n : Nat} (hD : H1 D = none) (o0 : out 0 = []) (ol : ∀ i, i < n → (out i).length < sizeLine)
    (hs : ∀ i T H (Kc : V → Hp → Prop) (K0 : Hp → Prop), i < n → Same H1 H → H T = some (.tup (vals i)) → (∀ y H4, Same H H4 → out (i + 1) = out i ++ [y] → Kc y H4) → (∀ H4, Same H H4 → out (i + 1) = out i → K0 H4) →
      g (.ref T) (wipe σ vs) H fun σ2 H2 => wipe σ2 vs = wipe σ vs ∧ tt σ2 H2 fun b H3 => if b = true then te σ2 H3 Kc else K0 H3)
    (hd : ∀ H, Same H1 H → H D = some (.lst (out n)) → Qd H) :
    ∃ W : Nat → Nat → Hp → Prop, (∃ m, W 0 m (upd H1 D (.lst []))) ∧ ∀ i m H, W i m H →
      ((ItT vals n).stop i H ∧ Qd H) ∨ ((ItT vals n).go i H ∧ ∃ Nx : Hp → Prop, (∀ H', Nx H' → ∃ m', m' < m ∧ W (i + 1) m' H') ∧ ∀ x H', (ItT vals n).yld i H x H' → g x (wipe σ vs) H' fun σ2 H2 => wipe σ2 vs = wipe σ vs ∧ tt σ2 H2 fun b H3 =>
        if b = true then te σ2 H3 fun y H4 => ∃ acc, H4 D = some (.lst acc) ∧ acc.length < sizeLine ∧ Nx (upd H4 D (.lst (acc ++ [y]))) else Nx H3) := by
  refine lc_T (fun i H => OutI H1 D (out i) H) (by rw [o0]; exact OutI.start hD) (fun i T H lt h hT => ?_) (fun H h => hd H h.1 h.2)
  have s0 : Same H (upd H T (.tup (vals i))) := smN (Same.refl _) hT
  exact hs i T _ _ _ lt (h.1.trans s0) upd_same (fun y H4 s q => ⟨out i, (h.stay (s0.trans s)).2, ol i lt, by rw [q]; exact h.put hD (s0.trans s)⟩) (fun H4 s q => by rw [q]; exact h.stay (s0.trans s))
theorem lc_outR {lo : Int} {n : Nat} (hD : H1 D = none) (o0 : out 0 = []) (ol : ∀ i, i < n → (out i).length < sizeLine)
    (hs : ∀ i H (Kc : V → Hp → Prop) (K0 : Hp → Prop), i < n → Same H1 H → (∀ y H4, Same H H4 → out (i + 1) = out i ++ [y] → Kc y H4) → (∀ H4, Same H H4 → out (i + 1) = out i → K0 H4) →
      g (.int (lo + i)) (wipe σ vs) H fun σ2 H2 => wipe σ2 vs = wipe σ vs ∧ tt σ2 H2 fun b H3 => if b = true then te σ2 H3 Kc else K0 H3)
    (hd : ∀ H, Same H1 H → H D = some (.lst (out n)) → Qd H) :
    ∃ W : Nat → Nat → Hp → Prop, (∃ m, W 0 m (upd H1 D (.lst []))) ∧ ∀ i m H, W i m H →
      ((Itr lo n).stop i H ∧ Qd H) ∨ ((Itr lo n).go i H ∧ ∃ Nx : Hp → Prop, (∀ H', Nx H' → ∃ m', m' < m ∧ W (i + 1) m' H') ∧ ∀ x H', (Itr lo n).yld i H x H' → g x (wipe σ vs) H' fun σ2 H2 => wipe σ2 vs = wipe σ vs ∧ tt σ2 H2 fun b H3 =>
        if b = true then te σ2 H3 fun y H4 => ∃ acc, H4 D = some (.lst acc) ∧ acc.length < sizeLine ∧ Nx (upd H4 D (.lst (acc ++ [y]))) else Nx H3) := by
  refine lc_range (fun i H => OutI H1 D (out i) H) (by rw [o0]; exact OutI.start hD) (fun i H lt h => ?_) (fun H h => hd H h.1 h.2)
  exact hs i H _ _ lt h.1 (fun y H4 s q => ⟨out i, (h.stay s).2, ol i lt, by rw [q]; exact h.put hD s⟩) (fun H4 s q => by rw [q]; exact h.stay s)
end
theorem iteNo {A B : Prop} (h : B) : if false = true then A else B := by
  rw [if_neg Bool.false_ne_true]
  exact h
theorem yes1 {A B : Hp → Prop} {σ : L2.St} {H : Hp} (h : A H) : tYes σ H (fun b H3 => if b = true then A H3 else B H3) := by
  show (if true = true then A H else B H)
  rw [if_pos rfl]
  exact h
/-- the list so far, item by item -/
def outM (f : Nat → V) (i : Nat) : List V := (List.range i).map f
theorem outM_0 {f : Nat → V} : outM f 0 = [] := rfl
theorem outM_s {f : Nat → V} {i : Nat} : outM f (i + 1) = outM f i ++ [f i] := by unfold outM; rw [List.range_succ, List.map_append]; rfl
theorem outM_l {f : Nat → V} {i : Nat} : (outM f i).length = i := by unfold outM; simp
/-- .. of those that are kept -/
def outF (p : Nat → Bool) (f : Nat → V) (i : Nat) : List V := ((List.range i).filter p).map f
theorem outF_0 {p : Nat → Bool} {f : Nat → V} : outF p f 0 = [] := rfl
theorem outF_t {p : Nat → Bool} {f : Nat → V} {i : Nat} (h : p i = true) : outF p f (i + 1) = outF p f i ++ [f i] := by unfold outF; rw [List.range_succ, List.filter_append, List.map_append]; simp [h]
theorem outF_f {p : Nat → Bool} {f : Nat → V} {i : Nat} (h : p i = false) : outF p f (i + 1) = outF p f i := by unfold outF; rw [List.range_succ, List.filter_append, List.map_append]; simp [h]
theorem outF_l {p : Nat → Bool} {f : Nat → V} {i : Nat} : (outF p f i).length ≤ i := by
  unfold outF
  rw [List.length_map]
  exact Nat.le_trans (List.length_filter_le _ _) (by simp)
end Fb
set_option maxRecDepth 100000
set_option maxHeartbeats 4000000
namespace Fb
open PySem PySem.Spec PyProof.Rows L2
/-! flat data -/
def numD (ns : List Nat) : List PyData := ns.map fun n => .int (n : Nat)
def nums (ns : List Nat) : List V := ns.map fun n => V.int (n : Nat)
def boolD (bs : List Bool) : List PyData := bs.map .bool
def bools (bs : List Bool) : List V := bs.map V.bl
section
variable {K : PySem.W.Frag} {H : Hp}
theorem dp_nums : ∀ ns : List Nat, DpAll K H (nums ns) (numD ns)
  | [] => .nil
  | n :: ns => .cons (.int _) (dp_nums ns)
theorem dp_bls : ∀ bs : List Bool, DpAll K H (bools bs) (boolD bs)
  | [] => .nil
  | b :: bs => .cons (.bl b) (dp_bls bs)
end
theorem lay_nums : ∀ ns : List Nat, PyData.canLayAll0 (numD ns) = true ∧ PyData.depthAll (numD ns) = 0
  | [] => ⟨rfl, rfl⟩
  | n :: ns => by
    obtain ⟨h1, h2⟩ := lay_nums ns
    unfold numD at *
    rw [List.map_cons]
    constructor
    · rw [PyData.canLayAll0, h1] <;> rfl
    · rw [PyData.depthAll, h2] <;> rfl
theorem lay_bools : ∀ ns : List Bool, PyData.canLayAll0 (boolD ns) = true ∧ PyData.depthAll (boolD ns) = 0
  | [] => ⟨rfl, rfl⟩
  | n :: ns => by
    obtain ⟨h1, h2⟩ := lay_bools ns
    unfold boolD at *
    rw [List.map_cons]
    constructor
    · rw [PyData.canLayAll0, h1] <;> rfl
    · rw [PyData.depthAll, h2] <;> rfl
theorem shaped_tup {ds : List PyData} (h : PyData.canLayAll0 ds = true ∧ PyData.depthAll ds = 0) : SeqAt.shaped (.tuple ds) = true := by
  unfold SeqAt.shaped
  rw [PyData.canLay0, PyData.depth, h.1, h.2]
  rfl
theorem shaped_lst {ds : List PyData} (h : PyData.canLayAll0 ds = true ∧ PyData.depthAll ds = 0) : SeqAt.shaped (.list ds) = true := by
  unfold SeqAt.shaped
  rw [PyData.canLay0, PyData.depth, h.1, h.2]
  rfl
theorem eqv_nums : ∀ ns ms : List Nat, PyData.eqvAll (numD ns) (numD ms) = decide (ns = ms)
  | [], [] => by simp [numD, PyData.eqvAll]
  | [], _ :: _ => by simp [numD, PyData.eqvAll]
  | _ :: _, [] => by simp [numD, PyData.eqvAll]
  | n :: ns, m :: ms => by
    have h := eqv_nums ns ms
    unfold numD at *
    rw [List.map_cons, List.map_cons, PyData.eqvAll, h, PyData.eqv]
    by_cases e : n = m
    · subst e
      simp
    · have e2 : ¬ ((n : Int) = (m : Int)) := by omega
      simp [e, e2]
theorem eqv_numT (ns ms : List Nat) : PyData.eqv (.tuple (numD ns)) (.tuple (numD ms)) = decide (ns = ms) := by rw [PyData.eqv, eqv_nums]
theorem eqv_numL (ns ms : List Nat) : PyData.eqv (.list (numD ns)) (.list (numD ms)) = decide (ns = ms) := by rw [PyData.eqv, eqv_nums]
mutual
theorem dp_same {K : PySem.W.Frag} {H H' : Hp} (s : Same H H') : ∀ (d : PyData) {v : V}, Dp K H v d → Dp K H' v d
  | _, _, .non => .non
  | _, _, .bl b => .bl b
  | _, _, .int i => .int i
  | _, _, .str x => .str x
  | .list ds, _, .lst h a => .lst (s.seq h) (dp_sameAll s ds a)
  | .tuple ds, _, .tup h a => .tup (by
      rcases h with (h | ⟨o, h⟩) | h
      · exact .inl (.inl (s _ _ h))
      · exact .inl (.inr ⟨o, s _ _ h⟩)
      · exact .inr h) (dp_sameAll s ds a)
theorem dp_sameAll {K : PySem.W.Frag} {H H' : Hp} (s : Same H H') : ∀ (ds : List PyData) {vs : List V}, DpAll K H vs ds → DpAll K H' vs ds
  | _, _, .nil => .nil
  | d :: ds, _, .cons h t => .cons (dp_same s d h) (dp_sameAll s ds t)
end
theorem sqT_same {K : PySem.W.Frag} {H H' : Hp} (s : Same H H') {a : Addr} {xs : List V} (h : SqT K H a xs) : SqT K H' a xs := by
  rcases h with (h | ⟨o, h⟩) | h
  · exact .inl (.inl (s _ _ h))
  · exact .inl (.inr ⟨o, s _ _ h⟩)
  · exact .inr h
theorem outM_all {ys : List V} {f : Nat → V} {n : Nat} (hn : n = ys.length) (h : ∀ i, i < n → ys[i]? = some (f i)) : outM f n = ys := by
  subst hn
  unfold outM
  refine List.ext_getElem? fun i => ?_
  by_cases hi : i < ys.length
  · rw [List.getElem?_map, List.getElem?_range hi, h i hi] <;> rfl
  · rw [List.getElem?_eq_none (by simpa using hi), List.getElem?_eq_none (by omega)]
/-- one sign is at most another -/
theorem sign_lt (a b : Nat) : (([b] : List Nat) < [a]) ↔ b < a := by
  rw [List.cons_lt_cons_iff]
  simp
theorem sign_le (a b : Nat) : (!decide (([b] : List Nat) < [a])) = decide (a ≤ b) := by
  by_cases h : b < a
  · rw [decide_eq_true ((sign_lt a b).mpr h), decide_eq_false (by omega)] <;> rfl
  · rw [decide_eq_false (fun z => h ((sign_lt a b).mp z)), decide_eq_true (by omega)] <;> rfl
/-! within a comprehension: readings that name the written part by itself -/
section
variable {X : Cx} {o e : Expr} {es : List Expr} {to : TE} {t : TA} {apos cpos : Pos} {K : PySem.W.Frag}
def rJn (K : PySem.W.Frag) : V → List V → Hp → VK → Prop := fun x xs H Q => ∃ a p, ∃ ys : List Str, x = .str a ∧ xs = [.ref p] ∧ (SqL K H p (ys.map V.str) ∨ SqT K H p (ys.map V.str)) ∧
    (ys.map (·.length)).sum + ys.length * a.length ≤ 16777216 ∧ Q (.str (Txt.join a ys)) H
theorem pe_joinK (hK : X.K = K) (ho : PE X o to) (ha : PA X (e :: es) t)
    (hbase : attributeBase o "join" X.env (eval o X.env) = eval o X.env := by rfl)
    (hfew : ((backTo cpos (starEach (e :: es) X.env)).all (fun x => !x.1) && (backToKw cpos (keywordEach [] X.env)).all (fun x => x.1.isSome)
      && decide ((e :: es).length + ([] : List Keyword).length + (if ([] : List Keyword).isEmpty then 0 else 1) < 30)) = true := by rfl)
    (hline : (apos.endLine == cpos.line) = true := by rfl) (hs : starEach (e :: es) X.env = (false, eval e X.env) :: starEach es X.env := by rfl) (hplain : (backTo cpos (starEach es X.env)).any (·.1) = false := by rfl) :
    PE X (.Call (.Attribute o "join" apos) (e :: es) [] cpos) (tBM K "str" (rJn K) to t) := by
  subst hK
  exact pe_bm PySem.F.plainAttrs_str PySem.F.slot_str_join PySem.F.type_str_join mt_join ho ha hbase hfew hline hs hplain
end
end Fb
set_option maxRecDepth 100000
set_option maxHeartbeats 4000000
namespace Fb
open PySem PySem.Spec PyProof.Rows L2
open SX (S)
/-! what the laws' own drawing defs need -/
/-- all but p is as it was -/
def But (p : Addr) (H H' : Hp) : Prop := ∀ c o, c ≠ p → H c = some o → H' c = some o
section
variable {H H1 H2 : Hp} {p : Addr}
theorem But.refl : But p H H := fun _ _ _ h => h
theorem But.trans (a : But p H H1) (b : But p H1 H2) : But p H H2 := fun c o n h => b c o n (a c o n h)
theorem But.of (s : Same H H1) : But p H H1 := fun c o _ h => s c o h
theorem But.took (k : ∀ c, c ≠ p → H1 c = H c) : But p H H1 := fun c o n h => by rw [k c n]; exact h
theorem But.new {q : Addr} {o : HO} (b : But p H H1) (h : H1 q = none) : But p H (upd H1 q o) := fun c u n e => by
  have e1 := b c u n e
  rw [upd_ne (ne_of_none e1 h)]
  exact e1
/-- a list that is not tracked at the start is stored to -/
theorem But.put {q : Addr} {o : HO} (b : But p H H1) (h : H q = none) : But p H (upd H1 q o) := fun c u n e => by
  rw [upd_ne (ne_of_none e h)]
  exact b c u n e
theorem PenL.new {l : Addr} {n : Nat} {q : Addr} {o : HO} (h : PenL H p l n) (hq : H q = none) : PenL (upd H q o) p l n := h.same (smN (Same.refl _) hq)
theorem PenL.put {l : Addr} {n : Nat} {q : Addr} {o : HO} (h : PenL H p l n) (n1 : p ≠ q) (n2 : l ≠ q) : PenL (upd H q o) p l n := by
  obtain ⟨cs, a, r, f, e, e2, h3⟩ := h
  exact ⟨cs, a, r, f, by rw [upd_ne n1]; exact e, by rw [upd_ne n2]; exact e2, h3⟩
theorem PenL.nep {l : Addr} {n : Nat} {q : Addr} (h : PenL H p l n) (hq : H q = none) : p ≠ q := by
  obtain ⟨cs, a, r, f, e, e2, h3⟩ := h
  exact ne_of_none e hq
theorem PenL.nel {l : Addr} {n : Nat} {q : Addr} (h : PenL H p l n) (hq : H q = none) : l ≠ q := by
  obtain ⟨cs, a, r, f, e, e2, h3⟩ := h
  exact ne_of_none e2 hq
end
/-! a walk over a text -/
theorem for_S {l : List Nat} {g : TG} {tb : TS} {D : Ends} {σ : L2.St} {H : Hp} (Pv : Nat → L2.St → Hp → Prop) (h0 : Pv 0 σ H)
    (hs : ∀ i c σ H, l[i]? = some c → Pv i σ H → g (.str (S [c])) σ H fun σ2 H2 => tb { D with nx := Pv (i + 1), ct := Pv (i + 1), bk := D.nx } σ2 H2) (hd : ∀ σ H, Pv l.length σ H → D.nx σ H) :
    ∃ W : Nat → Nat → L2.St → Hp → Prop, (∃ m, W 0 m σ H) ∧ ∀ i m σ H, W i m σ H →
      ((Its (S l)).stop i H ∧ D.nx σ H) ∨ ((Its (S l)).go i H ∧ ∃ N : L2.St → Hp → Prop, (∀ σ' H', N σ' H' → ∃ m', m' < m ∧ W (i + 1) m' σ' H') ∧ ∀ x H', (Its (S l)).yld i H x H' → g x σ H' fun σ2 H2 => tb { D with nx := N, ct := N, bk := D.nx } σ2 H2) := by
  have hz : (S l).cps.size = l.length := by simp [S]
  refine ⟨fun i m σ H => i + m = l.length ∧ Pv i σ H, ⟨l.length, by omega, h0⟩, fun i m σ H ⟨hm, p⟩ => ?_⟩
  by_cases lt : i < l.length
  · refine Or.inr ⟨by show i < (S l).cps.size; omega, Pv (i + 1), fun σ' H' p' => ⟨m - 1, by omega, by omega, p'⟩, ?_⟩
    rintro x H' ⟨eH, c, hc, rfl⟩
    subst eH
    have e : l[i]? = some c := by simpa [S] using hc
    exact hs i c σ _ e p
  · obtain rfl : i = l.length := by omega
    exact Or.inl ⟨by show (S l).cps.size ≤ _; omega, hd σ H p⟩
/-! mathematics of drawn patterns -/
theorem Al.snoc : ∀ {l m : List Nat} {a b : Nat}, Al l m → AlS a b → Al (l ++ [a]) (m ++ [b])
  | _, _, _, _, .nil, r => .cons r .nil
  | _, _, _, _, .cons r t, q => .cons r (Al.snoc t q)
theorem take_s {l : List Nat} {i c : Nat} (h : l[i]? = some c) : l.take (i + 1) = l.take i ++ [c] := by
  rw [List.take_add_one, h] <;> rfl
theorem Al.at : ∀ {l m : List Nat} {i a : Nat}, Al l m → l[i]? = some a → ∃ b, m[i]? = some b ∧ AlS a b
  | _, _, _, _, .nil, e => by simp at e
  | _, _, 0, _, .cons r _, e => by simp at e; subst e; exact ⟨_, rfl, r⟩
  | _, _, i + 1, _, .cons _ t, e => by
    obtain ⟨b, h1, h2⟩ := Al.at (i := i) t (by simpa using e)
    exact ⟨b, by simpa using h1, h2⟩
theorem zw_take {f : Nat → Nat → Nat} {l m : List Nat} {i a b : Nat} (h1 : l[i]? = some a) (h2 : m[i]? = some b) : zw f (l.take (i + 1)) (m.take (i + 1)) = zw f (l.take i) (m.take i) ++ [f a b] := by
  rw [take_s h1, take_s h2]
  unfold zw
  have hl : i < l.length := (List.getElem?_eq_some_iff.mp h1).1
  have hm : i < m.length := (List.getElem?_eq_some_iff.mp h2).1
  rw [List.zipWith_append (by rw [List.length_take, List.length_take]; omega)]
  rfl
theorem sg_join : ∀ {bs : List (List Nat)}, (∀ b ∈ bs, ∀ c ∈ b, c = 48 ∨ c = 49) → Sg (TL.joinL [46] bs)
  | [], _ => fun c hc => by simp [TL.joinL] at hc
  | [b], h => fun c hc => by
    have := h b (by simp) c (by simpa [TL.joinL] using hc)
    omega
  | b :: d :: r, h => fun c hc => by
    have hc' : c ∈ b ++ ([46] ++ TL.joinL [46] (d :: r)) := hc
    rw [List.mem_append, List.mem_append] at hc'
    rcases hc' with q | q | q
    · have := h b List.mem_cons_self c q
      omega
    · have := List.mem_singleton.mp q
      omega
    · exact sg_join (fun x hx => h x (List.mem_cons_of_mem _ hx)) c q
theorem szs_join {bs : List (List Nat)} (hne : bs ≠ []) (h : ∀ b ∈ bs, ∀ c ∈ b, c = 48 ∨ c = 49) : szs (TL.joinL [46] bs) = bs.map List.length := by
  have e := spl_len (TL.joinL [46] bs) []
  rw [SX.spl_join hne (fun p hp hm => by have := h p hp 46 hm; omega)] at e
  exact e.symm
theorem isP_of {l ss : List Nat} {M : Nat} (hs : Sg l) (hz : szs l = ss) (h3 : ss.length ≤ 3) (h1 : ∀ s ∈ ss, 1 ≤ s ∧ s ≤ M) (hM : M ≤ 40) : IsP l := by
  refine ⟨hs, by rw [hz]; exact fun n hn => (h1 n hn).1, by rw [hz]; exact h3, ?_⟩
  have e := szA_sum l 0
  have e2 : (szA 0 l) = ss := hz
  rw [e2] at e
  have : ss.sum ≤ ss.length * M := by
    clear e e2 hz h3
    induction ss with
    | nil => simp
    | cons s ss ih =>
      have := ih fun x hx => h1 x (List.mem_cons_of_mem _ hx)
      have h2 := (h1 s List.mem_cons_self).2
      rw [List.sum_cons, List.length_cons, Nat.succ_mul]
      omega
  have h5 : ss.length * M ≤ 3 * 40 := Nat.mul_le_mul h3 hM
  omega
/-- no bit stands in the one and has fallen in the other -/
def upP (l m : List Nat) (k : Nat) : Bool := decide (l.getD k 0 = 49) && decide (m.getD k 0 = 48)
theorem below_nil : ∀ {l m : List Nat}, Al l m → below l m = decide ((List.range l.length).filter (upP l m) = [])
  | [], [], .nil => rfl
  | a :: l, b :: m, .cons r t => by
    have ih := below_nil t
    have e1 : below (a :: l) (b :: m) = (decide (a ≤ b) && below l m) := rfl
    have e2 : (List.range (a :: l).length).filter (upP (a :: l) (b :: m)) = (if upP (a :: l) (b :: m) 0 = true then [0] else []) ++ ((List.range l.length).filter (upP l m)).map (· + 1) := by
      rw [List.length_cons, List.range_succ_eq_map, List.filter_cons]
      have : (List.map Nat.succ (List.range l.length)).filter (upP (a :: l) (b :: m)) = ((List.range l.length).filter (upP l m)).map (· + 1) := by
        rw [List.filter_map]
        have hf : (upP (a :: l) (b :: m) ∘ Nat.succ) = upP l m := by
          funext k
          simp [upP]
        rw [hf]
      split <;> simp [this]
    rw [e1, ih, e2]
    have u : upP (a :: l) (b :: m) 0 = (decide (a = 49) && decide (b = 48)) := by simp [upP]
    rw [u]
    by_cases h : a ≤ b
    · have : (decide (a = 49) && decide (b = 48)) = false := by
        by_cases q : a = 49
        · have : ¬ b = 48 := by omega
          simp [this]
        · simp [q]
      rw [this]
      simp [h]
    · have : (decide (a = 49) && decide (b = 48)) = true := by
        have h1 : a = 49 ∧ b = 48 := by unfold AlS at r; omega
        simp [h1.1, h1.2]
      rw [this]
      simp [h]
/-- the sign where so many of the two stand -/
def fC (cs : List Nat) (a b : Nat) : Nat := if a = 46 then 46 else if (if a = 49 then 1 else 0) + (if b = 49 then 1 else 0) ∈ cs then 49 else 48
theorem zw_congr {f g : Nat → Nat → Nat} (h : ∀ a b, AlS a b → f a b = g a b) : ∀ {l m : List Nat}, Al l m → zw f l m = zw g l m
  | _, _, .nil => rfl
  | _, _, .cons r t => by
    show f _ _ :: zw f _ _ = g _ _ :: zw g _ _
    rw [h _ _ r, zw_congr h t]
theorem fC_and (a b : Nat) (h : AlS a b) : fC [2] a b = fAnd a b := by
  unfold fC fAnd
  rcases h with ⟨rfl, rfl⟩ | ⟨h1, h2⟩
  · rfl
  · rcases h1 with rfl | rfl <;> rcases h2 with rfl | rfl <;> decide
theorem fC_or (a b : Nat) (h : AlS a b) : fC [1, 2] a b = fOr a b := by
  unfold fC fOr
  rcases h with ⟨rfl, rfl⟩ | ⟨h1, h2⟩
  · rfl
  · rcases h1 with rfl | rfl <;> rcases h2 with rfl | rfl <;> decide
theorem fC_xor (a b : Nat) (h : AlS a b) : fC [1] a b = fXor a b := by
  unfold fC fXor
  rcases h with ⟨rfl, rfl⟩ | ⟨h1, h2⟩
  · rfl
  · rcases h1 with rfl | rfl <;> rcases h2 with rfl | rfl <;> decide
theorem inV_nums (j : Nat) : ∀ cs : List Nat, inV (.int (j : Nat)) (nums cs) = decide (j ∈ cs)
  | [] => by simp [inV, nums]
  | c :: cs => by
    have ih := inV_nums j cs
    unfold inV nums at *
    rw [List.map_cons, List.any_cons, ih]
    show ((c : Int) == (j : Int) || _) = _
    by_cases h : j = c
    · subst h; simp
    · have h2 : ¬ ((c : Int) = (j : Int)) := by omega
      have h3 : ((c : Int) == (j : Int)) = false := by simpa using h2
      rw [h3]
      simp [h]
theorem flat_nums : ∀ cs : List Nat, (nums cs).all flatV = true
  | [] => rfl
  | c :: cs => by
    unfold nums
    rw [List.map_cons, List.all_cons]
    exact flat_nums cs
theorem sum_signs (xs : List Nat) : (xs.map ((fun w : Str => w.length) ∘ fun c => S [c])).sum = xs.length := by
  induction xs with
  | nil => rfl
  | cons c xs ih => rw [List.map_cons, List.sum_cons, ih, List.length_cons, Nat.add_comm]; rfl
theorem zw_and_or : ∀ {l m : List Nat}, Al l m → zw fOr (zw fAnd l m) l = l
  | _, _, .nil => rfl
  | a :: l, b :: m, .cons r t => by
    show fOr (fAnd a b) a :: zw fOr (zw fAnd l m) l = a :: l
    rw [zw_and_or t]
    have e : fOr (fAnd a b) a = a := by
      unfold fOr fAnd
      rcases r with ⟨rfl, rfl⟩ | ⟨h1, h2⟩
      · rfl
      · rcases h1 with rfl | rfl <;> rcases h2 with rfl | rfl <;> decide
    rw [e]
/-! patterns of other sizes -/
def filt (l : List Nat) : List Nat := l.filter (fun c => c != 46)
theorem filt_sg {l : List Nat} (h : Sg l) : ∀ c ∈ filt l, c = 48 ∨ c = 49 := fun c hc => by
  unfold filt at hc
  rw [List.mem_filter] at hc
  have := h c hc.1
  have h2 : ¬ c = 46 := by simpa using hc.2
  omega
theorem filt_len (l : List Nat) : (filt l).length = nb l := rfl
theorem szA_plain : ∀ (f : List Nat) (n : Nat), (∀ c ∈ f, c = 48 ∨ c = 49) → szA n f = [n + f.length]
  | [], n, _ => rfl
  | c :: f, n, h => by
    have hc := h c List.mem_cons_self
    unfold szA
    rw [if_neg (by omega), szA_plain f (n + 1) (fun d hd => h d (List.mem_cons_of_mem _ hd)), List.length_cons]
    congr 1
    omega
theorem szA_cut : ∀ (f r : List Nat) (n : Nat), (∀ c ∈ f, c = 48 ∨ c = 49) → szA n (f ++ 46 :: r) = (n + f.length) :: szA 0 r
  | [], r, n, _ => by
    show (if 46 = 46 then _ else _) = _
    rw [if_pos rfl]
    rfl
  | c :: f, r, n, h => by
    have hc := h c List.mem_cons_self
    show (if c = 46 then _ else szA (n + 1) (f ++ 46 :: r)) = _
    rw [if_neg (by omega), szA_cut f r (n + 1) (fun d hd => h d (List.mem_cons_of_mem _ hd)), List.length_cons]
    congr 1
    omega
theorem szA_more : ∀ (l : List Nat) (n : Nat), (szA n (l ++ [49])).length = (szA n l).length ∧ ((∀ s ∈ szA n l, 1 ≤ s) → ∀ s ∈ szA n (l ++ [49]), 1 ≤ s)
  | [], n => by
    refine ⟨rfl, fun _ s hs => ?_⟩
    have : s = n + 1 := by simpa [szA] using hs
    omega
  | c :: l, n => by
    by_cases h : c = 46
    · have e1 : szA n (c :: (l ++ [49])) = n :: szA 0 (l ++ [49]) := by show (if c = 46 then _ else _) = _; rw [if_pos h]
      have e2 : szA n (c :: l) = n :: szA 0 l := by show (if c = 46 then _ else _) = _; rw [if_pos h]
      obtain ⟨h1, h2⟩ := szA_more l 0
      rw [List.cons_append, e1, e2]
      refine ⟨by rw [List.length_cons, List.length_cons, h1], fun hh s hs => ?_⟩
      rcases List.mem_cons.mp hs with e | e
      · exact hh s (e ▸ List.mem_cons_self)
      · exact h2 (fun t ht => hh t (List.mem_cons_of_mem _ ht)) s e
    · have e1 : szA n (c :: (l ++ [49])) = szA (n + 1) (l ++ [49]) := by show (if c = 46 then _ else _) = _; rw [if_neg h]
      have e2 : szA n (c :: l) = szA (n + 1) l := by show (if c = 46 then _ else _) = _; rw [if_neg h]
      rw [List.cons_append, e1, e2]
      exact szA_more l (n + 1)
theorem nb_pos {x : List Nat} (h : IsP x) : 1 ≤ nb x := by
  have e := szA_sum x 0
  obtain ⟨a, r, e2, _⟩ := szA_head x 0
  have := h.one a (by unfold szs; rw [e2]; exact List.mem_cons_self)
  rw [e2, List.sum_cons] at e
  omega
theorem isP_far1 {x : List Nat} (h : IsP x) (hn : nb x ≤ 100) : IsP (x ++ [49]) := by
  obtain ⟨h1, h2⟩ := szA_more x 0
  refine ⟨fun c hc => ?_, h2 h.one, by have := h.few; unfold szs at *; omega, ?_⟩
  · rcases List.mem_append.mp hc with e | e
    · exact h.sg c e
    · have := List.mem_singleton.mp e
      omega
  · unfold nb
    rw [List.filter_append, List.length_append]
    unfold nb at hn
    simp
    omega
theorem isP_far2 {x : List Nat} (h : IsP x) (hn : nb x ≤ 100) : IsP (filt x ++ [46, 49]) := by
  have p := nb_pos h
  have hs := filt_sg h.sg
  have e : szs (filt x ++ [46, 49]) = [nb x, 1] := by
    show szA 0 (filt x ++ 46 :: [49]) = _
    rw [szA_cut _ _ _ hs, Nat.zero_add, filt_len]
    rfl
  refine ⟨fun c hc => ?_, by rw [e]; intro n hn; simp at hn; omega, by rw [e]; simp, ?_⟩
  · rcases List.mem_append.mp hc with q | q
    · have := hs c q
      omega
    · simp at q
      omega
  · have s := szA_sum (filt x ++ [46, 49]) 0
    have e2 : szA 0 (filt x ++ [46, 49]) = [nb x, 1] := e
    rw [e2] at s
    simp at s
    omega
theorem isP_far3 {x : List Nat} (h : IsP x) : IsP ([49, 46] ++ filt (x.take 20)) := by
  have hsg : Sg (x.take 20) := fun c hc => h.sg c (List.mem_of_mem_take hc)
  have hs := filt_sg hsg
  have e : szs ([49, 46] ++ filt (x.take 20)) = [1, (filt (x.take 20)).length] := by
    show szA 0 ([49] ++ 46 :: filt (x.take 20)) = _
    rw [szA_cut [49] _ _ (by simp), szA_plain _ _ hs, Nat.zero_add, Nat.zero_add]
    rfl
  have le : (filt (x.take 20)).length ≤ 20 := by
    unfold filt
    have := List.length_filter_le (fun c => c != 46) (x.take 20)
    have h2 : (x.take 20).length ≤ 20 := by rw [List.length_take]; omega
    omega
  have pos : 1 ≤ (filt (x.take 20)).length := by
    cases x with
    | nil => have := nb_pos h; simp [nb] at this
    | cons c r =>
      have hc : ¬ c = 46 := fun q => by
        have := h.one 0 (by
          unfold szs
          show 0 ∈ (if c = 46 then _ else _)
          rw [if_pos q]
          exact List.mem_cons_self)
        omega
      unfold filt
      rw [List.take_succ_cons, List.filter_cons_of_pos (by simpa using hc), List.length_cons]
      omega
  refine ⟨fun c hc => ?_, by rw [e]; intro n hn; simp at hn; omega, by rw [e]; simp, ?_⟩
  · rcases List.mem_append.mp hc with q | q
    · simp at q
      omega
    · have := hs c q
      omega
  · have s := szA_sum ([49, 46] ++ filt (x.take 20)) 0
    have e2 : szA 0 ([49, 46] ++ filt (x.take 20)) = [1, (filt (x.take 20)).length] := e
    rw [e2, List.sum_cons, List.sum_cons, List.sum_nil] at s
    omega
theorem isP_many : IsP (List.replicate 100 49) ∧ szs (List.replicate 100 49) = [100] := by
  have e : szs (List.replicate 100 49) = [100] := by decide +kernel
  refine ⟨⟨fun c hc => .inr (.inl (List.eq_of_mem_replicate hc)), by rw [e]; decide, by rw [e]; decide, by decide +kernel⟩, e⟩
theorem nb_of {x ss : List Nat} {M : Nat} (hz : szs x = ss) (h3 : ss.length ≤ 3) (h1 : ∀ s ∈ ss, s ≤ M) : nb x ≤ 3 * M := by
  have e := szA_sum x 0
  have e2 : szA 0 x = ss := hz
  rw [e2] at e
  have : ss.sum ≤ ss.length * M := by
    clear e e2 hz h3
    induction ss with
    | nil => simp
    | cons s ss ih =>
      have := ih fun x hx => h1 x (List.mem_cons_of_mem _ hx)
      have h2 := h1 s List.mem_cons_self
      rw [List.sum_cons, List.length_cons, Nat.succ_mul]
      omega
  have h5 : ss.length * M ≤ 3 * M := Nat.mul_le_mul_right _ h3
  omega
theorem cut20 (x : List Nat) : cutS (S x) none (some 20) = S (x.take 20) := by
  unfold cutS
  have e : (S x).cps.toList = x := rfl
  have e2 : (S x).length = x.length := SX.S_len x
  rw [e, e2]
  show S _ = S _
  congr 1
  show (x.drop 0).take (min 20 x.length - 0) = x.take 20
  rw [List.drop_zero, Nat.sub_zero]
  by_cases h : x.length ≤ 20
  · rw [List.take_of_length_le (show x.length ≤ min 20 x.length by omega), List.take_of_length_le h]
  · rw [show min 20 x.length = 20 by omega]
end Fb
set_option maxRecDepth 100000
set_option maxHeartbeats 4000000
namespace Fb
open PySem PySem.Spec PyProof.Rows L2
/-! [.. for x in a list for y in a tuple] -/
theorem pi_tupK {X : Cx} {tg l : Expr} {tl : TE} {K : PySem.W.Frag} (hK : X.K = K) (hl : PE X l tl) : PI X tg l (iTup K tl) := by
  subst hK
  exact pi_tup hl
section
variable {K : PySem.W.Frag} {a b D : Addr} {xs ys : List V} {σ : L2.St} {H1 : Hp} {te : TE} {vs vs1 : List Nat} {i1 j1 s1 : Nat} {Qd : Hp → Prop}
theorem lc2_names (Pv : Nat → Nat → Hp → Prop) (h0 : Pv 0 0 (upd H1 D (.lst []))) (hl : ∀ i j H, Pv i j H → SqL K H a xs ∧ SqT K H b ys)
    (hs1 : ∀ x, ((wipe σ vs).set i1 (some x))[s1]? = some (some (.ref b))) (hw : ∀ x, wipe ((wipe σ vs).set i1 (some x)) vs = wipe σ vs)
    (hw1 : ∀ x y, wipe ((wipe ((wipe σ vs).set i1 (some x)) vs1).set j1 (some y)) vs1 = wipe ((wipe σ vs).set i1 (some x)) vs1)
    (step : ∀ i j x y H, xs[i]? = some x → ys[j]? = some y → Pv i j H → te ((wipe ((wipe σ vs).set i1 (some x)) vs1).set j1 (some y)) H fun v H7 => ∃ acc, H7 D = some (.lst acc) ∧ acc.length < sizeLine ∧ Pv i (j + 1) (upd H7 D (.lst (acc ++ [v]))))
    (next : ∀ i H, i < xs.length → Pv i ys.length H → Pv (i + 1) 0 H) (hd : ∀ H, Pv xs.length 0 H → Qd H) :
    ∃ W : Nat → Nat → Hp → Prop, (∃ m, W 0 m (upd H1 D (.lst []))) ∧ ∀ i m H, W i m H →
      ((Itl K a).stop i H ∧ Qd H) ∨ ((Itl K a).go i H ∧ ∃ Nx : Hp → Prop, (∀ H', Nx H' → ∃ m', m' < m ∧ W (i + 1) m' H') ∧ ∀ x H', (Itl K a).yld i H x H' → gName i1 x (wipe σ vs) H' fun σ2 H2 => wipe σ2 vs = wipe σ vs ∧ tYes σ2 H2 fun bb H3 =>
        if bb = true then iTup K (tVar s1) σ2 H3 fun J1 H4 => ∃ W1 : Nat → Nat → Hp → Prop, (∃ m, W1 0 m H4) ∧ ∀ j k H, W1 j k H →
          (J1.stop j H ∧ Nx H) ∨ (J1.go j H ∧ ∃ Nx1 : Hp → Prop, (∀ H', Nx1 H' → ∃ k', k' < k ∧ W1 (j + 1) k' H') ∧ ∀ x H', J1.yld j H x H' → gName j1 x (wipe σ2 vs1) H' fun σ3 H5 => wipe σ3 vs1 = wipe σ2 vs1 ∧ tYes σ3 H5 fun bb H6 =>
            if bb = true then te σ3 H6 fun y H7 => ∃ acc, H7 D = some (.lst acc) ∧ acc.length < sizeLine ∧ Nx1 (upd H7 D (.lst (acc ++ [y]))) else Nx1 H6)
        else Nx H3) := by
  refine ⟨fun i m H => i + m = xs.length ∧ Pv i 0 H, ⟨xs.length, by omega, h0⟩, fun i m H ⟨hm, p⟩ => ?_⟩
  obtain ⟨q1, q2⟩ := hl i 0 H p
  by_cases lt : i < xs.length
  · have ex : xs[i]? = some xs[i] := List.getElem?_eq_getElem lt
    refine Or.inr ⟨⟨xs, xs[i], q1, ex⟩, Pv (i + 1) 0, fun H' p' => ⟨m - 1, by omega, by omega, p'⟩, ?_⟩
    rintro x H' ⟨eH, y⟩
    subst eH
    have e := y xs q1
    refine ⟨hw x, yes1 ?_⟩
    refine ⟨.ref b, hs1 x, b, rfl, ⟨ys, q2⟩, ?_⟩
    refine ⟨fun j k H => j + k = ys.length ∧ Pv i j H, ⟨ys.length, by omega, p⟩, fun j k H ⟨hk, p⟩ => ?_⟩
    obtain ⟨r1, r2⟩ := hl i j H p
    by_cases lt2 : j < ys.length
    · have ey : ys[j]? = some ys[j] := List.getElem?_eq_getElem lt2
      refine Or.inr ⟨⟨ys, ys[j], r2, ey⟩, Pv i (j + 1), fun H' p' => ⟨k - 1, by omega, by omega, p'⟩, ?_⟩
      rintro y2 H' ⟨eH, y'⟩
      subst eH
      have e2 := y' ys r2
      exact ⟨hw1 x y2, yes1 (step i j x y2 _ e e2 p)⟩
    · obtain rfl : j = ys.length := by omega
      exact Or.inl ⟨⟨ys, r2, Nat.le_refl _⟩, next i H lt p⟩
  · obtain rfl : i = xs.length := by omega
    exact Or.inl ⟨⟨xs, q1, Nat.le_refl _⟩, hd H p⟩
end
/-! a value's fault, as a pattern -/
theorem tyOf_same {K : PySem.W.Frag} {H H' : Hp} (s : Same H H') {x : V} {t : Value} (h : TyOf K H x t) : TyOf K H' x t := by
  cases h with
  | non => exact .non
  | bl x => exact .bl x
  | int i => exact .int i
  | str x => exact .str x
  | flt x => exact .flt x
  | lst e => exact .lst (s _ _ e)
  | frz e => exact .frz (s _ _ e)
  | tup e => exact .tup (s _ _ e)
  | dK e => exact .dK (s _ _ e)
  | dT e => exact .dT (s _ _ e)
  | ins e cl ha hn ht hm => exact .ins (s _ _ e) cl ha hn ht hm
theorem tyX_same {K : PySem.W.Frag} {H H' : Hp} (s : Same H H') {x : V} {t : Value} (h : TyX K H x t) : TyX K H' x t := by
  cases h with
  | base h => exact .base (tyOf_same s h)
  | byt b => exact .byt b
  | set e => exact .set (s _ _ e)
  | kList e c => exact .kList e c
  | kTuple e c => exact .kTuple e c
  | kDict e c => exact .kDict e c
  | fTuple e => exact .fTuple (s _ _ e)
  | fDict e => exact .fDict (s _ _ e)
end Fb
set_option maxRecDepth 100000
set_option maxHeartbeats 4000000
namespace Fb
open PySem PySem.Spec PyProof.Rows L2
/-! caught exceptions that are kept, with their fields; lambdas that are handed on -/
/-- at a: an exception of the class at C that was caught; its fields -/
def XR (H : Hp) (a C : Addr) (fs : List (Str × V)) : Prop := ∃ d, H a = some (ExR (.ref C) (some d) a) ∧ H d = some (.xd fs)
section
variable {X : Cx} {pins : List (Addr × Obj)} {σ : L2.St} {H : Hp} {s : Shared}
theorem XR.inst {a C : Addr} {fs : List (Str × V)} (I : Inv X pins σ H s) (h : XR H a C fs) : ∃ ox od, PySem.W.InstAt s.heap a ox C (some od) ∧ ∀ f, RelO (fs.lookup f) ((PySem.W.lookIn f od).getD none) ∧ ∃ r, PySem.W.lookIn f od = some r := by
  obtain ⟨d, h1, h2⟩ := h
  obtain ⟨⟨oe, vs, ho, z1, z2, z3⟩, _, _⟩ := I.hok a _ h1
  have hx : ObjOk X.prog X.w H s.heap d (.xd fs) := I.hok d _ h2
  obtain ⟨mA, hns, hr⟩ := hx
  obtain ⟨od, hod, hl⟩ := lookIn_ns hns
  refine ⟨oe, od, ⟨ho, z1, ?_, ?_⟩, fun f => ⟨?_, _, hl f⟩⟩
  · unfold PySem.W.notCls; rw [z3] <;> rfl
  · rw [z2]
    exact hod
  · rw [hl f]
    exact hr f
def rIsQ (K : PySem.W.Frag) : List V → Hp → VK → Prop := fun xs H Q => ∃ (a C : Addr) (fs : List (Str × V)) (c : V) (cv : Value) (b : Bool), xs = [.ref a, c] ∧ XC K C ∧ XB K ∧ XR H a C fs ∧ ClsV c cv ∧ PySem.W.kitOne K (.ref C) cv = some b ∧ Q (.bl b) H
theorem call_isQ : CallR X (.builtin "isinstance") (rIsQ X.K) := by
  intro pins s σ H xs us Q I r h
  obtain ⟨a, C, fs, c, cv, b, rfl, T, B, hE, k, e, q⟩ := h
  obtain ⟨u1, u2, rfl, r1, r2⟩ := vals2 r
  have e2 := k.eq r2
  subst e2
  cases (show u1 = Value.ref a from r1)
  obtain ⟨ox, od, J, _⟩ := hE.inst I
  exact PySem.W.kia_one (PySem.W.kitx_exc T.cl T.ga T.gg T.sb T.ca B.hn B.ht T.ob) I.kIn J e (fun z => nomatch z) fun tk => ⟨.bl b, H, I.tok tk, rfl, q⟩
/-- e.f, e such an exception -/
def tXar (K : PySem.W.Frag) (f : Str) (te : TE) : TE := fun σ H Q => te σ H fun x H1 => ∃ (a C : Addr) (fs : List (Str × V)) (v : V), x = .ref a ∧ XC K C ∧ PySem.W.findIn K (.ref C) f = some none ∧ XR H1 a C fs ∧ fs.lookup f = some v ∧ Q v H1
theorem pe_xar {e : Expr} {te : TE} {f : Str} {pos : Pos} (he : PE X e te) (hb : attributeBase e f X.env (eval e X.env) = eval e X.env := by rfl) : PE X (.Attribute e f pos) (tXar X.K f te) := by
  refine ⟨fun pins s σ H Q I h => ?_⟩
  refine attr_of hb (thn (he.run pins s σ H _ I h) fun u s1 hh => ?_)
  obtain ⟨x, H1, I1, rx, a, C, fs, v, ex, T, hno, hx, hl, q⟩ := hh
  subst ex
  obtain rfl : u = Value.ref a := rx
  obtain ⟨ox, od, J, hr⟩ := hx.inst I1
  obtain ⟨r1, r, e1⟩ := hr f
  rw [e1, hl] at r1
  obtain ⟨u, hu, ru⟩ := RelO.some_of (v := v) (o := r) r1
  exact HandSPX.exc_get I1.kIn J T.ga T.gg T.sb (PySem.W.findObj_own T.hd hno rfl (by rw [e1, hu])) (handed_of ru) ⟨v, H1, I1.tok _, ru, q⟩
end
/-- behind a statement the slots are as many as before -/
theorem pss_len {X : Cx} {sts : List Stmt} {t : TS} (h : PSs X sts t) : PSs X sts (fun D σ H => σ.length = X.N.length → t D σ H) :=
  ⟨fun pins s σ H D I q => h.run pins s σ H D I (q I.len)⟩
/-- a def by its body, its code object named -/
theorem okC {P : Program} {w : World} {K : PySem.W.Frag} {mg : Str → Option Value} {base : Heap} {x qual : Str} {st : Stmt} {f c : Addr} {oc : Value} {od an : Option Addr} {osl : Array (Option Value)} {kV doc pm ct : Value} {N ps : List Str} {k : Nat} {sp : Sp}
    (lk : K.lookup f = some ⟨oc, od, .func (PySem.W.fnOf x qual (defArgs st) (defBody st) (defScope st) .none kV doc pm an (.ref c) ct), osl⟩) (hcd : PySem.W.codeIn K (.ref c) qual = true) (S : FnScope N ps (defScope st))
    (len : ∀ {vs H Q E}, sp vs H Q E → vs.length = ps.length)
    (body : ∀ {A : Around} {outer : List Env} {s : Shared} {H : Hp} {vs : List V} {Q : VK} {E : XK}, Room k (A.deeper (envOfC qual (defScope st) s.heap.objs.size f (.ref c))) → sp vs H Q E →
      ∃ t, PSs (cxOf CX0 P w K mg base N qual (defScope st) f (.ref c) A outer s H E).nox (defBody st) t ∧ t { nx := fun _ H' => Q .non H', rt := Q } (start N vs) H) :
    FnOk P w K mg base CX0 (k + 1) f (PySem.W.fnOf x qual (defArgs st) (defBody st) (defScope st) .none kV doc pm an (.ref c) ct) ps sp := by
  refine fn_of lk hcd S (fun _ _ _ _ h => len h) fun A outer s H vs Q E hr h => ?_
  obtain ⟨t, h1, h2⟩ := body (outer := outer) hr h
  exact ⟨t, h1.nox, h2⟩
/-! what stays when tables grow -/
theorem ExtN.pen {H H' : Hp} {p l : Addr} {n : Nat} (e : LamX.ExtN H H') (h : PenL H p l n) : PenL H' p l n := by
  obtain ⟨cs, a, r, f, h1, h2, h3⟩ := h
  exact ⟨cs, a, r, f, e _ _ h1 (fun ps q => nomatch q), e _ _ h2 (fun ps q => nomatch q), h3⟩
end Fb
set_option maxRecDepth 100000
set_option maxHeartbeats 4000000
namespace Fb
open PySem PySem.Spec PyProof.Rows L2
/-! x in o, x not in o, o[i] by the defs of o's class: instances with a dict -/
section
variable {X : Cx} {CX : CXT} {pins : List (Addr × Obj)} {σ : L2.St} {H : Hp} {s : Shared} {a C dx g : Addr} {fs : List (Str × V)} {n : Nat} {sp : Sp} {E : XK}
def rInI (C : Addr) (sp : Sp) (E : XK) (neg : Bool) : R2 := fun x y H Q => ∃ b dx fs, y = .ref b ∧ H b = some (.ins C dx fs) ∧ sp [y, x] H (fun z H' => ∃ c, z = .bl c ∧ Q (.bl (if neg then !c else c)) H') E
theorem op_inI (hs : PySem.W.findIn X.K (.ref C) "__contains__" = some (some (.ref g))) (hf : PySem.W.isFn X.K (.ref g) = true) (F : FnR X.prog X.w X.K X.mg X.base CX n g sp) (hr : Room n X.A) (hx : Passes CX X E) : OpR X (compareOp .In) (rInI C sp E false) := by
  intro pins s σ H x y v u Q I rx ry h
  obtain ⟨b, dx, fs, rfl, hb, q⟩ := h
  cases (show u = Value.ref b from ry)
  obtain ⟨od, J⟩ := ins_at I hb
  obtain ⟨m, hF⟩ := I.fr
  refine PySem.W.in_K hF I.ok.mod.kin J hs hf ?_
  refine wpAny_mono (wpAny_call (run_fnR (us := [.ref b, v]) (vs := [.ref b, x]) F hr hx I (.cons rfl (.cons rx .nil)) q)) (fun w s' z => ?_) fun _ _ x => x
  obtain ⟨z', H', I', rz, c, ec, qz⟩ := z
  subst ec
  cases (show w = Value.bool c from rz)
  exact wpAny_pure ⟨.bl c, H', I', rfl, qz⟩
theorem op_notInI (hs : PySem.W.findIn X.K (.ref C) "__contains__" = some (some (.ref g))) (hf : PySem.W.isFn X.K (.ref g) = true) (F : FnR X.prog X.w X.K X.mg X.base CX n g sp) (hr : Room n X.A) (hx : Passes CX X E) : OpR X (compareOp .NotIn) (rInI C sp E true) := by
  intro pins s σ H x y v u Q I rx ry h
  obtain ⟨b, dx, fs, rfl, hb, q⟩ := h
  cases (show u = Value.ref b from ry)
  obtain ⟨od, J⟩ := ins_at I hb
  obtain ⟨m, hF⟩ := I.fr
  refine PySem.W.notIn_K hF I.ok.mod.kin J hs hf ?_
  refine wpAny_mono (wpAny_call (run_fnR (us := [.ref b, v]) (vs := [.ref b, x]) F hr hx I (.cons rfl (.cons rx .nil)) q)) (fun w s' z => ?_) fun _ _ x => x
  obtain ⟨z', H', I', rz, c, ec, qz⟩ := z
  subst ec
  cases (show w = Value.bool c from rz)
  exact wpAny_pure ⟨.bl (!c), H', I', rfl, qz⟩
def tIxI (C : Addr) (sp : Sp) (E : XK) (ta tb : TE) : TE := fun σ H Q => ta σ H fun x H1 => tb σ H1 fun y H2 => ∃ a dx fs, x = .ref a ∧ H2 a = some (.ins C dx fs) ∧ sp [x, y] H2 Q E
theorem pe_ixI {o i : Expr} {ta tb : TE} {pos : Pos} (hs : PySem.W.findIn X.K (.ref C) "__getitem__" = some (some (.ref g))) (hf : PySem.W.fnIn X.K g = true) (hfn : PySem.W.isFn X.K (.ref g) = true) (F : FnR X.prog X.w X.K X.mg X.base CX n g sp) (hr : Room (n + 1) X.A) (hx : Passes CX X E)
    (ha : PE X o ta) (hb : PE X i tb) (hsl : ∀ (x : Addr) (v : Value), subscripted i true (.ref x) v = runValue (.builtin "lifetime.subscript" ⟨[.ref x, v], []⟩) := by intro _ _; with_unfolding_all rfl) : PE X (.Subscript o i pos) (tIxI C sp E ta tb) := by
  refine ⟨fun pins s σ H Q I h => ?_⟩
  refine Subscript_ (binT ha hb I h fun v u s2 x y H2 I2 rx ry q => ?_)
  obtain ⟨a, dx, fs, rfl, e, q⟩ := q
  cases (show v = Value.ref a from rx)
  obtain ⟨od, J⟩ := ins_at I2 e
  obtain ⟨m, hF⟩ := I2.fr
  have hr2 : Room n X.A.in1 := Room.in1 hr
  exact PySem.W.sub_K hF I2.ok.mod.kin J hs hf hfn (wpAny_call (SlX.run_at (us := [.ref a, u]) (ws := [.ref a, y]) F hr2 I2.env0.in1 hx I2 (.cons rfl (.cons ry .nil)) q)) (hsl _ _)
end
/-! bool(x), list(a text) -/
theorem bool_own {prog : Program} {w : World} {A : Around} {E : Value → Shared → Prop} {s : Shared} {K : PySem.W.Frag} {x C L f : Addr} {h₀ : Heap} {m : Str → Option Value} {ox : Obj} {od : Option Obj} {Q : Value → Shared → Prop} (F : Fr h₀ L s.heap m) (X₀ : K.In h₀) (I : PySem.W.InstAt s.heap x ox C od) (hs : PySem.W.findIn K (.ref C) "__bool__" = some (some (.ref f))) (hf : PySem.W.isFn K (.ref f) = true)
    (h : wpAny (model prog w) A.in1.in1 (call (.ref f) [.ref x]) (PySem.W.BoolBack fun b s₁ => Q (.bool b) s₁) E s) : wpAny (model prog w) A (call (.type "bool") [.ref x]) Q E s := by
  refine callType_codes (T := "bool") (Bi := Builtin.«object.__init__») (Q₁ := fun r s₁ => ∃ b, r = Value.bool b ∧ Q r s₁) PySem.F.called_bool (PySem.F.typeCall_bool_1 _) PySem.F.entry_object_init ?_ ?_
  · refine codeAny_of_tree ?_
    show wpAny _ A.in1.in1 (do checkBuiltinCall "bool.__new__" ⟨[.type "bool", .ref x], []⟩; again (.builtin "bool.__new__" ⟨[.type "bool", .ref x], []⟩)) _ _ s
    refine wpAny_bind (wpAny_of_eq (PySem.F.newCall_bool_1 _) (wpAny_pure ⟨plainId_quiet (by decide +kernel) _, codeAny_builtin PySem.F.entry_bool_new ?_⟩))
    rw [Around.under_plainId (by decide +kernel) _]
    unfold Builtin.«bool.__new__»
    refine wpAny_bind (wpAny_of_eq (a := true) (by rfl) ?_)
    refine PySem.W.KFB.if_not rfl ?_
    refine wpAny_bind (wpAny_of_eq (a := true) PySem.F.conv_sub_bool ?_)
    refine PySem.W.KFB.if_not rfl ?_
    refine wpAny_bind (wpAny_pure ?_)
    refine wpAny_bind (PySem.W.truthy_K F X₀ I hs hf (wpAny_mono h (fun r s₁ hr => ?_) fun _ _ y => y))
    cases r <;> first | exact hr.elim | skip
    exact wpAny_pure ⟨_, rfl, hr⟩
  · rintro obj s₁ ⟨b, rfl, hq⟩
    exact ⟨rfl, PySem.F.args_object_init_2 _ _, object_init_meets PySem.F.called_bool.init.lookup PySem.F.called_bool.made (by decide) prog w A.in1 _ s₁ ⟨rfl, rfl, hq⟩⟩
section
variable {X : Cx} {CX : CXT} {pins : List (Addr × Obj)} {σ : L2.St} {H : Hp} {s : Shared} {a C dx g : Addr} {fs : List (Str × V)} {n : Nat} {sp : Sp} {E : XK}
def rBoolI (C : Addr) (sp : Sp) (E : XK) : List V → Hp → VK → Prop := fun xs H Q => ∃ a dx fs, xs = [.ref a] ∧ H a = some (.ins C dx fs) ∧ sp [.ref a] H (fun z H' => ∃ b, z = .bl b ∧ Q (.bl b) H') E
theorem call_boolI (hs : PySem.W.findIn X.K (.ref C) "__bool__" = some (some (.ref g))) (hf : PySem.W.isFn X.K (.ref g) = true) (F : FnR X.prog X.w X.K X.mg X.base CX n g sp) (hr : Room (n + 2) X.A) (hx : Passes CX X E) : CallR X (.type "bool") (rBoolI C sp E) := by
  intro pins s σ H xs us Q I r h
  obtain ⟨a, dx, fs, rfl, ha, q⟩ := h
  obtain ⟨u, rfl, ru⟩ := r.one
  cases (show u = Value.ref a from ru)
  obtain ⟨od, J⟩ := ins_at I ha
  have hr2 : Room n X.A.in1.in1 := (show Room (n + 1) X.A.in1 from Room.in1 hr).in1
  obtain ⟨m, hF⟩ := I.fr
  refine bool_own hF I.ok.mod.kin J hs hf (wpAny_mono (wpAny_call (SlX.run_at (us := [.ref a]) (ws := [.ref a]) F hr2 I.env0.in1.in1 hx I (.cons rfl .nil) q)) (fun w s' z => ?_) fun _ _ x => x)
  obtain ⟨z', H', I', rz, b, eb, qz⟩ := z
  subst eb
  cases (show w = Value.bool b from rz)
  exact ⟨.bl b, H', I', rfl, qz⟩
theorem vals_signs {l : List Nat} {us : List Value} (hl : us.length = l.length) (hu : ∀ (j : Nat) (v : Value), us[j]? = some v → ∃ (c : Nat) (t : Tok), l[j]? = some c ∧ v = Value.str ⟨#[c]⟩ t) : Vals (l.map fun c => V.str (SX.S [c])) us := by
  have e : (l.map fun c => V.str (SX.S [c])) = (List.range us.length).map fun j => V.str (SX.S [l.getD j 0]) := by
    refine List.ext_getElem? fun j => ?_
    rw [List.getElem?_map, List.getElem?_map]
    by_cases h : j < l.length
    · rw [List.getElem?_range (by omega), List.getElem?_eq_getElem h]
      show some (V.str (SX.S [l[j]])) = some (V.str (SX.S [l.getD j 0]))
      rw [List.getD_eq_getElem?_getD, List.getElem?_eq_getElem h] <;> rfl
    · rw [List.getElem?_eq_none (by omega), List.getElem?_eq_none (by simp; omega)] <;> rfl
  rw [e]
  refine vals_of_get us _ fun j u hj => ?_
  obtain ⟨c, t, hc, rfl⟩ := hu j u hj
  rw [List.getD_eq_getElem?_getD, hc]
  exact ⟨t, rfl⟩
def rListS : List V → Hp → VK → Prop := fun xs H Q => ∃ l : List Nat, xs = [.str (SX.S l)] ∧ l.length ≤ sizeLine ∧ ∀ p, H p = none → Q (.ref p) (upd H p (.lst (l.map fun c => V.str (SX.S [c]))))
theorem call_listS (hc : X.calm = true) : CallR X (.type "list") rListS := by
  intro pins s σ H xs us Q I r h
  obtain ⟨l, rfl, hl, q⟩ := h
  obtain ⟨u, rfl, t, rfl⟩ := vals1 r
  have sz : (SX.S l).cps.size = l.length := by simp [SX.S]
  refine call_list_str (I.ok.hd hc) (SX.S l) t (hn := by rw [sz]; exact hl) fun h' tk acc c' hk e' hi => ?_
  refine ⟨.ref s.heap.objs.size, upd H s.heap.objs.size (.lst (l.map fun c => V.str (SX.S [c]))), I.laid hk (Nat.le_refl _) (show ObjOk X.prog X.w _ _ _ (.lst (l.map fun c => V.str (SX.S [c]))) from ⟨?_, acc.toList, c', ?_, ?_⟩), rfl, q _ (I.hok.fresh (Nat.le_refl _))⟩
  · rw [List.length_map]; exact hl
  · refine vals_signs (by rw [Array.length_toList, hi.1, sz]) fun j v hj => ?_
    obtain ⟨c, u, h1, h2⟩ := hi.2 j v (by rw [← hj, Array.getElem?_toList])
    exact ⟨c, u, by simpa [SX.S] using h1, h2⟩
  · rw [Array.toArray_toList]; exact e'
end
end Fb
set_option maxRecDepth 100000
set_option maxHeartbeats 4000000
namespace Fb
open PySem PySem.Spec PyProof.Rows L2
/-! max and min of two texts -/
section
variable {prog : Program} {w : World} {A : Around}
theorem strs_gt {P : Nat → Value → Prop} (val : Nat → Str) (hval : ∀ i v, P i v → ∃ t, v = .str (val i) t) :
    CmpOf prog w A .Gt P (fun i j => decide ((val j).cps.toList < (val i).cps.toList)) := fun i j vi vj s Q E hi hj h => by
  obtain ⟨t, rfl⟩ := hval i vi hi
  obtain ⟨u, rfl⟩ := hval j vj hj
  have q := PySem.P.gt_str (x := val i) (y := val j) (t := t) (u := u) (A := A) (E := E) (prog := prog) (w := w) (s := s) (Q := Q) h
  unfold compareOp at q
  exact q
theorem strs_lt {P : Nat → Value → Prop} (val : Nat → Str) (hval : ∀ i v, P i v → ∃ t, v = .str (val i) t) :
    CmpOf prog w A .Lt P (fun i j => decide ((val i).cps.toList < (val j).cps.toList)) := fun i j vi vj s Q E hi hj h => by
  obtain ⟨t, rfl⟩ := hval i vi hi
  obtain ⟨u, rfl⟩ := hval j vj hj
  have q := PySem.P.lt_str (x := val i) (y := val j) (t := t) (u := u) (A := A) (E := E) (prog := prog) (w := w) (s := s) (Q := Q) h
  unfold compareOp at q
  exact q
variable {E : Value → Shared → Prop} {s : Shared}
def two (a b : Str) (i : Nat) : Str := if i = 0 then a else b
theorem two_at {a b : Str} {t u : Tok} (i : Nat) (v : Value) (h : (#[Value.str a t, Value.str b u])[i]? = some v) : ∃ t, v = .str (two a b i) t := by
  match i, h with
  | 0, h => exact ⟨t, by simpa [two] using h.symm⟩
  | 1, h => exact ⟨u, by simpa [two] using h.symm⟩
  | i + 2, h => simp at h
theorem two_walk {a b : Str} {t u : Tok} {h' : Heap} (hsz : (s.heap.push { cls := .type "tuple", data := .seq #[.str a t, .str b u] }).objs.size = s.heap.objs.size + 1)
    (hk : ∀ c o, c ∉ [s.heap.objs.size + 1] → ((s.heap.push { cls := .type "tuple", data := .seq #[.str a t, .str b u] }).push { cls := .type "tuple_iterator", data := .fields #[.ref s.heap.objs.size, .int 0 0] }).get? c = some o → h'.get? c = some o) :
    ∀ c o, s.heap.get? c = some o → h'.get? c = some o := fun c o e => by
  refine hk c o (fun hm => ?_) (Heap.get?_push_of_some _ (Heap.get?_push_of_some _ e))
  rcases List.mem_cons.mp hm with e1 | hm
  · have := Heap.lt_size e; rw [e1] at this; exact Nat.lt_irrefl _ (Nat.lt_of_succ_lt this)
  · cases hm
theorem max_two_strs {a b : Str} {t u : Tok} {Q : Value → Shared → Prop} (hh : A.handled = none)
    (h : ∀ h' tk, (∀ c o, s.heap.get? c = some o → h'.get? c = some o) → Q (if a.cps.toList < b.cps.toList then .str b u else .str a t) { s with heap := h', toks := tk }) :
    wpAny (model prog w) A (call (.builtin "max") [.str a t, .str b u]) Q E s := by
  have hT : (s.heap.push { cls := .type "tuple", data := .seq #[.str a t, .str b u] }).IsTuple s.heap.objs.size #[.str a t, .str b u] := ⟨_, Heap.get?_push_size _ rfl, rfl, 0, rfl⟩
  refine call_max_two (wpAny_pyIter_tuple hT ?_)
  have hsz : (s.heap.push { cls := .type "tuple", data := .seq #[.str a t, .str b u] }).objs.size = s.heap.objs.size + 1 := Heap.size_push ..
  refine ⟨_, [_, s.heap.objs.size], [_], _, _, _, _, rfl, Walks.tuple (A := A.in1) hh _ s.heap.objs.size (by rw [hsz]; exact Nat.ne_of_lt (Nat.lt_succ_self _)) #[.str a t, .str b u],
    ⟨⟨_, Heap.get?_push_size _ rfl, rfl, rfl⟩, hT.push _⟩, fun c hc => ?_, by simp, strs_gt (two a b) two_at, fun v h' tk hP hk => ?_⟩
  · show c < ((s.heap.push _).push _).objs.size
    rw [Heap.size_push, hsz]
    rcases List.mem_cons.mp hc with rfl | hc
    · rw [hsz]; exact Nat.lt_succ_self _
    · rcases List.mem_cons.mp hc with rfl | hc
      · exact Nat.lt_succ_of_lt (Nat.lt_succ_self _)
      · cases hc
  · have hold : ∀ c o, s.heap.get? c = some o → h'.get? c = some o := fun c o e => by
      refine hk c o (fun hm => ?_) (Heap.get?_push_of_some _ (Heap.get?_push_of_some _ e))
      rcases List.mem_cons.mp hm with e1 | hm
      · have := Heap.lt_size e; rw [e1, hsz] at this; exact Nat.lt_irrefl _ (Nat.lt_of_succ_lt this)
      · cases hm
    have := h h' tk hold
    have hv : v = if a.cps.toList < b.cps.toList then Value.str b u else Value.str a t := by
      have hP' : (#[Value.str a t, Value.str b u])[argBest (fun i j => decide ((two a b j).cps.toList < (two a b i).cps.toList)) 1]? = some v := hP
      by_cases hba : a.cps.toList < b.cps.toList
      · have e : argBest (fun i j => decide ((two a b j).cps.toList < (two a b i).cps.toList)) 1 = 1 := by simp [argBest, two, hba]
        rw [e] at hP'
        simpa [hba] using hP'.symm
      · have e : argBest (fun i j => decide ((two a b j).cps.toList < (two a b i).cps.toList)) 1 = 0 := by simp [argBest, two, hba]
        rw [e] at hP'
        simpa [hba] using hP'.symm
    rw [hv]; exact this
theorem min_two_strs {a b : Str} {t u : Tok} {Q : Value → Shared → Prop} (hh : A.handled = none)
    (h : ∀ h' tk, (∀ c o, s.heap.get? c = some o → h'.get? c = some o) → Q (if b.cps.toList < a.cps.toList then .str b u else .str a t) { s with heap := h', toks := tk }) :
    wpAny (model prog w) A (call (.builtin "min") [.str a t, .str b u]) Q E s := by
  have hT : (s.heap.push { cls := .type "tuple", data := .seq #[.str a t, .str b u] }).IsTuple s.heap.objs.size #[.str a t, .str b u] := ⟨_, Heap.get?_push_size _ rfl, rfl, 0, rfl⟩
  refine call_min_two (wpAny_pyIter_tuple hT ?_)
  have hsz : (s.heap.push { cls := .type "tuple", data := .seq #[.str a t, .str b u] }).objs.size = s.heap.objs.size + 1 := Heap.size_push ..
  refine ⟨_, [_, s.heap.objs.size], [_], _, _, _, _, rfl, Walks.tuple (A := A.in1) hh _ s.heap.objs.size (by rw [hsz]; exact Nat.ne_of_lt (Nat.lt_succ_self _)) #[.str a t, .str b u],
    ⟨⟨_, Heap.get?_push_size _ rfl, rfl, rfl⟩, hT.push _⟩, fun c hc => ?_, by simp, strs_lt (two a b) two_at, fun v h' tk hP hk => ?_⟩
  · show c < ((s.heap.push _).push _).objs.size
    rw [Heap.size_push, hsz]
    rcases List.mem_cons.mp hc with rfl | hc
    · rw [hsz]; exact Nat.lt_succ_self _
    · rcases List.mem_cons.mp hc with rfl | hc
      · exact Nat.lt_succ_of_lt (Nat.lt_succ_self _)
      · cases hc
  · have hold : ∀ c o, s.heap.get? c = some o → h'.get? c = some o := fun c o e => by
      refine hk c o (fun hm => ?_) (Heap.get?_push_of_some _ (Heap.get?_push_of_some _ e))
      rcases List.mem_cons.mp hm with e1 | hm
      · have := Heap.lt_size e; rw [e1, hsz] at this; exact Nat.lt_irrefl _ (Nat.lt_of_succ_lt this)
      · cases hm
    have := h h' tk hold
    have hv : v = if b.cps.toList < a.cps.toList then Value.str b u else Value.str a t := by
      have hP' : (#[Value.str a t, Value.str b u])[argBest (fun i j => decide ((two a b i).cps.toList < (two a b j).cps.toList)) 1]? = some v := hP
      by_cases hba : b.cps.toList < a.cps.toList
      · have e : argBest (fun i j => decide ((two a b i).cps.toList < (two a b j).cps.toList)) 1 = 1 := by simp [argBest, two, hba]
        rw [e] at hP'
        simpa [hba] using hP'.symm
      · have e : argBest (fun i j => decide ((two a b i).cps.toList < (two a b j).cps.toList)) 1 = 0 := by simp [argBest, two, hba]
        rw [e] at hP'
        simpa [hba] using hP'.symm
    rw [hv]; exact this
end
section
variable {X : Cx}
theorem call_maxS (hc : X.calm = true) : CallR X (.builtin "max") (fun xs H Q => ∃ i j : Str, xs = [.str i, .str j] ∧ Q (.str (if i.cps.toList < j.cps.toList then j else i)) H) := by
  intro pins s σ H xs us Q I r h
  obtain ⟨i, j, rfl, q⟩ := h
  obtain ⟨u, w', rfl, ⟨t, rfl⟩, ⟨t', rfl⟩⟩ := vals2 r
  refine max_two_strs (I.ok.hd hc) fun h' tk k => ⟨_, H, I.kept k, ?_, q⟩
  by_cases hj : i.cps.toList < j.cps.toList
  · rw [if_pos hj, if_pos hj]; exact ⟨_, rfl⟩
  · rw [if_neg hj, if_neg hj]; exact ⟨_, rfl⟩
theorem call_minS (hc : X.calm = true) : CallR X (.builtin "min") (fun xs H Q => ∃ i j : Str, xs = [.str i, .str j] ∧ Q (.str (if j.cps.toList < i.cps.toList then j else i)) H) := by
  intro pins s σ H xs us Q I r h
  obtain ⟨i, j, rfl, q⟩ := h
  obtain ⟨u, w', rfl, ⟨t, rfl⟩, ⟨t', rfl⟩⟩ := vals2 r
  refine min_two_strs (I.ok.hd hc) fun h' tk k => ⟨_, H, I.kept k, ?_, q⟩
  by_cases hj : j.cps.toList < i.cps.toList
  · rw [if_pos hj, if_pos hj]; exact ⟨_, rfl⟩
  · rw [if_neg hj, if_neg hj]; exact ⟨_, rfl⟩
end
/-! a sign, so often -/
theorem fold_sign (c : Nat) : ∀ (k : Nat) (acc : Array Nat), (List.replicate k (#[c] : Array Nat)).foldl (· ++ ·) acc = acc ++ (List.replicate k c).toArray
  | 0, acc => by simp
  | k + 1, acc => by
    rw [List.replicate_succ, List.foldl_cons, fold_sign c k, List.replicate_succ]
    apply Array.toList_inj.mp
    simp
theorem op_repS {X : Cx} : OpR X (binaryOp .Mult) (fun x y H Q => ∃ (c k : Nat), x = .str (SX.S [c]) ∧ y = .int (k : Nat) ∧ k ≤ 100000 ∧ Q (.str (SX.S (List.replicate k c))) H) := by
  intro pins s σ H x y v u Q I rx ry h
  obtain ⟨c, k, rfl, rfl, hk, q⟩ := h
  obtain ⟨t, rfl⟩ := rx
  obtain ⟨t', rfl⟩ := ry
  have l1 : (SX.S [c]).length = 1 := rfl
  refine PySem.P.mul_str ?_ ?_ ?_ ?_
  · rw [decide_eq_false (by omega), decide_eq_false (by omega)] <;> rfl
  · intro h1 h2
    rw [l1]
    have hk1 : 1 ≤ k := by omega
    intro h3
    have h5 : (1 : Int) ≤ (2 ^ 63 - 1) / (k : Int) := Int.le_ediv_of_mul_le (by omega) (by omega)
    omega
  · intro _ _
    rw [l1]
    exact decide_eq_false (by show ¬ (1 * ((k : Int)).toNat > sizeLine); rw [sizeLine_eq, show ((k : Int)).toNat = k from rfl]; omega)
  · by_cases h0 : (k : Int) < 1
    · rw [if_pos h0]
      have e : k = 0 := by omega
      subst e
      exact ⟨by decide, .str _, H, I.tok _, ⟨_, rfl⟩, q⟩
    · rw [if_neg h0]
      by_cases h1 : k = 1
      · subst h1
        rw [if_pos (by rfl)]
        exact ⟨.str _, H, I, ⟨_, rfl⟩, q⟩
      · have e1 : (((k : Int) == 1) || (SX.S [c]).length == 0) = false := by
          rw [l1]
          simp
          omega
        rw [if_neg (by rw [e1]; exact Bool.false_ne_true)]
        have e2 : (List.replicate ((k : Int)).toNat (SX.S [c]).cps).foldl (· ++ ·) #[] = (List.replicate k c).toArray := by
          have := fold_sign c k #[]
          rw [show ((k : Int)).toNat = k from rfl]
          show (List.replicate k (#[c] : Array Nat)).foldl (· ++ ·) #[] = _
          rw [this]
          simp
        rw [e2]
        refine ⟨?_, .str _, H, I.tok _, ⟨_, rfl⟩, q⟩
        show (SX.S (List.replicate k c)).length ≤ sizeLine
        rw [SX.S_len, List.length_replicate, sizeLine_eq]
        omega
end Fb
set_option maxRecDepth 100000
set_option maxHeartbeats 4000000
namespace Fb
open PySem PySem.Spec PyProof.Rows L2
open SX (S)
/-! the bits of a pattern, and where they stand -/
/-- signs without the dots -/
abbrev bt (l : List Nat) : List Nat := l.filter (fun c => c != 46)
def plc (l : List Nat) : List Nat := (List.range l.length).filter (fun i => l.getD i 0 != 46)
theorem plc_nil : plc [] = [] := rfl
theorem plc_dot (l : List Nat) : plc (46 :: l) = (plc l).map (· + 1) := by
  unfold plc
  rw [List.length_cons, List.range_succ_eq_map, List.filter_cons_of_neg (by simp), List.filter_map]
  rfl
theorem plc_bit {c : Nat} (l : List Nat) (h : c ≠ 46) : plc (c :: l) = 0 :: (plc l).map (· + 1) := by
  unfold plc
  rw [List.length_cons, List.range_succ_eq_map, List.filter_cons_of_pos (by simpa using h), List.filter_map]
  rfl
theorem plc_len : ∀ l : List Nat, (plc l).length = (bt l).length
  | [] => rfl
  | c :: l => by
    by_cases h : c = 46
    · subst h
      rw [plc_dot, List.length_map, plc_len l]
      simp
    · rw [plc_bit l h, List.length_cons, List.length_map, plc_len l]
      simp [h]
theorem plc_lt {l : List Nat} {i : Nat} (h : i ∈ plc l) : i < l.length := by
  unfold plc at h
  exact List.mem_range.mp (List.mem_filter.mp h).1
theorem plc_set : ∀ {l : List Nat} {b x : Nat}, x ≠ 46 → b < (bt l).length →
    bt (l.set ((plc l).getD b 0) x) = (bt l).set b x ∧ plc (l.set ((plc l).getD b 0) x) = plc l ∧ (∀ n, szA n (l.set ((plc l).getD b 0) x) = szA n l)
  | [], b, x, _, h => by simp at h
  | c :: l, b, x, hx, h => by
    by_cases e : c = 46
    · subst e
      have hb : b < (bt l).length := by simpa using h
      obtain ⟨h1, h2, h3⟩ := plc_set (l := l) hx hb
      have hb2 : b < (plc l).length := by rw [plc_len]; exact hb
      have g : (plc (46 :: l)).getD b 0 = (plc l).getD b 0 + 1 := by
        rw [plc_dot, List.getD_eq_getElem?_getD, List.getElem?_map, List.getElem?_eq_getElem hb2, List.getD_eq_getElem?_getD, List.getElem?_eq_getElem hb2]
        rfl
      rw [g, List.set_cons_succ]
      refine ⟨?_, ?_, fun n => ?_⟩
      · have : bt (46 :: l.set ((plc l).getD b 0) x) = bt (l.set ((plc l).getD b 0) x) := by simp
        rw [this, h1]
        simp
      · rw [plc_dot, plc_dot, h2]
      · show n :: szA 0 _ = n :: szA 0 _
        rw [h3]
    · cases b with
      | zero =>
        have g : (plc (c :: l)).getD 0 0 = 0 := by rw [plc_bit l e] <;> rfl
        rw [g, List.set_cons_zero]
        refine ⟨by simp [e, hx], by rw [plc_bit l e, plc_bit l hx], fun n => ?_⟩
        show (if x = 46 then _ else szA (n + 1) l) = (if c = 46 then _ else szA (n + 1) l)
        rw [if_neg hx, if_neg e]
      | succ b =>
        have hb : b < (bt l).length := by
          have : (bt (c :: l)).length = (bt l).length + 1 := by simp [e]
          omega
        obtain ⟨h1, h2, h3⟩ := plc_set (l := l) hx hb
        have hb2 : b < (plc l).length := by rw [plc_len]; exact hb
        have g : (plc (c :: l)).getD (b + 1) 0 = (plc l).getD b 0 + 1 := by
          rw [plc_bit l e, List.getD_eq_getElem?_getD, List.getElem?_cons_succ, List.getElem?_map, List.getElem?_eq_getElem hb2, List.getD_eq_getElem?_getD, List.getElem?_eq_getElem hb2]
          rfl
        rw [g, List.set_cons_succ]
        refine ⟨?_, ?_, fun n => ?_⟩
        · have e1 : bt (c :: l.set ((plc l).getD b 0) x) = c :: bt (l.set ((plc l).getD b 0) x) := by simp [e]
          have e2 : bt (c :: l) = c :: bt l := by simp [e]
          rw [e1, h1, e2, List.set_cons_succ]
        · rw [plc_bit _ e, plc_bit _ e, h2]
        · show (if c = 46 then _ else szA (n + 1) _) = (if c = 46 then _ else szA (n + 1) l)
          rw [if_neg e, if_neg e, h3]
theorem sg_set {l : List Nat} {i x : Nat} (h : Sg l) (hx : x = 48 ∨ x = 49 ∨ x = 46) : Sg (l.set i x) := fun c hc => by
  rcases List.mem_or_eq_of_mem_set hc with q | q
  · exact h c q
  · rw [q]; exact hx
/-- bits set to x, one behind the other -/
def fl (x : Nat) (l bs : List Nat) : List Nat := bs.foldl (fun m b => m.set ((plc l).getD b 0) x) l
def flB (x : Nat) (b bs : List Nat) : List Nat := bs.foldl (fun m i => m.set i x) b
theorem flB_len (x : Nat) : ∀ (bs b : List Nat), (flB x b bs).length = b.length
  | [], b => rfl
  | i :: bs, b => by
    show (flB x (b.set i x) bs).length = _
    rw [flB_len x bs, List.length_set]
theorem fl_go {x : Nat} (hx : x = 48 ∨ x = 49) : ∀ {bs m p : List Nat}, plc m = p → (∀ b ∈ bs, b < (bt m).length) →
    bt (bs.foldl (fun m b => m.set (p.getD b 0) x) m) = flB x (bt m) bs ∧ szs (bs.foldl (fun m b => m.set (p.getD b 0) x) m) = szs m ∧ (Sg m → Sg (bs.foldl (fun m b => m.set (p.getD b 0) x) m))
      ∧ (bs.foldl (fun m b => m.set (p.getD b 0) x) m).length = m.length
  | [], m, p, _, _ => ⟨rfl, rfl, fun h => h, rfl⟩
  | b :: bs, m, p, hp, h => by
    subst hp
    have x46 : x ≠ 46 := by omega
    obtain ⟨h1, h2, h3⟩ := plc_set (l := m) (b := b) x46 (h b List.mem_cons_self)
    have hb : ∀ c ∈ bs, c < (bt (m.set ((plc m).getD b 0) x)).length := fun c hc => by
      rw [h1, List.length_set]
      exact h c (List.mem_cons_of_mem _ hc)
    obtain ⟨g1, g2, g3, g4⟩ := fl_go hx (bs := bs) h2 hb
    rw [List.foldl_cons]
    refine ⟨?_, ?_, fun q => g3 (sg_set q (by omega)), by rw [g4, List.length_set]⟩
    · rw [g1, h1]
      rfl
    · rw [g2]
      exact h3 0
theorem fl_ok {x : Nat} {l bs : List Nat} (hx : x = 48 ∨ x = 49) (h : ∀ b ∈ bs, b < (bt l).length) : bt (fl x l bs) = flB x (bt l) bs ∧ szs (fl x l bs) = szs l ∧ (Sg l → Sg (fl x l bs)) ∧ (fl x l bs).length = l.length := fl_go hx rfl h
/-! a pattern by its sizes and its bits -/
def cut : List Nat → List Nat → List (List Nat)
  | [], _ => []
  | s :: ss, b => b.take s :: cut ss (b.drop s)
def jn (ss b : List Nat) : List Nat := TL.joinL [46] (cut ss b)
theorem cut_len : ∀ (ss b : List Nat), (cut ss b).length = ss.length
  | [], b => rfl
  | s :: ss, b => by
    show (cut ss _).length + 1 = _
    rw [cut_len ss]
    rfl
theorem cut_lens : ∀ {ss b : List Nat}, ss.sum ≤ b.length → (cut ss b).map List.length = ss
  | [], b, _ => rfl
  | s :: ss, b, h => by
    rw [List.sum_cons] at h
    show (b.take s).length :: (cut ss (b.drop s)).map List.length = _
    rw [cut_lens (by rw [List.length_drop]; omega), List.length_take]
    congr 1
    omega
theorem cut_mem : ∀ {ss b p : List Nat} {c : Nat}, p ∈ cut ss b → c ∈ p → c ∈ b
  | [], b, p, c, h, _ => by simp [cut] at h
  | s :: ss, b, p, c, h, hc => by
    rcases List.mem_cons.mp h with q | q
    · subst q
      exact List.mem_of_mem_take hc
    · exact List.mem_of_mem_drop (cut_mem q hc)
theorem cut_flat : ∀ {ss b : List Nat}, ss.sum = b.length → (cut ss b).flatten = b
  | [], b, h => by
    have : b = [] := List.length_eq_zero_iff.mp (by simpa using h.symm)
    rw [this]
    rfl
  | s :: ss, b, h => by
    rw [List.sum_cons] at h
    show (b.take s ++ (cut ss (b.drop s)).flatten) = b
    rw [cut_flat (by rw [List.length_drop]; omega), List.take_append_drop]
theorem bt_plain : ∀ {b : List Nat}, (∀ c ∈ b, c = 48 ∨ c = 49) → bt b = b := fun {b} h =>
  List.filter_eq_self.mpr fun c hc => by
    have := h c hc
    simp
    omega
theorem bt_join : ∀ {bs : List (List Nat)}, (∀ b ∈ bs, ∀ c ∈ b, c = 48 ∨ c = 49) → bt (TL.joinL [46] bs) = bs.flatten
  | [], _ => rfl
  | [b], h => by
    show bt b = [b].flatten
    rw [bt_plain (h b List.mem_cons_self)]
    simp
  | b :: d :: r, h => by
    have ih := bt_join (bs := d :: r) fun x hx => h x (List.mem_cons_of_mem _ hx)
    have e : TL.joinL [46] (b :: d :: r) = b ++ ([46] ++ TL.joinL [46] (d :: r)) := rfl
    rw [e, List.flatten_cons, ← ih]
    show List.filter _ (b ++ ([46] ++ _)) = _
    rw [List.filter_append, List.filter_append]
    have q := bt_plain (h b List.mem_cons_self)
    show bt b ++ ([] ++ _) = _
    rw [q]
    rfl
def Bits (b : List Nat) : Prop := ∀ c ∈ b, c = 48 ∨ c = 49
theorem Bits.bt {l : List Nat} (h : Sg l) : Bits (Fb.bt l) := fun c hc => by
  have h1 := List.mem_filter.mp hc
  have h2 := h c h1.1
  have h3 : ¬ c = 46 := by simpa using h1.2
  omega
theorem jn_sg {ss b : List Nat} (h : Bits b) : Sg (jn ss b) := sg_join fun p hp c hc => h c (cut_mem hp hc)
theorem jn_sz {ss b : List Nat} (h : Bits b) (hs : ss.sum ≤ b.length) (ne : ss ≠ []) : szs (jn ss b) = ss := by
  unfold jn
  rw [szs_join (fun e => ne (by have := congrArg List.length e; rw [cut_len] at this; exact List.length_eq_zero_iff.mp this)) (fun p hp c hc => h c (cut_mem hp hc)), cut_lens hs]
theorem jn_bt {ss b : List Nat} (h : Bits b) (hs : ss.sum = b.length) : bt (jn ss b) = b := by
  unfold jn
  rw [bt_join (fun p hp c hc => h c (cut_mem hp hc)), cut_flat hs]
theorem jn_go : ∀ (l : List Nat) (n : Nat) (pre : List Nat), pre.length = n → jn (szA n l) (pre ++ bt l) = pre ++ l
  | [], n, pre, h => by
    show TL.joinL [46] [(pre ++ []).take n] = pre ++ []
    rw [List.append_nil, ← h, List.take_length]
    rfl
  | c :: l, n, pre, h => by
    by_cases e : c = 46
    · subst e
      have ih := jn_go l 0 [] rfl
      have es : szA n (46 :: l) = n :: szA 0 l := rfl
      have eb : bt (46 :: l) = bt l := by simp
      rw [es, eb]
      unfold jn at *
      show TL.joinL [46] ((pre ++ bt l).take n :: cut (szA 0 l) ((pre ++ bt l).drop n)) = _
      rw [← h, List.take_left', List.drop_left']
      · rw [List.nil_append] at ih
        cases q : cut (szA 0 l) (bt l) with
        | nil =>
          have h1 := congrArg List.length q
          rw [cut_len] at h1
          have h2 := (szA_len l 0).1
          simp at h1
          rw [h1] at h2
          simp at h2
        | cons d r =>
          rw [q] at ih
          have e2 : TL.joinL [46] (pre :: d :: r) = pre ++ ([46] ++ TL.joinL [46] (d :: r)) := rfl
          rw [e2, ih]
          rfl
      · rfl
      · rfl
    · have ih := jn_go l (n + 1) (pre ++ [c]) (by rw [List.length_append, h] <;> rfl)
      have es : szA n (c :: l) = szA (n + 1) l := by
        show (if c = 46 then _ else _) = _
        rw [if_neg e]
      have eb : bt (c :: l) = c :: bt l := by simp [e]
      rw [es, eb]
      rw [List.append_assoc, List.append_assoc] at ih
      exact ih
theorem jn_of (l : List Nat) : jn (szs l) (bt l) = l := by
  have h := jn_go l 0 [] rfl
  exact h
/-- two patterns of the same sizes and bits are the same -/
theorem pat_ext {l m : List Nat} (h1 : szs l = szs m) (h2 : bt l = bt m) : l = m := by
  rw [← jn_of l, ← jn_of m, h1, h2]
theorem IsP.bits {l : List Nat} (h : IsP l) : Bits (bt l) := Bits.bt h.sg
theorem bt_sum (l : List Nat) : (bt l).length = (szs l).sum := by
  have h := szA_sum l 0
  rw [Nat.zero_add] at h
  exact h.symm
theorem isP_jn {l b : List Nat} (h : IsP l) (hb : Bits b) (hl : b.length = (bt l).length) : IsP (jn (szs l) b) ∧ szs (jn (szs l) b) = szs l ∧ bt (jn (szs l) b) = b := by
  have e := bt_sum l
  have ne : szs l ≠ [] := fun q => by
    have h2 := (szA_len l 0).1
    unfold szs at q
    rw [q] at h2
    simp at h2
  have z := jn_sz (ss := szs l) hb (by omega) ne
  have t := jn_bt (ss := szs l) hb (by omega)
  refine ⟨⟨jn_sg hb, by rw [z]; exact h.one, by rw [z]; exact h.few, ?_⟩, z, t⟩
  show (bt (jn (szs l) b)).length ≤ 120
  rw [t, hl]
  exact h.sum
theorem isP_fl {l bs : List Nat} {x : Nat} (h : IsP l) (hx : x = 48 ∨ x = 49) (hb : ∀ b ∈ bs, b < (bt l).length) : IsP (fl x l bs) ∧ szs (fl x l bs) = szs l ∧ bt (fl x l bs) = flB x (bt l) bs := by
  obtain ⟨h1, h2, h3, h4⟩ := fl_ok (l := l) hx hb
  refine ⟨⟨h3 h.sg, by rw [h2]; exact h.one, by rw [h2]; exact h.few, ?_⟩, h2, h1⟩
  show (bt _).length ≤ 120
  rw [h1, flB_len]
  exact h.sum
theorem flB_bits {x : Nat} (hx : x = 48 ∨ x = 49) : ∀ {bs b : List Nat}, Bits b → Bits (flB x b bs)
  | [], b, h => h
  | i :: bs, b, h => flB_bits hx (bs := bs) (b := b.set i x) fun c hc => by
    rcases List.mem_or_eq_of_mem_set hc with q | q
    · exact h c q
    · rw [q]; exact hx
theorem le_sum : ∀ {l : List Nat} {n : Nat}, n ∈ l → n ≤ l.sum
  | [], n, h => by simp at h
  | a :: l, n, h => by
    rw [List.sum_cons]
    rcases List.mem_cons.mp h with q | q
    · omega
    · have := le_sum q
      omega
/-! a block set -/
def upB (x f s : Nat) (b : List Nat) : List Nat := b.take f ++ List.replicate s x ++ b.drop (f + s)
theorem upB_go {x f : Nat} {b : List Nat} : ∀ s, f + s ≤ b.length → (List.range s).foldl (fun m j => m.set (f + j) x) b = upB x f s b
  | 0, h => by
    unfold upB
    simp
  | s + 1, h => by
    rw [List.range_succ, List.foldl_append, upB_go s (by omega), List.foldl_cons, List.foldl_nil]
    unfold upB
    have e : b.drop (f + s) = b[f + s]'(by omega) :: b.drop (f + s + 1) := List.drop_eq_getElem_cons (by omega)
    have l1 : (b.take f ++ List.replicate s x).length = f + s := by
      rw [List.length_append, List.length_take, List.length_replicate]
      omega
    rw [List.set_append_right _ _ (by omega), l1, Nat.sub_self, e, List.set_cons_zero, List.replicate_succ', ← Nat.add_assoc]
    simp
theorem upB_len {x f s : Nat} {b : List Nat} (h : f + s ≤ b.length) : (upB x f s b).length = b.length := by
  unfold upB
  rw [List.length_append, List.length_append, List.length_take, List.length_replicate, List.length_drop]
  omega
theorem upB_bits {x f s : Nat} {b : List Nat} (hx : x = 48 ∨ x = 49) (h : Bits b) : Bits (upB x f s b) := fun c hc => by
  unfold upB at hc
  rcases List.mem_append.mp hc with q | q
  · rcases List.mem_append.mp q with r | r
    · exact h c (List.mem_of_mem_take r)
    · rw [(List.mem_replicate.mp r).2]; exact hx
  · exact h c (List.mem_of_mem_drop q)
theorem cut_set {x : Nat} : ∀ {ss : List Nat} {b : List Nat} {k s : Nat}, ss[k]? = some s → ss.sum ≤ b.length → (cut ss b).set k (List.replicate s x) = cut ss (upB x (ss.take k).sum s b)
  | [], b, k, s, h, _ => by simp at h
  | t :: ss, b, 0, s, h, hl => by
    rw [List.sum_cons] at hl
    have e : t = s := by simpa using h
    subst e
    show List.replicate t x :: cut ss (b.drop t) = (upB x 0 t b).take t :: cut ss ((upB x 0 t b).drop t)
    unfold upB
    rw [List.take_zero, List.nil_append, Nat.zero_add, List.take_left' (by simp), List.drop_left' (by simp)]
  | t :: ss, b, k + 1, s, h, hl => by
    rw [List.sum_cons] at hl
    have h' : ss[k]? = some s := by simpa using h
    have ih := cut_set (x := x) (b := b.drop t) h' (by rw [List.length_drop]; omega)
    have hk : (ss.take k).sum + s ≤ ss.sum := by
      have e := List.take_append_drop k ss
      have e2 : ss.drop k = s :: ss.drop (k + 1) := by
        have hk := (List.getElem?_eq_some_iff.mp h').1
        rw [List.drop_eq_getElem_cons hk]
        congr 1
        exact (List.getElem?_eq_some_iff.mp h').2
      have e3 := congrArg List.sum e
      rw [List.sum_append, e2, List.sum_cons] at e3
      omega
    show b.take t :: (cut ss (b.drop t)).set k _ = (upB x (t + (ss.take k).sum) s b).take t :: cut ss ((upB x (t + (ss.take k).sum) s b).drop t)
    rw [ih]
    have lt : (b.take t).length = t := by rw [List.length_take]; omega
    have e : upB x (t + (ss.take k).sum) s b = b.take t ++ upB x (ss.take k).sum s (b.drop t) := by
      unfold upB
      rw [List.take_add, List.drop_drop, Nat.add_assoc]
      simp
    rw [e, List.take_left' lt, List.drop_left' lt]
/-- the parts of a pattern -/
theorem spl_cut (l : List Nat) : ∀ acc, TL.spl [46] 0 acc l = cut (szA acc.length l) (acc ++ bt l) := by
  induction l with
  | nil =>
    intro acc
    rw [TL.spl_nil]
    show [acc] = [(acc ++ []).take acc.length]
    rw [List.append_nil, List.take_length]
  | cons c l ih =>
    intro acc
    by_cases e : c = 46
    · subst e
      have hp : TL.pre [46] (46 :: l) = true := TL.pre_self [46] l
      rw [TL.spl_hit hp]
      have eb : bt (46 :: l) = bt l := by simp
      rw [eb]
      show acc :: TL.spl [46] 0 [] l = (acc ++ bt l).take acc.length :: cut (szA 0 l) ((acc ++ bt l).drop acc.length)
      rw [List.take_left' rfl, List.drop_left' rfl, ih []]
      rfl
    · have hp : TL.pre [46] (c :: l) = false := TL.pre_of_head _ _ fun q => e q
      rw [TL.spl_miss hp, ih (acc ++ [c])]
      have eb : bt (c :: l) = c :: bt l := by simp [e]
      have es : szA acc.length (c :: l) = szA (acc.length + 1) l := by
        show (if c = 46 then _ else _) = _
        rw [if_neg e]
      rw [eb, es, List.length_append, List.append_assoc]
      rfl
theorem split_cut (l : List Nat) : Txt.split (S l) "." = (cut (szs l) (bt l)).map S := by
  have e : ((".":Str)) = S [46] := by decide +kernel
  rw [e, SX.split_S (by simp) (by decide), spl_cut l []]
  rfl
theorem join_cut (bs : List (List Nat)) : Txt.join "." (bs.map S) = S (TL.joinL [46] bs) := by
  have e : ((".":Str)) = S [46] := by decide +kernel
  rw [e]
  exact SX.join_S [46] bs
theorem cut_rep : ∀ (ss : List Nat) (N x : Nat), ss.sum ≤ N → cut ss (List.replicate N x) = ss.map fun s => List.replicate s x
  | [], N, x, h => rfl
  | s :: ss, N, x, h => by
    rw [List.sum_cons] at h
    show (List.replicate N x).take s :: cut ss ((List.replicate N x).drop s) = _
    rw [List.take_replicate, List.drop_replicate, cut_rep ss (N - s) x (by omega), Nat.min_eq_left (by omega)]
    rfl
end Fb
set_option maxRecDepth 100000
set_option maxHeartbeats 4000000
namespace Fb
open PySem PySem.Spec PyProof.Rows L2
theorem ixN_at {n j : Nat} (hj : j < n) : ixN n (j : Int) = some j := by
  unfold ixN
  rw [if_pos (by omega), if_pos (by omega)]
  simp
theorem countIn_signs (c : Nat) : ∀ l : List Nat, countIn (.str ⟨#[c]⟩) (l.map fun n => PyData.str ⟨#[n]⟩) = ((l.count c : Nat) : Int)
  | [] => by simp [countIn]
  | n :: l => by
    rw [List.map_cons, countIn, countIn_signs c l, List.count_cons]
    by_cases h : n = c
    · subst h
      simp [same]
      omega
    · have e : same (PyData.str ⟨#[n]⟩) (.str ⟨#[c]⟩) = false := by
        simp [same]
        exact h
      rw [e]
      simp [h]
theorem count_ones (b : List Nat) : Txt.count (SX.S b) "1" = ((b.count 49 : Nat) : Int) := by
  have e : (("1" : Str)) = ⟨#[49]⟩ := by decide +kernel
  rw [e, count_is, show (SX.S b).cps.toList = b by simp [SX.S], countIn_signs]
/-! sum of a tuple; a class held by a local name; comprehensions over tuples -/
section
variable {X : Cx}
def rSumT (K : PySem.W.Frag) : List V → Hp → VK → Prop := fun vs H Q => ∃ (a : Addr) (ns : List Int), vs = [V.ref a] ∧ SqT K H a (ns.map V.int) ∧ Q (.int ns.sum) H
theorem cr_sumT (hc : X.calm = true) : CallR X (.builtin "sum") (rSumT X.K) := by
  intro pins s σ H vs us Q I r h
  obtain ⟨a, ns, rfl, hs, q⟩ := h
  obtain ⟨its, rv, hl, _⟩ := I.tuple hs
  rw [Vals.ref1 r]
  have hi := rv.ints
  obtain ⟨xs, e⟩ := hi.allInts.items
  have hn : numsOf (intItems xs).toList = ns := by rw [← e]; exact hi.numsOf
  rw [nums_intItems] at hn
  rw [e] at hl
  refine PySem.W.ktm_sumG (I.ok.hd hc) hl fun h' tk t' hk => ?_
  rw [preSum_eq, List.take_of_length_le (by simp), hn]
  exact ⟨.int _, H, I.kept hk, ⟨_, rfl⟩, q⟩
/-- C(..), C held by the i-th slot -/
def tMakeL (i : Nat) (C : Addr) (sp : Sp) (E : XK) (t : TA) : TE := fun σ H Q => σ[i]? = some (some (.ref C)) ∧ t σ H fun vs H1 => ∀ x dx, H1 x = none → H1 dx = none → dx ≠ x → sp (.ref x :: vs) (upd (upd H1 dx (.own x)) x (.ins C dx [])) (fun v H2 => v = .non ∧ Q (.ref x) H2) E
theorem pe_makeL {CX : CXT} {k i : Nat} {f C : Addr} {sp : Sp} {E : XK} {x : Str} {p pos : Pos} {e : Expr} {es : List Expr} {t : TA} (M : Mk X.K C f) (F : FnR X.prog X.w X.K X.mg X.base CX k f sp) (hr : Room (k + 1) X.A) (hN : X.N[i]? = some x) (hv : Vis X.env.scope x) (hx : Passes CX X E) (ha : PA X (e :: es) t) (hdb : (x == ("__debug__" : Str)) = false := by decide)
    (hcd : (x == ("__classdict__" : Str)) = false := by decide) (he : starEach (e :: es) X.env = (false, eval e X.env) :: starEach es X.env := by rfl) (hpl : (backTo pos (starEach es X.env)).any (·.1) = false := by rfl) : PE X (.Call (.Name x p) (e :: es) [] pos) (tMakeL i C sp E t) := by
  refine ⟨fun pins s σ H Q I h => ?_⟩
  obtain ⟨hs, ht⟩ := h
  refine wpAny_Call_Name_kw (thn ((pe_var (pos := p) hN hv hdb hcd).run pins s σ H (fun v H1 => v = .ref C ∧ H1 = H) I ⟨.ref C, hs, rfl, rfl⟩) fun u s1 ⟨v, H1, I1, r1, q1⟩ => ?_)
  obtain ⟨rfl, rfl⟩ := q1
  cases r1
  refine PySem.W.callWith_K (h₀ := X.base) I.ok.mod.kin M.kp (thn (ha.run pos pins s1 σ _ _ I1 ht) fun us s2 ⟨vs, H2, I2, r, q⟩ => ⟨I2.kIn, ?_⟩) he hpl
  exact StX.run_makeR M F hr hx I2 r q
end
section
variable {g : TG} {tt : TT} {te : TE} {vs : List Nat} {σ : L2.St} {H1 : Hp} {D : Addr} {Qd : Hp → Prop} (out : Nat → List V)
theorem lc_outU {K : PySem.W.Frag} {a : Addr} {xs : List V} (hD : H1 D = none) (hl : SqT K H1 a xs) (o0 : out 0 = []) (ol : ∀ i, i < xs.length → (out i).length < sizeLine)
    (hs : ∀ i x H (Kc : V → Hp → Prop) (K0 : Hp → Prop), xs[i]? = some x → Same H1 H → (∀ y H4, Same H H4 → out (i + 1) = out i ++ [y] → Kc y H4) → (∀ H4, Same H H4 → out (i + 1) = out i → K0 H4) →
      g x (wipe σ vs) H fun σ2 H2 => wipe σ2 vs = wipe σ vs ∧ tt σ2 H2 fun b H3 => if b = true then te σ2 H3 Kc else K0 H3)
    (hd : ∀ H, Same H1 H → H D = some (.lst (out xs.length)) → Qd H) :
    ∃ W : Nat → Nat → Hp → Prop, (∃ m, W 0 m (upd H1 D (.lst []))) ∧ ∀ i m H, W i m H →
      ((Itt K a).stop i H ∧ Qd H) ∨ ((Itt K a).go i H ∧ ∃ Nx : Hp → Prop, (∀ H', Nx H' → ∃ m', m' < m ∧ W (i + 1) m' H') ∧ ∀ x H', (Itt K a).yld i H x H' → g x (wipe σ vs) H' fun σ2 H2 => wipe σ2 vs = wipe σ vs ∧ tt σ2 H2 fun b H3 =>
        if b = true then te σ2 H3 fun y H4 => ∃ acc, H4 D = some (.lst acc) ∧ acc.length < sizeLine ∧ Nx (upd H4 D (.lst (acc ++ [y]))) else Nx H3) := by
  refine lc_tup (xs := xs) (fun i H => OutI H1 D (out i) H) (by rw [o0]; exact OutI.start hD) (fun i H _ h => sqT_same h.1 hl) (fun i x H e h => ?_) (fun H h => hd H h.1 h.2)
  have lt : i < xs.length := (List.getElem?_eq_some_iff.mp e).1
  exact hs i x H _ _ e h.1 (fun y H4 s q => ⟨out i, (h.stay s).2, ol i lt, by rw [q]; exact h.put hD s⟩) (fun H4 s q => by rw [q]; exact h.stay s)
end
end Fb
set_option maxRecDepth 100000
set_option maxHeartbeats 4000000
namespace Fb
open PySem PySem.Spec PyProof.Rows L2
open SX (S)
/-! lists of single signs -/
abbrev sgV (b : List Nat) : List V := b.map fun c => V.str (S [c])
theorem sgV_str (b : List Nat) : sgV b = (b.map fun c => S [c]).map V.str := by rw [List.map_map] <;> rfl
theorem countIn_strs (k : Str) : ∀ ys : List Str, countIn (.str k) (ys.map PyData.str) = ((ys.count k : Nat) : Int)
  | [] => by simp [countIn]
  | y :: ys => by
    rw [List.map_cons, countIn, countIn_strs k ys, List.count_cons]
    by_cases h : y = k
    · subst h
      simp [same]
      omega
    · have e : same (PyData.str y) (.str k) = false := by
        simp [same]
        exact h
      rw [e]
      simp [h]
section
variable {X : Cx}
def rCntS (K : PySem.W.Frag) : V → List V → Hp → VK → Prop := fun x xs H Q => ∃ (p : Addr) (ys : List Str) (k : Str), x = .ref p ∧ xs = [.str k] ∧ SqL K H p (ys.map V.str) ∧ Q (.int (ys.count k : Nat)) H
theorem mt_lcountS : MtR X "list.count" (rCntS X.K) := by
  intro pins s σ H x xs v us Q I rx rxs h
  obtain ⟨p, ys, k, rfl, rfl, hs, q⟩ := h
  cases rx
  obtain ⟨u, rfl, t, rfl⟩ := rxs.one
  obtain ⟨its, rv, ⟨ob, n, ho, hc, _, hdat⟩, _⟩ := I.list hs
  refine count_list_strs (vs := its) ⟨ob, ho, hc, n, hdat⟩ rv.strs ?_
  rw [countIn_strs]
  exact ⟨.int (ys.count k : Nat), H, I.tok _, ⟨_, rfl⟩, q⟩
end
theorem call_len_seqK {X : Cx} {K : PySem.W.Frag} (hK : X.K = K) : CallR X (.builtin "len") (fun xs H Q => ∃ p ys, xs = [.ref p] ∧ (SqL K H p ys ∨ SqT K H p ys) ∧ Q (.int ys.length) H) := by
  subst hK
  exact call_len_seq
theorem count_sg (b : List Nat) (c : Nat) : (b.map fun c => S [c]).count (S [c]) = b.count c := by
  induction b with
  | nil => rfl
  | cons a b ih =>
    rw [List.map_cons, List.count_cons, List.count_cons, ih, SX.S_beq_eq]
    by_cases h : a = c
    · subst h; simp
    · simp [h]
theorem inV_sgV (c : Nat) (b : List Nat) : inV (.str (S [c])) (sgV b) = decide (c ∈ b) := by
  induction b with
  | nil => rfl
  | cons a b ih =>
    have e : inV (.str (S [c])) (sgV (a :: b)) = (eqV (V.str (S [a])) (V.str (S [c])) || inV (.str (S [c])) (sgV b)) := rfl
    rw [e, ih]
    have e2 : eqV (V.str (S [a])) (V.str (S [c])) = decide (a = c) := by
      show (S [a] == S [c]) = _
      rw [SX.S_beq_eq]
      by_cases h : a = c
      · subst h; simp
      · simp [h]
    rw [e2]
    by_cases h : a = c
    · subst h; simp
    · have : ¬ c = a := fun q => h q.symm
      simp [h, this]
theorem flat_sgV : ∀ b : List Nat, (sgV b).all flatV = true
  | [] => rfl
  | c :: b => by
    show (flatV (V.str (S [c])) && (sgV b).all flatV) = true
    rw [flat_sgV b]
    rfl
theorem cut_get : ∀ {ss b : List Nat} {i s : Nat}, ss[i]? = some s → (cut ss b)[i]? = some ((b.drop (ss.take i).sum).take s)
  | [], b, i, s, h => by simp at h
  | t :: ss, b, 0, s, h => by
    have e : t = s := by simpa using h
    subst e
    rfl
  | t :: ss, b, i + 1, s, h => by
    have h' : ss[i]? = some s := by simpa using h
    show (cut ss (b.drop t))[i]? = some ((b.drop (t + (ss.take i).sum)).take s)
    rw [cut_get h', List.drop_drop]
theorem take_sum_s {ss : List Nat} {i s : Nat} (h : ss[i]? = some s) : (ss.take (i + 1)).sum = (ss.take i).sum + s := by
  rw [List.take_add_one, h, List.sum_append]
  simp
theorem take_sum_le (ss : List Nat) (i : Nat) : (ss.take i).sum ≤ ss.sum := by
  have e := congrArg List.sum (List.take_append_drop i ss)
  rw [List.sum_append] at e
  omega
theorem cutV_sg {b : List Nat} {f s : Nat} (h : f + s ≤ b.length) : cutV (sgV b) (some (f : Int)) (some ((f : Int) + (s : Int))) = sgV ((b.drop f).take s) := by
  unfold cutV
  have e : ((f : Int) + (s : Int)) = ((f + s : Nat) : Int) := by omega
  rw [e, HT.sIx_nat, HT.sIx_nat, List.length_map, Nat.min_eq_left h, Nat.min_eq_left (show f ≤ b.length by omega), Nat.add_sub_cancel_left, ← List.map_drop, ← List.map_take]
/-- a comprehension over a text -/
theorem lc_S {l : List Nat} {g : TG} {tt : TT} {te : TE} {vs : List Nat} {σ : L2.St} {H1 : Hp} {D : Addr} {Qd : Hp → Prop} (Pv : Nat → Hp → Prop) (h0 : Pv 0 (upd H1 D (.lst [])))
    (hs : ∀ i c H, l[i]? = some c → Pv i H → g (.str (S [c])) (wipe σ vs) H fun σ2 H2 => wipe σ2 vs = wipe σ vs ∧ tt σ2 H2 fun b H3 =>
      if b = true then te σ2 H3 fun y H4 => ∃ acc, H4 D = some (.lst acc) ∧ acc.length < sizeLine ∧ Pv (i + 1) (upd H4 D (.lst (acc ++ [y]))) else Pv (i + 1) H3) (hd : ∀ H, Pv l.length H → Qd H) :
    ∃ W : Nat → Nat → Hp → Prop, (∃ m, W 0 m (upd H1 D (.lst []))) ∧ ∀ i m H, W i m H →
      ((Its (S l)).stop i H ∧ Qd H) ∨ ((Its (S l)).go i H ∧ ∃ Nx : Hp → Prop, (∀ H', Nx H' → ∃ m', m' < m ∧ W (i + 1) m' H') ∧ ∀ x H', (Its (S l)).yld i H x H' → g x (wipe σ vs) H' fun σ2 H2 => wipe σ2 vs = wipe σ vs ∧ tt σ2 H2 fun b H3 =>
        if b = true then te σ2 H3 fun y H4 => ∃ acc, H4 D = some (.lst acc) ∧ acc.length < sizeLine ∧ Nx (upd H4 D (.lst (acc ++ [y]))) else Nx H3) := by
  have hz : (S l).cps.size = l.length := by simp [S]
  refine ⟨fun i m H => i + m = l.length ∧ Pv i H, ⟨l.length, by omega, h0⟩, fun i m H ⟨hm, p⟩ => ?_⟩
  by_cases lt : i < l.length
  · refine Or.inr ⟨by show i < (S l).cps.size; omega, Pv (i + 1), fun H' p' => ⟨m - 1, by omega, by omega, p'⟩, ?_⟩
    rintro x H' ⟨eH, c, hc, rfl⟩
    subst eH
    have e : l[i]? = some c := by simpa [S] using hc
    exact hs i c _ e p
  · obtain rfl : i = l.length := by omega
    exact Or.inl ⟨by show (S l).cps.size ≤ _; omega, hd H p⟩
/-! an exception that was caught and is kept, with fields or without -/
section
variable {X : Cx}
def rIsB (K : PySem.W.Frag) : List V → Hp → VK → Prop := fun xs H Q => ∃ (a C : Addr) (c : V) (cv : Value) (b : Bool), xs = [.ref a, c] ∧ XC K C ∧ XB K ∧ (H a = some (ExR (.ref C) none a) ∨ ∃ fs, XR H a C fs) ∧ ClsV c cv ∧ PySem.W.kitOne K (.ref C) cv = some b ∧ Q (.bl b) H
theorem call_isB : CallR X (.builtin "isinstance") (rIsB X.K) := by
  intro pins s σ H xs us Q I r h
  obtain ⟨a, C, c, cv, b, e, T, B, hE | ⟨fs, hE⟩, k, e2, q⟩ := h
  · exact call_isR pins s σ H xs us Q I r ⟨a, C, c, cv, b, e, T, B, hE, k, e2, q⟩
  · exact call_isQ pins s σ H xs us Q I r ⟨a, C, fs, c, cv, b, e, T, B, hE, k, e2, q⟩
end
end Fb
set_option maxRecDepth 100000
set_option maxHeartbeats 4000000
/-! a loop over range of a written number: within its body a token is out; calls and stores whose parts want one -/
namespace Fb
open PySem PySem.Spec PyProof.Rows L2
/-- what is walked, a token out behind it -/
def PIs (X : Cx) (tg iter : Expr) (wi : TI) : Prop :=
  ∀ (pins : List (Addr × Obj)) (s : Shared) (σ : L2.St) (H : Hp) (R : It → Hp → Prop), Inv X pins σ H s → wi σ H R →
    wpAny (model X.prog X.w) X.A (eval iter X.env) (fun v s1 => 1 ≤ s1.toks ∧ wpAny (model X.prog X.w) X.A (pyIter v) (PIE X pins σ tg R) X.xe s1) X.xe s
section
variable {X : Cx} {tg : Expr} {p c pos : Pos} {k : Int} {j : Nat}
theorem pis_range1 (hg : Gl X "range") (hm : X.mg "range" = none) : PIs X tg (.Call (.Name "range" p) [.Constant (.int k) j c] [] pos) (iRng1 (tCons (tC (.int k)) tNil)) := by
  intro pins s σ H R I h
  refine Call_ (ld_blt I hg hm boot_range (PyProof.Rows.callWith_type1 ?_ rfl rfl))
  show wpAny _ _ (spliced ((false, eval (.Constant (.int k) j c) X.env) :: backTo pos (starEach [] X.env))) _ _ s
  refine Calls.spliced_cons (wpAny_Constant_int (Calls.spliced_nil ?_))
  obtain ⟨i, e, q1, q2, q⟩ := h
  have e1 : k = i := by
    have := (List.cons.inj e).1
    exact V.int.inj this
  subst e1
  exact wpAny_mono (PySem.wpAny_toks_of (n := 1) (by show 1 ≤ s.toks + 1; omega) (call_range_1 (range_it (tg := tg) (R := R) (I.tok (s.toks + 1)) (by omega) (by omega) q1 q2 (by simpa using q)))) (fun _ _ z => z) fun _ _ z => z.2
theorem ps_forT {iter : Expr} {body : List Stmt} {wi : TI} {g : TG} {tb : TS} {pos : Pos} (hp : PassesOwn (model X.prog X.w) X.A X.env X.xe) (hc : X.calm = true) (hi : PIs X tg iter wi) (hg : PG X tg g) (hb : PSsT X body tb)
    (hs : ∀ x, foldedSetIterable iter X.env x = pure x := by intro _; rfl) : PS X (.For tg iter body [] pos) (tFor wi g tb) := by
  refine ⟨fun pins s σ H D I h => ?_⟩
  refine wpAny_For (thn (hi pins s σ H _ I h) fun v s1 ⟨t1, h1⟩ => wpAny_mono (PySem.wpAny_toks_of t1 h1) (fun itv s2 h2 => ?_) fun _ _ z => z.2) hs
  obtain ⟨t2, it, fp, tn, J, H2, e, I2, T, st2, f2, W, ⟨m0, w0⟩, turn⟩ := h2
  subst e
  have stat : ∀ {H' : Hp}, (∀ b ∈ fp, H' b = none) → ∀ b ∈ fp, FpOk X pins H' b := fun hn b hb => ⟨hn b hb, (f2 b hb).2⟩
  refine codeAny_forLoop_any (fun n s' => 1 ≤ s'.toks ∧ ∃ i σ' H', Inv X pins σ' H' s' ∧ tn i s'.heap ∧ (∀ b ∈ fp, H' b = none) ∧ W i n σ' H') ?_ m0 ⟨t2, 0, σ, H2, I2, st2, fun b hb => (f2 b hb).1, w0⟩
  rintro n s3 ⟨t3, i, σ3, H3, I3, st3, fr3, w3⟩
  rcases turn i n σ3 H3 w3 with ⟨stop, qn⟩ | ⟨go, N, hN, step⟩
  · refine wpAny_passesOwn hp (thn (T.done X rfl rfl rfl hc i pins s3 σ3 H3 X.xe I3 (stat fr3) st3 stop) fun r s4 ⟨hr, I4⟩ => ?_)
    subst hr
    exact wpAny_execs_nil ⟨σ3, H3, I4, qn⟩
  · refine wpAny_passesOwn hp (wpAny_mono (PySem.wpAny_toks_of t3 (T.item X rfl rfl rfl hc i pins s3 σ3 H3 X.xe I3 (stat fr3) st3 go)) (fun r s4 ⟨t4, u, hr, h4⟩ => ?_) fun _ _ z => z.2)
    subst hr
    refine wpAny_passesOwn hp (wpAny_mono (PySem.wpAny_toks_of t4 h4) (fun _ s5 ⟨t5, x, H5, I5, r5, y5, st5, fr5⟩ => ?_) fun _ _ z => z.2)
    have I5' := I5.pinned (stat fr5) (T.obj _ _ st5)
    refine wpAny_passesOwn hp (wpAny_mono (PySem.wpAny_toks_of t5 (hg.run _ s5 σ3 H5 x u _ I5' r5 (step x H5 y5))) (fun _ s6 ⟨t6, σ6, H6, I6, q6⟩ => ?_) fun _ _ z => z.2)
    refine wpAny_passesOwn hp (wpAny_mono (PySem.wpAny_toks_of t6 (hb _ s6 σ6 H6 _ t6 I6 q6)) (fun f s7 ⟨t7, q7⟩ => ?_) fun _ _ z => z.2)
    have again : ∀ {σ7 : L2.St} {H7 : Hp}, Inv X (pins ++ pinsAt fp s5.heap) σ7 H7 s7 → N σ7 H7 → ∃ m, m < n ∧ 1 ≤ s7.toks ∧ ∃ i σ' H', Inv X pins σ' H' s7 ∧ tn i s7.heap ∧ (∀ b ∈ fp, H' b = none) ∧ W i m σ' H' := fun {σ7 H7} I7 n7 => by
      obtain ⟨m', hm, w7⟩ := hN σ7 H7 n7
      refine ⟨m', hm, t7, i + 1, σ7, H7, I7.unpinned, T.keep _ _ _ st5 fun b hb o e => (I7.pin (b, o) (List.mem_append_right _ (List.mem_append_right _ (mem_pinsAt hb e)))).1, fun b hb => ?_, w7⟩
      obtain ⟨o, e, d⟩ := T.obj _ _ st5 b hb
      exact (I7.pin (b, o) (List.mem_append_right _ (List.mem_append_right _ (mem_pinsAt hb e)))).2.1
    cases f with
    | next => obtain ⟨σ7, H7, I7, n7⟩ := q7; exact again I7 n7
    | cont => obtain ⟨σ7, H7, I7, n7⟩ := q7; exact again I7 n7
    | brk => obtain ⟨σ7, H7, I7, q7⟩ := q7; exact ⟨σ7, H7, I7.unpinned, q7⟩
    | ret v => obtain ⟨x7, σ7, H7, I7, r7, q7⟩ := q7; exact ⟨x7, σ7, H7, I7.unpinned, r7, q7⟩
end
section
variable {X : Cx} {CX : CXT} {k : Nat} {f : Addr} {fd : FuncData} {ps : List Str} {sp : Sp} {ds : List Value} {dvs : List V} {E : XK} {x : Str} {p pos : Pos} {e : Expr} {es : List Expr} {t : TA}
theorem pet_call (F : FnOk X.prog X.w X.K X.mg X.base CX k f fd ps sp) (hr : Room k X.A) (hg : Gl X x) (hm : X.mg x = some (.ref f)) (hk : PySem.W.keepIn X.K (.ref f) = true) (hb : Binds X.K fd ps ds) (hd : Vals dvs ds) (hx : Passes CX X E)
    (ha : L2.PAT X (e :: es) t) (hdb : (x == ("__debug__" : Str)) = false := by decide) (he : starEach (e :: es) X.env = (false, eval e X.env) :: starEach es X.env := by rfl) (hpl : (backTo pos (starEach es X.env)).any (·.1) = false := by rfl) :
    L2.PET X (.Call (.Name x p) (e :: es) [] pos) (tCall sp dvs E t) := by
  intro pins s σ H Q h0 I h
  refine wpAny_Call_Name_kw (ld_glob I hg hm ?_ hdb)
  refine PySem.W.callWith_K (h₀ := X.base) I.ok.mod.kin hk (thn (ha pos pins s σ H _ h0 I h) fun us s1 ⟨vs, H1, I1, r, q⟩ => ⟨I1.kIn, ?_⟩) he hpl
  exact run_fn F hr hb hd hx I1 r q
theorem pst_set {i : Nat} {te : TE} {pos' : Pos} (hN : X.N.Nodup) (hi : X.N[i]? = some x) (hx : Loc X.env.scope x) (he : L2.PET X e te) (hs : swapsWith e (some (.Name x pos')) pos.line X.env = pure false := by rfl) (hf : X.fn x = true ∨ X.env.scope.names.lookup x = some .local := by first | exact .inl rfl | exact .inr rfl | assumption) :
    PST X (.Assign [.Name x pos'] e pos) (tAsg te (gName i)) := by
  intro pins s σ H D h0 I h
  refine wpAny_Assign_Name (thn (he pins s σ H _ h0 I h) fun v s1 ⟨y, H1, I1, r1, q1⟩ => ?_) hs
  exact store_ok I1 hN hi hx r1 (fun s2 I2 => ⟨_, H1, I2, q1⟩) hf
end
/-! in and not in, within a comprehension: the fragment named -/
theorem op_inK {X : Cx} {K : PySem.W.Frag} (hK : X.K = K) : OpR X (compareOp .In) (rIn K false) := by
  subst hK
  exact op_in_seq
theorem op_notInK {X : Cx} {K : PySem.W.Frag} (hK : X.K = K) : OpR X (compareOp .NotIn) (rIn K true) := by
  subst hK
  exact op_notIn_seq
end Fb
set_option maxRecDepth 100000
set_option maxHeartbeats 4000000
namespace Fb
open PySem PySem.Spec PyProof.Rows L2
open Sem (wp)
/-! enumerate(zip(text, text)), whose inner tuples stay out: the zip makes a new one each time -/
def ZF (h : Heap) (z TI TO : Addr) (v : Value) (f : Bool) : Prop := h.get? z = some { cls := .type "zip", dict := none, data := .fields #[v, .bool f, .bool false, .ref TI, .ref TO], slots := #[] }
def HV (v : Value) : Prop := v = .none ∨ ∃ T : Addr, v = rawInt T
section
variable {prog : Program} {w : World} {A : Around} {E : Value → Shared → Prop} {s : Shared} {z TI TO i1 i2 : Addr} {fp1 fp2 : List Addr} {n1 n2 i : Nat} {P1 P2 : Nat → Value → Prop} {St1 St2 : Nat → Heap → Prop} {a1 a2 v : Value} {f : Bool}
theorem free_any {Q : Bool → Shared → Prop} (hz : ZF s.heap z TI TO v f) (hv : HV v) (q1 : Q true s) (q0 : ∀ h', ZF h' z TI TO v true → Heap.SameBut z s.heap h' → Q false { s with heap := h' }) :
    wpAny (model prog w) A (Builtin.SmallTypes.ownedTupleIsFree (.ref z)) Q E s := by
  unfold Builtin.SmallTypes.ownedTupleIsFree
  rcases hv with rfl | ⟨T, rfl⟩
  · exact wpAny_bind (wpAny_field hz rfl (x := .none) rfl (wpAny_pure q1))
  refine wpAny_bind (wpAny_field hz rfl (x := rawInt T) rfl ?_)
  show wpAny _ _ (loadIfAlive ((T : Int).toNat) >>= fun r => _) _ _ _; rw [Int.toNat_natCast]
  refine wpAny_bind (fun _ _ _ => ?_)
  show wpAny _ _ (_ : Sem Bool) Q E s
  cases hT : s.heap.get? T with
  | none => simp only [Option.isNone_none, if_true]; exact wpAny_pure q1
  | some oT =>
    simp only [Option.isNone_some, Bool.false_eq_true, if_false]
    refine wpAny_bind (wpAny_field hz rfl (x := .bool f) rfl ?_)
    cases f
    · rw [if_pos (show (Value.bool false != Value.bool true) = true by rfl)]
      exact wpAny_bind (wpAny_setField_rec hz (by simp) fun g hg sg => wpAny_pure (q0 g hg sg))
    · rw [if_neg (show ¬ (Value.bool true != Value.bool true) = true by exact Bool.false_ne_true)]
      exact wpAny_pure (q0 _ hz (Heap.SameBut.refl _ _))
theorem ZF.put {h h' : Heap} {x : Addr} (e : ZF h z TI TO v f) (sb : Heap.SameBut x h h') (ne : z ≠ x) : ZF h' z TI TO v f := sb.extBut _ _ ne e
theorem zipN_item {Q : Value → Shared → Prop} (S : ZipSep2 z TI TO i1 i2 fp1 fp2) (D1 : Draws prog w A i1 fp1 n1 P1 St1) (D2 : Draws prog w A i2 fp2 n2 P2 St2)
    (hz : ZF s.heap z TI TO v f) (hv : HV v) (hTI : IsTupOf2 s.heap TI (.ref i1) (.ref i2)) (hTO : IsTupOf2 s.heap TO a1 a2) (st1 : St1 i s.heap) (st2 : St2 i s.heap) (lt1 : i < n1) (lt2 : i < n2)
    (k : ∀ x1 x2 h' tk v' f' b1 b2, P1 i x1 → P2 i x2 → HV v' → ZF h' z TI TO v' f' → IsTupOf2 h' TO b1 b2 → St1 (i + 1) h' → St2 (i + 1) h' → IsTupOf2 h' s.heap.objs.size x1 x2 → h'.objs.size = s.heap.objs.size + 1 →
      (∀ c o, c ≠ z → c ≠ TO → c ≠ i1 → c ≠ i2 → s.heap.get? c = some o → h'.get? c = some o) → Q (.ref s.heap.objs.size) { s with heap := h', toks := tk }) :
    wpAny (model prog w) A (Builtin.«zip.__next__» ⟨[.ref z], []⟩) (fun fin s' => ∃ v, fin = .done (.ret v) ∧ Q v s') E s := by
  obtain ⟨hp, g, d, t0, os⟩ := s
  show wpAny _ _ (field (.ref z) 2 >>= fun r => _) _ _ _; refine wpAny_bind (wpAny_field hz rfl (x := .bool false) rfl ?_)
  show wpAny _ _ (field (.ref z) 3 >>= fun r => _) _ _ _; refine wpAny_bind (wpAny_field hz rfl (x := .ref TI) rfl ?_)
  refine wpAny_bind (wpAny_seqItems hTI rfl ?_)
  show wpAny _ _ (Builtin.SmallTypes.ownedTupleIsFree (.ref z) >>= fun r => _) _ _ _
  refine wpAny_bind (free_any hz hv ?_ fun g0 zz0 s0 => ?_)
  · -- the tuple is free: it is filled again, a copy is given
    simp only [if_true]
    refine wpAny_bind (wpAny_rule (wpAny_bind (wpAny_field hz rfl (x := .ref TO) rfl ?_)))
    refine wpAny_bind (wpAny_setField_rec hz (by simp) fun g0 zz0 s0 => ?_)
    replace zz0 : ZF g0 z TI TO .ellipsis f := zz0; replace s0 : Heap.SameBut z hp g0 := s0
    refine wpAny_bind ?_; simp only [List.zipIdx_cons, List.zipIdx_nil, List.forIn_cons, List.forIn_nil]
    refine wpAny_bind (wpAny_bind (wpAny_onRaise ?_))
    show wpAny _ _ (Builtin.SmallTypes.nextOf (.ref i1) >>= fun r => _) _ _ ⟨g0, g, d, t0, os⟩
    refine wpAny_bind (D1.item i _ _ _ lt1 (D1.over st1 s0 S.zf1) fun x1 p1 t1 e1 y1 r1 => wpAny_pure ?_)
    replace r1 : Heap.SameBut i1 g0 p1 := r1
    have U1 : IsTupOf2 p1 TO a1 a2 := r1.extBut _ _ S.Ti1 (s0.extBut _ _ S.TOz hTO)
    refine wpAny_bind (wpAny_seqItems (s := ⟨p1, g, d, t1, os⟩) U1 rfl (wpAny_bind (updateSeq_IsTupOf2 (s := ⟨p1, g, d, t1, os⟩) U1 fun g1 V1 s1 => ?_)))
    replace V1 : IsTupOf2 g1 TO x1 a2 := V1; replace s1 : Heap.SameBut TO p1 g1 := s1
    refine wpAny_bind (wpAny_letGo (wpAny_pure (wpAny_bind (wpAny_bind (wpAny_onRaise ?_)))))
    show wpAny _ _ (Builtin.SmallTypes.nextOf (.ref i2) >>= fun r => _) _ _ ⟨g1, g, d, t1, os⟩
    refine wpAny_bind (D2.item i _ _ _ lt2 (D2.over (D2.over (D2.over st2 s0 S.zf2) r1 S.sep1_2) s1 S.Tf2) fun x2 p2 t2 e2 y2 r2 => wpAny_pure ?_)
    replace r2 : Heap.SameBut i2 g1 p2 := r2
    have U2 : IsTupOf2 p2 TO x1 a2 := r2.extBut _ _ S.Ti2 V1
    refine wpAny_bind (wpAny_seqItems (s := ⟨p2, g, d, t2, os⟩) U2 rfl (wpAny_bind (updateSeq_IsTupOf2 (s := ⟨p2, g, d, t2, os⟩) U2 fun g2 V2 s2 => ?_)))
    replace V2 : IsTupOf2 g2 TO x1 x2 := V2; replace s2 : Heap.SameBut TO p2 g2 := s2
    refine wpAny_bind (wpAny_letGo (wpAny_pure (wpAny_pure (wpAny_bind (wpAny_seqItems (s := ⟨g2, g, d, t2, os⟩) V2 rfl (wpAny_bind (wpAny_newTuple ?_)))))))
    have sz : g2.objs.size = hp.objs.size := by rw [s2.1, r2.1, s1.1, r1.1, s0.1]
    have Z2 : ZF g2 z TI TO .ellipsis f := (((zz0.put r1 S.zi1).put s1 S.TOz.symm).put r2 S.zi2).put s2 S.TOz.symm
    have all : ∀ c o, c ≠ z → c ≠ TO → c ≠ i1 → c ≠ i2 → hp.get? c = some o → g2.get? c = some o := fun c o cz cT c1 c2 e => s2.extBut _ _ cT (r2.extBut _ _ c2 (s1.extBut _ _ cT (r1.extBut _ _ c1 (s0.extBut _ _ cz e))))
    have j1 : St1 (i + 1) g2 := D1.over (D1.over (D1.over y1 s1 S.Tf1) r2 S.sep2_1) s2 S.Tf1
    have j2 : St2 (i + 1) g2 := D2.over y2 s2 S.Tf2
    have zlt : z < g2.objs.size := Heap.lt_size Z2
    show wpAny _ _ (Builtin.SmallTypes.ownedTupleHandOut (.ref z) (.ref g2.objs.size) >>= fun r => _) _ _ ⟨g2.push { cls := .type "tuple", data := .seq #[x1, x2] }, g, d, t2, os⟩
    refine wpAny_bind ?_; unfold Builtin.SmallTypes.ownedTupleHandOut
    have Z3 : ZF (g2.push { cls := .type "tuple", data := .seq #[x1, x2] }) z TI TO .ellipsis f := Heap.get?_push_of_some _ Z2
    refine wpAny_bind (wpAny_setField_rec Z3 (by simp) fun g4 Z4 s4 => ?_)
    replace Z4 : ZF g4 z TI TO (rawInt g2.objs.size) f := Z4
    refine wpAny_setField_rec Z4 (by simp) fun g5 Z5 s5 => ?_
    replace Z5 : ZF g5 z TI TO (rawInt g2.objs.size) false := Z5
    replace s4 : Heap.SameBut z (g2.push { cls := .type "tuple", data := .seq #[x1, x2] }) g4 := s4; replace s5 : Heap.SameBut z g4 g5 := s5
    have up : ∀ c o, c ≠ z → g2.get? c = some o → g5.get? c = some o := fun c o c1 e => s5.extBut _ _ c1 (s4.extBut _ _ c1 (Heap.get?_push_of_some _ e))
    have T5 : IsTupOf2 g5 g2.objs.size x1 x2 := s5.extBut _ _ (Nat.ne_of_gt zlt) (s4.extBut _ _ (Nat.ne_of_gt zlt) (Heap.get?_push_size _ rfl))
    have z5 : g5.objs.size = g2.objs.size + 1 := by rw [s5.1, s4.1, Heap.size_push]
    rw [sz] at T5 z5
    refine wpAny_pure ⟨_, rfl, ?_⟩
    show Q (.ref g2.objs.size) ⟨g5, g, d, t2, os⟩; rw [sz]
    exact k x1 x2 g5 t2 _ _ _ _ e1 e2 (.inr ⟨_, rfl⟩) Z5 (up _ _ S.TOz V2) (D1.frame _ _ _ j1 fun b hb o e => up b o (fun q => S.zf1 (q ▸ hb)) e) (D2.frame _ _ _ j2 fun b hb o e => up b o (fun q => S.zf2 (q ▸ hb)) e) T5 z5 fun c o cz cT c1 c2 e => up c o cz (all c o cz cT c1 c2 e)
  · -- it is still out: a new one
    replace s0 : Heap.SameBut z hp g0 := s0
    simp only [Bool.false_eq_true, if_false]
    refine wpAny_bind ?_; rw [← Array.forIn_toList]; simp only [List.forIn_cons, List.forIn_nil]
    refine wpAny_bind (wpAny_bind (wpAny_holding ?_))
    show wpAny _ _ (Builtin.SmallTypes.nextOf (.ref i1) >>= fun r => _) _ _ ⟨g0, g, d, t0, os⟩
    refine wpAny_bind (D1.item i _ _ _ lt1 (D1.over st1 s0 S.zf1) fun x1 p1 t1 e1 y1 r1 => wpAny_pure (wpAny_pure ?_))
    replace r1 : Heap.SameBut i1 g0 p1 := r1
    refine wpAny_bind (wpAny_bind (wpAny_holding ?_))
    show wpAny _ _ (Builtin.SmallTypes.nextOf (.ref i2) >>= fun r => _) _ _ ⟨p1, g, d, t1, os⟩
    refine wpAny_bind (D2.item i _ _ _ lt2 (D2.over (D2.over st2 s0 S.zf2) r1 S.sep1_2) fun x2 p2 t2 e2 y2 r2 => wpAny_pure (wpAny_pure (wpAny_pure ?_)))
    replace r2 : Heap.SameBut i2 p1 p2 := r2
    show wpAny _ _ (newTuple [x1, x2] >>= fun r => _) _ _ ⟨p2, g, d, t2, os⟩; refine wpAny_bind (wpAny_newTuple ?_)
    have sz : p2.objs.size = hp.objs.size := by rw [r2.1, r1.1, s0.1]
    have Z2 : ZF p2 z TI TO v true := (zz0.put r1 S.zi1).put r2 S.zi2
    have all : ∀ c o, c ≠ z → c ≠ i1 → c ≠ i2 → hp.get? c = some o → p2.get? c = some o := fun c o cz c1 c2 e => r2.extBut _ _ c2 (r1.extBut _ _ c1 (s0.extBut _ _ cz e))
    have up : ∀ c o, p2.get? c = some o → (p2.push { cls := .type "tuple", data := .seq #[x1, x2] }).get? c = some o := fun c o e => Heap.get?_push_of_some _ e
    have T5 : IsTupOf2 (p2.push { cls := .type "tuple", data := .seq #[x1, x2] }) p2.objs.size x1 x2 := Heap.get?_push_size _ rfl
    have z5 : (p2.push { cls := .type "tuple", data := .seq #[x1, x2] }).objs.size = p2.objs.size + 1 := Heap.size_push ..
    refine wpAny_pure ⟨_, rfl, ?_⟩
    show Q (.ref p2.objs.size) ⟨_, g, d, t2, os⟩; rw [sz] at T5 z5 ⊢
    exact k x1 x2 _ t2 _ _ _ _ e1 e2 hv (up _ _ Z2) (up _ _ (all _ _ S.TOz S.Ti1 S.Ti2 hTO)) (D1.frame _ _ _ (D1.over y1 r2 S.sep2_1) fun b hb o e => up b o e) (D2.frame _ _ _ y2 fun b hb o e => up b o e) T5 z5 fun c o cz cT c1 c2 e => up c o (all c o cz c1 c2 e)
theorem zipN_end {Q : Fin → Shared → Prop} (S : ZipSep2 z TI TO i1 i2 fp1 fp2) (D1 : Draws prog w A i1 fp1 n1 P1 St1) (D2 : Draws prog w A i2 fp2 n2 P2 St2)
    (hz : ZF s.heap z TI TO v f) (hv : HV v) (hTI : IsTupOf2 s.heap TI (.ref i1) (.ref i2)) (hTO : IsTupOf2 s.heap TO a1 a2) (st1 : St1 i s.heap) (st2 : St2 i s.heap) (le1 : i ≤ n1) (le2 : i ≤ n2) (hend : i = n1 ∨ i = n2)
    (k : ∀ h' tk e, (∀ c o, c ≠ z → c ≠ TO → c ≠ i1 → c ≠ i2 → s.heap.get? c = some o → h'.get? c = some o) → (∃ o, h'.get? e = some o ∧ o.cls = .type "StopIteration") → E (.ref e) { s with heap := h', toks := tk }) :
    wpAny (model prog w) A (Builtin.«zip.__next__» ⟨[.ref z], []⟩) Q E s := by
  obtain ⟨hp, g, d, t0, os⟩ := s
  show wpAny _ _ (field (.ref z) 2 >>= fun r => _) _ _ _; refine wpAny_bind (wpAny_field hz rfl (x := .bool false) rfl ?_)
  show wpAny _ _ (field (.ref z) 3 >>= fun r => _) _ _ _; refine wpAny_bind (wpAny_field hz rfl (x := .ref TI) rfl ?_)
  refine wpAny_bind (wpAny_seqItems hTI rfl ?_)
  show wpAny _ _ (Builtin.SmallTypes.ownedTupleIsFree (.ref z) >>= fun r => _) _ _ _
  refine wpAny_bind (free_any hz hv ?_ fun g0 zz0 s0 => ?_)
  · simp only [if_true]
    refine wpAny_bind (wpAny_rule (wpAny_bind (wpAny_field hz rfl (x := .ref TO) rfl ?_)))
    refine wpAny_bind (wpAny_setField_rec hz (by simp) fun g0 zz0 s0 => ?_)
    replace zz0 : ZF g0 z TI TO .ellipsis f := zz0; replace s0 : Heap.SameBut z hp g0 := s0
    refine wpAny_bind ?_; simp only [List.zipIdx_cons, List.zipIdx_nil, List.forIn_cons, List.forIn_nil]
    refine wpAny_bind (wpAny_bind (wpAny_onRaise ?_))
    show wpAny _ _ (Builtin.SmallTypes.nextOf (.ref i1) >>= fun r => _) _ _ ⟨g0, g, d, t0, os⟩
    by_cases lt1 : i < n1
    · refine wpAny_bind (D1.item i _ _ _ lt1 (D1.over st1 s0 S.zf1) fun x1 p1 t1 e1 y1 r1 => wpAny_pure ?_)
      replace r1 : Heap.SameBut i1 g0 p1 := r1
      have U1 : IsTupOf2 p1 TO a1 a2 := r1.extBut _ _ S.Ti1 (s0.extBut _ _ S.TOz hTO)
      refine wpAny_bind (wpAny_seqItems (s := ⟨p1, g, d, t1, os⟩) U1 rfl (wpAny_bind (updateSeq_IsTupOf2 (s := ⟨p1, g, d, t1, os⟩) U1 fun g1 V1 s1 => ?_)))
      replace s1 : Heap.SameBut TO p1 g1 := s1
      refine wpAny_bind (wpAny_letGo (wpAny_pure (wpAny_bind (wpAny_bind (wpAny_onRaise ?_)))))
      show wpAny _ _ (Builtin.SmallTypes.nextOf (.ref i2) >>= fun r => _) _ _ ⟨g1, g, d, t1, os⟩
      obtain rfl : i = n2 := by omega
      refine wpAny_bind (D2.done ⟨g1, g, d, t1, os⟩ _ _ (D2.over (D2.over (D2.over st2 s0 S.zf2) r1 S.sep1_2) s1 S.Tf2) fun q e xq oe => ?_)
      replace xq : Heap.ExtBut i2 g1 q := xq
      obtain ⟨ob, h1, h2⟩ := oe; replace h1 : q.get? e = some ob := h1
      have Zq : ZF q z TI TO .ellipsis f := xq _ _ S.zi2 ((zz0.put r1 S.zi1).put s1 S.TOz.symm)
      have nez : e ≠ z := fun x => by subst x; have y : q.get? e = _ := Zq; rw [y] at h1; cases h1; simp at h2
      refine wpAny_setField_rec (s := ⟨q, g, d, t1, os⟩) Zq (by simp) fun q' _ s' => ?_
      replace s' : Heap.SameBut z q q' := s'
      exact k q' t1 e (fun c o cz cT c1 c2 x => s'.extBut _ _ cz (xq _ _ c2 (s1.extBut _ _ cT (r1.extBut _ _ c1 (s0.extBut _ _ cz x))))) ⟨ob, s'.extBut _ _ nez h1, h2⟩
    · obtain rfl : i = n1 := by omega
      refine wpAny_bind (D1.done ⟨g0, g, d, t0, os⟩ _ _ (D1.over st1 s0 S.zf1) fun q e xq oe => ?_)
      replace xq : Heap.ExtBut i1 g0 q := xq
      obtain ⟨ob, h1, h2⟩ := oe; replace h1 : q.get? e = some ob := h1
      have Zq : ZF q z TI TO .ellipsis f := xq _ _ S.zi1 zz0
      have nez : e ≠ z := fun x => by subst x; have y : q.get? e = _ := Zq; rw [y] at h1; cases h1; simp at h2
      refine wpAny_setField_rec (s := ⟨q, g, d, t0, os⟩) Zq (by simp) fun q' _ s' => ?_
      replace s' : Heap.SameBut z q q' := s'
      exact k q' t0 e (fun c o cz cT c1 c2 x => s'.extBut _ _ cz (xq _ _ c1 (s0.extBut _ _ cz x))) ⟨ob, s'.extBut _ _ nez h1, h2⟩
  · replace s0 : Heap.SameBut z hp g0 := s0
    simp only [Bool.false_eq_true, if_false]
    refine wpAny_bind ?_; rw [← Array.forIn_toList]; simp only [List.forIn_cons, List.forIn_nil]
    refine wpAny_bind (wpAny_bind (wpAny_holding ?_))
    show wpAny _ _ (Builtin.SmallTypes.nextOf (.ref i1) >>= fun r => _) _ _ ⟨g0, g, d, t0, os⟩
    by_cases lt1 : i < n1
    · refine wpAny_bind (D1.item i _ _ _ lt1 (D1.over st1 s0 S.zf1) fun x1 p1 t1 e1 y1 r1 => wpAny_pure (wpAny_pure ?_))
      replace r1 : Heap.SameBut i1 g0 p1 := r1
      refine wpAny_bind (wpAny_bind (wpAny_holding ?_))
      show wpAny _ _ (Builtin.SmallTypes.nextOf (.ref i2) >>= fun r => _) _ _ ⟨p1, g, d, t1, os⟩
      obtain rfl : i = n2 := by omega
      refine wpAny_bind (D2.done ⟨p1, g, d, t1, os⟩ _ _ (D2.over (D2.over st2 s0 S.zf2) r1 S.sep1_2) fun q e xq oe => ?_)
      replace xq : Heap.ExtBut i2 p1 q := xq
      exact k q t1 e (fun c o cz cT c1 c2 x => xq _ _ c2 (r1.extBut _ _ c1 (s0.extBut _ _ cz x))) oe
    · obtain rfl : i = n1 := by omega
      refine wpAny_bind (D1.done ⟨g0, g, d, t0, os⟩ _ _ (D1.over st1 s0 S.zf1) fun q e xq oe => ?_)
      replace xq : Heap.ExtBut i1 g0 q := xq
      exact k q t0 e (fun c o cz cT c1 c2 x => xq _ _ c1 (s0.extBut _ _ cz x)) oe
theorem nextZ_item {Q : Value → Shared → Prop} (S : ZipSep2 z TI TO i1 i2 fp1 fp2) (D1 : Draws prog w A.in1 i1 fp1 n1 P1 St1) (D2 : Draws prog w A.in1 i2 fp2 n2 P2 St2)
    (hz : ZF s.heap z TI TO v f) (hv : HV v) (hTI : IsTupOf2 s.heap TI (.ref i1) (.ref i2)) (hTO : IsTupOf2 s.heap TO a1 a2) (st1 : St1 i s.heap) (st2 : St2 i s.heap) (lt1 : i < n1) (lt2 : i < n2)
    (k : ∀ x1 x2 h' tk v' f' b1 b2, P1 i x1 → P2 i x2 → HV v' → ZF h' z TI TO v' f' → IsTupOf2 h' TO b1 b2 → St1 (i + 1) h' → St2 (i + 1) h' → IsTupOf2 h' s.heap.objs.size x1 x2 → h'.objs.size = s.heap.objs.size + 1 →
      (∀ c o, c ≠ z → c ≠ TO → c ≠ i1 → c ≠ i2 → s.heap.get? c = some o → h'.get? c = some o) → Q (.ref s.heap.objs.size) { s with heap := h', toks := tk }) :
    wpAny (model prog w) A (Builtin.SmallTypes.nextOf (.ref z)) Q E s := by
  have hT : s.TypeIs (.ref z) "zip" := ⟨_, hz, rfl⟩
  unfold Builtin.SmallTypes.nextOf
  refine wpAny_bind (wpAny_callSpecial?_slot (name := Str.ofString "__next__") hT F.slot_zip_next (wpAny_call_entry F.slot_zip_next hT F.entry_zip_next ?_ (F.args_zip_next_1 _)))
  exact zipN_item S D1 D2 hz hv hTI hTO st1 st2 lt1 lt2 fun x1 x2 h' tk v' f' b1 b2 c1 c2 c3 c4 c5 c6 c7 c8 c9 c10 => wpAny_pure (k x1 x2 h' tk v' f' b1 b2 c1 c2 c3 c4 c5 c6 c7 c8 c9 c10)
theorem nextZ_end {Q : Value → Shared → Prop} (S : ZipSep2 z TI TO i1 i2 fp1 fp2) (D1 : Draws prog w A.in1 i1 fp1 n1 P1 St1) (D2 : Draws prog w A.in1 i2 fp2 n2 P2 St2)
    (hz : ZF s.heap z TI TO v f) (hv : HV v) (hTI : IsTupOf2 s.heap TI (.ref i1) (.ref i2)) (hTO : IsTupOf2 s.heap TO a1 a2) (st1 : St1 i s.heap) (st2 : St2 i s.heap) (le1 : i ≤ n1) (le2 : i ≤ n2) (hend : i = n1 ∨ i = n2)
    (k : ∀ h' tk e, (∀ c o, c ≠ z → c ≠ TO → c ≠ i1 → c ≠ i2 → s.heap.get? c = some o → h'.get? c = some o) → (∃ o, h'.get? e = some o ∧ o.cls = .type "StopIteration") → E (.ref e) { s with heap := h', toks := tk }) :
    wpAny (model prog w) A (Builtin.SmallTypes.nextOf (.ref z)) Q E s := by
  have hT : s.TypeIs (.ref z) "zip" := ⟨_, hz, rfl⟩
  unfold Builtin.SmallTypes.nextOf
  exact wpAny_bind (wpAny_callSpecial?_slot (name := Str.ofString "__next__") hT F.slot_zip_next (wpAny_call_entry F.slot_zip_next hT F.entry_zip_next (zipN_end S D1 D2 hz hv hTI hTO st1 st2 le1 le2 hend k) (F.args_zip_next_1 _)))
/-- the enumerate's step over such a zip -/
theorem enumZ_item {e : Addr} {old : Value} {Q : Option Value → Shared → Prop} (S : ZipSep2 z TI TO i1 i2 fp1 fp2) (D1 : Draws prog w A.in1.in1 i1 fp1 n1 P1 St1) (D2 : Draws prog w A.in1.in1 i2 fp2 n2 P2 St2)
    (he : IsEnum s.heap e z i old) (ez : e ≠ z) (eT : e ≠ TO) (e1 : e ∉ fp1) (e2 : e ∉ fp2)
    (hz : ZF s.heap z TI TO v f) (hv : HV v) (hTI : IsTupOf2 s.heap TI (.ref i1) (.ref i2)) (hTO : IsTupOf2 s.heap TO a1 a2) (st1 : St1 i s.heap) (st2 : St2 i s.heap) (lt1 : i < n1) (lt2 : i < n2)
    (k : ∀ x1 x2 h' tk t v' f' b1 b2, P1 i x1 → P2 i x2 → HV v' → ZF h' z TI TO v' f' → IsTupOf2 h' TO b1 b2 → St1 (i + 1) h' → St2 (i + 1) h' → IsTupOf2 h' s.heap.objs.size x1 x2 → h'.objs.size = s.heap.objs.size + 2 →
      IsTupOf2 h' (s.heap.objs.size + 1) (.int i t) (.ref s.heap.objs.size) → IsEnumOut h' e z ((i : Int) + 1) (.ref s.heap.objs.size) (s.heap.objs.size + 1) →
      (∀ c o, c ≠ e → c ≠ z → c ≠ TO → c ≠ i1 → c ≠ i2 → s.heap.get? c = some o → h'.get? c = some o) → Q (some (.ref (s.heap.objs.size + 1))) { s with heap := h', toks := tk }) :
    wpAny (model prog w) A (pyNext (.ref e)) Q E s := by
  have hT : s.TypeIs (.ref e) "enumerate" := ⟨_, he, rfl⟩
  unfold pyNext
  refine wpAny_bind (wpAny_attempt (wpAny_callSpecial?_slot (name := Str.ofString "__next__") hT F.slot_enumerate_next (wpAny_call_entry F.slot_enumerate_next hT F.entry_enumerate_next ?_ (F.args_enumerate_next_1 _))))
  obtain ⟨hp, g, d, t0, os⟩ := s
  have ei1 : e ≠ i1 := fun q => e1 (q ▸ S.mem1)
  have ei2 : e ≠ i2 := fun q => e2 (q ▸ S.mem2)
  have elt : e < hp.objs.size := Heap.lt_size he
  show wpAny _ _ (field (.ref e) 2 >>= fun r => _) _ _ _; refine wpAny_bind (wpAny_field he rfl (x := .ref z) rfl ?_)
  refine wpAny_bind (nextZ_item S D1 D2 hz hv hTI hTO st1 st2 lt1 lt2 fun x1 x2 q t v' f' b1 b2 c1 c2 c3 c4 c5 c6 c7 c8 c9 c10 => ?_)
  replace c8 : IsTupOf2 q hp.objs.size x1 x2 := c8; replace c9 : q.objs.size = hp.objs.size + 1 := c9; replace c10 : ∀ c o, c ≠ z → c ≠ TO → c ≠ i1 → c ≠ i2 → hp.get? c = some o → q.get? c = some o := c10
  have E1 : IsEnum q e z i old := c10 _ _ ez eT ei1 ei2 he
  show wpAny _ _ (field (.ref e) 3 >>= fun r => _) _ _ ⟨q, g, d, t, os⟩; refine wpAny_bind (wpAny_field E1 rfl (x := rawInt i) rfl ?_)
  show wpAny _ _ (field (.ref e) 4 >>= fun r => _) _ _ ⟨q, g, d, t, os⟩; refine wpAny_bind (wpAny_field E1 rfl (x := .none) rfl ?_)
  show wpAny _ _ (mkInt i >>= fun r => _) _ _ ⟨q, g, d, t, os⟩; refine wpAny_bind (wpAny_mkInt ?_)
  show wpAny _ _ (setField (.ref e) 3 (rawInt ((i : Int) + 1)) >>= fun r => _) _ _ ⟨q, g, d, t + 1, os⟩
  refine wpAny_bind (wpAny_setField_rec E1 (by simp) fun q2 E2 r2 => ?_)
  replace r2 : Heap.SameBut e q q2 := r2; replace E2 : IsEnum q2 e z ((i : Int) + 1) old := E2
  show wpAny _ _ (setField (.ref e) 4 .none >>= fun r => _) _ _ ⟨q2, g, d, t + 1, os⟩
  refine wpAny_bind (wpAny_setField_rec E2 (by simp) fun q3 E3 r3 => ?_)
  replace r3 : Heap.SameBut e q2 q3 := r3; replace E3 : IsEnum q3 e z ((i : Int) + 1) old := E3
  show wpAny _ _ (newTuple [.int i t, .ref hp.objs.size] >>= fun r => _) _ _ ⟨q3, g, d, t + 1, os⟩; refine wpAny_bind (wpAny_newTuple ?_)
  have E4 : IsEnum (q3.push { cls := .type "tuple", data := .seq #[.int i t, .ref hp.objs.size] }) e z ((i : Int) + 1) old := Heap.get?_push_of_some _ E3
  generalize eq4 : q3.push { cls := .type "tuple", data := .seq #[.int i t, .ref hp.objs.size] } = q4 at E4
  have z3 : q3.objs.size = hp.objs.size + 1 := by rw [r3.1, r2.1, c9]
  have T4 : IsTupOf2 q4 (hp.objs.size + 1) (.int i t) (.ref hp.objs.size) := by rw [← eq4, ← z3]; exact Heap.get?_push_size _ rfl
  have z4 : q4.objs.size = hp.objs.size + 2 := by rw [← eq4, Heap.size_push, z3]
  have up4 : ∀ c o, c ≠ e → q.get? c = some o → q4.get? c = some o := fun c o ce x => by rw [← eq4]; exact Heap.get?_push_of_some _ (r3.extBut _ _ ce (r2.extBut _ _ ce x))
  show wpAny _ _ (Builtin.SmallTypes.ownedTupleIsFree (.ref e) >>= fun r => _) _ _ ⟨q4, g, d, t + 1, os⟩
  rw [z3]; clear eq4 E3 r3 E2 r2 q2 z3 q3
  refine wpAny_bind ?_
  unfold Builtin.SmallTypes.ownedTupleIsFree
  refine wpAny_bind (wpAny_field E4 rfl (x := .none) rfl (wpAny_pure ?_)); simp only [if_true]
  refine wpAny_bind (wpAny_rule (wpAny_bind (wpAny_field E4 rfl (x := old) rfl (wpAny_bind (wpAny_setField_rec E4 (by simp) fun q5 E5 r5 => ?_)))))
  replace r5 : Heap.SameBut e q4 q5 := r5; replace E5 : IsEnum q5 e z ((i : Int) + 1) (.ref hp.objs.size) := E5
  show wpAny _ _ (Builtin.SmallTypes.ownedTupleHandOut (.ref e) (.ref (hp.objs.size + 1)) >>= fun r => _) _ _ ⟨q5, g, d, t + 1, os⟩
  refine wpAny_bind ?_; unfold Builtin.SmallTypes.ownedTupleHandOut
  refine wpAny_bind (wpAny_setField_rec E5 (by simp) fun q6 E6 r6 => ?_)
  replace r6 : Heap.SameBut e q5 q6 := r6; replace E6 : IsEnumOut q6 e z ((i : Int) + 1) (.ref hp.objs.size) (hp.objs.size + 1) := E6
  refine wpAny_setField_rec E6 (by simp) fun q7 E7 r7 => ?_
  replace r7 : Heap.SameBut e q6 q7 := r7; replace E7 : IsEnumOut q7 e z ((i : Int) + 1) (.ref hp.objs.size) (hp.objs.size + 1) := E7
  have up7 : ∀ c o, c ≠ e → q4.get? c = some o → q7.get? c = some o := fun c o ce x => r7.extBut _ _ ce (r6.extBut _ _ ce (r5.extBut _ _ ce x))
  have up : ∀ c o, c ≠ e → q.get? c = some o → q7.get? c = some o := fun c o ce x => up7 _ _ ce (up4 _ _ ce x)
  have z7 : q7.objs.size = hp.objs.size + 2 := by rw [r7.1, r6.1, r5.1, z4]
  refine wpAny_bind (wpAny_letGo (wpAny_pure ⟨_, rfl, wpAny_pure ?_⟩))
  exact k x1 x2 q7 (t + 1) t v' f' b1 b2 c1 c2 c3 (up _ _ ez.symm c4) (up _ _ eT.symm c5) (D1.frame _ _ _ c6 fun b hb o x => up b o (fun y => e1 (y ▸ hb)) x) (D2.frame _ _ _ c7 fun b hb o x => up b o (fun y => e2 (y ▸ hb)) x)
    (up _ _ (Nat.ne_of_gt elt) c8) z7 (up7 _ _ (Nat.ne_of_gt (Nat.lt_succ_of_lt elt)) T4) E7 fun c o ce cz cT d1 d2 x => up c o ce (c10 c o cz cT d1 d2 x)
theorem enumZ_end {e : Addr} {j : Int} {old : Value} {Q : Option Value → Shared → Prop} (S : ZipSep2 z TI TO i1 i2 fp1 fp2) (D1 : Draws prog w A.in1.in1 i1 fp1 n1 P1 St1) (D2 : Draws prog w A.in1.in1 i2 fp2 n2 P2 St2)
    (he : IsEnum s.heap e z j old) (hz : ZF s.heap z TI TO v f) (hv : HV v) (hTI : IsTupOf2 s.heap TI (.ref i1) (.ref i2)) (hTO : IsTupOf2 s.heap TO a1 a2) (st1 : St1 i s.heap) (st2 : St2 i s.heap) (le1 : i ≤ n1) (le2 : i ≤ n2) (hend : i = n1 ∨ i = n2)
    (k : ∀ h' tk, (∀ c o, c ≠ z → c ≠ TO → c ≠ i1 → c ≠ i2 → s.heap.get? c = some o → h'.get? c = some o) → Q none { s with heap := h', toks := tk }) :
    wpAny (model prog w) A (pyNext (.ref e)) Q E s := by
  have hT : s.TypeIs (.ref e) "enumerate" := ⟨_, he, rfl⟩
  unfold pyNext
  refine wpAny_bind (wpAny_attempt (wpAny_callSpecial?_slot (name := Str.ofString "__next__") hT F.slot_enumerate_next (wpAny_call_entry F.slot_enumerate_next hT F.entry_enumerate_next ?_ (F.args_enumerate_next_1 _))))
  show wpAny _ _ (field (.ref e) 2 >>= fun r => _) _ _ _; refine wpAny_bind (wpAny_field he rfl (x := .ref z) rfl ?_)
  refine wpAny_bind (nextZ_end S D1 D2 hz hv hTI hTO st1 st2 le1 le2 hend fun h' tk x kp hx => ?_)
  obtain ⟨o, ho, hc⟩ := hx
  refine wpAny_bind (wpAny_isInstance (T := "StopIteration") (b := true) ⟨o, ho, hc⟩ isSubtype_stop ?_)
  exact wpAny_pure (k h' tk kp)
theorem meets_enumZ (z : Addr) (TI TO : Addr) :
    Meets (Builtin.«enumerate.__new__» ⟨[.type "enumerate", .ref z], []⟩) (fun _ R s => IsZip s.heap z TI TO .none ∧
      R (.ok (.ret (.ref s.heap.objs.size))) { s with heap := s.heap.push { cls := .type "enumerate", data := .fields #[.none, .bool false, .ref z, rawInt 0, .none, .none] } }) :=
  .of_wp fun prog w A R s h => by
    obtain ⟨hp, g, d, tk, os⟩ := s; obtain ⟨h1, h⟩ := h
    have hsub := sub_enumerate
    have q1 : ∀ {A' : Around} {E : Value → Shared → Prop} {Q : Value → Shared → Prop}, Q (.ref z) ⟨hp, g, d, tk, os⟩ → wpAny (model prog w) A' (pyIter (.ref z)) Q E ⟨hp, g, d, tk, os⟩ := fun q => wpAny_pyIter_zip h1 q
    wp_walk using q1
    refine wpAny_stack_any fun st => wpAny_pure ?_
    split
    · rename_i c _ _ _ _ _
      cases (c == Value.type "enumerate") <;> (wp_walk using q1; exact ⟨_, rfl, h⟩)
    · wp_walk using q1
      exact ⟨_, rfl, h⟩
theorem call_enumZ {Q : Value → Shared → Prop} (hz : IsZip s.heap z TI TO .none)
    (k : ∀ h', IsEnum h' s.heap.objs.size z 0 .none → h'.objs.size = s.heap.objs.size + 1 → (∀ b o, s.heap.get? b = some o → h'.get? b = some o) → Q (.ref s.heap.objs.size) { s with heap := h' }) :
    wpAny (model prog w) A (call (.type "enumerate") [.ref z]) Q E s := by
  refine callType_new F.called_enumerate (by decide) (F.typeCall_enumerate_1 _) (F.newCall_enumerate_1 _) (fun obj => F.args_object_init_2 obj _) F.entry_enumerate_new (meets_enumZ z TI TO) ⟨hz, ?_⟩
  have he : IsEnum (s.heap.push { cls := .type "enumerate", data := .fields #[.none, .bool false, .ref z, rawInt 0, .none, .none] }) s.heap.objs.size z 0 .none := Heap.get?_push_size _ rfl
  exact ⟨⟨_, he, rfl⟩, k _ he (Heap.size_push ..) fun b o y => Heap.get?_push_of_some _ y⟩
end
/-- the turns: a pair of the number and a pair, both new -/
def ItZ (vals : Nat → List V) (n : Nat) : It := ⟨fun i _ => i < n, fun i H v H' => ∃ T T1, v = .ref T ∧ H T1 = none ∧ H T = none ∧ T ≠ T1 ∧ H' = upd (upd H T1 (.tup (vals i))) T (.tup [.int (i : Nat), .ref T1]), fun i _ => i = n⟩
/-- what an enumerate e over a zip z over two iterators is, behind i turns -/
def EZ (e z TI TO i1 i2 : Addr) (St1 St2 : Nat → Heap → Prop) (i : Nat) (h : Heap) : Prop :=
  (∃ old, IsEnum h e z i old) ∧ (∃ v f, HV v ∧ ZF h z TI TO v f) ∧ IsTupOf2 h TI (.ref i1) (.ref i2) ∧ (∃ a1 a2, IsTupOf2 h TO a1 a2) ∧ St1 i h ∧ St2 i h
theorem turn_Z {P : Program} {w : World} {K : PySem.W.Frag} {elts : List Expr} {kk : Nat} {tpos : Pos} {e z TI TO i1 i2 : Addr} {fp1 fp2 : List Addr} {n1 n2 : Nat} {P1 P2 : Nat → Value → Prop} {St1 St2 : Nat → Heap → Prop} {vals : Nat → List V}
    (S : ZipSep2 z TI TO i1 i2 fp1 fp2) (D1 : ∀ A : Around, A.handled = none → Draws P w A i1 fp1 n1 P1 St1) (D2 : ∀ A : Around, A.handled = none → Draws P w A i2 fp2 n2 P2 St2)
    (ez : e ≠ z) (eT : e ≠ TO) (eTI : e ≠ TI) (e1 : e ∉ fp1) (e2 : e ∉ fp2) (c1 : ∀ i h, St1 i h → ∀ b ∈ fp1, ∃ o, h.get? b = some o ∧ ∀ v, o.data ≠ .cell v) (c2 : ∀ i h, St2 i h → ∀ b ∈ fp2, ∃ o, h.get? b = some o ∧ ∀ v, o.data ≠ .cell v)
    (tell : ∀ i x y, P1 i x → P2 i y → Vals (vals i) [x, y]) (few : ∀ i, (vals i).length ≤ sizeLine) :
    Turn P w K (.Tuple elts kk tpos) (ItZ vals (min n1 n2)) (e :: z :: TI :: TO :: (fp1 ++ fp2)) e (EZ e z TI TO i1 i2 St1 St2) where
  mem := by simp
  obj := by
    rintro i h ⟨⟨old, he⟩, ⟨v, f, hv, hz⟩, hTI, ⟨a1, a2, hTO⟩, st1, st2⟩ b hb
    have hb' : b = e ∨ b = z ∨ b = TI ∨ b = TO ∨ b ∈ fp1 ∨ b ∈ fp2 := by simpa using hb
    rcases hb' with rfl | rfl | rfl | rfl | h1 | h1
    · exact ⟨_, he, fun v z => nomatch z⟩
    · exact ⟨_, hz, fun v z => nomatch z⟩
    · exact ⟨_, hTI, fun v z => nomatch z⟩
    · exact ⟨_, hTO, fun v z => nomatch z⟩
    · exact c1 i h st1 b h1
    · exact c2 i h st2 b h1
  keep := by
    rintro i h h' ⟨⟨old, he⟩, ⟨v, f, hv, hz⟩, hTI, ⟨a1, a2, hTO⟩, st1, st2⟩ k
    exact ⟨⟨old, k _ (by simp) _ he⟩, ⟨v, f, hv, k _ (by simp) _ hz⟩, k _ (by simp) _ hTI, ⟨a1, a2, k _ (by simp) _ hTO⟩, (D1 {} rfl).frame _ _ _ st1 fun b hb o x => k b (by simp [hb]) o x, (D2 {} rfl).frame _ _ _ st2 fun b hb o x => k b (by simp [hb]) o x⟩
  item := by
    rintro X rfl rfl rfl calm i pins s σ H E I apart ⟨⟨old, he⟩, ⟨v, f, hv, hz⟩, hTI, ⟨a1, a2, hTO⟩, st1, st2⟩ go
    have hh := I.ok.hd calm
    have lt1 : i < n1 := Nat.lt_of_lt_of_le go (Nat.min_le_left ..)
    have lt2 : i < n2 := Nat.lt_of_lt_of_le go (Nat.min_le_right ..)
    refine enumZ_item S (D1 _ hh) (D2 _ hh) he ez eT e1 e2 hz hv hTI hTO st1 st2 lt1 lt2 fun x1 x2 h' tk t v' f' b1 b2 p1 p2 hv' hz' hTO' s1' s2' hT1 hsz hT hE kp => ⟨_, rfl, ?_⟩
    refine wpAny_letOwnedTupleGo_enum hE fun h2 hE2 sb => ?_
    replace sb : Heap.SameBut e h' h2 := sb
    have elt : e < s.heap.objs.size := Heap.lt_size he
    have up : ∀ c o, c ≠ e → h'.get? c = some o → h2.get? c = some o := fun c o ce x => sb.extBut _ _ ce x
    have fp_e : ∀ b ∈ e :: z :: TI :: TO :: (fp1 ++ fp2), b < s.heap.objs.size := fun b hb => by
      have hb' : b = e ∨ b = z ∨ b = TI ∨ b = TO ∨ b ∈ fp1 ∨ b ∈ fp2 := by simpa using hb
      rcases hb' with rfl | rfl | rfl | rfl | q | q
      · exact elt
      · exact Heap.lt_size hz
      · exact Heap.lt_size hTI
      · exact Heap.lt_size hTO
      · obtain ⟨o, ho, _⟩ := c1 _ _ st1 _ q; exact Heap.lt_size ho
      · obtain ⟨o, ho, _⟩ := c2 _ _ st2 _ q; exact Heap.lt_size ho
    -- the inner tuple first
    have q1 : H s.heap.objs.size = none := I.hok.fresh (Nat.le_refl _)
    have I1 : Inv X pins σ (upd H s.heap.objs.size (.tup (vals i))) { s with heap := s.heap.push { cls := .type "tuple", data := .seq #[x1, x2] } } := by
      refine I.laid (t' := s.toks) (fun b u e => Heap.get?_push_of_some _ e) (Nat.le_refl _) ⟨few i, [x1, x2], tell i _ _ p1 p2, _, Heap.get?_push_size _ rfl, rfl, _, rfl⟩
    have n1' : s.heap.objs.size + 1 ≠ s.heap.objs.size := Nat.succ_ne_self _
    have I2 : Inv X pins σ (upd (upd H s.heap.objs.size (.tup (vals i))) (s.heap.objs.size + 1) (.tup [.int (i : Nat), .ref s.heap.objs.size])) { s with heap := h2, toks := tk } := by
      refine I1.turnedNew (ch := e :: z :: TI :: TO :: (fp1 ++ fp2)) (fun b u hb q => ?_) (fun b hb => ?_) (by show (s.heap.push _).objs.size ≤ _; rw [Heap.size_push]; exact Nat.le_refl _) ⟨by show 2 ≤ sizeLine; decide, [.int i t, .ref s.heap.objs.size], .cons ⟨t, rfl⟩ (.cons rfl .nil), _, up _ _ (Nat.ne_of_gt (Nat.lt_succ_of_lt elt)) hT, rfl, _, rfl⟩
      · have nb : b ≠ e ∧ b ≠ z ∧ b ≠ TI ∧ b ≠ TO ∧ b ∉ fp1 ∧ b ∉ fp2 := by simpa using hb
        replace q : (s.heap.push { cls := .type "tuple", data := .seq #[x1, x2] }).get? b = some u := q
        by_cases hbs : b = s.heap.objs.size
        · subst hbs
          have y := Heap.get?_push_size s.heap (o := { cls := .type "tuple", data := .seq #[x1, x2] }) rfl
          rw [y] at q
          cases q
          exact up _ _ nb.1 hT1
        · have y : s.heap.get? b = some u := by rw [← q]; exact (Heap.get?_push_ne _ _ _ hbs).symm
          exact up _ _ nb.1 (kp b u nb.1 nb.2.1 nb.2.2.2.1 (fun z => nb.2.2.2.2.1 (z ▸ S.mem1)) (fun z => nb.2.2.2.2.2 (z ▸ S.mem2)) y)
      · have a := apart b hb
        refine ⟨?_, a.2⟩
        rw [upd_ne (Nat.ne_of_lt (fp_e b hb))]
        exact a.1
    refine ⟨.ref (s.heap.objs.size + 1), _, I2, rfl, ⟨_, _, rfl, q1, I.hok.fresh (Nat.le_succ _), n1', rfl⟩, ⟨⟨_, by have y := hE2; push_cast at y ⊢; exact y⟩, ⟨v', f', hv', up _ _ ez.symm hz'⟩, up _ _ eTI.symm (kp _ _ eTI.symm S.TIz S.TITO S.TIi1 S.TIi2 hTI), ⟨b1, b2, up _ _ eT.symm hTO'⟩,
      (D1 {} rfl).frame _ _ _ s1' fun b hb o x => up b o (fun y => e1 (y ▸ hb)) x, (D2 {} rfl).frame _ _ _ s2' fun b hb o x => up b o (fun y => e2 (y ▸ hb)) x⟩, fun b hb => ?_⟩
    have lt := fp_e b hb
    rw [upd_ne (Nat.ne_of_lt (Nat.lt_succ_of_lt lt)), upd_ne (Nat.ne_of_lt lt)]
    exact (apart b hb).1
  done := by
    rintro X rfl rfl rfl calm i pins s σ H E I apart ⟨⟨old, he⟩, ⟨v, f, hv, hz⟩, hTI, ⟨a1, a2, hTO⟩, st1, st2⟩ stop
    have hh := I.ok.hd calm
    have eqi : i = min n1 n2 := stop
    refine enumZ_end S (D1 _ hh) (D2 _ hh) he hz hv hTI hTO st1 st2 (by rw [eqi]; exact Nat.min_le_left ..) (by rw [eqi]; exact Nat.min_le_right ..) (by omega) fun h' tk kp => ⟨rfl, ?_⟩
    refine I.turnedL (ch := e :: z :: TI :: TO :: (fp1 ++ fp2)) (fun b u hb q => ?_) apart
    have nb : b ≠ e ∧ b ≠ z ∧ b ≠ TI ∧ b ≠ TO ∧ b ∉ fp1 ∧ b ∉ fp2 := by simpa using hb
    exact kp b u nb.2.1 nb.2.2.2.1 (fun z => nb.2.2.2.2.1 (z ▸ S.mem1)) (fun z => nb.2.2.2.2.2 (z ▸ S.mem2)) q
  self := fun A i s Q E st q => wpAny_pyIter_enum st.1.choose_spec q
section
variable {X : Cx} {elts : List Expr} {kk : Nat} {tpos p pos p2 pos2 : Pos} {e1 e2 : Expr} {ta : TA}
def iEnumZ (ta : TA) : TI := fun σ H R => ta σ H fun vs H1 => ∃ x y : Str, vs = [.str x, .str y] ∧ R (ItZ (fun i => [.str (sgn x i), .str (sgn y i)]) (min x.cps.size y.cps.size)) H1
theorem pi_enumZ (hg : Gl X "enumerate") (hm : X.mg "enumerate" = none) (hg2 : Gl X "zip") (hm2 : X.mg "zip" = none) (ha : PA X [e1, e2] ta)
    (hs0 : starEach [Expr.Call (.Name "zip" p2) [e1, e2] [] pos2] X.env = [(false, eval (Expr.Call (.Name "zip" p2) [e1, e2] [] pos2) X.env)] := by rfl)
    (hs : starEach [e1, e2] X.env = (false, eval e1 X.env) :: starEach [e2] X.env := by rfl) (hp : (backTo pos2 (starEach [e2] X.env)).any (·.1) = false := by rfl) :
    PI X (.Tuple elts kk tpos) (.Call (.Name "enumerate" p) [.Call (.Name "zip" p2) [e1, e2] [] pos2] [] pos) (iEnumZ ta) := by
  constructor
  intro pins s σ H R I h
  refine Call_ (ld_blt I hg hm boot_enumerate (callWith_type1 ?_ hs0 rfl))
  rw [hs0]
  show wpAny _ _ (spliced ((false, eval (Expr.Call (.Name "zip" p2) [e1, e2] [] pos2) X.env) :: backTo pos [])) _ _ s
  refine Calls.spliced_cons (Call_ (ld_blt I hg2 hm2 PyProof.Rows.boot_zip (callWith_type1 ?_ hs hp)))
  apply thn (ha.run pos2 pins s σ H _ I h)
  rintro us s1 ⟨vs, H1, I1, rel, x, y, rfl, q⟩
  obtain ⟨u1, u2, rfl, r1, r2⟩ := vals2 rel
  obtain ⟨t1, rfl⟩ := (show ∃ t, u1 = Value.str x t from r1)
  obtain ⟨t2, rfl⟩ := (show ∃ t, u2 = Value.str y t from r2)
  apply zip_begins2 (begins_text x t1) (begins_text y t2) trivial trivial
  intro h' hz hTI hTO g1 g2 hsz keep
  refine Calls.spliced_nil ?_
  refine call_enumZ (s := { s1 with heap := h' }) hz fun h2 hE hsz2 keep2 => ?_
  replace hsz2 : h2.objs.size = h'.objs.size + 1 := hsz2; replace keep2 : ∀ b o, h'.get? b = some o → h2.get? b = some o := keep2
  replace hE : IsEnum h2 h'.objs.size (s1.heap.objs.size + 4) 0 .none := hE
  show wpAny _ _ (pyIter (.ref h'.objs.size)) _ _ _
  rw [hsz] at hE ⊢
  apply wpAny_pyIter_enum hE
  have I2 : Inv X pins σ H1 { s1 with heap := h2 } := I1.kept (t' := s1.toks) fun b u z => keep2 _ _ (keep _ _ z)
  have S := zip_sep2 (N := s1.heap.objs.size) (fp1 := []) (fp2 := []) (fun b z => nomatch z) (fun b z => nomatch z)
  have one : ∀ {b c : Addr}, b ∈ ([c] : List Addr) → b = c := fun z => List.mem_singleton.mp z
  refine ⟨s1.heap.objs.size + 5, _, _, _, H1, rfl, I2, turn_Z (e := s1.heap.objs.size + 5) S (fun A hh => draws_text hh _ x t1) (fun A hh => draws_text hh _ y t2) (by show (_ : Nat) ≠ _; omega) (by show (_ : Nat) ≠ _; omega) (by show (_ : Nat) ≠ _; omega) (fun z => absurd (one z) (by show (_ : Nat) ≠ _; omega)) (fun z => absurd (one z) (by show (_ : Nat) ≠ _; omega))
      (fun i h st b hb => by rw [one hb]; exact text_cell st) (fun i h st b hb => by rw [one hb]; exact text_cell st) (fun i a b pa pb => .cons (rel_sgn pa) (.cons (rel_sgn pb) .nil)) (fun i => by show 2 ≤ sizeLine; decide),
    ⟨⟨.none, hE⟩, ⟨.none, false, .inl rfl, keep2 _ _ hz⟩, keep2 _ _ hTI, ⟨_, _, keep2 _ _ hTO⟩, text_begun (keep2 _ _ g1), text_begun (keep2 _ _ g2)⟩, fun b hb => ?_, q⟩
  have hb' : b = s1.heap.objs.size + 5 ∨ b = s1.heap.objs.size + 4 ∨ b = s1.heap.objs.size + 2 ∨ b = s1.heap.objs.size + 3 ∨ b = s1.heap.objs.size ∨ b = s1.heap.objs.size + 1 := by simpa using hb
  have le : s1.heap.objs.size ≤ b := by rcases hb' with rfl | rfl | rfl | rfl | rfl | rfl <;> (show (_ : Nat) ≤ _; omega)
  exact I1.fpOk le (I1.hok.fresh le)
end
theorem lc_Z {vals : Nat → List V} {n : Nat} {g : TG} {tt : TT} {te : TE} {vs : List Nat} {σ : L2.St} {H1 : Hp} {D : Addr} {Qd : Hp → Prop} (Pv : Nat → Hp → Prop) (h0 : Pv 0 (upd H1 D (.lst [])))
    (hs : ∀ i T T1 H, i < n → Pv i H → H T1 = none → H T = none → T ≠ T1 → g (.ref T) (wipe σ vs) (upd (upd H T1 (.tup (vals i))) T (.tup [.int (i : Nat), .ref T1])) fun σ2 H2 => wipe σ2 vs = wipe σ vs ∧ tt σ2 H2 fun b H3 =>
      if b = true then te σ2 H3 fun y H4 => ∃ acc, H4 D = some (.lst acc) ∧ acc.length < sizeLine ∧ Pv (i + 1) (upd H4 D (.lst (acc ++ [y]))) else Pv (i + 1) H3) (hd : ∀ H, Pv n H → Qd H) :
    ∃ W : Nat → Nat → Hp → Prop, (∃ m, W 0 m (upd H1 D (.lst []))) ∧ ∀ i m H, W i m H →
      ((ItZ vals n).stop i H ∧ Qd H) ∨ ((ItZ vals n).go i H ∧ ∃ Nx : Hp → Prop, (∀ H', Nx H' → ∃ m', m' < m ∧ W (i + 1) m' H') ∧ ∀ x H', (ItZ vals n).yld i H x H' → g x (wipe σ vs) H' fun σ2 H2 => wipe σ2 vs = wipe σ vs ∧ tt σ2 H2 fun b H3 =>
        if b = true then te σ2 H3 fun y H4 => ∃ acc, H4 D = some (.lst acc) ∧ acc.length < sizeLine ∧ Nx (upd H4 D (.lst (acc ++ [y]))) else Nx H3) := by
  refine ⟨fun i m H => i + m = n ∧ Pv i H, ⟨n, by omega, h0⟩, fun i m H ⟨hm, p⟩ => ?_⟩
  by_cases lt : i < n
  · refine Or.inr ⟨lt, Pv (i + 1), fun H' p' => ⟨m - 1, by omega, by omega, p'⟩, ?_⟩
    rintro x H' ⟨T, T1, rfl, h1, h2, h3, rfl⟩
    exact hs i T T1 H lt p h1 h2 h3
  · obtain rfl : i = n := by omega
    exact Or.inl ⟨rfl, hd H p⟩
end Fb
set_option maxRecDepth 100000
set_option maxHeartbeats 4000000
namespace Fb
open PySem PySem.Spec PyProof.Rows L2
open SX (S)
/-! the numbers of unlike bits -/
def unlNs (l m : List Nat) : List Nat := (List.range (min (bt l).length (bt m).length)).filter fun i => decide ((bt l).getD i 0 ≠ (bt m).getD i 0)
def unlZ (l m : List Nat) : Nat := ((List.zipWith (fun a b => decide (a ≠ b)) l m).filter id).length
theorem unlZ_cons (a b : Nat) (l m : List Nat) : unlZ (a :: l) (b :: m) = (if a = b then 0 else 1) + unlZ l m := by
  unfold unlZ
  rw [List.zipWith_cons_cons]
  by_cases h : a = b
  · rw [List.filter_cons_of_neg (by simpa using h), if_pos h, Nat.zero_add]
  · rw [List.filter_cons_of_pos (by simpa using h), List.length_cons, if_neg h, Nat.add_comm]
theorem unlNs_bt (l m : List Nat) : (unlNs l m).length = unlZ (bt l) (bt m) := by
  unfold unlNs unlZ
  generalize bt l = l
  generalize bt m = m
  have e : List.zipWith (fun a b => decide (a ≠ b)) l m = (List.range (min l.length m.length)).map fun i => decide (l.getD i 0 ≠ m.getD i 0) := by
    refine List.ext_getElem? fun i => ?_
    by_cases hi : i < min l.length m.length
    · have z1 := List.getElem?_eq_getElem (show i < l.length by omega)
      have z2 := List.getElem?_eq_getElem (show i < m.length by omega)
      rw [List.getElem?_zipWith, List.getElem?_map, List.getElem?_range hi, z1, z2]
      show some (decide (l[i] ≠ m[i])) = some (decide (l.getD i 0 ≠ m.getD i 0))
      rw [List.getD_eq_getElem?_getD, List.getD_eq_getElem?_getD, z1, z2]
      rfl
    · rw [List.getElem?_eq_none (by rw [List.length_zipWith]; omega), List.getElem?_eq_none (by simpa using hi)]
  rw [e, List.filter_map, List.length_map]
  rfl
theorem unlZ_al : ∀ {l m : List Nat}, Al l m → unlZ (bt l) (bt m) = unlZ l m
  | _, _, .nil => rfl
  | a :: l, b :: m, .cons r t => by
    have ih := unlZ_al t
    rcases r with ⟨h1, h2⟩ | ⟨h1, h2⟩
    · subst h1 h2
      rw [unlZ_cons, if_pos rfl, Nat.zero_add]
      exact ih
    · have ha : a ≠ 46 := by rcases h1 with h | h <;> omega
      have hb : b ≠ 46 := by rcases h2 with h | h <;> omega
      have e1 : bt (a :: l) = a :: bt l := by unfold bt; rw [List.filter_cons_of_pos (by simpa using ha)]
      have e2 : bt (b :: m) = b :: bt m := by unfold bt; rw [List.filter_cons_of_pos (by simpa using hb)]
      rw [e1, e2, unlZ_cons, unlZ_cons, ih]
theorem unlNs_len {l m : List Nat} (h : Al l m) : (unlNs l m).length = unlZ l m := (unlNs_bt l m).trans (unlZ_al h)
theorem nums_ln (ns : List Nat) : (nums ns).length = ns.length := by unfold nums; rw [List.length_map]
theorem unlNs_le (l m : List Nat) : (unlNs l m).length ≤ l.length := by
  unfold unlNs
  refine Nat.le_trans (List.length_filter_le _ _) ?_
  rw [List.length_range]
  exact Nat.le_trans (Nat.min_le_left ..) (by unfold bt; exact List.length_filter_le _ _)
theorem lc_outZ {H1 : Hp} {D : Addr} (out : Nat → List V) {vals : Nat → List V} {n : Nat} {g : TG} {tt : TT} {te : TE} {vs : List Nat} {σ : L2.St} {Qd : Hp → Prop} (hD : H1 D = none) (o0 : out 0 = []) (ol : ∀ i, i < n → (out i).length < sizeLine)
    (hs : ∀ i T T1 H (Kc : V → Hp → Prop) (K0 : Hp → Prop), i < n → Same H1 H → H T = some (.tup [.int (i : Nat), .ref T1]) → H T1 = some (.tup (vals i)) → (∀ y H4, Same H H4 → out (i + 1) = out i ++ [y] → Kc y H4) → (∀ H4, Same H H4 → out (i + 1) = out i → K0 H4) →
      g (.ref T) (wipe σ vs) H fun σ2 H2 => wipe σ2 vs = wipe σ vs ∧ tt σ2 H2 fun b H3 => if b = true then te σ2 H3 Kc else K0 H3)
    (hd : ∀ H, Same H1 H → H D = some (.lst (out n)) → Qd H) :
    ∃ W : Nat → Nat → Hp → Prop, (∃ m, W 0 m (upd H1 D (.lst []))) ∧ ∀ i m H, W i m H →
      ((ItZ vals n).stop i H ∧ Qd H) ∨ ((ItZ vals n).go i H ∧ ∃ Nx : Hp → Prop, (∀ H', Nx H' → ∃ m', m' < m ∧ W (i + 1) m' H') ∧ ∀ x H', (ItZ vals n).yld i H x H' → g x (wipe σ vs) H' fun σ2 H2 => wipe σ2 vs = wipe σ vs ∧ tt σ2 H2 fun b H3 =>
        if b = true then te σ2 H3 fun y H4 => ∃ acc, H4 D = some (.lst acc) ∧ acc.length < sizeLine ∧ Nx (upd H4 D (.lst (acc ++ [y]))) else Nx H3) := by
  refine lc_Z (fun i H => OutI H1 D (out i) H) (by rw [o0]; exact OutI.start hD) (fun i T T1 H lt h h1 h2 ne => ?_) (fun H h => hd H h.1 h.2)
  have s0 : Same H (upd H T1 (.tup (vals i))) := smN (Same.refl _) h1
  have s1 : Same H (upd (upd H T1 (.tup (vals i))) T (.tup [.int (i : Nat), .ref T1])) := smN s0 (by rw [upd_ne ne]; exact h2)
  exact hs i T T1 _ _ _ lt (h.1.trans s1) upd_same (by rw [upd_ne (Ne.symm ne)]; exact upd_same) (fun y H4 s q => ⟨out i, (h.stay (s1.trans s)).2, ol i lt, by rw [q]; exact h.put hD (s1.trans s)⟩) (fun H4 s q => by rw [q]; exact h.stay (s1.trans s))
def spUnl : Sp := fun vs H Q _ => ∃ l m, vs = [.str (S l), .str (S m)] ∧ l.length ≤ 1000 ∧ m.length ≤ 1000 ∧ ∀ D H', Same H H' → H D = none → H' D = some (.lst (nums (unlNs l m))) → Q (.ref D) H'
end Fb
set_option maxRecDepth 100000
set_option maxHeartbeats 4000000
namespace Fb
open PySem PySem.Spec PyProof.Rows L2
open SX (S)

/-! the written part: addresses and defs of the program -/
structure Pz where
  (C fe cNoPattern cUnlike cNoBit p_sizes p_standing : Addr)
  (a_is_whole : Addr) (d_is_whole : FuncData)
  (a_is_number : Addr) (d_is_number : FuncData)
  (a_has_pattern_form : Addr) (d_has_pattern_form : FuncData)
  (a_first_wrong_sign : Addr) (d_first_wrong_sign : FuncData)
  (a_pattern_fault : Addr) (d_pattern_fault : FuncData)
  (a_need_pattern : Addr) (d_need_pattern : FuncData)
  (a_sizes_of : Addr) (d_sizes_of : FuncData)
  (a_need_sizes : Addr) (d_need_sizes : FuncData)
  (a_need_bits : Addr) (d_need_bits : FuncData)
  (a_bits_of : Addr) (d_bits_of : FuncData)
  (a_places_of : Addr) (d_places_of : FuncData)
  (a_lies_below : Addr) (d_lies_below : FuncData)
  (a_unlike_sign : Addr) (d_unlike_sign : FuncData)
  (a_need_alike : Addr) (d_need_alike : FuncData)
  (a_unlike_bits : Addr) (d_unlike_bits : FuncData)
  (a_box : Addr) (d_box : FuncData)
  (a_in_box : Addr) (d_in_box : FuncData)
  (a_box_size : Addr) (d_box_size : FuncData)
  (a_torn : Addr) (d_torn : FuncData)
  (a_init : Addr) (d_init : FuncData)
  (a_str : Addr) (d_str : FuncData)
  (a_len : Addr) (d_len : FuncData)
  (a_le : Addr) (d_le : FuncData)
  (a_and : Addr) (d_and : FuncData)
  (a_or : Addr) (d_or : FuncData)
abbrev s_is_whole : Stmt := top 8
theorem sc_is_whole : FnScope ["thing"] ["thing"] (defScope s_is_whole) := ⟨rfl, rfl, rfl, by decide +kernel, rfl, by decide +kernel, by decide +kernel⟩
abbrev s_is_number : Stmt := top 9
theorem sc_is_number : FnScope ["thing", "many"] ["thing", "many"] (defScope s_is_number) := ⟨rfl, rfl, rfl, by decide +kernel, rfl, by decide +kernel, by decide +kernel⟩
abbrev s_has_pattern_form : Stmt := top 10
theorem sc_has_pattern_form : FnScope ["text", "parts", "bits"] ["text"] (defScope s_has_pattern_form) := ⟨rfl, rfl, rfl, by decide +kernel, rfl, by decide +kernel, by decide +kernel⟩
abbrev s_first_wrong_sign : Stmt := top 12
theorem sc_first_wrong_sign : FnScope ["thing", "bits", "blocks", "size", "at", "sign"] ["thing"] (defScope s_first_wrong_sign) := ⟨rfl, rfl, rfl, by decide +kernel, rfl, by decide +kernel, by decide +kernel⟩
abbrev s_pattern_fault : Stmt := top 11
theorem sc_pattern_fault : FnScope ["thing"] ["thing"] (defScope s_pattern_fault) := ⟨rfl, rfl, rfl, by decide +kernel, rfl, by decide +kernel, by decide +kernel⟩
abbrev s_need_pattern : Stmt := top 13
theorem sc_need_pattern : FnScope ["thing", "at"] ["thing"] (defScope s_need_pattern) := ⟨rfl, rfl, rfl, by decide +kernel, rfl, by decide +kernel, by decide +kernel⟩
abbrev s_sizes_of : Stmt := top 14
theorem sc_sizes_of : FnScope ["text", "part"] ["text"] (defScope s_sizes_of) := ⟨rfl, rfl, rfl, by decide +kernel, rfl, by decide +kernel, by decide +kernel⟩
abbrev s_need_sizes : Stmt := top 15
theorem sc_need_sizes : FnScope ["thing", "sizes"] ["thing", "sizes"] (defScope s_need_sizes) := ⟨rfl, rfl, rfl, by decide +kernel, rfl, by decide +kernel, by decide +kernel⟩
abbrev s_need_bits : Stmt := top 16
theorem sc_need_bits : FnScope ["thing", "many", "bit"] ["thing", "many"] (defScope s_need_bits) := ⟨rfl, rfl, rfl, by decide +kernel, rfl, by decide +kernel, by decide +kernel⟩
abbrev s_bits_of : Stmt := top 17
theorem sc_bits_of : FnScope ["text"] ["text"] (defScope s_bits_of) := ⟨rfl, rfl, rfl, by decide +kernel, rfl, by decide +kernel, by decide +kernel⟩
abbrev s_places_of : Stmt := top 19
theorem sc_places_of : FnScope ["text", "place", "sign"] ["text"] (defScope s_places_of) := ⟨rfl, rfl, rfl, by decide +kernel, rfl, by decide +kernel, by decide +kernel⟩
abbrev s_lies_below : Stmt := top 20
theorem sc_lies_below : FnScope ["one", "other", "a", "b"] ["one", "other"] (defScope s_lies_below) := ⟨rfl, rfl, rfl, by decide +kernel, rfl, by decide +kernel, by decide +kernel⟩
abbrev s_unlike_sign : Stmt := top 21
theorem sc_unlike_sign : FnScope ["a", "b"] ["a", "b"] (defScope s_unlike_sign) := ⟨rfl, rfl, rfl, by decide +kernel, rfl, by decide +kernel, by decide +kernel⟩
abbrev s_need_alike : Stmt := top 25
theorem sc_need_alike : FnScope ["texts", "text"] ["texts"] (defScope s_need_alike) := ⟨rfl, rfl, rfl, by decide +kernel, rfl, by decide +kernel, by decide +kernel⟩
abbrev s_unlike_bits : Stmt := top 18
theorem sc_unlike_bits : FnScope ["one", "other", "bit", "a", "b"] ["one", "other"] (defScope s_unlike_bits) := ⟨rfl, rfl, rfl, by decide +kernel, rfl, by decide +kernel, by decide +kernel⟩
abbrev s_box : Stmt := top 26
theorem sc_box : FnScope ["one", "other", "found", "a", "b", "signs", "text", "sign"] ["one", "other"] (defScope s_box) := ⟨rfl, rfl, rfl, by decide +kernel, rfl, by decide +kernel, by decide +kernel⟩
abbrev s_in_box : Stmt := top 27
theorem sc_in_box : FnScope ["z", "one", "other", "sign", "a", "b"] ["z", "one", "other"] (defScope s_in_box) := ⟨rfl, rfl, rfl, by decide +kernel, rfl, by decide +kernel, by decide +kernel⟩
abbrev s_box_size : Stmt := top 28
theorem sc_box_size : FnScope ["one", "other"] ["one", "other"] (defScope s_box_size) := ⟨rfl, rfl, rfl, by decide +kernel, rfl, by decide +kernel, by decide +kernel⟩
abbrev s_torn : Stmt := top 29
theorem sc_torn : FnScope ["one", "other", "early", "places", "signs", "bit"] ["one", "other", "early"] (defScope s_torn) := ⟨rfl, rfl, rfl, by decide +kernel, rfl, by decide +kernel, by decide +kernel⟩
abbrev s_Pattern_init : Stmt := inClass (top 22) 2
theorem sc_Pattern_init : FnScope ["self", "text"] ["self", "text"] (defScope s_Pattern_init) := ⟨rfl, rfl, rfl, by decide +kernel, rfl, by decide +kernel, by decide +kernel⟩
abbrev s_Pattern_str : Stmt := inClass (top 22) 9
theorem sc_Pattern_str : FnScope ["self"] ["self"] (defScope s_Pattern_str) := ⟨rfl, rfl, rfl, by decide +kernel, rfl, by decide +kernel, by decide +kernel⟩
abbrev s_Pattern_len : Stmt := inClass (top 22) 10
theorem sc_Pattern_len : FnScope ["self"] ["self"] (defScope s_Pattern_len) := ⟨rfl, rfl, rfl, by decide +kernel, rfl, by decide +kernel, by decide +kernel⟩
abbrev s_Pattern_le : Stmt := inClass (top 22) 16
theorem sc_Pattern_le : FnScope ["self", "other"] ["self", "other"] (defScope s_Pattern_le) := ⟨rfl, rfl, rfl, by decide +kernel, rfl, by decide +kernel, by decide +kernel⟩
abbrev s_Pattern_and : Stmt := inClass (top 22) 20
theorem sc_Pattern_and : FnScope ["self", "other", "a", "b"] ["self", "other"] (defScope s_Pattern_and) := ⟨rfl, rfl, rfl, by decide +kernel, rfl, by decide +kernel, by decide +kernel⟩
abbrev s_Pattern_or : Stmt := inClass (top 22) 21
theorem sc_Pattern_or : FnScope ["self", "other", "a", "b"] ["self", "other"] (defScope s_Pattern_or) := ⟨rfl, rfl, rfl, by decide +kernel, rfl, by decide +kernel, by decide +kernel⟩
structure Txp (K : PySem.W.Frag) (mg : Str → Option Value) (z : Pz) : Prop where
  g_Pattern : mg "Pattern" = some (.ref z.C)
  cls : Cls K z.C
  mkP : Mk K z.C z.a_init
  na_text : NoAttr K z.C "_text"
  na_bits : NoAttr K z.C "_bits"
  na_sizes : NoAttr K z.C "_sizes"
  crP : ClX.CRead K z.C (.type "type")
  vBITS : ∃ mc u, ClX.CRead K z.C mc ∧ ClX.CVal K z.C mc "BITS" (.int 120) u
  vBLOCKS : ∃ mc u, ClX.CRead K z.C mc ∧ ClX.CVal K z.C mc "BLOCKS" (.int 3) u
  ca : PySem.W.findIn K (.ref z.C) "__class__" = some (some (.builtin "object.__class__"))
  xb : XB K
  mo : PySem.W.mroIn K z.C (.type "object") = some true
  sf : PySem.W.selfFirst K z.C = true
  ic : ∃ cd, PySem.W.clsIn K z.C = some cd ∧ cd.mro = [.ref z.C, .type "object"]
  tyC : PySem.W.typeIn K (.ref z.C) = some (.type "type")
  g_is_whole : mg "is_whole" = some (.ref z.a_is_whole)
  k_is_whole : PySem.W.keepIn K (.ref z.a_is_whole) = true
  F_is_whole : Fun K "is_whole" "is_whole" s_is_whole z.a_is_whole z.d_is_whole
  b_is_whole : Binds K z.d_is_whole ["thing"] []
  g_is_number : mg "is_number" = some (.ref z.a_is_number)
  k_is_number : PySem.W.keepIn K (.ref z.a_is_number) = true
  F_is_number : Fun K "is_number" "is_number" s_is_number z.a_is_number z.d_is_number
  b_is_number : Binds K z.d_is_number ["thing", "many"] []
  g_has_pattern_form : mg "has_pattern_form" = some (.ref z.a_has_pattern_form)
  k_has_pattern_form : PySem.W.keepIn K (.ref z.a_has_pattern_form) = true
  F_has_pattern_form : Fun K "has_pattern_form" "has_pattern_form" s_has_pattern_form z.a_has_pattern_form z.d_has_pattern_form
  b_has_pattern_form : Binds K z.d_has_pattern_form ["text"] []
  g_first_wrong_sign : mg "first_wrong_sign" = some (.ref z.a_first_wrong_sign)
  k_first_wrong_sign : PySem.W.keepIn K (.ref z.a_first_wrong_sign) = true
  F_first_wrong_sign : Fun K "first_wrong_sign" "first_wrong_sign" s_first_wrong_sign z.a_first_wrong_sign z.d_first_wrong_sign
  b_first_wrong_sign : Binds K z.d_first_wrong_sign ["thing"] []
  g_pattern_fault : mg "pattern_fault" = some (.ref z.a_pattern_fault)
  k_pattern_fault : PySem.W.keepIn K (.ref z.a_pattern_fault) = true
  F_pattern_fault : Fun K "pattern_fault" "pattern_fault" s_pattern_fault z.a_pattern_fault z.d_pattern_fault
  b_pattern_fault : Binds K z.d_pattern_fault ["thing"] []
  g_need_pattern : mg "need_pattern" = some (.ref z.a_need_pattern)
  k_need_pattern : PySem.W.keepIn K (.ref z.a_need_pattern) = true
  F_need_pattern : Fun K "need_pattern" "need_pattern" s_need_pattern z.a_need_pattern z.d_need_pattern
  b_need_pattern : Binds K z.d_need_pattern ["thing"] []
  g_sizes_of : mg "sizes_of" = some (.ref z.a_sizes_of)
  k_sizes_of : PySem.W.keepIn K (.ref z.a_sizes_of) = true
  F_sizes_of : Fun K "sizes_of" "sizes_of" s_sizes_of z.a_sizes_of z.d_sizes_of
  b_sizes_of : Binds K z.d_sizes_of ["text"] []
  g_need_sizes : mg "need_sizes" = some (.ref z.a_need_sizes)
  k_need_sizes : PySem.W.keepIn K (.ref z.a_need_sizes) = true
  F_need_sizes : Fun K "need_sizes" "need_sizes" s_need_sizes z.a_need_sizes z.d_need_sizes
  b_need_sizes : Binds K z.d_need_sizes ["thing", "sizes"] []
  g_need_bits : mg "need_bits" = some (.ref z.a_need_bits)
  k_need_bits : PySem.W.keepIn K (.ref z.a_need_bits) = true
  F_need_bits : Fun K "need_bits" "need_bits" s_need_bits z.a_need_bits z.d_need_bits
  b_need_bits : Binds K z.d_need_bits ["thing", "many"] []
  g_bits_of : mg "bits_of" = some (.ref z.a_bits_of)
  k_bits_of : PySem.W.keepIn K (.ref z.a_bits_of) = true
  F_bits_of : Fun K "bits_of" "bits_of" s_bits_of z.a_bits_of z.d_bits_of
  b_bits_of : Binds K z.d_bits_of ["text"] []
  g_places_of : mg "places_of" = some (.ref z.a_places_of)
  k_places_of : PySem.W.keepIn K (.ref z.a_places_of) = true
  F_places_of : Fun K "places_of" "places_of" s_places_of z.a_places_of z.d_places_of
  b_places_of : Binds K z.d_places_of ["text"] []
  g_lies_below : mg "lies_below" = some (.ref z.a_lies_below)
  k_lies_below : PySem.W.keepIn K (.ref z.a_lies_below) = true
  F_lies_below : Fun K "lies_below" "lies_below" s_lies_below z.a_lies_below z.d_lies_below
  b_lies_below : Binds K z.d_lies_below ["one", "other"] []
  g_unlike_sign : mg "unlike_sign" = some (.ref z.a_unlike_sign)
  k_unlike_sign : PySem.W.keepIn K (.ref z.a_unlike_sign) = true
  F_unlike_sign : Fun K "unlike_sign" "unlike_sign" s_unlike_sign z.a_unlike_sign z.d_unlike_sign
  b_unlike_sign : Binds K z.d_unlike_sign ["a", "b"] []
  g_need_alike : mg "need_alike" = some (.ref z.a_need_alike)
  k_need_alike : PySem.W.keepIn K (.ref z.a_need_alike) = true
  F_need_alike : Fun K "need_alike" "need_alike" s_need_alike z.a_need_alike z.d_need_alike
  b_need_alike : Binds K z.d_need_alike ["texts"] []
  g_unlike_bits : mg "unlike_bits" = some (.ref z.a_unlike_bits)
  k_unlike_bits : PySem.W.keepIn K (.ref z.a_unlike_bits) = true
  F_unlike_bits : Fun K "unlike_bits" "unlike_bits" s_unlike_bits z.a_unlike_bits z.d_unlike_bits
  b_unlike_bits : Binds K z.d_unlike_bits ["one", "other"] []
  g_box : mg "box" = some (.ref z.a_box)
  k_box : PySem.W.keepIn K (.ref z.a_box) = true
  F_box : Fun K "box" "box" s_box z.a_box z.d_box
  b_box : Binds K z.d_box ["one", "other"] []
  g_in_box : mg "in_box" = some (.ref z.a_in_box)
  k_in_box : PySem.W.keepIn K (.ref z.a_in_box) = true
  F_in_box : Fun K "in_box" "in_box" s_in_box z.a_in_box z.d_in_box
  b_in_box : Binds K z.d_in_box ["z", "one", "other"] []
  g_box_size : mg "box_size" = some (.ref z.a_box_size)
  k_box_size : PySem.W.keepIn K (.ref z.a_box_size) = true
  F_box_size : Fun K "box_size" "box_size" s_box_size z.a_box_size z.d_box_size
  b_box_size : Binds K z.d_box_size ["one", "other"] []
  g_torn : mg "torn" = some (.ref z.a_torn)
  k_torn : PySem.W.keepIn K (.ref z.a_torn) = true
  F_torn : Fun K "torn" "torn" s_torn z.a_torn z.d_torn
  b_torn : Binds K z.d_torn ["one", "other", "early"] []
  m_init : PySem.W.findIn K (.ref z.C) "__init__" = some (some (.ref z.a_init))
  f_init : PySem.W.isFn K (.ref z.a_init) = true
  F_init : Fun K "__init__" "Pattern.__init__" s_Pattern_init z.a_init z.d_init
  b_init : Binds K z.d_init ["self", "text"] []
  m_str : PySem.W.findIn K (.ref z.C) "__str__" = some (some (.ref z.a_str))
  f_str : PySem.W.isFn K (.ref z.a_str) = true
  F_str : Fun K "__str__" "Pattern.__str__" s_Pattern_str z.a_str z.d_str
  b_str : Binds K z.d_str ["self"] []
  m_len : PySem.W.findIn K (.ref z.C) "__len__" = some (some (.ref z.a_len))
  f_len : PySem.W.isFn K (.ref z.a_len) = true
  F_len : Fun K "__len__" "Pattern.__len__" s_Pattern_len z.a_len z.d_len
  b_len : Binds K z.d_len ["self"] []
  m_le : PySem.W.findIn K (.ref z.C) "__le__" = some (some (.ref z.a_le))
  f_le : PySem.W.isFn K (.ref z.a_le) = true
  F_le : Fun K "__le__" "Pattern.__le__" s_Pattern_le z.a_le z.d_le
  b_le : Binds K z.d_le ["self", "other"] []
  m_and : PySem.W.findIn K (.ref z.C) "__and__" = some (some (.ref z.a_and))
  f_and : PySem.W.isFn K (.ref z.a_and) = true
  F_and : Fun K "__and__" "Pattern.__and__" s_Pattern_and z.a_and z.d_and
  b_and : Binds K z.d_and ["self", "other"] []
  m_or : PySem.W.findIn K (.ref z.C) "__or__" = some (some (.ref z.a_or))
  f_or : PySem.W.isFn K (.ref z.a_or) = true
  F_or : Fun K "__or__" "Pattern.__or__" s_Pattern_or z.a_or z.d_or
  b_or : Binds K z.d_or ["self", "other"] []
  xNoPattern : XF K mg z.fe "NoPattern" z.cNoPattern
  xUnlike : XF K mg z.fe "Unlike" z.cUnlike
  eUnlike : PySem.W.excIn K z.cUnlike [.type "ValueError", .type "Exception", .type "BaseException", .type "object"] "ValueError.__new__" = true
  xNoBit : XF K mg z.fe "NoBit" z.cNoBit
  eNoBit : PySem.W.excIn K z.cNoBit [.type "ValueError", .type "Exception", .type "BaseException", .type "object"] "ValueError.__new__" = true
  n_isinstance : mg "isinstance" = none
  n_str : mg "str" = none
  n_enumerate : mg "enumerate" = none
  n_len : mg "len" = none
  n_tuple : mg "tuple" = none
  n_all : mg "all" = none
  n_int : mg "int" = none
  n_bool : mg "bool" = none
  n_list : mg "list" = none
  n_zip : mg "zip" = none
  g_MOST_UNLIKE_BITS : ∃ t, mg "MOST_UNLIKE_BITS" = some (.int 10 t)
/-! promises -/
def optI : Option Nat → V
  | none => .non
  | some k => .int (k : Nat)
def spForm : Sp := fun vs H Q _ => ∃ l, vs = [.str (S l)] ∧ l.length ≤ sizeLine - 2 ∧ ∀ H', Same H H' → Q (.bl (decide (pf l = none))) H'
def spFirst : Sp := fun vs H Q _ => ∃ l, vs = [.str (S l)] ∧ l.length ≤ sizeLine - 2 ∧ ∀ H', Same H H' → Q (.int (((pf l).getD l.length : Nat) : Int)) H'
def spFault (K : PySem.W.Frag) : Sp := fun vs H Q _ => (∃ l, vs = [.str (S l)] ∧ l.length ≤ sizeLine - 2 ∧ ∀ H', Same H H' → Q (optI (pf l)) H') ∨ (∃ x t, vs = [x] ∧ TyX K H x t ∧ PySem.W.kitOne K t (.type "str") = some false ∧ Q (.int 0) H)
def spNeed : Sp := fun vs H Q _ => ∃ l, vs = [.str (S l)] ∧ l.length ≤ sizeLine - 2 ∧ pf l = none ∧ ∀ H', Same H H' → Q .non H'
def spSizes : Sp := fun vs H Q _ => ∃ l, vs = [.str (S l)] ∧ l.length ≤ 1000 ∧ ∀ p H', Same H H' → H p = none → H' p = some (.tup (nums (szs l))) → Q (.ref p) H'
def spNeedS (K : PySem.W.Frag) (C : Addr) : Sp := fun vs H Q E => ∃ l t ns, vs = [.str (S l), .ref t] ∧ l.length ≤ 1000 ∧ pf l = none ∧ SqT K H t (nums ns) ∧ (if szs l = ns then ∀ H', Same H H' → Q .non H' else ∀ H', Same H H' → E (.ref C) none H')
def spBits : Sp := fun vs H Q _ => ∃ l, vs = [.str (S l)] ∧ l.length ≤ 1000 ∧ Q (.str (S (l.filter (fun c => c != 46)))) H
def spBelow : Sp := fun vs H Q _ => ∃ l m, vs = [.str (S l), .str (S m)] ∧ l.length ≤ 1000 ∧ ∀ H', Same H H' → Q (.bl (below l m)) H'
def spUnS : Sp := fun vs H Q _ => ∃ a b, vs = [.str (S [a]), .str (S [b])] ∧ Q (.str (S [fXor a b])) H
/-! small facts -/
theorem S_0 : ("0" : Str) = S [48] := by decide +kernel
theorem S_1 : ("1" : Str) = S [49] := by decide +kernel
theorem S_d : ("." : Str) = S [46] := by decide +kernel
theorem S_e : ("" : Str) = S [] := by decide +kernel
theorem S_eq {a b : List Nat} : (V.str (S a) = V.str (S b)) ↔ a = b := ⟨fun h => SX.S_inj (V.str.inj h), fun h => by rw [h]⟩
theorem inV_sg (c : Nat) : inV (.str (S [c])) [.str "0", .str "1", .str "."] = decide (c = 48 ∨ c = 49 ∨ c = 46) := by
  rw [S_0, S_1, S_d]
  have e : ∀ a : Nat, eqV (V.str (S [a])) (V.str (S [c])) = decide (c = a) := fun a => by
    show (S [a] == S [c]) = _
    rw [SX.S_beq_eq]
    by_cases h : c = a
    · subst h; simp
    · rw [decide_eq_false h, decide_eq_false (fun z => h (by simpa using z.symm))]
  show ([V.str (S [48]), V.str (S [49]), V.str (S [46])].any fun y => eqV y (V.str (S [c]))) = _
  simp only [List.any_cons, List.any_nil, e, Bool.or_false, Bool.decide_or]
theorem le3 : 3 ≤ sizeLine := by decide
theorem S_sz (l : List Nat) : (S l).cps.size = l.length := by simp [S]
theorem S_ln (l : List Nat) : (S l).length = l.length := SX.S_len l
theorem small1 (n : Nat) (h : n ≤ 1000) : n < sizeLine := small1000 h
/-! a text of a pattern, by its parts -/
theorem txt_parts (l : List Nat) : Txt.split (S l) "." = (cut (szs l) (bt l)).map S := split_cut l
theorem join_flat : ∀ ps : List (List Nat), TL.joinL [] ps = ps.flatten
  | [] => rfl
  | [p] => by simp [TL.joinL]
  | p :: q :: r => by
    have h := join_flat (q :: r)
    simp only [TL.joinL] at h ⊢
    rw [h]
    simp
theorem mem_tw {p : Nat → Bool} {x : Nat} : ∀ {l : List Nat}, x ∈ l.takeWhile p → p x = true
  | a :: l, h => by
    rw [List.takeWhile_cons] at h
    split at h
    · rename_i e
      rcases List.mem_cons.mp h with q | q
      · rw [q]; exact e
      · exact mem_tw q
    · simp at h
theorem tw_bad {p : Nat → Bool} : ∀ {l : List Nat} (h : (l.takeWhile p).length < l.length), p (l[(l.takeWhile p).length]'h) = false
  | [], h => by simp at h
  | a :: l, h => by
    by_cases e : p a = true
    · have e2 : (a :: l).takeWhile p = a :: l.takeWhile p := by rw [List.takeWhile_cons, if_pos e]
      have h2 : (l.takeWhile p).length < l.length := by rw [e2] at h; simpa using h
      have := tw_bad h2
      simpa [e2] using this
    · have e2 : (a :: l).takeWhile p = [] := by rw [List.takeWhile_cons, if_neg e]
      simpa [e2] using e
theorem tw_all {p : Nat → Bool} : ∀ {l : List Nat}, (∀ c ∈ l, p c = true) → l.takeWhile p = l
  | [], _ => rfl
  | a :: l, h => by rw [List.takeWhile_cons, if_pos (h a List.mem_cons_self), tw_all fun c hc => h c (List.mem_cons_of_mem _ hc)]
theorem join_parts (l : List Nat) : Txt.join "" ((cut (szs l) (bt l)).map S) = S (bt l) := by
  rw [S_e, SX.join_S, join_flat, cut_flat (bt_sum l).symm]
theorem inV_parts (ps : List (List Nat)) : inV (.str "") ((ps.map S).map V.str) = decide ([] ∈ ps) := by
  rw [S_e]
  show (((ps.map S).map V.str).any fun y => eqV y (V.str (S []))) = _
  rw [List.map_map, List.any_map]
  have e : (fun y => eqV y (V.str (S []))) ∘ (V.str ∘ S) = fun p : List Nat => decide (p = []) := by
    funext p
    show (S p == S []) = _
    rw [SX.S_beq_eq]
  rw [e]
  by_cases h : [] ∈ ps
  · rw [decide_eq_true h]
    exact List.any_eq_true.mpr ⟨[], h, by simp⟩
  · rw [decide_eq_false h]
    refine List.any_eq_false.mpr fun p hp => ?_
    simp only [decide_eq_true_eq]
    exact fun e => h (e ▸ hp)
theorem flat_parts (ps : List (List Nat)) : ((ps.map S).map V.str).all flatV = true := by
  rw [List.map_map, List.all_map]
  exact List.all_eq_true.mpr fun p _ => rfl
theorem nil_cut {l : List Nat} : [] ∈ cut (szs l) (bt l) ↔ 0 ∈ szs l := by
  have e := cut_lens (ss := szs l) (b := bt l) (Nat.le_of_eq (bt_sum l).symm)
  constructor
  · intro h
    rw [← e]
    exact List.mem_map.mpr ⟨[], h, rfl⟩
  · intro h
    rw [← e] at h
    obtain ⟨p, hp, e2⟩ := List.mem_map.mp h
    rw [List.length_eq_zero_iff.mp e2] at hp
    exact hp
theorem strip_bits (b : List Nat) : (Txt.stripChars (S b) "01" = S []) ↔ ∀ c ∈ b, c = 48 ∨ c = 49 := by
  have g : ("01" : Str).cps.contains = fun c => decide (c = 48 ∨ c = 49) := by
    funext c
    rw [show ("01" : Str) = S [48, 49] by decide +kernel]
    show (#[48, 49] : Array Nat).contains c = _
    simp [Bool.decide_or, eq_comm]
  generalize ep : (fun c : Nat => decide (c = 48 ∨ c = 49)) = p at g
  have hp : ∀ c, p c = true ↔ (c = 48 ∨ c = 49) := fun c => by rw [← ep]; simp
  have e : Txt.stripChars (S b) "01" = S ((b.drop (b.takeWhile p).length).take (b.length - ((b.drop (b.takeWhile p).length).reverse.takeWhile p).length - (b.takeWhile p).length)) := by
    unfold Txt.stripChars
    rw [stripBy_eq, g]
    show Builtin.Str.strSub (S b) (b.takeWhile p).length ((S b).length - ((b.drop (b.takeWhile p).length).reverse.takeWhile p).length) = _
    rw [S_ln]
    show (⟨(b.toArray).extract _ _⟩ : Str) = _
    rw [List.extract_toArray, List.extract_eq_drop_take] <;> rfl
  rw [e]
  constructor
  · intro h
    have h2 := SX.S_inj h
    by_cases hd : b.drop (b.takeWhile p).length = []
    · intro c hc
      have t : b.takeWhile p = b := by
        have := List.takeWhile_append_dropWhile (p := p) (l := b)
        have l1 : b.length ≤ (b.takeWhile p).length := by simpa using hd
        exact List.IsPrefix.eq_of_length_le (List.takeWhile_prefix p) l1
      rw [← t] at hc
      exact (hp c).mp (mem_tw hc)
    · exfalso
      have nz : (b.takeWhile p).length < b.length := by
        have : b.drop (b.takeWhile p).length ≠ [] := hd
        rw [Ne, List.drop_eq_nil_iff] at this
        omega
      -- the sign behind the first good ones is not good
      have bad : p (b[(b.takeWhile p).length]'nz) = false := by
        exact tw_bad nz
      have few : ((b.drop (b.takeWhile p).length).reverse.takeWhile p).length < (b.drop (b.takeWhile p).length).length := by
        refine Nat.lt_of_not_le fun le => ?_
        have t : (b.drop (b.takeWhile p).length).reverse.takeWhile p = (b.drop (b.takeWhile p).length).reverse :=
          List.IsPrefix.eq_of_length_le (List.takeWhile_prefix p) (by rw [List.length_reverse]; exact le)
        have m : b[(b.takeWhile p).length]'nz ∈ (b.drop (b.takeWhile p).length).reverse := by
          rw [List.mem_reverse, List.drop_eq_getElem_cons nz]
          exact List.mem_cons_self
        rw [← t] at m
        rw [mem_tw m] at bad
        cases bad
      have ln : ((b.drop (b.takeWhile p).length).take (b.length - ((b.drop (b.takeWhile p).length).reverse.takeWhile p).length - (b.takeWhile p).length)).length = 0 := by rw [h2] <;> rfl
      rw [List.length_take, List.length_drop] at ln
      rw [List.length_drop] at few
      omega
  · intro h
    have t : b.takeWhile p = b := tw_all fun c hc => (hp c).mpr (h c hc)
    rw [t, List.drop_length, List.take_nil]
theorem form_iff {l : List Nat} : pf l = none ↔ ((szs l).length ≤ 3 ∧ 0 ∉ szs l ∧ (bt l).length ≤ 120 ∧ ∀ c ∈ bt l, c = 48 ∨ c = 49) := by
  constructor
  · intro h
    have p := isP_pf h
    exact ⟨p.few, fun z => by have := p.one 0 z; omega, p.sum, p.bits⟩
  · rintro ⟨h1, h2, h3, h4⟩
    refine IsP.pf ⟨fun c hc => ?_, fun n hn => ?_, h1, h3⟩
    · by_cases d : c = 46
      · exact .inr (.inr d)
      · rcases h4 c (List.mem_filter.mpr ⟨hc, by simpa using d⟩) with e | e
        · exact .inl e
        · exact .inr (.inl e)
    · rcases Nat.eq_zero_or_pos n with e | e
      · exact absurd (e ▸ hn) h2
      · exact e
section
variable {P : Program} {wo : World} {K : PySem.W.Frag} {mg : Str → Option Value} {base : Heap} {z : Pz}

theorem ok_has_pattern_form (T : Txp K mg z) : FnOk P wo K mg base CX0 1 z.a_has_pattern_form z.d_has_pattern_form ["text"] spForm := by
  refine T.F_has_pattern_form.ok sc_has_pattern_form (fun vs H Q E h => ?_) (fun cdv A outer s H vs Q E hr h => ?_)
  · obtain ⟨l, rfl, _⟩ := h
    rfl
  · obtain ⟨l, rfl, hl, ret⟩ := h
    have hz : 2 ≤ sizeLine := by decide
    refine ⟨_, (pss_cons (ps_set (i := 1) sc_has_pattern_form.nd rfl (Or.inl rfl) (pe_bm PySem.F.plainAttrs_str PySem.F.slot_str_split PySem.F.type_str_split mt_split (pv 0) (pa_cons pe_str pa_nil)))
      (pss_cons (ps_set (i := 2) sc_has_pattern_form.nd rfl (Or.inl rfl) (pe_joinK (K := K) rfl pe_str (pa_cons (pv 1) pa_nil)))
      (pss_cons (ps_if (PW.pt (pw_or (pt_cmpR op_gt (pe_callB call_len_seq (by rfl) T.n_len (by decide +kernel) (pa_cons (pv 1) pa_nil)) (ClX.pe_cval (pe_glob (v := .ref z.C) rfl T.g_Pattern rfl)) (nomark _)) (pw_or (pt_cmpR (op_inK (K := K) rfl) pe_str (pv 1) rfl) (pw_or1 (pt_cmpR op_gt (pe_callB call_len_str (by rfl) T.n_len (by decide +kernel) (pa_cons (pv 2) pa_nil)) (ClX.pe_cval (pe_glob (v := .ref z.C) rfl T.g_Pattern rfl)) (nomark _))))))
        (pss_one (ps_ret pe_bl))
        pss_nil)
      (pss_one (ps_ret (pe_cmpR op_eq (pe_bm PySem.F.plainAttrs_str PySem.F.slot_str_strip PySem.F.type_str_strip mt_stripChars (pv 2) (pa_cons pe_str pa_nil)) pe_str (nomark _))))))), ?_⟩
    refine ⟨_, rfl, rfl, S l, ".", rfl, rfl, by decide, by rw [S_ln]; omega, fun p hp => ?_⟩
    rw [txt_parts]
    have s1 := smN (o := .lst (((cut (szs l) (bt l)).map S).map V.str)) (Same.refl H) hp
    have lp : (((cut (szs l) (bt l)).map S).map V.str).length = (szs l).length := by rw [List.length_map, List.length_map, cut_len]
    have out : ¬ ((szs l).length ≤ 3 ∧ 0 ∉ szs l ∧ (bt l).length ≤ 120 ∧ ∀ c ∈ bt l, c = 48 ∨ c = 49) → ∀ H', Same H H' → Q (.bl false) H' := fun h H' s' => by
      have q := ret H' s'
      rw [decide_eq_false (fun e => h (form_iff.mp e))] at q
      exact q
    have hb : (bt l).length ≤ l.length := List.length_filter_le _ _
    have sum : ((((cut (szs l) (bt l)).map S)).map fun w => w.length).sum = (bt l).length := by
      rw [SX.lens, cut_lens (Nat.le_of_eq (bt_sum l).symm), bt_sum]
    refine ⟨rfl, _, rfl, "", p, (cut (szs l) (bt l)).map S, rfl, rfl, .inl (SqL.of upd_same), ?_, ?_⟩
    · rw [sum]
      show (bt l).length + _ * 0 ≤ sizeLine
      omega
    rw [join_parts]
    obtain ⟨mk, uk, crk, cvk⟩ := T.vBLOCKS
    obtain ⟨mb, ub, crb, cvb⟩ := T.vBITS
    refine ⟨_, rfl, p, _, rfl, .inl (SqL.of upd_same), z.C, mk, _, uk, rfl, crk, cvk, _, _, rfl, rfl, _, rfl, ?_⟩
    rw [lp]
    refine ite2 (fun c1 => ?_) (fun c1 => ?_)
    · exact iteT (out (fun h => by have := of_decide_eq_true c1; have := h.1; omega) _ s1)
    refine ⟨_, rfl, p, _, rfl, .inl (SqL.of upd_same), rfl, flat_parts _, _, rfl, ?_⟩
    rw [inV_parts]
    refine ite2 (fun c2 => ?_) (fun c2 => ?_)
    · have c2' : decide ([] ∈ cut (szs l) (bt l)) = true := c2
      exact iteT (out (fun h => h.2.1 (nil_cut.mp (of_decide_eq_true c2'))) _ s1)
    refine ⟨_, rfl, _, rfl, by rw [S_ln]; omega, z.C, mb, _, ub, rfl, crb, cvb, _, _, rfl, rfl, _, rfl, ?_⟩
    rw [S_ln]
    refine ite2 (fun c3 => ?_) (fun c3 => ?_)
    · exact out (fun h => by have := of_decide_eq_true c3; have := h.2.2.1; omega) _ s1
    refine ⟨_, rfl, rfl, S (bt l), "01", rfl, rfl, by rw [S_ln]; omega, rfl, ?_⟩
    have c2' : ¬ decide ([] ∈ cut (szs l) (bt l)) = true := c2
    have e : decide (V.str (Txt.stripChars (S (bt l)) "01") = V.str "") = decide (pf l = none) := by
      rw [decide_eq_decide, S_e]
      constructor
      · intro h
        refine form_iff.mpr ⟨?_, ?_, ?_, (strip_bits _).mp (V.str.inj h)⟩
        · refine Nat.le_of_not_lt fun q => c1 (decide_eq_true ?_)
          omega
        · exact fun q => c2' (decide_eq_true (nil_cut.mpr q))
        · refine Nat.le_of_not_lt fun q => c3 (decide_eq_true ?_)
          omega
      · intro h
        rw [(strip_bits _).mpr (form_iff.mp h).2.2.2]
    rw [e]
    exact ret _ s1
theorem ok_first_wrong_sign (T : Txp K mg z) : FnOk P wo K mg base CX0 1 z.a_first_wrong_sign z.d_first_wrong_sign ["thing"] spFirst := by
  refine T.F_first_wrong_sign.ok sc_first_wrong_sign (fun vs H Q E h => ?_) (fun cdv A outer s H vs Q E hr h => ?_)
  · obtain ⟨l, rfl, _⟩ := h
    rfl
  · obtain ⟨l, rfl, hl, ret⟩ := h
    refine ⟨_, (pss_cons (ps_set (i := 1) sc_first_wrong_sign.nd rfl (Or.inl rfl) pe_int)
      (pss_cons (ps_set (i := 2) sc_first_wrong_sign.nd rfl (Or.inl rfl) pe_int)
      (pss_cons (ps_set (i := 3) sc_first_wrong_sign.nd rfl (Or.inl rfl) pe_int)
      (pss_cons (ps_for PassesOwn.never rfl (pi_enumS rfl T.n_enumerate (pa_cons (pv 0) pa_nil)) (pg_tup rfl (pgs_cons (pg_name (i := 4) sc_first_wrong_sign.nd rfl (Or.inl rfl)) (pgs_cons (pg_name (i := 5) sc_first_wrong_sign.nd rfl (Or.inl rfl)) pgs_nil)))
        (pss_cons (ps_if (PW.pt (pw_or (pt_cmpR (op_notInK (K := K) rfl) (pv 5) (pe_tup (pa_cons pe_str (pa_cons pe_str (pa_cons pe_str pa_nil)))) rfl) (pw_or1 (pt_cmpR op_eq (pv 1) (ClX.pe_cval (pe_glob (v := .ref z.C) rfl T.g_Pattern rfl)) (nomark _)))))
          (pss_one (ps_ret (pv 4)))
          pss_nil)
        (pss_one (ps_if (pt_cmpR op_eq (pv 5) pe_str (nomark _))
          (pss_cons (ps_if (PW.pt (pw_or (pt_cmpR op_eq (pv 3) pe_int (nomark _)) (pw_or1 (pt_cmpR op_eq (pv 2) (ClX.pe_cval (pe_glob (v := .ref z.C) rfl T.g_Pattern rfl)) (nomark _)))))
            (pss_one (ps_ret (pv 4)))
            pss_nil)
          (pss_cons (ps_aug (i := 2) sc_first_wrong_sign.nd rfl (Or.inl rfl) pe_int ip_add)
          (pss_one (ps_set (i := 3) sc_first_wrong_sign.nd rfl (Or.inl rfl) pe_int))))
          (pss_cons (ps_aug (i := 1) sc_first_wrong_sign.nd rfl (Or.inl rfl) pe_int ip_add)
          (pss_one (ps_aug (i := 3) sc_first_wrong_sign.nd rfl (Or.inl rfl) pe_int ip_add)))))))
      (pss_one (ps_ret (pe_callB call_len_str (by rfl) T.n_len (by decide +kernel) (pa_cons (pv 0) pa_nil)))))))), ?_⟩
    refine ⟨_, rfl, S l, rfl, ?_⟩
    rw [S_sz]
    refine for_T (fun i σ H' => Same H H' ∧ ∃ (b k n : Nat) (x4 x5 : Option V), σ = [some (.str (S l)), some (.int b), some (.int k), some (.int n), x4, x5] ∧ pfa (l.drop i) i b k n = pf l) ⟨Same.refl _, 0, 1, 0, none, none, rfl, rfl⟩ ?_ ?_
    · rintro i Tu σ H1 hi ⟨s1, b, k, n, x4, x5, rfl, e⟩ hT
      have hc : l[i]? = some l[i] := List.getElem?_eq_getElem hi
      have ed : l.drop i = l[i] :: l.drop (i + 1) := List.drop_eq_getElem_cons hi
      generalize l[i] = c at hc ed
      rw [ed] at e
      have es : sgn (S l) i = S [c] := S_sgn hc
      have s2 : Same H (upd H1 Tu (.tup [.int (i : Nat), .str (sgn (S l) i)])) := smN s1 hT
      refine ⟨Tu, [.int (i : Nat), .str (S [c])], rfl, SqT.of (by rw [upd_same, es]), rfl, ?_⟩
      refine ⟨_, _, rfl, ?_⟩
      refine ⟨_, _, rfl, ?_⟩
      refine ⟨rfl, ?_⟩
      refine ⟨_, rfl, le3, fun t ht => ⟨t, _, rfl, .inr (SqT.of upd_same), rfl, rfl, _, rfl, ?_⟩⟩
      have s3 := smN (o := .tup [.str "0", .str "1", .str "."]) s2 ht
      rw [inV_sg]
      unfold pfa at e
      by_cases h1 : c = 48 ∨ c = 49 ∨ c = 46
      · rw [decide_eq_true h1]
        refine iteF ?_
        obtain ⟨mc, u, cr, cv⟩ := T.vBITS
        refine ⟨_, rfl, z.C, mc, _, u, rfl, cr, cv, rfl, _, rfl, ?_⟩
        refine ite2 (fun h2 => ?_) (fun h2 => ?_)
        · have h3 : b = 120 := by have := of_decide_eq_true h2; have := V.int.inj this; omega
          rw [if_pos (.inr h3)] at e
          refine ⟨_, rfl, ?_⟩
          have q := ret _ s3
          rw [← e] at q
          exact q
        · have h3 : ¬ b = 120 := fun z => h2 (by rw [z] <;> rfl)
          rw [if_neg (by intro z; rcases z with z | z; exact z h1; exact h3 z)] at e
          refine ⟨_, rfl, rfl, _, rfl, ?_⟩
          refine ite2 (fun h4 => ?_) (fun h4 => ?_)
          · have h5 : c = 46 := by
              have := of_decide_eq_true h4
              rw [S_d] at this
              simpa using S_eq.mp this
            rw [if_pos h5] at e
            refine ⟨_, rfl, rfl, _, rfl, ?_⟩
            refine ite2 (fun h6 => ?_) (fun h6 => ?_)
            · have h7 : n = 0 := by have := of_decide_eq_true h6; have := V.int.inj this; omega
              refine iteT ?_
              rw [if_pos (.inl h7)] at e
              refine ⟨_, rfl, ?_⟩
              have q := ret _ s3
              rw [← e] at q
              exact q
            · have h7 : ¬ n = 0 := fun z => h6 (by rw [z] <;> rfl)
              obtain ⟨mc, u, cr, cv⟩ := T.vBLOCKS
              refine ⟨_, rfl, z.C, mc, _, u, rfl, cr, cv, rfl, _, rfl, ?_⟩
              refine ite2 (fun h8 => ?_) (fun h8 => ?_)
              · have h9 : k = 3 := by have := of_decide_eq_true h8; have := V.int.inj this; omega
                rw [if_pos (.inr h9)] at e
                refine ⟨_, rfl, ?_⟩
                have q := ret _ s3
                rw [← e] at q
                exact q
              · have h9 : ¬ k = 3 := fun z => h8 (by rw [z] <;> rfl)
                rw [if_neg (by intro z; rcases z with z | z; exact h7 z; exact h9 z)] at e
                refine ⟨_, rfl, _, _, rfl, rfl, ?_⟩
                exact ⟨s3, b, k + 1, 0, _, _, rfl, e⟩
          · have h5 : ¬ c = 46 := fun z => h4 (by rw [z, S_d] <;> exact decide_eq_true rfl)
            rw [if_neg h5] at e
            refine ⟨_, rfl, _, _, rfl, rfl, ?_⟩
            refine ⟨_, rfl, _, _, rfl, rfl, ?_⟩
            exact ⟨s3, b + 1, k, n + 1, _, _, rfl, e⟩
      · rw [decide_eq_false h1]
        refine iteT (iteT ?_)
        rw [if_pos (.inl h1)] at e
        refine ⟨_, rfl, ?_⟩
        have q := ret _ s3
        rw [← e] at q
        exact q
    · rintro σ H1 ⟨s1, b, k, n, x4, x5, rfl, e⟩
      rw [List.drop_length] at e
      unfold pfa at e
      refine ⟨_, rfl, S l, rfl, by rw [S_ln]; omega, ?_⟩
      rw [S_ln]
      have q := ret _ s1
      have g : (pf l).getD l.length = l.length := by
        rw [← e]
        split <;> rfl
      rw [g] at q
      exact q
theorem ok_pattern_fault (T : Txp K mg z) : FnOk P wo K mg base CX0 2 z.a_pattern_fault z.d_pattern_fault ["thing"] (spFault K) := by
  refine T.F_pattern_fault.ok sc_pattern_fault (fun vs H Q E h => ?_) (fun cdv A outer s H vs Q E hr h => ?_)
  · rcases h with ⟨l, rfl, _⟩ | ⟨x, t, rfl, _⟩ <;> rfl
  · have hr1 : Room 1 _ := hr
    have G_has_pattern_form : FnOk P wo K mg base CX0 1 z.a_has_pattern_form z.d_has_pattern_form ["text"] spForm := ok_has_pattern_form T
    have G_first_wrong_sign : FnOk P wo K mg base CX0 1 z.a_first_wrong_sign z.d_first_wrong_sign ["thing"] spFirst := ok_first_wrong_sign T
    refine ⟨_, (pss_cons (ps_if (pt_not (pt_val (pe_callB call_isi (by rfl) T.n_isinstance boot_isinstance (pa_cons (pv 0) (pa_cons (pe_bltn (v := .ty "str") rfl T.n_str (by decide +kernel) rfl) pa_nil)))))
        (pss_one (ps_ret pe_int))
        pss_nil)
      (pss_one (ps_ret (pe_ifExp (pt_val (pe_call G_has_pattern_form hr1 rfl T.g_has_pattern_form T.k_has_pattern_form T.b_has_pattern_form .nil pass0 (pa_cons (pv 0) pa_nil))) pe_non (pe_call G_first_wrong_sign hr1 rfl T.g_first_wrong_sign T.k_first_wrong_sign T.b_first_wrong_sign .nil pass0 (pa_cons (pv 0) pa_nil)))))), ?_⟩
    rcases h with ⟨l, rfl, hl, ret⟩ | ⟨x, t, rfl, ty, kt, ret⟩
    · refine ⟨_, rfl, _, _, _, _, true, rfl, .ty "str", .base (.str _), kit_ty (by decide +kernel), _, rfl, ?_⟩
      refine iteF ?_
      refine ⟨_, rfl, l, rfl, hl, fun H1 s1 => ⟨_, rfl, ?_⟩⟩
      by_cases e : pf l = none
      · rw [decide_eq_true e]
        refine iteT ?_
        have q := ret _ s1
        rw [e] at q
        exact q
      · rw [decide_eq_false e]
        refine iteF ?_
        refine ⟨_, rfl, l, rfl, hl, fun H2 s2 => ?_⟩
        obtain ⟨k, ek⟩ := Option.ne_none_iff_exists'.mp e
        have q := ret _ (s1.trans s2)
        rw [ek] at q ⊢
        exact q
    · refine ⟨_, rfl, _, _, _, _, false, rfl, .ty "str", ty, kt, _, rfl, ?_⟩
      exact iteT ret

end
end Fb
set_option maxRecDepth 100000
set_option maxHeartbeats 4000000
namespace Fb
open PySem PySem.Spec PyProof.Rows L2
open SX (S)
section
variable {P : Program} {wo : World} {K : PySem.W.Frag} {mg : Str → Option Value} {base : Heap} {z : Pz}
theorem ok_need_pattern (T : Txp K mg z) : FnOk P wo K mg base CX0 3 z.a_need_pattern z.d_need_pattern ["thing"] spNeed := by
  refine T.F_need_pattern.ok sc_need_pattern (fun vs H Q E h => ?_) (fun cdv A outer s H vs Q E hr h => ?_)
  · obtain ⟨l, rfl, _⟩ := h
    rfl
  · obtain ⟨l, rfl, hl, hp, ret⟩ := h
    have hr1 : Room 2 _ := hr
    have G_pattern_fault : FnOk P wo K mg base CX0 2 z.a_pattern_fault z.d_pattern_fault ["thing"] (spFault K) := ok_pattern_fault T
    refine ⟨_, (pss_cons (ps_set (i := 1) sc_need_pattern.nd rfl (Or.inl rfl) (pe_call G_pattern_fault hr1 rfl T.g_pattern_fault T.k_pattern_fault T.b_pattern_fault .nil pass0 (pa_cons (pv 0) pa_nil)))
      (pss_one (ps_if (pt_cmpR op_notN (pv 1) pe_non (nomark _))
        (pss_one ps_no)
        pss_nil))), ?_⟩
    refine ⟨_, rfl, .inl ⟨l, rfl, hl, fun H' s => ?_⟩⟩
    rw [hp]
    refine ⟨_, rfl, rfl, _, rfl, ?_⟩
    refine iteNS (show optI none = .non from rfl) ?_
    exact ret _ s
theorem ok_sizes_of (T : Txp K mg z) : FnOk P wo K mg base CX0 2 z.a_sizes_of z.d_sizes_of ["text"] spSizes := by
  refine T.F_sizes_of.ok sc_sizes_of (fun vs H Q E h => ?_) (fun cdv A outer s H vs Q E hr h => ?_)
  · obtain ⟨l, rfl, _⟩ := h
    rfl
  · obtain ⟨l, rfl, hl, ret⟩ := h
    have hz : 1000 + 2 ≤ sizeLine := by decide
    have hsl := szA_len l 0
    have hlen : (Txt.split (S l) ".").length = (szs l).length := by rw [← split_lens l, List.length_map]
    have key : ∀ (i : Nat) (y : Str), (Txt.split (S l) ".")[i]? = some y → (szs l)[i]? = some y.length := fun i y e => by
      rw [← split_lens l, List.getElem?_map, e] <;> rfl
    refine ⟨_, (pss_one (ps_ret (pe_callTy call_tuple_of (by rfl) T.n_tuple (by decide +kernel) (pa_cons (by refine' pe_lc (own := [("part", 1)]) (tt := tYes) rfl sc_sizes_of.nd ?hi (blkOk_by (N := ["text", "part"]) (sc := defScope s_sizes_of) (by first | decide +kernel | kernel_rfl | rfl)) ?hg ?ht ?he (by intro _; rfl); (case hi => exact (pi_list (pe_bm PySem.F.plainAttrs_str PySem.F.slot_str_split PySem.F.type_str_split mt_split (pv 0) (pa_cons pe_str pa_nil)))); (case hg => exact fun _ _ _ _ _ => (pg_name (i := 1) sc_sizes_of.nd rfl (Or.inl rfl))); (case ht => exact fun _ _ _ _ _ => pts_nil); (case he => exact fun _ _ _ _ _ => (pe_callB call_len_str (by rfl) T.n_len (by decide +kernel) (pa_cons (pv 1) pa_nil)))) pa_nil)))), ?_⟩
    refine ⟨_, rfl, rfl, S l, ".", rfl, rfl, by decide, by rw [S_ln]; omega, fun p hp => ?_⟩
    refine ⟨p, rfl, ⟨_, SqL.of upd_same⟩, fun D hD => ?_⟩
    have s1 : Same H (upd H p (.lst ((Txt.split (S l) ".").map V.str))) := smN (Same.refl _) hp
    have few : (szs l).length ≤ 1001 := by unfold szs; omega
    refine lc_outL (xs := (Txt.split (S l) ".").map V.str) (outM fun i => V.int ((szs l).getD i 0 : Nat)) hD (SqL.of upd_same) outM_0 (fun i hi => by
        rw [outM_l]
        rw [List.length_map, hlen] at hi
        exact Nat.lt_of_lt_of_le (Nat.lt_of_lt_of_le hi few) (by decide)) (fun i x H2 Kc K0 e s2 kc k0 => ?_) (fun H2 s2 e2 => ?_)
    · rw [List.getElem?_map] at e
      cases q : (Txt.split (S l) ".")[i]? with
      | none => rw [q] at e; cases e
      | some y =>
        rw [q] at e
        cases e
        have e3 := key i y q
        have hy : y.length ≤ 1000 := by
          have m := PyProof.Rows.part_short (List.mem_of_getElem? q)
          rw [S_ln l] at m
          omega
        refine ⟨rfl, yes1 ?_⟩
        refine ⟨_, rfl, y, rfl, Nat.le_trans hy (by decide), kc _ _ (Same.refl _) ?_⟩
        rw [outM_s, List.getD_eq_getElem?_getD, e3] <;> rfl
    · have e4 : outM (fun i => V.int ((szs l).getD i 0 : Nat)) ((Txt.split (S l) ".").map V.str).length = nums (szs l) := outM_all (by rw [List.length_map, hlen]; unfold nums; rw [List.length_map]) fun i hi => by
        unfold nums
        rw [List.length_map, hlen] at hi
        rw [List.getElem?_map, List.getD_eq_getElem?_getD, List.getElem?_eq_getElem hi] <;> rfl
      rw [e4] at e2
      refine ⟨D, _, rfl, .inl ⟨SqL.of e2, fun q hq => ?_⟩⟩
      exact ret q _ (smN (s1.trans s2) hq) ((s1.trans s2).free hq) upd_same
theorem ok_need_sizes (T : Txp K mg z) : FnOk P wo K mg base (L2.CX P wo) 4 z.a_need_sizes z.d_need_sizes ["thing", "sizes"] (spNeedS K z.cUnlike) := by
  refine T.F_need_sizes.okX sc_need_sizes (fun vs H Q E h => ?_) (fun cdv A outer s H vs Q E hr h => ?_)
  · obtain ⟨l, t, ns, rfl, _⟩ := h
    rfl
  · obtain ⟨l, t, ns, rfl, hl, hp, ht, ret⟩ := h
    have hr2 : Room 3 _ := hr
    have hr1 : Room 2 _ := hr.mono (by decide)
    have hu64 : (A.deeper (envOfC "need_sizes" (defScope s_need_sizes) s.heap.objs.size z.a_need_sizes cdv)).units + 64 < cLine := hr.units
    have G_need_pattern : FnOk P wo K mg base CX0 3 z.a_need_pattern z.d_need_pattern ["thing"] spNeed := ok_need_pattern T
    have G_sizes_of : FnOk P wo K mg base CX0 2 z.a_sizes_of z.d_sizes_of ["text"] spSizes := ok_sizes_of T
    refine ⟨_, (pss_cons (ps_expr (pe_call G_need_pattern hr2 rfl T.g_need_pattern T.k_need_pattern T.b_need_pattern .nil pass0 (pa_cons (pv 0) pa_nil)))
      (pss_one (ps_if (pt_cmpR (op_neD hu64) (pe_call G_sizes_of hr1 rfl T.g_sizes_of T.k_sizes_of T.b_sizes_of .nil pass0 (pa_cons (pv 0) pa_nil)) (pv 1) (nomark _))
        (pss_one (ps_raise rfl (takes_of rfl rfl rfl rfl) (pmk_own PySem.F.excBase_ValueError T.eUnlike T.xUnlike.g T.xUnlike.kp (raises_own T.xUnlike.xc.sb T.xUnlike.ty) rfl)))
        pss_nil))), ?_⟩
    refine ⟨_, rfl, l, rfl, Nat.le_trans hl (by decide), hp, fun H1 s1 => ?_⟩
    refine ⟨_, rfl, l, rfl, hl, fun p H2 s2 hn h2 => ?_⟩
    have s12 := s1.trans s2
    refine ⟨_, rfl, _, _, .tup (SqT.of h2) (dp_nums _), .tup (sqT_same s12 ht) (dp_nums _), shaped_tup (lay_nums _), shaped_tup (lay_nums _), _, rfl, ?_⟩
    rw [eqv_numT]
    by_cases e : szs l = ns
    · rw [if_pos e] at ret
      rw [decide_eq_true e]
      exact iteF (ret _ s12)
    · rw [if_neg e] at ret
      rw [decide_eq_false e]
      exact iteT (ret _ s12)
theorem ok_bits_of (T : Txp K mg z) : FnOk P wo K mg base CX0 2 z.a_bits_of z.d_bits_of ["text"] spBits := by
  refine Fun.okT T.F_bits_of sc_bits_of (by decide +kernel) (by decide) (fun vs H Q E h => ?_) (fun cdv A outer s H vs Q E hr h => ?_)
  · obtain ⟨l, rfl, _⟩ := h
    rfl
  · obtain ⟨l, rfl, hl, ret⟩ := h
    refine ⟨_, CwR.psst_one (CwR.pst_ret (CwR.pet_replC (pv 0))), ?_⟩
    refine ⟨_, rfl, S l, rfl, ?_, ?_⟩
    · rw [S_ln]
      show l.length + (l.length + 1) * 0 ≤ 16777216
      omega
    · rw [replace_dots]
      exact ret
theorem ok_lies_below (T : Txp K mg z) : FnOk P wo K mg base CX0 2 z.a_lies_below z.d_lies_below ["one", "other"] spBelow := by
  refine T.F_lies_below.ok sc_lies_below (fun vs H Q E h => ?_) (fun cdv A outer s H vs Q E hr h => ?_)
  · obtain ⟨l, m, rfl, _⟩ := h
    rfl
  · obtain ⟨l, m, rfl, hl, ret⟩ := h
    refine ⟨_, (pss_one (ps_ret (pe_callB (cr_all rfl) (by rfl) T.n_all (by decide +kernel) (pa_cons (by refine' pe_lc (own := [("a", 2), ("b", 3)]) (tt := tYes) (g := (gTup K 2 (gCons (gName 2) (gCons (gName 3) gNil)))) rfl sc_lies_below.nd ?hi (blkOk_by (N := ["one", "other", "a", "b"]) (sc := defScope s_lies_below) (by first | decide +kernel | kernel_rfl | rfl)) ?hg ?ht ?he (by intro _; rfl); (case hi => exact (pi_zipS2 rfl T.n_zip (pa_cons (pv 0) (pa_cons (pv 1) pa_nil)))); (case hg => exact fun _ _ _ _ _ => (pg_tup rfl (pgs_cons (pg_name (i := 2) sc_lies_below.nd rfl (Or.inl rfl) (.inr rfl)) (pgs_cons (pg_name (i := 3) sc_lies_below.nd rfl (Or.inl rfl) (.inr rfl)) pgs_nil)))); (case ht => exact fun _ _ _ _ _ => pts_nil); (case he => exact fun _ _ _ _ _ => (pe_cmpR op_le_str (pv 2) (pv 3) (nomark _)))) pa_nil)))), ?_⟩
    refine ⟨_, rfl, _, rfl, S l, S m, rfl, fun D hD => ?_⟩
    rw [S_sz, S_sz]
    refine lc_outT (outM fun i => V.bl (decide (l.getD i 0 ≤ m.getD i 0))) hD outM_0 (fun i hi => by rw [outM_l]; exact small1 i (by omega)) (fun i Tu H2 Kc K0 lt s2 hT kc k0 => ?_) (fun H2 s2 e2 => ?_)
    · have h1 : l[i]? = some l[i] := List.getElem?_eq_getElem (by omega)
      have h2 : m[i]? = some m[i] := List.getElem?_eq_getElem (by omega)
      have d1 : l.getD i 0 = l[i] := by rw [List.getD_eq_getElem?_getD, h1] <;> rfl
      have d2 : m.getD i 0 = m[i] := by rw [List.getD_eq_getElem?_getD, h2] <;> rfl
      refine ⟨Tu, [.str (S [l[i]]), .str (S [m[i]])], rfl, SqT.of (by rw [hT]; rw [show sgn (S l) i = S [l[i]] from S_sgn h1, show sgn (S m) i = S [m[i]] from S_sgn h2]), rfl, ?_⟩
      refine ⟨_, _, rfl, ?_⟩
      refine ⟨_, _, rfl, ?_⟩
      refine ⟨rfl, ?_⟩
      refine ⟨rfl, yes1 ?_⟩
      refine ⟨_, rfl, _, rfl, _, _, rfl, rfl, kc _ _ (Same.refl _) ?_⟩
      show outM _ (i + 1) = outM _ i ++ [V.bl (!decide (([m[i]] : List Nat) < [l[i]]))]
      rw [outM_s, sign_le, d1, d2]
    · have e4 : outM (fun i => V.bl (decide (l.getD i 0 ≤ m.getD i 0))) (min l.length m.length) = (List.zipWith (fun a b => decide (a ≤ b)) l m).map V.bl := outM_all (by rw [List.length_map, List.length_zipWith]) fun i hi => by
        rw [List.getElem?_map, List.getElem?_zipWith, List.getD_eq_getElem?_getD, List.getD_eq_getElem?_getD, List.getElem?_eq_getElem (show i < l.length by omega), List.getElem?_eq_getElem (show i < m.length by omega)] <;> rfl
      rw [e4] at e2
      exact ⟨D, _, rfl, SqL.of e2, ret _ s2⟩
theorem ok_unlike_sign (T : Txp K mg z) : FnOk P wo K mg base CX0 2 z.a_unlike_sign z.d_unlike_sign ["a", "b"] spUnS := by
  refine T.F_unlike_sign.ok sc_unlike_sign (fun vs H Q E h => ?_) (fun cdv A outer s H vs Q E hr h => ?_)
  · obtain ⟨a, b, rfl, _⟩ := h
    rfl
  · obtain ⟨a, b, rfl, ret⟩ := h
    refine ⟨_, (pss_cons (ps_if (pt_cmpR op_ne (pv 0) (pv 1) (nomark _))
        (pss_one (ps_ret pe_str))
        pss_nil)
      (pss_one (ps_ret (pe_ifExp (pt_cmpR op_eq (pv 0) pe_str (nomark _)) pe_str pe_str)))), ?_⟩
    unfold fXor at ret
    refine ⟨_, rfl, _, rfl, rfl, _, rfl, ?_⟩
    by_cases e : a = b
    · subst e
      rw [if_neg (by simp)] at ret
      refine iteNS rfl ?_
      refine ⟨_, rfl, rfl, _, rfl, ?_⟩
      refine ite2 (fun h => ?_) (fun h => ?_)
      · have h1 : a = 46 := by
          have := of_decide_eq_true h
          rw [S_d] at this
          simpa using S_eq.mp this
        rw [if_pos h1] at ret
        rw [S_d]
        exact ret
      · have h1 : ¬ a = 46 := fun z => h (by rw [z, S_d] <;> exact decide_eq_true rfl)
        rw [if_neg h1] at ret
        rw [S_0]
        exact ret
    · rw [if_pos e] at ret
      have e2 : ¬ (V.str (S [a]) = V.str (S [b])) := fun h => e (by simpa using S_eq.mp h)
      rw [decide_eq_false e2]
      refine iteT ?_
      rw [S_1]
      exact ret
end
/-! instances of Pattern -/
def ptF (l : List Nat) (t : Addr) : List (Str × V) := [("_text", .str (S l)), ("_bits", .str (S (l.filter (fun c => c != 46)))), ("_sizes", .ref t)]
def PtI (C : Addr) (H : Hp) (a : Addr) (l : List Nat) : Prop := IsP l ∧ ∃ dx t, H a = some (.ins C dx (ptF l t)) ∧ H t = some (.tup (nums (szs l)))
theorem PtI.same {C : Addr} {H H' : Hp} {a : Addr} {l : List Nat} (h : PtI C H a l) (s : Same H H') : PtI C H' a l := by
  obtain ⟨hp, dx, t, h1, h2⟩ := h
  exact ⟨hp, dx, t, s _ _ h1, s _ _ h2⟩
theorem lkT {l : List Nat} {t : Addr} : (ptF l t).lookup ("_text" : Str) = some (.str (S l)) := by simp [ptF, List.lookup]
theorem ne_bt : (("_bits" : Str) == "_text") = false := by decide +kernel
theorem ne_st : (("_sizes" : Str) == "_text") = false := by decide +kernel
theorem ne_sb : (("_sizes" : Str) == "_bits") = false := by decide +kernel
theorem lkB {l : List Nat} {t : Addr} : (ptF l t).lookup ("_bits" : Str) = some (.str (S (l.filter (fun c => c != 46)))) := by simp [ptF, List.lookup, ne_bt]
theorem lkS {l : List Nat} {t : Addr} : (ptF l t).lookup ("_sizes" : Str) = some (.ref t) := by simp [ptF, List.lookup, ne_st, ne_sb]
theorem ne_tb : ¬ (("_text" : Str) = "_bits") := by decide +kernel
theorem ne_ts : ¬ (("_text" : Str) = "_sizes") := by decide +kernel
theorem ne_bs : ¬ (("_bits" : Str) = "_sizes") := by decide +kernel
theorem put3 {l : List Nat} {t : Addr} : putF "_sizes" (.ref t) (putF "_bits" (.str (S (l.filter (fun c => c != 46)))) (putF "_text" (.str (S l)) [])) = ptF l t := by
  simp [putF, ptF, ne_tb, ne_ts, ne_bs, Ne.symm]
def spInit (C : Addr) : Sp := fun vs H Q _ => ∃ a dx l, vs = [.ref a, .str (S l)] ∧ IsP l ∧ H a = some (.ins C dx []) ∧ ∀ t H', (∀ b o, b ≠ a → H b = some o → H' b = some o) → H' a = some (.ins C dx (ptF l t)) → H' t = some (.tup (nums (szs l))) → Q .non H'
def spStrP (C : Addr) : Sp := fun vs H Q _ => ∃ a l, vs = [.ref a] ∧ PtI C H a l ∧ Q (.str (S l)) H
def spGetS (C : Addr) : Sp := fun vs H Q _ => ∃ a l, vs = [.ref a] ∧ PtI C H a l ∧ ∀ t, H t = some (.tup (nums (szs l))) → Q (.ref t) H
def spEqP (C : Addr) : Sp := fun vs H Q _ => ∃ a l y, vs = [.ref a, y] ∧ PtI C H a l ∧ ((∃ b m, y = .ref b ∧ PtI C H b m ∧ Q (.bl (decide (l = m))) H) ∨ ((y = .non ∨ ∃ w, y = .str w) ∧ Q (.bl false) H))
def spCmpP (C cU : Addr) (r : List Nat → List Nat → Bool) : Sp := fun vs H Q E => ∃ a b l m, vs = [.ref a, .ref b] ∧ PtI C H a l ∧ PtI C H b m ∧ (if szs m = szs l then ∀ H', Same H H' → Q (.bl (r l m)) H' else ∀ H', Same H H' → E (.ref cU) none H')
def spBinP (C cU : Addr) (f : Nat → Nat → Nat) : Sp := fun vs H Q E => ∃ a b l m, vs = [.ref a, .ref b] ∧ PtI C H a l ∧ PtI C H b m ∧ (if szs m = szs l then ∀ p H', Same H H' → H p = none → PtI C H' p (zw f l m) → Q (.ref p) H' else ∀ H', Same H H' → E (.ref cU) none H')
theorem mk_pat {C : Addr} {H1 : Hp} {Q : VK} {E : XK} {l : List Nat} (hp : IsP l) (k : ∀ p H', Same H1 H' → H1 p = none → PtI C H' p l → Q (.ref p) H') :
    ∀ x dx, H1 x = none → H1 dx = none → dx ≠ x → spInit C [.ref x, .str (S l)] (upd (upd H1 dx (.own x)) x (.ins C dx [])) (fun v H2 => v = .non ∧ Q (.ref x) H2) E := by
  intro x dx hx hd ne
  refine ⟨x, dx, l, rfl, hp, upd_same, fun t H' keep ha ht => ⟨rfl, k x H' (fun b o e => keep b o (ne_of_none e hx) ?_) hx ⟨hp, dx, t, ha, ht⟩⟩⟩
  rw [upd_ne (ne_of_none e hx), upd_ne (ne_of_none e hd)]
  exact e
def rLt (l m : List Nat) : Bool := decide (l ≠ m) && below l m
def rGe (l m : List Nat) : Bool := below m l
def rGt (l m : List Nat) : Bool := decide (l ≠ m) && below m l
theorem kit_self {K : PySem.W.Frag} {C : Addr} : PySem.W.kitOne K (.ref C) (.ref C) = some true := by
  unfold PySem.W.kitOne
  simp
section
variable {K : PySem.W.Frag} {mg : Str → Option Value} {z : Pz}
theorem kit_sub (T : Txp K mg z) {n : String} (h : PySem.W.subIn K (.type n) (.ref z.C) = some false) : PySem.W.kitOne K (.type n) (.ref z.C) = some false := by
  obtain ⟨cd, c1, c2⟩ := T.ic
  unfold PySem.W.kitOne
  have e1 : (Value.type n == Value.ref z.C) = false := by rfl
  rw [e1, if_neg Bool.false_ne_true]
  unfold PySem.W.kitCls
  have e2 : ((PySem.W.clsIn K z.C).isSome && PySem.W.typeIn K (.ref z.C) == some (.type "type")) = true := by
    rw [c1, T.tyC] <;> rfl
  show (if ((PySem.W.clsIn K z.C).isSome && PySem.W.typeIn K (.ref z.C) == some (.type "type")) = true then PySem.W.subIn K (.type n) (.ref z.C) else none) = _
  rw [if_pos e2]
  exact h
theorem sub_str {C : Addr} : PySem.W.subIn K (.type "str") (.ref C) = some false := by
  have e : fastBuiltinMro "str" = some [.type "str", .type "object"] := by decide +kernel
  show (fastBuiltinMro "str").map (·.contains (.ref C)) = some false
  rw [e]
  first
    | rfl
    | simp
theorem PtI.ty (T : Txp K mg z) {H : Hp} {a : Addr} {l : List Nat} (h : PtI z.C H a l) : TyX K H (.ref a) (.ref z.C) := by
  obtain ⟨hp, dx, t, h1, h2⟩ := h
  exact .base (.ins h1 T.cls T.ca T.xb.hn T.xb.ht T.mo)
end
section
variable {P : Program} {wo : World} {K : PySem.W.Frag} {mg : Str → Option Value} {base : Heap} {z : Pz}
theorem ok_init (T : Txp K mg z) : FnOk P wo K mg base CX0 4 z.a_init z.d_init ["self", "text"] (spInit z.C) := by
  refine T.F_init.ok sc_Pattern_init (fun vs H Q E h => ?_) (fun cdv A outer s H vs Q E hr h => ?_)
  · obtain ⟨a, dx, l, rfl, _⟩ := h
    rfl
  · obtain ⟨a, dx, l, rfl, hp, ha, ret⟩ := h
    have hr2 : Room 3 _ := hr
    have hr1 : Room 2 _ := hr.mono (by decide)
    have hl := hp.len
    have G_need_pattern : FnOk P wo K mg base CX0 3 z.a_need_pattern z.d_need_pattern ["thing"] spNeed := ok_need_pattern T
    have G_sizes_of : FnOk P wo K mg base CX0 2 z.a_sizes_of z.d_sizes_of ["text"] spSizes := ok_sizes_of T
    have G_bits_of : FnOk P wo K mg base CX0 2 z.a_bits_of z.d_bits_of ["text"] spBits := ok_bits_of T
    refine ⟨_, (pss_cons (ps_expr (pe_call G_need_pattern hr2 rfl T.g_need_pattern T.k_need_pattern T.b_need_pattern .nil pass0 (pa_cons (pv 1) pa_nil)))
      (pss_cons (ps_fld (pv 0) (pv 1) rfl)
      (pss_cons (ps_fld (pv 0) (pe_call G_bits_of hr1 rfl T.g_bits_of T.k_bits_of T.b_bits_of .nil pass0 (pa_cons (pv 1) pa_nil)) rfl)
      (pss_one (ps_fld (pv 0) (pe_call G_sizes_of hr1 rfl T.g_sizes_of T.k_sizes_of T.b_sizes_of .nil pass0 (pa_cons (pv 1) pa_nil)) rfl))))), ?_⟩
    refine ⟨_, rfl, l, rfl, Nat.le_trans hl (by decide), hp.pf, fun H1 s1 => ?_⟩
    refine ⟨_, rfl, _, rfl, a, z.C, dx, _, rfl, s1 _ _ ha, T.cls, T.na_text, by decide, ?_⟩
    refine ⟨_, rfl, l, rfl, by omega, ?_⟩
    refine ⟨_, rfl, a, z.C, dx, _, rfl, upd_same, T.cls, T.na_bits, ?_, ?_⟩
    · exact Nat.lt_of_le_of_lt (length_putF _ _ _) (by decide)
    refine ⟨_, rfl, l, rfl, by omega, fun t H2 s2 hn ht => ?_⟩
    refine ⟨_, rfl, a, z.C, dx, _, rfl, s2 _ _ upd_same, T.cls, T.na_sizes, ?_, ?_⟩
    · exact Nat.lt_of_le_of_lt (length_putF _ _ _) (Nat.lt_of_le_of_lt (Nat.succ_le_succ (length_putF _ _ _)) (by decide))
    have nt : t ≠ a := fun e => by
      subst e
      have h2 := s2 _ _ upd_same
      rw [ht] at h2
      cases h2
    rw [put3]
    refine ret t _ (fun b o nb e => ?_) upd_same (by rw [upd_ne nt]; exact ht)
    rw [upd_ne nb]
    refine s2 _ _ ?_
    rw [upd_ne nb, upd_ne nb]
    exact s1 _ _ e
theorem ok_str (T : Txp K mg z) : FnOk P wo K mg base CX0 2 z.a_str z.d_str ["self"] (spStrP z.C) := by
  refine T.F_str.ok sc_Pattern_str (fun vs H Q E h => ?_) (fun cdv A outer s H vs Q E hr h => ?_)
  · obtain ⟨a, l, rfl, _⟩ := h
    rfl
  · obtain ⟨a, l, rfl, ⟨hp, dx, t, h1, h2⟩, ret⟩ := h
    refine ⟨_, (pss_one (ps_ret (pe_callTy SkE.call_str_str (by rfl) T.n_str (by decide +kernel) (pa_cons (pe_fld (pv 0) rfl) pa_nil)))), ?_⟩
    exact ⟨_, rfl, a, z.C, dx, _, _, rfl, h1, T.cls, T.na_text, lkT, _, rfl, ret⟩
end
end Fb
set_option maxRecDepth 100000
set_option maxHeartbeats 4000000
namespace Fb
open PySem PySem.Spec PyProof.Rows L2
open SX (S)
/-- is this value a whole number? -/
def Wh (K : PySem.W.Frag) (H : Hp) (x : V) (r : Option Int) : Prop := (∃ i, x = .int i ∧ r = some i) ∨ (∃ b, x = .bl b ∧ r = none) ∨ ∃ t, TyX K H x t ∧ PySem.W.kitOne K t (.type "int") = some false ∧ r = none
theorem Wh.same {K : PySem.W.Frag} {H H' : Hp} {x : V} {r : Option Int} (s : Same H H') (h : Wh K H x r) : Wh K H' x r := by
  rcases h with h | h | ⟨t, h1, h2⟩
  · exact .inl h
  · exact .inr (.inl h)
  · exact .inr (.inr ⟨t, tyX_same s h1, h2⟩)
/-- .. from 0 to m - 1? -/
def inR (m : Int) : Option Int → Bool
  | some i => decide (0 ≤ i) && decide (i < m)
  | none => false
def spWhole (K : PySem.W.Frag) : Sp := fun vs H Q _ => ∃ x r, vs = [x] ∧ Wh K H x r ∧ Q (.bl r.isSome) H
def spNumber (K : PySem.W.Frag) : Sp := fun vs H Q _ => ∃ x m r, vs = [x, .int m] ∧ Wh K H x r ∧ Q (.bl (inR m r)) H
def spNeedB (K : PySem.W.Frag) (cB : Addr) : Sp := fun vs H Q E => ∃ q m xs rs, vs = [.ref q, .int m] ∧ H q = some (.lst xs) ∧ Paired (Wh K H) xs rs ∧ xs.length ≤ 1000 ∧ (if rs.all (inR m) = true then ∀ H', Same H H' → Q .non H' else ∀ H', Same H H' → E (.ref cB) none H')
theorem pairedAt {α β : Type} {R : α → β → Prop} : ∀ {a : List α} {c : List β} {i : Nat} {x : α}, Paired R a c → a[i]? = some x → ∃ y, c[i]? = some y ∧ R x y
  | _, _, _, _, .nil, e => by simp at e
  | _, _, 0, _, .cons r _, e => by simp at e; subst e; exact ⟨_, rfl, r⟩
  | _, _, i + 1, _, .cons _ t, e => by
    obtain ⟨x, h1, h2⟩ := pairedAt (i := i) t (by simpa using e)
    exact ⟨x, by simpa using h1, h2⟩
section
variable {P : Program} {wo : World} {K : PySem.W.Frag} {mg : Str → Option Value} {base : Heap} {z : Pz}
theorem ok_is_whole (T : Txp K mg z) : FnOk P wo K mg base CX0 2 z.a_is_whole z.d_is_whole ["thing"] (spWhole K) := by
  refine T.F_is_whole.ok sc_is_whole (fun vs H Q E h => ?_) (fun cdv A outer s H vs Q E hr h => ?_)
  · obtain ⟨x, r, rfl, _⟩ := h
    rfl
  · obtain ⟨x, r, rfl, hw, ret⟩ := h
    refine ⟨_, (pss_one (ps_ret (pe_and (pe_callB call_isi (by rfl) T.n_isinstance boot_isinstance (pa_cons (pv 0) (pa_cons (pe_bltn (v := .ty "int") rfl T.n_int (by decide +kernel) rfl) pa_nil))) (pe_one (pe_not (pe_callB call_isi (by rfl) T.n_isinstance boot_isinstance (pa_cons (pv 0) (pa_cons (pe_bltn (v := .ty "bool") rfl T.n_bool (by decide +kernel) rfl) pa_nil)))))))), ?_⟩
    rcases hw with ⟨i, rfl, rfl⟩ | ⟨b, rfl, rfl⟩ | ⟨t, h1, h2, rfl⟩
    · refine ⟨_, rfl, _, _, _, _, true, rfl, .ty "int", .base (.int _), kit_ty (by decide +kernel), true, rfl, iteT ?_⟩
      exact ⟨_, rfl, _, _, _, _, false, rfl, .ty "bool", .base (.int _), kit_ty (by decide +kernel), false, rfl, ret⟩
    · refine ⟨_, rfl, _, _, _, _, true, rfl, .ty "int", .base (.bl _), kit_ty (by decide +kernel), true, rfl, iteT ?_⟩
      exact ⟨_, rfl, _, _, _, _, true, rfl, .ty "bool", .base (.bl _), kit_ty (by decide +kernel), true, rfl, ret⟩
    · exact ⟨_, rfl, _, _, _, _, false, rfl, .ty "int", h1, h2, false, rfl, iteF ret⟩
theorem ok_is_number (T : Txp K mg z) : FnOk P wo K mg base CX0 3 z.a_is_number z.d_is_number ["thing", "many"] (spNumber K) := by
  refine T.F_is_number.ok sc_is_number (fun vs H Q E h => ?_) (fun cdv A outer s H vs Q E hr h => ?_)
  · obtain ⟨x, m, r, rfl, _⟩ := h
    rfl
  · obtain ⟨x, m, r, rfl, hw, ret⟩ := h
    have hr1 : Room 2 _ := hr
    have G_is_whole : FnOk P wo K mg base CX0 2 z.a_is_whole z.d_is_whole ["thing"] (spWhole K) := ok_is_whole T
    refine ⟨_, (pss_one (ps_ret (pe_and (pe_call G_is_whole hr1 rfl T.g_is_whole T.k_is_whole T.b_is_whole .nil pass0 (pa_cons (pv 0) pa_nil)) (pe_one (pe_chain op_le op_lt pe_int (pv 0) (pv 1)))))), ?_⟩
    refine ⟨_, rfl, x, r, rfl, hw, _, rfl, ?_⟩
    cases r with
    | none => exact iteF ret
    | some i =>
      refine iteT ?_
      obtain rfl : x = .int i := by
        rcases hw with ⟨j, rfl, e⟩ | ⟨b, rfl, e⟩ | ⟨t, h1, h2, e⟩
        · cases e; rfl
        · cases e
        · cases e
      refine ⟨_, rfl, 0, i, rfl, rfl, _, rfl, ?_⟩
      by_cases h0 : 0 ≤ i
      · rw [decide_eq_true h0]
        refine iteT ⟨_, rfl, i, m, rfl, rfl, ?_⟩
        have e : inR m (some i) = decide (i < m) := by show (decide (0 ≤ i) && decide (i < m)) = _; rw [decide_eq_true h0] <;> simp
        rw [e] at ret
        exact ret
      · rw [decide_eq_false h0]
        refine iteF ?_
        have e : inR m (some i) = false := by show (decide (0 ≤ i) && decide (i < m)) = _; rw [decide_eq_false h0] <;> simp
        rw [e] at ret
        exact ret
theorem ok_need_bits (T : Txp K mg z) : FnOk P wo K mg base (L2.CX P wo) 4 z.a_need_bits z.d_need_bits ["thing", "many"] (spNeedB K z.cNoBit) := by
  refine T.F_need_bits.okX sc_need_bits (fun vs H Q E h => ?_) (fun cdv A outer s H vs Q E hr h => ?_)
  · obtain ⟨q, m, xs, rs, rfl, _⟩ := h
    rfl
  · obtain ⟨q, m, xs, rs, rfl, hq, hp, hl, ret⟩ := h
    have hr2 : Room 3 _ := hr
    have G_is_number : FnOk P wo K mg base CX0 3 z.a_is_number z.d_is_number ["thing", "many"] (spNumber K) := ok_is_number T
    refine ⟨_, (pss_one (ps_if (PW.pt (pw_or (pt_not (pt_val (pe_callB call_isi (by rfl) T.n_isinstance boot_isinstance (pa_cons (pv 0) (pa_cons (pe_bltn (v := .ty "list") rfl T.n_list (by decide +kernel) rfl) pa_nil))))) (pw_or1 (pt_not (pt_val (pe_callB (cr_all rfl) (by rfl) T.n_all (by decide +kernel) (pa_cons (by refine' pe_lc (own := [("bit", 2)]) (tt := tYes) rfl sc_need_bits.nd ?hi (blkOk_by (N := ["thing", "many", "bit"]) (sc := defScope s_need_bits) (by first | decide +kernel | kernel_rfl | rfl)) ?hg ?ht ?he (by intro _; rfl); (case hi => exact (pi_list (pv 0))); (case hg => exact fun _ _ _ _ _ => (pg_name (i := 2) sc_need_bits.nd rfl (Or.inl rfl))); (case ht => exact fun _ _ _ _ _ => pts_nil); (case he => exact fun _ _ _ _ _ => (pe_call G_is_number hr2 rfl T.g_is_number T.k_is_number T.b_is_number .nil pass0 (pa_cons (pv 2) (pa_cons (pv 1) pa_nil))))) pa_nil)))))))
        (pss_one (ps_raise rfl (takes_of rfl rfl rfl rfl) (pmk_own PySem.F.excBase_ValueError T.eNoBit T.xNoBit.g T.xNoBit.kp (raises_own T.xNoBit.xc.sb T.xNoBit.ty) rfl)))
        pss_nil)), ?_⟩
    refine ⟨_, rfl, _, _, _, _, true, rfl, .ty "list", .base (.lst hq), kit_ty (by decide +kernel), true, rfl, ?_⟩
    refine iteF ?_
    refine ⟨_, rfl, q, rfl, ⟨_, SqL.of hq⟩, fun D hD => ?_⟩
    refine lc_outL (xs := xs) (outM fun i => V.bl (inR m (rs.getD i none))) hD (SqL.of hq) outM_0 (fun i hi => by rw [outM_l]; exact small1 i (by omega)) (fun i x H2 Kc K0 e s2 kc k0 => ?_) (fun H2 s2 e2 => ?_)
    · obtain ⟨r, er, hr⟩ := pairedAt hp e
      have ed : rs.getD i none = r := by rw [List.getD_eq_getElem?_getD, er] <;> rfl
      refine ⟨rfl, yes1 ?_⟩
      refine ⟨_, rfl, _, rfl, x, m, r, rfl, hr.same s2, kc _ _ (Same.refl _) ?_⟩
      rw [outM_s, ed]
    · have lr : xs.length = rs.length := hp.length
      have e3 : outM (fun i => V.bl (inR m (rs.getD i none))) xs.length = (rs.map (inR m)).map V.bl := outM_all (by rw [List.length_map, List.length_map, lr]) fun i hi => by
        have : rs[i]? = some rs[i] := List.getElem?_eq_getElem (by omega)
        rw [List.getElem?_map, List.getElem?_map, List.getD_eq_getElem?_getD, this] <;> rfl
      rw [e3] at e2
      refine ⟨D, rs.map (inR m), rfl, SqL.of e2, ?_⟩
      have e4 : (rs.map (inR m)).all id = rs.all (inR m) := by rw [List.all_map] <;> rfl
      rw [e4]
      refine ⟨_, rfl, ?_⟩
      cases c : rs.all (inR m) with
      | true =>
        rw [c, if_pos rfl] at ret
        exact iteF (ret _ s2)
      | false =>
        rw [c, if_neg Bool.false_ne_true] at ret
        exact iteT (ret _ s2)
end
end Fb
set_option maxRecDepth 100000
set_option maxHeartbeats 4000000
namespace Fb
open PySem PySem.Spec PyProof.Rows L2
open SX (S)
def spPlaces : Sp := fun vs H Q _ => ∃ l, vs = [.str (S l)] ∧ l.length ≤ 1000 ∧ ∀ p H', Same H H' → H p = none → H' p = some (.lst (nums (plc l))) → Q (.ref p) H'
theorem outM_sgn {l : List Nat} {i : Nat} (h : i < l.length) : sgn (S l) i = S [l.getD i 0] := by
  have e : l[i]? = some l[i] := List.getElem?_eq_getElem h
  rw [show sgn (S l) i = S [l[i]] from S_sgn e, List.getD_eq_getElem?_getD, e] <;> rfl
section
variable {P : Program} {wo : World} {K : PySem.W.Frag} {mg : Str → Option Value} {base : Heap} {z : Pz}
theorem ok_places_of (T : Txp K mg z) : FnOk P wo K mg base CX0 2 z.a_places_of z.d_places_of ["text"] spPlaces := by
  refine T.F_places_of.ok sc_places_of (fun vs H Q E h => ?_) (fun cdv A outer s H vs Q E hr h => ?_)
  · obtain ⟨l, rfl, _⟩ := h
    rfl
  · obtain ⟨l, rfl, hl, ret⟩ := h
    refine ⟨_, (pss_one (ps_ret (by refine' pe_lc (own := [("place", 1), ("sign", 2)]) (g := (gTup K 2 (gCons (gName 1) (gCons (gName 2) gNil)))) rfl sc_places_of.nd ?hi (blkOk_by (N := ["text", "place", "sign"]) (sc := defScope s_places_of) (by first | decide +kernel | kernel_rfl | rfl)) ?hg ?ht ?he (by intro _; rfl); (case hi => exact (pi_enumS rfl T.n_enumerate (pa_cons (pv 0) pa_nil))); (case hg => exact fun _ _ _ _ _ => (pg_tup rfl (pgs_cons (pg_name (i := 1) sc_places_of.nd rfl (Or.inl rfl) (.inr rfl)) (pgs_cons (pg_name (i := 2) sc_places_of.nd rfl (Or.inl rfl) (.inr rfl)) pgs_nil)))); (case ht => exact fun _ _ _ _ _ => (pts_one (pt_cmpR op_ne (pv 2) pe_str (nomark _)))); (case he => exact fun _ _ _ _ _ => (pv 1))))), ?_⟩
    refine ⟨_, rfl, S l, rfl, fun D hD => ?_⟩
    rw [S_sz]
    refine lc_outT (outF (fun i => l.getD i 0 != 46) fun i => V.int (i : Nat)) hD outF_0 (fun i hi => Nat.lt_of_le_of_lt outF_l (small1 i (by omega))) (fun i Tu H2 Kc K0 lt s2 hT kc k0 => ?_) (fun H2 s2 e2 => ?_)
    · rw [outM_sgn lt] at hT
      refine ⟨Tu, _, rfl, SqT.of hT, rfl, ?_⟩
      refine ⟨_, _, rfl, ?_⟩
      refine ⟨_, _, rfl, ?_⟩
      refine ⟨rfl, ?_⟩
      refine ⟨rfl, ?_⟩
      refine ⟨_, rfl, rfl, _, rfl, ?_⟩
      rw [S_d]
      by_cases h : l.getD i 0 = 46
      · rw [decide_eq_true (show V.str (S [l.getD i 0]) = V.str (S [46]) by rw [h])]
        refine iteNo (k0 _ (Same.refl _) (outF_f ?_))
        show (l.getD i 0 != 46) = false
        rw [h] <;> rfl
      · rw [decide_eq_false (fun q => h (by simpa using S_eq.mp q))]
        refine iteT ?_
        exact ⟨_, rfl, kc _ _ (Same.refl _) (outF_t (show (l.getD i 0 != 46) = true by simpa using h))⟩
    · refine ret D _ s2 hD ?_
      rw [e2]
      unfold nums plc outF
      rfl
end
end Fb
set_option maxRecDepth 100000
set_option maxHeartbeats 4000000
namespace Fb
open PySem PySem.Spec PyProof.Rows L2
open SX (S)
def spGetI (C : Addr) (f : List Nat → V) : Sp := fun vs H Q _ => ∃ a l, vs = [.ref a] ∧ PtI C H a l ∧ Q (f l) H
theorem bt_len {l : List Nat} (h : IsP l) : (bt l).length ≤ 120 := h.sum
section
variable {P : Program} {wo : World} {K : PySem.W.Frag} {mg : Str → Option Value} {base : Heap} {z : Pz}
theorem ok_le (T : Txp K mg z) : FnOk P wo K mg base (L2.CX P wo) 5 z.a_le z.d_le ["self", "other"] (spCmpP z.C z.cUnlike below) := by
  refine T.F_le.okX sc_Pattern_le (fun vs H Q E h => ?_) (fun cdv A outer s H vs Q E hr h => ?_)
  · obtain ⟨a, b, l, m, rfl, _⟩ := h
    rfl
  · obtain ⟨a, b, l, m, rfl, ha, hb, ret⟩ := h
    have hr3 : Room 4 _ := hr
    have hr1 : Room 2 _ := hr.mono (by decide)
    have G_need_sizes : FnOk P wo K mg base (L2.CX P wo) 4 z.a_need_sizes z.d_need_sizes ["thing", "sizes"] (spNeedS K z.cUnlike) := ok_need_sizes T
    have G_lies_below : FnOk P wo K mg base CX0 2 z.a_lies_below z.d_lies_below ["one", "other"] spBelow := ok_lies_below T
    refine ⟨_, (pss_cons (ps_if (pt_not (pt_val (pe_callB call_isi (by rfl) T.n_isinstance boot_isinstance (pa_cons (pv 1) (pa_cons (pe_glob (v := .ref z.C) rfl T.g_Pattern rfl) pa_nil)))))
        pss_no
        pss_nil)
      (pss_cons (ps_expr (pe_call G_need_sizes hr3 rfl T.g_need_sizes T.k_need_sizes T.b_need_sizes .nil (passes_call (takes_of rfl rfl rfl rfl) (fun _ _ _ _ h => h)) (pa_cons (pe_fld (pv 1) rfl) (pa_cons (pe_fld (pv 0) rfl) pa_nil))))
      (pss_one (ps_ret (pe_call G_lies_below hr1 rfl T.g_lies_below T.k_lies_below T.b_lies_below .nil pass0 (pa_cons (pe_fld (pv 0) rfl) (pa_cons (pe_fld (pv 1) rfl) pa_nil))))))), ?_⟩
    refine ⟨_, rfl, _, _, _, _, true, rfl, .own z.C, hb.ty T, kit_self, _, rfl, ?_⟩
    refine iteF ?_
    obtain ⟨hp, dx, t, h1, h2⟩ := ha
    obtain ⟨hp', dx', t', h1', h2'⟩ := hb
    have len := hp.len
    have len' := hp'.len
    refine ⟨_, rfl, b, z.C, dx', _, _, rfl, h1', T.cls, T.na_text, lkT, _, rfl, a, z.C, dx, _, _, rfl, h1, T.cls, T.na_sizes, lkS, ?_⟩
    refine ⟨m, t, szs l, rfl, by omega, hp'.pf, SqT.of h2, ?_⟩
    by_cases e : szs m = szs l
    · rw [if_pos e] at ret
      rw [if_pos e]
      intro H1 s1
      refine ⟨_, rfl, a, z.C, dx, _, _, rfl, s1 _ _ h1, T.cls, T.na_text, lkT, ?_⟩
      refine ⟨_, rfl, b, z.C, dx', _, _, rfl, s1 _ _ h1', T.cls, T.na_text, lkT, ?_⟩
      exact ⟨l, m, rfl, by omega, fun H2 s2 => ret _ (s1.trans s2)⟩
    · rw [if_neg e] at ret
      rw [if_neg e]
      exact ret
theorem ok_and (T : Txp K mg z) : FnOk P wo K mg base (L2.CX P wo) 6 z.a_and z.d_and ["self", "other"] (spBinP z.C z.cUnlike fAnd) := by
  refine T.F_and.okX sc_Pattern_and (fun vs H Q E h => ?_) (fun cdv A outer s H vs Q E hr h => ?_)
  · obtain ⟨a, b, l, m, rfl, _⟩ := h
    rfl
  · obtain ⟨a, b, l, m, rfl, ha, hb, ret⟩ := h
    have hr4 : Room 5 _ := hr
    have hr3 : Room 4 _ := hr.mono (by decide)
    have hr1 : Room 2 _ := hr.mono (by decide)
    have G_need_sizes : FnOk P wo K mg base (L2.CX P wo) 4 z.a_need_sizes z.d_need_sizes ["thing", "sizes"] (spNeedS K z.cUnlike) := ok_need_sizes T
    have G_init : FnOk P wo K mg base CX0 4 z.a_init z.d_init ["self", "text"] (spInit z.C) := ok_init T
    have G_unlike_sign : FnOk P wo K mg base CX0 2 z.a_unlike_sign z.d_unlike_sign ["a", "b"] spUnS := ok_unlike_sign T
    refine ⟨_, (pss_cons (ps_if (pt_not (pt_val (pe_callB call_isi (by rfl) T.n_isinstance boot_isinstance (pa_cons (pv 1) (pa_cons (pe_glob (v := .ref z.C) rfl T.g_Pattern rfl) pa_nil)))))
        pss_no
        pss_nil)
      (pss_cons (ps_expr (pe_call G_need_sizes hr3 rfl T.g_need_sizes T.k_need_sizes T.b_need_sizes .nil (passes_call (takes_of rfl rfl rfl rfl) (fun _ _ _ _ h => h)) (pa_cons (pe_fld (pv 1) rfl) (pa_cons (pe_fld (pv 0) rfl) pa_nil))))
      (pss_one (ps_ret (pe_make T.mkP G_init hr4 rfl T.g_Pattern T.b_init .nil pass0 (pa_cons (pe_joinK (K := K) rfl pe_str (pa_cons (by refine' pe_lc (own := [("a", 2), ("b", 3)]) (tt := tYes) (g := (gTup K 2 (gCons (gName 2) (gCons (gName 3) gNil)))) rfl sc_Pattern_and.nd ?hi (blkOk_by (N := ["self", "other", "a", "b"]) (sc := defScope s_Pattern_and) (by first | decide +kernel | kernel_rfl | rfl)) ?hg ?ht ?he (by intro _; rfl); (case hi => exact (pi_zipS2 rfl T.n_zip (pa_cons (pe_fld (pv 0) rfl) (pa_cons (pe_fld (pv 1) rfl) pa_nil)))); (case hg => exact fun _ _ _ _ _ => (pg_tup rfl (pgs_cons (pg_name (i := 2) sc_Pattern_and.nd rfl (Or.inl rfl) (.inr rfl)) (pgs_cons (pg_name (i := 3) sc_Pattern_and.nd rfl (Or.inl rfl) (.inr rfl)) pgs_nil)))); (case ht => exact fun _ _ _ _ _ => pts_nil); (case he => exact fun _ _ _ _ _ => (pe_ifExp (pt_cmpR op_eq (pv 2) (pv 3) (nomark _)) (pv 2) pe_str))) pa_nil)) pa_nil)))))), ?_⟩
    refine ⟨_, rfl, _, _, _, _, true, rfl, .own z.C, hb.ty T, kit_self, _, rfl, ?_⟩
    refine iteF ?_
    obtain ⟨hp, dx, t, h1, h2⟩ := ha
    obtain ⟨hp', dx', t', h1', h2'⟩ := hb
    have len := hp.len
    have len' := hp'.len
    refine ⟨_, rfl, b, z.C, dx', _, _, rfl, h1', T.cls, T.na_text, lkT, _, rfl, a, z.C, dx, _, _, rfl, h1, T.cls, T.na_sizes, lkS, ?_⟩
    refine ⟨m, t, szs l, rfl, by omega, hp'.pf, SqT.of h2, ?_⟩
    by_cases e : szs m = szs l
    · rw [if_pos e] at ret
      rw [if_pos e]
      intro H1 s1
      have al : Al l m := al_of hp.sg hp'.sg 0 e.symm
      have all : l.length = m.length := al.len
      have alz := (Al.zw al_and al).isP hp
      refine ⟨rfl, ?_⟩
      refine ⟨_, rfl, a, z.C, dx, _, _, rfl, s1 _ _ h1, T.cls, T.na_text, lkT, _, rfl, b, z.C, dx', _, _, rfl, s1 _ _ h1', T.cls, T.na_text, lkT, S l, S m, rfl, fun D hD => ?_⟩
      rw [S_sz, S_sz]
      refine lc_outT (outM fun i => V.str (S [fAnd (l.getD i 0) (m.getD i 0)])) hD outM_0 (fun i hi => by rw [outM_l]; exact small1 i (by omega)) (fun i Tu H2 Kc K0 lt s2 hT kc k0 => ?_) (fun H2 s2 e2 => ?_)
      · have g1 : l[i]? = some l[i] := List.getElem?_eq_getElem (by omega)
        have g2 : m[i]? = some m[i] := List.getElem?_eq_getElem (by omega)
        have d1 : l.getD i 0 = l[i] := by rw [List.getD_eq_getElem?_getD, g1] <;> rfl
        have d2 : m.getD i 0 = m[i] := by rw [List.getD_eq_getElem?_getD, g2] <;> rfl
        refine ⟨Tu, [.str (S [l[i]]), .str (S [m[i]])], rfl, SqT.of (by rw [hT]; rw [show sgn (S l) i = S [l[i]] from S_sgn g1, show sgn (S m) i = S [m[i]] from S_sgn g2]), rfl, ?_⟩
        refine ⟨_, _, rfl, ?_⟩
        refine ⟨_, _, rfl, ?_⟩
        refine ⟨rfl, ?_⟩
        refine ⟨rfl, yes1 ?_⟩
        have st := outM_s (f := fun i => V.str (S [fAnd (l.getD i 0) (m.getD i 0)])) (i := i)
        rw [d1, d2] at st
        generalize l[i] = x at st
        generalize m[i] = y at st
        unfold fAnd at st
        refine ⟨_, rfl, _, rfl, rfl, _, rfl, ?_⟩
        refine ite2 (fun h => ?_) (fun h => ?_)
        · have h3 : x = y := by simpa using S_eq.mp (of_decide_eq_true h)
          rw [if_pos h3] at st
          exact ⟨_, rfl, kc _ _ (Same.refl _) st⟩
        · have h3 : ¬ x = y := fun w => h (by rw [w]; exact decide_eq_true rfl)
          rw [if_neg h3] at st
          rw [S_0]
          exact kc _ _ (Same.refl _) st
      · have e4 : outM (fun i => V.str (S [fAnd (l.getD i 0) (m.getD i 0)])) (min l.length m.length) = ((zw fAnd l m).map fun c => S [c]).map V.str := outM_all (by rw [List.length_map, List.length_map]; unfold zw; rw [List.length_zipWith]) fun i hi => by
          unfold zw
          rw [List.getElem?_map, List.getElem?_map, List.getElem?_zipWith, List.getD_eq_getElem?_getD, List.getD_eq_getElem?_getD, List.getElem?_eq_getElem (show i < l.length by omega), List.getElem?_eq_getElem (show i < m.length by omega)] <;> rfl
        rw [e4] at e2
        refine ⟨"", D, (zw fAnd l m).map fun c => S [c], rfl, rfl, .inl (SqL.of e2), ?_, ?_⟩
        · have zl := alz.len
          rw [List.map_map]
          have sm : ∀ xs : List Nat, (xs.map ((fun w : Str => w.length) ∘ fun c => S [c])).sum = xs.length := fun xs => by
            induction xs with
            | nil => rfl
            | cons c xs ih => rw [List.map_cons, List.sum_cons, ih, List.length_cons, Nat.add_comm]; rfl
          rw [sm, List.length_map]
          show _ + _ * 0 ≤ _
          omega
        · rw [join_signs]
          exact mk_pat alz fun p H3 s3 np hp3 => ret p H3 ((s1.trans s2).trans s3) ((s1.trans s2).free np) hp3
    · rw [if_neg e] at ret
      rw [if_neg e]
      exact ret
theorem ok_or (T : Txp K mg z) : FnOk P wo K mg base (L2.CX P wo) 6 z.a_or z.d_or ["self", "other"] (spBinP z.C z.cUnlike fOr) := by
  refine T.F_or.okX sc_Pattern_or (fun vs H Q E h => ?_) (fun cdv A outer s H vs Q E hr h => ?_)
  · obtain ⟨a, b, l, m, rfl, _⟩ := h
    rfl
  · obtain ⟨a, b, l, m, rfl, ha, hb, ret⟩ := h
    have hr4 : Room 5 _ := hr
    have hr3 : Room 4 _ := hr.mono (by decide)
    have hr1 : Room 2 _ := hr.mono (by decide)
    have G_need_sizes : FnOk P wo K mg base (L2.CX P wo) 4 z.a_need_sizes z.d_need_sizes ["thing", "sizes"] (spNeedS K z.cUnlike) := ok_need_sizes T
    have G_init : FnOk P wo K mg base CX0 4 z.a_init z.d_init ["self", "text"] (spInit z.C) := ok_init T
    have G_unlike_sign : FnOk P wo K mg base CX0 2 z.a_unlike_sign z.d_unlike_sign ["a", "b"] spUnS := ok_unlike_sign T
    refine ⟨_, (pss_cons (ps_if (pt_not (pt_val (pe_callB call_isi (by rfl) T.n_isinstance boot_isinstance (pa_cons (pv 1) (pa_cons (pe_glob (v := .ref z.C) rfl T.g_Pattern rfl) pa_nil)))))
        pss_no
        pss_nil)
      (pss_cons (ps_expr (pe_call G_need_sizes hr3 rfl T.g_need_sizes T.k_need_sizes T.b_need_sizes .nil (passes_call (takes_of rfl rfl rfl rfl) (fun _ _ _ _ h => h)) (pa_cons (pe_fld (pv 1) rfl) (pa_cons (pe_fld (pv 0) rfl) pa_nil))))
      (pss_one (ps_ret (pe_make T.mkP G_init hr4 rfl T.g_Pattern T.b_init .nil pass0 (pa_cons (pe_joinK (K := K) rfl pe_str (pa_cons (by refine' pe_lc (own := [("a", 2), ("b", 3)]) (tt := tYes) (g := (gTup K 2 (gCons (gName 2) (gCons (gName 3) gNil)))) rfl sc_Pattern_or.nd ?hi (blkOk_by (N := ["self", "other", "a", "b"]) (sc := defScope s_Pattern_or) (by first | decide +kernel | kernel_rfl | rfl)) ?hg ?ht ?he (by intro _; rfl); (case hi => exact (pi_zipS2 rfl T.n_zip (pa_cons (pe_fld (pv 0) rfl) (pa_cons (pe_fld (pv 1) rfl) pa_nil)))); (case hg => exact fun _ _ _ _ _ => (pg_tup rfl (pgs_cons (pg_name (i := 2) sc_Pattern_or.nd rfl (Or.inl rfl) (.inr rfl)) (pgs_cons (pg_name (i := 3) sc_Pattern_or.nd rfl (Or.inl rfl) (.inr rfl)) pgs_nil)))); (case ht => exact fun _ _ _ _ _ => pts_nil); (case he => exact fun _ _ _ _ _ => (pe_ifExp (pt_cmpR op_eq (pv 2) (pv 3) (nomark _)) (pv 2) pe_str))) pa_nil)) pa_nil)))))), ?_⟩
    refine ⟨_, rfl, _, _, _, _, true, rfl, .own z.C, hb.ty T, kit_self, _, rfl, ?_⟩
    refine iteF ?_
    obtain ⟨hp, dx, t, h1, h2⟩ := ha
    obtain ⟨hp', dx', t', h1', h2'⟩ := hb
    have len := hp.len
    have len' := hp'.len
    refine ⟨_, rfl, b, z.C, dx', _, _, rfl, h1', T.cls, T.na_text, lkT, _, rfl, a, z.C, dx, _, _, rfl, h1, T.cls, T.na_sizes, lkS, ?_⟩
    refine ⟨m, t, szs l, rfl, by omega, hp'.pf, SqT.of h2, ?_⟩
    by_cases e : szs m = szs l
    · rw [if_pos e] at ret
      rw [if_pos e]
      intro H1 s1
      have al : Al l m := al_of hp.sg hp'.sg 0 e.symm
      have all : l.length = m.length := al.len
      have alz := (Al.zw al_or al).isP hp
      refine ⟨rfl, ?_⟩
      refine ⟨_, rfl, a, z.C, dx, _, _, rfl, s1 _ _ h1, T.cls, T.na_text, lkT, _, rfl, b, z.C, dx', _, _, rfl, s1 _ _ h1', T.cls, T.na_text, lkT, S l, S m, rfl, fun D hD => ?_⟩
      rw [S_sz, S_sz]
      refine lc_outT (outM fun i => V.str (S [fOr (l.getD i 0) (m.getD i 0)])) hD outM_0 (fun i hi => by rw [outM_l]; exact small1 i (by omega)) (fun i Tu H2 Kc K0 lt s2 hT kc k0 => ?_) (fun H2 s2 e2 => ?_)
      · have g1 : l[i]? = some l[i] := List.getElem?_eq_getElem (by omega)
        have g2 : m[i]? = some m[i] := List.getElem?_eq_getElem (by omega)
        have d1 : l.getD i 0 = l[i] := by rw [List.getD_eq_getElem?_getD, g1] <;> rfl
        have d2 : m.getD i 0 = m[i] := by rw [List.getD_eq_getElem?_getD, g2] <;> rfl
        refine ⟨Tu, [.str (S [l[i]]), .str (S [m[i]])], rfl, SqT.of (by rw [hT]; rw [show sgn (S l) i = S [l[i]] from S_sgn g1, show sgn (S m) i = S [m[i]] from S_sgn g2]), rfl, ?_⟩
        refine ⟨_, _, rfl, ?_⟩
        refine ⟨_, _, rfl, ?_⟩
        refine ⟨rfl, ?_⟩
        refine ⟨rfl, yes1 ?_⟩
        have st := outM_s (f := fun i => V.str (S [fOr (l.getD i 0) (m.getD i 0)])) (i := i)
        rw [d1, d2] at st
        generalize l[i] = x at st
        generalize m[i] = y at st
        unfold fOr at st
        refine ⟨_, rfl, _, rfl, rfl, _, rfl, ?_⟩
        refine ite2 (fun h => ?_) (fun h => ?_)
        · have h3 : x = y := by simpa using S_eq.mp (of_decide_eq_true h)
          rw [if_pos h3] at st
          exact ⟨_, rfl, kc _ _ (Same.refl _) st⟩
        · have h3 : ¬ x = y := fun w => h (by rw [w]; exact decide_eq_true rfl)
          rw [if_neg h3] at st
          rw [S_1]
          exact kc _ _ (Same.refl _) st
      · have e4 : outM (fun i => V.str (S [fOr (l.getD i 0) (m.getD i 0)])) (min l.length m.length) = ((zw fOr l m).map fun c => S [c]).map V.str := outM_all (by rw [List.length_map, List.length_map]; unfold zw; rw [List.length_zipWith]) fun i hi => by
          unfold zw
          rw [List.getElem?_map, List.getElem?_map, List.getElem?_zipWith, List.getD_eq_getElem?_getD, List.getD_eq_getElem?_getD, List.getElem?_eq_getElem (show i < l.length by omega), List.getElem?_eq_getElem (show i < m.length by omega)] <;> rfl
        rw [e4] at e2
        refine ⟨"", D, (zw fOr l m).map fun c => S [c], rfl, rfl, .inl (SqL.of e2), ?_, ?_⟩
        · have zl := alz.len
          rw [List.map_map]
          have sm : ∀ xs : List Nat, (xs.map ((fun w : Str => w.length) ∘ fun c => S [c])).sum = xs.length := fun xs => by
            induction xs with
            | nil => rfl
            | cons c xs ih => rw [List.map_cons, List.sum_cons, ih, List.length_cons, Nat.add_comm]; rfl
          rw [sm, List.length_map]
          show _ + _ * 0 ≤ _
          omega
        · rw [join_signs]
          exact mk_pat alz fun p H3 s3 np hp3 => ret p H3 ((s1.trans s2).trans s3) ((s1.trans s2).free np) hp3
    · rw [if_neg e] at ret
      rw [if_neg e]
      exact ret
theorem ok_len (T : Txp K mg z) : FnOk P wo K mg base CX0 2 z.a_len z.d_len ["self"] (spGetI z.C fun l => .int ((bt l).length : Nat)) := by
  refine T.F_len.ok sc_Pattern_len (fun vs H Q E h => ?_) (fun cdv A outer s H vs Q E hr h => ?_)
  · obtain ⟨a, l, rfl, _⟩ := h
    rfl
  · obtain ⟨a, l, rfl, ⟨hp, dx, t, h1, h2⟩, ret⟩ := h
    refine ⟨_, (pss_one (ps_ret (pe_callB call_len_str (by rfl) T.n_len (by decide +kernel) (pa_cons (pe_fld (pv 0) rfl) pa_nil)))), ?_⟩
    refine ⟨_, rfl, a, z.C, dx, _, _, rfl, h1, T.cls, T.na_bits, lkB, _, rfl, by rw [S_ln]; exact Nat.le_trans (bt_len hp) (by decide), ?_⟩
    rw [S_ln]
    exact ret
end
/-! operators of Pattern, by values -/
theorem OpR.imp {X : Cx} {f : Value → Value → Sem Value} {r r' : R2} (h : OpR X f r) (i : ∀ x y H Q, r' x y H Q → r x y H Q) : OpR X f r' := fun pins s σ H x y v u Q I rx ry q => h pins s σ H x y v u Q I rx ry (i _ _ _ _ q)
def rP (C cU : Addr) (r : List Nat → List Nat → Bool) (E : XK) : R2 := fun x y H Q => ∃ a b l m, x = .ref a ∧ y = .ref b ∧ PtI C H a l ∧ PtI C H b m ∧ (if szs m = szs l then ∀ H', Same H H' → Q (.bl (r l m)) H' else ∀ H', Same H H' → E (.ref cU) none H')
def rB (C cU : Addr) (f : Nat → Nat → Nat) (E : XK) : R2 := fun x y H Q => ∃ a b l m, x = .ref a ∧ y = .ref b ∧ PtI C H a l ∧ PtI C H b m ∧ (if szs m = szs l then ∀ p H', Same H H' → H p = none → PtI C H' p (zw f l m) → Q (.ref p) H' else ∀ H', Same H H' → E (.ref cU) none H')
section
variable {X : Cx} {z : Pz} {E : XK}
theorem rP_imp {r : List Nat → List Nat → Bool} : ∀ x y H Q, rP z.C z.cUnlike r E x y H Q → rCmpI X.K z.C (fun vs H Q E => spCmpP z.C z.cUnlike r (vs ++ []) H Q E) E x y H Q := by
  rintro x y H Q ⟨a, b, l, m, rfl, rfl, ha, hb, q⟩
  obtain ⟨hp, dx, t, h1, h2⟩ := id ha
  obtain ⟨hp', dx', t', h1', h2'⟩ := id hb
  exact ⟨a, dx, _, .ref z.C, rfl, h1, .ins h1', first_self, a, b, l, m, rfl, ha, hb, q⟩
theorem rB_imp {f : Nat → Nat → Nat} : ∀ x y H Q, rB z.C z.cUnlike f E x y H Q → rBinI z.C (fun vs H Q E => spBinP z.C z.cUnlike f (vs ++ []) H Q E) E x y H Q := by
  rintro x y H Q ⟨a, b, l, m, rfl, rfl, ha, hb, q⟩
  obtain ⟨hp, dx, t, h1, h2⟩ := id ha
  obtain ⟨hp', dx', t', h1', h2'⟩ := id hb
  exact ⟨a, dx, _, b, dx', _, rfl, h1, rfl, h1', a, b, l, m, rfl, ha, hb, q⟩
theorem op_leP (T : Txp X.K X.mg z) (hr : Room 6 X.A) (hx : Passes (L2.CX X.prog X.w) X E) : OpR X (compareOp .LtE) (rP z.C z.cUnlike below E) :=
  OpR.imp (op_cmpI (op := .LtE) (fun _ _ => rfl) T.m_le T.f_le ((ok_le T).raw T.b_le .nil) (hr.mono (by decide)) hx) rP_imp
theorem dn_and : PySem.dunder (Operator.info .BitAnd).2 = "__and__" := by decide +kernel
theorem dn_or : PySem.dunder (Operator.info .BitOr).2 = "__or__" := by decide +kernel
theorem op_andP (T : Txp X.K X.mg z) (hr : Room 6 X.A) (hx : Passes (L2.CX X.prog X.w) X E) : OpR X (binaryOp .BitAnd) (rB z.C z.cUnlike fAnd E) :=
  OpR.imp (op_binI (op := .BitAnd) T.sf (by rw [dn_and]; exact T.m_and) T.f_and ((ok_and T).raw T.b_and .nil) hr hx) rB_imp
theorem op_orP (T : Txp X.K X.mg z) (hr : Room 6 X.A) (hx : Passes (L2.CX X.prog X.w) X E) : OpR X (binaryOp .BitOr) (rB z.C z.cUnlike fOr E) :=
  OpR.imp (op_binI (op := .BitOr) T.sf (by rw [dn_or]; exact T.m_or) T.f_or ((ok_or T).raw T.b_or .nil) hr hx) rB_imp
end
def rSP (C : Addr) (f : List Nat → V) : List V → Hp → VK → Prop := fun xs H Q => ∃ a l, xs = [.ref a] ∧ PtI C H a l ∧ Q (f l) H
section
variable {X : Cx} {z : Pz}
theorem call_strP (T : Txp X.K X.mg z) (hr : Room 6 X.A) : CallR X (.type "str") (rSP z.C fun l => .str (S l)) := fun pins s σ H xs us Q I r h => by
  obtain ⟨a, l, rfl, ha, q⟩ := h
  obtain ⟨hp, dx, t, h1, h2⟩ := id ha
  exact call_strI (E := fun _ _ _ => False) T.m_str T.f_str ((ok_str T).raw T.b_str .nil) (hr.mono (by decide)) pass0 pins s σ H [.ref a] us Q I r ⟨a, dx, _, rfl, h1, a, l, rfl, ha, _, rfl, q⟩
theorem call_lenP (T : Txp X.K X.mg z) (hr : Room 3 X.A) : CallR X (.builtin "len") (rSP z.C fun l => .int ((bt l).length : Nat)) := fun pins s σ H xs us Q I r h => by
  obtain ⟨a, l, rfl, ha, q⟩ := h
  obtain ⟨hp, dx, t, h1, h2⟩ := id ha
  exact call_lenI (E := fun _ _ _ => False) T.m_len T.f_len ((ok_len T).raw T.b_len .nil) hr pass0 pins s σ H [.ref a] us Q I r ⟨a, dx, _, rfl, h1, a, l, rfl, ha, _, rfl, by have := bt_len hp; omega, q⟩
end
end Fb
set_option maxRecDepth 100000
set_option maxHeartbeats 4000000
namespace Fb
open PySem PySem.Spec PyProof.Rows L2
open SX (S)
/-- the box, sign by sign -/
def bxs : List (List Nat) → List Nat → List Nat → List (List Nat)
  | f, a :: l, b :: m => bxs (f.flatMap fun t => if a = b then [t ++ [a]] else [t ++ [48], t ++ [49]]) l m
  | f, _, _ => f
section
variable {P : Program} {wo : World} {K : PySem.W.Frag} {mg : Str → Option Value} {base : Heap} {z : Pz}
theorem ok_unlike_bits (T : Txp K mg z) : FnOk P wo K mg base CX0 3 z.a_unlike_bits z.d_unlike_bits ["one", "other"] spUnl := by
  refine T.F_unlike_bits.ok sc_unlike_bits (fun vs H Q E h => ?_) (fun cdv A outer s H vs Q E hr h => ?_)
  · obtain ⟨l, m, rfl, _⟩ := h
    rfl
  · obtain ⟨l, m, rfl, hl, hm, ret⟩ := h
    have hr1 : Room 2 _ := hr
    have G_bits_of : FnOk P wo K mg base CX0 2 z.a_bits_of z.d_bits_of ["text"] spBits := ok_bits_of T
    refine ⟨_, (pss_one (ps_ret (by refine' pe_lc (own := [("bit", 2), ("a", 3), ("b", 4)]) (g := (gTup K 2 (gCons (gName 2) (gCons (gTup K 2 (gCons (gName 3) (gCons (gName 4) gNil))) gNil)))) rfl sc_unlike_bits.nd ?hi (blkOk_by (N := ["one", "other", "bit", "a", "b"]) (sc := defScope s_unlike_bits) (by first | decide +kernel | kernel_rfl | rfl)) ?hg ?ht ?he (by intro _; rfl); (case hi => exact (pi_enumZ rfl T.n_enumerate rfl T.n_zip (pa_cons (pe_call G_bits_of hr1 rfl T.g_bits_of T.k_bits_of T.b_bits_of .nil pass0 (pa_cons (pv 0) pa_nil)) (pa_cons (pe_call G_bits_of hr1 rfl T.g_bits_of T.k_bits_of T.b_bits_of .nil pass0 (pa_cons (pv 1) pa_nil)) pa_nil)))); (case hg => exact fun _ _ _ _ _ => (pg_tup rfl (pgs_cons (pg_name (i := 2) sc_unlike_bits.nd rfl (Or.inl rfl) (.inr rfl)) (pgs_cons (pg_tup rfl (pgs_cons (pg_name (i := 3) sc_unlike_bits.nd rfl (Or.inl rfl) (.inr rfl)) (pgs_cons (pg_name (i := 4) sc_unlike_bits.nd rfl (Or.inl rfl) (.inr rfl)) pgs_nil))) pgs_nil)))); (case ht => exact fun _ _ _ _ _ => (pts_one (pt_cmpR op_ne (pv 3) (pv 4) (nomark _)))); (case he => exact fun _ _ _ _ _ => (pv 2))))), ?_⟩
    refine ⟨_, rfl, l, rfl, hl, ?_⟩
    refine ⟨_, rfl, m, rfl, hm, ?_⟩
    rw [show l.filter (fun c => c != 46) = bt l from rfl, show m.filter (fun c => c != 46) = bt m from rfl]
    have bl : (bt l).length ≤ l.length := List.length_filter_le _ _
    refine ⟨S (bt l), S (bt m), rfl, fun D hD => ?_⟩
    rw [S_sz, S_sz]
    refine lc_outZ (outF (fun i => decide ((bt l).getD i 0 ≠ (bt m).getD i 0)) fun i => V.int (i : Nat)) hD outF_0 (fun i hi => Nat.lt_of_le_of_lt outF_l (small1 i (by omega))) (fun i Tu T1 H2 Kc K0 lt s2 hT hT1 kc k0 => ?_) (fun H2 s2 e2 => ?_)
    · have g1 : (bt l)[i]? = some (bt l)[i] := List.getElem?_eq_getElem (by omega)
      have g2 : (bt m)[i]? = some (bt m)[i] := List.getElem?_eq_getElem (by omega)
      have d1 : (bt l).getD i 0 = (bt l)[i] := by rw [List.getD_eq_getElem?_getD, g1] <;> rfl
      have d2 : (bt m).getD i 0 = (bt m)[i] := by rw [List.getD_eq_getElem?_getD, g2] <;> rfl
      refine ⟨Tu, [.int (i : Nat), .ref T1], rfl, SqT.of hT, rfl, ?_⟩
      refine ⟨_, _, rfl, ?_⟩
      refine ⟨_, _, rfl, T1, [.str (S [(bt l)[i]]), .str (S [(bt m)[i]])], rfl, SqT.of (by rw [hT1]; rw [show sgn (S (bt l)) i = S [(bt l)[i]] from S_sgn g1, show sgn (S (bt m)) i = S [(bt m)[i]] from S_sgn g2]), rfl, ?_⟩
      refine ⟨_, _, rfl, ?_⟩
      refine ⟨_, _, rfl, ?_⟩
      refine ⟨rfl, rfl, ?_⟩
      have st := outF_t (p := fun i => decide ((bt l).getD i 0 ≠ (bt m).getD i 0)) (f := fun i => V.int (i : Nat)) (i := i)
      have sf := outF_f (p := fun i => decide ((bt l).getD i 0 ≠ (bt m).getD i 0)) (f := fun i => V.int (i : Nat)) (i := i)
      rw [d1, d2] at st sf
      generalize (bt l)[i] = a at st sf
      generalize (bt m)[i] = b at st sf
      refine ⟨rfl, _, rfl, _, rfl, rfl, _, rfl, ?_⟩
      refine ite2 (fun h => ?_) (fun h => ?_)
      · have ne : a ≠ b := fun e => by subst e; simp at h
        exact ⟨_, rfl, kc _ _ (Same.refl _) (st (decide_eq_true ne))⟩
      · have e : a = b := by
          by_cases q : a = b
          · exact q
          · exact absurd (by rw [decide_eq_false (fun z => q (by simpa using S_eq.mp z))]; rfl) h
        exact k0 _ (Same.refl _) (sf (decide_eq_false (by simpa using e)))
    · exact ret D H2 s2 hD e2
end
/-! boxes of patterns of equal sizes -/
abbrev unl (l m : List Nat) : Nat := ((List.zipWith (fun a b => decide (a ≠ b)) l m).filter id).length
theorem unl_cons (a b : Nat) (l m : List Nat) : unl (a :: l) (b :: m) = (if a = b then 0 else 1) + unl l m := by
  unfold unl
  rw [List.zipWith_cons_cons]
  by_cases h : a = b
  · rw [if_pos h, List.filter_cons_of_neg (by simp [h]), Nat.zero_add]
  · rw [if_neg h, List.filter_cons_of_pos (by simp [h]), List.length_cons, Nat.add_comm]
/-- the signs that may stand where one has a and the other b -/
def sg2 (a b : Nat) : List Nat := if a = b then [a] else [48, 49]
theorem bxs_cons (f : List (List Nat)) (a b : Nat) (l m : List Nat) : bxs f (a :: l) (b :: m) = bxs (f.flatMap fun t => (sg2 a b).map fun c => t ++ [c]) l m := by
  show bxs (f.flatMap fun t => if a = b then [t ++ [a]] else [t ++ [48], t ++ [49]]) l m = _
  congr 2
  funext t
  unfold sg2
  by_cases h : a = b
  · rw [if_pos h, if_pos h] <;> rfl
  · rw [if_neg h, if_neg h] <;> rfl
abbrev txV (f : List (List Nat)) : List V := (f.map S).map V.str
def cont (f : List (List Nat)) (sg : List Nat) (a b : Nat) : List (List Nat) := ((f.take a).flatMap fun t => sg.map fun c => t ++ [c]) ++ ((sg.take b).map fun c => f.getD a [] ++ [c])
theorem cont_next {f : List (List Nat)} {sg : List Nat} {i : Nat} (h : i < f.length) : cont f sg i sg.length = cont f sg (i + 1) 0 := by
  unfold cont
  have e : f[i]? = some f[i] := List.getElem?_eq_getElem h
  rw [List.take_length, List.take_zero, List.map_nil, List.append_nil, List.take_add_one, e, List.flatMap_append, List.getD_eq_getElem?_getD, e]
  simp
theorem cont_step {f : List (List Nat)} {sg t : List Nat} {i j c : Nat} (h1 : f[i]? = some t) (h2 : sg[j]? = some c) : cont f sg i (j + 1) = cont f sg i j ++ [t ++ [c]] := by
  unfold cont
  rw [List.take_add_one, h2, List.getD_eq_getElem?_getD, h1, List.append_assoc]
  simp
theorem cont_len {f : List (List Nat)} {sg : List Nat} {i j : Nat} : (cont f sg i j).length ≤ (i + 1) * sg.length := by
  unfold cont
  rw [List.length_append, List.length_map, List.length_take]
  have e : ((f.take i).flatMap fun t => sg.map fun c => t ++ [c]).length ≤ i * sg.length := by
    have : ∀ g : List (List Nat), (g.flatMap fun t => sg.map fun c => t ++ [c]).length = g.length * sg.length := fun g => by
      induction g with
      | nil => simp
      | cons t g ih => rw [List.flatMap_cons, List.length_append, ih, List.length_map, List.length_cons, Nat.succ_mul]; omega
    rw [this, List.length_take]
    exact Nat.mul_le_mul_right _ (by omega)
  rw [Nat.succ_mul]
  omega
theorem flat_len {F : List (List Nat)} {sg : List Nat} : (F.flatMap fun t => sg.map fun c => t ++ [c]).length = F.length * sg.length := by
  induction F with
  | nil => simp
  | cons t g ih => rw [List.flatMap_cons, List.length_append, ih, List.length_map, List.length_cons, Nat.succ_mul]; omega
theorem txV_get {F : List (List Nat)} {i : Nat} {x : V} (e : (txV F)[i]? = some x) : ∃ t, F[i]? = some t ∧ x = .str (S t) := by
  rw [List.getElem?_map, List.getElem?_map] at e
  cases q : F[i]? with
  | none => rw [q] at e; cases e
  | some l => rw [q] at e; cases e; exact ⟨l, rfl, rfl⟩
theorem sgV_get {F : List Nat} {i : Nat} {x : V} (e : (sgV F)[i]? = some x) : ∃ t, F[i]? = some t ∧ x = .str (S [t]) := by
  unfold sgV at e
  rw [List.getElem?_map] at e
  cases q : F[i]? with
  | none => rw [q] at e; cases e
  | some l => rw [q] at e; cases e; exact ⟨l, rfl, rfl⟩
def spAlikeG (K : PySem.W.Frag) : Sp := fun vs H Q _ => ∃ q ls, vs = [.ref q] ∧ SqL K H q (txV ls) ∧ 1 ≤ ls.length ∧ (∀ l ∈ ls, IsP l ∧ szs l = szs (ls.headD [])) ∧ ∀ H', Same H H' → Q .non H'
def spBoxG : Sp := fun vs H Q _ => ∃ l m, vs = [.str (S l), .str (S m)] ∧ IsP l ∧ IsP m ∧ szs m = szs l ∧ unl l m ≤ 10 ∧ ∀ p H', Same H H' → H p = none → H' p = some (.lst (txV (bxs [[]] l m))) → Q (.ref p) H'
def inbx (z l m : List Nat) : Bool := (List.range l.length).all fun i => decide (l.getD i 0 ≠ m.getD i 0) || decide (z.getD i 0 = l.getD i 0)
def spInBox : Sp := fun vs H Q _ => ∃ z l m, vs = [.str (S z), .str (S l), .str (S m)] ∧ IsP z ∧ IsP l ∧ IsP m ∧ szs l = szs z ∧ szs m = szs z ∧ ∀ H', Same H H' → Q (.bl (inbx z l m)) H'
def spBoxSize : Sp := fun vs H Q _ => ∃ l m, vs = [.str (S l), .str (S m)] ∧ IsP l ∧ IsP m ∧ szs m = szs l ∧ ∀ H', Same H H' → Q (.int (2 ^ unl l m : Nat)) H'
/-- the early bits of one, all others of other -/
def trn (l m bs : List Nat) : List Nat := bs.foldl (fun x b => x.set ((plc l).getD b 0) (l.getD ((plc l).getD b 0) 0)) m
def spTorn (K : PySem.W.Frag) : Sp := fun vs H Q _ => ∃ l m q bs, vs = [.str (S l), .str (S m), .ref q] ∧ IsP l ∧ IsP m ∧ szs m = szs l ∧ H q = some (.lst (nums bs)) ∧ bs.length ≤ 1000 ∧ (∀ b ∈ bs, b < (bt l).length) ∧ ∀ H', Same H H' → Q (.str (S (trn l m bs))) H'
theorem trn_len (l m : List Nat) : ∀ bs : List Nat, (trn l m bs).length = m.length := by
  intro bs
  unfold trn
  have : ∀ (bs x : List Nat), (bs.foldl (fun x b => x.set ((plc l).getD b 0) (l.getD ((plc l).getD b 0) 0)) x).length = x.length := by
    intro bs
    induction bs with
    | nil => intro x; rfl
    | cons b bs ih => intro x; rw [List.foldl_cons, ih, List.length_set]
  exact this bs m
theorem al_two {l m : List Nat} (h1 : IsP l) (h2 : IsP m) (h : szs m = szs l) : Al l m := al_of h1.sg h2.sg 0 h.symm
section
variable {P : Program} {wo : World} {K : PySem.W.Frag} {mg : Str → Option Value} {base : Heap} {z : Pz}
theorem ok_need_alikeG (T : Txp K mg z) : FnOk P wo K mg base CX0 5 z.a_need_alike z.d_need_alike ["texts"] (spAlikeG K) := by
  refine T.F_need_alike.ok sc_need_alike (fun vs H Q E h => ?_) (fun cdv A outer s H vs Q E hr h => ?_)
  · obtain ⟨q, ls, rfl, _⟩ := h
    rfl
  · obtain ⟨q, ls, rfl, hq, h1, hp, ret⟩ := h
    have hr3 : Room 4 _ := hr
    have hr2 : Room 3 _ := hr.mono (by decide)
    have hr1 : Room 2 _ := hr.mono (by decide)
    have G_need_pattern : FnOk P wo K mg base CX0 3 z.a_need_pattern z.d_need_pattern ["thing"] spNeed := ok_need_pattern T
    have G_need_sizes : FnOk P wo K mg base (L2.CX P wo) 4 z.a_need_sizes z.d_need_sizes ["thing", "sizes"] (spNeedS K z.cUnlike) := ok_need_sizes T
    have G_sizes_of : FnOk P wo K mg base CX0 2 z.a_sizes_of z.d_sizes_of ["text"] spSizes := ok_sizes_of T
    have get : ∀ (i : Nat) (x : V), (txV ls)[i]? = some x → ∃ l, x = .str (S l) ∧ l ∈ ls := fun i x e => by
      rw [List.getElem?_map, List.getElem?_map] at e
      cases q : ls[i]? with
      | none => rw [q] at e; cases e
      | some l => rw [q] at e; cases e; exact ⟨l, rfl, List.mem_of_getElem? q⟩
    refine ⟨_, (pss_cons (ps_for PassesOwn.never rfl (pi_list (pv 0)) (pg_name (i := 1) sc_need_alike.nd rfl (Or.inl rfl))
        (pss_one (ps_expr (pe_call G_need_pattern hr2 rfl T.g_need_pattern T.k_need_pattern T.b_need_pattern .nil pass0 (pa_cons (pv 1) pa_nil)))))
      (pss_one (ps_for PassesOwn.never rfl (pi_list (pv 0)) (pg_name (i := 1) sc_need_alike.nd rfl (Or.inl rfl))
        (pss_one (ps_expr (pe_call G_need_sizes hr3 rfl T.g_need_sizes T.k_need_sizes T.b_need_sizes .nil passL (pa_cons (pv 1) (pa_cons (pe_call G_sizes_of hr1 rfl T.g_sizes_of T.k_sizes_of T.b_sizes_of .nil pass0 (pa_cons (pe_ix ix_list (pv 0) pe_int (fun _ _ => rfl)) pa_nil)) pa_nil)))))))), ?_⟩
    refine ⟨_, rfl, q, rfl, ⟨_, hq⟩, for_list (K := K) (a := q) (xs := txV ls) (fun i σ H' => Same H H' ∧ ∃ x1, σ = [some (.ref q), x1]) ⟨Same.refl _, _, rfl⟩ (fun i σ H' _ h => h.1.seq hq) ?_ ?_⟩
    · rintro i x σ H1 e ⟨s1, x1, rfl⟩
      obtain ⟨l, rfl, hl⟩ := get i x e
      exact ⟨_, rfl, l, rfl, Nat.le_trans (hp l hl).1.len (by decide), (hp l hl).1.pf, fun H2 s2 => ⟨s1.trans s2, _, rfl⟩⟩
    · rintro σ H1 ⟨s1, x1, rfl⟩
      refine ⟨_, rfl, q, rfl, ⟨_, s1.seq hq⟩, for_list (K := K) (a := q) (xs := txV ls) (fun i σ H' => Same H H' ∧ ∃ x1, σ = [some (.ref q), x1]) ⟨s1, _, rfl⟩ (fun i σ H' _ h => h.1.seq hq) ?_ ?_⟩
      · rintro i x σ H2 e ⟨s2, x2, rfl⟩
        obtain ⟨l, rfl, hl⟩ := get i x e
        obtain ⟨l0, rest, e0⟩ : ∃ l0 rest, ls = l0 :: rest := by
          cases q : ls with
          | nil => rw [q] at h1; simp at h1
          | cons a b => exact ⟨a, b, rfl⟩
        have p0 := hp l0 (by rw [e0]; exact List.mem_cons_self)
        have len0 := p0.1.len
        refine ⟨_, rfl, _, rfl, q, _, 0, _, rfl, rfl, s2.seq hq, atI_nat (j := 0) (by rw [e0] <;> rfl), l0, rfl, by omega, fun p H3 s3 np hp3 => ?_⟩
        refine ⟨l, p, szs l0, rfl, Nat.le_trans (hp l hl).1.len (by decide), (hp l hl).1.pf, SqT.of hp3, ?_⟩
        have es : szs l = szs l0 := by
          have := (hp l hl).2
          rw [e0] at this
          exact this
        rw [if_pos es]
        exact fun H4 s4 => ⟨(s2.trans s3).trans s4, _, rfl⟩
      · rintro σ H2 ⟨s2, x2, rfl⟩
        exact ret _ s2
theorem two_ok {l m : List Nat} (h1 : IsP l) (h2 : IsP m) (h : szs m = szs l) : ∀ x ∈ [l, m], IsP x ∧ szs x = szs (([l, m] : List (List Nat)).headD []) := fun x hx => by
  rcases List.mem_cons.mp hx with e | e
  · rw [e]; exact ⟨h1, rfl⟩
  · rw [List.mem_singleton.mp e]; exact ⟨h2, h⟩
theorem ok_boxG (T : Txp K mg z) : FnOk P wo K mg base CX0 6 z.a_box z.d_box ["one", "other"] spBoxG := by
  refine T.F_box.ok sc_box (fun vs H Q E h => ?_) (fun cdv A outer s H vs Q E hr h => ?_)
  · obtain ⟨l, m, rfl, _⟩ := h
    rfl
  · obtain ⟨l, m, rfl, hl, hm, hs, hu, ret⟩ := h
    have hr4 : Room 5 _ := hr
    have hr2 : Room 3 _ := hr.mono (by decide)
    have G_need_alike : FnOk P wo K mg base CX0 5 z.a_need_alike z.d_need_alike ["texts"] (spAlikeG K) := ok_need_alikeG T
    have G_unlike_bits : FnOk P wo K mg base CX0 3 z.a_unlike_bits z.d_unlike_bits ["one", "other"] spUnl := ok_unlike_bits T
    obtain ⟨tM, gM⟩ := T.g_MOST_UNLIKE_BITS
    have len := hl.len
    have eqlen : l.length = m.length := (al_two hl hm hs).len
    have u10 : (2 : Nat) ^ unl l m ≤ 1024 := by
      have := Nat.pow_le_pow_right (n := 2) (by decide) hu
      exact this
    refine ⟨_, (pss_cons (ps_expr (pe_call G_need_alike hr4 rfl T.g_need_alike T.k_need_alike T.b_need_alike .nil pass0 (pa_cons (pe_lst (pa_cons (pv 0) (pa_cons (pv 1) pa_nil))) pa_nil)))
      (pss_cons (ps_if (pt_cmpR op_gt (pe_callB call_len_seq (by rfl) T.n_len (by decide +kernel) (pa_cons (pe_call G_unlike_bits hr2 rfl T.g_unlike_bits T.k_unlike_bits T.b_unlike_bits .nil pass0 (pa_cons (pv 0) (pa_cons (pv 1) pa_nil))) pa_nil)) (pe_glob (v := .int 10) rfl gM ⟨_, rfl⟩) (nomark _))
        (pss_one ps_no)
        pss_nil)
      (pss_cons (ps_set (i := 2) sc_box.nd rfl (Or.inl rfl) (pe_lst (pa_cons pe_str pa_nil)))
      (pss_cons (ps_for PassesOwn.never rfl (pi_zipS2 rfl T.n_zip (pa_cons (pv 0) (pa_cons (pv 1) pa_nil))) (pg_tup rfl (pgs_cons (pg_name (i := 3) sc_box.nd rfl (Or.inl rfl)) (pgs_cons (pg_name (i := 4) sc_box.nd rfl (Or.inl rfl)) pgs_nil)))
        (pss_cons (ps_set (i := 5) sc_box.nd rfl (Or.inr rfl) (pe_ifExp (pt_cmpR op_eq (pv 3) (pv 4) (nomark _)) (pe_tup (pa_cons (pv 3) pa_nil)) (pe_tup (pa_cons pe_str (pa_cons pe_str pa_nil)))))
        (pss_one (by refine' ps_setLc2 (own := [("text", 6), ("sign", 7)]) (vs1 := [7]) (tt := tYes) (tt1 := tYes) (g := gName 6) (g1 := gName 7) (i := 2) rfl sc_box.nd rfl rfl (sw_true rfl rfl rfl (by decide +kernel)) ?hi (blkOk_by (N := ["one", "other", "found", "a", "b", "signs", "text", "sign"]) (sc := defScope s_box) (by first | decide +kernel | kernel_rfl | rfl)) (by decide) ?hg ?ht ?hi1 ?hg1 ?ht1 ?he (by intro _; rfl) (by intro _ _; rfl); (case hi => exact (pi_list (pv 2))); (case hg => exact fun _ _ _ _ _ => (pg_name (i := 6) sc_box.nd rfl (Or.inl rfl))); (case ht => exact fun _ _ _ _ _ => pts_nil); (case hi1 => exact fun _ _ _ _ _ => (pi_tupK (K := K) rfl (pv 5))); (case hg1 => exact fun _ _ _ _ _ => (pg_name (i := 7) sc_box.nd rfl (Or.inl rfl))); (case ht1 => exact fun _ _ _ _ _ => pts_nil); (case he => exact fun _ _ _ _ _ => (pe_op op_add_str (pv 6) (pv 7)))))))
      (pss_one (ps_ret (pv 2))))))), ?_⟩
    refine ⟨_, rfl, _, rfl, by show 2 ≤ sizeLine; decide, fun q hq => ?_⟩
    have s0 := smN (o := .lst (txV [l, m])) (Same.refl H) hq
    refine ⟨q, [l, m], rfl, SqL.of upd_same, by show 1 ≤ 2; decide, two_ok hl hm hs, fun H1 s1 => ?_⟩
    have s01 := s0.trans s1
    refine ⟨_, rfl, _, rfl, l, m, rfl, by omega, by omega, fun D0 H2 s2 n0 d0 => ?_⟩
    refine ⟨D0, _, rfl, .inl (SqL.of d0), ?_⟩
    rw [nums_ln, unlNs_len (al_two hl hm hs)]
    refine ⟨_, _, rfl, rfl, _, rfl, ?_⟩
    rw [show unlZ l m = unl l m from rfl, decide_eq_false (show ¬ ((10 : Int) < (unl l m : Nat)) by omega)]
    refine iteF ?_
    refine ⟨by show 1 ≤ sizeLine; decide, fun f0 h0 => ?_⟩
    have s02 := s01.trans s2
    refine ⟨_, rfl, _, rfl, S l, S m, rfl, ?_⟩
    rw [S_sz, S_sz, ← eqlen, Nat.min_self]
    refine for_T (fun i σ H' => Same H H' ∧ ∃ (f : Addr) (F : List (List Nat)) (x3 x4 x5 x6 x7 : Option V), σ = [some (.str (S l)), some (.str (S m)), some (.ref f), x3, x4, x5, x6, x7] ∧ H f = none ∧ H' f = some (.lst (txV F)) ∧ bxs F (l.drop i) (m.drop i) = bxs [[]] l m ∧ (∀ t ∈ F, t.length = i) ∧ F.length * 2 ^ unl (l.drop i) (m.drop i) = 2 ^ unl l m)
      ⟨smN s02 h0, f0, [[]], none, none, none, none, none, rfl, s02.free h0, by rw [upd_same, S_e] <;> rfl, rfl, (fun t ht => by rw [List.mem_singleton.mp ht] <;> rfl), by simp⟩ ?_ ?_
    · rintro i Tu σ H3 hi ⟨s3, f, F, x3, x4, x5, x6, x7, rfl, hf, hF, eb, tl, fl⟩ hT
      have g1 : l[i]? = some l[i] := List.getElem?_eq_getElem hi
      have g2 : m[i]? = some (m[i]'(by omega)) := List.getElem?_eq_getElem (by omega)
      have d1 : l.drop i = l[i] :: l.drop (i + 1) := List.drop_eq_getElem_cons hi
      have d2 : m.drop i = (m[i]'(by omega)) :: m.drop (i + 1) := List.drop_eq_getElem_cons (by omega)
      have e1 : sgn (S l) i = S [l[i]] := S_sgn g1
      have e2 : sgn (S m) i = S [m[i]'(by omega)] := S_sgn g2
      generalize l[i] = a at g1 d1 e1
      generalize (m[i]'(by omega)) = b at g2 d2 e2
      rw [d1, d2] at eb fl
      rw [bxs_cons] at eb
      rw [unl_cons] at fl
      have F1024 : F.length ≤ 1024 := by
        have : 1 ≤ 2 ^ ((if a = b then 0 else 1) + unl (l.drop (i + 1)) (m.drop (i + 1))) := Nat.one_le_two_pow
        have := Nat.le_mul_of_pos_right F.length this
        omega
      have s4 := smN (o := .tup [.str (sgn (S l) i), .str (sgn (S m) i)]) s3 hT
      have hF4 := smN (o := .tup [.str (sgn (S l) i), .str (sgn (S m) i)]) (Same.refl H3) hT _ _ hF
      refine ⟨Tu, [.str (S [a]), .str (S [b])], rfl, SqT.of (by rw [upd_same, e1, e2]), rfl, ?_⟩
      refine ⟨_, _, rfl, ?_⟩
      refine ⟨_, _, rfl, ?_⟩
      refine ⟨rfl, ?_⟩
      refine ⟨_, rfl, _, rfl, rfl, _, rfl, ?_⟩
      refine ite2 (fun h => ?_) (fun h => ?_)
      · have eab : a = b := by simpa using S_eq.mp (of_decide_eq_true h)
        refine ⟨_, rfl, by show 1 ≤ sizeLine; decide, fun tt htt => ?_⟩
        have s5 := smN (o := .tup [.str (S [a])]) s4 htt
        have hl5 := smN (o := .tup [.str (S [a])]) (Same.refl _) htt _ _ hF4
        have t5 : (upd (upd H3 Tu (.tup [.str (sgn (S l) i), .str (sgn (S m) i)])) tt (.tup [.str (S [a])])) tt = some (.tup (sgV (sg2 a b))) := by
          rw [upd_same, sg2, if_pos eab] <;> rfl
        generalize (upd (upd H3 Tu (.tup [.str (sgn (S l) i), .str (sgn (S m) i)])) tt _) = H5 at s5 hl5 t5 ⊢
        have nsg : (sg2 a b).length ≤ 2 := by unfold sg2; split <;> simp
        have esg : (sg2 a b).length = 2 ^ (if a = b then 0 else 1) := by unfold sg2; split <;> rfl
        refine ⟨_, rfl, f, rfl, ⟨_, SqL.of hl5⟩, fun D hD => ?_⟩
        have HD : H D = none := s5.free hD
        have nfD : f ≠ D := ne_of_none hl5 hD
        have ntD : tt ≠ D := ne_of_none t5 hD
        refine lc2_names (K := K) (a := f) (b := tt) (xs := txV F) (ys := sgV (sg2 a b)) (fun i j H' => Same H H' ∧ H' f = some (.lst (txV F)) ∧ H' tt = some (.tup (sgV (sg2 a b))) ∧ H' D = some (.lst (txV (cont F (sg2 a b) i j))))
          ⟨smN s5 hD, smN (Same.refl _) hD _ _ hl5, smN (Same.refl _) hD _ _ t5, by rw [upd_same]; rfl⟩ (fun _ _ H' h => ⟨SqL.of h.2.1, SqT.of h.2.2.1⟩) (fun _ => rfl) (fun _ => rfl) (fun _ _ => rfl) ?_ ?_ ?_
        · rintro u v x y H6 eu ev ⟨s6, f6, t6, d6⟩
          obtain ⟨t, gt, rfl⟩ := txV_get eu
          obtain ⟨c, gc, rfl⟩ := sgV_get ev
          have tlen := tl t (List.mem_of_getElem? gt)
          have lz : (S t).length + (S [c]).length ≤ sizeLine := by
            rw [S_ln, S_ln, tlen]
            exact Nat.le_trans (show i + 1 ≤ 1000 by omega) (by decide)
          have ult := (List.getElem?_eq_some_iff.mp gt).1
          have acl : (txV (cont F (sg2 a b) u v)).length < sizeLine := by
            rw [List.length_map, List.length_map]
            refine Nat.lt_of_le_of_lt (Nat.le_trans cont_len (Nat.mul_le_mul (show u + 1 ≤ 1024 by omega) nsg)) (by decide)
          refine ⟨_, rfl, _, rfl, _, _, rfl, rfl, lz, _, d6, acl, ?_⟩
          refine ⟨fun b o e => by rw [upd_ne (ne_of_none e HD)]; exact s6 b o e, by rw [upd_ne nfD]; exact f6, by rw [upd_ne ntD]; exact t6, ?_⟩
          rw [upd_same, cont_step gt gc, SX.S_cat]
          simp [txV]
        · rintro u H6 hu2 ⟨s6, f6, t6, d6⟩
          refine ⟨s6, f6, t6, ?_⟩
          rw [List.length_map, List.length_map] at hu2
          rw [d6, show (sgV (sg2 a b)).length = (sg2 a b).length from List.length_map _, cont_next hu2]
        · rintro H6 ⟨s6, f6, t6, d6⟩
          rw [List.length_map, List.length_map] at d6
          have ec : cont F (sg2 a b) F.length 0 = F.flatMap fun t => (sg2 a b).map fun c => t ++ [c] := by
            unfold cont
            rw [List.take_length, List.take_zero, List.map_nil, List.append_nil]
          rw [ec] at d6
          refine ⟨s6, D, _, _, _, _, _, _, rfl, HD, d6, eb, fun t ht => ?_, ?_⟩
          · obtain ⟨t0, h0, h1⟩ := List.mem_flatMap.mp ht
            obtain ⟨c, _, rfl⟩ := List.mem_map.mp h1
            rw [List.length_append, tl t0 h0] <;> rfl
          · rw [flat_len, esg, Nat.mul_assoc, ← Nat.pow_add, fl]
      · have eab : a ≠ b := fun e => by subst e; simp at h
        refine ⟨by show 2 ≤ sizeLine; decide, fun tt htt => ?_⟩
        have s5 := smN (o := .tup [.str (Str.ofString "0"), .str (Str.ofString "1")]) s4 htt
        have hl5 := smN (o := .tup [.str (Str.ofString "0"), .str (Str.ofString "1")]) (Same.refl _) htt _ _ hF4
        have t5 : (upd (upd H3 Tu (.tup [.str (sgn (S l) i), .str (sgn (S m) i)])) tt (.tup [.str (Str.ofString "0"), .str (Str.ofString "1")])) tt = some (.tup (sgV (sg2 a b))) := by
          rw [upd_same, sg2, if_neg eab] <;> rfl
        generalize (upd (upd H3 Tu (.tup [.str (sgn (S l) i), .str (sgn (S m) i)])) tt _) = H5 at s5 hl5 t5 ⊢
        have nsg : (sg2 a b).length ≤ 2 := by unfold sg2; split <;> simp
        have esg : (sg2 a b).length = 2 ^ (if a = b then 0 else 1) := by unfold sg2; split <;> rfl
        refine ⟨_, rfl, f, rfl, ⟨_, SqL.of hl5⟩, fun D hD => ?_⟩
        have HD : H D = none := s5.free hD
        have nfD : f ≠ D := ne_of_none hl5 hD
        have ntD : tt ≠ D := ne_of_none t5 hD
        refine lc2_names (K := K) (a := f) (b := tt) (xs := txV F) (ys := sgV (sg2 a b)) (fun i j H' => Same H H' ∧ H' f = some (.lst (txV F)) ∧ H' tt = some (.tup (sgV (sg2 a b))) ∧ H' D = some (.lst (txV (cont F (sg2 a b) i j))))
          ⟨smN s5 hD, smN (Same.refl _) hD _ _ hl5, smN (Same.refl _) hD _ _ t5, by rw [upd_same]; rfl⟩ (fun _ _ H' h => ⟨SqL.of h.2.1, SqT.of h.2.2.1⟩) (fun _ => rfl) (fun _ => rfl) (fun _ _ => rfl) ?_ ?_ ?_
        · rintro u v x y H6 eu ev ⟨s6, f6, t6, d6⟩
          obtain ⟨t, gt, rfl⟩ := txV_get eu
          obtain ⟨c, gc, rfl⟩ := sgV_get ev
          have tlen := tl t (List.mem_of_getElem? gt)
          have lz : (S t).length + (S [c]).length ≤ sizeLine := by
            rw [S_ln, S_ln, tlen]
            exact Nat.le_trans (show i + 1 ≤ 1000 by omega) (by decide)
          have ult := (List.getElem?_eq_some_iff.mp gt).1
          have acl : (txV (cont F (sg2 a b) u v)).length < sizeLine := by
            rw [List.length_map, List.length_map]
            refine Nat.lt_of_le_of_lt (Nat.le_trans cont_len (Nat.mul_le_mul (show u + 1 ≤ 1024 by omega) nsg)) (by decide)
          refine ⟨_, rfl, _, rfl, _, _, rfl, rfl, lz, _, d6, acl, ?_⟩
          refine ⟨fun b o e => by rw [upd_ne (ne_of_none e HD)]; exact s6 b o e, by rw [upd_ne nfD]; exact f6, by rw [upd_ne ntD]; exact t6, ?_⟩
          rw [upd_same, cont_step gt gc, SX.S_cat]
          simp [txV]
        · rintro u H6 hu2 ⟨s6, f6, t6, d6⟩
          refine ⟨s6, f6, t6, ?_⟩
          rw [List.length_map, List.length_map] at hu2
          rw [d6, show (sgV (sg2 a b)).length = (sg2 a b).length from List.length_map _, cont_next hu2]
        · rintro H6 ⟨s6, f6, t6, d6⟩
          rw [List.length_map, List.length_map] at d6
          have ec : cont F (sg2 a b) F.length 0 = F.flatMap fun t => (sg2 a b).map fun c => t ++ [c] := by
            unfold cont
            rw [List.take_length, List.take_zero, List.map_nil, List.append_nil]
          rw [ec] at d6
          refine ⟨s6, D, _, _, _, _, _, _, rfl, HD, d6, eb, fun t ht => ?_, ?_⟩
          · obtain ⟨t0, h0, h1⟩ := List.mem_flatMap.mp ht
            obtain ⟨c, _, rfl⟩ := List.mem_map.mp h1
            rw [List.length_append, tl t0 h0] <;> rfl
          · rw [flat_len, esg, Nat.mul_assoc, ← Nat.pow_add, fl]
    · rintro σ H3 ⟨s3, f, F, x3, x4, x5, x6, x7, rfl, hf, hF, eb, tl, fl⟩
      rw [List.drop_length, show m.drop l.length = [] by rw [eqlen, List.drop_length]] at eb
      rw [show F = bxs [[]] l m from eb] at hF
      exact ⟨_, rfl, ret f H3 s3 hf hF⟩
end
end Fb
set_option maxRecDepth 100000
set_option maxHeartbeats 4000000
open PySem PySem.Spec PyProof.Rows L2
open SX (S)
namespace Fb
abbrev whs (bs : List Nat) : List (Option Int) := bs.map fun b : Nat => some (b : Int)
theorem wh_nums {K : PySem.W.Frag} {H : Hp} : ∀ bs : List Nat, Paired (Wh K H) (nums bs) (whs bs)
  | [] => .nil
  | b :: bs => .cons (.inl ⟨_, rfl, rfl⟩) (wh_nums bs)
theorem inR_nat {m b : Nat} (h : b < m) : inR (m : Nat) (some (b : Int)) = true := by
  show (decide (0 ≤ (b : Int)) && decide ((b : Int) < (m : Nat))) = true
  rw [decide_eq_true (by omega), decide_eq_true (by omega)]
  rfl
theorem whs_in {m : Nat} : ∀ {bs : List Nat}, (∀ b ∈ bs, b < m) → (whs bs).all (inR (m : Nat)) = true
  | [], _ => rfl
  | b :: bs, h => by
    show (inR (m : Nat) (some (b : Int)) && (whs bs).all (inR (m : Nat))) = true
    rw [whs_in (bs := bs) fun c hc => h c (List.mem_cons_of_mem _ hc), inR_nat (h b List.mem_cons_self)]
    rfl
section
variable {P : Program} {wo : World} {K : PySem.W.Frag} {mg : Str → Option Value} {base : Heap} {z : Pz}
theorem unl_le (l m : List Nat) : unl l m ≤ l.length := by
  unfold unl
  refine Nat.le_trans (List.length_filter_le _ _) ?_
  rw [List.length_zipWith]
  omega
theorem ok_box_size (T : Txp K mg z) : FnOk P wo K mg base CX0 6 z.a_box_size z.d_box_size ["one", "other"] spBoxSize := by
  refine T.F_box_size.ok sc_box_size (fun vs H Q E h => ?_) (fun cdv A outer s H vs Q E hr h => ?_)
  · obtain ⟨l, m, rfl, _⟩ := h
    rfl
  · obtain ⟨l, m, rfl, hl, hm, hs, ret⟩ := h
    have hr4 : Room 5 _ := hr
    have hr2 : Room 3 _ := hr.mono (by decide)
    have G_need_alike : FnOk P wo K mg base CX0 5 z.a_need_alike z.d_need_alike ["texts"] (spAlikeG K) := ok_need_alikeG T
    have G_unlike_bits : FnOk P wo K mg base CX0 3 z.a_unlike_bits z.d_unlike_bits ["one", "other"] spUnl := ok_unlike_bits T
    have len := hl.len
    have ul := unl_le l m
    refine ⟨_, (pss_cons (ps_expr (pe_call G_need_alike hr4 rfl T.g_need_alike T.k_need_alike T.b_need_alike .nil pass0 (pa_cons (pe_lst (pa_cons (pv 0) (pa_cons (pv 1) pa_nil))) pa_nil)))
      (pss_one (ps_ret (pe_op op_oneShl pe_int (pe_callB call_len_seq (by rfl) T.n_len (by decide +kernel) (pa_cons (pe_call G_unlike_bits hr2 rfl T.g_unlike_bits T.k_unlike_bits T.b_unlike_bits .nil pass0 (pa_cons (pv 0) (pa_cons (pv 1) pa_nil))) pa_nil)))))), ?_⟩
    refine ⟨_, rfl, _, rfl, by show 2 ≤ sizeLine; decide, fun q hq => ?_⟩
    have s0 := smN (o := .lst (txV [l, m])) (Same.refl H) hq
    refine ⟨q, [l, m], rfl, SqL.of upd_same, by show 1 ≤ 2; decide, two_ok hl hm hs, fun H1 s1 => ?_⟩
    have s01 := s0.trans s1
    have eqlen := (al_two hl hm hs).len
    refine ⟨_, rfl, _, rfl, l, m, rfl, by omega, by omega, fun D0 H2 s2 n0 d0 => ?_⟩
    refine ⟨D0, _, rfl, .inl (SqL.of d0), ?_⟩
    rw [nums_ln, unlNs_len (al_two hl hm hs)]
    refine ⟨unl l m, rfl, rfl, by omega, ?_⟩
    have q := ret _ (s01.trans s2)
    rw [show ((2 ^ unl l m : Nat) : Int) = 2 ^ unl l m from by push_cast; rfl] at q
    exact q
theorem three_ok {a l m : List Nat} (h0 : IsP a) (h1 : IsP l) (h2 : IsP m) (e1 : szs l = szs a) (e2 : szs m = szs a) : ∀ x ∈ [a, l, m], IsP x ∧ szs x = szs (([a, l, m] : List (List Nat)).headD []) := fun x hx => by
  rcases List.mem_cons.mp hx with e | e
  · rw [e]; exact ⟨h0, rfl⟩
  · rcases List.mem_cons.mp e with e | e
    · rw [e]; exact ⟨h1, e1⟩
    · rw [List.mem_singleton.mp e]; exact ⟨h2, e2⟩
theorem ok_in_box (T : Txp K mg z) : FnOk P wo K mg base CX0 6 z.a_in_box z.d_in_box ["z", "one", "other"] spInBox := by
  refine T.F_in_box.ok sc_in_box (fun vs H Q E h => ?_) (fun cdv A outer s H vs Q E hr h => ?_)
  · obtain ⟨y, l, m, rfl, _⟩ := h
    rfl
  · obtain ⟨y, l, m, rfl, hy, hl, hm, e1, e2, ret⟩ := h
    have hr4 : Room 5 _ := hr
    have G_need_alike : FnOk P wo K mg base CX0 5 z.a_need_alike z.d_need_alike ["texts"] (spAlikeG K) := ok_need_alikeG T
    have len := hl.len
    have y1 : y.length = l.length := (al_two hy hl e1).len
    have y2 : y.length = m.length := (al_two hy hm e2).len
    refine ⟨_, (pss_cons (ps_expr (pe_call G_need_alike hr4 rfl T.g_need_alike T.k_need_alike T.b_need_alike .nil pass0 (pa_cons (pe_lst (pa_cons (pv 0) (pa_cons (pv 1) (pa_cons (pv 2) pa_nil)))) pa_nil)))
      (pss_one (ps_ret (pe_callB (cr_all rfl) (by rfl) T.n_all (by decide +kernel) (pa_cons (by refine' pe_lc (own := [("sign", 3), ("a", 4), ("b", 5)]) (tt := tYes) (g := (gTup K 3 (gCons (gName 3) (gCons (gName 4) (gCons (gName 5) gNil))))) rfl sc_in_box.nd ?hi (blkOk_by (N := ["z", "one", "other", "sign", "a", "b"]) (sc := defScope s_in_box) (by first | decide +kernel | kernel_rfl | rfl)) ?hg ?ht ?he (by intro _; rfl); (case hi => exact (pi_zipS3 rfl T.n_zip (pa_cons (pv 0) (pa_cons (pv 1) (pa_cons (pv 2) pa_nil))))); (case hg => exact fun _ _ _ _ _ => (pg_tup rfl (pgs_cons (pg_name (i := 3) sc_in_box.nd rfl (Or.inl rfl) (.inr rfl)) (pgs_cons (pg_name (i := 4) sc_in_box.nd rfl (Or.inl rfl) (.inr rfl)) (pgs_cons (pg_name (i := 5) sc_in_box.nd rfl (Or.inl rfl) (.inr rfl)) pgs_nil))))); (case ht => exact fun _ _ _ _ _ => pts_nil); (case he => exact fun _ _ _ _ _ => (pe_or (pe_cmpR op_ne (pv 4) (pv 5) (nomark _)) (pe_one (pe_cmpR op_eq (pv 3) (pv 4) (nomark _)))))) pa_nil))))), ?_⟩
    refine ⟨_, rfl, _, rfl, _, rfl, by show 3 ≤ sizeLine; decide, fun q hq => ?_⟩
    have s0 := smN (o := .lst (txV [y, l, m])) (Same.refl H) hq
    refine ⟨q, [y, l, m], rfl, SqL.of upd_same, by show 1 ≤ 3; decide, three_ok hy hl hm e1 e2, fun H1 s1 => ?_⟩
    have s01 := s0.trans s1
    refine ⟨_, rfl, _, rfl, _, rfl, S y, S l, S m, rfl, fun D hD => ?_⟩
    rw [S_sz, S_sz, S_sz, ← y1, ← y2, Nat.min_self, Nat.min_self]
    refine lc_outT (outM fun i => V.bl (decide (l.getD i 0 ≠ m.getD i 0) || decide (y.getD i 0 = l.getD i 0))) hD outM_0 (fun i hi => by rw [outM_l]; exact small1 i (by omega)) (fun i Tu H2 Kc K0 lt s2 hT kc k0 => ?_) (fun H2 s2 e2 => ?_)
    · have g0 : y[i]? = some y[i] := List.getElem?_eq_getElem (by omega)
      have g1 : l[i]? = some (l[i]'(by omega)) := List.getElem?_eq_getElem (by omega)
      have g2 : m[i]? = some (m[i]'(by omega)) := List.getElem?_eq_getElem (by omega)
      have d0 : y.getD i 0 = y[i] := by rw [List.getD_eq_getElem?_getD, g0] <;> rfl
      have d1 : l.getD i 0 = (l[i]'(by omega)) := by rw [List.getD_eq_getElem?_getD, g1] <;> rfl
      have d2 : m.getD i 0 = (m[i]'(by omega)) := by rw [List.getD_eq_getElem?_getD, g2] <;> rfl
      have c0 : sgn (S y) i = S [y[i]] := S_sgn g0
      have c1 : sgn (S l) i = S [l[i]'(by omega)] := S_sgn g1
      have c2 : sgn (S m) i = S [m[i]'(by omega)] := S_sgn g2
      have st := outM_s (f := fun i => V.bl (decide (l.getD i 0 ≠ m.getD i 0) || decide (y.getD i 0 = l.getD i 0))) (i := i)
      rw [d0, d1, d2] at st
      generalize y[i] = u at st c0
      generalize (l[i]'(by omega)) = a at st c1
      generalize (m[i]'(by omega)) = b at st c2
      refine ⟨Tu, [.str (S [u]), .str (S [a]), .str (S [b])], rfl, SqT.of (by rw [hT, c0, c1, c2]), rfl, ?_⟩
      refine ⟨_, _, rfl, ?_⟩
      refine ⟨_, _, rfl, ?_⟩
      refine ⟨_, _, rfl, ?_⟩
      refine ⟨rfl, ?_⟩
      refine ⟨rfl, yes1 ?_⟩
      refine ⟨_, rfl, _, rfl, rfl, _, rfl, ?_⟩
      by_cases e : a = b
      · refine iteNS (by rw [e]) ?_
        refine ⟨_, rfl, _, rfl, rfl, kc _ _ (Same.refl _) ?_⟩
        rw [st, decide_eq_false (fun w => w e), Bool.false_or]
        congr 2
        refine congrArg V.bl ?_
        by_cases f : u = a
        · rw [f, decide_eq_true rfl, decide_eq_true rfl]
        · rw [decide_eq_false f, decide_eq_false fun w => f (by simpa using S_eq.mp w)]
      · rw [decide_eq_false (fun w => e (by simpa using S_eq.mp w))]
        refine iteT (kc _ _ (Same.refl _) ?_)
        rw [st, decide_eq_true e, Bool.true_or]
    · have e4 : outM (fun i => V.bl (decide (l.getD i 0 ≠ m.getD i 0) || decide (y.getD i 0 = l.getD i 0))) y.length = ((List.range l.length).map fun i => decide (l.getD i 0 ≠ m.getD i 0) || decide (y.getD i 0 = l.getD i 0)).map V.bl := by
        rw [y1, List.map_map]
        exact outM_all (by simp) fun i hi => by simp [hi]
      rw [e4] at e2
      refine ⟨D, _, rfl, SqL.of e2, ?_⟩
      have q := ret _ (s01.trans s2)
      unfold inbx at q
      rw [List.all_map]
      exact q
theorem ok_torn (T : Txp K mg z) : FnOk P wo K mg base CX0 6 z.a_torn z.d_torn ["one", "other", "early"] (spTorn K) := by
  refine T.F_torn.ok sc_torn (fun vs H Q E h => ?_) (fun cdv A outer s H vs Q E hr h => ?_)
  · obtain ⟨l, m, q, bs, rfl, _⟩ := h
    rfl
  · obtain ⟨l, m, q, bs, rfl, hl, hm, hs, hq, hbl, hb, ret⟩ := h
    have hr4 : Room 5 _ := hr
    have hr3 : Room 4 _ := hr.mono (by decide)
    have hr1 : Room 2 _ := hr.mono (by decide)
    have G_need_alike : FnOk P wo K mg base CX0 5 z.a_need_alike z.d_need_alike ["texts"] (spAlikeG K) := ok_need_alikeG T
    have G_places_of : FnOk P wo K mg base CX0 2 z.a_places_of z.d_places_of ["text"] spPlaces := ok_places_of T
    have G_need_bits : FnOk P wo K mg base (L2.CX P wo) 4 z.a_need_bits z.d_need_bits ["thing", "many"] (spNeedB K z.cNoBit) := ok_need_bits T
    have len := hl.len
    have lm : l.length = m.length := (al_two hl hm hs).len
    refine ⟨_, (pss_cons (ps_expr (pe_call G_need_alike hr4 rfl T.g_need_alike T.k_need_alike T.b_need_alike .nil pass0 (pa_cons (pe_lst (pa_cons (pv 0) (pa_cons (pv 1) pa_nil))) pa_nil)))
      (pss_cons (ps_set (i := 3) sc_torn.nd rfl (Or.inl rfl) (pe_call G_places_of hr1 rfl T.g_places_of T.k_places_of T.b_places_of .nil pass0 (pa_cons (pv 0) pa_nil)))
      (pss_cons (ps_expr (pe_call G_need_bits hr3 rfl T.g_need_bits T.k_need_bits T.b_need_bits .nil passL (pa_cons (pv 2) (pa_cons (pe_callB call_len_seq (by rfl) T.n_len (by decide +kernel) (pa_cons (pv 3) pa_nil)) pa_nil))))
      (pss_cons (ps_set (i := 4) sc_torn.nd rfl (Or.inl rfl) (pe_callTy (call_listS rfl) (by rfl) T.n_list (by decide +kernel) (pa_cons (pv 1) pa_nil)))
      (pss_cons (ps_for PassesOwn.never rfl (pi_list (pv 2)) (pg_name (i := 5) sc_torn.nd rfl (Or.inl rfl))
        (pss_one (ps_asg (pe_ix ix_str (pv 0) (pe_ix ix_list (pv 3) (pv 5) (fun _ _ => rfl)) (fun _ _ => rfl)) (pg_sub (pv 4) (pe_ix ix_list (pv 3) (pv 5) (fun _ _ => rfl)) set_list))))
      (pss_one (ps_ret (pe_joinK (K := K) rfl pe_str (pa_cons (pv 4) pa_nil))))))))), ?_⟩
    refine ⟨_, rfl, _, rfl, by show 2 ≤ sizeLine; decide, fun r hr' => ?_⟩
    have s0 := smN (o := .lst (txV [l, m])) (Same.refl H) hr'
    refine ⟨r, [l, m], rfl, SqL.of upd_same, by show 1 ≤ 2; decide, two_ok hl hm hs, fun H1 s1 => ?_⟩
    have s01 := s0.trans s1
    refine ⟨_, rfl, l, rfl, Nat.le_trans len (by decide), fun p H2 s2 np hp => ?_⟩
    have s02 := s01.trans s2
    have epl : (nums (plc l)).length = (bt l).length := by unfold nums; rw [List.length_map, plc_len]
    refine ⟨_, rfl, _, rfl, p, _, rfl, .inl (SqL.of hp), q, ((bt l).length : Nat), nums bs, whs bs, by rw [epl] <;> rfl, s02 _ _ hq, wh_nums bs, by unfold nums; rw [List.length_map]; exact hbl, ?_⟩
    rw [if_pos (whs_in hb)]
    intro H3 s3
    have s03 := s02.trans s3
    have hp3 := s3 _ _ hp
    refine ⟨_, rfl, m, rfl, Nat.le_trans (Nat.le_of_eq lm.symm) (Nat.le_trans len (by decide)), fun t ht => ?_⟩
    have s4 := smN (o := .lst (sgV m)) s03 ht
    have hp4 := smN (o := .lst (sgV m)) (Same.refl _) ht p _ hp3
    have ntp : t ≠ p := fun e => by rw [e, hp3] at ht; cases ht
    refine ⟨_, rfl, q, rfl, ⟨_, s4.seq (SqL.of hq)⟩, ?_⟩
    refine for_list (K := K) (a := q) (xs := nums bs) (fun i σ H' => Same H H' ∧ (∃ x5, σ = [some (.str (S l)), some (.str (S m)), some (.ref q), some (.ref p), some (.ref t), x5]) ∧ H' p = some (.lst (nums (plc l))) ∧ H t = none ∧
      H' t = some (.lst (sgV (trn l m (bs.take i))))) ⟨s4, ⟨_, rfl⟩, hp4, s03.free ht, upd_same⟩ (fun i σ H' _ h => h.1.seq (SqL.of hq)) ?_ ?_
    · rintro i x σ H5 e ⟨s5, ⟨x5, rfl⟩, hp5, nt, ht5⟩
      unfold nums at e
      rw [List.getElem?_map] at e
      cases eb : bs[i]? with
      | none => rw [eb] at e; cases e
      | some b =>
        rw [eb] at e
        cases e
        have lb := hb b (List.mem_of_getElem? eb)
        have lb2 : b < (plc l).length := by rw [plc_len]; exact lb
        have ep : (plc l)[b]? = some ((plc l).getD b 0) := by rw [List.getElem?_eq_getElem lb2, List.getD_eq_getElem?_getD, List.getElem?_eq_getElem lb2] <;> rfl
        have lp : (plc l).getD b 0 < l.length := plc_lt (List.mem_of_getElem? ep)
        have el : atI (S l).cps.toList (((plc l).getD b 0 : Nat) : Int) = some (l.getD ((plc l).getD b 0) 0) := atI_nat (by
          generalize (plc l).getD b 0 = w at lp
          show l[w]? = some (l.getD w 0)
          rw [List.getD_eq_getElem?_getD, List.getElem?_eq_getElem lp] <;> rfl)
        have at1 : atI (nums (plc l)) (b : Int) = some (.int ((plc l).getD b 0 : Nat)) := atI_nat (by unfold nums; rw [List.getElem?_map, ep] <;> rfl)
        refine ⟨_, rfl, _, rfl, _, rfl, p, nums (plc l), (b : Int), .int ((plc l).getD b 0 : Nat), rfl, rfl, SqL.of hp5, at1, ?_⟩
        refine ⟨S l, ((plc l).getD b 0 : Nat), _, rfl, rfl, by rw [S_ln]; exact Nat.le_trans len (by decide), el, ?_⟩
        refine ⟨_, rfl, _, rfl, _, rfl, p, nums (plc l), (b : Int), .int ((plc l).getD b 0 : Nat), rfl, rfl, SqL.of hp5, at1, ?_⟩
        refine ⟨t, _, ((plc l).getD b 0 : Nat), _, rfl, rfl, ht5, ixN_at (by rw [List.length_map, trn_len, ← lm]; exact lp), ?_⟩
        refine ⟨fun c o eo => ?_, ⟨_, rfl⟩, by rw [upd_ne (Ne.symm ntp)]; exact hp5, nt, ?_⟩
        · rw [upd_ne (ne_of_none eo nt)]
          exact s5 c o eo
        · rw [upd_same, take_s eb]
          unfold trn
          rw [List.foldl_append, List.foldl_cons, List.foldl_nil]
          show some (HO.lst ((List.map _ _).set _ _)) = some (HO.lst (List.map _ _))
          rw [List.map_set]
    · rintro σ H5 ⟨s5, ⟨x5, rfl⟩, hp5, nt, ht5⟩
      have en : (nums bs).length = bs.length := by unfold nums; rw [List.length_map]
      rw [en, List.take_length] at ht5
      refine ⟨rfl, _, rfl, "", t, (trn l m bs).map fun c => S [c], rfl, rfl, .inl (SqL.of (by rw [ht5, List.map_map] <;> rfl)), ?_, ?_⟩
      · rw [List.map_map, sum_signs, List.length_map, trn_len]
        show _ + _ * 0 ≤ _
        omega
      · rw [join_signs]
        exact ret _ s5
end
end Fb
set_option maxRecDepth 100000
set_option maxHeartbeats 4000000
open PySem PySem.Spec PyProof.Rows L2
open SX (S)
namespace Fb
open PySem PySem.Spec PyProof.Rows
/-! texts in order -/
abbrev Asc (F : List (List Nat)) : Prop := F.Pairwise fun a b => a < b
theorem asc_ext : ∀ {F G : List (List Nat)}, Asc F → Asc G → (∀ x, x ∈ F ↔ x ∈ G) → F = G
  | [], [], _, _, _ => rfl
  | [], b :: G, _, _, h => absurd ((h b).mpr List.mem_cons_self) (by simp)
  | a :: F, [], _, _, h => absurd ((h a).mp List.mem_cons_self) (by simp)
  | a :: F, b :: G, hF, hG, h => by
    obtain ⟨f1, f2⟩ := List.pairwise_cons.mp hF
    obtain ⟨g1, g2⟩ := List.pairwise_cons.mp hG
    have ab : a = b := by
      rcases List.mem_cons.mp ((h a).mp List.mem_cons_self) with e | e
      · exact e
      · rcases List.mem_cons.mp ((h b).mpr List.mem_cons_self) with e2 | e2
        · exact e2.symm
        · exact absurd (List.lt_trans (f1 b e2) (g1 a e)) (List.lt_irrefl a)
    subst ab
    have t : F = G := asc_ext f2 g2 fun x => by
      constructor
      · intro hx
        rcases List.mem_cons.mp ((h x).mp (List.mem_cons_of_mem _ hx)) with e | e
        · exact absurd (e ▸ f1 x hx) (List.lt_irrefl a)
        · exact e
      · intro hx
        rcases List.mem_cons.mp ((h x).mpr (List.mem_cons_of_mem _ hx)) with e | e
        · exact absurd (e ▸ g1 x hx) (List.lt_irrefl a)
        · exact e
    rw [t]
theorem rising_asc : ∀ (p : List Nat) (F : List (List Nat)), risingS (S p) (F.map S) = true → (p :: F).Nodup → Asc (p :: F)
  | p, [], _, _ => List.pairwise_singleton _ _
  | p, x :: F, h, n => by
    have h' : (!ltCps (S x).cps.toList (S p).cps.toList && risingS (S x) (F.map S)) = true := h
    rw [Bool.and_eq_true, ltCps_eq] at h'
    obtain ⟨n1, n2⟩ := List.nodup_cons.mp n
    have r := rising_asc x F h'.2 n2
    have nlt : ¬ x < p := by simpa [S] using h'.1
    have px : p < x := by
      rcases List.le_iff_lt_or_eq.mp (List.not_lt.mp nlt) with e | e
      · exact e
      · exact absurd (e ▸ List.mem_cons_self) n1
    refine List.pairwise_cons.mpr ⟨fun y hy => ?_, r⟩
    rcases List.mem_cons.mp hy with e | e
    · rw [e]; exact px
    · exact List.lt_trans px ((List.pairwise_cons.mp r).1 y e)
theorem sorted_asc {F : List (List Nat)} (h : sortedS (F.map S) = true) (n : F.Nodup) : Asc F := by
  cases F with
  | nil => exact List.Pairwise.nil
  | cons p F => exact rising_asc p F h n
/-! members of a box -/
def InB : List Nat → List Nat → List Nat → Prop
  | [], [], [] => True
  | c :: z, a :: l, b :: m => c ∈ sg2 a b ∧ InB z l m
  | _, _, _ => False
theorem inB_nil {z : List Nat} : InB z [] [] ↔ z = [] := by
  cases z with
  | nil => exact ⟨fun _ => rfl, fun _ => trivial⟩
  | cons c z => exact ⟨fun h => h.elim, fun h => by cases h⟩
theorem inB_cons {z l m : List Nat} {a b : Nat} : InB z (a :: l) (b :: m) ↔ ∃ c w, z = c :: w ∧ c ∈ sg2 a b ∧ InB w l m := by
  cases z with
  | nil => exact ⟨fun h => h.elim, fun ⟨c, w, e, _⟩ => by cases e⟩
  | cons c z => exact ⟨fun h => ⟨c, z, rfl, h.1, h.2⟩, fun ⟨c', w, e, h1, h2⟩ => by cases e; exact ⟨h1, h2⟩⟩
theorem mem_bxs : ∀ {l m : List Nat} {f : List (List Nat)} {z : List Nat}, l.length = m.length → (z ∈ bxs f l m ↔ ∃ t ∈ f, ∃ u, z = t ++ u ∧ InB u l m)
  | [], [], f, z, _ => by
    show z ∈ f ↔ _
    constructor
    · exact fun h => ⟨z, h, [], by simp, trivial⟩
    · rintro ⟨t, ht, u, rfl, hu⟩
      rw [inB_nil.mp hu, List.append_nil]
      exact ht
  | a :: l, b :: m, f, z, h => by
    rw [bxs_cons, mem_bxs (by simpa using h)]
    constructor
    · rintro ⟨t, ht, u, rfl, hu⟩
      obtain ⟨t0, h0, h1⟩ := List.mem_flatMap.mp ht
      obtain ⟨c, hc, rfl⟩ := List.mem_map.mp h1
      exact ⟨t0, h0, c :: u, by simp, hc, hu⟩
    · rintro ⟨t, ht, u, rfl, hu⟩
      obtain ⟨c, w, rfl, hc, hw⟩ := inB_cons.mp hu
      exact ⟨t ++ [c], List.mem_flatMap.mpr ⟨t, ht, List.mem_map.mpr ⟨c, hc, rfl⟩⟩, w, by simp, hw⟩
  | [], _ :: _, _, _, h => by simp at h
  | _ :: _, [], _, _, h => by simp at h
theorem mem_box {l m z : List Nat} (h : l.length = m.length) : z ∈ bxs [[]] l m ↔ InB z l m := by
  rw [mem_bxs h]
  constructor
  · rintro ⟨t, ht, u, rfl, hu⟩
    rw [List.mem_singleton.mp ht]
    exact hu
  · exact fun hz => ⟨[], List.mem_singleton_self _, z, rfl, hz⟩
theorem sg2_asc (a b : Nat) : (sg2 a b).Pairwise (· < ·) := by
  unfold sg2
  split
  · exact List.pairwise_singleton _ _
  · decide
theorem lt_app : ∀ {s t : List Nat} (u v : List Nat), s.length = t.length → s < t → s ++ u < t ++ v
  | [], [], _, _, _, h => absurd h (List.lt_irrefl [])
  | a :: s, b :: t, u, v, e, h => by
    rcases List.cons_lt_cons_iff.mp h with h1 | ⟨h1, h2⟩
    · exact List.cons_lt_cons_iff.mpr (.inl h1)
    · exact List.cons_lt_cons_iff.mpr (.inr ⟨h1, lt_app u v (by simpa using e) h2⟩)
  | [], _ :: _, _, _, e, _ => by simp at e
  | _ :: _, [], _, _, e, _ => by simp at e
theorem lt_pre : ∀ (t : List Nat) {u v : List Nat}, u < v → t ++ u < t ++ v
  | [], _, _, h => h
  | a :: t, _, _, h => List.cons_lt_cons_iff.mpr (.inr ⟨rfl, lt_pre t h⟩)
theorem asc_flat {n : Nat} {sg : List Nat} (hs : sg.Pairwise (· < ·)) : ∀ {f : List (List Nat)}, Asc f → (∀ t ∈ f, t.length = n) → Asc (f.flatMap fun t => sg.map fun c => t ++ [c])
  | [], _, _ => List.Pairwise.nil
  | t :: f, h, hl => by
    obtain ⟨h1, h2⟩ := List.pairwise_cons.mp h
    rw [List.flatMap_cons]
    refine List.pairwise_append.mpr ⟨?_, asc_flat hs h2 fun x hx => hl x (List.mem_cons_of_mem _ hx), fun x hx y hy => ?_⟩
    · exact List.pairwise_map.mpr (hs.imp fun {a b} q => lt_pre t (List.cons_lt_cons_iff.mpr (.inl q)))
    · obtain ⟨c, _, rfl⟩ := List.mem_map.mp hx
      obtain ⟨t2, ht2, hy2⟩ := List.mem_flatMap.mp hy
      obtain ⟨d, _, rfl⟩ := List.mem_map.mp hy2
      exact lt_app [c] [d] (by rw [hl t List.mem_cons_self, hl t2 (List.mem_cons_of_mem _ ht2)]) (h1 t2 ht2)
theorem asc_bxs : ∀ {l m : List Nat} {n : Nat} {f : List (List Nat)}, Asc f → (∀ t ∈ f, t.length = n) → Asc (bxs f l m)
  | a :: l, b :: m, n, f, h, hl => by
    rw [bxs_cons]
    refine asc_bxs (n := n + 1) (asc_flat (sg2_asc a b) h hl) fun t ht => ?_
    obtain ⟨t0, h0, h1⟩ := List.mem_flatMap.mp ht
    obtain ⟨c, _, rfl⟩ := List.mem_map.mp h1
    rw [List.length_append, hl t0 h0] <;> rfl
  | [], _, _, _, h, _ => by unfold bxs; exact h
  | _ :: _, [], _, _, h, _ => by unfold bxs; exact h
theorem asc_box (l m : List Nat) : Asc (bxs [[]] l m) := asc_bxs (n := 0) (List.pairwise_singleton _ _) fun t ht => by rw [List.mem_singleton.mp ht] <;> rfl
end Fb
set_option maxRecDepth 100000
set_option maxHeartbeats 4000000
open PySem PySem.Spec PyProof.Rows L2
open SX (S)
namespace Fb
/-! torn texts are the members of the box -/
theorem al_get : ∀ {l m : List Nat}, Al l m → ∀ j, j < l.length → AlS (l.getD j 0) (m.getD j 0)
  | _, _, .nil, j, h => by simp at h
  | a :: l, b :: m, .cons r t, 0, _ => r
  | a :: l, b :: m, .cons r t, j + 1, h => by
    have := al_get t j (by simpa using h)
    simpa using this
theorem inB_iff : ∀ {l m z : List Nat}, InB z l m ↔ z.length = l.length ∧ l.length = m.length ∧ ∀ j, j < l.length → z.getD j 0 ∈ sg2 (l.getD j 0) (m.getD j 0)
  | [], [], z => by
    rw [inB_nil]
    constructor
    · rintro rfl
      exact ⟨rfl, rfl, fun j h => by simp at h⟩
    · exact fun h => List.length_eq_zero_iff.mp (by simpa using h.1)
  | [], b :: m, z => by
    constructor
    · intro h; cases z <;> exact h.elim
    · intro h; simp at h
  | a :: l, [], z => by
    constructor
    · intro h; cases z <;> exact h.elim
    · intro h; simp at h
  | a :: l, b :: m, [] => by
    constructor
    · intro h; exact h.elim
    · intro h; simp at h
  | a :: l, b :: m, c :: z => by
    show c ∈ sg2 a b ∧ InB z l m ↔ _
    rw [inB_iff (l := l) (m := m) (z := z)]
    constructor
    · rintro ⟨h1, h2, h3, h4⟩
      refine ⟨by simpa using h2, by simpa using h3, fun j hj => ?_⟩
      cases j with
      | zero => simpa using h1
      | succ j => simpa using h4 j (by simpa using hj)
    · rintro ⟨h1, h2, h3⟩
      refine ⟨by simpa using h3 0 (by simp), by simpa using h1, by simpa using h2, fun j hj => ?_⟩
      simpa using h3 (j + 1) (by simpa using hj)
theorem trn_go (p l : List Nat) (j : Nat) : ∀ (bs x : List Nat), j < x.length → (bs.foldl (fun x b => x.set (p.getD b 0) (l.getD (p.getD b 0) 0)) x).getD j 0 = if (∃ b ∈ bs, p.getD b 0 = j) then l.getD j 0 else x.getD j 0
  | [], x, _ => by rw [if_neg (by simp)] <;> rfl
  | b :: bs, x, h => by
    rw [List.foldl_cons, trn_go p l j bs _ (by rw [List.length_set]; exact h)]
    by_cases e : ∃ c ∈ bs, p.getD c 0 = j
    · obtain ⟨c, hc, ec⟩ := e
      rw [if_pos ⟨c, hc, ec⟩, if_pos ⟨c, List.mem_cons_of_mem _ hc, ec⟩]
    · rw [if_neg e]
      by_cases f : p.getD b 0 = j
      · rw [if_pos ⟨b, List.mem_cons_self, f⟩, List.getD_eq_getElem?_getD, List.getElem?_set, if_pos f, if_pos (by rw [f]; exact h), f] <;> rfl
      · rw [if_neg, List.getD_eq_getElem?_getD, List.getElem?_set, if_neg f, ← List.getD_eq_getElem?_getD]
        rintro ⟨c, hc, ec⟩
        rcases List.mem_cons.mp hc with q | q
        · exact f (q ▸ ec)
        · exact e ⟨c, q, ec⟩
theorem trn_get {l m bs : List Nat} {j : Nat} (h : j < m.length) : (trn l m bs).getD j 0 = if (∃ b ∈ bs, (plc l).getD b 0 = j) then l.getD j 0 else m.getD j 0 := trn_go (plc l) l j bs m h
theorem sg2_left {a b : Nat} (h : AlS a b) : a ∈ sg2 a b := by
  unfold sg2
  split
  · exact List.mem_singleton_self _
  · rcases h with ⟨rfl, rfl⟩ | ⟨h1 | h1, _⟩ <;> simp_all
theorem sg2_right {a b : Nat} (h : AlS a b) : b ∈ sg2 a b := by
  unfold sg2
  split
  · rename_i e
    rw [e]
    exact List.mem_singleton_self _
  · rcases h with ⟨rfl, rfl⟩ | ⟨_, h1 | h1⟩ <;> simp_all
theorem sg2_two {a b c : Nat} (h : AlS a b) (hc : c ∈ sg2 a b) : c = a ∨ c = b := by
  unfold sg2 at hc
  split at hc
  · exact .inl (List.mem_singleton.mp hc)
  · rename_i ne
    simp only [List.mem_cons, List.not_mem_nil, or_false] at hc
    unfold AlS at h
    omega
theorem trn_in {l m : List Nat} (h : Al l m) (bs : List Nat) : InB (trn l m bs) l m := by
  have e := h.len
  refine inB_iff.mpr ⟨by rw [trn_len, e], e, fun j hj => ?_⟩
  rw [trn_get (by omega)]
  split
  · exact sg2_left (al_get h j hj)
  · exact sg2_right (al_get h j hj)
/-- the bits of z that are one's -/
def early (l z : List Nat) : List Nat := (List.range (plc l).length).filter fun b => decide (z.getD ((plc l).getD b 0) 0 = l.getD ((plc l).getD b 0) 0)
theorem mem_plc {l : List Nat} {j : Nat} (h : j < l.length) (h2 : l.getD j 0 ≠ 46) : ∃ b, b < (plc l).length ∧ (plc l).getD b 0 = j := by
  have hm : j ∈ plc l := List.mem_filter.mpr ⟨List.mem_range.mpr h, by simpa using h2⟩
  obtain ⟨b, hb, e⟩ := List.getElem_of_mem hm
  exact ⟨b, hb, by rw [List.getD_eq_getElem?_getD, List.getElem?_eq_getElem hb, e] <;> rfl⟩
theorem list_ext {x y : List Nat} (h : x.length = y.length) (e : ∀ j, j < x.length → x.getD j 0 = y.getD j 0) : x = y := by
  refine List.ext_getElem h fun j h1 h2 => ?_
  have := e j h1
  rw [List.getD_eq_getElem?_getD, List.getD_eq_getElem?_getD, List.getElem?_eq_getElem h1, List.getElem?_eq_getElem h2] at this
  exact this
theorem in_trn {l m z : List Nat} (h : Al l m) (hz : InB z l m) : trn l m (early l z) = z := by
  obtain ⟨h1, h2, h3⟩ := inB_iff.mp hz
  refine list_ext (by rw [trn_len, h1, h2]) fun j hj => ?_
  rw [trn_len] at hj
  have hl : j < l.length := by omega
  have aj := al_get h j hl
  have zj := h3 j hl
  rw [trn_get hj]
  split
  · rename_i q
    obtain ⟨b, hb, e⟩ := q
    have := of_decide_eq_true (List.mem_filter.mp hb).2
    rw [e] at this
    exact this.symm
  · rename_i q
    rcases sg2_two aj zj with e | e
    · by_cases d : l.getD j 0 = 46
      · unfold AlS at aj
        omega
      · obtain ⟨b, hb, eb⟩ := mem_plc hl d
        exact absurd ⟨b, List.mem_filter.mpr ⟨List.mem_range.mpr hb, by rw [eb]; exact decide_eq_true e⟩, eb⟩ q
    · exact e.symm
/-- all sets of the first n bits -/
def pks : Nat → List (List Nat)
  | 0 => [[]]
  | n + 1 => pks n ++ (pks n).map fun s => s ++ [n]
theorem pks_lt : ∀ {n : Nat} {s : List Nat}, s ∈ pks n → s.length ≤ n ∧ ∀ b ∈ s, b < n
  | 0, s, h => by
    rw [List.mem_singleton.mp h]
    exact ⟨Nat.le_refl _, fun b hb => by simp at hb⟩
  | n + 1, s, h => by
    rcases List.mem_append.mp h with h | h
    · obtain ⟨h1, h2⟩ := pks_lt h
      exact ⟨by omega, fun b hb => by have := h2 b hb; omega⟩
    · obtain ⟨t, ht, rfl⟩ := List.mem_map.mp h
      obtain ⟨h1, h2⟩ := pks_lt ht
      refine ⟨by rw [List.length_append]; exact Nat.succ_le_succ h1, fun b hb => ?_⟩
      rcases List.mem_append.mp hb with q | q
      · have := h2 b q; omega
      · rw [List.mem_singleton.mp q]; omega
theorem pks_all (p : Nat → Bool) : ∀ n, (List.range n).filter p ∈ pks n
  | 0 => List.mem_singleton_self _
  | n + 1 => by
    rw [List.range_succ, List.filter_append]
    cases e : p n with
    | true =>
      refine List.mem_append_right _ (List.mem_map.mpr ⟨_, pks_all p n, ?_⟩)
      simp [e]
    | false =>
      refine List.mem_append_left _ ?_
      have := pks_all p n
      simpa [e] using this
theorem pks_len : ∀ n, (pks n).length = 2 ^ n
  | 0 => rfl
  | n + 1 => by
    show (pks n ++ _).length = _
    rw [List.length_append, List.length_map, pks_len n, Nat.pow_succ]
    omega
/-- what is read torn is the box -/
theorem reads_box {l m : List Nat} (h : Al l m) {n : Nat} (hn : n = (plc l).length) (z : List Nat) : (∃ s ∈ pks n, trn l m s = z) ↔ z ∈ bxs [[]] l m := by
  rw [mem_box h.len]
  constructor
  · rintro ⟨s, _, rfl⟩
    exact trn_in h s
  · intro hz
    exact ⟨early l z, by rw [hn]; exact pks_all _ _, in_trn h hz⟩
end Fb
set_option maxRecDepth 100000
set_option maxHeartbeats 4000000
open PySem PySem.Spec PyProof.Rows L2
open SX (S)
namespace Fb
/-! what lies in a box -/
theorem inB_step {a b y z w : Nat} (hy : y ∈ sg2 a b) (hz : z ∈ sg2 a b) (hw : w ∈ sg2 y z) : w ∈ sg2 a b := by
  unfold sg2 at *
  split at hy
  · rename_i e
    rw [if_pos e] at hz ⊢
    rw [List.mem_singleton.mp hy, List.mem_singleton.mp hz, if_pos rfl] at hw
    exact hw
  · rename_i e
    rw [if_neg e] at hz ⊢
    split at hw
    · rw [List.mem_singleton.mp hw]
      exact hy
    · exact hw
theorem inB_within : ∀ {l m y z w : List Nat}, InB y l m → InB z l m → InB w y z → InB w l m
  | [], [], y, z, w, hy, hz, hw => by
    rw [inB_nil.mp hy, inB_nil.mp hz] at hw
    exact hw
  | a :: l, b :: m, y, z, w, hy, hz, hw => by
    obtain ⟨c, y', rfl, hc, hy'⟩ := inB_cons.mp hy
    obtain ⟨d, z', rfl, hd, hz'⟩ := inB_cons.mp hz
    obtain ⟨e, w', rfl, he, hw'⟩ := inB_cons.mp hw
    exact ⟨inB_step hc hd he, inB_within hy' hz' hw'⟩
  | [], _ :: _, y, _, _, hy, _, _ => by cases y <;> exact hy.elim
  | _ :: _, [], y, _, _, hy, _, _ => by cases y <;> exact hy.elim
theorem fAnd_in (a b : Nat) : fAnd a b ∈ sg2 a b := by
  unfold fAnd sg2
  split <;> simp
theorem fOr_in (a b : Nat) : fOr a b ∈ sg2 a b := by
  unfold fOr sg2
  split <;> simp
theorem zw_in {f : Nat → Nat → Nat} (hf : ∀ a b, f a b ∈ sg2 a b) : ∀ {l m : List Nat}, l.length = m.length → InB (zw f l m) l m
  | [], [], _ => trivial
  | a :: l, b :: m, h => ⟨hf a b, zw_in hf (by simpa using h)⟩
  | [], _ :: _, h => by simp at h
  | _ :: _, [], h => by simp at h
theorem inB_al : ∀ {l m z : List Nat}, Al l m → InB z l m → Al l z
  | _, _, z, .nil, h => by rw [inB_nil.mp h]; exact .nil
  | _, _, z, .cons r t, h => by
    obtain ⟨c, w, rfl, hc, hw⟩ := inB_cons.mp h
    refine .cons ?_ (inB_al t hw)
    rcases sg2_two r hc with rfl | rfl
    · unfold AlS at *; omega
    · exact r
theorem low_high (a b : Nat) : sg2 (fAnd a b) (fOr a b) = sg2 a b := by
  unfold fAnd fOr
  by_cases h : a = b
  · rw [if_pos h, if_pos h, h] <;> simp [sg2]
  · rw [if_neg h, if_neg h, sg2, sg2, if_neg h] <;> rfl
theorem bxs_low_high : ∀ {l m : List Nat} (f : List (List Nat)), bxs f (zw fAnd l m) (zw fOr l m) = bxs f l m
  | [], m, f => by cases m <;> rfl
  | a :: l, [], f => rfl
  | a :: l, b :: m, f => by
    show bxs f (fAnd a b :: zw fAnd l m) (fOr a b :: zw fOr l m) = _
    rw [bxs_cons, bxs_cons, low_high, bxs_low_high]
theorem below_cons (a b : Nat) (l m : List Nat) : below (a :: l) (b :: m) = (decide (a ≤ b) && below l m) := rfl
/-- between the low and the high of two is in their box -/
theorem between {a b c : Nat} (h : AlS a b) (hc : AlS a c) : (fAnd a b ≤ c ∧ c ≤ fOr a b) ↔ c ∈ sg2 a b := by
  unfold fAnd fOr sg2
  unfold AlS at *
  by_cases e : a = b
  · rw [if_pos e, if_pos e, if_pos e, List.mem_singleton]
    omega
  · rw [if_neg e, if_neg e, if_neg e]
    simp only [List.mem_cons, List.not_mem_nil, or_false]
    omega
theorem between_box : ∀ {l m z : List Nat}, Al l m → Al l z → ((below (zw fAnd l m) z && below z (zw fOr l m)) = true ↔ InB z l m)
  | _, _, _, .nil, .nil => ⟨fun _ => trivial, fun _ => rfl⟩
  | a :: l, b :: m, c :: z, .cons r t, .cons r2 t2 => by
    show (below (fAnd a b :: zw fAnd l m) (c :: z) && below (c :: z) (fOr a b :: zw fOr l m)) = true ↔ (c ∈ sg2 a b ∧ InB z l m)
    rw [below_cons, below_cons, ← between r r2, ← between_box t t2]
    simp only [Bool.and_eq_true, decide_eq_true_eq]
    constructor
    · rintro ⟨⟨h1, h2⟩, h3, h4⟩; exact ⟨⟨h1, h3⟩, h2, h4⟩
    · rintro ⟨⟨h1, h3⟩, h2, h4⟩; exact ⟨⟨h1, h2⟩, h3, h4⟩
theorem low_below_high : ∀ {l m : List Nat}, below (zw fAnd l m) (zw fOr l m) = true
  | [], m => by cases m <;> rfl
  | a :: l, [] => rfl
  | a :: l, b :: m => by
    show below (fAnd a b :: zw fAnd l m) (fOr a b :: zw fOr l m) = true
    rw [below_cons, low_below_high, Bool.and_true]
    refine decide_eq_true ?_
    unfold fAnd fOr
    split <;> omega
theorem inbx_iff {l m z : List Nat} (h : Al l m) (hz : Al l z) : inbx z l m = true ↔ InB z l m := by
  have e1 := h.len
  have e2 := hz.len
  unfold inbx
  rw [List.all_eq_true, inB_iff]
  constructor
  · intro q
    refine ⟨e2.symm, e1, fun j hj => ?_⟩
    have qj := q j (List.mem_range.mpr hj)
    have a1 := al_get h j hj
    have a2 := al_get hz j hj
    generalize l.getD j 0 = a at *
    generalize m.getD j 0 = b at *
    generalize z.getD j 0 = c at *
    unfold sg2
    unfold AlS at *
    simp only [Bool.or_eq_true, decide_eq_true_eq] at qj
    split
    · rw [List.mem_singleton]; omega
    · simp only [List.mem_cons, List.not_mem_nil, or_false]; omega
  · rintro ⟨_, _, q⟩ j hj
    have qj := q j (List.mem_range.mp hj)
    generalize l.getD j 0 = a at *
    generalize m.getD j 0 = b at *
    generalize z.getD j 0 = c at *
    unfold sg2 at qj
    simp only [Bool.or_eq_true, decide_eq_true_eq]
    split at qj
    · right; exact List.mem_singleton.mp qj
    · left; assumption
/-! all patterns of the sizes -/
def lo1 (c : Nat) : Nat := if c = 49 then 48 else c
def hi1 (c : Nat) : Nat := if c = 48 then 49 else c
theorem free_all : ∀ {l z : List Nat}, Sg l → (InB z (l.map lo1) (l.map hi1) ↔ Al l z)
  | [], z, _ => by
    rw [List.map_nil, List.map_nil, inB_nil]
    constructor
    · rintro rfl; exact .nil
    · intro h; cases h; rfl
  | a :: l, z, h => by
    rw [List.map_cons, List.map_cons, inB_cons]
    have ha := h a List.mem_cons_self
    have one : ∀ c, c ∈ sg2 (lo1 a) (hi1 a) ↔ AlS a c := fun c => by
      unfold lo1 hi1 AlS
      rcases ha with rfl | rfl | rfl <;> simp [sg2]
    constructor
    · rintro ⟨c, w, rfl, hc, hw⟩
      exact .cons ((one c).mp hc) ((free_all fun x hx => h x (List.mem_cons_of_mem _ hx)).mp hw)
    · intro q
      cases q with
      | cons r t => exact ⟨_, _, rfl, (one _).mpr r, (free_all fun x hx => h x (List.mem_cons_of_mem _ hx)).mpr t⟩
theorem free_box {l m : List Nat} (h : Al l m) (hs : Sg l) : (bxs [[]] (l.map lo1) (l.map hi1)).filter (fun z => below (zw fAnd l m) z && below z (zw fOr l m)) = bxs [[]] l m := by
  refine asc_ext ((asc_box _ _).filter _) (asc_box _ _) fun z => ?_
  rw [List.mem_filter, mem_box (by simp), mem_box h.len, free_all hs]
  constructor
  · rintro ⟨h1, h2⟩
    exact (between_box h h1).mp h2
  · intro hz
    have az := inB_al h hz
    exact ⟨az, (between_box h az).mpr hz⟩
theorem bxs_len : ∀ {l m : List Nat} {f : List (List Nat)}, (bxs f l m).length = f.length * 2 ^ unl l m
  | a :: l, b :: m, f => by
    rw [bxs_cons, bxs_len, flat_len, unl_cons, Nat.pow_add, Nat.mul_assoc]
    congr 2
    unfold sg2
    split <;> rfl
  | [], m, f => by cases m <;> simp [bxs, unl]
  | _ :: _, [], f => by simp [bxs, unl]
end Fb
set_option maxRecDepth 100000
set_option maxHeartbeats 4000000
namespace Fb
open PySem PySem.Spec L2
/-! sets of texts: made of a list of texts, sorted -/
/-- at a: a set of the texts l, whose table can be walked -/
def TxSet (P : Program) (w : World) (h : Heap) (a : Addr) (l : List Str) : Prop := ∃ D : Froz.SD,
  h.get? a = some (Froz.sObj "set" D) ∧ Froz.TxOk P w D l ∧ l.Nodup ∧ (D.1.toList.map fun e => PyProof.Rows.strOf e.2).Perm l ∧ (∀ e ∈ D.1.toList, ∃ x t, e.2 = Value.str x t) ∧ Ris D.2.2.place.toList ∧ (w.params.followText "set-order" = true ∨ D.2.2.led = true)
section
variable {P : Program} {w : World} {A : Around} {E : Value → Shared → Prop} {s : Shared} {a : Addr} {l : List Str}
theorem TxSet.at {h h' : Heap} (R : TxSet P w h a l) (k : ∀ o, h.get? a = some o → h'.get? a = some o) : TxSet P w h' a l := by
  obtain ⟨D, e, r⟩ := R
  exact ⟨D, k _ e, r⟩
theorem TxSet.fresh {h : Heap} (e : h.get? a = some { cls := .type "set", dict := none, data := .set #[] 0 (.fresh 0 0 (!w.params.followText "set-order")) }) : TxSet P w h a [] := by
  refine ⟨(#[], 0, .fresh 0 0 (!w.params.followText "set-order")), e, Froz.TxOk.nil (by rfl), List.nodup_nil, .nil, fun e he => by simp at he, List.Pairwise.nil, ?_⟩
  cases q : w.params.followText "set-order"
  · exact .inr rfl
  · exact .inl rfl
theorem tail_more {ep : Nat} {es : Array (Int × Value)} {t : SetTable} {b : Bool} (hr : Ris t.place.toList) :
    (Froz.tailTx ep es t b).1.toList.Perm es.toList ∧ Ris (Froz.tailTx ep es t b).2.2.place.toList ∧ (Froz.tailTx ep es t b).2.2.led = t.led := by
  unfold Froz.tailTx
  by_cases c : (!b && t.tooFull) = true
  · rw [if_pos c]
    exact ⟨relayAll_perm _ _ _, relayAll_ris _ _ _, relayAll_led _ _ _⟩
  · rw [if_neg c]
    exact ⟨.refl _, hr, rfl⟩
theorem add_more {D : Froz.SD} {h : Int} {v : Value} (hr : Ris D.2.2.place.toList) :
    (Froz.addTx h v D).1.toList.Perm ((h, v) :: D.1.toList) ∧ Ris (Froz.addTx h v D).2.2.place.toList ∧ (Froz.addTx h v D).2.2.led = D.2.2.led := by
  obtain ⟨es, ep, t⟩ := D
  have p := layNew_perm t es h v
  have r := layNew_ris t es h v hr
  have g := layNew_led t es h v
  rw [Array.toList_push] at p
  have q := p.trans (List.perm_append_singleton _ _)
  unfold Froz.addTx
  dsimp only
  split
  · obtain ⟨h1, h2, h3⟩ := tail_more (ep := ep) (es := (layNew t es h v).1) (t := { (layNew t es h v).2.1 with plain := false }) (b := (layNew t es h v).2.2.1) r
    exact ⟨h1.trans q, h2, h3.trans g⟩
  · obtain ⟨h1, h2, h3⟩ := tail_more (ep := ep) (es := (layNew t es h v).1) (t := (layNew t es h v).2.1) (b := (layNew t es h v).2.2.1) r
    exact ⟨h1.trans q, h2, h3.trans g⟩
/-- a text is put in -/
theorem tx_put {k : Str} {u : Tok} {Q : Bool → Shared → Prop} (R : TxSet P w s.heap a l) (room : l.length + 1 < scanBound)
    (q : ∀ h', (∀ b, b ≠ a → h'.get? b = s.heap.get? b) → h'.objs.size = s.heap.objs.size → TxSet P w h' a (if k ∈ l then l else k :: l) → Q (!decide (k ∈ l)) { s with heap := h' }) :
    wpAny (model P w) A (setAddHashed a (.str k u) (hashStr w k)) Q E s := by
  obtain ⟨D, ho, F, nd, pm, gs, hr, hl⟩ := R
  by_cases hk : k ∈ l
  · have key : (PySem.strKind P w).is k (.str k u) = true := Froz.is_str k u
    obtain ⟨es, ep, t⟩ := D
    have hd : (Froz.sObj "set" (es, ep, t)).data = .set es ep t := rfl
    have el : ElemsOf (PySem.strKind P w) es.toList := F.el
    have small : es.size < scanBound := by have : es.size = l.length := F.sz; omega
    have done := q s.heap (fun _ _ => rfl) rfl ⟨(es, ep, t), ho, by rw [if_pos hk]; exact F, by rw [if_pos hk]; exact nd, by rw [if_pos hk]; exact pm, gs, hr, hl⟩
    rw [decide_eq_true hk] at done
    obtain ⟨e, he, hz⟩ := (F.mem k).mp hk
    cases c : List.findIdx? (fun e => (PySem.strKind P w).is k e.2) es.toList with
    | none =>
      have := List.findIdx?_eq_none_iff.mp c e he
      rw [hz] at this
      cases this
    | some j =>
      unfold setAddHashed setAddHashedIn
      refine wpAny_holding (wpAny_bind (wpAny_setState_of ho hd F.fit ?_))
      dsimp only
      rw [byScan_of (knd := PySem.strKind P w) rfl small el, if_pos rfl]
      unfold setAddByScan
      refine wpAny_bind (wpAny_bind (wpAny_rule (wpAny_bind (wpAny_setScan_of (knd := PySem.strKind P w) (k := k) key ho hd F.fit el ?_))))
      rw [c]
      exact wpAny_pure (wpAny_pure done)
  · refine Froz.add_x ho F hk room ?_
    obtain ⟨m1, m2, m3⟩ := add_more (D := D) (h := hashStr w k) (v := .str k u) hr
    have hlt : a < s.heap.objs.size := Heap.lt_size ho
    have done := q (s.heap.update a fun _ => Froz.sObj "set" (Froz.addTx (hashStr w k) (.str k u) D)) (fun b hb => Heap.get?_update_other _ _ (Ne.symm hb)) (Heap.size_update ..) ⟨_, Froz.get_upd _ ho rfl, by rw [if_neg hk]; exact Froz.add_ok u F, by rw [if_neg hk]; exact List.nodup_cons.mpr ⟨hk, nd⟩, ?_, fun e he => ?_, m2, by rw [m3]; exact hl⟩
    · rw [decide_eq_false hk] at done
      exact done
    · rw [if_neg hk]
      refine (m1.map _).trans ?_
      exact pm.cons k
    · rcases List.mem_cons.mp (m1.mem_iff.mp he) with z | z
      · rw [z]; exact ⟨k, u, rfl⟩
      · exact gs e z
/-- texts put in one behind another -/
theorem tx_loop {I : Addr} {fp wr : List Addr} {G : Array GenState → Array GenState → Prop} {n : Nat} {Pv : Nat → Value → Prop} {St : Nat → Shared → Prop} {R : Result → Shared → Prop} (W : WalksS P w A.in1 I fp wr G n Pv St) (T : Addr) (off : T ∉ fp) (ys : List Str)
    (hn : n = ys.length) (room : ys.length + 1 < scanBound) (val : ∀ i v, Pv i v → ∃ k t, ys[i]? = some k ∧ v = .str k t) : ∀ (m i : Nat) (s : Shared), n - i = m → i ≤ n → St i s → (∃ l, l.length ≤ i ∧ (∀ y, y ∈ l ↔ y ∈ ys.take i) ∧ TxSet P w s.heap T l) →
      (∀ s' l, Moved (T :: wr) G s s' → l.length ≤ n → (∀ y, y ∈ l ↔ y ∈ ys) → TxSet P w s'.heap T l → R (.ok (.ret .none)) s') → codeAny (model P w) A (.builtin "set.update.loop" ⟨[.ref T, .ref I], []⟩) R s := by
  have offw : T ∉ wr := fun z => off (W.sub _ z)
  have more : ∀ b ∈ wr, b ∈ T :: wr := fun b z => List.mem_cons_of_mem _ z
  intro m
  induction m with
  | zero =>
    rintro i s e le st ⟨l, hl, mem, R1⟩ fin
    obtain rfl : i = n := by omega
    refine codeAny_builtin PyProof.Rows.F.entry_set_update_loop ?_
    rw [Around.under_plainId PyProof.Rows.F.plain_set_update_loop _]
    show wpAny _ A.in1 (pyNext (.ref I) >>= _) _ _ s
    refine wpAny_bind (W.done s _ _ st fun s' mv => ?_)
    show wpAny _ A.in1 (ret Value.none) _ _ s'
    refine wpAny_pure (fin s' l (mv.mono more) hl (fun y => ?_) (R1.at fun o z => mv.heap T o offw z))
    rw [mem y, List.take_of_length_le (by omega)]
  | succ m ih =>
    rintro i s e le st ⟨l, hl, mem, R1⟩ fin
    have lt : i < n := by omega
    refine codeAny_builtin PyProof.Rows.F.entry_set_update_loop ?_
    rw [Around.under_plainId PyProof.Rows.F.plain_set_update_loop _]
    show wpAny _ A.in1 (pyNext (.ref I) >>= _) _ _ s
    refine wpAny_bind (W.item i s _ _ lt st fun v s' hv st' mv => ?_)
    obtain ⟨y, t, hy, rfl⟩ := val i v hv
    have R2 : TxSet P w s'.heap T l := R1.at fun o z => mv.heap T o offw z
    show wpAny _ A.in1 (holding [Value.str y t] (setAdd T (.str y t)) >>= _) _ _ s'
    refine wpAny_bind (wpAny_holding ?_)
    unfold setAdd
    refine wpAny_holding ?_
    refine wpAny_bind ((PySem.strKind P w).pyHash (k := y) (Froz.is_str y t) ?_)
    refine tx_put (s := { s' with toks := s'.toks + 1 }) R2 (by omega) fun h' oth sz R3 => ?_
    have len : (if y ∈ l then l else y :: l).length ≤ i + 1 := by
      split
      · omega
      · rw [List.length_cons]; omega
    have mem3 : ∀ z, z ∈ (if y ∈ l then l else y :: l) ↔ z ∈ ys.take (i + 1) := fun z => by
      rw [List.take_add_one, hy, List.mem_append, ← mem z]
      by_cases c : y ∈ l
      · rw [if_pos c]
        constructor
        · exact .inl
        · rintro (q | q)
          · exact q
          · have : z = y := by simpa using q
            rw [this]; exact c
      · rw [if_neg c, List.mem_cons]
        constructor
        · rintro (q | q)
          · exact .inr (by rw [q]; simp)
          · exact .inl q
        · rintro (q | q)
          · exact .inr q
          · exact .inl (by simpa using q)
    refine wpAny_pure ⟨plainId_quiet PyProof.Rows.F.plain_set_update_loop _, ih (i + 1) _ (by omega) lt (W.frame _ s' _ _ st' (Nat.le_succ _) fun b hb o z => ?_) ⟨_, len, mem3, R3⟩ fun s2 l2 mv2 le2 mem2 R4 => ?_⟩
    · rw [oth b fun q : b = T => off (by rw [← q]; exact hb)]
      exact z
    · refine fin s2 l2 (Moved.trans W.gtrans ((mv.mono more).then_heap (Nat.le_succ _) fun b o hb z => ?_) mv2) le2 mem2 R4
      rw [oth b fun q : b = T => hb (by rw [q]; exact List.mem_cons_self)]
      exact z
end
section
open PyProof.Rows
variable {P : Program} {w : World} {A : Around} {E : Value → Shared → Prop} {s : Shared}
theorem txt_get : ∀ {us : List Value} {ys : List Str} {i : Nat} {v : Value}, StrsAre us ys → us[i]? = some v → ∃ k t, ys[i]? = some k ∧ v = .str k t
  | _, _, i, v, .nil, h => by simp at h
  | _, _, 0, v, .cons y t r, h => by
    have e : Value.str y t = v := by simpa using h
    exact ⟨y, t, rfl, e.symm⟩
  | _, _, i + 1, v, .cons y t r, h => by
    obtain ⟨k, t', h1, h2⟩ := txt_get (i := i) r (by simpa using h)
    exact ⟨k, t', by simpa using h1, h2⟩
abbrev blankS (w : World) : Obj := { cls := .type "set", dict := none, data := .set #[] 0 (.fresh 0 0 (!w.params.followText "set-order")) }
/-- set(l), l a list of texts -/
theorem tx_make {l : Addr} {its : Array Value} {ys : List Str} {Q : Value → Shared → Prop} (calm : A.handled = none) (hl : s.heap.IsList l its) (hy : StrsAre its.toList ys) (room : ys.length + 1 < scanBound)
    (q : ∀ h' tk l', (∀ b o, s.heap.get? b = some o → h'.get? b = some o) → l'.length ≤ ys.length → (∀ y, y ∈ l' ↔ y ∈ ys) → TxSet P w h' s.heap.objs.size l' → Q (.ref s.heap.objs.size) { s with heap := h', toks := tk }) : wpAny (model P w) A (call (.type "set") [.ref l]) Q E s := by
  have many : ys.length = its.size := by rw [← StrsAre.len_eq hy, Array.length_toList]
  obtain ⟨c, tl, hmro⟩ := F.called_set.mro
  have made := F.called_set.made
  have sub := F.called_set.sub
  refine wpAny_call (codeAny_of_tree ?_)
  show wpAny _ _ (callAny (.type "set") _) _ _ _
  refine wpAny_pure ⟨Code.quiet_builtin _ (by decide +kernel), codeAny_builtin F.entry_type_call ?_⟩
  rw [Around.under_plain (weight_type_call_type "set" [.ref l] []) rfl]
  have g1 := F.called_set.notType
  have g2 := F.called_set.canCreate
  have g3 := F.typeCall_set_1 (.ref l)
  repeat (any_goals (first | assumption | wp_step))
  refine codeAny_mono (code_set_led1 (.ref l) (E := E) (Q₁ := fun ob s1 => ob = .ref s.heap.objs.size ∧ s1 = { s with heap := s.heap.push (blankS w) }) ⟨rfl, rfl⟩) fun r s1 hr => ?_
  cases r with
  | error e => exact hr
  | ok fl =>
    cases fl with
    | next => exact hr.elim
    | brk => exact hr.elim
    | cont => exact hr.elim
    | ret ob =>
      obtain ⟨rfl, rfl⟩ := hr
      have at0 : (s.heap.push (blankS w)).get? s.heap.objs.size = some (blankS w) := Heap.get?_push_size _ rfl
      have ty : Shared.TypeIs { s with heap := s.heap.push (blankS w) } (.ref s.heap.objs.size) "set" := ⟨_, at0, rfl⟩
      have g4 := F.called_set.init.lookup
      have g5 := F.called_set.init.bind (.ref s.heap.objs.size)
      repeat (any_goals (first | assumption | wp_step))
      refine codeAny_mono (codeAny_call_builtin (R := wants (fun r s2 => r = .none ∧ ∃ h' tk l', s2 = { s with heap := h', toks := tk } ∧ (∀ b o, s.heap.get? b = some o → h'.get? b = some o) ∧ l'.length ≤ ys.length ∧ (∀ y, y ∈ l' ↔ y ∈ ys) ∧ TxSet P w h' s.heap.objs.size l') E)
        F.called_set.init.plain F.entry_set_init (check_set_init_1 ty ?_)) fun r2 s2 hr2 => ?_
      · obtain ⟨⟨oc, od, oda, osl⟩, ol, oc', k, od'⟩ := hl
        simp only at oc' od'
        subst oc' od'
        have ol' := Heap.get?_push_of_some (blankS w) ol
        have g6 := F.sub_list_set
        have g7 := F.sub_list_frozenset
        have g8 : (Value.type "list" == Value.type "dict") = false := by decide
        have li : (s.heap.push (blankS w)).IsList l its := ⟨_, ol', rfl, k, rfl⟩
        unfold Builtin.«set.__init__» noKeywords Builtin.Frozenset.updateFrom
        generalize hPI : pyIter = PI
        wp_walk
        subst hPI
        refine wpAny_pyIter_list li (wpAny_bind (wpAny_runValue ?_))
        have ltl : l < s.heap.objs.size := Heap.lt_size ol
        have sz1 : (s.heap.push (blankS w)).objs.size = s.heap.objs.size + 1 := Heap.size_push ..
        have nl : l ≠ (s.heap.push (blankS w)).objs.size := by rw [sz1]; exact Nat.ne_of_lt (Nat.lt_succ_of_lt ltl)
        have off : s.heap.objs.size ∉ [(s.heap.push (blankS w)).objs.size, l] := by
          rw [sz1]
          intro z
          rcases List.mem_cons.mp z with z | z
          · exact Nat.ne_of_lt (Nat.lt_succ_self _) z
          · exact Nat.ne_of_gt ltl (List.mem_singleton.mp z)
        have val : ∀ (i : Nat) (v : Value), its[i]? = some v → ∃ k t, ys[i]? = some k ∧ v = .str k t := fun i v hv => by
          have hi : i < ys.length := by rw [many]; exact (Array.getElem?_eq_some_iff.mp hv).1
          exact txt_get hy (by rw [Array.getElem?_toList]; exact hv)
        refine tx_loop (P := P) ((Walks.list (by simp [calm]) _ l nl its).toS) s.heap.objs.size off ys many.symm room val (its.size - 0) 0 _ (by omega) (Nat.zero_le _) ⟨⟨_, Heap.get?_push_size _ rfl, rfl, rfl⟩, li.push _⟩ ⟨[], Nat.le_refl 0, fun y => by simp, TxSet.fresh (Heap.get?_push_of_some _ at0)⟩ fun s' l' mv le mem R => ?_
        obtain ⟨h', g', d', tk', os'⟩ := s'
        obtain rfl : g' = s.gens := mv.gens
        obtain rfl : d' = s.drawn := mv.drawn
        obtain rfl : os' = s.os := mv.os
        show wpAny _ _ _ _ _ _
        refine wpAny_pure ?_
        show wpAny _ _ (ret Value.none) _ _ _
        refine wpAny_pure ⟨rfl, h', tk', l', rfl, fun b o z => ?_, by rw [many]; exact le, mem, R⟩
        have ltb := Heap.lt_size z
        refine mv.heap b o ?_ (Heap.get?_push_of_some _ (Heap.get?_push_of_some _ z))
        rw [sz1]
        intro z
        rcases List.mem_cons.mp z with z | z
        · exact Nat.ne_of_lt ltb z
        · exact Nat.ne_of_lt (Nat.lt_succ_of_lt ltb) (List.mem_singleton.mp z)
      · cases r2 with
        | error e => exact hr2
        | ok fl2 =>
          cases fl2 with
          | next => exact hr2.elim
          | brk => exact hr2.elim
          | cont => exact hr2.elim
          | ret r =>
            obtain ⟨rfl, h', tk, l', rfl, kp, le, mem, R⟩ := hr2
            repeat (any_goals (first | assumption | wp_step))
            exact q _ _ _ kp le mem R
end
end Fb
set_option maxRecDepth 100000
set_option maxHeartbeats 4000000
namespace Fb
open PySem PySem.Spec PyProof.Rows L2
/-! a set of texts, sorted; the rules by values -/
section
variable {P : Program} {w : World} {A : Around} {E : Value → Shared → Prop} {s : Shared} {a : Addr} {l : List Str}
theorem strs_of : ∀ vs : List Value, (∀ v ∈ vs, ∃ x t, v = Value.str x t) → StrsAre vs (vs.map strOf)
  | [], _ => .nil
  | v :: vs, h => by
    obtain ⟨x, t, rfl⟩ := h v List.mem_cons_self
    exact .cons x t (strs_of vs fun u hu => h u (List.mem_cons_of_mem _ hu))
theorem tx_sorted {Q : Value → Shared → Prop} (R : TxSet P w s.heap a l) (calm : A.handled = none) (room : l.length < scanBound)
    (q : ∀ s' p (out : Array Value) (c : Nat) (ys : List Str), (∀ b o, s.heap.get? b = some o → s'.heap.get? b = some o) → s'.gens = s.gens → s'.os = s.os → s.heap.objs.size ≤ p → s'.heap.get? p = some (seqObj "list" out c) → StrsAre out.toList ys → ys.Perm l → sortedS ys = true → Q (.ref p) s') :
    wpAny (model P w) A (call (.builtin "sorted") [.ref a]) Q E s := by
  obtain ⟨⟨es, ep, t⟩, ho, F, nd, pm, gs, hr, hl⟩ := R
  have small : es.size < scanBound := by have : es.size = l.length := F.sz; omega
  refine Calls.call_function_entry kind_sorted plain_sorted entry_sorted (args_sorted1 _) ?_
  unfold Builtin.«sorted»
  refine wpAny_bind (m := checkCount "sorted" 1 1 _) (wpAny_pure (wpAny_bind (collect_set (A := A.in1) (es := es) (ep := ep) (t := t) calm ⟨_, ho, rfl, rfl⟩ F.fit small hr hl fun s1 vs kp sz1 g1 o1 pv => ?_)))
  have texts := strs_of vs fun v hv => by
    obtain ⟨e, he, z⟩ := List.mem_map.mp (pv.mem_iff.mp hv)
    obtain ⟨x, u, h⟩ := gs e he
    exact ⟨x, u, by rw [← z]; exact h⟩
  have pl : (vs.map strOf).Perm l := by
    have z := pv.map strOf
    rw [List.map_map] at z
    exact z.trans pm
  have few : vs.length ≤ sizeLine := by
    have z : vs.length = es.size := by rw [pv.length_eq, List.length_map, Array.length_toList]
    rw [z]
    exact fits_of_scanBound small
  refine wpAny_bind (wpAny_newList ?_ few)
  have at1 : (s1.heap.push (seqObj "list" vs.toArray 0)).get? s1.heap.objs.size = some (seqObj "list" vs.toArray 0) := Heap.get?_push_size _ rfl
  refine wpAny_bind (wpAny_holding (wpAny_call_entry slot_list_sort ⟨_, at1, rfl⟩ entry_list_sort (list_sort_treeKAny strKind_oneLt at1 texts.keysOf (fun v1 v2 rest e => ?_) few fun st hp hs => ⟨_, rfl, ?_⟩) (args_list_sort _)))
  · rw [e] at texts
    exact keyKind_strs texts
  · obtain ⟨ys, h1, h2, h3⟩ := sorted_out_str texts hp hs
    obtain ⟨c, hc⟩ := sortedHeap_at (vs := vs) (out := (arrOf st).map (·.2)) at1
    refine wpAny_pure ⟨_, rfl, q _ s1.heap.objs.size _ c ys (fun b o z => ?_) g1 o1 sz1 hc h1 (h2.trans pl) h3⟩
    have z1 := kp b o z
    have lt := Heap.lt_size z1
    show (sortedHeap (s1.heap.push (seqObj "list" vs.toArray 0)) s1.heap.objs.size vs _).get? b = some o
    rw [sortedHeap_old (Nat.ne_of_lt lt) (by rw [size_push']; exact Nat.lt_succ_of_lt lt)]
    exact Heap.get?_push_of_some _ z1
end
theorem vals_txt : ∀ {us : List Value} {ys : List Str}, StrsAre us ys → Vals (ys.map V.str) us
  | _, _, .nil => .nil
  | _, _, .cons y t r => .cons ⟨t, rfl⟩ (vals_txt r)
/-- at a: a set of the texts l -/
def SetTx (P : Program) (w : World) (a : Addr) (l : List Str) : HO := .ext fun h => TxSet P w h a l
section
variable {X : Cx}
def rSetL (K : PySem.W.Frag) (P : Program) (w : World) : List V → Hp → VK → Prop := fun xs H Q => ∃ (p : Addr) (ys : List Str), xs = [.ref p] ∧ SqL K H p (ys.map V.str) ∧ ys.length ≤ 2000 ∧
  ∀ (a : Addr) (l : List Str), (∀ y, y ∈ l ↔ y ∈ ys) → l.Nodup → l.length ≤ ys.length → H a = none → Q (.ref a) (upd H a (SetTx P w a l))
theorem TxSet.nodup {P : Program} {w : World} {h : Heap} {a : Addr} {l : List Str} (R : TxSet P w h a l) : l.Nodup := by
  obtain ⟨D, _, _, nd, _⟩ := R
  exact nd
theorem call_setL (hc : X.calm = true) : CallR X (.type "set") (rSetL X.K X.prog X.w) := by
  intro pins s σ H xs us Q I r h
  obtain ⟨p, ys, rfl, hs, few, q⟩ := h
  obtain ⟨its, rv, ⟨ob, n, ho, hcl, hdi, hdat⟩, hl⟩ := I.list hs
  rw [Vals.ref1 r]
  refine tx_make (I.ok.hd hc) ⟨ob, ho, hcl, n, hdat⟩ (by simpa using rv.strs) (by unfold scanBound; omega) fun h' tk l' kp le mem R => ?_
  have nd := R.nodup
  exact ⟨.ref s.heap.objs.size, upd H s.heap.objs.size (SetTx X.prog X.w s.heap.objs.size l'), I.laid kp (Nat.le_refl _) ⟨R, by obtain ⟨D, e, _⟩ := R; exact ⟨_, e⟩, fun h1 h2 R k => R.at k⟩, rfl, q _ l' mem nd le (I.hok.fresh (Nat.le_refl _))⟩
def rSortT (P : Program) (w : World) : List V → Hp → VK → Prop := fun xs H Q => ∃ (a : Addr) (l : List Str), xs = [.ref a] ∧ H a = some (SetTx P w a l) ∧ l.length ≤ 2000 ∧
  ∀ (p : Addr) (ys : List Str), ys.Perm l → sortedS ys = true → H p = none → Q (.ref p) (upd H p (.lst (ys.map V.str)))
theorem call_sortT (hc : X.calm = true) : CallR X (.builtin "sorted") (rSortT X.prog X.w) := by
  intro pins s σ H xs us Q I r h
  obtain ⟨a, l, rfl, ha, few, q⟩ := h
  rw [Vals.ref1 r]
  have R : TxSet X.prog X.w s.heap a l := (I.hok a _ ha).1
  refine tx_sorted R (I.ok.hd hc) (by unfold scanBound; omega) fun s' p out c ys kp g1 o1 sz hp st pm so => ?_
  have new : H p = none := I.hok.fresh sz
  have len : (ys.map V.str).length ≤ sizeLine := by rw [List.length_map, pm.length_eq, sizeLine_eq]; omega
  have J : Inv X pins σ (upd H p (.lst (ys.map V.str))) ⟨s'.heap, s'.gens, s'.drawn, s'.toks, s.os⟩ := I.call (ch := []) (Un.laid kp sz new) (I.hok.laid kp sz ⟨len, out.toList, c, vals_txt st, hp⟩) (by rw [g1]; exact I.bare) (fun _ z => nomatch z)
  have e : s' = ⟨s'.heap, s'.gens, s'.drawn, s'.toks, s.os⟩ := by
    rw [← o1]
  rw [e]
  exact ⟨.ref p, _, J, rfl, q p ys pm so new⟩
end
end Fb
set_option maxRecDepth 100000
set_option maxHeartbeats 4000000
namespace Fb
open PySem PySem.Spec PyProof.Rows L2
open SX (S)

/-! the written part: the law's own defs -/
structure Lz where
  (a_Lpen a_Ltake a_law : Addr)
  (d_Lpen d_Ltake d_law : FuncData)
  (a_Lpair : Addr) (d_Lpair : FuncData)
  (a_Lreads : Addr) (d_Lreads : FuncData)
abbrev s_Lpair : Stmt := top 33
theorem sc_Lpair : FnScope ["_law_pen_here", "_law_sizes", "_law_found", "_law_k", "_law_size", "_law_bit"] ["_law_pen_here"] (defScope s_Lpair) := ⟨rfl, rfl, rfl, by decide +kernel, rfl, by decide +kernel, by decide +kernel⟩
abbrev s_Lreads : Stmt := top 34
theorem sc_Lreads : FnScope ["_law_one", "_law_other", "_law_many", "_law_picks", "_law_bit", "_law_some", "_law_early"] ["_law_one", "_law_other", "_law_many"] (defScope s_Lreads) := ⟨rfl, rfl, rfl, by decide +kernel, rfl, by decide +kernel, by decide +kernel⟩
abbrev s_law : Stmt := top 35
theorem sc_law : FnScope ["_law_script", "_law_pen_here", "_law_turn", "_law_one", "_law_other", "_law_many", "_law_whole", "_law_y", "_law_z", "_law_inner", "_law_low", "_law_high", "_law_free", "_law_text"] ["_law_script"] (defScope s_law) := ⟨rfl, rfl, rfl, by decide +kernel, rfl, by decide +kernel, by decide +kernel⟩
structure TxL (K : PySem.W.Frag) (mg : Str → Option Value) (z : Pz) (w : Lz) : Prop extends Txp K mg z where
  pp : TxP mg
  g_Lpen : mg "_law_pen" = some (.ref w.a_Lpen)
  k_Lpen : PySem.W.keepIn K (.ref w.a_Lpen) = true
  F_Lpen : Fun K "_law_pen" "_law_pen" s_Lpen w.a_Lpen w.d_Lpen
  b_Lpen : Binds K w.d_Lpen ["_law_script"] []
  g_Ltake : mg "_law_take" = some (.ref w.a_Ltake)
  k_Ltake : PySem.W.keepIn K (.ref w.a_Ltake) = true
  F_Ltake : Fun K "_law_take" "_law_take" s_Ltake w.a_Ltake w.d_Ltake
  b_Ltake : Binds K w.d_Ltake ["_law_pen_here", "_law_many"] []
  g_Lpair : mg "_law_pair" = some (.ref w.a_Lpair)
  k_Lpair : PySem.W.keepIn K (.ref w.a_Lpair) = true
  F_Lpair : Fun K "_law_pair" "_law_pair" s_Lpair w.a_Lpair w.d_Lpair
  b_Lpair : Binds K w.d_Lpair ["_law_pen_here"] []
  g_Lreads : mg "_law_reads" = some (.ref w.a_Lreads)
  k_Lreads : PySem.W.keepIn K (.ref w.a_Lreads) = true
  F_Lreads : Fun K "_law_reads" "_law_reads" s_Lreads w.a_Lreads w.d_Lreads
  b_Lreads : Binds K w.d_Lreads ["_law_one", "_law_other", "_law_many"] []
  n_range : mg "range" = none
  n_sorted : mg "sorted" = none
  n_set : mg "set" = none
/-! lists of lists of numbers -/
def Pk (H : Hp) (rs : List Addr) (F : List (List Nat)) : Prop := rs.length = F.length ∧ ∀ (i : Nat) (r : Addr) (f : List Nat), rs[i]? = some r → F[i]? = some f → H r = some (.lst (nums f))
theorem Pk.same {H H' : Hp} {rs : List Addr} {F : List (List Nat)} (s : Same H H') (h : Pk H rs F) : Pk H' rs F := ⟨h.1, fun i r f e1 e2 => s _ _ (h.2 i r f e1 e2)⟩
theorem Pk.app {H : Hp} {rs rs' : List Addr} {F F' : List (List Nat)} (h : Pk H rs F) (h' : Pk H rs' F') : Pk H (rs ++ rs') (F ++ F') := by
  refine ⟨by rw [List.length_append, List.length_append, h.1, h'.1], fun i r f e1 e2 => ?_⟩
  by_cases hi : i < rs.length
  · rw [List.getElem?_append_left hi] at e1
    rw [List.getElem?_append_left (by rw [← h.1]; exact hi)] at e2
    exact h.2 i r f e1 e2
  · rw [List.getElem?_append_right (by omega)] at e1
    rw [List.getElem?_append_right (by rw [← h.1]; omega), ← h.1] at e2
    exact h'.2 _ r f e1 e2
theorem Pk.one {H : Hp} {r : Addr} {f : List Nat} (h : H r = some (.lst (nums f))) : Pk H [r] [f] := ⟨rfl, fun i r' f' e1 e2 => by
  cases i with
  | zero => cases e1; cases e2; exact h
  | succ i => cases e1⟩
abbrev rfV (rs : List Addr) : List V := rs.map V.ref
def spReads : Sp := fun vs H Q _ => ∃ l m, vs = [.str (S l), .str (S m), .int ((bt l).length : Nat)] ∧ IsP l ∧ IsP m ∧ szs m = szs l ∧ (bt l).length ≤ 6 ∧ ∀ p H', Same H H' → H p = none → H' p = some (.lst (txV (bxs [[]] l m))) → Q (.ref p) H'
section
variable {P : Program} {wo : World} {K : PySem.W.Frag} {mg : Str → Option Value} {base : Heap} {z : Pz} {w : Lz}
theorem ok_Lreads (T : TxL K mg z w) : FnOk P wo K mg base CX0 7 w.a_Lreads w.d_Lreads ["_law_one", "_law_other", "_law_many"] spReads := by
  refine T.F_Lreads.ok sc_Lreads (fun vs H Q E h => ?_) (fun cdv A outer s H vs Q E hr h => ?_)
  · obtain ⟨l, m, rfl, _⟩ := h
    rfl
  · obtain ⟨l, m, rfl, hl, hm, hs, h6, ret⟩ := h
    have hr5 : Room 6 _ := hr
    have G_torn : FnOk P wo K mg base CX0 6 z.a_torn z.d_torn ["one", "other", "early"] (spTorn K) := ok_torn T.toTxp
    generalize en : (bt l).length = n at h6
    refine ⟨_, (pss_cons (ps_set (i := 3) sc_Lreads.nd rfl (Or.inl rfl) (pe_lst (pa_cons (pe_lst pa_nil) pa_nil)))
      (pss_cons (ps_for PassesOwn.never rfl (pi_range1 rfl T.n_range (pa_cons (pv 2) pa_nil)) (pg_name (i := 4) sc_Lreads.nd rfl (Or.inr rfl))
        (pss_one (ps_set (i := 3) sc_Lreads.nd rfl (Or.inl rfl) (pe_op op_cat (pv 3) (by refine' pe_lc (own := [("_law_some", 5)]) (tt := tYes) rfl sc_Lreads.nd ?hi (blkOk_by (N := ["_law_one", "_law_other", "_law_many", "_law_picks", "_law_bit", "_law_some", "_law_early"]) (sc := defScope s_Lreads) (by first | decide +kernel | kernel_rfl | rfl)) ?hg ?ht ?he (by intro _; rfl); (case hi => exact (pi_list (pv 3))); (case hg => exact fun _ _ _ _ _ => (pg_name (i := 5) sc_Lreads.nd rfl (Or.inl rfl))); (case ht => exact fun _ _ _ _ _ => pts_nil); (case he => exact fun _ _ _ _ _ => (pe_op op_cat (pv 5) (pe_lst (pa_cons (pv 4) pa_nil)))))))))
      (pss_one (ps_ret (pe_callB (call_sortT rfl) (by rfl) T.n_sorted (by decide +kernel) (pa_cons (pe_callTy (call_setL rfl) (by rfl) T.n_set (by decide +kernel) (pa_cons (by refine' pe_lc (own := [("_law_early", 6)]) (tt := tYes) rfl sc_Lreads.nd ?hi (blkOk_by (N := ["_law_one", "_law_other", "_law_many", "_law_picks", "_law_bit", "_law_some", "_law_early"]) (sc := defScope s_Lreads) (by first | decide +kernel | kernel_rfl | rfl)) ?hg ?ht ?he (by intro _; rfl); (case hi => exact (pi_list (pv 3))); (case hg => exact fun _ _ _ _ _ => (pg_name (i := 6) sc_Lreads.nd rfl (Or.inl rfl))); (case ht => exact fun _ _ _ _ _ => pts_nil); (case he => exact fun _ _ _ _ _ => (pe_callTy SkE.call_str_str (by rfl) T.n_str (by decide +kernel) (pa_cons (pe_call G_torn hr5 rfl T.g_torn T.k_torn T.b_torn .nil pass0 (pa_cons (pv 0) (pa_cons (pv 1) (pa_cons (pv 6) pa_nil)))) pa_nil)))) pa_nil)) pa_nil)))))), ?_⟩
    refine ⟨by show 0 ≤ sizeLine; decide, fun e he => ?_⟩
    refine ⟨by show 1 ≤ sizeLine; decide, fun a ha => ?_⟩
    have s0 := smN (o := .lst []) (Same.refl H) he
    have s1 := smN (o := .lst [.ref e]) s0 ha
    have e1 := smN (o := .lst [.ref e]) (Same.refl _) ha e _ upd_same
    refine ⟨_, rfl, (n : Int), rfl, by omega, by omega, ?_⟩
    refine for_range (n := n) (fun i σ H' => Same H H' ∧ ∃ (b : Addr) (rs : List Addr) (x4 x5 x6 : Option V), σ = [some (.str (S l)), some (.str (S m)), some (.int (n : Nat)), some (.ref b), x4, x5, x6] ∧ H' b = some (.lst (rfV rs)) ∧ Pk H' rs (pks i))
      ⟨s1, a, [e], none, none, none, rfl, upd_same, Pk.one e1⟩ ?_ ?_
    · rintro i σ H1 hi ⟨s2, b, rs, x4, x5, x6, rfl, hb, hp⟩
      have len := pks_len i
      have two : 2 ^ i ≤ 64 := by
        have := Nat.pow_le_pow_right (n := 2) (by decide) (show i ≤ 6 by omega)
        exact this
      have lrs : rs.length = (pks i).length := hp.1
      refine ⟨_, rfl, _, rfl, b, rfl, ⟨_, SqL.of hb⟩, fun D hD => ?_⟩
      refine lc_list (K := K) (a := b) (xs := rfV rs) (fun j H' => Same H1 H' ∧ ∃ ts : List Addr, H' D = some (.lst (rfV ts)) ∧ Pk H' ts (((pks i).take j).map fun s => s ++ [i]) ∧ ∀ r ∈ ts, r ≠ D)
        ⟨smN (Same.refl _) hD, [], upd_same, ⟨rfl, fun i r f e => by cases e⟩, fun r hr => by simp at hr⟩ (fun j H' _ h => h.1.seq (SqL.of hb)) (fun j x H2 ex h2 => ?_) (fun H2 h2 => ?_)
      · obtain ⟨s3, ts, hts, pts, nts⟩ := h2
        rw [List.getElem?_map] at ex
        cases er : rs[j]? with
        | none => rw [er] at ex; cases ex
        | some r =>
          rw [er] at ex
          cases ex
          have jl := (List.getElem?_eq_some_iff.mp er).1
          have ef : (pks i)[j]? = some ((pks i)[j]'(by omega)) := List.getElem?_eq_getElem (by omega)
          generalize ((pks i)[j]'(by omega)) = f at ef
          have hr' := s3 _ _ (hp.2 j r f er ef)
          have fl := (pks_lt (List.mem_of_getElem? ef)).1
          refine ⟨rfl, yes1 ?_⟩
          refine ⟨_, rfl, _, rfl, by show 1 ≤ sizeLine; decide, fun c hc => ?_⟩
          have s4 := smN (o := .lst [.int ((0 : Int) + (i : Nat))]) (Same.refl H2) hc
          refine ⟨r, c, nums f, [.int ((0 : Int) + (i : Nat))], rfl, rfl, s4 _ _ hr', upd_same, ?_, fun p hp2 => ?_⟩
          · unfold nums
            rw [List.length_map]
            exact Nat.le_trans (show f.length + 1 ≤ 7 by omega) (by decide)
          · have s5 := smN (o := .lst (nums f ++ [.int ((0 : Int) + (i : Nat))])) s4 hp2
            have s6 := s3.trans s5
            have tl : ts.length ≤ j := by
              have := pts.1
              rw [List.length_map, List.length_take] at this
              omega
            refine ⟨rfV ts, s5 _ _ hts, ?_, ?_⟩
            · rw [List.length_map]
              exact Nat.lt_of_le_of_lt tl (Nat.lt_of_lt_of_le jl (Nat.le_trans (show rs.length ≤ 64 by omega) (by decide)))
            · have pD : p ≠ D := fun e => by
                have := s4 _ _ hts
                rw [← e, hp2] at this
                cases this
              have Pn : Pk (upd (upd H2 c (.lst [.int ((0 : Int) + (i : Nat))])) p (.lst (nums f ++ [.int ((0 : Int) + (i : Nat))]))) (ts ++ [p]) ((((pks i).take j).map fun s => s ++ [i]) ++ [f ++ [i]]) :=
                (pts.same s5).app (Pk.one (by rw [upd_same]; unfold nums; simp))
              have nn : ∀ r ∈ ts ++ [p], r ≠ D := fun r hr => by
                rcases List.mem_append.mp hr with q | q
                · exact nts r q
                · rw [List.mem_singleton.mp q]; exact pD
              refine ⟨fun b' o eo => by rw [upd_ne (ne_of_none eo hD)]; exact s6 b' o eo, ts ++ [p], by rw [upd_same]; simp [rfV], ?_, nn⟩
              rw [List.take_add_one, ef, List.map_append]
              exact ⟨Pn.1, fun k r' f' q1 q2 => by rw [upd_ne (nn r' (List.mem_of_getElem? q1))]; exact Pn.2 k r' f' q1 q2⟩
      · obtain ⟨s3, ts, hts, pts, nts⟩ := h2
        rw [List.length_map, lrs, List.take_length] at pts
        have tl := pts.1
        rw [List.length_map] at tl
        refine ⟨b, D, rfV rs, rfV ts, rfl, rfl, s3 _ _ hb, hts, ?_, fun p hp2 => ?_⟩
        · rw [List.length_map, List.length_map]
          exact Nat.le_trans (show rs.length + ts.length ≤ 128 by omega) (by decide)
        · have s4 := smN (o := .lst (rfV rs ++ rfV ts)) s3 hp2
          refine ⟨s2.trans s4, p, rs ++ ts, _, _, _, rfl, by rw [upd_same]; simp [rfV], ?_⟩
          exact (hp.same s4).app (pts.same (smN (o := .lst (rfV rs ++ rfV ts)) (Same.refl _) hp2))
    · rintro σ H1 ⟨s2, b, rs, x4, x5, x6, rfl, hb, hp⟩
      have len := pks_len n
      have two : 2 ^ n ≤ 64 := by
        have := Nat.pow_le_pow_right (n := 2) (by decide) h6
        exact this
      have lrs : rs.length = (pks n).length := hp.1
      refine ⟨_, rfl, b, rfl, ⟨_, SqL.of hb⟩, fun D hD => ?_⟩
      refine lc_list (K := K) (a := b) (xs := rfV rs) (fun j H' => Same H1 H' ∧ H' D = some (.lst (txV (((pks n).take j).map (trn l m)))))
        ⟨smN (Same.refl _) hD, by rw [upd_same]; rfl⟩ (fun j H' _ h => h.1.seq (SqL.of hb)) (fun j x H2 ex h2 => ?_) (fun H2 h2 => ?_)
      · obtain ⟨s3, hts⟩ := h2
        rw [List.getElem?_map] at ex
        cases er : rs[j]? with
        | none => rw [er] at ex; cases ex
        | some r =>
          rw [er] at ex
          cases ex
          have jl := (List.getElem?_eq_some_iff.mp er).1
          have ef : (pks n)[j]? = some ((pks n)[j]'(by omega)) := List.getElem?_eq_getElem (by omega)
          generalize ((pks n)[j]'(by omega)) = f at ef
          have hr' := s3 _ _ (hp.2 j r f er ef)
          have fl := pks_lt (List.mem_of_getElem? ef)
          refine ⟨rfl, yes1 ?_⟩
          refine ⟨_, rfl, _, rfl, _, rfl, l, m, r, f, rfl, hl, hm, hs, hr', by omega, fun x hx => by rw [en]; exact fl.2 x hx, fun H3 s4 => ?_⟩
          refine ⟨_, rfl, txV (((pks n).take j).map (trn l m)), s4 _ _ hts, ?_, ?_⟩
          · rw [List.length_map, List.length_map, List.length_map, List.length_take]
            exact Nat.lt_of_le_of_lt (show min j (pks n).length ≤ 64 by omega) (by decide)
          · refine ⟨fun b' o eo => by rw [upd_ne (ne_of_none eo hD)]; exact s4 _ _ (s3 b' o eo), ?_⟩
            rw [upd_same, List.take_add_one, ef]
            simp [txV]
      · obtain ⟨s3, hts⟩ := h2
        rw [List.length_map, lrs, List.take_length] at hts
        have HD : H D = none := s2.free hD
        refine ⟨D, ((pks n).map (trn l m)).map S, rfl, SqL.of hts, ?_, fun a ys mem nd yl ha => ?_⟩
        · rw [List.length_map, List.length_map]
          omega
        · refine ⟨a, ys, rfl, upd_same, ?_, fun p zs pm so hp3 => ?_⟩
          · rw [List.length_map, List.length_map] at yl
            omega
          · have s4 := smN (o := SetTx P wo a ys) (s2.trans s3) ha
            have s5 := smN (o := .lst (zs.map V.str)) s4 hp3
            have al := al_two hl hm hs
            obtain ⟨F, rfl⟩ : ∃ F : List (List Nat), zs = F.map S := by
              have : ∀ zs : List Str, (∀ x ∈ zs, ∃ t, x = S t) → ∃ F : List (List Nat), zs = F.map S := fun zs => by
                induction zs with
                | nil => exact fun _ => ⟨[], rfl⟩
                | cons x zs ih =>
                  intro h
                  obtain ⟨t, rfl⟩ := h x List.mem_cons_self
                  obtain ⟨F, rfl⟩ := ih fun x hx => h x (List.mem_cons_of_mem _ hx)
                  exact ⟨t :: F, rfl⟩
              refine this zs fun x hx => ?_
              obtain ⟨t, _, e⟩ := List.mem_map.mp ((mem x).mp (pm.mem_iff.mp hx))
              exact ⟨t, e.symm⟩
            have inj : ∀ x y : List Nat, S x = S y → x = y := fun x y e => S_eq.mp (congrArg V.str e)
            have ndF : F.Nodup := by
              have := pm.nodup_iff.mpr nd
              exact (List.pairwise_map.mp this).imp fun h e => h (by rw [e])
            have eF : F = bxs [[]] l m := asc_ext (sorted_asc so ndF) (asc_box l m) fun x => by
              rw [← reads_box al (n := n) (by rw [plc_len, en])]
              constructor
              · intro hx
                obtain ⟨t, ht, e⟩ := List.mem_map.mp ((mem (S x)).mp (pm.mem_iff.mp (List.mem_map.mpr ⟨x, hx, rfl⟩)))
                obtain ⟨s', hs', e2⟩ := List.mem_map.mp ht
                exact ⟨s', hs', by rw [e2]; exact inj _ _ e⟩
              · rintro ⟨s', hs', rfl⟩
                obtain ⟨t, ht, e⟩ := List.mem_map.mp (pm.mem_iff.mpr ((mem (S (trn l m s'))).mpr (List.mem_map.mpr ⟨_, List.mem_map.mpr ⟨s', hs', rfl⟩, rfl⟩)))
                rw [← inj _ _ e]
                exact ht
            refine ret p _ s5 ((s2.trans s3).free ?_) (by rw [upd_same, eF])
            exact (smN (o := SetTx P wo a ys) (Same.refl _) ha).free hp3
end
end Fb
set_option maxRecDepth 100000
set_option maxHeartbeats 4000000
namespace Fb
open PySem PySem.Spec PyProof.Rows L2
open SX (S)
theorem stepL {H : Hp} {a : Addr} {xs : List V} (h : H a = none) : Same H (upd H a (.lst xs)) ∧ (upd H a (.lst xs)) a = some (.lst xs) := ⟨smN (Same.refl H) h, upd_same⟩
def szT10 : List (List Nat) := [[1], [2], [5], [6], [1, 1], [2, 3], [3, 3], [1, 2, 1], [2, 2, 2], [3, 1, 2]]
theorem szT10_ok : ∀ ss ∈ szT10, 1 ≤ ss.length ∧ ss.length ≤ 3 ∧ (∀ s ∈ ss, 1 ≤ s ∧ s ≤ 6) ∧ ss.sum ≤ 6 := by decide
def spPair : Sp := fun vs H Q _ => ∃ (p l : Addr) (n : Nat), vs = [.ref p] ∧ n < 900000 ∧ PenL H p l n ∧
  ∀ q x y H', But p H H' → PenL H' p l (n + 20) → H q = none → H' q = some (.lst (txV [x, y])) → IsP x → IsP y → szs y = szs x → (bt x).length ≤ 6 → Q (.ref q) H'
theorem isP_tab {x ss : List Nat} (h : Sg x) (e : szs x = ss) (h2 : ss ∈ szT10) : IsP x ∧ (bt x).length ≤ 6 := by
  obtain ⟨h3, h4, h5, h6⟩ := szT10_ok ss h2
  have b := bt_sum x
  rw [e] at b
  have h7 := szA_sum x 0
  rw [show szA 0 x = szs x from rfl, e, Nat.zero_add] at h7
  exact ⟨⟨h, fun k hk => (h5 k (by rw [← e]; exact hk)).1, by rw [e]; exact h4, by omega⟩, by omega⟩
section
variable {P : Program} {wo : World} {K : PySem.W.Frag} {mg : Str → Option Value} {base : Heap} {z : Pz} {w : Lz}
theorem ok_Lpair (T : TxL K mg z w) : FnOk P wo K mg base CX0 3 w.a_Lpair w.d_Lpair ["_law_pen_here"] spPair := by
  refine T.F_Lpair.ok sc_Lpair (fun vs H Q E h => ?_) (fun cdv A outer s H vs Q E hr h => ?_)
  · obtain ⟨p, l, n, rfl, _⟩ := h
    rfl
  · obtain ⟨p, l, n, rfl, hn, hP, ret⟩ := h
    have hr1 : Room 2 _ := hr
    have G_Ltake : FnOk P wo K mg base CX0 2 w.a_Ltake w.d_Ltake ["_law_pen_here", "_law_many"] spTake := ok_take T.F_Ltake T.pp
    refine ⟨_, (pss_cons (ps_set (i := 1) sc_Lpair.nd rfl (Or.inl rfl) (pe_ix ix_list (pe_lst (pa_cons (pe_lst (pa_cons pe_int pa_nil)) (pa_cons (pe_lst (pa_cons pe_int pa_nil)) (pa_cons (pe_lst (pa_cons pe_int pa_nil)) (pa_cons (pe_lst (pa_cons pe_int pa_nil)) (pa_cons (pe_lst (pa_cons pe_int (pa_cons pe_int pa_nil))) (pa_cons (pe_lst (pa_cons pe_int (pa_cons pe_int pa_nil))) (pa_cons (pe_lst (pa_cons pe_int (pa_cons pe_int pa_nil))) (pa_cons (pe_lst (pa_cons pe_int (pa_cons pe_int (pa_cons pe_int pa_nil)))) (pa_cons (pe_lst (pa_cons pe_int (pa_cons pe_int (pa_cons pe_int pa_nil)))) (pa_cons (pe_lst (pa_cons pe_int (pa_cons pe_int (pa_cons pe_int pa_nil)))) pa_nil))))))))))) (pe_call G_Ltake hr1 rfl T.g_Ltake T.k_Ltake T.b_Ltake .nil pass0 (pa_cons (pv 0) (pa_cons pe_int pa_nil))) (fun _ _ => rfl)))
      (pss_cons (ps_set (i := 2) sc_Lpair.nd rfl (Or.inl rfl) (pe_lst pa_nil))
      (pss_cons (ps_for PassesOwn.never rfl (pi_range1 rfl T.n_range (pa_cons pe_int pa_nil)) (pg_name (i := 3) sc_Lpair.nd rfl (Or.inl rfl))
        (pss_one (ps_expr (pe_bm PySem.F.plainAttrs_list PySem.F.slot_list_append PySem.F.type_list_append mt_append (pv 2) (pa_cons (pe_joinK (K := K) rfl pe_str (pa_cons (by refine' pe_lc (own := [("_law_size", 4)]) (tt := tYes) rfl sc_Lpair.nd ?hi (blkOk_by (N := ["_law_pen_here", "_law_sizes", "_law_found", "_law_k", "_law_size", "_law_bit"]) (sc := defScope s_Lpair) (by first | decide +kernel | kernel_rfl | rfl)) ?hg ?ht ?he (by intro _; rfl); (case hi => exact (pi_list (pv 1))); (case hg => exact fun _ _ _ _ _ => (pg_name (i := 4) sc_Lpair.nd rfl (Or.inl rfl))); (case ht => exact fun _ _ _ _ _ => pts_nil); (case he => exact fun _ _ _ _ _ => (pe_joinK (K := K) rfl pe_str (pa_cons (by refine' pe_lc (own := [("_law_bit", 5)]) (tt := tYes) rfl sc_Lpair.nd ?hi (blkOk_by (N := ["_law_pen_here", "_law_sizes", "_law_found", "_law_k", "_law_size", "_law_bit"]) (by first | decide +kernel | kernel_rfl | rfl)) ?hg ?ht ?he (by intro _; rfl); (case hi => exact (pi_range1 rfl T.n_range (pa_cons (pv 4) pa_nil))); (case hg => exact fun _ _ _ _ _ => (pg_name (i := 5) sc_Lpair.nd rfl (Or.inl rfl))); (case ht => exact fun _ _ _ _ _ => pts_nil); (case he => exact fun _ _ _ _ _ => (pe_ix ix_str pe_str (pe_call G_Ltake hr1 rfl T.g_Ltake T.k_Ltake T.b_Ltake .nil pass0 (pa_cons (pv 0) (pa_cons pe_int pa_nil))) (fun _ _ => rfl)))) pa_nil)))) pa_nil)) pa_nil)))))
      (pss_one (ps_ret (pv 2)))))), ?_⟩
    refine ⟨by show 1 ≤ sizeLine; decide, fun a0 h0 => ?_⟩
    obtain ⟨s0, c0⟩ := stepL (xs := [.int 1]) h0
    generalize upd H a0 (.lst [.int 1]) = G1 at s0 c0 ⊢
    refine ⟨by show 1 ≤ sizeLine; decide, fun a1 h1 => ?_⟩
    obtain ⟨s1, c1⟩ := stepL (xs := [.int 2]) h1
    generalize upd G1 a1 (.lst [.int 2]) = G2 at s1 c1 ⊢
    refine ⟨by show 1 ≤ sizeLine; decide, fun a2 h2 => ?_⟩
    obtain ⟨s2, c2⟩ := stepL (xs := [.int 5]) h2
    generalize upd G2 a2 (.lst [.int 5]) = G3 at s2 c2 ⊢
    refine ⟨by show 1 ≤ sizeLine; decide, fun a3 h3 => ?_⟩
    obtain ⟨s3, c3⟩ := stepL (xs := [.int 6]) h3
    generalize upd G3 a3 (.lst [.int 6]) = G4 at s3 c3 ⊢
    refine ⟨by show 2 ≤ sizeLine; decide, fun a4 h4 => ?_⟩
    obtain ⟨s4, c4⟩ := stepL (xs := [.int 1, .int 1]) h4
    generalize upd G4 a4 (.lst [.int 1, .int 1]) = G5 at s4 c4 ⊢
    refine ⟨by show 2 ≤ sizeLine; decide, fun a5 h5 => ?_⟩
    obtain ⟨s5, c5⟩ := stepL (xs := [.int 2, .int 3]) h5
    generalize upd G5 a5 (.lst [.int 2, .int 3]) = G6 at s5 c5 ⊢
    refine ⟨by show 2 ≤ sizeLine; decide, fun a6 h6 => ?_⟩
    obtain ⟨s6, c6⟩ := stepL (xs := [.int 3, .int 3]) h6
    generalize upd G6 a6 (.lst [.int 3, .int 3]) = G7 at s6 c6 ⊢
    refine ⟨by show 3 ≤ sizeLine; decide, fun a7 h7 => ?_⟩
    obtain ⟨s7, c7⟩ := stepL (xs := [.int 1, .int 2, .int 1]) h7
    generalize upd G7 a7 (.lst [.int 1, .int 2, .int 1]) = G8 at s7 c7 ⊢
    refine ⟨by show 3 ≤ sizeLine; decide, fun a8 h8 => ?_⟩
    obtain ⟨s8, c8⟩ := stepL (xs := [.int 2, .int 2, .int 2]) h8
    generalize upd G8 a8 (.lst [.int 2, .int 2, .int 2]) = G9 at s8 c8 ⊢
    refine ⟨by show 3 ≤ sizeLine; decide, fun a9 h9 => ?_⟩
    obtain ⟨s9, c9⟩ := stepL (xs := [.int 3, .int 1, .int 2]) h9
    generalize upd G9 a9 (.lst [.int 3, .int 1, .int 2]) = G10 at s9 c9 ⊢
    refine ⟨by show 10 ≤ sizeLine; decide, fun L hL => ?_⟩
    obtain ⟨s10, c10⟩ := stepL (xs := [.ref a0, .ref a1, .ref a2, .ref a3, .ref a4, .ref a5, .ref a6, .ref a7, .ref a8, .ref a9]) hL
    generalize upd G10 L (.lst [.ref a0, .ref a1, .ref a2, .ref a3, .ref a4, .ref a5, .ref a6, .ref a7, .ref a8, .ref a9]) = G11 at s10 c10 ⊢
    have u10 := s10
    have u9 := s9.trans u10
    have u8 := s8.trans u9
    have u7 := s7.trans u8
    have u6 := s6.trans u7
    have u5 := s5.trans u6
    have u4 := s4.trans u5
    have u3 := s3.trans u4
    have u2 := s2.trans u3
    have u1 := s1.trans u2
    have u0 := s0.trans u1
    have pick : ∀ d : Nat, d < 10 → ∃ r ss, ([.ref a0, .ref a1, .ref a2, .ref a3, .ref a4, .ref a5, .ref a6, .ref a7, .ref a8, .ref a9] : List V)[d]? = some (.ref r) ∧ G11 r = some (.lst (nums ss)) ∧ ss ∈ szT10 := fun d hd => by
      have hd' : d = 0 ∨ d = 1 ∨ d = 2 ∨ d = 3 ∨ d = 4 ∨ d = 5 ∨ d = 6 ∨ d = 7 ∨ d = 8 ∨ d = 9 := by omega
      rcases hd' with rfl | rfl | rfl | rfl | rfl | rfl | rfl | rfl | rfl | rfl
      · exact ⟨a0, [1], rfl, u1 _ _ c0, by decide⟩
      · exact ⟨a1, [2], rfl, u2 _ _ c1, by decide⟩
      · exact ⟨a2, [5], rfl, u3 _ _ c2, by decide⟩
      · exact ⟨a3, [6], rfl, u4 _ _ c3, by decide⟩
      · exact ⟨a4, [1, 1], rfl, u5 _ _ c4, by decide⟩
      · exact ⟨a5, [2, 3], rfl, u6 _ _ c5, by decide⟩
      · exact ⟨a6, [3, 3], rfl, u7 _ _ c6, by decide⟩
      · exact ⟨a7, [1, 2, 1], rfl, u8 _ _ c7, by decide⟩
      · exact ⟨a8, [2, 2, 2], rfl, u9 _ _ c8, by decide⟩
      · exact ⟨a9, [3, 1, 2], rfl, u10 _ _ c9, by decide⟩
    have hP1 : PenL G11 p l n := hP.same u0
    refine ⟨_, rfl, p, l, 10, n, rfl, by decide, by decide, by omega, hP1, fun d H1 hd0 hd1 P1 k1 => ?_⟩
    obtain ⟨d, rfl⟩ : ∃ e : Nat, d = (e : Int) := ⟨d.toNat, by omega⟩
    obtain ⟨r, ss, e1, e2, e3⟩ := pick d (by omega)
    have B1 : But p G11 H1 := But.took k1
    have pr : r ≠ p := by
      obtain ⟨cs, a, r', f, e, _⟩ := hP1
      exact ne_of e2 e (fun z => nomatch z)
    have pL : L ≠ p := by
      obtain ⟨cs, a, r', f, e, _⟩ := hP1
      exact ne_of c10 e (fun z => nomatch z)
    refine ⟨L, _, (d : Int), .ref r, rfl, rfl, SqL.of (B1 _ _ pL c10), atI_nat e1, ?_⟩
    have r1 := B1 _ _ pr e2
    have B2 := (But.of u0).trans B1
    refine ⟨by show 0 ≤ sizeLine; decide, fun F hF => ?_⟩
    have hF0 : p ≠ F := P1.nep hF
    have hFl : l ≠ F := P1.nel hF
    have HF : H F = none := by
      cases e : H F with
      | none => rfl
      | some o =>
        have := B2 F o (Ne.symm hF0) e
        rw [hF] at this
        cases this
    have nrF : r ≠ F := ne_of_none r1 hF
    have t3 := szT10_ok ss e3
    refine ⟨2, rfl, by decide, by decide, for_range (n := 2) (fun k σ H' => But p H H' ∧ PenL H' p l (n + 1 + 6 * k) ∧ H' r = some (.lst (nums ss)) ∧ (∃ xs : List (List Nat), H' F = some (.lst (txV xs)) ∧ xs.length = k ∧ ∀ x ∈ xs, Sg x ∧ szs x = ss) ∧ ∃ x3 x4 x5, σ = [some (.ref p), some (.ref r), some (.ref F), x3, x4, x5])
      ⟨B2.put HF, P1.put hF0 hFl, by rw [upd_ne nrF]; exact r1, ⟨[], upd_same, rfl, fun x hx => by simp at hx⟩, none, none, none, rfl⟩ ?_ ?_⟩
    · rintro k σ H2 hk ⟨B3, P3, r3, ⟨xs, hxs, lxs, oxs⟩, x3, x4, x5, rfl⟩
      refine ⟨_, rfl, .inl ⟨rfl, _, SqL.of hxs⟩, ?_⟩
      refine ⟨rfl, ?_⟩
      refine ⟨_, rfl, r, rfl, ⟨_, SqL.of r3⟩, fun D hD => ?_⟩
      have nDp := P3.nep hD
      have nDl := P3.nel hD
      have nrD : r ≠ D := ne_of_none r3 hD
      have nFD : F ≠ D := ne_of_none hxs hD
      have sums : ∀ i, (ss.take i).sum ≤ 6 := fun i => by
        have e := List.take_append_drop i ss
        have e2 := congrArg List.sum e
        rw [List.sum_append] at e2
        have := t3.2.2.2
        omega
      refine lc_list (K := K) (a := r) (xs := nums ss) (fun i H' => ∃ bs : List (List Nat), bs.map List.length = ss.take i ∧ (∀ b ∈ bs, ∀ c ∈ b, c = 48 ∨ c = 49) ∧ But p H2 H' ∧ PenL H' p l (n + 1 + 6 * k + (ss.take i).sum) ∧ H' D = some (.lst ((bs.map S).map V.str)))
        ⟨[], rfl, (fun b hb => by simp at hb), But.refl.new hD, by simpa using P3.put nDp nDl, upd_same⟩ (fun i H' _ h2 => ?_) (fun i x H3 e h2 => ?_) (fun H3 h2 => ?_)
      · obtain ⟨bs, _, _, B4, _⟩ := h2
        exact SqL.of (B4 r _ pr r3)
      · obtain ⟨bs, e1, hb, B4, P4, hD2⟩ := h2
        unfold nums at e
        rw [List.getElem?_map] at e
        cases es : ss[i]? with
        | none => rw [es] at e; cases e
        | some s =>
          rw [es] at e
          cases e
          have hi : i < ss.length := (List.getElem?_eq_some_iff.mp es).1
          have hsb := t3.2.2.1 s (List.mem_of_getElem? es)
          have e7 : ss.take (i + 1) = ss.take i ++ [s] := by rw [List.take_add_one, es] <;> rfl
          have sb := sums i
          refine ⟨rfl, yes1 ?_⟩
          refine ⟨rfl, ?_⟩
          refine ⟨_, rfl, (s : Int), rfl, by omega, by omega, fun D2 hD3 => ?_⟩
          have nD2p := P4.nep hD3
          have nD2l := P4.nel hD3
          have nDD : D ≠ D2 := ne_of_none hD2 hD3
          rw [show ((s : Int)).toNat = s from rfl]
          refine lc_range (fun j H' => ∃ b : List Nat, b.length = j ∧ (∀ c ∈ b, c = 48 ∨ c = 49) ∧ But p H3 H' ∧ PenL H' p l (n + 1 + 6 * k + (ss.take i).sum + j) ∧ H' D2 = some (.lst ((b.map fun c => S [c]).map V.str))) ⟨[], rfl, (fun c hc => by simp at hc), But.refl.new hD3, P4.put nD2p nD2l, upd_same⟩ (fun j H4 hj h3 => ?_) (fun H4 h3 => ?_)
          · obtain ⟨b, b1, b2, B5, P5, hb3⟩ := h3
            refine ⟨rfl, yes1 ?_⟩
            refine ⟨_, rfl, p, l, 2, n + 1 + 6 * k + (ss.take i).sum + j, rfl, by decide, by decide, by omega, P5, fun d H5 hd0 hd1 P6 k6 => ?_⟩
            have hd : d = 0 ∨ d = 1 := by omega
            have fin : ∀ c : Nat, (c = 48 ∨ c = 49) → ∃ b' : List Nat, b'.length = j + 1 ∧ (∀ c ∈ b', c = 48 ∨ c = 49) ∧ But p H3 (upd H5 D2 (.lst ((b.map fun c => S [c]).map V.str ++ [.str (S [c])]))) ∧ PenL (upd H5 D2 (.lst ((b.map fun c => S [c]).map V.str ++ [.str (S [c])]))) p l (n + 1 + 6 * k + (ss.take i).sum + (j + 1)) ∧ (upd H5 D2 (.lst ((b.map fun c => S [c]).map V.str ++ [.str (S [c])]))) D2 = some (.lst ((b'.map fun c => S [c]).map V.str)) := fun c hc =>
              ⟨b ++ [c], by rw [List.length_append, b1] <;> rfl, (fun x hx => by rcases List.mem_append.mp hx with h | h; exact b2 x h; exact (List.mem_singleton.mp h) ▸ hc), (B5.trans (But.took k6)).put hD3, (P6.mono (by omega)).put nD2p nD2l, by rw [upd_same, List.map_append, List.map_append] <;> rfl⟩
            have acc : H5 D2 = some (.lst ((b.map fun c => S [c]).map V.str)) := by rw [k6 D2 (Ne.symm nD2p)]; exact hb3
            have len : ((b.map fun c => S [c]).map V.str).length < sizeLine := by rw [List.length_map, List.length_map, b1]; exact small1 _ (by omega)
            rcases hd with rfl | rfl
            · exact ⟨"01", 0, 48, rfl, rfl, by decide, by decide +kernel, _, acc, len, fin 48 (.inl rfl)⟩
            · exact ⟨"01", 1, 49, rfl, rfl, by decide, by decide +kernel, _, acc, len, fin 49 (.inr rfl)⟩
          · obtain ⟨b, b1, b2, B5, P5, hb3⟩ := h3
            refine ⟨"", D2, b.map fun c => S [c], rfl, rfl, .inl (SqL.of hb3), ?_, ?_⟩
            · rw [List.map_map, sum_signs, List.length_map, b1]
              show _ + _ * 0 ≤ _
              omega
            · rw [join_signs]
              refine ⟨_, B5 D _ (Ne.symm nDp) hD2, ?_, ?_⟩
              · have := congrArg List.length e1
                rw [List.length_map, List.length_take] at this
                rw [List.length_map, List.length_map, this]
                exact small1 _ (by omega)
              · refine ⟨bs ++ [b], by rw [List.map_append, e1, e7] <;> simp [b1], fun x hx => ?_, (B4.trans B5).put hD, ?_, by rw [upd_same, List.map_append, List.map_append] <;> rfl⟩
                · rcases List.mem_append.mp hx with h | h
                  · exact hb x h
                  · exact (List.mem_singleton.mp h) ▸ b2
                · rw [e7, List.sum_append]
                  exact (P5.mono (by simp; omega)).put nDp nDl
      · obtain ⟨bs, e1, hb, B4, P4, hD2⟩ := h2
        have en : (nums ss).length = ss.length := by unfold nums; rw [List.length_map]
        rw [en, List.take_length] at e1 P4
        have st := sums ss.length
        rw [List.take_length] at st
        have lb : bs.length = ss.length := by rw [← e1, List.length_map]
        have sl : ((bs.map S).map fun w => w.length).sum = ss.sum := by rw [SX.lens, e1]
        refine ⟨".", D, bs.map S, rfl, rfl, .inl (SqL.of hD2), ?_, ?_⟩
        · rw [sl, List.length_map, lb]
          show _ + _ * 1 ≤ _
          omega
        · have ne : bs ≠ [] := fun e => by rw [e] at lb; simp at lb; omega
          rw [S_d, SX.join_S]
          have sgj := sg_join hb
          have szj := szs_join ne hb
          generalize TL.joinL [46] bs = x at sgj szj ⊢
          rw [e1] at szj
          refine ⟨F, txV xs, _, rfl, rfl, B4 F _ (Ne.symm hF0) hxs, ?_, (B3.trans B4).put HF, (P4.mono (by omega)).put hF0 hFl, by rw [upd_ne nrF]; exact B4 r _ pr r3, ⟨xs ++ [x], by rw [upd_same]; simp [txV], by rw [List.length_append, lxs] <;> rfl, fun y hy => ?_⟩, _, _, _, rfl⟩
          · rw [List.length_map, List.length_map, lxs]
            exact small1 _ (by omega)
          · rcases List.mem_append.mp hy with q | q
            · exact oxs y q
            · rw [List.mem_singleton.mp q]
              exact ⟨sgj, szj⟩
    · rintro σ H2 ⟨B3, P3, r3, ⟨xs, hxs, lxs, oxs⟩, x3, x4, x5, rfl⟩
      obtain ⟨x, y, rfl⟩ : ∃ x y, xs = [x, y] := by
        match xs, lxs with
        | [x, y], _ => exact ⟨x, y, rfl⟩
      obtain ⟨q1, q2⟩ := oxs x (by simp)
      obtain ⟨q3, q4⟩ := oxs y (by simp)
      exact ⟨_, rfl, ret F x y H2 B3 (P3.mono (by omega)) HF hxs (isP_tab q1 q2 e3).1 (isP_tab q3 q4 e3).1 (by rw [q2, q4]) (isP_tab q1 q2 e3).2⟩
end
end Fb
set_option maxRecDepth 100000
set_option maxHeartbeats 4000000
namespace Fb
open PySem PySem.Spec PyProof.Rows L2
open SX (S)
/-! one sign replaced -/
theorem repl_sign {a b : Nat} : ∀ l : List Nat, StrLaws.replL [a] [b] l = l.map fun c => if c = a then b else c
  | [] => StrLaws.replL_nil
  | c :: l => by
    by_cases h : c = a
    · subst h
      rw [StrLaws.replL_hit (by simp) (by simp), List.map_cons, if_pos rfl]
      show [b] ++ StrLaws.replL [c] [b] ((c :: l).drop 1) = _
      rw [show (c :: l).drop 1 = l from rfl, repl_sign l] <;> rfl
    · rw [StrLaws.replL_miss (by simpa using h), List.map_cons, if_neg h, repl_sign l]
theorem replace_sign {a b : Nat} (l : List Nat) : Txt.replace (S l) (S [a]) (S [b]) = S (l.map fun c => if c = a then b else c) := by
  refine TL.ext_tl ?_
  have h := StrLaws.replace_list (x := S l) (y := S [a]) (z := S [b]) (by rw [S_ln]; exact Nat.le_refl 1)
  exact h.trans (repl_sign l)
theorem replace_lo (l : List Nat) : Txt.replace (S l) "1" "0" = S (l.map lo1) := by
  rw [S_1, S_0]
  exact replace_sign l
theorem replace_hi (l : List Nat) : Txt.replace (S l) "0" "1" = S (l.map hi1) := by
  rw [S_1, S_0]
  exact replace_sign l
theorem al_lo : ∀ {l : List Nat}, Sg l → Al l (l.map lo1) ∧ Al l (l.map hi1)
  | [], _ => ⟨.nil, .nil⟩
  | a :: l, h => by
    obtain ⟨h1, h2⟩ := al_lo (l := l) fun x hx => h x (List.mem_cons_of_mem _ hx)
    have ha := h a List.mem_cons_self
    refine ⟨.cons ?_ h1, .cons ?_ h2⟩
    · unfold lo1 AlS; rcases ha with rfl | rfl | rfl <;> simp
    · unfold hi1 AlS; rcases ha with rfl | rfl | rfl <;> simp
theorem unl_bt : ∀ {l m : List Nat}, Al l m → unl l m ≤ (bt l).length
  | _, _, .nil => Nat.zero_le _
  | a :: l, b :: m, .cons r t => by
    have ih := unl_bt t
    rw [unl_cons]
    rcases r with ⟨rfl, rfl⟩ | ⟨h1, h2⟩
    · rw [if_pos rfl, Nat.zero_add]
      show _ ≤ ((46 :: l).filter fun c => c != 46).length
      rw [List.filter_cons_of_neg (by simp)]
      exact ih
    · have : (bt (a :: l)).length = (bt l).length + 1 := by
        show ((a :: l).filter fun c => c != 46).length = _
        rw [List.filter_cons_of_pos (by rcases h1 with rfl | rfl <;> decide)] <;> rfl
      rw [this]
      split <;> omega
/-! lists of texts, as data -/
def strD (F : List (List Nat)) : List PyData := F.map fun z => .str (S z)
theorem dp_strs {K : PySem.W.Frag} {H : Hp} : ∀ F : List (List Nat), DpAll K H (txV F) (strD F)
  | [] => .nil
  | z :: F => .cons (.str _) (dp_strs F)
theorem strOk_sg {l : List Nat} (h : Sg l) : PyData.strOk (S l) = true := by
  unfold PyData.strOk
  simp only [S, List.all_toArray, List.all_eq_true, decide_eq_true_eq]
  intro c hc
  have := h c hc
  omega
theorem lay_strs : ∀ F : List (List Nat), (∀ z ∈ F, Sg z) → PyData.canLayAll0 (strD F) = true ∧ PyData.depthAll (strD F) = 0
  | [], _ => ⟨rfl, rfl⟩
  | z :: F, hz => by
    obtain ⟨h1, h2⟩ := lay_strs F fun x hx => hz x (List.mem_cons_of_mem _ hx)
    unfold strD at *
    rw [List.map_cons]
    constructor
    · rw [PyData.canLayAll0, h1, PyData.canLay0, strOk_sg (hz z List.mem_cons_self)] <;> rfl
    · rw [PyData.depthAll, h2] <;> rfl
theorem eqv_strs : ∀ F G : List (List Nat), PyData.eqvAll (strD F) (strD G) = decide (F = G)
  | [], [] => by simp [strD, PyData.eqvAll]
  | [], _ :: _ => by simp [strD, PyData.eqvAll]
  | _ :: _, [] => by simp [strD, PyData.eqvAll]
  | n :: ns, m :: ms => by
    have h := eqv_strs ns ms
    unfold strD at *
    rw [List.map_cons, List.map_cons, PyData.eqvAll, h, PyData.eqv]
    by_cases e : n = m
    · subst e
      simp
    · have e2 : ¬ (S n = S m) := fun z => e (SX.S_inj z)
      simp [e, e2]
theorem eqv_strL (F G : List (List Nat)) : PyData.eqv (.list (strD F)) (.list (strD G)) = decide (F = G) := by rw [PyData.eqv, eqv_strs]
theorem inV_txV (z : List Nat) (F : List (List Nat)) : inV (.str (S z)) (txV F) = decide (z ∈ F) := by
  show ((F.map S).map V.str).any (fun y => eqV y (V.str (S z))) = _
  rw [List.map_map, List.any_map]
  have e : (fun y => eqV y (V.str (S z))) ∘ (V.str ∘ S) = fun p : List Nat => decide (p = z) := by
    funext p
    show (S p == S z) = _
    rw [SX.S_beq_eq]
  rw [e]
  by_cases h : z ∈ F
  · rw [decide_eq_true h]
    exact List.any_eq_true.mpr ⟨z, h, by simp⟩
  · rw [decide_eq_false h]
    refine List.any_eq_false.mpr fun p hp => ?_
    simp only [decide_eq_true_eq]
    exact fun e => h (e ▸ hp)
theorem flat_txV (F : List (List Nat)) : (txV F).all flatV = true := by
  show ((F.map S).map V.str).all flatV = true
  rw [List.map_map, List.all_map]
  exact List.all_eq_true.mpr fun p _ => rfl
theorem txV_len (F : List (List Nat)) : (txV F).length = F.length := by rw [List.length_map, List.length_map]
/-- what is known of two patterns of at most six bits -/
structure Two (x y : List Nat) : Prop where
  px : IsP x
  py : IsP y
  es : szs y = szs x
  six : (bt x).length ≤ 6
theorem Two.al {x y : List Nat} (h : Two x y) : Al x y := al_two h.px h.py h.es
theorem Two.un {x y : List Nat} (h : Two x y) : unl x y ≤ 6 := Nat.le_trans (unl_bt h.al) h.six
theorem Two.many {x y : List Nat} (h : Two x y) : (bxs [[]] x y).length = 2 ^ unl x y := by rw [bxs_len]; simp
theorem Two.few {x y : List Nat} (h : Two x y) : 1 ≤ (bxs [[]] x y).length ∧ (bxs [[]] x y).length ≤ 64 := by
  rw [h.many]
  exact ⟨Nat.one_le_two_pow, Nat.pow_le_pow_right (n := 2) (by decide) h.un⟩
theorem Two.mem {x y z : List Nat} (h : Two x y) (hz : z ∈ bxs [[]] x y) : InB z x y ∧ Al x z ∧ IsP z ∧ szs z = szs x ∧ (bt z).length ≤ 6 := by
  have i := (mem_box h.al.len).mp hz
  have a := inB_al h.al i
  refine ⟨i, a, a.isP h.px, a.szs.symm, ?_⟩
  have := a.nb
  have e := h.six
  unfold nb at this
  rw [← this]
  exact e
theorem Two.sub {x y u v : List Nat} (h : Two x y) (hu : u ∈ bxs [[]] x y) (hv : v ∈ bxs [[]] x y) : Two u v := by
  obtain ⟨_, _, p1, s1, b1⟩ := h.mem hu
  obtain ⟨_, _, p2, s2, _⟩ := h.mem hv
  exact ⟨p1, p2, by rw [s1, s2], b1⟩
theorem Two.low {x y : List Nat} (h : Two x y) : IsP (zw fAnd x y) ∧ IsP (zw fOr x y) ∧ szs (zw fAnd x y) = szs x ∧ szs (zw fOr x y) = szs x := by
  have a := Al.zw al_and h.al
  have o := Al.zw al_or h.al
  exact ⟨a.isP h.px, o.isP h.px, a.szs.symm, o.szs.symm⟩
theorem PenL.nd {H : Hp} {p l c : Addr} {n : Nat} {xs : List V} (h : PenL H p l n) (e : H c = some (.lst xs)) : c ≠ p := by
  obtain ⟨cs, a, r', f, e2, _⟩ := h
  exact ne_of e e2 (fun z => nomatch z)
theorem pick_txt {F : List (List Nat)} {d : Int} (h0 : 0 ≤ d) (h1 : d < ((txV F).length : Nat)) : ∃ u, atI (txV F) d = some (.str (S u)) ∧ u ∈ F := by
  obtain ⟨k, rfl⟩ : ∃ k : Nat, d = (k : Int) := ⟨d.toNat, by omega⟩
  rw [txV_len] at h1
  have hk : k < F.length := by omega
  refine ⟨F[k], atI_nat ?_, List.getElem_mem hk⟩
  show ((F.map S).map V.str)[k]? = _
  rw [List.getElem?_map, List.getElem?_map, List.getElem?_eq_getElem hk] <;> rfl
theorem iteB0 {b : Bool} {A B : Prop} (e : b = false) (h : B) : if b = true then A else B := by
  rw [e]
  exact iteF h
theorem iteB1 {b : Bool} {A B : Prop} (e : b = true) (h : A) : if b = true then A else B := by
  rw [e]
  exact iteT h
end Fb
set_option maxRecDepth 100000
set_option maxHeartbeats 4000000
namespace Fb
open PySem PySem.Spec PyProof.Rows L2
open SX (S)
def spLaw (K : PySem.W.Frag) : Sp := fun vs H Q _ => ∃ (a : Addr) (ns : List Int), vs = [.ref a] ∧ SqL K H a (ns.map V.int) ∧ ns.length ≤ 63 ∧ ∀ H', Q (.bl true) H'
theorem pat_new {C : Addr} {H1 H' : Hp} {x dx t : Addr} {l : List Nat} (hp : IsP l) (hx : H1 x = none) (hd : H1 dx = none) (keep : ∀ b o, b ≠ x → (upd (upd H1 dx (.own x)) x (.ins C dx [])) b = some o → H' b = some o) (ha : H' x = some (.ins C dx (ptF l t))) (ht : H' t = some (.tup (nums (szs l)))) :
    Same H1 H' ∧ PtI C H' x l := by
  refine ⟨fun b o e => keep b o (ne_of_none e hx) ?_, hp, dx, t, ha, ht⟩
  rw [upd_ne (ne_of_none e hx), upd_ne (ne_of_none e hd)]
  exact e
section
variable {P : Program} {wo : World} {K : PySem.W.Frag} {mg : Str → Option Value} {base : Heap} {z : Pz} {w : Lz}
theorem ok_law {f : Addr} {fd : FuncData} (F : Fun K "law" "law" s_law f fd) (T : TxL K mg z w) : FnG P wo K mg base CX0 9 f fd ["_law_script"] (spLaw K) := by
  refine Fun.okG0 F sc_law (fun {vs H Q E} h => ?_) (fun {cdv A outer s H vs Q E} hq hr h => ?_)
  · obtain ⟨a, ns, rfl, _⟩ := h
    rfl
  · obtain ⟨a, ns, rfl, hS, hlen, kk⟩ := h
    have hr6 : Room 7 _ := hr.mono (by decide)
    have hrP : Room 6 _ := hr.mono (by decide)
    have hr4 : Room 5 _ := hr.mono (by decide)
    have hr2 : Room 3 _ := hr.mono (by decide)
    have hr1 : Room 2 _ := hr.mono (by decide)
    have hu64 : (A.deeper (envOfC "law" (defScope s_law) s.heap.objs.size f cdv)).units + 64 < cLine := hr.units
    have G_Lpen : FnOk P wo K mg base CX0 2 w.a_Lpen w.d_Lpen ["_law_script"] (spPen K) := ok_pen T.F_Lpen T.pp
    have G_Ltake : FnOk P wo K mg base CX0 2 w.a_Ltake w.d_Ltake ["_law_pen_here", "_law_many"] spTake := ok_take T.F_Ltake T.pp
    have G_Lpair : FnOk P wo K mg base CX0 3 w.a_Lpair w.d_Lpair ["_law_pen_here"] spPair := ok_Lpair T
    have G_Lreads : FnOk P wo K mg base CX0 7 w.a_Lreads w.d_Lreads ["_law_one", "_law_other", "_law_many"] spReads := ok_Lreads T
    have G_box : FnOk P wo K mg base CX0 6 z.a_box z.d_box ["one", "other"] spBoxG := ok_boxG T.toTxp
    have G_in_box : FnOk P wo K mg base CX0 6 z.a_in_box z.d_in_box ["z", "one", "other"] spInBox := ok_in_box T.toTxp
    have G_box_size : FnOk P wo K mg base CX0 6 z.a_box_size z.d_box_size ["one", "other"] spBoxSize := ok_box_size T.toTxp
    have G_torn : FnOk P wo K mg base CX0 6 z.a_torn z.d_torn ["one", "other", "early"] (spTorn K) := ok_torn T.toTxp
    have G_init : FnOk P wo K mg base CX0 4 z.a_init z.d_init ["self", "text"] (spInit z.C) := ok_init T.toTxp
    refine ⟨_, (pss_cons (ps_set (i := 1) sc_law.nd rfl (Or.inl rfl) (pe_call G_Lpen hr1 rfl T.g_Lpen T.k_Lpen T.b_Lpen .nil pass0 (pa_cons (pv 0) pa_nil)))
      (pss_cons (ps_forT PassesOwn.never rfl (pis_range1 rfl T.n_range) (pg_name (i := 2) sc_law.nd rfl (Or.inl rfl))
        (psst_cons (PST.of (ps_asg (pe_call G_Lpair hr2 rfl T.g_Lpair T.k_Lpair T.b_Lpair .nil pass0 (pa_cons (pv 1) pa_nil)) (pg_lst rfl (pgs_cons (pg_name (i := 3) sc_law.nd rfl (Or.inr rfl)) (pgs_cons (pg_name (i := 4) sc_law.nd rfl (Or.inr rfl)) pgs_nil)))))
        (psst_cons (PST.of (ps_set (i := 5) sc_law.nd rfl (Or.inl rfl) (pe_callB (call_lenP T.toTxp hr2) (by rfl) T.n_len (by decide +kernel) (pa_cons (pe_make T.mkP G_init hr4 rfl T.g_Pattern T.b_init .nil pass0 (pa_cons (pv 3) pa_nil)) pa_nil))))
        (psst_cons (PST.of (ps_set (i := 6) sc_law.nd rfl (Or.inr rfl) (pe_call G_box hrP rfl T.g_box T.k_box T.b_box .nil pass0 (pa_cons (pv 3) (pa_cons (pv 4) pa_nil)))))
        (psst_cons (PST.of (ps_if (PW.pt (pw_or (pt_cmpR (op_neD hu64) (pe_call G_Lreads hr6 rfl T.g_Lreads T.k_Lreads T.b_Lreads .nil pass0 (pa_cons (pv 3) (pa_cons (pv 4) (pa_cons (pv 5) pa_nil)))) (pv 6) (nomark _)) (pw_or1 (pt_cmpR op_ne (pe_call G_box_size hrP rfl T.g_box_size T.k_box_size T.b_box_size .nil pass0 (pa_cons (pv 3) (pa_cons (pv 4) pa_nil))) (pe_callB call_len_seq (by rfl) T.n_len (by decide +kernel) (pa_cons (pv 6) pa_nil)) (nomark _)))))
          (pss_one (ps_ret pe_bl))
          pss_nil))
        (psst_cons (PST.of (ps_par (i := 7) (j := 8) rfl sc_law.nd rfl rfl (by decide) rfl rfl (pa_cons (pe_ix ix_list (pv 6) (pe_call G_Ltake hr1 rfl T.g_Ltake T.k_Ltake T.b_Ltake .nil pass0 (pa_cons (pv 1) (pa_cons (pe_callB call_len_seq (by rfl) T.n_len (by decide +kernel) (pa_cons (pv 6) pa_nil)) pa_nil))) (fun _ _ => rfl)) (pa_cons (pe_ix ix_list (pv 6) (pe_call G_Ltake hr1 rfl T.g_Ltake T.k_Ltake T.b_Ltake .nil pass0 (pa_cons (pv 1) (pa_cons (pe_callB call_len_seq (by rfl) T.n_len (by decide +kernel) (pa_cons (pv 6) pa_nil)) pa_nil))) (fun _ _ => rfl)) pa_nil)) (by rfl)))
        (psst_cons (PST.of (ps_set (i := 9) sc_law.nd rfl (Or.inl rfl) (pe_op op_cat (pe_call G_box hrP rfl T.g_box T.k_box T.b_box .nil pass0 (pa_cons (pv 7) (pa_cons (pv 8) pa_nil))) (pe_lst (pa_cons (pe_callTy (call_strP T.toTxp hrP) (by rfl) T.n_str (by decide +kernel) (pa_cons (pe_op (op_andP T.toTxp hrP passL) (pe_make T.mkP G_init hr4 rfl T.g_Pattern T.b_init .nil pass0 (pa_cons (pv 7) pa_nil)) (pe_make T.mkP G_init hr4 rfl T.g_Pattern T.b_init .nil pass0 (pa_cons (pv 8) pa_nil))) pa_nil)) (pa_cons (pe_callTy (call_strP T.toTxp hrP) (by rfl) T.n_str (by decide +kernel) (pa_cons (pe_op (op_orP T.toTxp hrP passL) (pe_make T.mkP G_init hr4 rfl T.g_Pattern T.b_init .nil pass0 (pa_cons (pv 7) pa_nil)) (pe_make T.mkP G_init hr4 rfl T.g_Pattern T.b_init .nil pass0 (pa_cons (pv 8) pa_nil))) pa_nil)) pa_nil))))))
        (psst_cons (PST.of (ps_if (pt_cmpR (op_neD hu64) (by refine' pe_lc (own := [("_law_text", 13)]) rfl sc_law.nd ?hi (blkOk_by (N := ["_law_script", "_law_pen_here", "_law_turn", "_law_one", "_law_other", "_law_many", "_law_whole", "_law_y", "_law_z", "_law_inner", "_law_low", "_law_high", "_law_free", "_law_text"]) (sc := defScope s_law) (by first | decide +kernel | kernel_rfl | rfl)) ?hg ?ht ?he (by intro _; rfl); (case hi => exact (pi_list (pv 9))); (case hg => exact fun _ _ _ _ _ => (pg_name (i := 13) sc_law.nd rfl (Or.inl rfl))); (case ht => exact fun _ _ _ _ _ => (pts_one (PW.pt (pw_or (pt_cmpR (op_notInK rfl) (pv 13) (pv 6) rfl) (pw_or1 (pt_not (pt_val (pe_call G_in_box hrP rfl T.g_in_box T.k_in_box T.b_in_box .nil pass0 (pa_cons (pv 13) (pa_cons (pv 3) (pa_cons (pv 4) pa_nil))))))))))); (case he => exact fun _ _ _ _ _ => (pv 13))) (pe_lst pa_nil) (nomark _))
          (pss_one (ps_ret pe_bl))
          pss_nil))
        (psst_cons (PST.of (ps_if (pt_not (pt_val (pe_call G_in_box hrP rfl T.g_in_box T.k_in_box T.b_in_box .nil pass0 (pa_cons (pe_call G_torn hrP rfl T.g_torn T.k_torn T.b_torn .nil pass0 (pa_cons (pv 7) (pa_cons (pv 8) (pa_cons (pe_lst (pa_cons (pe_call G_Ltake hr1 rfl T.g_Ltake T.k_Ltake T.b_Ltake .nil pass0 (pa_cons (pv 1) (pa_cons (pv 5) pa_nil))) pa_nil)) pa_nil)))) (pa_cons (pv 3) (pa_cons (pv 4) pa_nil))))))
          (pss_one (ps_ret pe_bl))
          pss_nil))
        (psst_cons (PST.of (ps_asg (pe_tup (pa_cons (pe_op (op_andP T.toTxp hrP passL) (pe_make T.mkP G_init hr4 rfl T.g_Pattern T.b_init .nil pass0 (pa_cons (pv 3) pa_nil)) (pe_make T.mkP G_init hr4 rfl T.g_Pattern T.b_init .nil pass0 (pa_cons (pv 4) pa_nil))) (pa_cons (pe_op (op_orP T.toTxp hrP passL) (pe_make T.mkP G_init hr4 rfl T.g_Pattern T.b_init .nil pass0 (pa_cons (pv 3) pa_nil)) (pe_make T.mkP G_init hr4 rfl T.g_Pattern T.b_init .nil pass0 (pa_cons (pv 4) pa_nil))) pa_nil))) (pg_tup rfl (pgs_cons (pg_name (i := 10) sc_law.nd rfl (Or.inr rfl)) (pgs_cons (pg_name (i := 11) sc_law.nd rfl (Or.inr rfl)) pgs_nil)))))
        (psst_cons (PST.of (ps_if (PW.pt (pw_or (pt_cmpR (op_neD hu64) (pe_call G_box hrP rfl T.g_box T.k_box T.b_box .nil pass0 (pa_cons (pe_callTy (call_strP T.toTxp hrP) (by rfl) T.n_str (by decide +kernel) (pa_cons (pv 10) pa_nil)) (pa_cons (pe_callTy (call_strP T.toTxp hrP) (by rfl) T.n_str (by decide +kernel) (pa_cons (pv 11) pa_nil)) pa_nil))) (pv 6) (nomark _)) (pw_or1 (pt_not (pt_cmpR (op_leP T.toTxp hrP passL) (pv 10) (pv 11) (nomark _))))))
          (pss_one (ps_ret pe_bl))
          pss_nil))
        (psst_cons (PST.of (ps_if (pt_cmpR (op_neD hu64) (by refine' pe_lc (own := [("_law_text", 13)]) rfl sc_law.nd ?hi (blkOk_by (N := ["_law_script", "_law_pen_here", "_law_turn", "_law_one", "_law_other", "_law_many", "_law_whole", "_law_y", "_law_z", "_law_inner", "_law_low", "_law_high", "_law_free", "_law_text"]) (sc := defScope s_law) (by first | decide +kernel | kernel_rfl | rfl)) ?hg ?ht ?he (by intro _; rfl); (case hi => exact (pi_list (pv 6))); (case hg => exact fun _ _ _ _ _ => (pg_name (i := 13) sc_law.nd rfl (Or.inl rfl))); (case ht => exact fun _ _ _ _ _ => (pts_one (pt_not (PW.pt (pw_and (pt_cmpR (op_leP T.toTxp hrP passL) (pv 10) (pe_make T.mkP G_init hr4 rfl T.g_Pattern T.b_init .nil pass0 (pa_cons (pv 13) pa_nil)) (nomark _)) (pw_and1 (pt_cmpR (op_leP T.toTxp hrP passL) (pe_make T.mkP G_init hr4 rfl T.g_Pattern T.b_init .nil pass0 (pa_cons (pv 13) pa_nil)) (pv 11) (nomark _)))))))); (case he => exact fun _ _ _ _ _ => (pv 13))) (pe_lst pa_nil) (nomark _))
          (pss_one (ps_ret pe_bl))
          pss_nil))
        (psst_cons (pst_set (i := 12) sc_law.nd rfl (Or.inl rfl) (pet_call G_box hrP rfl T.g_box T.k_box T.b_box .nil pass0 (pat_cons (CwR.pet_replC (pv 3)) (pat_cons (CwR.pet_replC (pv 3)) L2.pat_nil))))
        (CwR.psst_one (PST.of (ps_if (pt_cmpR op_ne (pe_callB call_len_seq (by rfl) T.n_len (by decide +kernel) (pa_cons (by refine' pe_lc (own := [("_law_text", 13)]) rfl sc_law.nd ?hi (blkOk_by (N := ["_law_script", "_law_pen_here", "_law_turn", "_law_one", "_law_other", "_law_many", "_law_whole", "_law_y", "_law_z", "_law_inner", "_law_low", "_law_high", "_law_free", "_law_text"]) (sc := defScope s_law) (by first | decide +kernel | kernel_rfl | rfl)) ?hg ?ht ?he (by intro _; rfl); (case hi => exact (pi_list (pv 12))); (case hg => exact fun _ _ _ _ _ => (pg_name (i := 13) sc_law.nd rfl (Or.inl rfl))); (case ht => exact fun _ _ _ _ _ => (pts_one (PW.pt (pw_and (pt_cmpR (op_leP T.toTxp hrP passL) (pv 10) (pe_make T.mkP G_init hr4 rfl T.g_Pattern T.b_init .nil pass0 (pa_cons (pv 13) pa_nil)) (nomark _)) (pw_and1 (pt_cmpR (op_leP T.toTxp hrP passL) (pe_make T.mkP G_init hr4 rfl T.g_Pattern T.b_init .nil pass0 (pa_cons (pv 13) pa_nil)) (pv 11) (nomark _))))))); (case he => exact fun _ _ _ _ _ => (pv 13))) pa_nil)) (pe_callB call_len_seq (by rfl) T.n_len (by decide +kernel) (pa_cons (pv 6) pa_nil)) (nomark _))
          (pss_one (ps_ret pe_bl))
          pss_nil))))))))))))))))
      (pss_one (ps_ret pe_bl)))), ?_⟩
    refine ⟨_, rfl, a, ns, rfl, hS, hlen, fun p l H1 hp1 hl1 s1 P1 => ?_⟩
    refine ⟨3, rfl, by decide, by decide, for_range (n := 3) (fun i σ H' => PenL H' p l (100 * i) ∧ ∃ x2 x3 x4 x5 x6 x7 x8 x9 x10 x11 x12 x13 : Option V, σ = [some (.ref a), some (.ref p), x2, x3, x4, x5, x6, x7, x8, x9, x10, x11, x12, x13])
      ⟨P1, none, none, none, none, none, none, none, none, none, none, none, none, rfl⟩ ?_ ?_⟩
    · rintro i σ H2 hi ⟨P2, x2, x3, x4, x5, x6, x7, x8, x9, x10, x11, x12, x13, rfl⟩
      -- the pair
      refine ⟨_, rfl, p, l, 100 * i, rfl, by omega, P2, fun q0 x y H3 B3 P3 _ hq0 hpx hpy es h6 => ?_⟩
      have two : Two x y := ⟨hpx, hpy, es, h6⟩
      have al := two.al
      have lx := hpx.len
      have ul := two.un
      have few := two.few
      refine ⟨q0, _, rfl, SqL.of hq0, rfl, ?_⟩
      refine ⟨_, _, rfl, ?_⟩
      refine ⟨_, _, rfl, ?_⟩
      refine ⟨rfl, ?_⟩
      -- how many bits
      refine ⟨_, rfl, fun p4 dx4 n4 dd4 ee4 => ⟨p4, dx4, _, rfl, hpx, upd_same, fun tt4 H4 kk4 ii4 uu4 => ⟨rfl, ?_⟩⟩⟩
      obtain ⟨s4, h4⟩ := pat_new hpx n4 dd4 kk4 ii4 uu4
      refine ⟨p4, x, rfl, h4, ?_⟩
      have P4 := P3.same s4
      -- the box
      refine ⟨_, rfl, _, rfl, x, y, rfl, hpx, hpy, es, by omega, fun bx H5 s5 nb hb5 => ?_⟩
      have P5 := P4.same s5
      -- read torn
      generalize eF : bxs [[]] x y = Wb at few hb5
      have sgF : ∀ z ∈ Wb, Sg z := fun z hz => (two.mem (eF.symm ▸ hz)).2.2.1.sg
      have shF := shaped_lst (lay_strs Wb sgF)
      refine ⟨_, rfl, _, rfl, _, rfl, x, y, rfl, hpx, hpy, es, h6, fun pr H6 s6 npr hpr => ?_⟩
      rw [eF] at hpr
      have hb6 := s6 _ _ hb5
      refine ⟨_, rfl, .list (strD Wb), .list (strD Wb), .lst (SqL.of hpr) (dp_strs _), .lst (SqL.of hb6) (dp_strs _), shF, shF, _, rfl, ?_⟩
      rw [eqv_strL, decide_eq_true rfl]
      refine iteF ?_
      refine ⟨_, rfl, _, rfl, x, y, rfl, hpx, hpy, es, fun H7 s7 => ?_⟩
      have hb7 := s7 _ _ hb6
      refine ⟨_, rfl, bx, _, rfl, .inl (SqL.of hb7), rfl, _, rfl, ?_⟩
      have ln : (2 ^ unl x y : Nat) = (txV Wb).length := by rw [txV_len, ← eF, two.many]
      rw [ln]
      refine iteNS rfl ?_
      have P7 := (P5.same s6).same s7
      -- two of the box
      refine ⟨_, rfl, _, rfl, _, rfl, bx, _, rfl, .inl (SqL.of hb7), ?_⟩
      refine ⟨p, l, ((txV Wb).length : Nat), 100 * i + 20, rfl, by rw [txV_len]; omega, by rw [txV_len]; omega, by omega, P7, fun d8 H8 hd80 hd81 P8 k8 => ?_⟩
      have hb8 : H8 bx = some (.lst (txV Wb)) := by rw [k8 bx (PenL.nd P7 hb7)]; exact hb7
      obtain ⟨u, e8, mu⟩ := pick_txt (F := Wb) hd80 hd81
      refine ⟨bx, _, d8, _, rfl, rfl, SqL.of hb8, e8, ?_⟩
      refine ⟨_, rfl, _, rfl, _, rfl, bx, _, rfl, .inl (SqL.of hb8), ?_⟩
      refine ⟨p, l, ((txV Wb).length : Nat), 100 * i + 21, rfl, by rw [txV_len]; omega, by rw [txV_len]; omega, by omega, P8, fun d9 H9 hd90 hd91 P9 k9 => ?_⟩
      have hb9 : H9 bx = some (.lst (txV Wb)) := by rw [k9 bx (PenL.nd P8 hb8)]; exact hb8
      obtain ⟨v, e9, mv⟩ := pick_txt (F := Wb) hd90 hd91
      refine ⟨bx, _, d9, _, rfl, rfl, SqL.of hb9, e9, ?_⟩
      refine ⟨_, _, rfl, ?_⟩
      have tuv : Two u v := two.sub (eF.symm ▸ mu) (eF.symm ▸ mv)
      have iu := (two.mem (eF.symm ▸ mu)).1
      have iv := (two.mem (eF.symm ▸ mv)).1
      have szu := (two.mem (eF.symm ▸ mu)).2.2.2.1
      have luv := tuv.low
      have fuv := tuv.few
      -- inner
      refine ⟨_, rfl, _, rfl, u, v, rfl, tuv.px, tuv.py, tuv.es, by have := tuv.un; omega, fun b10 H10 s10 nb10 hb10 => ?_⟩
      refine ⟨_, rfl, fun p11 dx11 n11 dd11 ee11 => ⟨p11, dx11, _, rfl, tuv.px, upd_same, fun tt11 H11 kk11 ii11 uu11 => ⟨rfl, ?_⟩⟩⟩
      obtain ⟨s11, h11⟩ := pat_new tuv.px n11 dd11 kk11 ii11 uu11
      refine ⟨_, rfl, fun p12 dx12 n12 dd12 ee12 => ⟨p12, dx12, _, rfl, tuv.py, upd_same, fun tt12 H12 kk12 ii12 uu12 => ⟨rfl, ?_⟩⟩⟩
      obtain ⟨s12, h12⟩ := pat_new tuv.py n12 dd12 kk12 ii12 uu12
      refine ⟨p11, p12, u, v, rfl, rfl, h11.same s12, h12, ?_⟩
      rw [if_pos tuv.es]
      refine fun p13 H13 s13 n13 h13 => ⟨p13, _, rfl, h13, ?_⟩
      refine ⟨_, rfl, fun p14 dx14 n14 dd14 ee14 => ⟨p14, dx14, _, rfl, tuv.px, upd_same, fun tt14 H14 kk14 ii14 uu14 => ⟨rfl, ?_⟩⟩⟩
      obtain ⟨s14, h14⟩ := pat_new tuv.px n14 dd14 kk14 ii14 uu14
      refine ⟨_, rfl, fun p15 dx15 n15 dd15 ee15 => ⟨p15, dx15, _, rfl, tuv.py, upd_same, fun tt15 H15 kk15 ii15 uu15 => ⟨rfl, ?_⟩⟩⟩
      obtain ⟨s15, h15⟩ := pat_new tuv.py n15 dd15 kk15 ii15 uu15
      refine ⟨p14, p15, u, v, rfl, rfl, h14.same s15, h15, ?_⟩
      rw [if_pos tuv.es]
      refine fun p16 H16 s16 n16 h16 => ⟨p16, _, rfl, h16, ?_⟩
      have t16 : Same H10 H16 := ((((s11.trans s12).trans s13).trans s14).trans s15).trans s16
      refine ⟨by show 2 ≤ sizeLine; decide, fun c17 hc17 => ?_⟩
      have s17 := smN (o := .lst (txV [zw fAnd u v, zw fOr u v])) t16 hc17
      have hb17 := s17 _ _ hb10
      refine ⟨b10, c17, txV (bxs [[]] u v), txV [zw fAnd u v, zw fOr u v], rfl, rfl, hb17, upd_same, ?_, fun c18 hc18 => ?_⟩
      · rw [txV_len]
        exact Nat.le_trans (show (bxs [[]] u v).length + 2 ≤ 66 by omega) (by decide)
      have s18 := smN (o := .lst (txV (bxs [[]] u v) ++ txV [zw fAnd u v, zw fOr u v])) (s10.trans s17) hc18
      have hi18 : (upd (upd H16 c17 (.lst (txV [zw fAnd u v, zw fOr u v]))) c18 (.lst (txV (bxs [[]] u v) ++ txV [zw fAnd u v, zw fOr u v]))) c18 = some (.lst (txV (bxs [[]] u v ++ [zw fAnd u v, zw fOr u v]))) := by
        rw [upd_same]
        simp [txV]
      have inn : ∀ t ∈ bxs [[]] u v ++ [zw fAnd u v, zw fOr u v], t ∈ Wb := fun t ht => by
        rw [← eF]
        refine (mem_box al.len).mpr (inB_within iu iv ?_)
        rcases List.mem_append.mp ht with q | q
        · exact (mem_box tuv.al.len).mp q
        · rcases List.mem_cons.mp q with q | q
          · rw [q]; exact zw_in fAnd_in tuv.al.len
          · rw [List.mem_singleton.mp q]; exact zw_in fOr_in tuv.al.len
      generalize eI : (bxs [[]] u v ++ [zw fAnd u v, zw fOr u v]) = In at hi18 inn
      have hb18 := s18 _ _ hb9
      have P18 := P9.same s18
      -- all of inner in the box
      refine ⟨_, rfl, c18, rfl, ⟨_, SqL.of hi18⟩, fun D hD => ?_⟩
      refine lc_outL (fun _ => []) hD (SqL.of hi18) rfl (fun _ _ => by decide) (fun k t H19 Kc K0 e s19 kc k0 => ?_) (fun H19 s19 e19 => ?_)
      · obtain ⟨t, et, rfl⟩ := txV_get e
        have mt := inn t (List.mem_of_getElem? et)
        have kt := two.mem (eF.symm ▸ mt)
        refine ⟨rfl, ?_⟩
        refine ⟨_, rfl, _, rfl, bx, _, rfl, .inl (SqL.of (s19 _ _ hb18)), rfl, flat_txV Wb, _, rfl, ?_⟩
        rw [inV_txV, decide_eq_true mt]
        refine iteB0 rfl ?_
        refine ⟨_, rfl, _, rfl, _, rfl, t, x, y, rfl, kt.2.2.1, hpx, hpy, kt.2.2.2.1.symm, by rw [es, kt.2.2.2.1], fun H20 s20 => ⟨_, rfl, ?_⟩⟩
        rw [(inbx_iff al kt.2.1).mpr kt.1]
        exact iteB0 rfl (k0 _ s20 rfl)
      refine ⟨by show 0 ≤ sizeLine; decide, fun q5 h5 => ?_⟩
      have s20 := smN (o := .lst []) s19 h5
      refine ⟨.list [], .list [], .lst (SqL.of (smN (o := .lst []) (Same.refl _) h5 _ _ e19)) .nil, .lst (SqL.of upd_same) .nil, by decide +kernel, by decide +kernel, _, rfl, ?_⟩
      refine iteF ?_
      have hb20 := s20 _ _ hb18
      have P20 := P18.same s20
      generalize upd H19 q5 (.lst []) = H20 at s20 hb20 P20 ⊢
      -- torn of the two in the box
      have npos := nb_pos hpx
      have ebt : (bt u).length = (bt x).length := by
        have := (two.mem (eF.symm ▸ mu)).2.1.nb
        exact this.symm
      refine ⟨_, rfl, _, rfl, _, rfl, _, rfl, p, l, ((bt x).length : Nat), 100 * i + 22, rfl, by show (0 : Int) < ((bt x).length : Nat); unfold Fb.nb at npos; exact Int.ofNat_lt.mpr npos, by omega, by omega, P20.mono (by omega), fun d21 H21 hd210 hd211 P21 k21 => ?_⟩
      have hb21 : H21 bx = some (.lst (txV Wb)) := by rw [k21 bx (PenL.nd P20 hb20)]; exact hb20
      obtain ⟨d, rfl⟩ : ∃ e : Nat, d21 = (e : Int) := ⟨d21.toNat, by omega⟩
      refine ⟨by show 1 ≤ sizeLine; decide, fun c22 hc22 => ?_⟩
      have s22 := smN (o := .lst (nums [d])) (Same.refl H21) hc22
      refine ⟨u, v, c22, [d], rfl, tuv.px, tuv.py, tuv.es, upd_same, by show 1 ≤ 1000; decide, fun b hb => by rw [List.mem_singleton.mp hb, ebt]; omega, fun H23 s23 => ?_⟩
      have s23' := s22.trans s23
      have it := trn_in tuv.al [d]
      have kt : InB (trn u v [d]) x y := inB_within iu iv it
      have at_ := inB_al al kt
      refine ⟨_, rfl, _, rfl, trn u v [d], x, y, rfl, at_.isP hpx, hpx, hpy, at_.szs, by rw [es]; exact at_.szs, fun H24 s24 => ⟨_, rfl, ?_⟩⟩
      rw [(inbx_iff al at_).mpr kt]
      refine iteB0 rfl ?_
      have s24' := s23'.trans s24
      have hb24 := s24' _ _ hb21
      have P24 := P21.same s24'
      -- low and high
      have lw := two.low
      refine ⟨_, rfl, fun p25 dx25 n25 dd25 ee25 => ⟨p25, dx25, _, rfl, hpx, upd_same, fun tt25 H25 kk25 ii25 uu25 => ⟨rfl, ?_⟩⟩⟩
      obtain ⟨s25, h25⟩ := pat_new hpx n25 dd25 kk25 ii25 uu25
      refine ⟨_, rfl, fun p26 dx26 n26 dd26 ee26 => ⟨p26, dx26, _, rfl, hpy, upd_same, fun tt26 H26 kk26 ii26 uu26 => ⟨rfl, ?_⟩⟩⟩
      obtain ⟨s26, h26⟩ := pat_new hpy n26 dd26 kk26 ii26 uu26
      refine ⟨p25, p26, x, y, rfl, rfl, h25.same s26, h26, ?_⟩
      rw [if_pos es]
      refine fun p27 H27 s27 n27 h27 => ?_
      refine ⟨_, rfl, fun p28 dx28 n28 dd28 ee28 => ⟨p28, dx28, _, rfl, hpx, upd_same, fun tt28 H28 kk28 ii28 uu28 => ⟨rfl, ?_⟩⟩⟩
      obtain ⟨s28, h28⟩ := pat_new hpx n28 dd28 kk28 ii28 uu28
      refine ⟨_, rfl, fun p29 dx29 n29 dd29 ee29 => ⟨p29, dx29, _, rfl, hpy, upd_same, fun tt29 H29 kk29 ii29 uu29 => ⟨rfl, ?_⟩⟩⟩
      obtain ⟨s29, h29⟩ := pat_new hpy n29 dd29 kk29 ii29 uu29
      refine ⟨p28, p29, x, y, rfl, rfl, h28.same s29, h29, ?_⟩
      rw [if_pos es]
      refine fun p30 H30 s30 n30 h30 => ?_
      refine ⟨by show 2 ≤ sizeLine; decide, fun c31 hc31 => ?_⟩
      have s31 := smN (o := .tup [.ref p27, .ref p30]) (Same.refl H30) hc31
      refine ⟨c31, _, rfl, SqT.of upd_same, rfl, ?_⟩
      refine ⟨_, _, rfl, ?_⟩
      refine ⟨_, _, rfl, ?_⟩
      refine ⟨rfl, ?_⟩
      have s31' := ((((((s25.trans s26).trans s27).trans s28).trans s29).trans s30).trans s31)
      have hL := ((h27.same (s28.trans (s29.trans s30))).same s31)
      have hH := h30.same s31
      have hb31 := s31' _ _ hb24
      have P31 := P24.same s31'
      generalize upd H30 c31 (.tup [.ref p27, .ref p30]) = H31 at s31' hL hH hb31 P31 ⊢
      -- the box of low and high
      refine ⟨_, rfl, p27, _, rfl, hL, ?_⟩
      refine ⟨_, rfl, p30, _, rfl, hH, ?_⟩
      have unlh : unl (zw fAnd x y) (zw fOr x y) ≤ 10 := by
        have e := bxs_len (l := zw fAnd x y) (m := zw fOr x y) (f := [[]])
        rw [bxs_low_high, two.many] at e
        simp only [List.length_cons, List.length_nil, Nat.zero_add, Nat.one_mul] at e
        have := (Nat.pow_right_inj (by decide : 1 < 2)).mp e
        omega
      refine ⟨_, _, rfl, lw.1, lw.2.1, by rw [lw.2.2.1, lw.2.2.2], unlh, fun b32 H32 s32 nb32 hb32 => ?_⟩
      rw [bxs_low_high, eF] at hb32
      have hb32' := s32 _ _ hb31
      refine ⟨_, rfl, .list (strD Wb), .list (strD Wb), .lst (SqL.of hb32) (dp_strs _), .lst (SqL.of hb32') (dp_strs _), shF, shF, _, rfl, ?_⟩
      rw [eqv_strL, decide_eq_true rfl]
      refine iteF ?_
      have hL32 := hL.same s32
      have hH32 := hH.same s32
      refine ⟨_, rfl, _, rfl, p27, p30, _, _, rfl, rfl, hL32, hH32, ?_⟩
      rw [if_pos (show szs (zw fOr x y) = szs (zw fAnd x y) by rw [lw.2.2.1, lw.2.2.2])]
      refine fun H33 s33 => ⟨_, rfl, ?_⟩
      rw [low_below_high]
      refine iteB0 rfl ?_
      have hL33 := hL32.same s33
      have hH33 := hH32.same s33
      have hb33 := s33 _ _ hb32'
      have P33 := P31.same (s32.trans s33)
      -- all of the box between
      refine ⟨_, rfl, bx, rfl, ⟨_, SqL.of hb33⟩, fun D hD => ?_⟩
      refine lc_outL (fun _ => []) hD (SqL.of hb33) rfl (fun _ _ => by decide) (fun k t H34 Kc K0 e s34 kc k0 => ?_) (fun H34 s34 e34 => ?_)
      · obtain ⟨t, et, rfl⟩ := txV_get e
        have mt := List.mem_of_getElem? et
        have kt := two.mem (eF.symm ▸ mt)
        have bb := (between_box al kt.2.1).mpr kt.1
        rw [Bool.and_eq_true] at bb
        refine ⟨rfl, ?_⟩
        refine ⟨_, rfl, _, rfl, fun p35 dx35 n35 dd35 ee35 => ⟨p35, dx35, _, rfl, kt.2.2.1, upd_same, fun tt35 H35 kk35 ii35 uu35 => ⟨rfl, ?_⟩⟩⟩
        obtain ⟨s35, h35⟩ := pat_new kt.2.2.1 n35 dd35 kk35 ii35 uu35
        refine ⟨p27, p35, _, _, rfl, rfl, (hL33.same s34).same s35, h35, ?_⟩
        rw [if_pos (show szs t = szs (zw fAnd x y) by rw [lw.2.2.1, kt.2.2.2.1])]
        refine fun H36 s36 => ⟨_, rfl, ?_⟩
        rw [bb.1]
        refine iteB1 rfl ?_
        refine ⟨_, rfl, fun p37 dx37 n37 dd37 ee37 => ⟨p37, dx37, _, rfl, kt.2.2.1, upd_same, fun tt37 H37 kk37 ii37 uu37 => ⟨rfl, ?_⟩⟩⟩
        obtain ⟨s37, h37⟩ := pat_new kt.2.2.1 n37 dd37 kk37 ii37 uu37
        have s37' := (s35.trans s36).trans s37
        refine ⟨_, rfl, p37, p30, _, _, rfl, rfl, h37, (hH33.same s34).same s37', ?_⟩
        rw [if_pos (show szs (zw fOr x y) = szs t by rw [lw.2.2.2, kt.2.2.2.1])]
        refine fun H38 s38 => ⟨_, rfl, ?_⟩
        rw [bb.2]
        exact iteB0 rfl (k0 _ (s37'.trans s38) rfl)
      refine ⟨by show 0 ≤ sizeLine; decide, fun q6 h6' => ?_⟩
      have s40 := smN (o := .lst []) s34 h6'
      refine ⟨.list [], .list [], .lst (SqL.of (smN (o := .lst []) (Same.refl _) h6' _ _ e34)) .nil, .lst (SqL.of upd_same) .nil, by decide +kernel, by decide +kernel, _, rfl, ?_⟩
      refine iteF ?_
      have hb40 := s40 _ _ hb33
      have hL40 := hL33.same s40
      have hH40 := hH33.same s40
      have P40 := P33.same s40
      generalize upd H34 q6 (.lst []) = H40 at s40 hb40 hL40 hH40 P40 ⊢
      -- all patterns of the sizes
      obtain ⟨alo, ahi⟩ := al_lo hpx.sg
      have lohi := alo.symm.trans ahi
      have unf : unl (x.map lo1) (x.map hi1) ≤ 6 := by
        have e1 := unl_bt lohi
        have e2 : (bt x).length = (bt (x.map lo1)).length := alo.nb
        omega
      refine ⟨_, rfl, S x, rfl, by rw [S_ln]; show x.length + (x.length + 1) * 1 ≤ 16777216; omega, _, rfl, S x, rfl, by rw [S_ln]; show x.length + (x.length + 1) * 1 ≤ 16777216; omega, ?_⟩
      refine ⟨x.map lo1, x.map hi1, by rw [replace_lo, replace_hi] <;> rfl, alo.isP hpx, ahi.isP hpx, by rw [← alo.szs, ← ahi.szs], by omega, fun bf H41 s41 nb41 hf => ?_⟩
      have fb := free_box al hpx.sg
      have lnG : (bxs [[]] (x.map lo1) (x.map hi1)).length ≤ 64 := by
        rw [bxs_len]
        simp only [List.length_cons, List.length_nil, Nat.zero_add, Nat.one_mul]
        exact Nat.pow_le_pow_right (n := 2) (by decide) unf
      have memG : ∀ t ∈ bxs [[]] (x.map lo1) (x.map hi1), Al x t := fun t ht => (free_all hpx.sg).mp ((mem_box lohi.len).mp ht)
      generalize bxs [[]] (x.map lo1) (x.map hi1) = G at hf fb lnG memG
      have hb41 := s41 _ _ hb40
      have hL41 := hL40.same s41
      have hH41 := hH40.same s41
      have P41 := P40.same s41
      refine ⟨_, rfl, bf, rfl, ⟨_, SqL.of hf⟩, fun D2 hD2 => ?_⟩
      refine lc_outL (fun k => txV ((G.take k).filter fun z => below (zw fAnd x y) z && below z (zw fOr x y))) hD2 (SqL.of hf) rfl (fun k hk => ?_) (fun k t H42 Kc K0 e s42 kc k0 => ?_) (fun H42 s42 e42 => ?_)
      · rw [txV_len]
        rw [txV_len] at hk
        have := List.length_filter_le (fun z => below (zw fAnd x y) z && below z (zw fOr x y)) (G.take k)
        rw [List.length_take] at this
        exact Nat.lt_of_le_of_lt (show _ ≤ 64 by omega) (by decide)
      · obtain ⟨t, et, rfl⟩ := txV_get e
        have at_ := memG t (List.mem_of_getElem? et)
        have pt := at_.isP hpx
        have st := at_.szs
        have out : ∀ b, (below (zw fAnd x y) t && below t (zw fOr x y)) = b → (G.take (k + 1)).filter (fun z => below (zw fAnd x y) z && below z (zw fOr x y)) = (G.take k).filter (fun z => below (zw fAnd x y) z && below z (zw fOr x y)) ++ (if b = true then [t] else []) := fun b eb => by
          rw [List.take_add_one, et, List.filter_append]
          congr 1
          show List.filter (fun z => below (zw fAnd x y) z && below z (zw fOr x y)) [t] = _
          cases b <;> simp [List.filter, eb]
        refine ⟨rfl, ?_⟩
        refine ⟨_, rfl, _, rfl, fun p43 dx43 n43 dd43 ee43 => ⟨p43, dx43, _, rfl, pt, upd_same, fun tt43 H43 kk43 ii43 uu43 => ⟨rfl, ?_⟩⟩⟩
        obtain ⟨s43, h43⟩ := pat_new pt n43 dd43 kk43 ii43 uu43
        refine ⟨p27, p43, _, _, rfl, rfl, (hL41.same s42).same s43, h43, ?_⟩
        rw [if_pos (show szs t = szs (zw fAnd x y) by rw [lw.2.2.1, st])]
        refine fun H44 s44 => ⟨_, rfl, ?_⟩
        generalize below (zw fAnd x y) t = b1 at out ⊢
        cases b1 with
        | false =>
          refine iteF (iteF (k0 _ (s43.trans s44) ?_))
          show txV _ = txV _
          rw [out false rfl]
          simp
        | true =>
          refine iteT ?_
          refine ⟨_, rfl, fun p45 dx45 n45 dd45 ee45 => ⟨p45, dx45, _, rfl, pt, upd_same, fun tt45 H45 kk45 ii45 uu45 => ⟨rfl, ?_⟩⟩⟩
          obtain ⟨s45, h45⟩ := pat_new pt n45 dd45 kk45 ii45 uu45
          have s45' := (s43.trans s44).trans s45
          refine ⟨_, rfl, p45, p30, _, _, rfl, rfl, h45, (hH41.same s42).same s45', ?_⟩
          rw [if_pos (show szs (zw fOr x y) = szs t by rw [lw.2.2.2, st])]
          refine fun H46 s46 => ⟨_, rfl, ?_⟩
          generalize below t (zw fOr x y) = b2 at out ⊢
          cases b2 with
          | false =>
            refine iteF (k0 _ (s45'.trans s46) ?_)
            show txV _ = txV _
            rw [out false rfl]
            simp
          | true =>
            refine iteT ⟨_, rfl, kc _ _ (s45'.trans s46) ?_⟩
            show txV _ = txV _ ++ _
            rw [out true rfl]
            simp [txV]
      have hb42 := s42 _ _ hb41
      rw [txV_len, List.take_length, fb, eF] at e42
      refine ⟨D2, _, rfl, .inl (SqL.of e42), _, rfl, bx, _, rfl, .inl (SqL.of hb42), rfl, _, rfl, ?_⟩
      refine iteNS rfl ?_
      exact ⟨(P41.same s42).mono (by omega), _, _, _, _, _, _, _, _, _, _, _, _, rfl⟩
    · rintro σ H2 ⟨P2, x2, x3, x4, x5, x6, x7, x8, x9, x10, x11, x12, x13, rfl⟩
      exact kk _
end
end Fb
set_option maxRecDepth 100000
set_option maxHeartbeats 4000000
namespace Fb
open PySem PySem.Spec PyProof.Rows L2
theorem all_mk {l : PySem.W.OpenLaw} {w : World} {K : PySem.W.Frag} {h : Heap} {mg : Str → Option Value} {fa : Addr} (X : K.In h) (G : h.Ns mainGlobals mg) (hfa : mg "law" = some (.ref fa))
    {C fe cUnlike cNoPattern cNoBit : Addr} {ocC : Value} {odC : Option Addr} {cdC : PySem.ClassData} {slC : Array (Option Value)} {tB tK tM : Tok}
    {a_is_whole : Addr} {od_is_whole an_is_whole : Option Addr} {sl_is_whole : Array (Option Value)} {oc_is_whole kV_is_whole dc_is_whole pm_is_whole cd_is_whole ct_is_whole : Value}
    {a_is_number : Addr} {od_is_number an_is_number : Option Addr} {sl_is_number : Array (Option Value)} {oc_is_number kV_is_number dc_is_number pm_is_number cd_is_number ct_is_number : Value}
    {a_has_pattern_form : Addr} {od_has_pattern_form an_has_pattern_form : Option Addr} {sl_has_pattern_form : Array (Option Value)} {oc_has_pattern_form kV_has_pattern_form dc_has_pattern_form pm_has_pattern_form cd_has_pattern_form ct_has_pattern_form : Value}
    {a_first_wrong_sign : Addr} {od_first_wrong_sign an_first_wrong_sign : Option Addr} {sl_first_wrong_sign : Array (Option Value)} {oc_first_wrong_sign kV_first_wrong_sign dc_first_wrong_sign pm_first_wrong_sign cd_first_wrong_sign ct_first_wrong_sign : Value}
    {a_pattern_fault : Addr} {od_pattern_fault an_pattern_fault : Option Addr} {sl_pattern_fault : Array (Option Value)} {oc_pattern_fault kV_pattern_fault dc_pattern_fault pm_pattern_fault cd_pattern_fault ct_pattern_fault : Value}
    {a_need_pattern : Addr} {od_need_pattern an_need_pattern : Option Addr} {sl_need_pattern : Array (Option Value)} {oc_need_pattern kV_need_pattern dc_need_pattern pm_need_pattern cd_need_pattern ct_need_pattern : Value}
    {a_sizes_of : Addr} {od_sizes_of an_sizes_of : Option Addr} {sl_sizes_of : Array (Option Value)} {oc_sizes_of kV_sizes_of dc_sizes_of pm_sizes_of cd_sizes_of ct_sizes_of : Value}
    {a_need_sizes : Addr} {od_need_sizes an_need_sizes : Option Addr} {sl_need_sizes : Array (Option Value)} {oc_need_sizes kV_need_sizes dc_need_sizes pm_need_sizes cd_need_sizes ct_need_sizes : Value}
    {a_need_bits : Addr} {od_need_bits an_need_bits : Option Addr} {sl_need_bits : Array (Option Value)} {oc_need_bits kV_need_bits dc_need_bits pm_need_bits cd_need_bits ct_need_bits : Value}
    {a_bits_of : Addr} {od_bits_of an_bits_of : Option Addr} {sl_bits_of : Array (Option Value)} {oc_bits_of kV_bits_of dc_bits_of pm_bits_of cd_bits_of ct_bits_of : Value}
    {a_places_of : Addr} {od_places_of an_places_of : Option Addr} {sl_places_of : Array (Option Value)} {oc_places_of kV_places_of dc_places_of pm_places_of cd_places_of ct_places_of : Value}
    {a_lies_below : Addr} {od_lies_below an_lies_below : Option Addr} {sl_lies_below : Array (Option Value)} {oc_lies_below kV_lies_below dc_lies_below pm_lies_below cd_lies_below ct_lies_below : Value}
    {a_unlike_sign : Addr} {od_unlike_sign an_unlike_sign : Option Addr} {sl_unlike_sign : Array (Option Value)} {oc_unlike_sign kV_unlike_sign dc_unlike_sign pm_unlike_sign cd_unlike_sign ct_unlike_sign : Value}
    {a_need_alike : Addr} {od_need_alike an_need_alike : Option Addr} {sl_need_alike : Array (Option Value)} {oc_need_alike kV_need_alike dc_need_alike pm_need_alike cd_need_alike ct_need_alike : Value}
    {a_unlike_bits : Addr} {od_unlike_bits an_unlike_bits : Option Addr} {sl_unlike_bits : Array (Option Value)} {oc_unlike_bits kV_unlike_bits dc_unlike_bits pm_unlike_bits cd_unlike_bits ct_unlike_bits : Value}
    {a_box : Addr} {od_box an_box : Option Addr} {sl_box : Array (Option Value)} {oc_box kV_box dc_box pm_box cd_box ct_box : Value}
    {a_in_box : Addr} {od_in_box an_in_box : Option Addr} {sl_in_box : Array (Option Value)} {oc_in_box kV_in_box dc_in_box pm_in_box cd_in_box ct_in_box : Value}
    {a_box_size : Addr} {od_box_size an_box_size : Option Addr} {sl_box_size : Array (Option Value)} {oc_box_size kV_box_size dc_box_size pm_box_size cd_box_size ct_box_size : Value}
    {a_torn : Addr} {od_torn an_torn : Option Addr} {sl_torn : Array (Option Value)} {oc_torn kV_torn dc_torn pm_torn cd_torn ct_torn : Value}
    {a_init : Addr} {od_init an_init : Option Addr} {sl_init : Array (Option Value)} {oc_init kV_init dc_init pm_init cd_init ct_init : Value}
    {a_str : Addr} {od_str an_str : Option Addr} {sl_str : Array (Option Value)} {oc_str kV_str dc_str pm_str cd_str ct_str : Value}
    {a_len : Addr} {od_len an_len : Option Addr} {sl_len : Array (Option Value)} {oc_len kV_len dc_len pm_len cd_len ct_len : Value}
    {a_le : Addr} {od_le an_le : Option Addr} {sl_le : Array (Option Value)} {oc_le kV_le dc_le pm_le cd_le ct_le : Value}
    {a_and : Addr} {od_and an_and : Option Addr} {sl_and : Array (Option Value)} {oc_and kV_and dc_and pm_and cd_and ct_and : Value}
    {a_or : Addr} {od_or an_or : Option Addr} {sl_or : Array (Option Value)} {oc_or kV_or dc_or pm_or cd_or ct_or : Value}
    {a_Lpen : Addr} {od_Lpen an_Lpen : Option Addr} {sl_Lpen : Array (Option Value)} {oc_Lpen kV_Lpen dc_Lpen pm_Lpen cd_Lpen ct_Lpen : Value}
    {a_Ltake : Addr} {od_Ltake an_Ltake : Option Addr} {sl_Ltake : Array (Option Value)} {oc_Ltake kV_Ltake dc_Ltake pm_Ltake cd_Ltake ct_Ltake : Value}
    {a_Lpair : Addr} {od_Lpair an_Lpair : Option Addr} {sl_Lpair : Array (Option Value)} {oc_Lpair kV_Lpair dc_Lpair pm_Lpair cd_Lpair ct_Lpair : Value}
    {a_Lreads : Addr} {od_Lreads an_Lreads : Option Addr} {sl_Lreads : Array (Option Value)} {oc_Lreads kV_Lreads dc_Lreads pm_Lreads cd_Lreads ct_Lreads : Value}
    {a_law : Addr} {od_law an_law : Option Addr} {sl_law : Array (Option Value)} {oc_law kV_law dc_law pm_law cd_law ct_law : Value}
    {NU : Addr} {nmU qU : Str} {bsU : List Value} {snU : List Str} {subU : List Value} {abU : Bool} {colU : Option Bool} {ddU : Option Addr} {k0U k1U k2U k3U k5U : Option Value}
    {NN : Addr} {nmN qN : Str} {bsN : List Value} {snN : List Str} {subN : List Value} {abN : Bool} {colN : Option Bool} {ddN : Option Addr} {k0N k1N k2N k3N k5N : Option Value}
    {NB : Addr} {nmB qB : Str} {bsB : List Value} {snB : List Str} {subB : List Value} {abB : Bool} {colB : Option Bool} {ddB : Option Addr} {k0B k1B k2B k3B k5B : Option Value}
    (gC : PySem.W.nsIn K mainGlobals "Pattern" = some (some (.ref C)))
    (lC : K.lookup C = some ⟨ocC, odC, .cls cdC, slC⟩)
    (mroC : cdC.mro = [.ref C, .type "object"])
    (pgC : PySem.W.plainGet K C Str.empty = true)
    (hdC : PySem.W.hasDictIn K C = true)
    (poC : PySem.W.plainOver K C = true)
    (saC : PySem.W.findIn K (.ref C) "__setattr__" = some (some (.builtin "object.__setattr__")))
    (mkC : PySem.W.makesIn K C = true)
    (kpC : PySem.W.keepIn K (.ref C) = true)
    (na_text : PySem.W.findIn K (.ref C) "_text" = some none)
    (na_bits : PySem.W.findIn K (.ref C) "_bits" = some none)
    (na_sizes : PySem.W.findIn K (.ref C) "_sizes" = some none)
    (rdC : PySem.W.readsIn K C (.type "type") = true)
    (gaC : PySem.W.specialIn K (.ref C) "__getattribute__" = some (some (.builtin "type.__getattribute__")))
    (vB : PySem.W.findCls K (.ref C) (.type "type") "BITS" = some (.val (.int 120 tB)))
    (vK : PySem.W.findCls K (.ref C) (.type "type") "BLOCKS" = some (.val (.int 3 tK)))
    (caC : PySem.W.findIn K (.ref C) "__class__" = some (some (.builtin "object.__class__")))
    (hn : PySem.W.specialIn K (.builtin "object.__class__") "__get__" = some (some (.builtin "getset_descriptor.__get__")))
    (ht : PySem.W.takesIn K (.builtin "object.__class__") = some true)
    (moC : PySem.W.mroIn K C (.type "object") = some true)
    (sfC : PySem.W.selfFirst K C = true)
    (tyC : PySem.W.typeIn K (.ref C) = some (.type "type"))
    (gM : PySem.W.nsIn K mainGlobals "MOST_UNLIKE_BITS" = some (some (.int 10 tM)))
    (g_is_whole : PySem.W.nsIn K mainGlobals "is_whole" = some (some (.ref a_is_whole)))
    (l_is_whole : K.lookup a_is_whole = some ⟨oc_is_whole, od_is_whole, .func (PySem.W.fnOf "is_whole" "is_whole" (defArgs s_is_whole) (defBody s_is_whole) (defScope s_is_whole) .none kV_is_whole dc_is_whole pm_is_whole an_is_whole cd_is_whole ct_is_whole), sl_is_whole⟩)
    (c_is_whole : PySem.W.codeIn K cd_is_whole "is_whole" = true)
    (k_is_whole : PySem.W.keepIn K (.ref a_is_whole) = true)
    (g_is_number : PySem.W.nsIn K mainGlobals "is_number" = some (some (.ref a_is_number)))
    (l_is_number : K.lookup a_is_number = some ⟨oc_is_number, od_is_number, .func (PySem.W.fnOf "is_number" "is_number" (defArgs s_is_number) (defBody s_is_number) (defScope s_is_number) .none kV_is_number dc_is_number pm_is_number an_is_number cd_is_number ct_is_number), sl_is_number⟩)
    (c_is_number : PySem.W.codeIn K cd_is_number "is_number" = true)
    (k_is_number : PySem.W.keepIn K (.ref a_is_number) = true)
    (g_has_pattern_form : PySem.W.nsIn K mainGlobals "has_pattern_form" = some (some (.ref a_has_pattern_form)))
    (l_has_pattern_form : K.lookup a_has_pattern_form = some ⟨oc_has_pattern_form, od_has_pattern_form, .func (PySem.W.fnOf "has_pattern_form" "has_pattern_form" (defArgs s_has_pattern_form) (defBody s_has_pattern_form) (defScope s_has_pattern_form) .none kV_has_pattern_form dc_has_pattern_form pm_has_pattern_form an_has_pattern_form cd_has_pattern_form ct_has_pattern_form), sl_has_pattern_form⟩)
    (c_has_pattern_form : PySem.W.codeIn K cd_has_pattern_form "has_pattern_form" = true)
    (k_has_pattern_form : PySem.W.keepIn K (.ref a_has_pattern_form) = true)
    (g_first_wrong_sign : PySem.W.nsIn K mainGlobals "first_wrong_sign" = some (some (.ref a_first_wrong_sign)))
    (l_first_wrong_sign : K.lookup a_first_wrong_sign = some ⟨oc_first_wrong_sign, od_first_wrong_sign, .func (PySem.W.fnOf "first_wrong_sign" "first_wrong_sign" (defArgs s_first_wrong_sign) (defBody s_first_wrong_sign) (defScope s_first_wrong_sign) .none kV_first_wrong_sign dc_first_wrong_sign pm_first_wrong_sign an_first_wrong_sign cd_first_wrong_sign ct_first_wrong_sign), sl_first_wrong_sign⟩)
    (c_first_wrong_sign : PySem.W.codeIn K cd_first_wrong_sign "first_wrong_sign" = true)
    (k_first_wrong_sign : PySem.W.keepIn K (.ref a_first_wrong_sign) = true)
    (g_pattern_fault : PySem.W.nsIn K mainGlobals "pattern_fault" = some (some (.ref a_pattern_fault)))
    (l_pattern_fault : K.lookup a_pattern_fault = some ⟨oc_pattern_fault, od_pattern_fault, .func (PySem.W.fnOf "pattern_fault" "pattern_fault" (defArgs s_pattern_fault) (defBody s_pattern_fault) (defScope s_pattern_fault) .none kV_pattern_fault dc_pattern_fault pm_pattern_fault an_pattern_fault cd_pattern_fault ct_pattern_fault), sl_pattern_fault⟩)
    (c_pattern_fault : PySem.W.codeIn K cd_pattern_fault "pattern_fault" = true)
    (k_pattern_fault : PySem.W.keepIn K (.ref a_pattern_fault) = true)
    (g_need_pattern : PySem.W.nsIn K mainGlobals "need_pattern" = some (some (.ref a_need_pattern)))
    (l_need_pattern : K.lookup a_need_pattern = some ⟨oc_need_pattern, od_need_pattern, .func (PySem.W.fnOf "need_pattern" "need_pattern" (defArgs s_need_pattern) (defBody s_need_pattern) (defScope s_need_pattern) .none kV_need_pattern dc_need_pattern pm_need_pattern an_need_pattern cd_need_pattern ct_need_pattern), sl_need_pattern⟩)
    (c_need_pattern : PySem.W.codeIn K cd_need_pattern "need_pattern" = true)
    (k_need_pattern : PySem.W.keepIn K (.ref a_need_pattern) = true)
    (g_sizes_of : PySem.W.nsIn K mainGlobals "sizes_of" = some (some (.ref a_sizes_of)))
    (l_sizes_of : K.lookup a_sizes_of = some ⟨oc_sizes_of, od_sizes_of, .func (PySem.W.fnOf "sizes_of" "sizes_of" (defArgs s_sizes_of) (defBody s_sizes_of) (defScope s_sizes_of) .none kV_sizes_of dc_sizes_of pm_sizes_of an_sizes_of cd_sizes_of ct_sizes_of), sl_sizes_of⟩)
    (c_sizes_of : PySem.W.codeIn K cd_sizes_of "sizes_of" = true)
    (k_sizes_of : PySem.W.keepIn K (.ref a_sizes_of) = true)
    (g_need_sizes : PySem.W.nsIn K mainGlobals "need_sizes" = some (some (.ref a_need_sizes)))
    (l_need_sizes : K.lookup a_need_sizes = some ⟨oc_need_sizes, od_need_sizes, .func (PySem.W.fnOf "need_sizes" "need_sizes" (defArgs s_need_sizes) (defBody s_need_sizes) (defScope s_need_sizes) .none kV_need_sizes dc_need_sizes pm_need_sizes an_need_sizes cd_need_sizes ct_need_sizes), sl_need_sizes⟩)
    (c_need_sizes : PySem.W.codeIn K cd_need_sizes "need_sizes" = true)
    (k_need_sizes : PySem.W.keepIn K (.ref a_need_sizes) = true)
    (g_need_bits : PySem.W.nsIn K mainGlobals "need_bits" = some (some (.ref a_need_bits)))
    (l_need_bits : K.lookup a_need_bits = some ⟨oc_need_bits, od_need_bits, .func (PySem.W.fnOf "need_bits" "need_bits" (defArgs s_need_bits) (defBody s_need_bits) (defScope s_need_bits) .none kV_need_bits dc_need_bits pm_need_bits an_need_bits cd_need_bits ct_need_bits), sl_need_bits⟩)
    (c_need_bits : PySem.W.codeIn K cd_need_bits "need_bits" = true)
    (k_need_bits : PySem.W.keepIn K (.ref a_need_bits) = true)
    (g_bits_of : PySem.W.nsIn K mainGlobals "bits_of" = some (some (.ref a_bits_of)))
    (l_bits_of : K.lookup a_bits_of = some ⟨oc_bits_of, od_bits_of, .func (PySem.W.fnOf "bits_of" "bits_of" (defArgs s_bits_of) (defBody s_bits_of) (defScope s_bits_of) .none kV_bits_of dc_bits_of pm_bits_of an_bits_of cd_bits_of ct_bits_of), sl_bits_of⟩)
    (c_bits_of : PySem.W.codeIn K cd_bits_of "bits_of" = true)
    (k_bits_of : PySem.W.keepIn K (.ref a_bits_of) = true)
    (g_places_of : PySem.W.nsIn K mainGlobals "places_of" = some (some (.ref a_places_of)))
    (l_places_of : K.lookup a_places_of = some ⟨oc_places_of, od_places_of, .func (PySem.W.fnOf "places_of" "places_of" (defArgs s_places_of) (defBody s_places_of) (defScope s_places_of) .none kV_places_of dc_places_of pm_places_of an_places_of cd_places_of ct_places_of), sl_places_of⟩)
    (c_places_of : PySem.W.codeIn K cd_places_of "places_of" = true)
    (k_places_of : PySem.W.keepIn K (.ref a_places_of) = true)
    (g_lies_below : PySem.W.nsIn K mainGlobals "lies_below" = some (some (.ref a_lies_below)))
    (l_lies_below : K.lookup a_lies_below = some ⟨oc_lies_below, od_lies_below, .func (PySem.W.fnOf "lies_below" "lies_below" (defArgs s_lies_below) (defBody s_lies_below) (defScope s_lies_below) .none kV_lies_below dc_lies_below pm_lies_below an_lies_below cd_lies_below ct_lies_below), sl_lies_below⟩)
    (c_lies_below : PySem.W.codeIn K cd_lies_below "lies_below" = true)
    (k_lies_below : PySem.W.keepIn K (.ref a_lies_below) = true)
    (g_unlike_sign : PySem.W.nsIn K mainGlobals "unlike_sign" = some (some (.ref a_unlike_sign)))
    (l_unlike_sign : K.lookup a_unlike_sign = some ⟨oc_unlike_sign, od_unlike_sign, .func (PySem.W.fnOf "unlike_sign" "unlike_sign" (defArgs s_unlike_sign) (defBody s_unlike_sign) (defScope s_unlike_sign) .none kV_unlike_sign dc_unlike_sign pm_unlike_sign an_unlike_sign cd_unlike_sign ct_unlike_sign), sl_unlike_sign⟩)
    (c_unlike_sign : PySem.W.codeIn K cd_unlike_sign "unlike_sign" = true)
    (k_unlike_sign : PySem.W.keepIn K (.ref a_unlike_sign) = true)
    (g_need_alike : PySem.W.nsIn K mainGlobals "need_alike" = some (some (.ref a_need_alike)))
    (l_need_alike : K.lookup a_need_alike = some ⟨oc_need_alike, od_need_alike, .func (PySem.W.fnOf "need_alike" "need_alike" (defArgs s_need_alike) (defBody s_need_alike) (defScope s_need_alike) .none kV_need_alike dc_need_alike pm_need_alike an_need_alike cd_need_alike ct_need_alike), sl_need_alike⟩)
    (c_need_alike : PySem.W.codeIn K cd_need_alike "need_alike" = true)
    (k_need_alike : PySem.W.keepIn K (.ref a_need_alike) = true)
    (g_unlike_bits : PySem.W.nsIn K mainGlobals "unlike_bits" = some (some (.ref a_unlike_bits)))
    (l_unlike_bits : K.lookup a_unlike_bits = some ⟨oc_unlike_bits, od_unlike_bits, .func (PySem.W.fnOf "unlike_bits" "unlike_bits" (defArgs s_unlike_bits) (defBody s_unlike_bits) (defScope s_unlike_bits) .none kV_unlike_bits dc_unlike_bits pm_unlike_bits an_unlike_bits cd_unlike_bits ct_unlike_bits), sl_unlike_bits⟩)
    (c_unlike_bits : PySem.W.codeIn K cd_unlike_bits "unlike_bits" = true)
    (k_unlike_bits : PySem.W.keepIn K (.ref a_unlike_bits) = true)
    (g_box : PySem.W.nsIn K mainGlobals "box" = some (some (.ref a_box)))
    (l_box : K.lookup a_box = some ⟨oc_box, od_box, .func (PySem.W.fnOf "box" "box" (defArgs s_box) (defBody s_box) (defScope s_box) .none kV_box dc_box pm_box an_box cd_box ct_box), sl_box⟩)
    (c_box : PySem.W.codeIn K cd_box "box" = true)
    (k_box : PySem.W.keepIn K (.ref a_box) = true)
    (g_in_box : PySem.W.nsIn K mainGlobals "in_box" = some (some (.ref a_in_box)))
    (l_in_box : K.lookup a_in_box = some ⟨oc_in_box, od_in_box, .func (PySem.W.fnOf "in_box" "in_box" (defArgs s_in_box) (defBody s_in_box) (defScope s_in_box) .none kV_in_box dc_in_box pm_in_box an_in_box cd_in_box ct_in_box), sl_in_box⟩)
    (c_in_box : PySem.W.codeIn K cd_in_box "in_box" = true)
    (k_in_box : PySem.W.keepIn K (.ref a_in_box) = true)
    (g_box_size : PySem.W.nsIn K mainGlobals "box_size" = some (some (.ref a_box_size)))
    (l_box_size : K.lookup a_box_size = some ⟨oc_box_size, od_box_size, .func (PySem.W.fnOf "box_size" "box_size" (defArgs s_box_size) (defBody s_box_size) (defScope s_box_size) .none kV_box_size dc_box_size pm_box_size an_box_size cd_box_size ct_box_size), sl_box_size⟩)
    (c_box_size : PySem.W.codeIn K cd_box_size "box_size" = true)
    (k_box_size : PySem.W.keepIn K (.ref a_box_size) = true)
    (g_torn : PySem.W.nsIn K mainGlobals "torn" = some (some (.ref a_torn)))
    (l_torn : K.lookup a_torn = some ⟨oc_torn, od_torn, .func (PySem.W.fnOf "torn" "torn" (defArgs s_torn) (defBody s_torn) (defScope s_torn) .none kV_torn dc_torn pm_torn an_torn cd_torn ct_torn), sl_torn⟩)
    (c_torn : PySem.W.codeIn K cd_torn "torn" = true)
    (k_torn : PySem.W.keepIn K (.ref a_torn) = true)
    (m_init : PySem.W.findIn K (.ref C) "__init__" = some (some (.ref a_init)))
    (f_init : PySem.W.isFn K (.ref a_init) = true)
    (l_init : K.lookup a_init = some ⟨oc_init, od_init, .func (PySem.W.fnOf "__init__" "Pattern.__init__" (defArgs s_Pattern_init) (defBody s_Pattern_init) (defScope s_Pattern_init) .none kV_init dc_init pm_init an_init cd_init ct_init), sl_init⟩)
    (c_init : PySem.W.codeIn K cd_init "Pattern.__init__" = true)
    (k_init : PySem.W.keepIn K (.ref a_init) = true)
    (m_str : PySem.W.findIn K (.ref C) "__str__" = some (some (.ref a_str)))
    (f_str : PySem.W.isFn K (.ref a_str) = true)
    (l_str : K.lookup a_str = some ⟨oc_str, od_str, .func (PySem.W.fnOf "__str__" "Pattern.__str__" (defArgs s_Pattern_str) (defBody s_Pattern_str) (defScope s_Pattern_str) .none kV_str dc_str pm_str an_str cd_str ct_str), sl_str⟩)
    (c_str : PySem.W.codeIn K cd_str "Pattern.__str__" = true)
    (k_str : PySem.W.keepIn K (.ref a_str) = true)
    (m_len : PySem.W.findIn K (.ref C) "__len__" = some (some (.ref a_len)))
    (f_len : PySem.W.isFn K (.ref a_len) = true)
    (l_len : K.lookup a_len = some ⟨oc_len, od_len, .func (PySem.W.fnOf "__len__" "Pattern.__len__" (defArgs s_Pattern_len) (defBody s_Pattern_len) (defScope s_Pattern_len) .none kV_len dc_len pm_len an_len cd_len ct_len), sl_len⟩)
    (c_len : PySem.W.codeIn K cd_len "Pattern.__len__" = true)
    (k_len : PySem.W.keepIn K (.ref a_len) = true)
    (m_le : PySem.W.findIn K (.ref C) "__le__" = some (some (.ref a_le)))
    (f_le : PySem.W.isFn K (.ref a_le) = true)
    (l_le : K.lookup a_le = some ⟨oc_le, od_le, .func (PySem.W.fnOf "__le__" "Pattern.__le__" (defArgs s_Pattern_le) (defBody s_Pattern_le) (defScope s_Pattern_le) .none kV_le dc_le pm_le an_le cd_le ct_le), sl_le⟩)
    (c_le : PySem.W.codeIn K cd_le "Pattern.__le__" = true)
    (k_le : PySem.W.keepIn K (.ref a_le) = true)
    (m_and : PySem.W.findIn K (.ref C) "__and__" = some (some (.ref a_and)))
    (f_and : PySem.W.isFn K (.ref a_and) = true)
    (l_and : K.lookup a_and = some ⟨oc_and, od_and, .func (PySem.W.fnOf "__and__" "Pattern.__and__" (defArgs s_Pattern_and) (defBody s_Pattern_and) (defScope s_Pattern_and) .none kV_and dc_and pm_and an_and cd_and ct_and), sl_and⟩)
    (c_and : PySem.W.codeIn K cd_and "Pattern.__and__" = true)
    (k_and : PySem.W.keepIn K (.ref a_and) = true)
    (m_or : PySem.W.findIn K (.ref C) "__or__" = some (some (.ref a_or)))
    (f_or : PySem.W.isFn K (.ref a_or) = true)
    (l_or : K.lookup a_or = some ⟨oc_or, od_or, .func (PySem.W.fnOf "__or__" "Pattern.__or__" (defArgs s_Pattern_or) (defBody s_Pattern_or) (defScope s_Pattern_or) .none kV_or dc_or pm_or an_or cd_or ct_or), sl_or⟩)
    (c_or : PySem.W.codeIn K cd_or "Pattern.__or__" = true)
    (k_or : PySem.W.keepIn K (.ref a_or) = true)
    (g_Lpen : PySem.W.nsIn K mainGlobals "_law_pen" = some (some (.ref a_Lpen)))
    (l_Lpen : K.lookup a_Lpen = some ⟨oc_Lpen, od_Lpen, .func (PySem.W.fnOf "_law_pen" "_law_pen" (defArgs s_Lpen) (defBody s_Lpen) (defScope s_Lpen) .none kV_Lpen dc_Lpen pm_Lpen an_Lpen cd_Lpen ct_Lpen), sl_Lpen⟩)
    (c_Lpen : PySem.W.codeIn K cd_Lpen "_law_pen" = true)
    (k_Lpen : PySem.W.keepIn K (.ref a_Lpen) = true)
    (g_Ltake : PySem.W.nsIn K mainGlobals "_law_take" = some (some (.ref a_Ltake)))
    (l_Ltake : K.lookup a_Ltake = some ⟨oc_Ltake, od_Ltake, .func (PySem.W.fnOf "_law_take" "_law_take" (defArgs s_Ltake) (defBody s_Ltake) (defScope s_Ltake) .none kV_Ltake dc_Ltake pm_Ltake an_Ltake cd_Ltake ct_Ltake), sl_Ltake⟩)
    (c_Ltake : PySem.W.codeIn K cd_Ltake "_law_take" = true)
    (k_Ltake : PySem.W.keepIn K (.ref a_Ltake) = true)
    (g_Lpair : PySem.W.nsIn K mainGlobals "_law_pair" = some (some (.ref a_Lpair)))
    (l_Lpair : K.lookup a_Lpair = some ⟨oc_Lpair, od_Lpair, .func (PySem.W.fnOf "_law_pair" "_law_pair" (defArgs s_Lpair) (defBody s_Lpair) (defScope s_Lpair) .none kV_Lpair dc_Lpair pm_Lpair an_Lpair cd_Lpair ct_Lpair), sl_Lpair⟩)
    (c_Lpair : PySem.W.codeIn K cd_Lpair "_law_pair" = true)
    (k_Lpair : PySem.W.keepIn K (.ref a_Lpair) = true)
    (g_Lreads : PySem.W.nsIn K mainGlobals "_law_reads" = some (some (.ref a_Lreads)))
    (l_Lreads : K.lookup a_Lreads = some ⟨oc_Lreads, od_Lreads, .func (PySem.W.fnOf "_law_reads" "_law_reads" (defArgs s_Lreads) (defBody s_Lreads) (defScope s_Lreads) .none kV_Lreads dc_Lreads pm_Lreads an_Lreads cd_Lreads ct_Lreads), sl_Lreads⟩)
    (c_Lreads : PySem.W.codeIn K cd_Lreads "_law_reads" = true)
    (k_Lreads : PySem.W.keepIn K (.ref a_Lreads) = true)
    (g_law : PySem.W.nsIn K mainGlobals "law" = some (some (.ref a_law)))
    (l_law : K.lookup a_law = some ⟨oc_law, od_law, .func (PySem.W.fnOf "law" "law" (defArgs s_law) (defBody s_law) (defScope s_law) .none kV_law dc_law pm_law an_law cd_law ct_law), sl_law⟩)
    (c_law : PySem.W.codeIn K cd_law "law" = true)
    (k_law : PySem.W.keepIn K (.ref a_law) = true)
    (gU : PySem.W.nsIn K mainGlobals "Unlike" = some (some (.ref cUnlike)))
    (oU : K.lookup cUnlike = some (excClassObj nmU qU cUnlike NU bsU (bmX fe) true snU subU abU colU ddU k0U k1U k2U k3U k5U "ValueError.__new__"))
    (kpU : PySem.W.keepIn K (.ref cUnlike) = true)
    (tyU : PySem.W.typeIn K (.ref cUnlike) = some (.type "type"))
    (saU : PySem.W.findIn K (.ref cUnlike) "__setattr__" = some (some (.builtin "object.__setattr__")))
    (gaU : PySem.W.findIn K (.ref cUnlike) "__getattribute__" = some (some (.builtin "BaseException.__getattribute__")))
    (ggU : PySem.W.findIn K (.ref cUnlike) "__getattr__" = some none)
    (caU : PySem.W.findIn K (.ref cUnlike) "__class__" = some (some (.builtin "object.__class__")))
    (eU : PySem.W.excIn K cUnlike [.type "ValueError", .type "Exception", .type "BaseException", .type "object"] "ValueError.__new__" = true)
    (gN : PySem.W.nsIn K mainGlobals "NoPattern" = some (some (.ref cNoPattern)))
    (oN : K.lookup cNoPattern = some (excClassObj nmN qN cNoPattern NN bsN (bmX fe) true snN subN abN colN ddN k0N k1N k2N k3N k5N "ValueError.__new__"))
    (kpN : PySem.W.keepIn K (.ref cNoPattern) = true)
    (tyN : PySem.W.typeIn K (.ref cNoPattern) = some (.type "type"))
    (saN : PySem.W.findIn K (.ref cNoPattern) "__setattr__" = some (some (.builtin "object.__setattr__")))
    (gaN : PySem.W.findIn K (.ref cNoPattern) "__getattribute__" = some (some (.builtin "BaseException.__getattribute__")))
    (ggN : PySem.W.findIn K (.ref cNoPattern) "__getattr__" = some none)
    (caN : PySem.W.findIn K (.ref cNoPattern) "__class__" = some (some (.builtin "object.__class__")))
    (gB : PySem.W.nsIn K mainGlobals "NoBit" = some (some (.ref cNoBit)))
    (oB : K.lookup cNoBit = some (excClassObj nmB qB cNoBit NB bsB (bmX fe) true snB subB abB colB ddB k0B k1B k2B k3B k5B "ValueError.__new__"))
    (kpB : PySem.W.keepIn K (.ref cNoBit) = true)
    (tyB : PySem.W.typeIn K (.ref cNoBit) = some (.type "type"))
    (saB : PySem.W.findIn K (.ref cNoBit) "__setattr__" = some (some (.builtin "object.__setattr__")))
    (gaB : PySem.W.findIn K (.ref cNoBit) "__getattribute__" = some (some (.builtin "BaseException.__getattribute__")))
    (ggB : PySem.W.findIn K (.ref cNoBit) "__getattr__" = some none)
    (caB : PySem.W.findIn K (.ref cNoBit) "__class__" = some (some (.builtin "object.__class__")))
    (eB : PySem.W.excIn K cNoBit [.type "ValueError", .type "Exception", .type "BaseException", .type "object"] "ValueError.__new__" = true)
    (b_isinstance : PySem.W.nsIn K mainGlobals "isinstance" = some none)
    (b_str : PySem.W.nsIn K mainGlobals "str" = some none)
    (b_enumerate : PySem.W.nsIn K mainGlobals "enumerate" = some none)
    (b_len : PySem.W.nsIn K mainGlobals "len" = some none)
    (b_tuple : PySem.W.nsIn K mainGlobals "tuple" = some none)
    (b_all : PySem.W.nsIn K mainGlobals "all" = some none)
    (b_int : PySem.W.nsIn K mainGlobals "int" = some none)
    (b_bool : PySem.W.nsIn K mainGlobals "bool" = some none)
    (b_list : PySem.W.nsIn K mainGlobals "list" = some none)
    (b_zip : PySem.W.nsIn K mainGlobals "zip" = some none)
    (b_range : PySem.W.nsIn K mainGlobals "range" = some none)
    (b_sorted : PySem.W.nsIn K mainGlobals "sorted" = some none)
    (b_set : PySem.W.nsIn K mainGlobals "set" = some none)
    (b_abs : PySem.W.nsIn K mainGlobals "abs" = some none)
    : ∃ fd : FuncData, (∀ (s : Shared) (v : Value), BindsTo s fd ⟨[v], []⟩ [("_law_script", v)]) ∧ ∀ base : Heap, K.In base → base.Ns mainGlobals mg → FnG l.prog w K mg base CX0 9 fa fd ["_law_script"] (spLaw K) := by
  have e := hfa.symm.trans (PySem.W.mg_of X G g_law)
  cases e
  have F_is_whole := fun_mk (st := s_is_whole) l_is_whole c_is_whole k_is_whole
  have B_is_whole := F_is_whole.binds (ps := ["thing"]) fun _ _ _ _ _ _ us hl => match us, hl with | [_], _ => rfl
  have F_is_number := fun_mk (st := s_is_number) l_is_number c_is_number k_is_number
  have B_is_number := F_is_number.binds (ps := ["thing", "many"]) fun _ _ _ _ _ _ us hl => match us, hl with | [_, _], _ => rfl
  have F_has_pattern_form := fun_mk (st := s_has_pattern_form) l_has_pattern_form c_has_pattern_form k_has_pattern_form
  have B_has_pattern_form := F_has_pattern_form.binds (ps := ["text"]) fun _ _ _ _ _ _ us hl => match us, hl with | [_], _ => rfl
  have F_first_wrong_sign := fun_mk (st := s_first_wrong_sign) l_first_wrong_sign c_first_wrong_sign k_first_wrong_sign
  have B_first_wrong_sign := F_first_wrong_sign.binds (ps := ["thing"]) fun _ _ _ _ _ _ us hl => match us, hl with | [_], _ => rfl
  have F_pattern_fault := fun_mk (st := s_pattern_fault) l_pattern_fault c_pattern_fault k_pattern_fault
  have B_pattern_fault := F_pattern_fault.binds (ps := ["thing"]) fun _ _ _ _ _ _ us hl => match us, hl with | [_], _ => rfl
  have F_need_pattern := fun_mk (st := s_need_pattern) l_need_pattern c_need_pattern k_need_pattern
  have B_need_pattern := F_need_pattern.binds (ps := ["thing"]) fun _ _ _ _ _ _ us hl => match us, hl with | [_], _ => rfl
  have F_sizes_of := fun_mk (st := s_sizes_of) l_sizes_of c_sizes_of k_sizes_of
  have B_sizes_of := F_sizes_of.binds (ps := ["text"]) fun _ _ _ _ _ _ us hl => match us, hl with | [_], _ => rfl
  have F_need_sizes := fun_mk (st := s_need_sizes) l_need_sizes c_need_sizes k_need_sizes
  have B_need_sizes := F_need_sizes.binds (ps := ["thing", "sizes"]) fun _ _ _ _ _ _ us hl => match us, hl with | [_, _], _ => rfl
  have F_need_bits := fun_mk (st := s_need_bits) l_need_bits c_need_bits k_need_bits
  have B_need_bits := F_need_bits.binds (ps := ["thing", "many"]) fun _ _ _ _ _ _ us hl => match us, hl with | [_, _], _ => rfl
  have F_bits_of := fun_mk (st := s_bits_of) l_bits_of c_bits_of k_bits_of
  have B_bits_of := F_bits_of.binds (ps := ["text"]) fun _ _ _ _ _ _ us hl => match us, hl with | [_], _ => rfl
  have F_places_of := fun_mk (st := s_places_of) l_places_of c_places_of k_places_of
  have B_places_of := F_places_of.binds (ps := ["text"]) fun _ _ _ _ _ _ us hl => match us, hl with | [_], _ => rfl
  have F_lies_below := fun_mk (st := s_lies_below) l_lies_below c_lies_below k_lies_below
  have B_lies_below := F_lies_below.binds (ps := ["one", "other"]) fun _ _ _ _ _ _ us hl => match us, hl with | [_, _], _ => rfl
  have F_unlike_sign := fun_mk (st := s_unlike_sign) l_unlike_sign c_unlike_sign k_unlike_sign
  have B_unlike_sign := F_unlike_sign.binds (ps := ["a", "b"]) fun _ _ _ _ _ _ us hl => match us, hl with | [_, _], _ => rfl
  have F_need_alike := fun_mk (st := s_need_alike) l_need_alike c_need_alike k_need_alike
  have B_need_alike := F_need_alike.binds (ps := ["texts"]) fun _ _ _ _ _ _ us hl => match us, hl with | [_], _ => rfl
  have F_unlike_bits := fun_mk (st := s_unlike_bits) l_unlike_bits c_unlike_bits k_unlike_bits
  have B_unlike_bits := F_unlike_bits.binds (ps := ["one", "other"]) fun _ _ _ _ _ _ us hl => match us, hl with | [_, _], _ => rfl
  have F_box := fun_mk (st := s_box) l_box c_box k_box
  have B_box := F_box.binds (ps := ["one", "other"]) fun _ _ _ _ _ _ us hl => match us, hl with | [_, _], _ => rfl
  have F_in_box := fun_mk (st := s_in_box) l_in_box c_in_box k_in_box
  have B_in_box := F_in_box.binds (ps := ["z", "one", "other"]) fun _ _ _ _ _ _ us hl => match us, hl with | [_, _, _], _ => rfl
  have F_box_size := fun_mk (st := s_box_size) l_box_size c_box_size k_box_size
  have B_box_size := F_box_size.binds (ps := ["one", "other"]) fun _ _ _ _ _ _ us hl => match us, hl with | [_, _], _ => rfl
  have F_torn := fun_mk (st := s_torn) l_torn c_torn k_torn
  have B_torn := F_torn.binds (ps := ["one", "other", "early"]) fun _ _ _ _ _ _ us hl => match us, hl with | [_, _, _], _ => rfl
  have F_init := fun_mk (st := s_Pattern_init) l_init c_init k_init
  have B_init := F_init.binds (ps := ["self", "text"]) fun _ _ _ _ _ _ us hl => match us, hl with | [_, _], _ => rfl
  have F_str := fun_mk (st := s_Pattern_str) l_str c_str k_str
  have B_str := F_str.binds (ps := ["self"]) fun _ _ _ _ _ _ us hl => match us, hl with | [_], _ => rfl
  have F_len := fun_mk (st := s_Pattern_len) l_len c_len k_len
  have B_len := F_len.binds (ps := ["self"]) fun _ _ _ _ _ _ us hl => match us, hl with | [_], _ => rfl
  have F_le := fun_mk (st := s_Pattern_le) l_le c_le k_le
  have B_le := F_le.binds (ps := ["self", "other"]) fun _ _ _ _ _ _ us hl => match us, hl with | [_, _], _ => rfl
  have F_and := fun_mk (st := s_Pattern_and) l_and c_and k_and
  have B_and := F_and.binds (ps := ["self", "other"]) fun _ _ _ _ _ _ us hl => match us, hl with | [_, _], _ => rfl
  have F_or := fun_mk (st := s_Pattern_or) l_or c_or k_or
  have B_or := F_or.binds (ps := ["self", "other"]) fun _ _ _ _ _ _ us hl => match us, hl with | [_, _], _ => rfl
  have F_Lpen := fun_mk (st := s_Lpen) l_Lpen c_Lpen k_Lpen
  have B_Lpen := F_Lpen.binds (ps := ["_law_script"]) fun _ _ _ _ _ _ us hl => match us, hl with | [_], _ => rfl
  have F_Ltake := fun_mk (st := s_Ltake) l_Ltake c_Ltake k_Ltake
  have B_Ltake := F_Ltake.binds (ps := ["_law_pen_here", "_law_many"]) fun _ _ _ _ _ _ us hl => match us, hl with | [_, _], _ => rfl
  have F_Lpair := fun_mk (st := s_Lpair) l_Lpair c_Lpair k_Lpair
  have B_Lpair := F_Lpair.binds (ps := ["_law_pen_here"]) fun _ _ _ _ _ _ us hl => match us, hl with | [_], _ => rfl
  have F_Lreads := fun_mk (st := s_Lreads) l_Lreads c_Lreads k_Lreads
  have B_Lreads := F_Lreads.binds (ps := ["_law_one", "_law_other", "_law_many"]) fun _ _ _ _ _ _ us hl => match us, hl with | [_, _, _], _ => rfl
  have F_law := fun_mk (st := s_law) l_law c_law k_law
  have xU : XF K mg fe "Unlike" cUnlike := XF.of X G gU oU kpU tyU saU gaU ggU caU
  have xN : XF K mg fe "NoPattern" cNoPattern := XF.of X G gN oN kpN tyN saN gaN ggN caN
  have xB : XF K mg fe "NoBit" cNoBit := XF.of X G gB oB kpB tyB saB gaB ggB caB
  let z : Pz := { C := C, fe := fe, cNoPattern := cNoPattern, cUnlike := cUnlike, cNoBit := cNoBit, p_sizes := fe, p_standing := fe, a_is_whole := a_is_whole, d_is_whole := (PySem.W.fnOf "is_whole" "is_whole" (defArgs s_is_whole) (defBody s_is_whole) (defScope s_is_whole) .none kV_is_whole dc_is_whole pm_is_whole an_is_whole cd_is_whole ct_is_whole), a_is_number := a_is_number, d_is_number := (PySem.W.fnOf "is_number" "is_number" (defArgs s_is_number) (defBody s_is_number) (defScope s_is_number) .none kV_is_number dc_is_number pm_is_number an_is_number cd_is_number ct_is_number), a_has_pattern_form := a_has_pattern_form, d_has_pattern_form := (PySem.W.fnOf "has_pattern_form" "has_pattern_form" (defArgs s_has_pattern_form) (defBody s_has_pattern_form) (defScope s_has_pattern_form) .none kV_has_pattern_form dc_has_pattern_form pm_has_pattern_form an_has_pattern_form cd_has_pattern_form ct_has_pattern_form), a_first_wrong_sign := a_first_wrong_sign, d_first_wrong_sign := (PySem.W.fnOf "first_wrong_sign" "first_wrong_sign" (defArgs s_first_wrong_sign) (defBody s_first_wrong_sign) (defScope s_first_wrong_sign) .none kV_first_wrong_sign dc_first_wrong_sign pm_first_wrong_sign an_first_wrong_sign cd_first_wrong_sign ct_first_wrong_sign), a_pattern_fault := a_pattern_fault, d_pattern_fault := (PySem.W.fnOf "pattern_fault" "pattern_fault" (defArgs s_pattern_fault) (defBody s_pattern_fault) (defScope s_pattern_fault) .none kV_pattern_fault dc_pattern_fault pm_pattern_fault an_pattern_fault cd_pattern_fault ct_pattern_fault), a_need_pattern := a_need_pattern, d_need_pattern := (PySem.W.fnOf "need_pattern" "need_pattern" (defArgs s_need_pattern) (defBody s_need_pattern) (defScope s_need_pattern) .none kV_need_pattern dc_need_pattern pm_need_pattern an_need_pattern cd_need_pattern ct_need_pattern), a_sizes_of := a_sizes_of, d_sizes_of := (PySem.W.fnOf "sizes_of" "sizes_of" (defArgs s_sizes_of) (defBody s_sizes_of) (defScope s_sizes_of) .none kV_sizes_of dc_sizes_of pm_sizes_of an_sizes_of cd_sizes_of ct_sizes_of), a_need_sizes := a_need_sizes, d_need_sizes := (PySem.W.fnOf "need_sizes" "need_sizes" (defArgs s_need_sizes) (defBody s_need_sizes) (defScope s_need_sizes) .none kV_need_sizes dc_need_sizes pm_need_sizes an_need_sizes cd_need_sizes ct_need_sizes), a_need_bits := a_need_bits, d_need_bits := (PySem.W.fnOf "need_bits" "need_bits" (defArgs s_need_bits) (defBody s_need_bits) (defScope s_need_bits) .none kV_need_bits dc_need_bits pm_need_bits an_need_bits cd_need_bits ct_need_bits), a_bits_of := a_bits_of, d_bits_of := (PySem.W.fnOf "bits_of" "bits_of" (defArgs s_bits_of) (defBody s_bits_of) (defScope s_bits_of) .none kV_bits_of dc_bits_of pm_bits_of an_bits_of cd_bits_of ct_bits_of), a_places_of := a_places_of, d_places_of := (PySem.W.fnOf "places_of" "places_of" (defArgs s_places_of) (defBody s_places_of) (defScope s_places_of) .none kV_places_of dc_places_of pm_places_of an_places_of cd_places_of ct_places_of), a_lies_below := a_lies_below, d_lies_below := (PySem.W.fnOf "lies_below" "lies_below" (defArgs s_lies_below) (defBody s_lies_below) (defScope s_lies_below) .none kV_lies_below dc_lies_below pm_lies_below an_lies_below cd_lies_below ct_lies_below), a_unlike_sign := a_unlike_sign, d_unlike_sign := (PySem.W.fnOf "unlike_sign" "unlike_sign" (defArgs s_unlike_sign) (defBody s_unlike_sign) (defScope s_unlike_sign) .none kV_unlike_sign dc_unlike_sign pm_unlike_sign an_unlike_sign cd_unlike_sign ct_unlike_sign), a_need_alike := a_need_alike, d_need_alike := (PySem.W.fnOf "need_alike" "need_alike" (defArgs s_need_alike) (defBody s_need_alike) (defScope s_need_alike) .none kV_need_alike dc_need_alike pm_need_alike an_need_alike cd_need_alike ct_need_alike), a_unlike_bits := a_unlike_bits, d_unlike_bits := (PySem.W.fnOf "unlike_bits" "unlike_bits" (defArgs s_unlike_bits) (defBody s_unlike_bits) (defScope s_unlike_bits) .none kV_unlike_bits dc_unlike_bits pm_unlike_bits an_unlike_bits cd_unlike_bits ct_unlike_bits), a_box := a_box, d_box := (PySem.W.fnOf "box" "box" (defArgs s_box) (defBody s_box) (defScope s_box) .none kV_box dc_box pm_box an_box cd_box ct_box), a_in_box := a_in_box, d_in_box := (PySem.W.fnOf "in_box" "in_box" (defArgs s_in_box) (defBody s_in_box) (defScope s_in_box) .none kV_in_box dc_in_box pm_in_box an_in_box cd_in_box ct_in_box), a_box_size := a_box_size, d_box_size := (PySem.W.fnOf "box_size" "box_size" (defArgs s_box_size) (defBody s_box_size) (defScope s_box_size) .none kV_box_size dc_box_size pm_box_size an_box_size cd_box_size ct_box_size), a_torn := a_torn, d_torn := (PySem.W.fnOf "torn" "torn" (defArgs s_torn) (defBody s_torn) (defScope s_torn) .none kV_torn dc_torn pm_torn an_torn cd_torn ct_torn), a_init := a_init, d_init := (PySem.W.fnOf "__init__" "Pattern.__init__" (defArgs s_Pattern_init) (defBody s_Pattern_init) (defScope s_Pattern_init) .none kV_init dc_init pm_init an_init cd_init ct_init), a_str := a_str, d_str := (PySem.W.fnOf "__str__" "Pattern.__str__" (defArgs s_Pattern_str) (defBody s_Pattern_str) (defScope s_Pattern_str) .none kV_str dc_str pm_str an_str cd_str ct_str), a_len := a_len, d_len := (PySem.W.fnOf "__len__" "Pattern.__len__" (defArgs s_Pattern_len) (defBody s_Pattern_len) (defScope s_Pattern_len) .none kV_len dc_len pm_len an_len cd_len ct_len), a_le := a_le, d_le := (PySem.W.fnOf "__le__" "Pattern.__le__" (defArgs s_Pattern_le) (defBody s_Pattern_le) (defScope s_Pattern_le) .none kV_le dc_le pm_le an_le cd_le ct_le), a_and := a_and, d_and := (PySem.W.fnOf "__and__" "Pattern.__and__" (defArgs s_Pattern_and) (defBody s_Pattern_and) (defScope s_Pattern_and) .none kV_and dc_and pm_and an_and cd_and ct_and), a_or := a_or, d_or := (PySem.W.fnOf "__or__" "Pattern.__or__" (defArgs s_Pattern_or) (defBody s_Pattern_or) (defScope s_Pattern_or) .none kV_or dc_or pm_or an_or cd_or ct_or) }
  let w1 : Lz := { a_Lpen := a_Lpen, d_Lpen := (PySem.W.fnOf "_law_pen" "_law_pen" (defArgs s_Lpen) (defBody s_Lpen) (defScope s_Lpen) .none kV_Lpen dc_Lpen pm_Lpen an_Lpen cd_Lpen ct_Lpen), a_Ltake := a_Ltake, d_Ltake := (PySem.W.fnOf "_law_take" "_law_take" (defArgs s_Ltake) (defBody s_Ltake) (defScope s_Ltake) .none kV_Ltake dc_Ltake pm_Ltake an_Ltake cd_Ltake ct_Ltake), a_Lpair := a_Lpair, d_Lpair := (PySem.W.fnOf "_law_pair" "_law_pair" (defArgs s_Lpair) (defBody s_Lpair) (defScope s_Lpair) .none kV_Lpair dc_Lpair pm_Lpair an_Lpair cd_Lpair ct_Lpair), a_Lreads := a_Lreads, d_Lreads := (PySem.W.fnOf "_law_reads" "_law_reads" (defArgs s_Lreads) (defBody s_Lreads) (defScope s_Lreads) .none kV_Lreads dc_Lreads pm_Lreads an_Lreads cd_Lreads ct_Lreads), a_law := fa, d_law := (PySem.W.fnOf "law" "law" (defArgs s_law) (defBody s_law) (defScope s_law) .none kV_law dc_law pm_law an_law cd_law ct_law) }
  have icC : ∃ cd, PySem.W.clsIn K C = some cd ∧ cd.mro = [.ref C, .type "object"] := ⟨cdC, by unfold PySem.W.clsIn; rw [lC], mroC⟩
  have T : TxL K mg z w1 := { g_Pattern := PySem.W.mg_of X G gC, cls := ⟨pgC, hdC, poC, saC⟩, mkP := ⟨mkC, m_init, f_init, kpC⟩, na_text := na_text, na_bits := na_bits, na_sizes := na_sizes, vBITS := ⟨_, _, ⟨rdC, gaC⟩, ⟨vB, ⟨_, rfl⟩⟩⟩, vBLOCKS := ⟨_, _, ⟨rdC, gaC⟩, ⟨vK, ⟨_, rfl⟩⟩⟩, ca := caC, xb := ⟨hn, ht⟩, mo := moC, sf := sfC, ic := icC, tyC := tyC, crP := ⟨rdC, gaC⟩, g_MOST_UNLIKE_BITS := ⟨_, PySem.W.mg_of X G gM⟩, g_is_whole := PySem.W.mg_of X G g_is_whole, k_is_whole := k_is_whole, F_is_whole := F_is_whole, b_is_whole := B_is_whole, g_is_number := PySem.W.mg_of X G g_is_number, k_is_number := k_is_number, F_is_number := F_is_number, b_is_number := B_is_number, g_has_pattern_form := PySem.W.mg_of X G g_has_pattern_form, k_has_pattern_form := k_has_pattern_form, F_has_pattern_form := F_has_pattern_form, b_has_pattern_form := B_has_pattern_form, g_first_wrong_sign := PySem.W.mg_of X G g_first_wrong_sign, k_first_wrong_sign := k_first_wrong_sign, F_first_wrong_sign := F_first_wrong_sign, b_first_wrong_sign := B_first_wrong_sign, g_pattern_fault := PySem.W.mg_of X G g_pattern_fault, k_pattern_fault := k_pattern_fault, F_pattern_fault := F_pattern_fault, b_pattern_fault := B_pattern_fault, g_need_pattern := PySem.W.mg_of X G g_need_pattern, k_need_pattern := k_need_pattern, F_need_pattern := F_need_pattern, b_need_pattern := B_need_pattern, g_sizes_of := PySem.W.mg_of X G g_sizes_of, k_sizes_of := k_sizes_of, F_sizes_of := F_sizes_of, b_sizes_of := B_sizes_of, g_need_sizes := PySem.W.mg_of X G g_need_sizes, k_need_sizes := k_need_sizes, F_need_sizes := F_need_sizes, b_need_sizes := B_need_sizes, g_need_bits := PySem.W.mg_of X G g_need_bits, k_need_bits := k_need_bits, F_need_bits := F_need_bits, b_need_bits := B_need_bits, g_bits_of := PySem.W.mg_of X G g_bits_of, k_bits_of := k_bits_of, F_bits_of := F_bits_of, b_bits_of := B_bits_of, g_places_of := PySem.W.mg_of X G g_places_of, k_places_of := k_places_of, F_places_of := F_places_of, b_places_of := B_places_of, g_lies_below := PySem.W.mg_of X G g_lies_below, k_lies_below := k_lies_below, F_lies_below := F_lies_below, b_lies_below := B_lies_below, g_unlike_sign := PySem.W.mg_of X G g_unlike_sign, k_unlike_sign := k_unlike_sign, F_unlike_sign := F_unlike_sign, b_unlike_sign := B_unlike_sign, g_need_alike := PySem.W.mg_of X G g_need_alike, k_need_alike := k_need_alike, F_need_alike := F_need_alike, b_need_alike := B_need_alike, g_unlike_bits := PySem.W.mg_of X G g_unlike_bits, k_unlike_bits := k_unlike_bits, F_unlike_bits := F_unlike_bits, b_unlike_bits := B_unlike_bits, g_box := PySem.W.mg_of X G g_box, k_box := k_box, F_box := F_box, b_box := B_box, g_in_box := PySem.W.mg_of X G g_in_box, k_in_box := k_in_box, F_in_box := F_in_box, b_in_box := B_in_box, g_box_size := PySem.W.mg_of X G g_box_size, k_box_size := k_box_size, F_box_size := F_box_size, b_box_size := B_box_size, g_torn := PySem.W.mg_of X G g_torn, k_torn := k_torn, F_torn := F_torn, b_torn := B_torn, m_init := m_init, f_init := f_init, F_init := F_init, b_init := B_init, m_str := m_str, f_str := f_str, F_str := F_str, b_str := B_str, m_len := m_len, f_len := f_len, F_len := F_len, b_len := B_len, m_le := m_le, f_le := f_le, F_le := F_le, b_le := B_le, m_and := m_and, f_and := f_and, F_and := F_and, b_and := B_and, m_or := m_or, f_or := f_or, F_or := F_or, b_or := B_or, xUnlike := xU, eUnlike := eU, xNoPattern := xN, xNoBit := xB, eNoBit := eB, n_isinstance := PySem.W.mg_none_of X G b_isinstance, n_str := PySem.W.mg_none_of X G b_str, n_enumerate := PySem.W.mg_none_of X G b_enumerate, n_len := PySem.W.mg_none_of X G b_len, n_tuple := PySem.W.mg_none_of X G b_tuple, n_all := PySem.W.mg_none_of X G b_all, n_int := PySem.W.mg_none_of X G b_int, n_bool := PySem.W.mg_none_of X G b_bool, n_list := PySem.W.mg_none_of X G b_list, n_zip := PySem.W.mg_none_of X G b_zip, n_range := PySem.W.mg_none_of X G b_range, n_sorted := PySem.W.mg_none_of X G b_sorted, n_set := PySem.W.mg_none_of X G b_set, pp := ⟨PySem.W.mg_none_of X G b_int, PySem.W.mg_none_of X G b_len, PySem.W.mg_none_of X G b_abs, PySem.W.mg_none_of X G b_list⟩, g_Lpen := PySem.W.mg_of X G g_Lpen, k_Lpen := k_Lpen, F_Lpen := F_Lpen, b_Lpen := B_Lpen, g_Ltake := PySem.W.mg_of X G g_Ltake, k_Ltake := k_Ltake, F_Ltake := F_Ltake, b_Ltake := B_Ltake, g_Lpair := PySem.W.mg_of X G g_Lpair, k_Lpair := k_Lpair, F_Lpair := F_Lpair, b_Lpair := B_Lpair, g_Lreads := PySem.W.mg_of X G g_Lreads, k_Lreads := k_Lreads, F_Lreads := F_Lreads, b_Lreads := B_Lreads }
  exact ⟨(PySem.W.fnOf "law" "law" (defArgs s_law) (defBody s_law) (defScope s_law) .none kV_law dc_law pm_law an_law cd_law ct_law), fun s v => .of_eq rfl, fun base _ _ => ok_law F_law T⟩
theorem walk {l : PySem.W.OpenLaw} {q : Program} {loose : List Str} {XP : (Str → Option Value) → Heap → Prop} {YP : World → Heap → Prop} {d : DefRec} {K : Params → PySem.W.Frag} (hn : l.most = some 63) (hdf : d.params.defaults = []) (hY : ∀ (w : World) (h : Heap), YP w h → (K w.params).In h)
    (F : ∀ (w : World) (mg : Str → Option Value) (fa : Addr) (h : Heap), (K w.params).In h → h.Ns mainGlobals mg → mg d.name = some (.ref fa) →
      ∃ fd : FuncData, (∀ (s : Shared) (u : Value), BindsTo s fd ⟨[u], []⟩ [("_law_script", u)]) ∧ ∀ base : Heap, (K w.params).In base → base.Ns mainGlobals mg → FnG l.prog w (K w.params) mg base CX0 9 fa fd ["_law_script"] (spLaw (K w.params))) :
    PySem.W.WalkO q loose XP YP l.row.toRowW d [] (fun f vs => PySem.call f vs) :=
  walk_ofG (n := 63) (k := 9) (x := "_law_script") (CX := fun _ => CX0) (sp := fun w => spLaw (K w.params)) hn (by decide) hdf ⟨rfl, by decide, by decide⟩ hY F (fun _ _ a ns hl _ hS => ⟨a, ns, rfl, hS, hl, fun _ => rfl⟩) fun _ _ _ _ _ z => z
end Fb
open PySem PySem.W PyProof.Rows
set_option maxRecDepth 100000 in
set_option maxHeartbeats 0 in
theorem PySem.Challenge.cw_fallenbits_k06_whole_torn_reads_holds : PySem.Challenge.rw_fallenbits_k06_whole_torn_reads.Holds := by
  w_on; o_law; k_head; (case hw => w_witness2)
  k_fill
  refine Fb.walk (l := PySem.Challenge.rw_fallenbits_k06_whole_torn_reads) rfl rfl (fun w h Y => PySem.W.kIn_of Y) ?F
  case F =>
    intro w mg fa h KX G hmg
    refine' Fb.all_mk KX G hmg ?zz_gC ?zz_lC ?zz_mroC ?zz_pgC ?zz_hdC ?zz_poC ?zz_saC ?zz_mkC ?zz_kpC ?zz_na_text ?zz_na_bits ?zz_na_sizes ?zz_rdC ?zz_gaC ?zz_vB ?zz_vK ?zz_caC ?zz_hn ?zz_ht ?zz_moC ?zz_sfC ?zz_tyC ?zz_gM ?zz_g_is_whole ?zz_l_is_whole ?zz_c_is_whole ?zz_k_is_whole ?zz_g_is_number ?zz_l_is_number ?zz_c_is_number ?zz_k_is_number ?zz_g_has_pattern_form ?zz_l_has_pattern_form ?zz_c_has_pattern_form ?zz_k_has_pattern_form ?zz_g_first_wrong_sign ?zz_l_first_wrong_sign ?zz_c_first_wrong_sign ?zz_k_first_wrong_sign ?zz_g_pattern_fault ?zz_l_pattern_fault ?zz_c_pattern_fault ?zz_k_pattern_fault ?zz_g_need_pattern ?zz_l_need_pattern ?zz_c_need_pattern ?zz_k_need_pattern ?zz_g_sizes_of ?zz_l_sizes_of ?zz_c_sizes_of ?zz_k_sizes_of ?zz_g_need_sizes ?zz_l_need_sizes ?zz_c_need_sizes ?zz_k_need_sizes ?zz_g_need_bits ?zz_l_need_bits ?zz_c_need_bits ?zz_k_need_bits ?zz_g_bits_of ?zz_l_bits_of ?zz_c_bits_of ?zz_k_bits_of ?zz_g_places_of ?zz_l_places_of ?zz_c_places_of ?zz_k_places_of ?zz_g_lies_below ?zz_l_lies_below ?zz_c_lies_below ?zz_k_lies_below ?zz_g_unlike_sign ?zz_l_unlike_sign ?zz_c_unlike_sign ?zz_k_unlike_sign ?zz_g_need_alike ?zz_l_need_alike ?zz_c_need_alike ?zz_k_need_alike ?zz_g_unlike_bits ?zz_l_unlike_bits ?zz_c_unlike_bits ?zz_k_unlike_bits ?zz_g_box ?zz_l_box ?zz_c_box ?zz_k_box ?zz_g_in_box ?zz_l_in_box ?zz_c_in_box ?zz_k_in_box ?zz_g_box_size ?zz_l_box_size ?zz_c_box_size ?zz_k_box_size ?zz_g_torn ?zz_l_torn ?zz_c_torn ?zz_k_torn ?zz_m_init ?zz_f_init ?zz_l_init ?zz_c_init ?zz_k_init ?zz_m_str ?zz_f_str ?zz_l_str ?zz_c_str ?zz_k_str ?zz_m_len ?zz_f_len ?zz_l_len ?zz_c_len ?zz_k_len ?zz_m_le ?zz_f_le ?zz_l_le ?zz_c_le ?zz_k_le ?zz_m_and ?zz_f_and ?zz_l_and ?zz_c_and ?zz_k_and ?zz_m_or ?zz_f_or ?zz_l_or ?zz_c_or ?zz_k_or ?zz_g_Lpen ?zz_l_Lpen ?zz_c_Lpen ?zz_k_Lpen ?zz_g_Ltake ?zz_l_Ltake ?zz_c_Ltake ?zz_k_Ltake ?zz_g_Lpair ?zz_l_Lpair ?zz_c_Lpair ?zz_k_Lpair ?zz_g_Lreads ?zz_l_Lreads ?zz_c_Lreads ?zz_k_Lreads ?zz_g_law ?zz_l_law ?zz_c_law ?zz_k_law ?zz_gU ?zz_oU ?zz_kpU ?zz_tyU ?zz_saU ?zz_gaU ?zz_ggU ?zz_caU ?zz_eU ?zz_gN ?zz_oN ?zz_kpN ?zz_tyN ?zz_saN ?zz_gaN ?zz_ggN ?zz_caN ?zz_gB ?zz_oB ?zz_kpB ?zz_tyB ?zz_saB ?zz_gaB ?zz_ggB ?zz_caB ?zz_eB ?zz_b_isinstance ?zz_b_str ?zz_b_enumerate ?zz_b_len ?zz_b_tuple ?zz_b_all ?zz_b_int ?zz_b_bool ?zz_b_list ?zz_b_zip ?zz_b_range ?zz_b_sorted ?zz_b_set ?zz_b_abs
    (case zz_gC => k_is)
    (case zz_lC => k_is)
    (case zz_mroC => rfl)
    (case zz_pgC => k_is)
    (case zz_hdC => k_is)
    (case zz_poC => k_is)
    (case zz_saC => k_is)
    (case zz_mkC => k_is)
    (case zz_kpC => k_is)
    (case zz_na_text => k_is)
    (case zz_na_bits => k_is)
    (case zz_na_sizes => k_is)
    (case zz_rdC => k_is)
    (case zz_gaC => k_is)
    (case zz_vB => k_is)
    (case zz_vK => k_is)
    (case zz_caC => k_is)
    (case zz_hn => k_is)
    (case zz_ht => k_is)
    (case zz_moC => k_is)
    (case zz_sfC => k_is)
    (case zz_tyC => k_is)
    (case zz_gM => k_is)
    (case zz_g_is_whole => k_is)
    (case zz_l_is_whole => k_is)
    (case zz_c_is_whole => k_is)
    (case zz_k_is_whole => k_is)
    (case zz_g_is_number => k_is)
    (case zz_l_is_number => k_is)
    (case zz_c_is_number => k_is)
    (case zz_k_is_number => k_is)
    (case zz_g_has_pattern_form => k_is)
    (case zz_l_has_pattern_form => k_is)
    (case zz_c_has_pattern_form => k_is)
    (case zz_k_has_pattern_form => k_is)
    (case zz_g_first_wrong_sign => k_is)
    (case zz_l_first_wrong_sign => k_is)
    (case zz_c_first_wrong_sign => k_is)
    (case zz_k_first_wrong_sign => k_is)
    (case zz_g_pattern_fault => k_is)
    (case zz_l_pattern_fault => k_is)
    (case zz_c_pattern_fault => k_is)
    (case zz_k_pattern_fault => k_is)
    (case zz_g_need_pattern => k_is)
    (case zz_l_need_pattern => k_is)
    (case zz_c_need_pattern => k_is)
    (case zz_k_need_pattern => k_is)
    (case zz_g_sizes_of => k_is)
    (case zz_l_sizes_of => k_is)
    (case zz_c_sizes_of => k_is)
    (case zz_k_sizes_of => k_is)
    (case zz_g_need_sizes => k_is)
    (case zz_l_need_sizes => k_is)
    (case zz_c_need_sizes => k_is)
    (case zz_k_need_sizes => k_is)
    (case zz_g_need_bits => k_is)
    (case zz_l_need_bits => k_is)
    (case zz_c_need_bits => k_is)
    (case zz_k_need_bits => k_is)
    (case zz_g_bits_of => k_is)
    (case zz_l_bits_of => k_is)
    (case zz_c_bits_of => k_is)
    (case zz_k_bits_of => k_is)
    (case zz_g_places_of => k_is)
    (case zz_l_places_of => k_is)
    (case zz_c_places_of => k_is)
    (case zz_k_places_of => k_is)
    (case zz_g_lies_below => k_is)
    (case zz_l_lies_below => k_is)
    (case zz_c_lies_below => k_is)
    (case zz_k_lies_below => k_is)
    (case zz_g_unlike_sign => k_is)
    (case zz_l_unlike_sign => k_is)
    (case zz_c_unlike_sign => k_is)
    (case zz_k_unlike_sign => k_is)
    (case zz_g_need_alike => k_is)
    (case zz_l_need_alike => k_is)
    (case zz_c_need_alike => k_is)
    (case zz_k_need_alike => k_is)
    (case zz_g_unlike_bits => k_is)
    (case zz_l_unlike_bits => k_is)
    (case zz_c_unlike_bits => k_is)
    (case zz_k_unlike_bits => k_is)
    (case zz_g_box => k_is)
    (case zz_l_box => k_is)
    (case zz_c_box => k_is)
    (case zz_k_box => k_is)
    (case zz_g_in_box => k_is)
    (case zz_l_in_box => k_is)
    (case zz_c_in_box => k_is)
    (case zz_k_in_box => k_is)
    (case zz_g_box_size => k_is)
    (case zz_l_box_size => k_is)
    (case zz_c_box_size => k_is)
    (case zz_k_box_size => k_is)
    (case zz_g_torn => k_is)
    (case zz_l_torn => k_is)
    (case zz_c_torn => k_is)
    (case zz_k_torn => k_is)
    (case zz_m_init => k_is)
    (case zz_f_init => k_is)
    (case zz_l_init => k_is)
    (case zz_c_init => k_is)
    (case zz_k_init => k_is)
    (case zz_m_str => k_is)
    (case zz_f_str => k_is)
    (case zz_l_str => k_is)
    (case zz_c_str => k_is)
    (case zz_k_str => k_is)
    (case zz_m_len => k_is)
    (case zz_f_len => k_is)
    (case zz_l_len => k_is)
    (case zz_c_len => k_is)
    (case zz_k_len => k_is)
    (case zz_m_le => k_is)
    (case zz_f_le => k_is)
    (case zz_l_le => k_is)
    (case zz_c_le => k_is)
    (case zz_k_le => k_is)
    (case zz_m_and => k_is)
    (case zz_f_and => k_is)
    (case zz_l_and => k_is)
    (case zz_c_and => k_is)
    (case zz_k_and => k_is)
    (case zz_m_or => k_is)
    (case zz_f_or => k_is)
    (case zz_l_or => k_is)
    (case zz_c_or => k_is)
    (case zz_k_or => k_is)
    (case zz_g_Lpen => k_is)
    (case zz_l_Lpen => k_is)
    (case zz_c_Lpen => k_is)
    (case zz_k_Lpen => k_is)
    (case zz_g_Ltake => k_is)
    (case zz_l_Ltake => k_is)
    (case zz_c_Ltake => k_is)
    (case zz_k_Ltake => k_is)
    (case zz_g_Lpair => k_is)
    (case zz_l_Lpair => k_is)
    (case zz_c_Lpair => k_is)
    (case zz_k_Lpair => k_is)
    (case zz_g_Lreads => k_is)
    (case zz_l_Lreads => k_is)
    (case zz_c_Lreads => k_is)
    (case zz_k_Lreads => k_is)
    (case zz_g_law => k_is)
    (case zz_l_law => k_is)
    (case zz_c_law => k_is)
    (case zz_k_law => k_is)
    (case zz_gU => k_is)
    (case zz_oU => k_is)
    (case zz_kpU => k_is)
    (case zz_tyU => k_is)
    (case zz_saU => k_is)
    (case zz_gaU => k_is)
    (case zz_ggU => k_is)
    (case zz_caU => k_is)
    (case zz_eU => k_exc)
    (case zz_gN => k_is)
    (case zz_oN => k_is)
    (case zz_kpN => k_is)
    (case zz_tyN => k_is)
    (case zz_saN => k_is)
    (case zz_gaN => k_is)
    (case zz_ggN => k_is)
    (case zz_caN => k_is)
    (case zz_gB => k_is)
    (case zz_oB => k_is)
    (case zz_kpB => k_is)
    (case zz_tyB => k_is)
    (case zz_saB => k_is)
    (case zz_gaB => k_is)
    (case zz_ggB => k_is)
    (case zz_caB => k_is)
    (case zz_eB => k_exc)
    (case zz_b_isinstance => k_is)
    (case zz_b_str => k_is)
    (case zz_b_enumerate => k_is)
    (case zz_b_len => k_is)
    (case zz_b_tuple => k_is)
    (case zz_b_all => k_is)
    (case zz_b_int => k_is)
    (case zz_b_bool => k_is)
    (case zz_b_list => k_is)
    (case zz_b_zip => k_is)
    (case zz_b_range => k_is)
    (case zz_b_sorted => k_is)
    (case zz_b_set => k_is)
    (case zz_b_abs => k_is)
