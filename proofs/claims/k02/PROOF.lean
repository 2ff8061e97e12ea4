import PyProof.Rows.All
import Wide.All
import OpenK.AllK
import Wide.FinOn
import HandS.ForMost
import HandS.Wide
import HandS.Codes
import HandS.ForExc
import HandS.ExcInit
import HandS.ExcValue
import HandS.ExcIs
import HandS.IsInst
import HandS.SetFor
import KE.KExcIs
import PyProof.ReprReads
import PyProof.Rows.CountFlat
import PyProof.ReprRoads
import KE.GoesEnum
import KE.GoesZip
import KE.GoesMore
import HandS.SlotsOwn
import HandS.Property
import HandS.ClsMeth
import KE.KCallOwn
import HandS.Replace
import HandS.ReplaceDef
import HandS.ReplaceLit
import HandS.WordsExc
import HandS.ReplaceList
import HandS.Lambda
import HandS.EndTab
import PyProof.StrOps2
import PyProof.WalkInts
import PyProof.FString5
import HandS.Star
import KE.KTupSum
import PyProof.Rows.StrCountLaw
import HandS.Base
import HandS.Call
import PyProof.ToksMono
import HandS.List
import HandS.RaiseMore
import HandS.StrMore
import KE.KNestM
import PySem.Challenge.RW_fallenbits_k02_patterns_read
set_option Elab.async false
set_option linter.all false
set_option maxRecDepth 100000
set_option maxHeartbeats 4000000
namespace Fb
open PySem PySem.Spec PyProof.Rows L2
/-! the pen -/
def penK (l : Addr) (a r f : Int) : List (Key × V) := [(.inr "cells", .ref l), (.inr "at", .int a), (.inr "rest", .int r), (.inr "fold", .int f)]
theorem ne1 : ¬ (("cells" : Str) = "rest") := by decide +kernel
theorem ne2 : ¬ (("at" : Str) = "rest") := by decide +kernel
theorem ne3 : ¬ (("cells" : Str) = "at") := by decide +kernel
theorem ne4 : ¬ (("cells" : Str) = "fold") := by decide +kernel
theorem ne5 : ¬ (("at" : Str) = "fold") := by decide +kernel
theorem ne6 : ¬ (("rest" : Str) = "fold") := by decide +kernel
theorem ne7 : ¬ (("rest" : Str) = "at") := by decide +kernel
theorem ne8 : ¬ (("fold" : Str) = "at") := by decide +kernel
theorem ne9 : ¬ (("fold" : Str) = "rest") := by decide +kernel
theorem inr_ne {a b : Str} (h : ¬ a = b) : ¬ ((Sum.inr a : Key) = Sum.inr b) := fun e => h (Sum.inr.inj e)
section
variable {H : Hp} {p l : Addr} {a r f x : Int}
theorem penK_cells : valV (penK l a r f) (.inr "cells") = some (.ref l) := by
  unfold penK; exact valV_pos rfl
theorem penK_at : valV (penK l a r f) (.inr "at") = some (.int a) := by
  unfold penK; rw [valV_neg (inr_ne ne3)]; exact valV_pos rfl
theorem penK_rest : valV (penK l a r f) (.inr "rest") = some (.int r) := by
  unfold penK; rw [valV_neg (inr_ne ne1), valV_neg (inr_ne ne2)]; exact valV_pos rfl
theorem penK_fold : valV (penK l a r f) (.inr "fold") = some (.int f) := by
  unfold penK; rw [valV_neg (inr_ne ne4), valV_neg (inr_ne ne5), valV_neg (inr_ne ne6)]; exact valV_pos rfl
theorem penK_put_at : putK (penK l a r f) (.inr "at") (.int x) = penK l x r f := by
  unfold putK
  rw [valV_any, penK_at, Option.isSome_some, if_pos rfl]
  unfold penK
  simp only [List.map_cons, List.map_nil, if_neg (inr_ne ne3), if_neg (inr_ne ne7), if_neg (inr_ne ne8), if_true]
theorem penK_put_rest : putK (penK l a r f) (.inr "rest") (.int x) = penK l a x f := by
  unfold putK
  rw [valV_any, penK_rest, Option.isSome_some, if_pos rfl]
  unfold penK
  simp only [List.map_cons, List.map_nil, if_neg (inr_ne ne1), if_neg (inr_ne ne2), if_neg (inr_ne ne9), if_true]
theorem g_cells (e : H p = some (.dK (penK l a r f))) : DGet H p (.str "cells") (some (.ref l)) := by
  have h := DGet.k (k := .inr "cells") e
  rw [penK_cells] at h; exact h
theorem g_at (e : H p = some (.dK (penK l a r f))) : DGet H p (.str "at") (some (.int a)) := by
  have h := DGet.k (k := .inr "at") e
  rw [penK_at] at h; exact h
theorem g_rest (e : H p = some (.dK (penK l a r f))) : DGet H p (.str "rest") (some (.int r)) := by
  have h := DGet.k (k := .inr "rest") e
  rw [penK_rest] at h; exact h
theorem g_fold (e : H p = some (.dK (penK l a r f))) : DGet H p (.str "fold") (some (.int f)) := by
  have h := DGet.k (k := .inr "fold") e
  rw [penK_fold] at h; exact h
theorem pen_sz : (penK l a r f).length < sizeLine := by
  show 4 < sizeLine
  rw [sizeLine_eq]; decide
theorem p_at (e : H p = some (.dK (penK l a r f))) : DPut H p (.str "at") (.int x) (upd H p (.dK (penK l x r f))) := by
  have h := DPut.k (k := .inr "at") (v := .int x) e pen_sz
  rw [penK_put_at] at h; exact h
theorem p_rest (e : H p = some (.dK (penK l a r f))) : DPut H p (.str "rest") (.int x) (upd H p (.dK (penK l a x f))) := by
  have h := DPut.k (k := .inr "rest") (v := .int x) e pen_sz
  rw [penK_put_rest] at h; exact h
end
/-- a pen at p, its cells at l, that has been asked at most n times -/
def PenL (H : Hp) (p l : Addr) (n : Nat) : Prop := ∃ (cs : List Int) (a r f : Int), H p = some (.dK (penK l a r f)) ∧ H l = some (.lst (cs.map V.int)) ∧ 0 ≤ a ∧ a ≤ n ∧ 0 ≤ r ∧ 0 ≤ f ∧ f < 2147483629
theorem PenL.mono {H : Hp} {p l : Addr} {n m : Nat} (h : PenL H p l n) (le : n ≤ m) : PenL H p l m := by
  obtain ⟨cs, a, r, f, h1, h2, h3, h4, h5⟩ := h
  exact ⟨cs, a, r, f, h1, h2, h3, by omega, h5⟩
theorem PenL.same {H H' : Hp} {p l : Addr} {n : Nat} (h : PenL H p l n) (s : Same H H') : PenL H' p l n := by
  obtain ⟨cs, a, r, f, h1, h2, h3⟩ := h
  exact ⟨cs, a, r, f, s _ _ h1, s _ _ h2, h3⟩
def spTake : Sp := fun vs H Q _ => ∃ (p l : Addr) (m : Int) (n : Nat), vs = [.ref p, .int m] ∧ 0 < m ∧ m < 1073741824 ∧ n < 1000000 ∧ PenL H p l n ∧
  ∀ (d : Int) (H' : Hp), 0 ≤ d → d < m → PenL H' p l (n + 1) → (∀ c, c ≠ p → H' c = H c) → Q (.int d) H'
structure TxP (mg : Str → Option Value) : Prop where
  n_int : mg "int" = none
  n_len : mg "len" = none
  n_abs : mg "abs" = none
  n_list : mg "list" = none
section
variable {P : Program} {w : World} {K : PySem.W.Frag} {mg : Str → Option Value} {base : Heap}
/-! the pen's making -/
theorem cut_map (ns : List Int) (lo hi : Option Int) : ∃ ms : List Int, cutV (ns.map V.int) lo hi = ms.map V.int ∧ ms.length ≤ ns.length := by
  unfold cutV
  refine ⟨(ns.drop (HT.sIx (ns.map V.int).length 0 lo)).take (HT.sIx (ns.map V.int).length (ns.map V.int).length hi - HT.sIx (ns.map V.int).length 0 lo), ?_, ?_⟩
  · rw [List.map_take, List.map_drop]
  · rw [List.length_take, List.length_drop]; omega
theorem putK_newS {kvs : List (Key × V)} {x : Str} {v : V} (h : valV kvs (.inr x) = none) : putK kvs (.inr x) v = kvs ++ [(.inr x, v)] := putK_new v h
theorem merge_pen {l : Addr} {a r f : Int} : mergeK [] [(.inr "cells", .ref l), (.inr "at", .int a), (.inr "rest", .int r), (.inr "fold", .int f)] = penK l a r f := by
  unfold mergeK
  simp only [List.foldl_cons, List.foldl_nil]
  rw [putK_newS (x := "cells") valV_nil]
  rw [putK_newS (x := "at") (by rw [List.nil_append, valV_neg (inr_ne ne3)]; exact valV_nil)]
  rw [putK_newS (x := "rest") (by simp only [List.nil_append, List.cons_append]; rw [valV_neg (inr_ne ne1), valV_neg (inr_ne ne2)]; exact valV_nil)]
  rw [putK_newS (x := "fold") (by simp only [List.nil_append, List.cons_append]; rw [valV_neg (inr_ne ne4), valV_neg (inr_ne ne5), valV_neg (inr_ne ne6)]; exact valV_nil)]
  rfl
def spPen (K : PySem.W.Frag) : Sp := fun vs H Q _ => ∃ (a : Addr) (ns : List Int), vs = [.ref a] ∧ SqL K H a (ns.map V.int) ∧ ns.length ≤ 63 ∧
  ∀ (p l : Addr) (H' : Hp), H p = none → H l = none → Same H H' → PenL H' p l 0 → Q (.ref p) H'
theorem smN {H H' : Hp} {p : Addr} {o : HO} (s : Same H H') (h : H' p = none) : Same H (upd H' p o) := fun b u e => by
  rw [upd_ne (ne_of_none (s b u e) h)]
  exact s b u e
end
end Fb
set_option maxRecDepth 100000
set_option maxHeartbeats 4000000
namespace Fb
open PySem PySem.Spec PyProof.Rows L2
def top (i : Nat) : Stmt := PySem.Challenge.pw_fallenbits_k02_patterns_read.main.body.getD i (.Pass ⟨0, 0, 0, 0⟩)
abbrev s_Ltake : Stmt := top 27
theorem sc_Ltake : FnScope ["_law_pen_here", "_law_many", "_law_digit", "_law_at", "_law_cell", "_law_great", "_law_mixed"] ["_law_pen_here", "_law_many"] (defScope s_Ltake) := ⟨rfl, rfl, rfl, by decide +kernel, rfl, by decide +kernel, by decide +kernel⟩
abbrev s_Lpen : Stmt := top 26
theorem sc_Lpen : FnScope ["_law_script", "_law_fold", "_law_cell"] ["_law_script"] (defScope s_Lpen) := ⟨rfl, rfl, rfl, by decide +kernel, rfl, by decide +kernel, by decide +kernel⟩
section
variable {P : Program} {w : World} {K : PySem.W.Frag} {mg : Str → Option Value} {base : Heap}
theorem ok_take {f : Addr} {fd : FuncData} (F : Fun K "_law_take" "_law_take" s_Ltake f fd) (T : TxP mg) : FnOk P w K mg base CX0 2 f fd ["_law_pen_here", "_law_many"] spTake := by
  refine F.ok sc_Ltake (fun vs H Q E h => ?_) (fun cdv A outer s H vs Q E hr h => ?_)
  · obtain ⟨p, l, m, n, rfl, _⟩ := h
    rfl
  · obtain ⟨p, l, m, n, rfl, hm0, hm1, hn, ⟨cs, a, r, f, hp, hl, ha0, ha1, hr0, hf0, hf1⟩, k⟩ := h
    have hu := hu_of hr
    have npl : l ≠ p := ne_of hl hp (by intro z; cases z)
    refine ⟨_, (pss_cons (ps_if (pt_cmpR op_gt (pe_dget hu (pv 0) pe_str (fun _ _ => rfl)) pe_int (nomark _))
    (pss_cons (ps_set (i := 2) sc_Ltake.nd rfl (Or.inl rfl) (pe_op op_mod (pe_callTy call_int1 (by rfl) T.n_int (by decide +kernel) (pa_cons (pe_dget hu (pv 0) pe_str (fun _ _ => rfl)) pa_nil)) (pv 1)))
    (pss_cons (ps_dput hu (pv 0) pe_str (pe_op op_fdiv (pe_callTy call_int1 (by rfl) T.n_int (by decide +kernel) (pa_cons (pe_dget hu (pv 0) pe_str (fun _ _ => rfl)) pa_nil)) (pv 1)) rfl)
    (pss_one (ps_ret (pv 2)))))
    pss_nil)
  (pss_cons (ps_set (i := 3) sc_Ltake.nd rfl (Or.inl rfl) (pe_dget hu (pv 0) pe_str (fun _ _ => rfl)))
  (pss_cons (ps_dput hu (pv 0) pe_str (pe_op op_add (pv 3) pe_int) rfl)
  (pss_cons (ps_set (i := 4) sc_Ltake.nd rfl (Or.inl rfl) pe_int)
  (C8.pss_cut (ps_if (pt_cmpR op_lt (pv 3) (pe_callB call_len_seq (by rfl) T.n_len (by decide +kernel) (pa_cons (pe_dget hu (pv 0) pe_str (fun _ _ => rfl)) pa_nil)) (nomark _))
    (pss_one (ps_set (i := 4) sc_Ltake.nd rfl (Or.inl rfl) (pe_ix ix_list (pe_dget hu (pv 0) pe_str (fun _ _ => rfl)) (pv 3) (fun _ _ => rfl))))
    pss_nil)
  (pss_cons (ps_if (pt_cmpR op_ge (pe_callB call_abs (by rfl) T.n_abs (by decide +kernel) (pa_cons (pv 4) pa_nil)) (pe_op op_pow pe_int pe_int) (nomark _))
    (pss_cons (ps_set (i := 5) sc_Ltake.nd rfl (Or.inl rfl) (pe_op op_add (pe_op op_mul pe_int (pe_callB call_abs (by rfl) T.n_abs (by decide +kernel) (pa_cons (pv 4) pa_nil))) (pe_callTy call_int1 (by rfl) T.n_int (by decide +kernel) (pa_cons (pe_cmpR op_lt (pv 4) pe_int (nomark _)) pa_nil))))
    (pss_cons (ps_dput hu (pv 0) pe_str (pe_op op_fdiv (pe_callTy call_int1 (by rfl) T.n_int (by decide +kernel) (pa_cons (pv 5) pa_nil)) (pv 1)) rfl)
    (pss_one (ps_ret (pe_op op_mod (pe_callTy call_int1 (by rfl) T.n_int (by decide +kernel) (pa_cons (pv 5) pa_nil)) (pv 1))))))
    pss_nil)
  (pss_cons (ps_set (i := 6) sc_Ltake.nd rfl (Or.inl rfl) (pe_op op_mod (pe_callTy call_int1 (by rfl) T.n_int (by decide +kernel) (pa_cons (pe_op op_pow (pe_op op_add (pe_op op_add (pe_op op_mod (pe_callTy call_int1 (by rfl) T.n_int (by decide +kernel) (pa_cons (pv 4) pa_nil)) pe_int) (pe_callTy call_int1 (by rfl) T.n_int (by decide +kernel) (pa_cons (pe_dget hu (pv 0) pe_str (fun _ _ => rfl)) pa_nil))) (pe_op op_mul pe_int (pv 3))) pe_int) pa_nil)) pe_int))
  (pss_cons (ps_set (i := 6) sc_Ltake.nd rfl (Or.inl rfl) (pe_op op_mod (pe_callTy call_int1 (by rfl) T.n_int (by decide +kernel) (pa_cons (pe_op op_pow (pe_op op_add (pe_op op_add (pv 6) (pe_op op_mul (pe_op op_mul pe_int (pv 3)) (pv 3))) (pe_op op_fdiv (pe_callTy call_int1 (by rfl) T.n_int (by decide +kernel) (pa_cons (pe_dget hu (pv 0) pe_str (fun _ _ => rfl)) pa_nil)) pe_int)) pe_int) pa_nil)) pe_int))
  (pss_one (ps_ret (pe_op op_mod (pe_callTy call_int1 (by rfl) T.n_int (by decide +kernel) (pa_cons (pe_op op_fdiv (pv 6) pe_int) pa_nil)) (pv 1)))))))))))), ?_⟩
    -- if pen['rest'] > 0
    refine ⟨_, rfl, p, _, rfl, g_rest hp, _, _, rfl, rfl, _, rfl, ?_⟩
    refine ite2 (fun h1 => ?_) (fun h1 => ?_)
    · -- the rest
      refine ⟨_, rfl, p, _, rfl, g_rest hp, .inl ⟨_, rfl, ?_⟩⟩
      refine ⟨_, rfl, _, _, rfl, rfl, hm0, ?_⟩
      refine ⟨_, rfl, p, _, rfl, g_rest hp, .inl ⟨_, rfl, ?_⟩⟩
      refine ⟨_, rfl, _, _, rfl, rfl, ⟨hm0, hm1⟩, ?_⟩
      refine ⟨_, rfl, p, _, rfl, p_rest hp, ?_⟩
      refine ⟨_, rfl, ?_⟩
      refine k _ _ (Int.emod_nonneg _ (by omega)) (Int.emod_lt_of_pos _ hm0) ⟨cs, a, r / m, f, upd_same, by rw [upd_ne npl]; exact hl, ha0, by omega, Int.ediv_nonneg hr0 (by omega), hf0, hf1⟩ (fun c hc => upd_ne hc)
    · -- at = pen['at']; pen['at'] = at + 1; cell = 0
      refine ⟨_, rfl, p, _, rfl, g_at hp, ?_⟩
      refine ⟨_, rfl, _, _, rfl, rfl, _, rfl, p, _, rfl, p_at hp, ?_⟩
      have hp' : ∀ {x : Int}, (upd H p (.dK (penK l x r f))) p = some (.dK (penK l x r f)) := upd_same
      have hl' : ∀ {x : Int}, (upd H p (.dK (penK l x r f))) l = some (.lst (cs.map V.int)) := by intro x; rw [upd_ne npl]; exact hl
      refine ⟨fun σ H' => H' = upd H p (.dK (penK l (a + 1) r f)) ∧ ∃ c : Int, σ = [some (.ref p), some (.int m), none, some (.int a), some (.int c), none, none], ?_, ?_⟩
      · -- if at < len(pen['cells'])
        refine ⟨_, rfl, _, rfl, p, _, rfl, g_cells hp', l, _, rfl, .inl (SqL.of hl'), _, _, rfl, rfl, _, rfl, ?_⟩
        refine ite2 (fun h2 => ?_) (fun h2 => ?_)
        · rw [List.length_map] at h2
          have h3 : a < (cs.length : Int) := by simpa using h2
          obtain ⟨j, rfl⟩ : ∃ j : Nat, a = (j : Int) := ⟨a.toNat, by omega⟩
          refine ⟨_, rfl, p, _, rfl, g_cells hp', _, rfl, l, _, _, _, rfl, rfl, SqL.of hl', atI_nat (j := j) (v := V.int (cs[j]'(by omega))) (by rw [List.getElem?_map, List.getElem?_eq_getElem (show j < cs.length by omega)]; rfl), ?_⟩
          exact ⟨rfl, _, rfl⟩
        · exact ⟨rfl, 0, rfl⟩
      · rintro σ _ ⟨rfl, c, rfl⟩
        -- if abs(cell) >= 10 ** 18
        refine ⟨_, rfl, _, rfl, _, _, rfl, rfl, ⟨by decide, by decide, by decide⟩, _, _, rfl, rfl, _, rfl, ?_⟩
        refine ite2 (fun h2 => ?_) (fun h2 => ?_)
        · -- great
          have hg : 0 ≤ 2 * (if c < 0 then -c else c) + (if decide (c < 0) = true then (1 : Int) else 0) := by
            split <;> split <;> omega
          refine ⟨_, rfl, _, rfl, _, _, rfl, rfl, .inl ⟨by decide, by decide⟩, ?_⟩
          refine ⟨_, rfl, _, _, rfl, rfl, .inr ⟨_, rfl, ?_⟩⟩
          refine ⟨_, _, rfl, rfl, ?_⟩
          refine ⟨_, rfl, .inl ⟨_, rfl, ?_⟩⟩
          refine ⟨_, rfl, _, _, rfl, rfl, ⟨hm0, hm1⟩, _, rfl, p, _, rfl, p_rest hp', ?_⟩
          refine ⟨_, rfl, .inl ⟨_, rfl, ?_⟩⟩
          refine ⟨_, rfl, _, _, rfl, rfl, hm0, ?_⟩
          refine k _ _ (Int.emod_nonneg _ (by omega)) (Int.emod_lt_of_pos _ hm0) ⟨cs, a + 1, _, f, upd_same, by rw [upd_ne npl]; exact hl', by omega, by omega, Int.ediv_nonneg hg (by omega), hf0, hf1⟩ (fun c hc => by rw [upd_ne hc, upd_ne hc])
        · -- mixed
          refine ⟨_, rfl, .inl ⟨_, rfl, ?_⟩⟩
          refine ⟨_, _, rfl, rfl, (show (0 : Int) < 2147483563 by decide), ?_⟩
          refine ⟨_, rfl, p, _, rfl, g_fold hp', .inl ⟨_, rfl, ?_⟩⟩
          refine ⟨_, _, rfl, rfl, ?_⟩
          refine ⟨_, rfl, _, _, rfl, rfl, .inl ⟨by decide, by decide⟩, ?_⟩
          refine ⟨_, _, rfl, rfl, ?_⟩
          have e1 := Int.emod_nonneg c (show (2147483563 : Int) ≠ 0 by decide)
          have e2 := Int.emod_lt_of_pos c (show (0 : Int) < 2147483563 by decide)
          refine ⟨_, _, rfl, rfl, ⟨by decide, by decide, ?_⟩, ?_⟩
          · have : (c % 2147483563 + f + 70001 * a) < 2 ^ 63 := by omega
            omega
          refine .inl ⟨_, rfl, ?_⟩
          refine ⟨_, _, rfl, rfl, (show (0 : Int) < 2147483647 by decide), ?_⟩
          generalize hx : (c % 2147483563 + f + 70001 * a) ^ (3 : Int).toNat % 2147483647 = x
          have e3 : 0 ≤ x := by rw [← hx]; exact Int.emod_nonneg _ (by decide)
          have e4 : x < 2147483647 := by rw [← hx]; exact Int.emod_lt_of_pos _ (by decide)
          refine ⟨_, rfl, ?_⟩
          refine ⟨_, rfl, _, _, rfl, rfl, .inl ⟨by decide, by decide⟩, ?_⟩
          refine ⟨_, rfl, _, _, rfl, rfl, .inr ⟨by omega, by omega⟩, ?_⟩
          refine ⟨_, _, rfl, rfl, ?_⟩
          refine ⟨_, rfl, p, _, rfl, g_fold hp', .inl ⟨_, rfl, ?_⟩⟩
          refine ⟨_, _, rfl, rfl, ⟨by decide, by decide⟩, ?_⟩
          refine ⟨_, _, rfl, rfl, ?_⟩
          have e5 : 0 ≤ 30011 * a * a := Int.mul_nonneg (by omega) ha0
          have e6 : 30011 * a * a ≤ 30011 * 1000000 * 1000000 := Int.mul_le_mul (by omega) (by omega) ha0 (by decide)
          refine ⟨_, _, rfl, rfl, ⟨by decide, by decide, ?_⟩, ?_⟩
          · generalize 30011 * a * a = z at *
            omega
          refine .inl ⟨_, rfl, ?_⟩
          refine ⟨_, _, rfl, rfl, (show (0 : Int) < 2147483587 by decide), ?_⟩
          refine ⟨_, rfl, _, _, rfl, rfl, ⟨by decide, by decide⟩, .inl ⟨_, rfl, ?_⟩⟩
          refine ⟨_, rfl, _, _, rfl, rfl, hm0, ?_⟩
          refine k _ _ (Int.emod_nonneg _ (by omega)) (Int.emod_lt_of_pos _ hm0) ⟨cs, a + 1, r, f, upd_same, hl', by omega, by omega, hr0, hf0, hf1⟩ (fun c hc => upd_ne hc)

theorem ok_pen {f : Addr} {fd : FuncData} (F : Fun K "_law_pen" "_law_pen" s_Lpen f fd) (T : TxP mg) : FnOk P w K mg base CX0 2 f fd ["_law_script"] (spPen K) := by
  refine F.ok sc_Lpen (fun vs H Q E h => ?_) (fun cdv A outer s H vs Q E hr h => ?_)
  · obtain ⟨a, ns, rfl, _⟩ := h
    rfl
  · obtain ⟨a, ns, rfl, hS, hl, k⟩ := h
    refine ⟨_, (pss_cons (ps_set (i := 1) sc_Lpen.nd rfl (Or.inl rfl) pe_int)
  (pss_cons (ps_for PassesOwn.never rfl (pi_list (pe_slice sl_list (pv 0) po_none (po_some pe_int))) (pg_name (i := 2) sc_Lpen.nd rfl (Or.inl rfl))
    (pss_one (ps_set (i := 1) sc_Lpen.nd rfl (Or.inl rfl) (pe_op op_mod (pe_callTy call_int1 (by rfl) T.n_int (by decide +kernel) (pa_cons (pe_op op_add (pe_op op_add (pe_op op_mul (pv 1) pe_int) (pe_op op_mod (pe_callTy call_int1 (by rfl) T.n_int (by decide +kernel) (pa_cons (pv 2) pa_nil)) pe_int)) pe_int) pa_nil)) pe_int))))
  (pss_one (ps_ret (pe_disp (pps_cons pe_str (pe_callTy call_list_of (by rfl) T.n_list (by decide +kernel) (pa_cons (pe_slice sl_list (pv 0) po_none (po_some pe_int)) pa_nil)) (pps_cons pe_str pe_int (pps_cons pe_str pe_int (pps_cons pe_str (pv 1) pps_nil)))) rfl rfl (by decide) (by decide)))))), ?_⟩
    obtain ⟨ms, hms, hml⟩ := cut_map ns none (some 63)
    refine ⟨_, rfl, ?_⟩
    refine ⟨_, rfl, a, _, rfl, hS, fun q hq => ?_⟩
    rw [hms]
    have s1 : Same H (upd H q (.lst (ms.map V.int))) := smN (Same.refl H) hq
    refine ⟨q, rfl, ⟨_, SqL.of upd_same⟩, for_list (K := K) (a := q) (xs := ms.map V.int) (fun i σ H' => H' = upd H q (.lst (ms.map V.int)) ∧ ∃ (f : Int) (v : Option V), 0 ≤ f ∧ f < 2147483629 ∧ σ = [some (.ref a), some (.int f), v])
      ⟨rfl, 97, none, by decide, by decide, rfl⟩ (fun i σ H' _ ⟨e, _⟩ => by rw [e]; exact SqL.of upd_same) ?_ ?_⟩
    · rintro i y σ _ hi ⟨rfl, f, v, hf0, hf1, rfl⟩
      obtain ⟨z, hz, rfl⟩ : ∃ z, ms[i]? = some z ∧ V.int z = y := by
        rw [List.getElem?_map] at hi
        cases e : ms[i]? with
        | none => rw [e] at hi; cases hi
        | some z => rw [e] at hi; exact ⟨z, rfl, Option.some.inj hi⟩
      refine ⟨_, rfl, _, _, rfl, rfl, .inr ⟨by decide, by decide⟩, ?_⟩
      refine ⟨_, rfl, .inl ⟨_, rfl, ?_⟩⟩
      refine ⟨_, _, rfl, rfl, (show (0 : Int) < 2147483629 by decide), ?_⟩
      refine ⟨_, _, rfl, rfl, ?_⟩
      refine ⟨_, _, rfl, rfl, ?_⟩
      refine .inl ⟨_, rfl, ?_⟩
      refine ⟨_, _, rfl, rfl, (show (0 : Int) < 2147483629 by decide), ?_⟩
      exact ⟨rfl, _, _, Int.emod_nonneg _ (by decide), Int.emod_lt_of_pos _ (by decide), rfl⟩
    · rintro σ _ ⟨rfl, f, v, hf0, hf1, rfl⟩
      intro p hp
      have s2 : Same H (upd (upd H q (.lst (ms.map V.int))) p (.dK [])) := smN s1 hp
      refine ⟨_, rfl, ?_⟩
      refine ⟨_, rfl, a, _, rfl, s2.seq hS, fun q2 hq2 => ?_⟩
      rw [hms]
      refine ⟨q2, _, rfl, .inl (SqL.of upd_same), fun l hl => ?_⟩
      refine ⟨_, rfl, ?_⟩
      have nl : l ≠ p := by
        intro e; subst e
        have h : (upd (upd H q (.lst (ms.map V.int))) l (.dK [])) l = some (.dK []) := upd_same
        have h2 := smN (o := .lst (ms.map V.int)) (Same.refl _) hq2 _ _ h
        rw [h2] at hl; cases hl
      have np2 : p ≠ q2 := by
        intro e; subst e; rw [upd_same] at hq2; cases hq2
      refine ⟨by rw [upd_ne nl.symm, upd_ne np2]; exact upd_same, [(.inr "cells", .ref l), (.inr "at", .int 0), (.inr "rest", .int 0), (.inr "fold", .int f)], rfl, (by show 4 ≤ 15; decide), ?_⟩
      rw [merge_pen]
      refine k p l _ (Same.free s1 hp) ((smN s2 hq2).free hl) ?_ ⟨ms, 0, 0, f, upd_same, by rw [upd_ne nl]; exact upd_same, by decide, by decide, by decide, hf0, hf1⟩
      intro b o e
      have e2 := s2 b o e
      rw [upd_ne (ne_of_none (s1 b o e) hp)]
      rw [upd_ne (ne_of_none (smN (Same.refl _) hq2 b o e2) hl), upd_ne (ne_of_none e2 hq2)]
      exact e2
end
end Fb
set_option maxRecDepth 100000
set_option maxHeartbeats 4000000
namespace Fb
open PySem PySem.Spec PyProof.Rows L2
/-! own exceptions as values -/
/-- C(e, ..), C's own __init__ keeping sp: a new exception, held -/
def tExI (C : Addr) (sp : Sp) (dvs : List V) (ta : TA) : TE := fun σ H Q => ta σ H fun vs H1 => vs.length ≤ 1000 ∧ ∀ a, H1 a = none → sp (.ref a :: (vs ++ dvs)) (upd H1 a (exo a C none)) (fun v H2 => v = .non ∧ Q (.ref a) H2) (fun _ _ _ => False)
section
variable {X : Cx} {e : Expr} {es : List Expr} {ta : TA} {p pos : Pos}
theorem pe_exI {CX : CXT} {x : Str} {C fI : Addr} {k : Nat} {fd : FuncData} {ps : List Str} {sp : Sp} {ds : List Value} {dvs : List V} (T : OexC X.K C) (own : PySem.W.findIn X.K (.ref C) "__init__" = some (some (.ref fI))) (isf : PySem.W.typeIn X.K (.ref fI) = some (.type "function"))
    (G : FnOk X.prog X.w X.K X.mg X.base CX k fI fd ps sp) (room : Room (k + 1) X.A) (bnd : Binds X.K fd ps ds) (dfl : Vals dvs ds) (out : Passes CX X (fun _ _ _ => False)) (gl : Gl X x) (at_ : X.mg x = some (.ref C)) (ha : PA X (e :: es) ta)
    (h1 : (x == ("__debug__" : Str)) = false := by decide) (h2 : starEach (e :: es) X.env = (false, eval e X.env) :: starEach es X.env := by rfl) (h3 : (backTo pos (starEach es X.env)).any (·.1) = false := by rfl) :
    PE X (.Call (.Name x p) (e :: es) [] pos) (tExI C sp dvs ta) := by
  constructor
  intro pins s σ H Q I asked
  obtain ⟨_, _, _, _, bm, _, _, _, _, _, _, _, _, _, _, cls, refs⟩ := T.cls
  apply wpAny_Call_Name_kw
  refine ld_glob I gl at_ ?_ h1
  apply PySem.W.callWith_K (h₀ := X.base) I.ok.mod.kin T.kC ?_ h2 h3
  apply thn (ha.run pos pins s σ H _ I asked)
  rintro us ⟨hp, g, dr, tk, os⟩ ⟨vs, H1, I1, rel, few, next⟩
  refine ⟨I1.kIn, ?_⟩
  show wpAny _ _ (call (.ref C) us) _ _ _
  have above : hp.objs.size ≤ hp.objs.size + 1 := Nat.le_succ _
  have q := next (hp.objs.size + 1) (I1.hok.fresh above)
  have made : ((hp.push (PySem.W.kdv_tup us)).push (PySem.HandSPX.excO C hp.objs.size)).get? (hp.objs.size + 1) = some (PySem.HandSPX.excO C hp.objs.size) := by heap_get
  have I2 := I1.laid (t' := tk) (fun b o z => Heap.get?_push_of_some _ (Heap.get?_push_of_some (PySem.W.kdv_tup us) z)) above (exo_ok (H := upd H1 (hp.objs.size + 1) (exo (hp.objs.size + 1) C none)) (P := X.prog) (w := X.w) made)
  have rel2 : Vals (V.ref (hp.objs.size + 1) :: (vs ++ dvs)) (Value.ref (hp.objs.size + 1) :: (us ++ ds)) := .cons rfl (rel.append dfl)
  have len : (Value.ref (hp.objs.size + 1) :: us ++ ds).length = ps.length := rel2.length.symm.trans (G.len _ _ _ _ q)
  have small : us.length ≤ sizeLine := by
    rw [sizeLine_eq, ← Paired.length rel]
    omega
  apply wpAny_call
  refine PySem.HandSPX.call_own PySem.F.excBase_ValueError (fun Y => PySem.HandSPX.refsVE_contains Y bm refs) (I1.kIn _ _ cls) (PySem.W.looks_findIn I1.kIn own) (fun self => PySem.W.bind_fn I1.kIn self isf) small ?_
  refine codeAny_mono (G.run _ X.stack _ _ ⟨Value.ref (hp.objs.size + 1) :: us, []⟩ _ _ _ (fun _ _ _ => False) (room.make C us []) (I2.env0.make C us []) (bnd _ (Value.ref (hp.objs.size + 1) :: us) I2.kIn len) rel2 q) ?_
  intro r s' z
  cases r with
  | error er => exact out pins σ _ _ er s' I2 z
  | ok fl =>
    cases fl with
    | brk => exact (show False from z).elim
    | cont => exact (show False from z).elim
    | next => exact (show False from z).elim
    | ret u =>
      obtain ⟨v, H', I3, rv, rfl, q3⟩ := I2.after z
      exact ⟨rv, V.ref (hp.objs.size + 1), H', I3, rfl, q3⟩
end
/-- at a an exception of the class at C stands, with its own dict or without -/
def ExAt (H : Hp) (a C : Addr) : Prop := H a = some (ExO (.ref C) a) ∨ ∃ (d : Addr) (fs : List (Str × V)), H a = some (exo a C (some d)) ∧ H d = some (exd d fs)
/-- .. with a field -/
def ExFld (H : Hp) (a C : Addr) (fs : List (Str × V)) : Prop := ∃ d : Addr, H a = some (exo a C (some d)) ∧ H d = some (exd d fs)
theorem ExFld.at {H : Hp} {a C : Addr} {fs : List (Str × V)} (h : ExFld H a C fs) : ExAt H a C := by
  obtain ⟨d, h1, h2⟩ := h
  exact .inr ⟨d, fs, h1, h2⟩
theorem ExFld.same {H H' : Hp} {a C : Addr} {fs : List (Str × V)} (h : ExFld H a C fs) (s : Same H H') : ExFld H' a C fs := by
  obtain ⟨d, h1, h2⟩ := h
  exact ⟨d, s _ _ h1, s _ _ h2⟩
theorem ExAt.same {H H' : Hp} {a C : Addr} (h : ExAt H a C) (s : Same H H') : ExAt H' a C := by
  rcases h with h | ⟨d, fs, h1, h2⟩
  · exact .inl (s _ _ h)
  · exact .inr ⟨d, fs, s _ _ h1, s _ _ h2⟩
/-- what the written part says of an exception class, for isinstance and fields -/
structure XC (K : PySem.W.Frag) (C : Addr) : Prop where
  cl : (PySem.W.clsIn K C).isSome = true
  ga : PySem.W.findIn K (.ref C) "__getattribute__" = some (some (.builtin "BaseException.__getattribute__"))
  gg : PySem.W.findIn K (.ref C) "__getattr__" = some none
  sb : PySem.W.subIn K (.ref C) (.type "BaseException") = some true
  ca : PySem.W.findIn K (.ref C) "__class__" = some (some (.builtin "object.__class__"))
  ob : PySem.W.mroIn K C (.type "object") = some true
  hd : PySem.W.hasDictIn K C = true
structure XB (K : PySem.W.Frag) : Prop where
  hn : PySem.W.specialIn K (.builtin "object.__class__") "__get__" = some (some (.builtin "getset_descriptor.__get__"))
  ht : PySem.W.takesIn K (.builtin "object.__class__") = some true
section
variable {X : Cx} {pins : List (Addr × Obj)} {σ : L2.St} {H : Hp} {s : Shared}
theorem ExAt.inst {a C : Addr} (I : Inv X pins σ H s) (h : ExAt H a C) : ∃ ox od, PySem.W.InstAt s.heap a ox C od := by
  rcases h with h | ⟨d, fs, h1, h2⟩
  · obtain ⟨⟨oe, vs, ho, hz, hd, _⟩, _, _⟩ := I.hok a _ h
    refine ⟨oe, none, ho, hz.1, ?_, ?_⟩
    · unfold PySem.W.notCls; rw [hd] <;> rfl
    · rw [hz.2] <;> trivial
  · obtain ⟨t1, ho⟩ := exo_at I.hok h1
    obtain ⟨mA, ⟨o, es, ep, e1, _⟩, _⟩ := exd_at I.hok h2
    exact ⟨_, some o, ho, rfl, rfl, e1⟩
def rIsX (K : PySem.W.Frag) : List V → Hp → VK → Prop := fun xs H Q => ∃ (a C : Addr) (c : V) (cv : Value) (b : Bool), xs = [.ref a, c] ∧ XC K C ∧ XB K ∧ ExAt H a C ∧ ClsV c cv ∧ PySem.W.kitOne K (.ref C) cv = some b ∧ Q (.bl b) H
theorem call_isX : CallR X (.builtin "isinstance") (rIsX X.K) := by
  intro pins s σ H xs us Q I r h
  obtain ⟨a, C, c, cv, b, rfl, T, B, hE, k, e, q⟩ := h
  obtain ⟨u1, u2, rfl, r1, r2⟩ := vals2 r
  have e2 := k.eq r2
  subst e2
  cases (show u1 = Value.ref a from r1)
  obtain ⟨ox, od, J⟩ := hE.inst I
  exact PySem.W.kia_one (PySem.W.kitx_exc T.cl T.ga T.gg T.sb T.ca B.hn B.ht T.ob) I.kIn J e (fun z => nomatch z) fun tk => ⟨.bl b, H, I.tok tk, rfl, q⟩
/-- e.f of an exception that is held -/
def tXat (K : PySem.W.Frag) (f : Str) (te : TE) : TE := fun σ H Q => te σ H fun x H1 => ∃ (a C : Addr) (fs : List (Str × V)) (v : V), x = .ref a ∧ XC K C ∧ PySem.W.findIn K (.ref C) f = some none ∧ ExFld H1 a C fs ∧ fs.lookup f = some v ∧ Q v H1
theorem pe_xat {e : Expr} {te : TE} {f : Str} {pos : Pos} (he : PE X e te) (hb : attributeBase e f X.env (eval e X.env) = eval e X.env := by rfl) : PE X (.Attribute e f pos) (tXat X.K f te) := by
  refine ⟨fun pins s σ H Q I h => ?_⟩
  refine attr_of hb (thn (he.run pins s σ H _ I h) fun u s1 hh => ?_)
  obtain ⟨x, H1, I1, rx, a, C, fs, v, ex, T, hno, ⟨d, h1, h2⟩, hl, q⟩ := hh
  subst ex
  obtain rfl : u = Value.ref a := rx
  obtain ⟨t1, ho⟩ := exo_at I1.hok h1
  obtain ⟨mA, hns, hr⟩ := exd_at I1.hok h2
  obtain ⟨od, hod, hlk⟩ := lookIn_ns hns
  obtain ⟨u, hu, ru⟩ := RelO.some_of (v := v) (o := mA f) (by rw [← hl]; exact hr f)
  have J : PySem.W.InstAt s1.heap a { cls := .ref C, dict := some d, data := .fields #[.ref t1, .none, .none, .none, .bool false, .none] } C (some od) := ⟨ho, rfl, rfl, hod⟩
  exact HandSPX.exc_get I1.kIn J T.ga T.gg T.sb (PySem.W.findObj_own T.hd hno rfl (by rw [hlk, hu])) (handed_of ru) ⟨v, H1, I1.tok _, ru, q⟩
end
end Fb
set_option maxRecDepth 100000
set_option maxHeartbeats 4000000
namespace Fb
open PySem PySem.Spec PyProof.Rows L2
/-! defs whose promise is asked only where no repr is under way -/
/-- no repr is under way -/
abbrev Q0 (A : Around) : Prop := A.guards = some []
structure FnG (P : Program) (w : World) (K : PySem.W.Frag) (mg : Str → Option Value) (base : Heap) (CX : CXT) (k : Nat) (f : Addr) (fd : FuncData) (ps : List Str) (sp : Sp) : Prop where
  many : ∀ {vs H Q E}, sp vs H Q E → vs.length = ps.length
  go : ∀ {A : Around} {outer : List Env} {s : Shared} {H : Hp} {args : Args} {us : List Value} {vs : List V} {Q : VK} {E : XK}, Q0 A → Room k A → Env0 P w K mg base A outer s H →
    BindsTo s fd args (ps.zip us) → Vals vs us → sp vs H Q E → codeAny (model P w) A (.call (.ref f) args) (CR CX outer P w H s Q E) s
section
variable {P : Program} {w : World} {K : PySem.W.Frag} {mg : Str → Option Value} {base : Heap} {CX : CXT} {k : Nat} {f : Addr} {fd : FuncData} {ps : List Str} {sp : Sp}
theorem FnG.of (F : FnOk P w K mg base CX k f fd ps sp) : FnG P w K mg base CX k f fd ps sp :=
  ⟨fun h => F.len _ _ _ _ h, fun _ hr he hb hv h => F.run _ _ _ _ _ _ _ _ _ hr he hb hv h⟩
theorem q0_deeper {A : Around} {env : Env} (h : Q0 A) : Q0 (A.deeper env) := by
  first
    | exact h
    | (obtain ⟨hd, d, fr, gs, u⟩ := A; simp_all [Around.deeper, pushGuards])
end
/-- the rule for a def, its body told where no repr is under way -/
theorem Fun.okG {P : Program} {w : World} {K : PySem.W.Frag} {mg : Str → Option Value} {base : Heap} {CX : CXT} {x qual : Str} {st : Stmt} {f : Addr} {fd : FuncData} {N ps : List Str} {k : Nat} {sp : Sp} (F : Fun K x qual st f fd) (S : FnScope N ps (defScope st))
    (len : ∀ {vs H Q E}, sp vs H Q E → vs.length = ps.length)
    (body : ∀ {cdv : Value} {A : Around} {outer : List Env} {s : Shared} {H : Hp} {vs : List V} {Q : VK} {E : XK}, Q0 (A.deeper (envOfC qual (defScope st) s.heap.objs.size f cdv)) → Room k (A.deeper (envOfC qual (defScope st) s.heap.objs.size f cdv)) → sp vs H Q E →
      ∃ t, PSs (cxOf CX P w K mg base N qual (defScope st) f cdv A outer s H E) (defBody st) t ∧ t { nx := fun _ H' => Q .non H', rt := Q } (start N vs) H) : FnG P w K mg base CX (k + 1) f fd ps sp := by
  obtain ⟨oc, od, kV, doc, pm, an, cdv, ct, osl, rfl, lk, hcd⟩ := F.ex
  refine ⟨len, ?_⟩
  intro A outer s H args us vs Q E hg room env bnd rel asked
  have stays : ∀ b o, base.get? b = some o → s.heap.get? b = some o := fun b o z => (env.bs b o z).1
  have kin : K.In s.heap := env.mod.kin.keeps stays
  have kinds : ∀ y ∈ ps.zip us, (defScope st).names.lookup y.1 = some .local ∨ ((defScope st).names.lookup y.1 = some .cell ∧ ((cellsFrom (s.heap.objs.size + 1) (defScope st).names []).lookup y.1).isSome = true) := by
    rintro ⟨n, v⟩ hy
    rcases S.par n (List.of_mem_zip hy).1 with z | z
    · exact Or.inl z
    · exact Or.inr ⟨z, PySem.W.cellsFrom_some _ _ _ (Or.inl z)⟩
  refine codeAny_call_function room.depth (kin _ _ lk) rfl S.co S.gen rfl (PySem.W.codeRec_of kin hcd) (bnd _ _ _ _ (wpAny_newFunctionEnv_cells S.kind kinds ?_))
  rintro _ rfl s1 born
  refine ⟨(env.mod.nolimit.keeps stays).keeps born.toInCall.keep, codeAny_func ?_⟩
  obtain ⟨t, ht, asked2⟩ := body (outer := outer) (s := s) (q0_deeper hg) (room.deeper _) asked
  have I := inv_start (CX := CX) (E := E) S room.hd env (len asked) rel born
  refine wpAny_mono (ht.run [] s1 _ H _ I asked2) ?_ (fun _ _ z => z)
  intro fl s' z
  cases fl with
  | brk =>
    obtain ⟨_, _, _, q⟩ := z
    exact (show False from q).elim
  | cont =>
    obtain ⟨_, _, _, q⟩ := z
    exact (show False from q).elim
  | next =>
    obtain ⟨σ', H', J, q⟩ := z
    exact ⟨.non, H', J.os, J.bare, J.base, J.hok, rfl, q⟩
  | ret u =>
    obtain ⟨v, σ', H', J, rv, q⟩ := z
    exact ⟨v, H', J.os, J.bare, J.base, J.hok, rv, q⟩
/-- .. that lets no exception out -/
theorem Fun.okG0 {P : Program} {w : World} {K : PySem.W.Frag} {mg : Str → Option Value} {base : Heap} {x qual : Str} {st : Stmt} {f : Addr} {fd : FuncData} {N ps : List Str} {k : Nat} {sp : Sp} (F : Fun K x qual st f fd) (S : FnScope N ps (defScope st))
    (len : ∀ {vs H Q E}, sp vs H Q E → vs.length = ps.length)
    (body : ∀ {cdv : Value} {A : Around} {outer : List Env} {s : Shared} {H : Hp} {vs : List V} {Q : VK} {E : XK}, Q0 (A.deeper (envOfC qual (defScope st) s.heap.objs.size f cdv)) → Room k (A.deeper (envOfC qual (defScope st) s.heap.objs.size f cdv)) → sp vs H Q E →
      ∃ t, PSs (cxOf CX0 P w K mg base N qual (defScope st) f cdv A outer s H E).nox (defBody st) t ∧ t { nx := fun _ H' => Q .non H', rt := Q } (start N vs) H) : FnG P w K mg base CX0 (k + 1) f fd ps sp :=
  Fun.okG F S len fun hg hr h => by
    obtain ⟨t, a, b⟩ := body hg hr h
    exact ⟨t, a.nox, b⟩
section
variable {X : Cx} {CX : CXT} {k : Nat} {f : Addr} {fd : FuncData} {ps : List Str} {sp : Sp} {dvs : List V} {ds : List Value} {E : XK} {x : Str} {p pos : Pos} {e : Expr} {es : List Expr} {t : TA}
/-- f(e, ..), no repr under way -/
theorem pe_callG (hq : Q0 X.A) (F : FnG X.prog X.w X.K X.mg X.base CX k f fd ps sp) (hr : Room k X.A) (hg : Gl X x) (hm : X.mg x = some (.ref f)) (hk : PySem.W.keepIn X.K (.ref f) = true) (hb : Binds X.K fd ps ds) (hd : Vals dvs ds) (hx : Passes CX X E)
    (ha : PA X (e :: es) t) (hdb : (x == ("__debug__" : Str)) = false := by decide) (he : starEach (e :: es) X.env = (false, eval e X.env) :: starEach es X.env := by rfl) (hpl : (backTo pos (starEach es X.env)).any (·.1) = false := by rfl) :
    PE X (.Call (.Name x p) (e :: es) [] pos) (tCall sp dvs E t) := by
  constructor
  intro pins s σ H Q I h
  apply wpAny_Call_Name_kw
  refine ld_glob I hg hm ?_ hdb
  apply PySem.W.callWith_K (h₀ := X.base) I.ok.mod.kin hk ?_ he hpl
  apply thn (ha.run pos pins s σ H _ I h)
  rintro us s1 ⟨vs, H1, I1, rel, asked⟩
  have rel2 : Vals (vs ++ dvs) (us ++ ds) := rel.append hd
  have hl : (us ++ ds).length = ps.length := rel2.length.symm.trans (F.many asked)
  refine ⟨I1.kIn, wpAny_call (codeAny_mono (F.go hq hr I1.env0 (hb s1 us I1.kIn hl) rel2 asked) ?_)⟩
  intro r s' z
  cases r with
  | error er => exact hx pins σ _ _ er s' I1 z
  | ok fl =>
    cases fl with
    | ret u => exact I1.after z
    | brk => exact (show False from z).elim
    | cont => exact (show False from z).elim
    | next => exact (show False from z).elim
end
/-! the law's own call -/
section
variable {P : Program} {w : World} {K : PySem.W.Frag} {mg mb : Str → Option Value} {CX : CXT} {k : Nat} {fa a : Addr} {fd : FuncData} {x : Str} {sp : Sp} {s₁ : Shared} {vs : List Value} {ns : List Int}
/-- what the law's def is asked from outside, H telling of nothing but the script -/
theorem law_core (kin : K.In s₁.heap) (hns : s₁.heap.Ns mainGlobals mg) (hb : s₁.heap.Ns builtinsNs mb) (hbb : ∀ x : Str, x ≠ "__name__" → mb x = bootBuiltins x) (hlim : s₁.heap.NoLimit) (hg : s₁.gens = #[])
    (ha : s₁.heap.get? a = some { cls := .type "list", data := .seq vs.toArray }) (room : Room k callerA)
    (F : ∀ base : Heap, K.In base → base.Ns mainGlobals mg → FnG P w K mg base CX k fa fd [x] sp) (bnd : ∀ (s : Shared) (u : Value), BindsTo s fd ⟨[u], []⟩ [(x, u)])
    (hCX : ∀ H e s', CX [] H s₁ (fun _ _ _ => False) e s' → False) {H : Hp} (only : Only H) (asked : sp [.ref a] H (fun v _ => v = .bl true) fun _ _ _ => False) (hok : HOk P w H s₁.heap)
    (hA : ∀ {b u}, H b = some u → b = a) (hK : ∀ {u}, H a = some u → K.lookup a = none) :
    codeAny (model P w) callerA (.call (.ref fa) ⟨[.ref a], []⟩) (fun r s' => r = .ok (.ret (.bool true)) ∧ OldK s₁.heap s'.heap ∧ s'.os = s₁.os ∧ AllBare s'.gens) s₁ := by
  have seen : ∀ {b : Addr} {o : Obj}, s₁.heap.get? b = some o → (∀ u, H b = some u → False) → (hidT s₁.heap H).get? b = some o := fun {b o} z n =>
    hidT_get z (by cases q : H b with | none => rfl | some u => exact (n u q).elim)
  have seenNs : ∀ {b : Addr} {m : Str → Option Value}, s₁.heap.Ns b m → (hidT s₁.heap H).Ns b m := by
    rintro b m ⟨o, es, ep, z, d, r⟩
    refine ⟨o, es, ep, seen z fun u q => ?_, d, r⟩
    have e := hA q
    subst e
    rw [ha] at z
    cases z
    exact nomatch d
  have kin2 : K.In (hidT s₁.heap H) := fun b o z => seen (kin b o z) fun u q => by
    have e := hA q
    subst e
    rw [hK q] at z
    cases z
  obtain ⟨mc, l1, l2⟩ := hlim
  have e0 : Env0 P w K mg (hidT s₁.heap H) callerA [] s₁ H := ⟨rfl, ⟨kin2, seenNs hns, ⟨mb, seenNs hb, hbb⟩, ⟨mc, seenNs l1, l2⟩⟩, fun b o z => of_hidT z, Nat.le_of_eq (hidT_size _ _), trivial, (fun b z => nomatch z), hok, .of_eq hg⟩
  refine codeAny_mono ((F _ kin2 (seenNs hns)).go (show Q0 callerA from rfl) room e0 (us := [.ref a]) (vs := [.ref a]) (bnd s₁ (.ref a)) (.cons rfl .nil) asked) ?_
  intro r s' z
  cases r with
  | error e => exact (hCX H e s' z).elim
  | ok fl =>
    cases fl with
    | brk => exact (show False from z).elim
    | cont => exact (show False from z).elim
    | next => exact (show False from z).elim
    | ret u =>
      obtain ⟨v, H', os, bare, un, hok', rv, rfl⟩ := z
      cases (show u = Value.bool true from rv)
      refine ⟨rfl, OldK.of_keep fun b o z => ?_, os, bare⟩
      rcases only b with n | ⟨ob, xs, n⟩
      · exact un.keep b o z n (fun q => nomatch q) (fun q => nomatch q)
      · obtain ⟨z1, _⟩ := hok b _ n
        obtain ⟨z2, _⟩ := hok' b _ (un.frzs b ob _ n)
        rw [z2, ← z1, z]
theorem law_callG (kin : K.In s₁.heap) (hns : s₁.heap.Ns mainGlobals mg) (hb : s₁.heap.Ns builtinsNs mb) (hbb : ∀ x : Str, x ≠ "__name__" → mb x = bootBuiltins x) (hlim : s₁.heap.NoLimit) (hg : s₁.gens = #[])
    (ha : s₁.heap.get? a = some { cls := .type "list", data := .seq vs.toArray }) (hi : IntsAre vs ns) (hl : ns.length ≤ sizeLine) (room : Room k callerA)
    (F : ∀ base : Heap, K.In base → base.Ns mainGlobals mg → FnG P w K mg base CX k fa fd [x] sp) (bnd : ∀ (s : Shared) (u : Value), BindsTo s fd ⟨[u], []⟩ [(x, u)])
    (hsp : ∀ H : Hp, Only H → SqL K H a (ns.map V.int) → sp [.ref a] H (fun v _ => v = .bl true) fun _ _ _ => False)
    (hCX : ∀ H e s', CX [] H s₁ (fun _ _ _ => False) e s' → False) :
    codeAny (model P w) callerA (.call (.ref fa) ⟨[.ref a], []⟩) (fun r s' => r = .ok (.ret (.bool true)) ∧ OldK s₁.heap s'.heap ∧ s'.os = s₁.os ∧ AllBare s'.gens) s₁ := by
  have rel : Vals (ns.map V.int) vs := vals_ints hi
  cases hk : K.lookup a with
  | some o =>
    have z := kin a o hk
    rw [ha] at z
    cases z
    have only : Only (fun _ => none) := fun _ => Or.inl rfl
    refine law_core kin hns hb hbb hlim hg ha room F bnd hCX only (hsp _ only (Or.inr ⟨_, vs.toArray, _, hk, rfl, rfl, rfl, ?_, ?_⟩)) ?_ ?_ ?_
    · rw [List.size_toArray, hi.length]
      exact hl
    · simpa using rel
    · exact fun b u z => nomatch z
    · exact fun z => nomatch z
    · exact fun z => nomatch z
  | none =>
    let H0 : Hp := fun b => if b = a then some (.frz { cls := .type "list", data := .seq vs.toArray } (.lst (ns.map V.int))) else none
    have at0 : H0 a = some (.frz { cls := .type "list", data := .seq vs.toArray } (.lst (ns.map V.int))) := if_pos rfl
    have off : ∀ {b u}, H0 b = some u → b = a := fun {b u} z => by
      by_cases e : b = a
      · exact e
      · have z2 : H0 b = none := if_neg e
        rw [z2] at z
        cases z
    have only : Only H0 := fun b => by
      by_cases e : b = a
      · rw [e]
        exact Or.inr ⟨_, _, at0⟩
      · exact Or.inl (if_neg e)
    refine law_core kin hns hb hbb hlim hg ha room F bnd hCX only (hsp _ only (Or.inl (Or.inr ⟨_, at0⟩))) (fun b u z => ?_) off (fun _ => hk)
    have e := off z
    subst e
    rw [at0] at z
    cases z
    exact ⟨ha, by rw [List.length_map]; exact hl, vs, _, rel, ha⟩
end
/-- the goal that k_head leaves, from the law's promise over FnG -/
theorem walk_ofG {l : PySem.W.OpenLaw} {n k : Nat} {q : Program} {loose : List Str} {XP : (Str → Option Value) → Heap → Prop} {YP : World → Heap → Prop} {d : DefRec} {K : Params → PySem.W.Frag} {CX : World → CXT} {sp : World → Sp} {x : Str}
    (hn : l.most = some n) (hn2 : n ≤ sizeLine) (hdf : d.params.defaults = []) (hr : Room k callerA) (hY : ∀ (w : World) (h : Heap), YP w h → (K w.params).In h)
    (F : ∀ (w : World) (mg : Str → Option Value) (fa : Addr) (h : Heap), (K w.params).In h → h.Ns mainGlobals mg → mg d.name = some (.ref fa) →
      ∃ fd : FuncData, (∀ (s : Shared) (u : Value), BindsTo s fd ⟨[u], []⟩ [(x, u)]) ∧ ∀ base : Heap, (K w.params).In base → base.Ns mainGlobals mg → FnG l.prog w (K w.params) mg base (CX w) k fa fd [x] (sp w))
    (hsp : ∀ (w : World) (H : Hp) (a : Addr) (ns : List Int), ns.length ≤ n → Only H → SqL (K w.params) H a (ns.map V.int) → sp w [.ref a] H (fun v _ => v = .bl true) fun _ _ _ => False)
    (hCX : ∀ (w : World) (H : Hp) (s : Shared) (e : Value) (s' : Shared), CX w [] H s (fun _ _ _ => False) e s' → False) : PySem.W.WalkO q loose XP YP l.row.toRowW d [] (fun f vs => PySem.call f vs) := by
  apply Att.attach_call hn hdf
  intro w s₀ s₁ mg mb fa o pm cd doc a vs ns G Y _ _ _ hmg hobj hints hlen hg
  obtain ⟨fd, bnd, hF⟩ := F w mg fa _ (hY w _ Y) G.T.g hmg
  exact law_callG (hY w _ Y) G.T.g G.T.b G.T.builtins G.T.nolimit hg hobj hints (Nat.le_trans hlen hn2) hr hF bnd (fun H only hS => hsp w H a ns hlen only hS) (fun H e s' => hCX w H s₁ e s')
/-! repr of data; how often a truth value stands in a list -/
section
variable {X : Cx}
def rRepr (K : PySem.W.Frag) : List V → Hp → VK → Prop := fun xs H Q => ∃ (x : V) (d : PyData), xs = [x] ∧ Dp K H x d ∧ d.showable = true ∧ d.hasDict = false ∧ d.depth ≤ 60 ∧ d.shown.length ≤ sizeLine ∧ Q (.str d.shown) H
theorem call_repr (hq : Q0 X.A) (hu : X.A.units + 64 < cLine) : CallR X (.builtin "repr") (rRepr X.K) := by
  intro pins s σ H xs us Q I r h
  obtain ⟨x, d, rfl, hd, hs, hnd, hdep, hsz, q⟩ := h
  obtain ⟨u, rfl, ru⟩ := vals1 r
  have done : ∀ (h' : Heap) (t tk : Tok), (∀ b o, s.heap.get? b = some o → h'.get? b = some o) → EP X pins σ Q (.str d.shown t) { s with heap := h', toks := tk } :=
    fun h' t tk k => ⟨.str d.shown, H, I.kept k, ⟨t, rfl⟩, q⟩
  cases hd with
  | non =>
    cases (show u = Value.none from ru)
    exact PySem.P.repr_of_none (done s.heap _ _ fun _ _ z => z)
  | bl b =>
    cases (show u = Value.bool b from ru)
    have e : PyData.shown (.bool b) = (if b then "True" else "False" : Str) := by simp only [PyData.shown]
    rw [e] at done
    exact PySem.P.repr_of_bool (by cases b <;> exact done s.heap _ _ fun _ _ z => z)
  | int i =>
    obtain ⟨t, rfl⟩ := (show ∃ t, u = Value.int i t from ru)
    have e : PyData.shown (.int i) = toString i := by simp only [PyData.shown]
    rw [e] at done
    exact PySem.P.repr_of_int (by simpa [PyData.showable] using hs) (done s.heap _ _ fun _ _ z => z)
  | str y =>
    obtain ⟨t, rfl⟩ := (show ∃ t, u = Value.str y t from ru)
    have e : PyData.shown (.str y) = reprText y := by simp only [PyData.shown]
    rw [e] at done hsz
    exact PySem.P.repr_of_str (done s.heap _ _ fun _ _ z => z) hsz
  | @lst a ys ds h1 h2 =>
    obtain ⟨as, rd⟩ := Dp.reads I (.list ds) _ u (.lst h1 h2) ru
    cases (show u = Value.ref a from ru)
    exact PySem.repr_of_reads' rd hs (PyData.noDict_hsm hnd) hq (by omega) (fun _ _ z => z) (fun h' t tk k => done h' t tk k) hsz
  | @tup a ys ds h1 h2 =>
    obtain ⟨as, rd⟩ := Dp.reads I (.tuple ds) _ u (.tup h1 h2) ru
    cases (show u = Value.ref a from ru)
    exact PySem.repr_of_reads' rd hs (PyData.noDict_hsm hnd) hq (by omega) (fun _ _ z => z) (fun h' t tk k => done h' t tk k) hsz
theorem dp_bools {K : PySem.W.Frag} {H : Hp} : ∀ bs : List Bool, DpAll K H (bs.map V.bl) (bs.map PyData.bool)
  | [] => .nil
  | b :: bs => .cons (.bl b) (dp_bools bs)
theorem countIn_bools (k : Bool) : ∀ bs : List Bool, countIn (.bool k) (bs.map PyData.bool) = ((bs.count k : Nat) : Int)
  | [] => by simp [countIn]
  | b :: bs => by
    rw [List.map_cons, countIn, countIn_bools k bs, List.count_cons]
    simp only [same]
    cases b <;> cases k <;> simp <;> omega
def rCntB (K : PySem.W.Frag) : V → List V → Hp → VK → Prop := fun x xs H Q => ∃ (p : Addr) (bs : List Bool) (k : Bool), x = .ref p ∧ xs = [.bl k] ∧ SqL K H p (bs.map V.bl) ∧ Q (.int (bs.count k : Nat)) H
theorem mt_lcountB : MtR X "list.count" (rCntB X.K) := by
  intro pins s σ H x xs v us Q I rx rxs h
  obtain ⟨p, bs, k, rfl, rfl, hs, q⟩ := h
  cases rx
  obtain ⟨u, rfl, ru⟩ := rxs.one
  cases (show u = Value.bool k from ru)
  obtain ⟨its, rv, ⟨ob, n, ho, hc, _, hdat⟩, _⟩ := I.list hs
  obtain ⟨as, rd⟩ := Dp.readsAll I _ _ its (dp_bools bs) rv
  have all : (bs.map PyData.bool).all Shape.bool.has = true := by
    rw [List.all_eq_true]
    intro d hd
    obtain ⟨b, _, rfl⟩ := List.mem_map.mp hd
    rfl
  refine count_list_bools (vs := its) ⟨ob, ho, hc, n, hdat⟩ rd all ?_
  rw [countIn_bools]
  exact ⟨.int (bs.count k : Nat), H, I.tok _, ⟨_, rfl⟩, q⟩
end
end Fb
set_option maxRecDepth 100000
set_option maxHeartbeats 4000000
namespace Fb
open PySem PySem.Spec PyProof.Rows L2
/-! an exception that was caught and is kept: try: .. except X as e: y = e -/
/-- at a: an exception of the class cls, its own dict at d -/
def ExR (cls : Value) (d : Option Addr) (a : Addr) : HO := .ext fun h => ∃ (oe : Obj) (vs : Array Value), h.get? a = some oe ∧ oe.cls = cls ∧ oe.dict = d ∧ oe.data = .fields vs
section
variable {X : Cx} {pins : List (Addr × Obj)} {σ : L2.St} {H : Hp} {s : Shared}
/-- an object of ours that nothing tells of is taken up -/
theorem adopt {a : Addr} {oe : Obj} {vs : Array Value} {cls : Value} {d : Option Addr} (I : Inv X ((a, oe) :: pins) σ H s) (new : ∀ o, X.s_0.heap.get? a = some o → False) (np : ∀ p ∈ X.pn ++ pins, p.1 ≠ a) (z : Zc cls d oe) (dat : oe.data = .fields vs) : Inv X pins σ (upd H a (ExR cls d a)) s := by
  obtain ⟨he, hn, hL, hF, _⟩ := I.pin (a, oe) (List.mem_append_right _ List.mem_cons_self)
  have old : ∀ {b : Addr} {o : HO}, H b = some o → upd H a (ExR cls d a) b = some o := fun {b o} q => (upd_ne (ne_of_none q hn)).trans q
  have off : ∀ {b : Addr}, b ≠ a → H b = none → upd H a (ExR cls d a) b = none := fun q n => (upd_ne q).trans n
  have nc : ∀ {x : Str} {c : Addr}, X.env.cells.lookup x = some c → c ≠ a := by
    intro x c e q
    obtain ⟨v, o, ho, hd⟩ := I.cell x c e
    subst q
    have he' : s.heap.get? c = some oe := he
    rw [ho] at he'
    cases he'
    rw [dat] at hd
    cases hd
  have n0 : ∀ {b : Addr} {o : Obj}, X.s_0.heap.get? b = some o → b ≠ a := fun {b o} q e => new o (by rw [← e]; exact q)
  constructor
  · exact I.ok
  · exact I.os
  · exact I.bare
  · constructor
    · exact I.base.keep
    · exact I.base.slot
    · exact fun b o q n x => off (n0 q) (I.base.free b o q n x)
    · exact I.base.there
    · exact fun b xs q => old (I.base.tups b xs q)
    · exact fun b o u q => old (I.base.frzs b o u q)
    · intro b ps q
      obtain ⟨more, e⟩ := I.base.tbls b ps q
      exact ⟨more, old e⟩
  · exact I.loc
  · exact I.cell
  · exact off (Ne.symm hL) I.free
  · exact fun x c e => off (nc e) (I.freeC x c e)
  · intro p hp
    have hp' : p ∈ X.pn ++ (a, oe) :: pins := by
      rcases List.mem_append.mp hp with h | h
      · exact List.mem_append_left _ h
      · exact List.mem_append_right _ (List.mem_cons_of_mem _ h)
    obtain ⟨h1, h2, h3, h4, h5⟩ := I.pin p hp'
    exact ⟨h1, off (np p hp) h2, h3, h4, h5⟩
  · intro b o q
    by_cases e : b = a
    · subst e
      rw [upd_same] at q
      cases q
      exact ⟨⟨oe, vs, he, z.1, z.2, dat⟩, ⟨oe, he⟩, fun h1 h2 ⟨o', v', q, r⟩ k => ⟨o', v', k _ q, r⟩⟩
    · rw [upd_ne e] at q
      exact (I.hok b o q).stay (fun c u _ r => r) (fun c r => old r) (fun c xs r => old r)
  · exact I.len
end
/-- what the clause does: y holds the exception, its own name goes -/
def wHold (K : PySem.W.Frag) (c : Value) (i j : Nat) (Wout : WX) (D : Ends) : WX := fun cls d σ H =>
  ∃ b, PySem.W.exmOne K cls c = some b ∧ (b = true → ∀ a, H a = none → D.nx (((σ.set i (some (.ref a))).set j (some (.ref a))).set i none) (upd H a (ExR cls d a))) ∧ (b = false → Wout cls d σ H)
section
variable {X : Cx} {x n y : Str} {c : Value} {i j : Nat} {body : List Stmt} {np pos pos' p1 p2 p3 : Pos} {tb : WX → TS} {Wout : WX}
theorem ps_try_hold (hs : X.stack = X.env :: X.outer) (hf : X.env.frame = some X.env.locals) (hex : X.ex = []) (hN : X.N.Nodup) (hi : X.N[i]? = some n) (hj : X.N[j]? = some y) (hln : X.env.kindOf n = some .local) (hly : X.env.scope.names.lookup y = some .local) (hc : Names X x c) (tk : Takes X Wout)
    (hdn : (n == ("__debug__" : Str)) = false) (hcn : (n == ("__classdict__" : Str)) = false)
    (hb : ∀ (W : WX) (pn : List (Addr × Obj)) (xe : Value → Shared → Prop), Takes (X.tr pn xe) W → PassesOwn (model X.prog X.w) X.A X.env xe → PSs (X.tr pn xe) body (tb W)) :
    PS X (.Try body [.ExceptHandler (some (.Name x np)) (some n) [.Assign [.Name y p1] (.Name n p2) p3] pos'] [] [] pos) (fun D σ H => tb (wHold X.K c i j Wout D) D σ H) := by
  constructor
  intro pins s σ H D I asked
  have ok := I.ok
  have frames : X.A.frames = some (X.env :: X.outer) := by rw [ok.frames, hs]
  apply wpAny_Try_except
  let clauses : List ExceptHandler := [.ExceptHandler (some (.Name x np)) (some n) [.Assign [.Name y p1] (.Name n p2) p3] pos']
  let behind : Value → Shared → Prop := fun e s₁ => wpAny (model X.prog X.w) X.A (noteFrame e X.env) (fun _ s₂ => wpAny (model X.prog X.w) X.A (setFlight e none) (fun _ s₃ => wpAny (model X.prog X.w) X.A (handleBy e X.env clauses) (SP X pins D) X.xe s₃) X.xe s₂) X.xe s₁
  have caught : Takes (X.tr (X.pn ++ pins) behind) (wHold X.K c i j Wout D) := by
    rintro u s' ⟨a, B, sI, pins', σ', H', cls, d, rfl, J', ground, up, sky, na, os, ag, b, eb, yes, no⟩
    have J : Inv X pins σ' H' sI := J'.ofTry ok
    have Ba : B.get? a = none := by
      rcases sky with h | h | h
      · exact h.2.1
      · exact h.2.1
      · exact h.2.1
    have sky' : Sky B (X.env :: X.outer) a (Zc cls d) X.env.locals s'.heap := by rw [← hs]; exact sky
    show wpAny (model X.prog X.w) X.A (noteFrame (.ref a) X.env) _ _ _
    refine Sky.land Zc.steady frames hf sky' fun h3 fl3 up3 => ?_
    have J3 : Inv X pins σ' H' { s' with heap := h3 } := J.landed ground fl3.1 (up.trans up3) os ag
    obtain ⟨oe3, vs3, he3, hz3, hd3⟩ := fl3.there
    have nofr : a ∉ frs (X.env :: X.outer) := by
      intro hm
      obtain ⟨_, o', e', hnf⟩ := fl3.2.2.1.mem hm
      rw [he3] at e'
      cases e'
      exact hnf _ hd3
    have nL : a ≠ X.env.locals := fun q => nofr (List.mem_filterMap.mpr ⟨X.env, List.mem_cons_self, by rw [hf, q]⟩)
    have nF : a ∉ X.fs := by
      intro hm
      obtain ⟨e, he, q⟩ := List.mem_filterMap.mp hm
      exact nofr (List.mem_filterMap.mpr ⟨e, List.mem_cons_of_mem _ he, q⟩)
    have inI : ∀ {o : Obj}, sI.heap.get? a = some o → False := fun {o} q => by
      have z := ground a o q (by rw [hs]; exact nofr)
      rw [Ba] at z
      cases z
    have new : ∀ o, X.s_0.heap.get? a = some o → False := fun o q => by
      obtain ⟨o', q'⟩ := J.base.there a o q (by rw [hex]; exact fun z => nomatch z)
      exact inI q'
    have others : ∀ p ∈ X.pn ++ pins, p.1 ≠ a := fun p hp q => by
      have z := (J.pin p hp).1
      rw [q] at z
      exact inI z
    have S3 := J3.suite he3 hd3 na nL nF
    refine wpAny_handleBy_cons (codeAny_handlers_test ?_) (fun q => by cases q)
    have LT1 : PySem.W.Looks (model X.prog X.w) h3 (typeOf (.ref a)) cls := fun A Q E s k q => wpAny_typeOf_ref (k _ _ he3) (by rw [hz3.1]; exact q)
    have LT2 := PySem.W.exm_one (M := model X.prog X.w) J3.kIn LT1 eb
    have name : ∀ {Q : Value → Shared → Prop} {E : Value → Shared → Prop}, Q c { s' with heap := h3 } → wpAny (model X.prog X.w) (X.A.mark (some (.ref a))) (eval (.Name x np) X.env) Q E { s' with heap := h3 } := by
      intro Q E q
      obtain ⟨g1, g2, g3 | ⟨g3, g4, g5⟩⟩ := hc
      · exact ld_glob (X := X.suite a ((a, oe3) :: (X.pn ++ pins))) S3 g1 g3 q g2
      · exact ld_blt (X := X.suite a ((a, oe3) :: (X.pn ++ pins))) S3 g1 g3 g4 q g5 g2
    refine name (LT2.here ?_)
    cases b with
    | true =>
      refine codeAny_handlers_suite_as (HandSPX.lands_againZ fl3 fun h4 fl4 up4 => ?_)
      have J4 : Inv X pins σ' H' { s' with heap := h4 } := J.landed ground fl4.1 ((up.trans up3).trans up4) os ag
      obtain ⟨oe4, vs4, he4, hz4, hd4⟩ := fl4.there
      have S4 := J4.suite he4 hd4 na nL nF
      refine store_ok (X := X.suite a ((a, oe4) :: (X.pn ++ pins))) (v := .ref a) S4 hN hi (Or.inl hln) rfl (fun s5 S5 => ?_) (Or.inr hln)
      have rd : PE (X.suite a ((a, oe4) :: (X.pn ++ pins))) (.Name n p2) (tVar i) := pe_var hi (Or.inl hln) hdn hcn
      have st : PSs (X.suite a ((a, oe4) :: (X.pn ++ pins))) [.Assign [.Name y p1] (.Name n p2) p3] (tAsg (tVar i) (gName j)) := pss_one (ps_set hN hj (Or.inl hly) rd (by rfl) (Or.inr hly))
      have li : i < σ'.length := by
        rw [J.len]
        exact (List.getElem?_eq_some_iff.mp hi).1
      refine wpAny_mono (st.run [] s5 _ H' { nx := fun σ6 H6 => σ6 = (σ'.set i (some (.ref a))).set j (some (.ref a)) ∧ H6 = H', rt := fun _ _ => False, bk := fun _ _ => False, ct := fun _ _ => False } S5 ⟨_, List.getElem?_set_self li, rfl, rfl⟩) ?_ (fun _ _ z => (show False from z).elim)
      intro f s6 z
      have J6 : ∀ {σ6 : L2.St} {H6 : Hp}, Inv (X.suite a ((a, oe4) :: (X.pn ++ pins))) [] σ6 H6 s6 → Inv X ((a, oe4) :: pins) σ6 H6 s6 := fun {σ6 H6} I6 =>
        ⟨ok, I6.os, I6.bare, I6.base, I6.loc, I6.cell, I6.free, I6.freeC, fun p hp => I6.pin p (by
          rw [List.append_nil]
          rcases List.mem_append.mp hp with h | h
          · exact List.mem_cons_of_mem _ (List.mem_append_left _ h)
          · rcases List.mem_cons.mp h with h | h
            · rw [h]; exact List.mem_cons_self
            · exact List.mem_cons_of_mem _ (List.mem_append_right _ h)), I6.hok, I6.len⟩
      cases f with
      | next =>
        obtain ⟨σ6, H6, S6, rfl, rfl⟩ := z
        refine gone_ok (J6 S6) hN hi hln fun s7 J7 => ?_
        exact ⟨_, _, adopt J7 new others hz4 hd4, yes rfl a na⟩
      | brk =>
        obtain ⟨_, _, _, q⟩ := z
        exact (show False from q).elim
      | cont =>
        obtain ⟨_, _, _, q⟩ := z
        exact (show False from q).elim
      | ret u =>
        obtain ⟨_, _, _, _, _, q⟩ := z
        exact (show False from q).elim
    | false =>
      show wpAny _ X.A (handleBy (.ref a) X.env []) _ _ _
      apply wpAny_handleBy_nil
      obtain ⟨_, _, _, oe, vs, T, oT, ts', he, hz, hd, h1, hr⟩ := id fl3
      have up_ : wpAny (model X.prog X.w) X.A (setFlight (.ref a) X.env.frame) (fun _ s4 => wpAny (model X.prog X.w) X.A (throw (.ref a) : Sem Flow) (SP X pins D) X.xe s4) X.xe { s' with heap := h3 } := by
        rw [hf]
        refine HandSPX.setFlight_upZ fl3 fun h4 hh4 up4 => wpAny_throw (tk _ _ ?_)
        exact ⟨a, B, sI, pins, σ', H', cls, d, rfl, J, ground, (up.trans up3).trans up4, Or.inr (Or.inr (by rw [hs]; exact hh4)), na, os, ag, no rfl⟩
      unfold PySem.passOn
      refine wpAny_bind (wpAny_field he hd h1 ?_)
      rw [if_neg (show ¬ ((Value.ref T == Value.none) = true) from by simp)]
      first
        | exact wpAny_bind (wpAny_pure (wpAny_bind up_))
        | exact wpAny_bind up_
  refine wpAny_mono ((hb _ _ behind caught PassesOwn.looking).run [] s σ H D (I.toTry _) asked) ?_ (fun e s1 he => he)
  intro f s1 z
  cases f with
  | next =>
    obtain ⟨σ', H', J', q⟩ := z
    exact wpAny_execs_nil ⟨σ', H', J'.ofTry ok, q⟩
  | brk =>
    obtain ⟨σ', H', J', q⟩ := z
    exact ⟨σ', H', J'.ofTry ok, q⟩
  | cont =>
    obtain ⟨σ', H', J', q⟩ := z
    exact ⟨σ', H', J'.ofTry ok, q⟩
  | ret u =>
    obtain ⟨v, σ', H', J', r, q⟩ := z
    exact ⟨v, σ', H', J'.ofTry ok, r, q⟩
end
end Fb
set_option maxRecDepth 100000
set_option maxHeartbeats 4000000
namespace Fb
open PySem PySem.Spec PyProof.Rows L2
/-! walks that yield new tuples of what is known beforehand: enumerate(text), zip(text, text), zip of three -/
def ItT (vals : Nat → List V) (n : Nat) : It := ⟨fun i _ => i < n, fun i H v H' => ∃ T, v = .ref T ∧ H T = none ∧ H' = upd H T (.tup (vals i)), fun i _ => i = n⟩
theorem turn_T {P : Program} {w : World} {K : PySem.W.Frag} {elts : List Expr} {kk : Nat} {tpos : Pos} {it : Addr} {fp wr : List Addr} {n : Nat} {Pt : Nat → Array Value → Prop} {St : Nat → Heap → Prop} {Mid : Nat → Addr → Heap → Prop} {vals : Nat → List V}
    (W : ∀ A : Around, A.handled = none → WalksT P w A it fp wr n Pt St Mid) (mem : it ∈ fp) (obj : ∀ i h, St i h → ∀ b ∈ fp, ∃ o, h.get? b = some o ∧ ∀ v, o.data ≠ .cell v)
    (tell : ∀ i a, Pt i a → Vals (vals i) a.toList) (few : ∀ i, (vals i).length ≤ sizeLine)
    (self : ∀ (A : Around) (i : Nat) (s : Shared) (Q : Value → Shared → Prop) (E : Value → Shared → Prop), St i s.heap → Q (.ref it) s → wpAny (model P w) A (pyIter (.ref it)) Q E s) : Turn P w K (.Tuple elts kk tpos) (ItT vals n) fp it St where
  mem := mem
  obj := obj
  keep := fun i h h' st k => (W {} rfl).frame i h h' st k
  item := by
    rintro X rfl rfl rfl calm i pins s σ H E I apart st go
    have w := W X.A (I.ok.hd calm)
    refine w.item i s _ _ go st fun T a h' tk pt young isT mid keep => ⟨_, rfl, w.go elts kk tpos i T _ _ _ mid fun h'' st' keep2 => ?_⟩
    obtain ⟨o, ho, hc, m, hd⟩ := isT
    have ho2 : h''.get? T = some o := keep2 T o (w.apart i T _ mid) ho
    have J : Inv X pins σ (upd H T (.tup (vals i))) { s with heap := h'', toks := tk } := by
      refine I.turnedNew (ch := wr) (fun b u hb q => keep2 b u hb (keep b u hb q)) (fun b hb => apart b (w.sub b hb)) young ⟨few i, a.toList, tell i a pt, o, ho2, hc, m, ?_⟩
      rw [hd]
    refine ⟨.ref T, _, J, rfl, ⟨T, rfl, I.hok.fresh young, rfl⟩, st', fun b hb => ?_⟩
    obtain ⟨ob, hb2, _⟩ := obj i _ st b hb
    rw [upd_ne (Nat.ne_of_lt (Nat.lt_of_lt_of_le (Heap.lt_size hb2) young))]
    exact (apart b hb).1
  done := by
    rintro X rfl rfl rfl calm i pins s σ H E I apart st stop
    have w := W X.A (I.ok.hd calm)
    cases (show i = n from stop)
    exact w.done s _ _ st fun h' tk keep => ⟨rfl, I.turnedL (ch := wr) keep fun b hb => apart b (w.sub b hb)⟩
  self := self
/-- the sign of a text at a place -/
def sgn (x : Str) (i : Nat) : Str := ⟨#[x.cps.getD i 0]⟩
theorem sgn_at {x : Str} {i c : Nat} (h : x.cps[i]? = some c) : (⟨#[c]⟩ : Str) = sgn x i := by
  unfold sgn
  rw [Array.getD_eq_getD_getElem?, h] <;> rfl
abbrev PTx (x : Str) : Nat → Value → Prop := fun i v => ∃ c u, x.cps[i]? = some c ∧ v = .str ⟨#[c]⟩ u
theorem draws_text {prog : Program} {w : World} {A : Around} (hh : A.handled = none) (it : Addr) (x : Str) (t : Tok) : Draws prog w A it [it] x.cps.size (PTx x) (fun i h => h.IsStrIter it (strIterType x) x t i) := by
  unfold strIterType
  cases h : x.cps.all (· < 128)
  · exact Draws.strWide hh it x t
  · exact Draws.strAscii hh it x t
theorem text_begun {x : Str} {t : Tok} {h : Heap} {it : Addr} (e : h.get? it = some { cls := .type (strIterType x), data := .fields #[.str x t, .int 0 0] }) : h.IsStrIter it (strIterType x) x t 0 := ⟨_, e, rfl, rfl⟩
theorem text_cell {ty : String} {x : Str} {t : Tok} {i : Nat} {h : Heap} {it : Addr} (e : h.IsStrIter it ty x t i) : ∃ o, h.get? it = some o ∧ ∀ v, o.data ≠ .cell v := by
  obtain ⟨o, e1, _, e2⟩ := e
  exact ⟨o, e1, fun v z => by rw [e2] at z; cases z⟩
theorem rel_sgn {x : Str} {i : Nat} {v : Value} (h : PTx x i v) : RelV (.str (sgn x i)) v := by
  obtain ⟨c, u, e, rfl⟩ := h
  rw [← sgn_at e]
  exact ⟨u, rfl⟩
section
variable {X : Cx} {elts : List Expr} {kk : Nat} {tpos p pos : Pos} {e e1 e2 e3 : Expr} {ta : TA}
def iEnumS (ta : TA) : TI := fun σ H R => ta σ H fun vs H1 => ∃ x : Str, vs = [.str x] ∧ R (ItT (fun i => [.int (i : Nat), .str (sgn x i)]) x.cps.size) H1
theorem pi_enumS (hg : Gl X "enumerate") (hm : X.mg "enumerate" = none) (ha : PA X [e] ta) (hs : starEach [e] X.env = [(false, eval e X.env)] := by rfl) :
    PI X (.Tuple elts kk tpos) (.Call (.Name "enumerate" p) [e] [] pos) (iEnumS ta) := by
  constructor
  intro pins s σ H R I h
  refine Call_ (ld_blt I hg hm boot_enumerate (callWith_type1 ?_ hs rfl))
  apply thn (ha.run pos pins s σ H _ I h)
  rintro us s1 ⟨vs, H1, I1, rel, x, rfl, q⟩
  obtain ⟨u, rfl, ru⟩ := vals1 rel
  obtain ⟨t, rfl⟩ := (show ∃ t, u = Value.str x t from ru)
  apply call_enumerate_str
  intro h' he hit hsz keep
  apply wpAny_pyIter_enum he
  have I2 : Inv X pins σ H1 { s1 with heap := h' } := I1.kept (t' := s1.toks) keep
  have ne : s1.heap.objs.size + 1 ≠ s1.heap.objs.size := Nat.succ_ne_self _
  refine ⟨s1.heap.objs.size + 1, [s1.heap.objs.size + 1, s1.heap.objs.size], _, _, H1, rfl, I2,
    turn_T (fun A hh => WalksT.enumerateD (draws_text (A := A.in1) hh s1.heap.objs.size x t) (s1.heap.objs.size + 1) ne (fun z => ne (by simpa using z)) (by simp)) (by simp) ?_ ?_ (fun i => by show 2 ≤ sizeLine; decide) (fun A i s Q E st q => wpAny_pyIter_enum st.1.choose_spec q), ⟨⟨.none, he⟩, hit⟩, ?_, q⟩
  · rintro i h ⟨⟨old, h1⟩, h2⟩ b hb
    have hb' : b = s1.heap.objs.size + 1 ∨ b = s1.heap.objs.size := by simpa using hb
    rcases hb' with rfl | rfl
    · exact ⟨_, h1, fun v z => nomatch z⟩
    · exact text_cell h2
  · rintro i a ⟨t2, v, hv, rfl⟩
    exact .cons ⟨t2, rfl⟩ (.cons (rel_sgn hv) .nil)
  · intro b hb
    have hb' : b = s1.heap.objs.size + 1 ∨ b = s1.heap.objs.size := by simpa using hb
    have le : s1.heap.objs.size ≤ b := by rcases hb' with rfl | rfl <;> omega
    exact I1.fpOk le (I1.hok.fresh le)
def iZipS2 (ta : TA) : TI := fun σ H R => ta σ H fun vs H1 => ∃ x y : Str, vs = [.str x, .str y] ∧ R (ItT (fun i => [.str (sgn x i), .str (sgn y i)]) (min x.cps.size y.cps.size)) H1
theorem pi_zipS2 (hg : Gl X "zip") (hm : X.mg "zip" = none) (ha : PA X [e1, e2] ta) (hs : starEach [e1, e2] X.env = (false, eval e1 X.env) :: starEach [e2] X.env := by rfl) (hp : (backTo pos (starEach [e2] X.env)).any (·.1) = false := by rfl) :
    PI X (.Tuple elts kk tpos) (.Call (.Name "zip" p) [e1, e2] [] pos) (iZipS2 ta) := by
  constructor
  intro pins s σ H R I h
  refine Call_ (ld_blt I hg hm PyProof.Rows.boot_zip (callWith_type1 ?_ hs hp))
  apply thn (ha.run pos pins s σ H _ I h)
  rintro us s1 ⟨vs, H1, I1, rel, x, y, rfl, q⟩
  obtain ⟨u1, u2, rfl, r1, r2⟩ := vals2 rel
  obtain ⟨t1, rfl⟩ := (show ∃ t, u1 = Value.str x t from r1)
  obtain ⟨t2, rfl⟩ := (show ∃ t, u2 = Value.str y t from r2)
  apply zip_begins2 (begins_text x t1) (begins_text y t2) trivial trivial
  intro h' hz hTI hTO g1 g2 hsz keep
  apply wpAny_pyIter_zip hz
  have I2 : Inv X pins σ H1 { s1 with heap := h' } := I1.kept (t' := s1.toks) keep
  have S := zip_sep2 (N := s1.heap.objs.size) (fp1 := []) (fp2 := []) (fun b z => nomatch z) (fun b z => nomatch z)
  have five : ∀ {b : Addr}, b ∈ (s1.heap.objs.size + 4) :: (s1.heap.objs.size + 2) :: (s1.heap.objs.size + 3) :: ([s1.heap.objs.size] ++ [s1.heap.objs.size + 1]) → b = s1.heap.objs.size + 4 ∨ b = s1.heap.objs.size + 2 ∨ b = s1.heap.objs.size + 3 ∨ b = s1.heap.objs.size ∨ b = s1.heap.objs.size + 1 := fun z => by simpa using z
  refine ⟨s1.heap.objs.size + 4, _, _, _, H1, rfl, I2, turn_T (fun A hh => WalksT.zipD2 S (draws_text (A := A.in1) hh _ x t1) (draws_text (A := A.in1) hh _ y t2)) (by simp) ?_ ?_ (fun i => by show 2 ≤ sizeLine; decide) (fun A i s Q E st q => wpAny_pyIter_zip st.1 q),
    ⟨hz, hTI, ⟨_, _, hTO⟩, text_begun g1, text_begun g2⟩, ?_, q⟩
  · rintro i h ⟨h1, h2, ⟨_, _, h3⟩, h4, h5⟩ b hb
    rcases five hb with rfl | rfl | rfl | rfl | rfl
    · exact ⟨_, h1, fun v z => nomatch z⟩
    · exact ⟨_, h2, fun v z => nomatch z⟩
    · exact ⟨_, h3, fun v z => nomatch z⟩
    · exact text_cell h4
    · exact text_cell h5
  · rintro i a ⟨v1, v2, hv1, hv2, rfl⟩
    exact .cons (rel_sgn hv1) (.cons (rel_sgn hv2) .nil)
  · intro b hb
    have le : s1.heap.objs.size ≤ b := by rcases five hb with rfl | rfl | rfl | rfl | rfl <;> omega
    exact I1.fpOk le (I1.hok.fresh le)
def iZipS3 (ta : TA) : TI := fun σ H R => ta σ H fun vs H1 => ∃ x y z : Str, vs = [.str x, .str y, .str z] ∧ R (ItT (fun i => [.str (sgn x i), .str (sgn y i), .str (sgn z i)]) (min (min x.cps.size y.cps.size) z.cps.size)) H1
theorem pi_zipS3 (hg : Gl X "zip") (hm : X.mg "zip" = none) (ha : PA X [e1, e2, e3] ta) (hs : starEach [e1, e2, e3] X.env = (false, eval e1 X.env) :: starEach [e2, e3] X.env := by rfl) (hp : (backTo pos (starEach [e2, e3] X.env)).any (·.1) = false := by rfl) :
    PI X (.Tuple elts kk tpos) (.Call (.Name "zip" p) [e1, e2, e3] [] pos) (iZipS3 ta) := by
  constructor
  intro pins s σ H R I h
  refine Call_ (ld_blt I hg hm PyProof.Rows.boot_zip (callWith_type1 ?_ hs hp))
  apply thn (ha.run pos pins s σ H _ I h)
  rintro us s1 ⟨vs, H1, I1, rel, x, y, z, rfl, q⟩
  cases rel with
  | cons r1 rr =>
    rename_i u1 us
    obtain ⟨u2, u3, rfl, r2, r3⟩ := vals2 rr
    obtain ⟨t1, rfl⟩ := (show ∃ t, u1 = Value.str x t from r1)
    obtain ⟨t2, rfl⟩ := (show ∃ t, u2 = Value.str y t from r2)
    obtain ⟨t3, rfl⟩ := (show ∃ t, u3 = Value.str z t from r3)
    apply zip_begins3 (begins_text x t1) (begins_text y t2) (begins_text z t3) trivial trivial trivial
    intro h' hz hTI hTO g1 g2 g3 hsz keep
    apply wpAny_pyIter_zip hz
    have I2 : Inv X pins σ H1 { s1 with heap := h' } := I1.kept (t' := s1.toks) keep
    have S := zip_sep3 (N := s1.heap.objs.size) (fp1 := []) (fp2 := []) (fp3 := []) (fun b z => nomatch z) (fun b z => nomatch z) (fun b z => nomatch z)
    have six : ∀ {b : Addr}, b ∈ (s1.heap.objs.size + 5) :: (s1.heap.objs.size + 3) :: (s1.heap.objs.size + 4) :: ([s1.heap.objs.size] ++ [s1.heap.objs.size + 1] ++ [s1.heap.objs.size + 2]) → b = s1.heap.objs.size + 5 ∨ b = s1.heap.objs.size + 3 ∨ b = s1.heap.objs.size + 4 ∨ b = s1.heap.objs.size ∨ b = s1.heap.objs.size + 1 ∨ b = s1.heap.objs.size + 2 := fun z => by simpa using z
    refine ⟨s1.heap.objs.size + 5, _, _, _, H1, rfl, I2, turn_T (fun A hh => WalksT.zipD3 S (draws_text (A := A.in1) hh _ x t1) (draws_text (A := A.in1) hh _ y t2) (draws_text (A := A.in1) hh _ z t3)) (by simp) ?_ ?_ (fun i => by show 3 ≤ sizeLine; decide) (fun A i s Q E st q => wpAny_pyIter_zip st.1 q),
      ⟨hz, hTI, ⟨_, _, _, hTO⟩, text_begun g1, text_begun g2, text_begun g3⟩, ?_, q⟩
    · rintro i h ⟨h1, h2, ⟨_, _, _, h3⟩, h4, h5, h6⟩ b hb
      rcases six hb with rfl | rfl | rfl | rfl | rfl | rfl
      · exact ⟨_, h1, fun v z => nomatch z⟩
      · exact ⟨_, h2, fun v z => nomatch z⟩
      · exact ⟨_, h3, fun v z => nomatch z⟩
      · exact text_cell h4
      · exact text_cell h5
      · exact text_cell h6
    · rintro i a ⟨v1, v2, v3, hv1, hv2, hv3, rfl⟩
      exact .cons (rel_sgn hv1) (.cons (rel_sgn hv2) (.cons (rel_sgn hv3) .nil))
    · intro b hb
      have le : s1.heap.objs.size ≤ b := by rcases six hb with rfl | rfl | rfl | rfl | rfl | rfl <;> omega
      exact I1.fpOk le (I1.hok.fresh le)
end
/-! loops and comprehensions over such a walk -/
theorem for_T {vals : Nat → List V} {n : Nat} {g : TG} {tb : TS} {D : Ends} {σ : L2.St} {H : Hp} (Pv : Nat → L2.St → Hp → Prop) (h0 : Pv 0 σ H)
    (hs : ∀ i T σ H, i < n → Pv i σ H → H T = none → g (.ref T) σ (upd H T (.tup (vals i))) fun σ2 H2 => tb { D with nx := Pv (i + 1), ct := Pv (i + 1), bk := D.nx } σ2 H2) (hd : ∀ σ H, Pv n σ H → D.nx σ H) :
    ∃ W : Nat → Nat → L2.St → Hp → Prop, (∃ m, W 0 m σ H) ∧ ∀ i m σ H, W i m σ H →
      ((ItT vals n).stop i H ∧ D.nx σ H) ∨ ((ItT vals n).go i H ∧ ∃ N : L2.St → Hp → Prop, (∀ σ' H', N σ' H' → ∃ m', m' < m ∧ W (i + 1) m' σ' H') ∧ ∀ x H', (ItT vals n).yld i H x H' → g x σ H' fun σ2 H2 => tb { D with nx := N, ct := N, bk := D.nx } σ2 H2) := by
  refine ⟨fun i m σ H => i + m = n ∧ Pv i σ H, ⟨n, by omega, h0⟩, fun i m σ H ⟨hm, p⟩ => ?_⟩
  by_cases lt : i < n
  · refine Or.inr ⟨lt, Pv (i + 1), fun σ' H' p' => ⟨m - 1, by omega, by omega, p'⟩, ?_⟩
    rintro x H' ⟨T, rfl, hT, rfl⟩
    exact hs i T σ H lt p hT
  · obtain rfl : i = n := by omega
    exact Or.inl ⟨rfl, hd σ H p⟩
theorem lc_T {vals : Nat → List V} {n : Nat} {g : TG} {tt : TT} {te : TE} {vs : List Nat} {σ : L2.St} {H1 : Hp} {D : Addr} {Qd : Hp → Prop} (Pv : Nat → Hp → Prop) (h0 : Pv 0 (upd H1 D (.lst [])))
    (hs : ∀ i T H, i < n → Pv i H → H T = none → g (.ref T) (wipe σ vs) (upd H T (.tup (vals i))) fun σ2 H2 => wipe σ2 vs = wipe σ vs ∧ tt σ2 H2 fun b H3 =>
      if b = true then te σ2 H3 fun y H4 => ∃ acc, H4 D = some (.lst acc) ∧ acc.length < sizeLine ∧ Pv (i + 1) (upd H4 D (.lst (acc ++ [y]))) else Pv (i + 1) H3) (hd : ∀ H, Pv n H → Qd H) :
    ∃ W : Nat → Nat → Hp → Prop, (∃ m, W 0 m (upd H1 D (.lst []))) ∧ ∀ i m H, W i m H →
      ((ItT vals n).stop i H ∧ Qd H) ∨ ((ItT vals n).go i H ∧ ∃ Nx : Hp → Prop, (∀ H', Nx H' → ∃ m', m' < m ∧ W (i + 1) m' H') ∧ ∀ x H', (ItT vals n).yld i H x H' → g x (wipe σ vs) H' fun σ2 H2 => wipe σ2 vs = wipe σ vs ∧ tt σ2 H2 fun b H3 =>
        if b = true then te σ2 H3 fun y H4 => ∃ acc, H4 D = some (.lst acc) ∧ acc.length < sizeLine ∧ Nx (upd H4 D (.lst (acc ++ [y]))) else Nx H3) := by
  refine ⟨fun i m H => i + m = n ∧ Pv i H, ⟨n, by omega, h0⟩, fun i m H ⟨hm, p⟩ => ?_⟩
  by_cases lt : i < n
  · refine Or.inr ⟨lt, Pv (i + 1), fun H' p' => ⟨m - 1, by omega, by omega, p'⟩, ?_⟩
    rintro x H' ⟨T, rfl, hT, rfl⟩
    exact hs i T H lt p hT
  · obtain rfl : i = n := by omega
    exact Or.inl ⟨rfl, hd H p⟩
end Fb
set_option maxRecDepth 100000
set_option maxHeartbeats 4000000
namespace Fb
open PySem PySem.Spec PyProof.Rows L2
/-! what own classes say of operators: instances with a dict -/
/-- what never comes to pass needs no reading -/
theorem ps_no {X : Cx} {st : Stmt} : PS X st (fun _ _ _ => False) := ⟨fun _ _ _ _ _ _ h => h.elim⟩
theorem pss_no {X : Cx} {sts : List Stmt} : PSs X sts (fun _ _ _ => False) := ⟨fun _ _ _ _ _ _ h => h.elim⟩
theorem pe_no {X : Cx} {e : Expr} : PE X e (fun _ _ _ => False) := ⟨fun _ _ _ _ _ _ h => h.elim⟩
section
variable {X : Cx} {CX : CXT} {pins : List (Addr × Obj)} {σ : L2.St} {H : Hp} {s : Shared} {a C dx g : Addr} {fs : List (Str × V)} {n : Nat} {sp : Sp} {E : XK}
theorem ins_at (I : Inv X pins σ H s) (e : H a = some (.ins C dx fs)) : ∃ od, PySem.W.InstAt s.heap a (PySem.W.instObj C dx) C (some od) := by
  obtain ⟨mA, O, _⟩ := ins_get I.hok e
  obtain ⟨od, J, _⟩ := O.look
  exact ⟨od, J⟩
/-- the type of what may stand on the right -/
inductive RTy (H : Hp) : V → Value → Prop where
  | non : RTy H .non (.type "NoneType")
  | str (x : Str) : RTy H (.str x) (.type "str")
  | ins {b C' dy : Addr} {gs : List (Str × V)} (e : H b = some (.ins C' dy gs)) : RTy H (.ref b) (.ref C')
theorem RTy.looks {y : V} {t u : Value} (I : Inv X pins σ H s) (r : RTy H y t) (ry : RelV y u) : PySem.W.Looks (model X.prog X.w) s.heap (typeOf u) t := by
  cases r with
  | non =>
    cases (show u = Value.none from ry)
    exact fun A Q E s k q => wpAny_typeOf (show s.TypeIs .none "NoneType" from rfl) q
  | str x =>
    obtain ⟨t, rfl⟩ := (show ∃ t, u = Value.str x t from ry)
    exact fun A Q E s k q => wpAny_typeOf (show s.TypeIs (.str x t) "str" from rfl) q
  | ins e =>
    cases (show u = Value.ref _ from ry)
    obtain ⟨od, J⟩ := ins_at I e
    exact J.type
theorem first_str {K : PySem.W.Frag} {C : Addr} : PySem.W.notFirst K C (.type "str") = true := by
  have e : fastBuiltinMro "str" = some [.type "str", .type "object"] := by decide +kernel
  have h : PySem.W.subIn K (.type "str") (.ref C) = some false := by
    show (fastBuiltinMro "str").map (·.contains (.ref C)) = some false
    rw [e]
    first
      | rfl
      | simp
  unfold PySem.W.notFirst
  rw [h]
  simp
theorem first_non {K : PySem.W.Frag} {C : Addr} : PySem.W.notFirst K C (.type "NoneType") = true := by
  unfold PySem.W.notFirst
  rw [HN.sub_none]
  simp
theorem first_self {K : PySem.W.Frag} {C : Addr} : PySem.W.notFirst K C (.ref C) = true := by
  unfold PySem.W.notFirst
  simp
/-- x op y by the def of x's class -/
def rCmpI (K : PySem.W.Frag) (C : Addr) (sp : Sp) (E : XK) : R2 := fun x y H Q => ∃ a dx fs t, x = .ref a ∧ H a = some (.ins C dx fs) ∧ RTy H y t ∧ PySem.W.notFirst K C t = true ∧ sp [x, y] H Q E
theorem op_cmpI {op : CmpOp} (hop : ∀ a b, compareOp op a b = richCompare op a b) (hs : PySem.W.findIn X.K (.ref C) (cmpInfo op).2.1 = some (some (.ref g))) (hf : PySem.W.isFn X.K (.ref g) = true) (F : FnR X.prog X.w X.K X.mg X.base CX n g sp)
    (hr : Room n X.A) (hx : Passes CX X E) : OpR X (compareOp op) (rCmpI X.K C sp E) := by
  intro pins s σ H x y v u Q I rx ry h
  obtain ⟨a, dx, fs, t, rfl, ha, hb, hn, q⟩ := h
  cases (show v = Value.ref a from rx)
  obtain ⟨od, J⟩ := ins_at I ha
  obtain ⟨m, hF⟩ := I.fr
  rw [hop]
  refine PySem.W.cmp_K (op := op) (tb := t) hr.units0 hF I.ok.mod.kin J (hb.looks I ry) hn hs hf ?_
  refine wpAny_mono (wpAny_call (run_fnR (us := [.ref a, u]) (vs := [.ref a, y]) F hr hx I (.cons rfl (.cons ry .nil)) q)) (fun w s' z => ?_) fun _ _ x => x
  obtain ⟨z', H', I', rz, qz⟩ := z
  exact SlX.cmpback rz ⟨z', H', I', rz, qz⟩
/-- two instances of C -/
def rBinI (C : Addr) (sp : Sp) (E : XK) : R2 := fun x y H Q => ∃ a dx fs b dy gs, x = .ref a ∧ H a = some (.ins C dx fs) ∧ y = .ref b ∧ H b = some (.ins C dy gs) ∧ sp [x, y] H Q E
theorem op_binI {op : Operator} (hc : PySem.W.selfFirst X.K C = true) (hs : PySem.W.findIn X.K (.ref C) (PySem.dunder op.info.2) = some (some (.ref g))) (hf : PySem.W.isFn X.K (.ref g) = true) (F : FnR X.prog X.w X.K X.mg X.base CX n g sp)
    (hr : Room n X.A) (hx : Passes CX X E) : OpR X (binaryOp op) (rBinI C sp E) := by
  intro pins s σ H x y v u Q I rx ry h
  obtain ⟨a, dx, fs, b, dy, gs, rfl, ha, rfl, hb, q⟩ := h
  cases (show v = Value.ref a from rx)
  cases (show u = Value.ref b from ry)
  obtain ⟨od, J⟩ := ins_at I ha
  obtain ⟨od', J'⟩ := ins_at I hb
  obtain ⟨m, hF⟩ := I.fr
  refine PySem.W.binop_K (op := op) hF I.ok.mod.kin J J'.type hc hs hf ?_
  refine wpAny_mono (wpAny_call (run_fnR (us := [.ref a, .ref b]) (vs := [.ref a, .ref b]) F hr hx I (.cons rfl (.cons rfl .nil)) q)) (fun w s' z => ?_) fun _ _ x => x
  obtain ⟨z', H', I', rz, qz⟩ := z
  exact SlX.cmpback rz ⟨z', H', I', rz, qz⟩
/-! str(x), len(x) -/
theorem relv_str {v : Value} {y : Str} (r : RelV (.str y) v) : ∃ t, v = .str y t := r
def rStrI (C : Addr) (sp : Sp) (E : XK) : List V → Hp → VK → Prop := fun xs H Q => ∃ a dx fs, xs = [.ref a] ∧ H a = some (.ins C dx fs) ∧ sp [.ref a] H (fun z H' => ∃ y, z = .str y ∧ Q (.str y) H') E
theorem call_strI (hs : PySem.W.findIn X.K (.ref C) "__str__" = some (some (.ref g))) (hf : PySem.W.isFn X.K (.ref g) = true) (F : FnR X.prog X.w X.K X.mg X.base CX n g sp) (hr : Room (n + 2) X.A) (hx : Passes CX X E) : CallR X (.type "str") (rStrI C sp E) := by
  intro pins s σ H xs us Q I r h
  obtain ⟨a, dx, fs, rfl, ha, q⟩ := h
  obtain ⟨u, rfl, ru⟩ := r.one
  cases (show u = Value.ref a from ru)
  obtain ⟨od, J⟩ := ins_at I ha
  have hr2 : Room n X.A.in1.in1 := (show Room (n + 1) X.A.in1 from Room.in1 hr).in1
  refine PySem.W.kso_call hr2.units0 I.kIn J hs hf (wpAny_mono (wpAny_call (SlX.run_at (us := [.ref a]) (ws := [.ref a]) F hr2 I.env0.in1.in1 hx I (.cons rfl .nil) q)) (fun w s' z => ?_) fun _ _ x => x)
  obtain ⟨z', H', I', rz, y, ey, qz⟩ := z
  subst ey
  obtain ⟨t, e⟩ := relv_str rz
  cases e
  exact ⟨.str y, H', I', ⟨t, rfl⟩, qz⟩
def rLenI (C : Addr) (sp : Sp) (E : XK) : List V → Hp → VK → Prop := fun xs H Q => ∃ a dx fs, xs = [.ref a] ∧ H a = some (.ins C dx fs) ∧ sp [.ref a] H (fun z H' => ∃ i : Nat, z = .int i ∧ (i : Int) < 2 ^ 63 ∧ Q (.int i) H') E
theorem call_lenI (hs : PySem.W.findIn X.K (.ref C) "__len__" = some (some (.ref g))) (hf : PySem.W.isFn X.K (.ref g) = true) (F : FnR X.prog X.w X.K X.mg X.base CX n g sp) (hr : Room (n + 1) X.A) (hx : Passes CX X E) : CallR X (.builtin "len") (rLenI C sp E) := by
  intro pins s σ H xs us Q I r h
  obtain ⟨a, dx, fs, rfl, ha, q⟩ := h
  obtain ⟨u, rfl, ru⟩ := r.one
  cases (show u = Value.ref a from ru)
  obtain ⟨od, J⟩ := ins_at I ha
  have hr2 : Room n X.A.in1 := Room.in1 hr
  obtain ⟨m, hF⟩ := I.fr
  refine PySem.W.len_K hF I.ok.mod.kin J hs hf (wpAny_mono (wpAny_call (SlX.run_at (us := [.ref a]) (ws := [.ref a]) F hr2 I.env0.in1 hx I (.cons rfl .nil) q)) (fun w s' z => ?_) fun _ _ x => x)
  obtain ⟨z', H', I', rz, i, ei, lt, qz⟩ := z
  subst ei
  obtain ⟨t, e⟩ := (show ∃ t, w = Value.int i t from rz)
  cases e
  exact ⟨⟨by omega, lt⟩, .int i, H', I'.tok _, ⟨_, rfl⟩, qz⟩
end
/-! !=, by the own == -/
section
variable {M : Model} {prog : Program} {w : World} {A : Around} {E : Value → Shared → Prop} {s : Shared} {K : PySem.W.Frag} {x C f : Addr} {ox : Obj} {od : Option Obj} {y : Value}
theorem objNe_K {Q : Fin → Shared → Prop} (hu : A.units < cLine) (X : K.In s.heap) (I : PySem.W.InstAt s.heap x ox C od) (hs : PySem.W.findIn K (.ref C) "__eq__" = some (some (.ref f))) (hf : PySem.W.isFn K (.ref f) = true)
    (hcall : wpAny (model prog w) A (call (.ref f) [.ref x, y]) (fun v s' => ∃ b, v = .bool b ∧ Q (.done (.ret (.bool (!b)))) s') E s) :
    wpAny (model prog w) A (Builtin.«object.__ne__» ⟨[.ref x, y], []⟩) Q E s := by
  unfold Builtin.«object.__ne__»
  repeat (first
    | with_reducible refine wpAny_cRoomFor hu ?_
    | (refine wpAny_bind (m := callSpecialIfBound? (.ref x) (Str.ofString "__eq__") [y])
        (PySem.W.ifBound_K X I hs hf (wpAny_mono hcall (fun r s' hr => by
          obtain ⟨b, rfl, hq⟩ := hr
          repeat (first | exact hq | exact wpAny_pure hq | exact wpAny_truthy_bool hq | (refine wpAny_bind (m := truthy (.bool _)) (wpAny_truthy_bool ?_)) | wp_step)) fun _ _ e => e)))
    | wp_step)
theorem ifBound_objNe {args : List Value} {Q : Option Value → Shared → Prop} (X : K.In s.heap) (I : PySem.W.InstAt s.heap x ox C od) (hs : PySem.W.findIn K (.ref C) "__ne__" = some (some (.builtin "object.__ne__")))
    (h : wpAny M A (call (.builtin "object.__ne__") (.ref x :: args)) (fun v => Q (some v)) E s) : wpAny M A (callSpecialIfBound? (.ref x) "__ne__" args) Q E s := by
  simp only [callSpecialIfBound?, bindSpecialIfBound?]
  refine wpAny_holding (wpAny_bind (wpAny_bind (wpAny_bind (I.type.here ((PySem.W.looks_findIn X hs).here ?_)))))
  refine wpAny_bind (wpAny_askSetting (wpAny_ite ?_))
  have fin : wpAny M A (call (.builtin "object.__ne__") ([.ref x] ++ args) >>= fun v => pure (some v)) Q E s := wpAny_bind (wpAny_mono h (fun v s' h' => wpAny_pure h') fun _ _ h' => h')
  split
  · exact wpAny_bind (wpAny_of_eq (F.cmp_object.ne.bind _) (wpAny_pure (by exact fin)))
  · exact wpAny_tryCatch (wpAny_bind (wpAny_of_eq (F.cmp_object.ne.bind _) (wpAny_pure (by exact fin))))
theorem ne_K {Q : Value → Shared → Prop} {tb : Value} (hu : A.units + 1 < cLine) (X : K.In s.heap) (I : PySem.W.InstAt s.heap x ox C od) (hb : PySem.W.Looks (model prog w) s.heap (typeOf y) (.ref C)) (hm : PySem.W.mroIn K C (.type "object") = some true)
    (hn : PySem.W.findIn K (.ref C) "__ne__" = some (some (.builtin "object.__ne__"))) (hs : PySem.W.findIn K (.ref C) "__eq__" = some (some (.ref f))) (hf : PySem.W.isFn K (.ref f) = true)
    (hcall : wpAny (model prog w) A.in1 (call (.ref f) [.ref x, y]) (fun v s' => ∃ b, v = .bool b ∧ Q (.bool (!b)) s') E s) : wpAny (model prog w) A (richCompare .NotEq (.ref x) y) Q E s := by
  have one : wpAny (model prog w) A (tryCompare (.ref x) "__ne__" y) (fun r s' => ∃ b : Bool, r = some (.bool (!b)) ∧ Q (.bool (!b)) s') E s := by
    unfold tryCompare
    refine wpAny_bind (ifBound_objNe X I hn (wpAny_call (codeAny_call_builtin F.cmp_object.ne.plain F.cmpEntry_ne (PySem.W.check_slot F.cmpKind_ne F.cmpSplit_ne (I.type.andThen (PySem.W.looks_mroIn X hm)) (F.cmpArgs_ne _ _)
      (objNe_K (A := A.in1) (show A.in1.units < cLine from hu) X I hs hf (wpAny_mono hcall (fun v s' hv => ?_) fun _ _ e => e))))))
    obtain ⟨b, rfl, hq⟩ := hv
    first | exact ⟨b, rfl, wpAny_pure ⟨b, rfl, hq⟩⟩ | exact ⟨b, rfl, wpAny_pure (wpAny_pure ⟨b, rfl, hq⟩)⟩
  simp only [richCompare, cmpInfo_NotEq, oneThing_ref]
  refine wpAny_holding (wpAny_bind (wpAny_cRoomFor (Nat.lt_of_succ_lt hu) ?_))
  refine wpAny_bind (I.type.here (wpAny_bind (hb.here ?_)))
  rw [show (Value.ref C != Value.ref C) = false from by simp]
  simp only [Bool.false_eq_true, if_false]
  refine wpAny_bind (wpAny_pure ?_)
  simp only [Bool.false_eq_true, if_false]
  refine wpAny_bind (m := tryCompare (.ref x) _ y) (wpAny_mono one (fun r s' z => ?_) fun _ _ e => e)
  obtain ⟨b, rfl, hq⟩ := z
  first | exact wpAny_pure hq | exact wpAny_pure (wpAny_pure hq)
end
section
variable {X : Cx} {CX : CXT} {C g : Addr} {n : Nat} {sp : Sp} {E : XK}
def rNeI (C : Addr) (sp : Sp) (E : XK) : R2 := fun x y H Q => ∃ a dx fs b dy gs, x = .ref a ∧ H a = some (.ins C dx fs) ∧ y = .ref b ∧ H b = some (.ins C dy gs) ∧ sp [x, y] H (fun v H' => ∃ k, v = .bl k ∧ Q (.bl (!k)) H') E
theorem op_neI (hn : PySem.W.findIn X.K (.ref C) "__ne__" = some (some (.builtin "object.__ne__"))) (hm : PySem.W.mroIn X.K C (.type "object") = some true) (hs : PySem.W.findIn X.K (.ref C) "__eq__" = some (some (.ref g))) (hf : PySem.W.isFn X.K (.ref g) = true)
    (F : FnR X.prog X.w X.K X.mg X.base CX n g sp) (hr : Room (n + 1) X.A) (hx : Passes CX X E) : OpR X (compareOp .NotEq) (rNeI C sp E) := by
  intro pins s σ H x y v u Q I rx ry h
  obtain ⟨a, dx, fs, b, dy, gs, rfl, ha, rfl, hb, q⟩ := h
  cases (show v = Value.ref a from rx)
  cases (show u = Value.ref b from ry)
  obtain ⟨od, J⟩ := ins_at I ha
  obtain ⟨od', J'⟩ := ins_at I hb
  have hu : X.A.units + 1 < cLine := by have := hr.un; omega
  unfold compareOp
  refine ne_K (tb := .none) hu I.kIn J J'.type hm hn hs hf ?_
  refine wpAny_mono (wpAny_call (SlX.run_at (us := [.ref a, .ref b]) (ws := [.ref a, .ref b]) F hr.in1 I.env0.in1 hx I (.cons rfl (.cons rfl .nil)) q)) (fun w s' z => ?_) fun _ _ x => x
  obtain ⟨z', H', I', rz, k, ek, qz⟩ := z
  subst ek
  cases (show w = Value.bool k from rz)
  exact ⟨k, rfl, .bl (!k), H', I', rfl, qz⟩
end
/-! x op= y, no own in-place def -/
section
variable {prog : Program} {w : World} {A : Around} {E : Value → Shared → Prop} {s : Shared} {K : PySem.W.Frag} {x C L f : Addr} {h₀ : Heap} {m : Str → Option Value} {ox : Obj} {od : Option Obj}
theorem noFill {M : Model} {h : Heap} {nm : String} {cd : PySem.ClassData} (X : K.In h) (hc : PySem.W.clsIn K C = some cd) (hm : cd.mro = [.ref C, .type "object"]) (hs : PySem.W.findIn K (.ref C) (PySem.dunderI nm) = some none) (ho : typeLookup (.type "object") (PySem.dunderI nm) = pure none) :
    PySem.W.Looks M h (fillsInplaceSlot (.ref C) nm false) false := by
  intro A Q E s k q
  unfold fillsInplaceSlot
  refine wpAny_bind ((PySem.W.looks_clsIn X hc).andThen (f := fun cd => pure cd.mro) .now A _ E s k ?_)
  rw [hm, List.anyM_cons]
  refine wpAny_bind (wpAny_bind (PySem.W.looks_findIn X hs A _ E s k ?_))
  dsimp only
  refine wpAny_pure ?_
  simp only [Bool.false_eq_true, if_false]
  rw [List.anyM_cons]
  refine wpAny_bind (wpAny_bind (wpAny_of_eq ho ?_))
  dsimp only
  refine wpAny_pure ?_
  simp only [Bool.false_eq_true, if_false]
  rw [List.anyM_nil]
  exact wpAny_pure q
theorem ibinop_K {op : Operator} {b : Value} {Q : Value → Shared → Prop} {cd : PySem.ClassData} (hop : (op == .Add) = false) (F : Fr h₀ L s.heap m) (X₀ : K.In h₀) (I : PySem.W.InstAt s.heap x ox C od) (hb : PySem.W.Looks (model prog w) s.heap (typeOf b) (.ref C)) (hc : PySem.W.clsIn K C = some cd) (hm : cd.mro = [.ref C, .type "object"])
    (hi : PySem.W.findIn K (.ref C) (PySem.dunderI op.info.2) = some none) (ho : typeLookup (.type "object") (PySem.dunderI op.info.2) = pure none)
    (hs : PySem.W.findIn K (.ref C) (PySem.dunder op.info.2) = some (some (.ref f))) (hf : PySem.W.isFn K (.ref f) = true)
    (h : wpAny (model prog w) A (call (.ref f) [.ref x, b]) (PySem.W.CmpBack Q) E s) : wpAny (model prog w) A (inplaceOp op (.ref x) b) Q E s := by
  have X := X₀.keeps F.keep
  unfold inplaceOp
  refine wpAny_holding (wpAny_bind (I.type.here ?_))
  rw [hop]
  refine wpAny_bind ((noFill X hc hm hi ho).here ?_)
  simp only [Bool.false_eq_true, if_false]
  refine wpAny_bind ?_
  unfold binaryOp1
  refine wpAny_bind (I.type.here (wpAny_bind (hb.here (wpAny_bind ((PySem.W.fills_K X hc hm hs).here ?_)))))
  simp only [beq_self_eq_true, if_true]
  refine wpAny_bind (wpAny_pure ?_)
  simp only [Bool.and_false, Bool.false_eq_true, if_false, Bool.false_and]
  refine wpAny_bind (wpAny_pure ?_)
  simp only [Bool.false_eq_true, if_false]
  refine wpAny_bind (m := tryMethod (.ref x) _ b) ?_
  unfold tryMethod
  refine wpAny_bind (PySem.W.special_fn X I hs (beq_iff_eq.mp hf) (wpAny_mono h (fun v s' hv => ?_) fun _ _ e => e))
  cases v <;> first | exact hv.elim | exact wpAny_pure (wpAny_pure (wpAny_pure hv))
end
section
variable {X : Cx} {CX : CXT} {C g : Addr} {n : Nat} {sp : Sp} {E : XK}
theorem iop_binI {op : Operator} (hop : (op == .Add) = false) (hc : ∃ cd, PySem.W.clsIn X.K C = some cd ∧ cd.mro = [.ref C, .type "object"]) (hi : PySem.W.findIn X.K (.ref C) (PySem.dunderI op.info.2) = some none) (ho : typeLookup (.type "object") (PySem.dunderI op.info.2) = pure none)
    (hs : PySem.W.findIn X.K (.ref C) (PySem.dunder op.info.2) = some (some (.ref g))) (hf : PySem.W.isFn X.K (.ref g) = true) (F : FnR X.prog X.w X.K X.mg X.base CX n g sp)
    (hr : Room n X.A) (hx : Passes CX X E) : OpR X (inplaceOp op) (rBinI C sp E) := by
  intro pins s σ H x y v u Q I rx ry h
  obtain ⟨a, dx, fs, b, dy, gs, rfl, ha, rfl, hb, q⟩ := h
  cases (show v = Value.ref a from rx)
  cases (show u = Value.ref b from ry)
  obtain ⟨od, J⟩ := ins_at I ha
  obtain ⟨od', J'⟩ := ins_at I hb
  obtain ⟨m, hF⟩ := I.fr
  obtain ⟨cd, c1, c2⟩ := hc
  refine ibinop_K (op := op) hop hF I.ok.mod.kin J J'.type c1 c2 hi ho hs hf ?_
  refine wpAny_mono (wpAny_call (run_fnR (us := [.ref a, .ref b]) (vs := [.ref a, .ref b]) F hr hx I (.cons rfl (.cons rfl .nil)) q)) (fun w s' z => ?_) fun _ _ x => x
  obtain ⟨z', H', I', rz, qz⟩ := z
  exact SlX.cmpback rz ⟨z', H', I', rz, qz⟩
end
/-! tokens -/
/-- an expression that gives one out -/
def PEK (X : Cx) (e : Expr) (t : TE) : Prop :=
  ∀ (pins : List (Addr × Obj)) (s : Shared) (σ : L2.St) (H : Hp) (Q : VK), Inv X pins σ H s → t σ H Q → wpAny (model X.prog X.w) X.A (eval e X.env) (fun v s' => 1 ≤ s'.toks ∧ EP X pins σ Q v s') X.xe s
section
variable {X : Cx} {a e : Expr} {es : List Expr} {ta te : TE} {t : TA} {pos cp : Pos} {x : Str} {j : Nat}
theorem pek_op {op : Operator} {r : R2} (ho : OpR X (binaryOp op) r) (ha : PE X a ta) : PEK X (.BinOp a op (.Constant (.str x) j cp) pos) (tOp r ta (tC (.str x))) := by
  intro pins s σ H Q I h
  refine wpAny_BinOp (thn (ha.run pins s σ H _ I h) fun v s1 ⟨z, H1, I1, r1, q1⟩ => ?_)
  refine Calls.Constant_str ?_
  exact wpAny_mono (PySem.wpAny_toks_of (n := 1) (by show 1 ≤ s1.toks + 1; omega) (ho pins _ σ H1 z (.str x) v _ Q (I1.tok _) r1 ⟨_, rfl⟩ q1)) (fun _ _ z => z) fun _ _ z => z.2
theorem PAT.of (h : PA X es t) : PAT X es t := fun pos pins s σ H Q _ I q => h.run pos pins s σ H Q I q
theorem pa_consK (ha : PEK X e te) (hr : PAT X es t) (hs : starEach (e :: es) X.env = (false, eval e X.env) :: starEach es X.env := by rfl) : PA X (e :: es) (tCons te t) := by
  refine ⟨fun pos pins s σ H Q I h => ?_⟩
  rw [hs]
  show wpAny _ _ (spliced ((false, eval e X.env) :: backTo pos (starEach es X.env))) _ _ s
  refine Calls.spliced_cons (thn (ha pins s σ H _ I h) fun u s1 ⟨ht, x, H1, I1, r1, q1⟩ => ?_)
  exact thn (hr pos pins s1 σ H1 _ ht I1 q1) fun us s2 ⟨xs, H2, I2, r2, q2⟩ => ⟨x :: xs, H2, I2, .cons r1 r2, q2⟩
theorem pat_cons (ha : PET X e te) (hr : PAT X es t) (hs : starEach (e :: es) X.env = (false, eval e X.env) :: starEach es X.env := by rfl) : PAT X (e :: es) (tCons te t) := by
  intro pos pins s σ H Q h0 I h
  rw [hs]
  show wpAny _ _ (spliced ((false, eval e X.env) :: backTo pos (starEach es X.env))) _ _ s
  refine Calls.spliced_cons (wpAny_mono (PySem.wpAny_toks (ha pins s σ H _ h0 I h)) (fun u s1 q => ?_) fun _ _ z => z.2)
  obtain ⟨hk, x, H1, I1, r1, q1⟩ := q
  exact thn (hr pos pins s1 σ H1 _ (Nat.le_trans h0 hk) I1 q1) fun us s2 ⟨xs, H2, I2, r2, q2⟩ => ⟨x :: xs, H2, I2, .cons r1 r2, q2⟩
end
/-- a def of at least one parameter: a token is out when its body begins -/
theorem Fun.okT {P : Program} {w : World} {K : PySem.W.Frag} {mg : Str → Option Value} {base : Heap} {x qual : Str} {st : Stmt} {f : Addr} {fd : FuncData} {N ps : List Str} {k : Nat} {sp : Sp} (F : Fun K x qual st f fd) (S : FnScope N ps (defScope st))
    (hnc : ∀ y ∈ (defScope st).names, y.2 ≠ .cell) (hps : 1 ≤ ps.length) (len : ∀ vs H Q E, sp vs H Q E → vs.length = ps.length)
    (hbody : ∀ (cdv : Value) (A : Around) (outer : List Env) (s : Shared) (H : Hp) (vs : List V) (Q : VK) (E : XK), Room k (A.deeper (envOfC qual (defScope st) s.heap.objs.size f cdv)) → sp vs H Q E →
      ∃ t, PSsT (cxOf CX0 P w K mg base N qual (defScope st) f cdv A outer s H E) (defBody st) t ∧ t { nx := fun _ H' => Q .non H', rt := Q } (start N vs) H) : FnOk P w K mg base CX0 (k + 1) f fd ps sp := by
  obtain ⟨oc, od, kV, doc, pm, an, cdv, ct, osl, rfl, lk, hcd⟩ := F.ex
  exact fn_ofT lk hcd S hnc hps len fun A outer s H vs Q E hr hsp => hbody cdv A outer s H vs Q E hr hsp
/-! a static method, called off the class -/
structure SMet (K : PySem.W.Frag) (C : Addr) (mc : Value) (m : Str) (p g : Addr) : Prop where
  at_ : PySem.W.findCls K (.ref C) mc m = some (.get (.builtin "staticmethod.__get__") (.ref p) .none (.ref C))
  rc : ∃ rest, PySem.W.recIn K p "staticmethod" = some (.ref g :: rest)
  kp : PySem.W.keepIn K (.ref g) = true
def tSMeth (C : Addr) (sp : Sp) (E : XK) (ta : TE) (t : TA) : TE := fun σ H Q => ta σ H fun x H1 => x = .ref C ∧ t σ H1 fun vs H2 => sp vs H2 Q E
section
variable {X : Cx} {CX : CXT} {k : Nat} {C p g : Addr} {mc : Value} {sp : Sp} {E : XK} {o e : Expr} {es : List Expr} {m : Str} {pos apos : Pos} {ta : TE} {t : TA} {pl : Sem Bool}
theorem pe_smeth (he : PE X o ta) (r : ClX.CRead X.K C mc) (c : SMet X.K C mc m p g) (F : FnR X.prog X.w X.K X.mg X.base CX k g sp) (hr : Room k X.A) (hx : Passes CX X E) (ha : PA X (e :: es) t)
    (h1 : starEach (e :: es) X.env = (false, eval e X.env) :: starEach es X.env := by rfl) (h2 : (backTo pos (starEach es X.env)).any (·.1) = false := by rfl)
    (h3 : eval (.Call (.Attribute o m apos) (e :: es) [] pos) X.env = (do
      let ov ← eval o X.env
      standAt apos.atName
      let (f, first) ← holding [ov] (getMethod ov m pl)
      callWith pos f first (backTo pos (starEach (e :: es) X.env)) (backToKw pos (keywordEach [] X.env))) := by rfl) :
    PE X (.Call (.Attribute o m apos) (e :: es) [] pos) (tSMeth C sp E ta t) := by
  constructor
  intro pins s σ H Q I asked
  obtain ⟨rest, rec_⟩ := c.rc
  apply PySem.W.methodCall_KW (pl := pl) ?_ h3
  apply thn (he.run pins s σ H _ I asked)
  rintro u s1 ⟨x, H1, I1, rx, ex, q⟩
  subst ex
  cases (show u = Value.ref C from rx)
  apply PySem.W.method_cls I1.kIn r.ga
  apply PySem.W.cls_bind I1.kIn r.rd c.at_
  apply wpAny_call
  apply PySem.W.sm_get (s := { s1 with toks := s1.toks + 1 }) I1.kIn rec_
  apply PySem.W.handed_on rfl
  have I2 : Inv X pins σ H1 { s1 with toks := s1.toks + 1 } := I1.tok _
  apply PySem.W.callWith_K (h₀ := X.base) I2.ok.mod.kin c.kp ?_ h1 h2
  apply thn (ha.run pos pins _ σ H1 _ I2 q)
  rintro us s3 ⟨vs, H3, I3, rv, q3⟩
  exact ⟨I3.kIn, wpAny_call (run_fnR (us := us) (vs := vs) F hr hx I3 rv q3)⟩
end
end Fb
set_option maxRecDepth 100000
set_option maxHeartbeats 4000000
namespace Fb
open PySem PySem.Spec PyProof.Rows L2
open SX (S)
/-! patterns as lists of signs: 48, 49, 46 -/
/-- how many leading signs begin some pattern; none for a pattern -/
def pfa : List Nat → Nat → Nat → Nat → Nat → Option Nat
  | [], at_, _, _, size => if size = 0 then some at_ else none
  | c :: cs, at_, bits, blocks, size =>
    if ¬(c = 48 ∨ c = 49 ∨ c = 46) ∨ bits = 120 then some at_
    else if c = 46 then (if size = 0 ∨ blocks = 3 then some at_ else pfa cs (at_ + 1) bits (blocks + 1) 0)
    else pfa cs (at_ + 1) (bits + 1) blocks (size + 1)
def pf (l : List Nat) : Option Nat := pfa l 0 0 1 0
/-- the sizes of the parts between dots -/
def szA : Nat → List Nat → List Nat
  | n, [] => [n]
  | n, c :: cs => if c = 46 then n :: szA 0 cs else szA (n + 1) cs
def szs (l : List Nat) : List Nat := szA 0 l
theorem spl_len : ∀ (l acc : List Nat), (TL.spl [46] 0 acc l).map List.length = szA acc.length l
  | [], acc => by rw [TL.spl_nil]; rfl
  | c :: l, acc => by
    by_cases h : c = 46
    · subst h
      have hp : TL.pre [46] (46 :: l) = true := TL.pre_self [46] l
      rw [TL.spl_hit hp]
      show acc.length :: (TL.spl [46] 0 [] l).map List.length = szA acc.length (46 :: l)
      rw [spl_len l []]
      rfl
    · have hp : TL.pre [46] (c :: l) = false := TL.pre_of_head _ _ fun e => h e
      rw [TL.spl_miss hp, spl_len l (acc ++ [c])]
      show szA (acc ++ [c]).length l = if c = 46 then _ else szA (acc.length + 1) l
      rw [if_neg h, List.length_append]
      rfl
theorem split_lens (l : List Nat) : (Txt.split (S l) ".").map (fun z => z.length) = szs l := by
  have e : ((".":Str)) = S [46] := by decide +kernel
  rw [e, SX.split_S (by simp) (by decide), List.map_map]
  have h := spl_len l []
  show _ = szA 0 l
  rw [← (show ([] : List Nat).length = 0 from rfl), ← h]
  refine List.map_congr_left fun x _ => ?_
  show (S x).length = x.length
  exact SX.S_len x
theorem szA_len : ∀ (l : List Nat) (n : Nat), 1 ≤ (szA n l).length ∧ (szA n l).length ≤ l.length + 1
  | [], n => by simp [szA]
  | c :: l, n => by
    unfold szA
    by_cases h : c = 46
    · rw [if_pos h]
      have := szA_len l 0
      simp only [List.length_cons]
      omega
    · rw [if_neg h]
      have := szA_len l (n + 1)
      simp only [List.length_cons]
      omega
/-- signs of a pattern -/
def Sg (l : List Nat) : Prop := ∀ c ∈ l, c = 48 ∨ c = 49 ∨ c = 46
def nb (l : List Nat) : Nat := (l.filter (fun c => c != 46)).length
theorem szA_sum : ∀ (l : List Nat) (n : Nat), (szA n l).sum = n + nb l
  | [], n => by simp [szA, nb]
  | c :: l, n => by
    unfold szA nb
    by_cases h : c = 46
    · subst h
      rw [if_pos rfl, List.sum_cons, szA_sum l 0]
      simp [nb]
    · rw [if_neg h, szA_sum l (n + 1), List.filter_cons_of_pos (by simpa using h), List.length_cons]
      unfold nb
      omega
theorem pfa_good : ∀ (l : List Nat) (a bits blocks size : Nat), Sg l → (∀ n ∈ szA size l, 1 ≤ n) → blocks + (szA size l).length ≤ 4 → bits + nb l ≤ 120 → pfa l a bits blocks size = none
  | [], a, bits, blocks, size, _, h2, _, _ => by
    have : 1 ≤ size := h2 size (by simp [szA])
    unfold pfa
    rw [if_neg (by omega)]
  | c :: l, a, bits, blocks, size, h1, h2, h3, h4 => by
    have hc := h1 c List.mem_cons_self
    have h1' : Sg l := fun d hd => h1 d (List.mem_cons_of_mem _ hd)
    unfold pfa
    by_cases h : c = 46
    · subst h
      have e : szA size (46 :: l) = size :: szA 0 l := by
        show (if 46 = 46 then _ else _) = _
        rw [if_pos rfl]
      rw [e] at h2 h3
      have hs : 1 ≤ size := h2 size List.mem_cons_self
      have hl := szA_len l 0
      have sm := szA_sum l 0
      have pos : 1 ≤ (szA 0 l).sum := by
        cases q : szA 0 l with
        | nil => rw [q] at hl; simp at hl
        | cons x r =>
          have := h2 x (by rw [q]; simp)
          rw [List.sum_cons]
          omega
      have en : nb (46 :: l) = nb l := by simp [nb]
      rw [en] at h4
      rw [List.length_cons] at h3
      rw [if_neg (by omega), if_pos rfl, if_neg (by omega)]
      exact pfa_good l _ _ _ _ h1' (fun n hn => h2 n (List.mem_cons_of_mem _ hn)) (by omega) (by omega)
    · have e : szA size (c :: l) = szA (size + 1) l := by
        show (if c = 46 then _ else _) = _
        rw [if_neg h]
      rw [e] at h2 h3
      have en : nb (c :: l) = nb l + 1 := by
        unfold nb
        rw [List.filter_cons_of_pos (by simpa using h), List.length_cons]
      rw [en] at h4
      rw [if_neg (by omega), if_neg h]
      exact pfa_good l _ _ _ _ h1' h2 h3 (by omega)
/-- a pattern -/
structure IsP (l : List Nat) : Prop where
  sg : Sg l
  one : ∀ n ∈ szs l, 1 ≤ n
  few : (szs l).length ≤ 3
  sum : nb l ≤ 120
theorem IsP.pf {l : List Nat} (h : IsP l) : pf l = none := pfa_good l 0 0 1 0 h.sg h.one (by have := h.few; unfold szs at this; omega) (by have := h.sum; omega)
theorem len_nb : ∀ (l : List Nat) (n : Nat), l.length + 1 = nb l + (szA n l).length
  | [], n => by simp [nb, szA]
  | c :: l, n => by
    unfold szA nb
    by_cases h : c = 46
    · subst h
      rw [if_pos rfl, List.length_cons, List.length_cons, len_nb l 0]
      simp [nb]
      omega
    · rw [if_neg h, List.length_cons, len_nb l (n + 1), List.filter_cons_of_pos (by simpa using h), List.length_cons]
      unfold nb
      omega
theorem IsP.len {l : List Nat} (h : IsP l) : l.length ≤ 122 := by
  have h1 := len_nb l 0
  have h2 := h.few
  have h3 := h.sum
  unfold szs at h2
  omega
/-! two patterns of equal sizes -/
def AlS (a b : Nat) : Prop := (a = 46 ∧ b = 46) ∨ ((a = 48 ∨ a = 49) ∧ (b = 48 ∨ b = 49))
abbrev Al (l m : List Nat) : Prop := Paired AlS l m
theorem Al.szA : ∀ {l m : List Nat}, Al l m → ∀ n, Fb.szA n l = Fb.szA n m
  | _, _, .nil, n => rfl
  | a :: l, b :: m, .cons r t, n => by
    show (if a = 46 then _ else _) = (if b = 46 then _ else _)
    rcases r with ⟨rfl, rfl⟩ | ⟨h1, h2⟩
    · rw [if_pos rfl, if_pos rfl, Al.szA t 0]
    · rw [if_neg (by omega), if_neg (by omega), Al.szA t (n + 1)]
theorem Al.szs {l m : List Nat} (h : Al l m) : Fb.szs l = Fb.szs m := h.szA 0
theorem Al.nb {l m : List Nat} (h : Al l m) : Fb.nb l = Fb.nb m := by
  have h1 := szA_sum l 0
  have h2 := szA_sum m 0
  rw [h.szA 0] at h1
  omega
theorem Al.len : ∀ {l m : List Nat}, Al l m → l.length = m.length
  | _, _, .nil => rfl
  | _, _, .cons _ t => by rw [List.length_cons, List.length_cons, Al.len t]
theorem Al.sg : ∀ {l m : List Nat}, Al l m → Sg m
  | _, _, .nil => fun c hc => by simp at hc
  | _, _, .cons r t => fun c hc => by
    rcases List.mem_cons.mp hc with e | e
    · subst e
      rcases r with ⟨_, h⟩ | ⟨_, h⟩ <;> omega
    · exact Al.sg t c e
theorem Al.symm : ∀ {l m : List Nat}, Al l m → Al m l
  | _, _, .nil => .nil
  | _, _, .cons r t => .cons (by rcases r with ⟨h1, h2⟩ | ⟨h1, h2⟩; exact .inl ⟨h2, h1⟩; exact .inr ⟨h2, h1⟩) (Al.symm t)
theorem Al.refl : ∀ {l : List Nat}, Sg l → Al l l
  | [], _ => .nil
  | c :: l, h => .cons (by rcases h c List.mem_cons_self with e | e | e; exact .inr ⟨.inl e, .inl e⟩; exact .inr ⟨.inr e, .inr e⟩; exact .inl ⟨e, e⟩) (Al.refl fun d hd => h d (List.mem_cons_of_mem _ hd))
theorem Al.trans : ∀ {l m k : List Nat}, Al l m → Al m k → Al l k
  | _, _, _, .nil, .nil => .nil
  | _, _, _, .cons r t, .cons r' t' => .cons (by rcases r with ⟨h1, h2⟩ | ⟨h1, h2⟩ <;> rcases r' with ⟨h3, h4⟩ | ⟨h3, h4⟩; exact .inl ⟨h1, h4⟩; omega; omega; exact .inr ⟨h1, h4⟩) (Al.trans t t')
theorem Al.isP {l m : List Nat} (h : Al l m) (p : IsP l) : IsP m :=
  ⟨h.sg, by rw [← h.szs]; exact p.one, by rw [← h.szs]; exact p.few, by rw [← h.nb]; exact p.sum⟩
/-- sign by sign -/
def zw (f : Nat → Nat → Nat) (l m : List Nat) : List Nat := List.zipWith f l m
theorem Al.zw {f : Nat → Nat → Nat} (hf : ∀ a b, AlS a b → AlS a (f a b)) : ∀ {l m : List Nat}, Al l m → Al l (zw f l m)
  | _, _, .nil => .nil
  | _, _, .cons r t => .cons (hf _ _ r) (Al.zw hf t)
def fAnd (a b : Nat) : Nat := if a = b then a else 48
def fOr (a b : Nat) : Nat := if a = b then a else 49
def fXor (a b : Nat) : Nat := if a ≠ b then 49 else if a = 46 then 46 else 48
theorem al_and (a b : Nat) (h : AlS a b) : AlS a (fAnd a b) := by
  unfold AlS fAnd at *
  by_cases e : a = b
  · subst e; rw [if_pos rfl]; omega
  · rw [if_neg e]; omega
theorem al_or (a b : Nat) (h : AlS a b) : AlS a (fOr a b) := by
  unfold AlS fOr at *
  by_cases e : a = b
  · subst e; rw [if_pos rfl]; omega
  · rw [if_neg e]; omega
theorem al_xor (a b : Nat) (h : AlS a b) : AlS a (fXor a b) := by
  unfold AlS fXor at *
  by_cases e : a = b
  · subst e; rw [if_neg (by simp)]; by_cases q : a = 46
    · rw [if_pos q]; omega
    · rw [if_neg q]; omega
  · rw [if_pos e]; omega
/-- each sign of the one is at most the other's -/
def below (l m : List Nat) : Bool := (List.zipWith (fun a b => decide (a ≤ b)) l m).all id
theorem szA_head : ∀ (l : List Nat) (n : Nat), ∃ h r, szA n l = h :: r ∧ n ≤ h
  | [], n => ⟨n, [], rfl, Nat.le_refl _⟩
  | c :: l, n => by
    unfold szA
    by_cases h : c = 46
    · rw [if_pos h]
      exact ⟨n, _, rfl, Nat.le_refl _⟩
    · rw [if_neg h]
      obtain ⟨x, r, e, hx⟩ := szA_head l (n + 1)
      exact ⟨x, r, e, by omega⟩
theorem al_of : ∀ {l m : List Nat}, Sg l → Sg m → ∀ n, szA n l = szA n m → Al l m
  | [], [], _, _, _, _ => .nil
  | [], c :: m, _, _, n, e => by
    exfalso
    unfold szA at e
    by_cases h : c = 46
    · rw [if_pos h] at e
      have := szA_len m 0
      simp at e
      rw [e] at this
      simp at this
    · rw [if_neg h] at e
      obtain ⟨x, r, e2, hx⟩ := szA_head m (n + 1)
      rw [e2] at e
      simp at e
      omega
  | c :: l, [], _, _, n, e => by
    exfalso
    unfold szA at e
    by_cases h : c = 46
    · rw [if_pos h] at e
      have := szA_len l 0
      simp at e
      rw [e] at this
      simp at this
    · rw [if_neg h] at e
      obtain ⟨x, r, e2, hx⟩ := szA_head l (n + 1)
      rw [e2] at e
      simp at e
      omega
  | c :: l, d :: m, hl, hm, n, e => by
    have h1 : Sg l := fun x hx => hl x (List.mem_cons_of_mem _ hx)
    have h2 : Sg m := fun x hx => hm x (List.mem_cons_of_mem _ hx)
    have hc := hl c List.mem_cons_self
    have hd := hm d List.mem_cons_self
    unfold szA at e
    by_cases h : c = 46
    · by_cases h' : d = 46
      · rw [if_pos h, if_pos h'] at e
        exact .cons (.inl ⟨h, h'⟩) (al_of h1 h2 0 (List.cons.inj e).2)
      · exfalso
        rw [if_pos h, if_neg h'] at e
        obtain ⟨x, r, e2, hx⟩ := szA_head m (n + 1)
        rw [e2] at e
        have := (List.cons.inj e).1
        omega
    · by_cases h' : d = 46
      · exfalso
        rw [if_neg h, if_pos h'] at e
        obtain ⟨x, r, e2, hx⟩ := szA_head l (n + 1)
        rw [e2] at e
        have := (List.cons.inj e).1
        omega
      · rw [if_neg h, if_neg h'] at e
        exact .cons (.inr ⟨by omega, by omega⟩) (al_of h1 h2 (n + 1) e)
/-! places -/
theorem S_sgn {l : List Nat} {i c : Nat} (h : l[i]? = some c) : (⟨#[(S l).cps.getD i 0]⟩ : Str) = S [c] := by
  have e : (S l).cps.getD i 0 = c := by
    show l.toArray.getD i 0 = c
    rw [Array.getD_eq_getD_getElem?]
    simp [h]
  rw [e]
theorem join_empty : ∀ xs : List Nat, TL.joinL [] (xs.map fun c => [c]) = xs
  | [] => rfl
  | [a] => rfl
  | a :: b :: r => by
    have h := join_empty (b :: r)
    show [a] ++ [] ++ TL.joinL [] ((b :: r).map fun c => [c]) = _
    rw [h]
    rfl
theorem join_signs (xs : List Nat) : Txt.join "" (xs.map fun c => S [c]) = S xs := by
  have e : (("" : Str)) = S [] := by decide +kernel
  have h := SX.join_S [] (xs.map fun c => [c])
  rw [e]
  rw [List.map_map] at h
  rw [join_empty] at h
  exact h
theorem repl_dots : ∀ l : List Nat, StrLaws.replL [46] [] l = l.filter (fun c => c != 46)
  | [] => StrLaws.replL_nil
  | c :: l => by
    by_cases h : c = 46
    · subst h
      rw [StrLaws.replL_hit (by simp) (by simp), List.filter_cons_of_neg (by simp)]
      exact repl_dots l
    · rw [StrLaws.replL_miss (by simpa using h), List.filter_cons_of_pos (by simpa using h), repl_dots l]
theorem replace_dots (l : List Nat) : Txt.replace (S l) "." "" = S (l.filter (fun c => c != 46)) := by
  have e1 : ((".":Str)) = S [46] := by decide +kernel
  have e2 : (("" : Str)) = S [] := by decide +kernel
  rw [e1, e2]
  refine TL.ext_tl ?_
  have h := StrLaws.replace_list (x := S l) (y := S [46]) (z := S []) (by decide)
  exact h.trans (repl_dots l)
/-! the other way -/
theorem pfa_conv : ∀ (l : List Nat) (a bits blocks size : Nat), blocks ≤ 3 → bits ≤ 120 → pfa l a bits blocks size = none → Sg l ∧ (∀ n ∈ szA size l, 1 ≤ n) ∧ blocks + (szA size l).length ≤ 4 ∧ bits + nb l ≤ 120
  | [], a, bits, blocks, size, hb, hc, h => by
    unfold pfa at h
    by_cases e : size = 0
    · rw [if_pos e] at h; cases h
    · refine ⟨fun c hc => by simp at hc, fun n hn => ?_, by simp [szA]; omega, by simp [nb]; omega⟩
      have : n = size := by simpa [szA] using hn
      omega
  | c :: l, a, bits, blocks, size, hb, hc, h => by
    unfold pfa at h
    by_cases e : ¬(c = 48 ∨ c = 49 ∨ c = 46) ∨ bits = 120
    · rw [if_pos e] at h; cases h
    · rw [if_neg e] at h
      have e1 : c = 48 ∨ c = 49 ∨ c = 46 := by
        by_cases q : c = 48 ∨ c = 49 ∨ c = 46
        · exact q
        · exact absurd (.inl q) e
      have e2 : ¬ bits = 120 := fun q => e (.inr q)
      have sg : ∀ {l : List Nat}, Sg l → Sg (c :: l) := fun h d hd => by
        rcases List.mem_cons.mp hd with q | q
        · rw [q]; exact e1
        · exact h d q
      by_cases d : c = 46
      · rw [if_pos d] at h
        by_cases f : size = 0 ∨ blocks = 3
        · rw [if_pos f] at h; cases h
        · rw [if_neg f] at h
          obtain ⟨h1, h2, h3, h4⟩ := pfa_conv l _ _ _ _ (by omega) (by omega) h
          have es : szA size (c :: l) = size :: szA 0 l := by
            show (if c = 46 then _ else _) = _
            rw [if_pos d]
          have en : nb (c :: l) = nb l := by subst d; simp [nb]
          rw [es, en]
          refine ⟨sg h1, fun n hn => ?_, by rw [List.length_cons]; omega, h4⟩
          rcases List.mem_cons.mp hn with q | q
          · omega
          · exact h2 n q
      · rw [if_neg d] at h
        obtain ⟨h1, h2, h3, h4⟩ := pfa_conv l _ _ _ _ (by omega) (by omega) h
        have es : szA size (c :: l) = szA (size + 1) l := by
          show (if c = 46 then _ else _) = _
          rw [if_neg d]
        have en : nb (c :: l) = nb l + 1 := by
          unfold nb
          rw [List.filter_cons_of_pos (by simpa using d), List.length_cons]
        rw [es, en]
        exact ⟨sg h1, h2, h3, by omega⟩
theorem isP_pf {l : List Nat} (h : Fb.pf l = none) : IsP l := by
  obtain ⟨h1, h2, h3, h4⟩ := pfa_conv l 0 0 1 0 (by decide) (by decide) h
  exact ⟨h1, h2, by unfold szs; omega, by omega⟩
end Fb
set_option maxRecDepth 100000
set_option maxHeartbeats 4000000
namespace Fb
open PySem PySem.Spec PyProof.Rows L2
/-! the document's own error classes -/
abbrev bmX (fe : Addr) : List Value := [.ref fe, .type "ValueError", .type "Exception", .type "BaseException", .type "object"]
/-- what the written part says of an own error class under FallenError -/
structure XF (K : PySem.W.Frag) (mg : Str → Option Value) (fe : Addr) (x : Str) (C : Addr) : Prop where
  g : mg x = some (.ref C)
  ob : ∃ nm q N bs sn sub ab col dd k0 k1 k2 k3 k5, K.lookup C = some (excClassObj nm q C N bs (bmX fe) true sn sub ab col dd k0 k1 k2 k3 k5 "ValueError.__new__")
  kp : PySem.W.keepIn K (.ref C) = true
  ty : PySem.W.typeIn K (.ref C) = some (.type "type")
  sa : PySem.W.findIn K (.ref C) "__setattr__" = some (some (.builtin "object.__setattr__"))
  ga : PySem.W.findIn K (.ref C) "__getattribute__" = some (some (.builtin "BaseException.__getattribute__"))
  gg : PySem.W.findIn K (.ref C) "__getattr__" = some none
  ca : PySem.W.findIn K (.ref C) "__class__" = some (some (.builtin "object.__class__"))
section
variable {K : PySem.W.Frag} {mg : Str → Option Value} {fe C : Addr} {x : Str}
theorem XF.cls (T : XF K mg fe x C) : ∃ cd, PySem.W.clsIn K C = some cd ∧ cd.mro = .ref C :: bmX fe ∧ cd.hasDict = true := by
  obtain ⟨nm, q, N, bs, sn, sub, ab, col, dd, k0, k1, k2, k3, k5, h⟩ := T.ob
  exact ⟨{ name := nm, bases := bs, mro := .ref C :: bmX fe, ns := N, qualname := q, hasDict := true, slotNames := sn, subclasses := sub, abstract := ab, collection := col, hasDel := false }, by unfold PySem.W.clsIn; rw [h] <;> rfl, rfl, rfl⟩
theorem XF.mro (T : XF K mg fe x C) (b : Value) : PySem.W.mroIn K C b = some ((Value.ref C :: bmX fe).contains b) := by
  obtain ⟨cd, h1, h2, _⟩ := T.cls
  unfold PySem.W.mroIn
  rw [h1, Option.bind_some, h2] <;> rfl
theorem XF.xc (T : XF K mg fe x C) : XC K C := by
  obtain ⟨cd, h1, h2, h3⟩ := T.cls
  refine ⟨by rw [h1]; rfl, T.ga, T.gg, ?_, T.ca, ?_, by unfold PySem.W.hasDictIn; rw [h1] <;> exact h3⟩
  · show PySem.W.mroIn K C _ = _
    rw [T.mro] <;> simp
  · rw [T.mro] <;> simp
theorem XF.oc (T : XF K mg fe x C) : OexC K C := by
  obtain ⟨nm, q, N, bs, sn, sub, ab, col, dd, k0, k1, k2, k3, k5, h⟩ := T.ob
  exact ⟨⟨nm, q, N, bs, bmX fe, sn, sub, ab, col, dd, k0, k1, k2, k3, k5, h, by rfl⟩, T.sa, T.xc.sb, T.ty, T.kp⟩
/-- isinstance(e, D), e of the class at C, D at another address that is a class too -/
theorem XF.is {D : Addr} {y : Str} (T : XF K mg fe x C) (U : XF K mg fe y D) (hf : D ≠ fe) : PySem.W.kitOne K (.ref C) (.ref D) = some (decide (C = D)) := by
  unfold PySem.W.kitOne
  by_cases e : C = D
  · subst e
    simp
  · have e1 : (Value.ref C == Value.ref D) = false := beq_eq_false_iff_ne.mpr fun z => e (Value.ref.inj z)
    rw [e1, if_neg Bool.false_ne_true, decide_eq_false e]
    unfold PySem.W.kitCls
    have e2 : ((PySem.W.clsIn K D).isSome && PySem.W.typeIn K (.ref D) == some (.type "type")) = true := by
      rw [U.xc.cl, U.ty] <;> rfl
    show (if ((PySem.W.clsIn K D).isSome && PySem.W.typeIn K (.ref D) == some (.type "type")) = true then PySem.W.subIn K (.ref C) (.ref D) else none) = _
    rw [if_pos e2]
    show PySem.W.mroIn K C (.ref D) = _
    rw [T.mro]
    have e3 : (Value.ref D == Value.ref C) = false := beq_eq_false_iff_ne.mpr fun z => e (Value.ref.inj z).symm
    have e4 : (Value.ref D == Value.ref fe) = false := beq_eq_false_iff_ne.mpr fun z => hf (Value.ref.inj z)
    have e5 : ∀ T : String, (Value.ref D == Value.type T) = false := fun T => rfl
    simp [List.contains, List.elem, e3, e4, e5]
theorem XF.isF (T : XF K mg fe x C) (hc : (PySem.W.clsIn K fe).isSome = true) (ht : PySem.W.typeIn K (.ref fe) = some (.type "type")) : PySem.W.kitOne K (.ref C) (.ref fe) = some true := by
  unfold PySem.W.kitOne
  by_cases e : C = fe
  · subst e
    simp
  · have e1 : (Value.ref C == Value.ref fe) = false := beq_eq_false_iff_ne.mpr fun z => e (Value.ref.inj z)
    rw [e1, if_neg Bool.false_ne_true]
    have e2 : ((PySem.W.clsIn K fe).isSome && PySem.W.typeIn K (.ref fe) == some (.type "type")) = true := by
      rw [hc, ht] <;> rfl
    show (if ((PySem.W.clsIn K fe).isSome && PySem.W.typeIn K (.ref fe) == some (.type "type")) = true then PySem.W.subIn K (.ref C) (.ref fe) else none) = _
    rw [if_pos e2]
    show PySem.W.mroIn K C (.ref fe) = _
    rw [T.mro]
    simp
theorem XF.isV (T : XF K mg fe x C) : PySem.W.kitOne K (.ref C) (.type "ValueError") = some true := by
  unfold PySem.W.kitOne
  have e1 : (Value.ref C == Value.type "ValueError") = false := by rfl
  rw [e1, if_neg Bool.false_ne_true]
  show (if PySem.W.kitMeta "ValueError" = true then PySem.W.subIn K (.ref C) (.type "ValueError") else none) = _
  rw [if_pos (by decide +kernel)]
  show PySem.W.mroIn K C _ = _
  rw [T.mro]
  simp
end
theorem XF.of {K : PySem.W.Frag} {h : Heap} {mg : Str → Option Value} {fe C N : Addr} {x nm q : Str} {bs : List Value} {sn : List Str} {sub : List Value} {ab : Bool} {col : Option Bool} {dd : Option Addr} {k0 k1 k2 k3 k5 : Option Value} (X : K.In h) (G : h.Ns mainGlobals mg)
    (g : PySem.W.nsIn K mainGlobals x = some (some (.ref C))) (ob : K.lookup C = some (excClassObj nm q C N bs (bmX fe) true sn sub ab col dd k0 k1 k2 k3 k5 "ValueError.__new__")) (kp : PySem.W.keepIn K (.ref C) = true) (ty : PySem.W.typeIn K (.ref C) = some (.type "type"))
    (sa : PySem.W.findIn K (.ref C) "__setattr__" = some (some (.builtin "object.__setattr__"))) (ga : PySem.W.findIn K (.ref C) "__getattribute__" = some (some (.builtin "BaseException.__getattribute__"))) (gg : PySem.W.findIn K (.ref C) "__getattr__" = some none)
    (ca : PySem.W.findIn K (.ref C) "__class__" = some (some (.builtin "object.__class__"))) : XF K mg fe x C :=
  ⟨PySem.W.mg_of X G g, ⟨nm, q, N, bs, sn, sub, ab, col, dd, k0, k1, k2, k3, k5, ob⟩, kp, ty, sa, ga, gg, ca⟩
/-! isinstance of an exception that was caught and is kept -/
section
variable {X : Cx} {pins : List (Addr × Obj)} {σ : L2.St} {H : Hp} {s : Shared}
theorem exr_inst {a C : Addr} (I : Inv X pins σ H s) (h : H a = some (ExR (.ref C) none a)) : ∃ ox, PySem.W.InstAt s.heap a ox C none := by
  obtain ⟨⟨oe, vs, ho, h1, h2, h3⟩, _, _⟩ := I.hok a _ h
  refine ⟨oe, ho, h1, ?_, ?_⟩
  · unfold PySem.W.notCls; rw [h3] <;> rfl
  · rw [h2] <;> trivial
def rIsR (K : PySem.W.Frag) : List V → Hp → VK → Prop := fun xs H Q => ∃ (a C : Addr) (c : V) (cv : Value) (b : Bool), xs = [.ref a, c] ∧ XC K C ∧ XB K ∧ H a = some (ExR (.ref C) none a) ∧ ClsV c cv ∧ PySem.W.kitOne K (.ref C) cv = some b ∧ Q (.bl b) H
theorem call_isR : CallR X (.builtin "isinstance") (rIsR X.K) := by
  intro pins s σ H xs us Q I r h
  obtain ⟨a, C, c, cv, b, rfl, T, B, hE, k, e, q⟩ := h
  obtain ⟨u1, u2, rfl, r1, r2⟩ := vals2 r
  have e2 := k.eq r2
  subst e2
  cases (show u1 = Value.ref a from r1)
  obtain ⟨ox, J⟩ := exr_inst I hE
  exact PySem.W.kia_one (PySem.W.kitx_exc T.cl T.ga T.gg T.sb T.ca B.hn B.ht T.ob) I.kIn J e (fun z => nomatch z) fun tk => ⟨.bl b, H, I.tok tk, rfl, q⟩
end
/-- an own __init__ of one field -/
def spI1 (C : Addr) (f : Str) : Sp := fun vs H Q _ => ∃ (a : Addr) (v : V), vs = [.ref a, v] ∧ H a = some (exo a C none) ∧ ∀ d, H d = none → d ≠ a → Q .non (upd (upd H d (exd d [(f, v)])) a (exo a C (some d)))
end Fb
set_option maxRecDepth 100000
set_option maxHeartbeats 4000000
namespace Fb
open PySem PySem.Spec PyProof.Rows L2
/-! list comprehensions that leave what was: the list so far is told by a function of the turn -/
section
variable {g : TG} {tt : TT} {te : TE} {vs : List Nat} {σ : L2.St} {H1 : Hp} {D : Addr} {Qd : Hp → Prop} (out : Nat → List V)
def OutI (H1 : Hp) (D : Addr) (o : List V) (H : Hp) : Prop := Same H1 H ∧ H D = some (.lst o)
theorem OutI.start {H1 : Hp} {D : Addr} (hD : H1 D = none) : OutI H1 D [] (upd H1 D (.lst [])) := ⟨smN (Same.refl _) hD, upd_same⟩
theorem OutI.put {H1 H H4 : Hp} {D : Addr} {o : List V} {y : V} (hD : H1 D = none) (h : OutI H1 D o H) (s : Same H H4) : OutI H1 D (o ++ [y]) (upd H4 D (.lst (o ++ [y]))) :=
  ⟨fun b u e => by rw [upd_ne (ne_of_none e hD)]; exact s _ _ (h.1 _ _ e), upd_same⟩
theorem OutI.stay {H1 H H4 : Hp} {D : Addr} {o : List V} (h : OutI H1 D o H) (s : Same H H4) : OutI H1 D o H4 := ⟨h.1.trans s, s _ _ h.2⟩
theorem lc_outL {K : PySem.W.Frag} {a : Addr} {xs : List V} (hD : H1 D = none) (hl : SqL K H1 a xs) (o0 : out 0 = []) (ol : ∀ i, i < xs.length → (out i).length < sizeLine)
    (hs : ∀ i x H (Kc : V → Hp → Prop) (K0 : Hp → Prop), xs[i]? = some x → Same H1 H → (∀ y H4, Same H H4 → out (i + 1) = out i ++ [y] → Kc y H4) → (∀ H4, Same H H4 → out (i + 1) = out i → K0 H4) →
      g x (wipe σ vs) H fun σ2 H2 => wipe σ2 vs = wipe σ vs ∧ tt σ2 H2 fun b H3 => if b = true then te σ2 H3 Kc else K0 H3)
    (hd : ∀ H, Same H1 H → H D = some (.lst (out xs.length)) → Qd H) :
    ∃ W : Nat → Nat → Hp → Prop, (∃ m, W 0 m (upd H1 D (.lst []))) ∧ ∀ i m H, W i m H →
      ((Itl K a).stop i H ∧ Qd H) ∨ ((Itl K a).go i H ∧ ∃ Nx : Hp → Prop, (∀ H', Nx H' → ∃ m', m' < m ∧ W (i + 1) m' H') ∧ ∀ x H', (Itl K a).yld i H x H' → g x (wipe σ vs) H' fun σ2 H2 => wipe σ2 vs = wipe σ vs ∧ tt σ2 H2 fun b H3 =>
        if b = true then te σ2 H3 fun y H4 => ∃ acc, H4 D = some (.lst acc) ∧ acc.length < sizeLine ∧ Nx (upd H4 D (.lst (acc ++ [y]))) else Nx H3) := by
  refine lc_list (xs := xs) (fun i H => OutI H1 D (out i) H) (by rw [o0]; exact OutI.start hD) (fun i H _ h => h.1.seq hl) (fun i x H e h => ?_) (fun H h => hd H h.1 h.2)
  have lt : i < xs.length := (List.getElem?_eq_some_iff.mp e).1
  exact hs i x H _ _ e h.1 (fun y H4 s q => ⟨out i, (h.stay s).2, ol i lt, by rw [q]; exact h.put hD s⟩) (fun H4 s q => by rw [q]; exact h.stay s)
theorem lc_outT {vals : Nat → List V} {n : Nat} (hD : H1 D = none) (o0 : out 0 = []) (ol : ∀ i, i < n → (out i).length < sizeLine)
    (hs : ∀ i T H (Kc : V → Hp → Prop) (K0 : Hp → Prop), i < n → Same H1 H → H T = some (.tup (vals i)) → (∀ y H4, Same H H4 → out (i + 1) = out i ++ [y] → Kc y H4) → (∀ H4, Same H H4 → out (i + 1) = out i → K0 H4) →
      g (.ref T) (wipe σ vs) H fun σ2 H2 => wipe σ2 vs = wipe σ vs ∧ tt σ2 H2 fun b H3 => if b = true then te σ2 H3 Kc else K0 H3)
    (hd : ∀ H, Same H1 H → H D = some (.lst (out n)) → Qd H) :
    ∃ W : Nat → Nat → Hp → Prop, (∃ m, W 0 m (upd H1 D (.lst []))) ∧ ∀ i m H, W i m H →
      ((ItT vals n).stop i H ∧ Qd H) ∨ ((ItT vals n).go i H ∧ ∃ Nx : Hp → Prop, (∀ H', Nx H' → ∃ m', m' < m ∧ W (i + 1) m' H') ∧ ∀ x H', (ItT vals n).yld i H x H' → g x (wipe σ vs) H' fun σ2 H2 => wipe σ2 vs = wipe σ vs ∧ tt σ2 H2 fun b H3 =>
        if b = true then te σ2 H3 fun y H4 => ∃ acc, H4 D = some (.lst acc) ∧ acc.length < sizeLine ∧ Nx (upd H4 D (.lst (acc ++ [y]))) else Nx H3) := by
  refine lc_T (fun i H => OutI H1 D (out i) H) (by rw [o0]; exact OutI.start hD) (fun i T H lt h hT => ?_) (fun H h => hd H h.1 h.2)
  have s0 : Same H (upd H T (.tup (vals i))) := smN (Same.refl _) hT
  exact hs i T _ _ _ lt (h.1.trans s0) upd_same (fun y H4 s q => ⟨out i, (h.stay (s0.trans s)).2, ol i lt, by rw [q]; exact h.put hD (s0.trans s)⟩) (fun H4 s q => by rw [q]; exact h.stay (s0.trans s))
theorem lc_outR {lo : Int} {n : Nat} (hD : H1 D = none) (o0 : out 0 = []) (ol : ∀ i, i < n → (out i).length < sizeLine)
    (hs : ∀ i H (Kc : V → Hp → Prop) (K0 : Hp → Prop), i < n → Same H1 H → (∀ y H4, Same H H4 → out (i + 1) = out i ++ [y] → Kc y H4) → (∀ H4, Same H H4 → out (i + 1) = out i → K0 H4) →
      g (.int (lo + i)) (wipe σ vs) H fun σ2 H2 => wipe σ2 vs = wipe σ vs ∧ tt σ2 H2 fun b H3 => if b = true then te σ2 H3 Kc else K0 H3)
    (hd : ∀ H, Same H1 H → H D = some (.lst (out n)) → Qd H) :
    ∃ W : Nat → Nat → Hp → Prop, (∃ m, W 0 m (upd H1 D (.lst []))) ∧ ∀ i m H, W i m H →
      ((Itr lo n).stop i H ∧ Qd H) ∨ ((Itr lo n).go i H ∧ ∃ Nx : Hp → Prop, (∀ H', Nx H' → ∃ m', m' < m ∧ W (i + 1) m' H') ∧ ∀ x H', (Itr lo n).yld i H x H' → g x (wipe σ vs) H' fun σ2 H2 => wipe σ2 vs = wipe σ vs ∧ tt σ2 H2 fun b H3 =>
        if b = true then te σ2 H3 fun y H4 => ∃ acc, H4 D = some (.lst acc) ∧ acc.length < sizeLine ∧ Nx (upd H4 D (.lst (acc ++ [y]))) else Nx H3) := by
  refine lc_range (fun i H => OutI H1 D (out i) H) (by rw [o0]; exact OutI.start hD) (fun i H lt h => ?_) (fun H h => hd H h.1 h.2)
  exact hs i H _ _ lt h.1 (fun y H4 s q => ⟨out i, (h.stay s).2, ol i lt, by rw [q]; exact h.put hD s⟩) (fun H4 s q => by rw [q]; exact h.stay s)
end
theorem iteNo {A B : Prop} (h : B) : if false = true then A else B := by
  rw [if_neg Bool.false_ne_true]
  exact h
theorem yes1 {A B : Hp → Prop} {σ : L2.St} {H : Hp} (h : A H) : tYes σ H (fun b H3 => if b = true then A H3 else B H3) := by
  show (if true = true then A H else B H)
  rw [if_pos rfl]
  exact h
/-- the list so far, item by item -/
def outM (f : Nat → V) (i : Nat) : List V := (List.range i).map f
theorem outM_0 {f : Nat → V} : outM f 0 = [] := rfl
theorem outM_s {f : Nat → V} {i : Nat} : outM f (i + 1) = outM f i ++ [f i] := by unfold outM; rw [List.range_succ, List.map_append]; rfl
theorem outM_l {f : Nat → V} {i : Nat} : (outM f i).length = i := by unfold outM; simp
/-- .. of those that are kept -/
def outF (p : Nat → Bool) (f : Nat → V) (i : Nat) : List V := ((List.range i).filter p).map f
theorem outF_0 {p : Nat → Bool} {f : Nat → V} : outF p f 0 = [] := rfl
theorem outF_t {p : Nat → Bool} {f : Nat → V} {i : Nat} (h : p i = true) : outF p f (i + 1) = outF p f i ++ [f i] := by unfold outF; rw [List.range_succ, List.filter_append, List.map_append]; simp [h]
theorem outF_f {p : Nat → Bool} {f : Nat → V} {i : Nat} (h : p i = false) : outF p f (i + 1) = outF p f i := by unfold outF; rw [List.range_succ, List.filter_append, List.map_append]; simp [h]
theorem outF_l {p : Nat → Bool} {f : Nat → V} {i : Nat} : (outF p f i).length ≤ i := by
  unfold outF
  rw [List.length_map]
  exact Nat.le_trans (List.length_filter_le _ _) (by simp)
end Fb
set_option maxRecDepth 100000
set_option maxHeartbeats 4000000
namespace Fb
open PySem PySem.Spec PyProof.Rows L2
/-! flat data -/
def numD (ns : List Nat) : List PyData := ns.map fun n => .int (n : Nat)
def nums (ns : List Nat) : List V := ns.map fun n => V.int (n : Nat)
def boolD (bs : List Bool) : List PyData := bs.map .bool
def bools (bs : List Bool) : List V := bs.map V.bl
section
variable {K : PySem.W.Frag} {H : Hp}
theorem dp_nums : ∀ ns : List Nat, DpAll K H (nums ns) (numD ns)
  | [] => .nil
  | n :: ns => .cons (.int _) (dp_nums ns)
theorem dp_bls : ∀ bs : List Bool, DpAll K H (bools bs) (boolD bs)
  | [] => .nil
  | b :: bs => .cons (.bl b) (dp_bls bs)
end
theorem lay_nums : ∀ ns : List Nat, PyData.canLayAll0 (numD ns) = true ∧ PyData.depthAll (numD ns) = 0
  | [] => ⟨rfl, rfl⟩
  | n :: ns => by
    obtain ⟨h1, h2⟩ := lay_nums ns
    unfold numD at *
    rw [List.map_cons]
    constructor
    · rw [PyData.canLayAll0, h1] <;> rfl
    · rw [PyData.depthAll, h2] <;> rfl
theorem lay_bools : ∀ ns : List Bool, PyData.canLayAll0 (boolD ns) = true ∧ PyData.depthAll (boolD ns) = 0
  | [] => ⟨rfl, rfl⟩
  | n :: ns => by
    obtain ⟨h1, h2⟩ := lay_bools ns
    unfold boolD at *
    rw [List.map_cons]
    constructor
    · rw [PyData.canLayAll0, h1] <;> rfl
    · rw [PyData.depthAll, h2] <;> rfl
theorem shaped_tup {ds : List PyData} (h : PyData.canLayAll0 ds = true ∧ PyData.depthAll ds = 0) : SeqAt.shaped (.tuple ds) = true := by
  unfold SeqAt.shaped
  rw [PyData.canLay0, PyData.depth, h.1, h.2]
  rfl
theorem shaped_lst {ds : List PyData} (h : PyData.canLayAll0 ds = true ∧ PyData.depthAll ds = 0) : SeqAt.shaped (.list ds) = true := by
  unfold SeqAt.shaped
  rw [PyData.canLay0, PyData.depth, h.1, h.2]
  rfl
theorem eqv_nums : ∀ ns ms : List Nat, PyData.eqvAll (numD ns) (numD ms) = decide (ns = ms)
  | [], [] => by simp [numD, PyData.eqvAll]
  | [], _ :: _ => by simp [numD, PyData.eqvAll]
  | _ :: _, [] => by simp [numD, PyData.eqvAll]
  | n :: ns, m :: ms => by
    have h := eqv_nums ns ms
    unfold numD at *
    rw [List.map_cons, List.map_cons, PyData.eqvAll, h, PyData.eqv]
    by_cases e : n = m
    · subst e
      simp
    · have e2 : ¬ ((n : Int) = (m : Int)) := by omega
      simp [e, e2]
theorem eqv_numT (ns ms : List Nat) : PyData.eqv (.tuple (numD ns)) (.tuple (numD ms)) = decide (ns = ms) := by rw [PyData.eqv, eqv_nums]
theorem eqv_numL (ns ms : List Nat) : PyData.eqv (.list (numD ns)) (.list (numD ms)) = decide (ns = ms) := by rw [PyData.eqv, eqv_nums]
mutual
theorem dp_same {K : PySem.W.Frag} {H H' : Hp} (s : Same H H') : ∀ (d : PyData) {v : V}, Dp K H v d → Dp K H' v d
  | _, _, .non => .non
  | _, _, .bl b => .bl b
  | _, _, .int i => .int i
  | _, _, .str x => .str x
  | .list ds, _, .lst h a => .lst (s.seq h) (dp_sameAll s ds a)
  | .tuple ds, _, .tup h a => .tup (by
      rcases h with (h | ⟨o, h⟩) | h
      · exact .inl (.inl (s _ _ h))
      · exact .inl (.inr ⟨o, s _ _ h⟩)
      · exact .inr h) (dp_sameAll s ds a)
theorem dp_sameAll {K : PySem.W.Frag} {H H' : Hp} (s : Same H H') : ∀ (ds : List PyData) {vs : List V}, DpAll K H vs ds → DpAll K H' vs ds
  | _, _, .nil => .nil
  | d :: ds, _, .cons h t => .cons (dp_same s d h) (dp_sameAll s ds t)
end
theorem sqT_same {K : PySem.W.Frag} {H H' : Hp} (s : Same H H') {a : Addr} {xs : List V} (h : SqT K H a xs) : SqT K H' a xs := by
  rcases h with (h | ⟨o, h⟩) | h
  · exact .inl (.inl (s _ _ h))
  · exact .inl (.inr ⟨o, s _ _ h⟩)
  · exact .inr h
theorem outM_all {ys : List V} {f : Nat → V} {n : Nat} (hn : n = ys.length) (h : ∀ i, i < n → ys[i]? = some (f i)) : outM f n = ys := by
  subst hn
  unfold outM
  refine List.ext_getElem? fun i => ?_
  by_cases hi : i < ys.length
  · rw [List.getElem?_map, List.getElem?_range hi, h i hi] <;> rfl
  · rw [List.getElem?_eq_none (by simpa using hi), List.getElem?_eq_none (by omega)]
/-- one sign is at most another -/
theorem sign_lt (a b : Nat) : (([b] : List Nat) < [a]) ↔ b < a := by
  rw [List.cons_lt_cons_iff]
  simp
theorem sign_le (a b : Nat) : (!decide (([b] : List Nat) < [a])) = decide (a ≤ b) := by
  by_cases h : b < a
  · rw [decide_eq_true ((sign_lt a b).mpr h), decide_eq_false (by omega)] <;> rfl
  · rw [decide_eq_false (fun z => h ((sign_lt a b).mp z)), decide_eq_true (by omega)] <;> rfl
/-! within a comprehension: readings that name the written part by itself -/
section
variable {X : Cx} {o e : Expr} {es : List Expr} {to : TE} {t : TA} {apos cpos : Pos} {K : PySem.W.Frag}
def rJn (K : PySem.W.Frag) : V → List V → Hp → VK → Prop := fun x xs H Q => ∃ a p, ∃ ys : List Str, x = .str a ∧ xs = [.ref p] ∧ (SqL K H p (ys.map V.str) ∨ SqT K H p (ys.map V.str)) ∧
    (ys.map (·.length)).sum + ys.length * a.length ≤ 16777216 ∧ Q (.str (Txt.join a ys)) H
theorem pe_joinK (hK : X.K = K) (ho : PE X o to) (ha : PA X (e :: es) t)
    (hbase : attributeBase o "join" X.env (eval o X.env) = eval o X.env := by rfl)
    (hfew : ((backTo cpos (starEach (e :: es) X.env)).all (fun x => !x.1) && (backToKw cpos (keywordEach [] X.env)).all (fun x => x.1.isSome)
      && decide ((e :: es).length + ([] : List Keyword).length + (if ([] : List Keyword).isEmpty then 0 else 1) < 30)) = true := by rfl)
    (hline : (apos.endLine == cpos.line) = true := by rfl) (hs : starEach (e :: es) X.env = (false, eval e X.env) :: starEach es X.env := by rfl) (hplain : (backTo cpos (starEach es X.env)).any (·.1) = false := by rfl) :
    PE X (.Call (.Attribute o "join" apos) (e :: es) [] cpos) (tBM K "str" (rJn K) to t) := by
  subst hK
  exact pe_bm PySem.F.plainAttrs_str PySem.F.slot_str_join PySem.F.type_str_join mt_join ho ha hbase hfew hline hs hplain
end
end Fb
set_option maxRecDepth 100000
set_option maxHeartbeats 4000000
namespace Fb
open PySem PySem.Spec PyProof.Rows L2
open SX (S)
/-! what the laws' own drawing defs need -/
/-- all but p is as it was -/
def But (p : Addr) (H H' : Hp) : Prop := ∀ c o, c ≠ p → H c = some o → H' c = some o
section
variable {H H1 H2 : Hp} {p : Addr}
theorem But.refl : But p H H := fun _ _ _ h => h
theorem But.trans (a : But p H H1) (b : But p H1 H2) : But p H H2 := fun c o n h => b c o n (a c o n h)
theorem But.of (s : Same H H1) : But p H H1 := fun c o _ h => s c o h
theorem But.took (k : ∀ c, c ≠ p → H1 c = H c) : But p H H1 := fun c o n h => by rw [k c n]; exact h
theorem But.new {q : Addr} {o : HO} (b : But p H H1) (h : H1 q = none) : But p H (upd H1 q o) := fun c u n e => by
  have e1 := b c u n e
  rw [upd_ne (ne_of_none e1 h)]
  exact e1
/-- a list that is not tracked at the start is stored to -/
theorem But.put {q : Addr} {o : HO} (b : But p H H1) (h : H q = none) : But p H (upd H1 q o) := fun c u n e => by
  rw [upd_ne (ne_of_none e h)]
  exact b c u n e
theorem PenL.new {l : Addr} {n : Nat} {q : Addr} {o : HO} (h : PenL H p l n) (hq : H q = none) : PenL (upd H q o) p l n := h.same (smN (Same.refl _) hq)
theorem PenL.put {l : Addr} {n : Nat} {q : Addr} {o : HO} (h : PenL H p l n) (n1 : p ≠ q) (n2 : l ≠ q) : PenL (upd H q o) p l n := by
  obtain ⟨cs, a, r, f, e, e2, h3⟩ := h
  exact ⟨cs, a, r, f, by rw [upd_ne n1]; exact e, by rw [upd_ne n2]; exact e2, h3⟩
theorem PenL.nep {l : Addr} {n : Nat} {q : Addr} (h : PenL H p l n) (hq : H q = none) : p ≠ q := by
  obtain ⟨cs, a, r, f, e, e2, h3⟩ := h
  exact ne_of_none e hq
theorem PenL.nel {l : Addr} {n : Nat} {q : Addr} (h : PenL H p l n) (hq : H q = none) : l ≠ q := by
  obtain ⟨cs, a, r, f, e, e2, h3⟩ := h
  exact ne_of_none e2 hq
end
/-! a walk over a text -/
theorem for_S {l : List Nat} {g : TG} {tb : TS} {D : Ends} {σ : L2.St} {H : Hp} (Pv : Nat → L2.St → Hp → Prop) (h0 : Pv 0 σ H)
    (hs : ∀ i c σ H, l[i]? = some c → Pv i σ H → g (.str (S [c])) σ H fun σ2 H2 => tb { D with nx := Pv (i + 1), ct := Pv (i + 1), bk := D.nx } σ2 H2) (hd : ∀ σ H, Pv l.length σ H → D.nx σ H) :
    ∃ W : Nat → Nat → L2.St → Hp → Prop, (∃ m, W 0 m σ H) ∧ ∀ i m σ H, W i m σ H →
      ((Its (S l)).stop i H ∧ D.nx σ H) ∨ ((Its (S l)).go i H ∧ ∃ N : L2.St → Hp → Prop, (∀ σ' H', N σ' H' → ∃ m', m' < m ∧ W (i + 1) m' σ' H') ∧ ∀ x H', (Its (S l)).yld i H x H' → g x σ H' fun σ2 H2 => tb { D with nx := N, ct := N, bk := D.nx } σ2 H2) := by
  have hz : (S l).cps.size = l.length := by simp [S]
  refine ⟨fun i m σ H => i + m = l.length ∧ Pv i σ H, ⟨l.length, by omega, h0⟩, fun i m σ H ⟨hm, p⟩ => ?_⟩
  by_cases lt : i < l.length
  · refine Or.inr ⟨by show i < (S l).cps.size; omega, Pv (i + 1), fun σ' H' p' => ⟨m - 1, by omega, by omega, p'⟩, ?_⟩
    rintro x H' ⟨eH, c, hc, rfl⟩
    subst eH
    have e : l[i]? = some c := by simpa [S] using hc
    exact hs i c σ _ e p
  · obtain rfl : i = l.length := by omega
    exact Or.inl ⟨by show (S l).cps.size ≤ _; omega, hd σ H p⟩
/-! mathematics of drawn patterns -/
theorem Al.snoc : ∀ {l m : List Nat} {a b : Nat}, Al l m → AlS a b → Al (l ++ [a]) (m ++ [b])
  | _, _, _, _, .nil, r => .cons r .nil
  | _, _, _, _, .cons r t, q => .cons r (Al.snoc t q)
theorem take_s {l : List Nat} {i c : Nat} (h : l[i]? = some c) : l.take (i + 1) = l.take i ++ [c] := by
  rw [List.take_add_one, h] <;> rfl
theorem Al.at : ∀ {l m : List Nat} {i a : Nat}, Al l m → l[i]? = some a → ∃ b, m[i]? = some b ∧ AlS a b
  | _, _, _, _, .nil, e => by simp at e
  | _, _, 0, _, .cons r _, e => by simp at e; subst e; exact ⟨_, rfl, r⟩
  | _, _, i + 1, _, .cons _ t, e => by
    obtain ⟨b, h1, h2⟩ := Al.at (i := i) t (by simpa using e)
    exact ⟨b, by simpa using h1, h2⟩
theorem zw_take {f : Nat → Nat → Nat} {l m : List Nat} {i a b : Nat} (h1 : l[i]? = some a) (h2 : m[i]? = some b) : zw f (l.take (i + 1)) (m.take (i + 1)) = zw f (l.take i) (m.take i) ++ [f a b] := by
  rw [take_s h1, take_s h2]
  unfold zw
  have hl : i < l.length := (List.getElem?_eq_some_iff.mp h1).1
  have hm : i < m.length := (List.getElem?_eq_some_iff.mp h2).1
  rw [List.zipWith_append (by rw [List.length_take, List.length_take]; omega)]
  rfl
theorem sg_join : ∀ {bs : List (List Nat)}, (∀ b ∈ bs, ∀ c ∈ b, c = 48 ∨ c = 49) → Sg (TL.joinL [46] bs)
  | [], _ => fun c hc => by simp [TL.joinL] at hc
  | [b], h => fun c hc => by
    have := h b (by simp) c (by simpa [TL.joinL] using hc)
    omega
  | b :: d :: r, h => fun c hc => by
    have hc' : c ∈ b ++ ([46] ++ TL.joinL [46] (d :: r)) := hc
    rw [List.mem_append, List.mem_append] at hc'
    rcases hc' with q | q | q
    · have := h b List.mem_cons_self c q
      omega
    · have := List.mem_singleton.mp q
      omega
    · exact sg_join (fun x hx => h x (List.mem_cons_of_mem _ hx)) c q
theorem szs_join {bs : List (List Nat)} (hne : bs ≠ []) (h : ∀ b ∈ bs, ∀ c ∈ b, c = 48 ∨ c = 49) : szs (TL.joinL [46] bs) = bs.map List.length := by
  have e := spl_len (TL.joinL [46] bs) []
  rw [SX.spl_join hne (fun p hp hm => by have := h p hp 46 hm; omega)] at e
  exact e.symm
theorem isP_of {l ss : List Nat} {M : Nat} (hs : Sg l) (hz : szs l = ss) (h3 : ss.length ≤ 3) (h1 : ∀ s ∈ ss, 1 ≤ s ∧ s ≤ M) (hM : M ≤ 40) : IsP l := by
  refine ⟨hs, by rw [hz]; exact fun n hn => (h1 n hn).1, by rw [hz]; exact h3, ?_⟩
  have e := szA_sum l 0
  have e2 : (szA 0 l) = ss := hz
  rw [e2] at e
  have : ss.sum ≤ ss.length * M := by
    clear e e2 hz h3
    induction ss with
    | nil => simp
    | cons s ss ih =>
      have := ih fun x hx => h1 x (List.mem_cons_of_mem _ hx)
      have h2 := (h1 s List.mem_cons_self).2
      rw [List.sum_cons, List.length_cons, Nat.succ_mul]
      omega
  have h5 : ss.length * M ≤ 3 * 40 := Nat.mul_le_mul h3 hM
  omega
/-- no bit stands in the one and has fallen in the other -/
def upP (l m : List Nat) (k : Nat) : Bool := decide (l.getD k 0 = 49) && decide (m.getD k 0 = 48)
theorem below_nil : ∀ {l m : List Nat}, Al l m → below l m = decide ((List.range l.length).filter (upP l m) = [])
  | [], [], .nil => rfl
  | a :: l, b :: m, .cons r t => by
    have ih := below_nil t
    have e1 : below (a :: l) (b :: m) = (decide (a ≤ b) && below l m) := rfl
    have e2 : (List.range (a :: l).length).filter (upP (a :: l) (b :: m)) = (if upP (a :: l) (b :: m) 0 = true then [0] else []) ++ ((List.range l.length).filter (upP l m)).map (· + 1) := by
      rw [List.length_cons, List.range_succ_eq_map, List.filter_cons]
      have : (List.map Nat.succ (List.range l.length)).filter (upP (a :: l) (b :: m)) = ((List.range l.length).filter (upP l m)).map (· + 1) := by
        rw [List.filter_map]
        have hf : (upP (a :: l) (b :: m) ∘ Nat.succ) = upP l m := by
          funext k
          simp [upP]
        rw [hf]
      split <;> simp [this]
    rw [e1, ih, e2]
    have u : upP (a :: l) (b :: m) 0 = (decide (a = 49) && decide (b = 48)) := by simp [upP]
    rw [u]
    by_cases h : a ≤ b
    · have : (decide (a = 49) && decide (b = 48)) = false := by
        by_cases q : a = 49
        · have : ¬ b = 48 := by omega
          simp [this]
        · simp [q]
      rw [this]
      simp [h]
    · have : (decide (a = 49) && decide (b = 48)) = true := by
        have h1 : a = 49 ∧ b = 48 := by unfold AlS at r; omega
        simp [h1.1, h1.2]
      rw [this]
      simp [h]
/-- the sign where so many of the two stand -/
def fC (cs : List Nat) (a b : Nat) : Nat := if a = 46 then 46 else if (if a = 49 then 1 else 0) + (if b = 49 then 1 else 0) ∈ cs then 49 else 48
theorem zw_congr {f g : Nat → Nat → Nat} (h : ∀ a b, AlS a b → f a b = g a b) : ∀ {l m : List Nat}, Al l m → zw f l m = zw g l m
  | _, _, .nil => rfl
  | _, _, .cons r t => by
    show f _ _ :: zw f _ _ = g _ _ :: zw g _ _
    rw [h _ _ r, zw_congr h t]
theorem fC_and (a b : Nat) (h : AlS a b) : fC [2] a b = fAnd a b := by
  unfold fC fAnd
  rcases h with ⟨rfl, rfl⟩ | ⟨h1, h2⟩
  · rfl
  · rcases h1 with rfl | rfl <;> rcases h2 with rfl | rfl <;> decide
theorem fC_or (a b : Nat) (h : AlS a b) : fC [1, 2] a b = fOr a b := by
  unfold fC fOr
  rcases h with ⟨rfl, rfl⟩ | ⟨h1, h2⟩
  · rfl
  · rcases h1 with rfl | rfl <;> rcases h2 with rfl | rfl <;> decide
theorem fC_xor (a b : Nat) (h : AlS a b) : fC [1] a b = fXor a b := by
  unfold fC fXor
  rcases h with ⟨rfl, rfl⟩ | ⟨h1, h2⟩
  · rfl
  · rcases h1 with rfl | rfl <;> rcases h2 with rfl | rfl <;> decide
theorem inV_nums (j : Nat) : ∀ cs : List Nat, inV (.int (j : Nat)) (nums cs) = decide (j ∈ cs)
  | [] => by simp [inV, nums]
  | c :: cs => by
    have ih := inV_nums j cs
    unfold inV nums at *
    rw [List.map_cons, List.any_cons, ih]
    show ((c : Int) == (j : Int) || _) = _
    by_cases h : j = c
    · subst h; simp
    · have h2 : ¬ ((c : Int) = (j : Int)) := by omega
      have h3 : ((c : Int) == (j : Int)) = false := by simpa using h2
      rw [h3]
      simp [h]
theorem flat_nums : ∀ cs : List Nat, (nums cs).all flatV = true
  | [] => rfl
  | c :: cs => by
    unfold nums
    rw [List.map_cons, List.all_cons]
    exact flat_nums cs
theorem sum_signs (xs : List Nat) : (xs.map ((fun w : Str => w.length) ∘ fun c => S [c])).sum = xs.length := by
  induction xs with
  | nil => rfl
  | cons c xs ih => rw [List.map_cons, List.sum_cons, ih, List.length_cons, Nat.add_comm]; rfl
theorem zw_and_or : ∀ {l m : List Nat}, Al l m → zw fOr (zw fAnd l m) l = l
  | _, _, .nil => rfl
  | a :: l, b :: m, .cons r t => by
    show fOr (fAnd a b) a :: zw fOr (zw fAnd l m) l = a :: l
    rw [zw_and_or t]
    have e : fOr (fAnd a b) a = a := by
      unfold fOr fAnd
      rcases r with ⟨rfl, rfl⟩ | ⟨h1, h2⟩
      · rfl
      · rcases h1 with rfl | rfl <;> rcases h2 with rfl | rfl <;> decide
    rw [e]
/-! patterns of other sizes -/
def filt (l : List Nat) : List Nat := l.filter (fun c => c != 46)
theorem filt_sg {l : List Nat} (h : Sg l) : ∀ c ∈ filt l, c = 48 ∨ c = 49 := fun c hc => by
  unfold filt at hc
  rw [List.mem_filter] at hc
  have := h c hc.1
  have h2 : ¬ c = 46 := by simpa using hc.2
  omega
theorem filt_len (l : List Nat) : (filt l).length = nb l := rfl
theorem szA_plain : ∀ (f : List Nat) (n : Nat), (∀ c ∈ f, c = 48 ∨ c = 49) → szA n f = [n + f.length]
  | [], n, _ => rfl
  | c :: f, n, h => by
    have hc := h c List.mem_cons_self
    unfold szA
    rw [if_neg (by omega), szA_plain f (n + 1) (fun d hd => h d (List.mem_cons_of_mem _ hd)), List.length_cons]
    congr 1
    omega
theorem szA_cut : ∀ (f r : List Nat) (n : Nat), (∀ c ∈ f, c = 48 ∨ c = 49) → szA n (f ++ 46 :: r) = (n + f.length) :: szA 0 r
  | [], r, n, _ => by
    show (if 46 = 46 then _ else _) = _
    rw [if_pos rfl]
    rfl
  | c :: f, r, n, h => by
    have hc := h c List.mem_cons_self
    show (if c = 46 then _ else szA (n + 1) (f ++ 46 :: r)) = _
    rw [if_neg (by omega), szA_cut f r (n + 1) (fun d hd => h d (List.mem_cons_of_mem _ hd)), List.length_cons]
    congr 1
    omega
theorem szA_more : ∀ (l : List Nat) (n : Nat), (szA n (l ++ [49])).length = (szA n l).length ∧ ((∀ s ∈ szA n l, 1 ≤ s) → ∀ s ∈ szA n (l ++ [49]), 1 ≤ s)
  | [], n => by
    refine ⟨rfl, fun _ s hs => ?_⟩
    have : s = n + 1 := by simpa [szA] using hs
    omega
  | c :: l, n => by
    by_cases h : c = 46
    · have e1 : szA n (c :: (l ++ [49])) = n :: szA 0 (l ++ [49]) := by show (if c = 46 then _ else _) = _; rw [if_pos h]
      have e2 : szA n (c :: l) = n :: szA 0 l := by show (if c = 46 then _ else _) = _; rw [if_pos h]
      obtain ⟨h1, h2⟩ := szA_more l 0
      rw [List.cons_append, e1, e2]
      refine ⟨by rw [List.length_cons, List.length_cons, h1], fun hh s hs => ?_⟩
      rcases List.mem_cons.mp hs with e | e
      · exact hh s (e ▸ List.mem_cons_self)
      · exact h2 (fun t ht => hh t (List.mem_cons_of_mem _ ht)) s e
    · have e1 : szA n (c :: (l ++ [49])) = szA (n + 1) (l ++ [49]) := by show (if c = 46 then _ else _) = _; rw [if_neg h]
      have e2 : szA n (c :: l) = szA (n + 1) l := by show (if c = 46 then _ else _) = _; rw [if_neg h]
      rw [List.cons_append, e1, e2]
      exact szA_more l (n + 1)
theorem nb_pos {x : List Nat} (h : IsP x) : 1 ≤ nb x := by
  have e := szA_sum x 0
  obtain ⟨a, r, e2, _⟩ := szA_head x 0
  have := h.one a (by unfold szs; rw [e2]; exact List.mem_cons_self)
  rw [e2, List.sum_cons] at e
  omega
theorem isP_far1 {x : List Nat} (h : IsP x) (hn : nb x ≤ 100) : IsP (x ++ [49]) := by
  obtain ⟨h1, h2⟩ := szA_more x 0
  refine ⟨fun c hc => ?_, h2 h.one, by have := h.few; unfold szs at *; omega, ?_⟩
  · rcases List.mem_append.mp hc with e | e
    · exact h.sg c e
    · have := List.mem_singleton.mp e
      omega
  · unfold nb
    rw [List.filter_append, List.length_append]
    unfold nb at hn
    simp
    omega
theorem isP_far2 {x : List Nat} (h : IsP x) (hn : nb x ≤ 100) : IsP (filt x ++ [46, 49]) := by
  have p := nb_pos h
  have hs := filt_sg h.sg
  have e : szs (filt x ++ [46, 49]) = [nb x, 1] := by
    show szA 0 (filt x ++ 46 :: [49]) = _
    rw [szA_cut _ _ _ hs, Nat.zero_add, filt_len]
    rfl
  refine ⟨fun c hc => ?_, by rw [e]; intro n hn; simp at hn; omega, by rw [e]; simp, ?_⟩
  · rcases List.mem_append.mp hc with q | q
    · have := hs c q
      omega
    · simp at q
      omega
  · have s := szA_sum (filt x ++ [46, 49]) 0
    have e2 : szA 0 (filt x ++ [46, 49]) = [nb x, 1] := e
    rw [e2] at s
    simp at s
    omega
theorem isP_far3 {x : List Nat} (h : IsP x) : IsP ([49, 46] ++ filt (x.take 20)) := by
  have hsg : Sg (x.take 20) := fun c hc => h.sg c (List.mem_of_mem_take hc)
  have hs := filt_sg hsg
  have e : szs ([49, 46] ++ filt (x.take 20)) = [1, (filt (x.take 20)).length] := by
    show szA 0 ([49] ++ 46 :: filt (x.take 20)) = _
    rw [szA_cut [49] _ _ (by simp), szA_plain _ _ hs, Nat.zero_add, Nat.zero_add]
    rfl
  have le : (filt (x.take 20)).length ≤ 20 := by
    unfold filt
    have := List.length_filter_le (fun c => c != 46) (x.take 20)
    have h2 : (x.take 20).length ≤ 20 := by rw [List.length_take]; omega
    omega
  have pos : 1 ≤ (filt (x.take 20)).length := by
    cases x with
    | nil => have := nb_pos h; simp [nb] at this
    | cons c r =>
      have hc : ¬ c = 46 := fun q => by
        have := h.one 0 (by
          unfold szs
          show 0 ∈ (if c = 46 then _ else _)
          rw [if_pos q]
          exact List.mem_cons_self)
        omega
      unfold filt
      rw [List.take_succ_cons, List.filter_cons_of_pos (by simpa using hc), List.length_cons]
      omega
  refine ⟨fun c hc => ?_, by rw [e]; intro n hn; simp at hn; omega, by rw [e]; simp, ?_⟩
  · rcases List.mem_append.mp hc with q | q
    · simp at q
      omega
    · have := hs c q
      omega
  · have s := szA_sum ([49, 46] ++ filt (x.take 20)) 0
    have e2 : szA 0 ([49, 46] ++ filt (x.take 20)) = [1, (filt (x.take 20)).length] := e
    rw [e2, List.sum_cons, List.sum_cons, List.sum_nil] at s
    omega
theorem isP_many : IsP (List.replicate 100 49) ∧ szs (List.replicate 100 49) = [100] := by
  have e : szs (List.replicate 100 49) = [100] := by decide +kernel
  refine ⟨⟨fun c hc => .inr (.inl (List.eq_of_mem_replicate hc)), by rw [e]; decide, by rw [e]; decide, by decide +kernel⟩, e⟩
theorem nb_of {x ss : List Nat} {M : Nat} (hz : szs x = ss) (h3 : ss.length ≤ 3) (h1 : ∀ s ∈ ss, s ≤ M) : nb x ≤ 3 * M := by
  have e := szA_sum x 0
  have e2 : szA 0 x = ss := hz
  rw [e2] at e
  have : ss.sum ≤ ss.length * M := by
    clear e e2 hz h3
    induction ss with
    | nil => simp
    | cons s ss ih =>
      have := ih fun x hx => h1 x (List.mem_cons_of_mem _ hx)
      have h2 := h1 s List.mem_cons_self
      rw [List.sum_cons, List.length_cons, Nat.succ_mul]
      omega
  have h5 : ss.length * M ≤ 3 * M := Nat.mul_le_mul_right _ h3
  omega
theorem cut20 (x : List Nat) : cutS (S x) none (some 20) = S (x.take 20) := by
  unfold cutS
  have e : (S x).cps.toList = x := rfl
  have e2 : (S x).length = x.length := SX.S_len x
  rw [e, e2]
  show S _ = S _
  congr 1
  show (x.drop 0).take (min 20 x.length - 0) = x.take 20
  rw [List.drop_zero, Nat.sub_zero]
  by_cases h : x.length ≤ 20
  · rw [List.take_of_length_le (show x.length ≤ min 20 x.length by omega), List.take_of_length_le h]
  · rw [show min 20 x.length = 20 by omega]
end Fb
set_option maxRecDepth 100000
set_option maxHeartbeats 4000000
namespace Fb
open PySem PySem.Spec PyProof.Rows L2
/-! [.. for x in a list for y in a tuple] -/
theorem pi_tupK {X : Cx} {tg l : Expr} {tl : TE} {K : PySem.W.Frag} (hK : X.K = K) (hl : PE X l tl) : PI X tg l (iTup K tl) := by
  subst hK
  exact pi_tup hl
section
variable {K : PySem.W.Frag} {a b D : Addr} {xs ys : List V} {σ : L2.St} {H1 : Hp} {te : TE} {vs vs1 : List Nat} {i1 j1 s1 : Nat} {Qd : Hp → Prop}
theorem lc2_names (Pv : Nat → Nat → Hp → Prop) (h0 : Pv 0 0 (upd H1 D (.lst []))) (hl : ∀ i j H, Pv i j H → SqL K H a xs ∧ SqT K H b ys)
    (hs1 : ∀ x, ((wipe σ vs).set i1 (some x))[s1]? = some (some (.ref b))) (hw : ∀ x, wipe ((wipe σ vs).set i1 (some x)) vs = wipe σ vs)
    (hw1 : ∀ x y, wipe ((wipe ((wipe σ vs).set i1 (some x)) vs1).set j1 (some y)) vs1 = wipe ((wipe σ vs).set i1 (some x)) vs1)
    (step : ∀ i j x y H, xs[i]? = some x → ys[j]? = some y → Pv i j H → te ((wipe ((wipe σ vs).set i1 (some x)) vs1).set j1 (some y)) H fun v H7 => ∃ acc, H7 D = some (.lst acc) ∧ acc.length < sizeLine ∧ Pv i (j + 1) (upd H7 D (.lst (acc ++ [v]))))
    (next : ∀ i H, i < xs.length → Pv i ys.length H → Pv (i + 1) 0 H) (hd : ∀ H, Pv xs.length 0 H → Qd H) :
    ∃ W : Nat → Nat → Hp → Prop, (∃ m, W 0 m (upd H1 D (.lst []))) ∧ ∀ i m H, W i m H →
      ((Itl K a).stop i H ∧ Qd H) ∨ ((Itl K a).go i H ∧ ∃ Nx : Hp → Prop, (∀ H', Nx H' → ∃ m', m' < m ∧ W (i + 1) m' H') ∧ ∀ x H', (Itl K a).yld i H x H' → gName i1 x (wipe σ vs) H' fun σ2 H2 => wipe σ2 vs = wipe σ vs ∧ tYes σ2 H2 fun bb H3 =>
        if bb = true then iTup K (tVar s1) σ2 H3 fun J1 H4 => ∃ W1 : Nat → Nat → Hp → Prop, (∃ m, W1 0 m H4) ∧ ∀ j k H, W1 j k H →
          (J1.stop j H ∧ Nx H) ∨ (J1.go j H ∧ ∃ Nx1 : Hp → Prop, (∀ H', Nx1 H' → ∃ k', k' < k ∧ W1 (j + 1) k' H') ∧ ∀ x H', J1.yld j H x H' → gName j1 x (wipe σ2 vs1) H' fun σ3 H5 => wipe σ3 vs1 = wipe σ2 vs1 ∧ tYes σ3 H5 fun bb H6 =>
            if bb = true then te σ3 H6 fun y H7 => ∃ acc, H7 D = some (.lst acc) ∧ acc.length < sizeLine ∧ Nx1 (upd H7 D (.lst (acc ++ [y]))) else Nx1 H6)
        else Nx H3) := by
  refine ⟨fun i m H => i + m = xs.length ∧ Pv i 0 H, ⟨xs.length, by omega, h0⟩, fun i m H ⟨hm, p⟩ => ?_⟩
  obtain ⟨q1, q2⟩ := hl i 0 H p
  by_cases lt : i < xs.length
  · have ex : xs[i]? = some xs[i] := List.getElem?_eq_getElem lt
    refine Or.inr ⟨⟨xs, xs[i], q1, ex⟩, Pv (i + 1) 0, fun H' p' => ⟨m - 1, by omega, by omega, p'⟩, ?_⟩
    rintro x H' ⟨eH, y⟩
    subst eH
    have e := y xs q1
    refine ⟨hw x, yes1 ?_⟩
    refine ⟨.ref b, hs1 x, b, rfl, ⟨ys, q2⟩, ?_⟩
    refine ⟨fun j k H => j + k = ys.length ∧ Pv i j H, ⟨ys.length, by omega, p⟩, fun j k H ⟨hk, p⟩ => ?_⟩
    obtain ⟨r1, r2⟩ := hl i j H p
    by_cases lt2 : j < ys.length
    · have ey : ys[j]? = some ys[j] := List.getElem?_eq_getElem lt2
      refine Or.inr ⟨⟨ys, ys[j], r2, ey⟩, Pv i (j + 1), fun H' p' => ⟨k - 1, by omega, by omega, p'⟩, ?_⟩
      rintro y2 H' ⟨eH, y'⟩
      subst eH
      have e2 := y' ys r2
      exact ⟨hw1 x y2, yes1 (step i j x y2 _ e e2 p)⟩
    · obtain rfl : j = ys.length := by omega
      exact Or.inl ⟨⟨ys, r2, Nat.le_refl _⟩, next i H lt p⟩
  · obtain rfl : i = xs.length := by omega
    exact Or.inl ⟨⟨xs, q1, Nat.le_refl _⟩, hd H p⟩
end
/-! a value's fault, as a pattern -/
theorem tyOf_same {K : PySem.W.Frag} {H H' : Hp} (s : Same H H') {x : V} {t : Value} (h : TyOf K H x t) : TyOf K H' x t := by
  cases h with
  | non => exact .non
  | bl x => exact .bl x
  | int i => exact .int i
  | str x => exact .str x
  | flt x => exact .flt x
  | lst e => exact .lst (s _ _ e)
  | frz e => exact .frz (s _ _ e)
  | tup e => exact .tup (s _ _ e)
  | dK e => exact .dK (s _ _ e)
  | dT e => exact .dT (s _ _ e)
  | ins e cl ha hn ht hm => exact .ins (s _ _ e) cl ha hn ht hm
theorem tyX_same {K : PySem.W.Frag} {H H' : Hp} (s : Same H H') {x : V} {t : Value} (h : TyX K H x t) : TyX K H' x t := by
  cases h with
  | base h => exact .base (tyOf_same s h)
  | byt b => exact .byt b
  | set e => exact .set (s _ _ e)
  | kList e c => exact .kList e c
  | kTuple e c => exact .kTuple e c
  | kDict e c => exact .kDict e c
  | fTuple e => exact .fTuple (s _ _ e)
  | fDict e => exact .fDict (s _ _ e)
end Fb
set_option maxRecDepth 100000
set_option maxHeartbeats 4000000
namespace Fb
open PySem PySem.Spec PyProof.Rows L2
/-! caught exceptions that are kept, with their fields; lambdas that are handed on -/
/-- at a: an exception of the class at C that was caught; its fields -/
def XR (H : Hp) (a C : Addr) (fs : List (Str × V)) : Prop := ∃ d, H a = some (ExR (.ref C) (some d) a) ∧ H d = some (.xd fs)
section
variable {X : Cx} {pins : List (Addr × Obj)} {σ : L2.St} {H : Hp} {s : Shared}
theorem XR.inst {a C : Addr} {fs : List (Str × V)} (I : Inv X pins σ H s) (h : XR H a C fs) : ∃ ox od, PySem.W.InstAt s.heap a ox C (some od) ∧ ∀ f, RelO (fs.lookup f) ((PySem.W.lookIn f od).getD none) ∧ ∃ r, PySem.W.lookIn f od = some r := by
  obtain ⟨d, h1, h2⟩ := h
  obtain ⟨⟨oe, vs, ho, z1, z2, z3⟩, _, _⟩ := I.hok a _ h1
  have hx : ObjOk X.prog X.w H s.heap d (.xd fs) := I.hok d _ h2
  obtain ⟨mA, hns, hr⟩ := hx
  obtain ⟨od, hod, hl⟩ := lookIn_ns hns
  refine ⟨oe, od, ⟨ho, z1, ?_, ?_⟩, fun f => ⟨?_, _, hl f⟩⟩
  · unfold PySem.W.notCls; rw [z3] <;> rfl
  · rw [z2]
    exact hod
  · rw [hl f]
    exact hr f
def rIsQ (K : PySem.W.Frag) : List V → Hp → VK → Prop := fun xs H Q => ∃ (a C : Addr) (fs : List (Str × V)) (c : V) (cv : Value) (b : Bool), xs = [.ref a, c] ∧ XC K C ∧ XB K ∧ XR H a C fs ∧ ClsV c cv ∧ PySem.W.kitOne K (.ref C) cv = some b ∧ Q (.bl b) H
theorem call_isQ : CallR X (.builtin "isinstance") (rIsQ X.K) := by
  intro pins s σ H xs us Q I r h
  obtain ⟨a, C, fs, c, cv, b, rfl, T, B, hE, k, e, q⟩ := h
  obtain ⟨u1, u2, rfl, r1, r2⟩ := vals2 r
  have e2 := k.eq r2
  subst e2
  cases (show u1 = Value.ref a from r1)
  obtain ⟨ox, od, J, _⟩ := hE.inst I
  exact PySem.W.kia_one (PySem.W.kitx_exc T.cl T.ga T.gg T.sb T.ca B.hn B.ht T.ob) I.kIn J e (fun z => nomatch z) fun tk => ⟨.bl b, H, I.tok tk, rfl, q⟩
/-- e.f, e such an exception -/
def tXar (K : PySem.W.Frag) (f : Str) (te : TE) : TE := fun σ H Q => te σ H fun x H1 => ∃ (a C : Addr) (fs : List (Str × V)) (v : V), x = .ref a ∧ XC K C ∧ PySem.W.findIn K (.ref C) f = some none ∧ XR H1 a C fs ∧ fs.lookup f = some v ∧ Q v H1
theorem pe_xar {e : Expr} {te : TE} {f : Str} {pos : Pos} (he : PE X e te) (hb : attributeBase e f X.env (eval e X.env) = eval e X.env := by rfl) : PE X (.Attribute e f pos) (tXar X.K f te) := by
  refine ⟨fun pins s σ H Q I h => ?_⟩
  refine attr_of hb (thn (he.run pins s σ H _ I h) fun u s1 hh => ?_)
  obtain ⟨x, H1, I1, rx, a, C, fs, v, ex, T, hno, hx, hl, q⟩ := hh
  subst ex
  obtain rfl : u = Value.ref a := rx
  obtain ⟨ox, od, J, hr⟩ := hx.inst I1
  obtain ⟨r1, r, e1⟩ := hr f
  rw [e1, hl] at r1
  obtain ⟨u, hu, ru⟩ := RelO.some_of (v := v) (o := r) r1
  exact HandSPX.exc_get I1.kIn J T.ga T.gg T.sb (PySem.W.findObj_own T.hd hno rfl (by rw [e1, hu])) (handed_of ru) ⟨v, H1, I1.tok _, ru, q⟩
end
/-- behind a statement the slots are as many as before -/
theorem pss_len {X : Cx} {sts : List Stmt} {t : TS} (h : PSs X sts t) : PSs X sts (fun D σ H => σ.length = X.N.length → t D σ H) :=
  ⟨fun pins s σ H D I q => h.run pins s σ H D I (q I.len)⟩
/-- a def by its body, its code object named -/
theorem okC {P : Program} {w : World} {K : PySem.W.Frag} {mg : Str → Option Value} {base : Heap} {x qual : Str} {st : Stmt} {f c : Addr} {oc : Value} {od an : Option Addr} {osl : Array (Option Value)} {kV doc pm ct : Value} {N ps : List Str} {k : Nat} {sp : Sp}
    (lk : K.lookup f = some ⟨oc, od, .func (PySem.W.fnOf x qual (defArgs st) (defBody st) (defScope st) .none kV doc pm an (.ref c) ct), osl⟩) (hcd : PySem.W.codeIn K (.ref c) qual = true) (S : FnScope N ps (defScope st))
    (len : ∀ {vs H Q E}, sp vs H Q E → vs.length = ps.length)
    (body : ∀ {A : Around} {outer : List Env} {s : Shared} {H : Hp} {vs : List V} {Q : VK} {E : XK}, Room k (A.deeper (envOfC qual (defScope st) s.heap.objs.size f (.ref c))) → sp vs H Q E →
      ∃ t, PSs (cxOf CX0 P w K mg base N qual (defScope st) f (.ref c) A outer s H E).nox (defBody st) t ∧ t { nx := fun _ H' => Q .non H', rt := Q } (start N vs) H) :
    FnOk P w K mg base CX0 (k + 1) f (PySem.W.fnOf x qual (defArgs st) (defBody st) (defScope st) .none kV doc pm an (.ref c) ct) ps sp := by
  refine fn_of lk hcd S (fun _ _ _ _ h => len h) fun A outer s H vs Q E hr h => ?_
  obtain ⟨t, h1, h2⟩ := body (outer := outer) hr h
  exact ⟨t, h1.nox, h2⟩
/-! what stays when tables grow -/
theorem ExtN.pen {H H' : Hp} {p l : Addr} {n : Nat} (e : LamX.ExtN H H') (h : PenL H p l n) : PenL H' p l n := by
  obtain ⟨cs, a, r, f, h1, h2, h3⟩ := h
  exact ⟨cs, a, r, f, e _ _ h1 (fun ps q => nomatch q), e _ _ h2 (fun ps q => nomatch q), h3⟩
end Fb
set_option maxRecDepth 100000
set_option maxHeartbeats 4000000
namespace Fb
open PySem PySem.Spec PyProof.Rows L2
open SX (S)
/-! the bits of a pattern, and where they stand -/
/-- signs without the dots -/
abbrev bt (l : List Nat) : List Nat := l.filter (fun c => c != 46)
def plc (l : List Nat) : List Nat := (List.range l.length).filter (fun i => l.getD i 0 != 46)
theorem plc_nil : plc [] = [] := rfl
theorem plc_dot (l : List Nat) : plc (46 :: l) = (plc l).map (· + 1) := by
  unfold plc
  rw [List.length_cons, List.range_succ_eq_map, List.filter_cons_of_neg (by simp), List.filter_map]
  rfl
theorem plc_bit {c : Nat} (l : List Nat) (h : c ≠ 46) : plc (c :: l) = 0 :: (plc l).map (· + 1) := by
  unfold plc
  rw [List.length_cons, List.range_succ_eq_map, List.filter_cons_of_pos (by simpa using h), List.filter_map]
  rfl
theorem plc_len : ∀ l : List Nat, (plc l).length = (bt l).length
  | [] => rfl
  | c :: l => by
    by_cases h : c = 46
    · subst h
      rw [plc_dot, List.length_map, plc_len l]
      simp
    · rw [plc_bit l h, List.length_cons, List.length_map, plc_len l]
      simp [h]
theorem plc_lt {l : List Nat} {i : Nat} (h : i ∈ plc l) : i < l.length := by
  unfold plc at h
  exact List.mem_range.mp (List.mem_filter.mp h).1
theorem plc_set : ∀ {l : List Nat} {b x : Nat}, x ≠ 46 → b < (bt l).length →
    bt (l.set ((plc l).getD b 0) x) = (bt l).set b x ∧ plc (l.set ((plc l).getD b 0) x) = plc l ∧ (∀ n, szA n (l.set ((plc l).getD b 0) x) = szA n l)
  | [], b, x, _, h => by simp at h
  | c :: l, b, x, hx, h => by
    by_cases e : c = 46
    · subst e
      have hb : b < (bt l).length := by simpa using h
      obtain ⟨h1, h2, h3⟩ := plc_set (l := l) hx hb
      have hb2 : b < (plc l).length := by rw [plc_len]; exact hb
      have g : (plc (46 :: l)).getD b 0 = (plc l).getD b 0 + 1 := by
        rw [plc_dot, List.getD_eq_getElem?_getD, List.getElem?_map, List.getElem?_eq_getElem hb2, List.getD_eq_getElem?_getD, List.getElem?_eq_getElem hb2]
        rfl
      rw [g, List.set_cons_succ]
      refine ⟨?_, ?_, fun n => ?_⟩
      · have : bt (46 :: l.set ((plc l).getD b 0) x) = bt (l.set ((plc l).getD b 0) x) := by simp
        rw [this, h1]
        simp
      · rw [plc_dot, plc_dot, h2]
      · show n :: szA 0 _ = n :: szA 0 _
        rw [h3]
    · cases b with
      | zero =>
        have g : (plc (c :: l)).getD 0 0 = 0 := by rw [plc_bit l e] <;> rfl
        rw [g, List.set_cons_zero]
        refine ⟨by simp [e, hx], by rw [plc_bit l e, plc_bit l hx], fun n => ?_⟩
        show (if x = 46 then _ else szA (n + 1) l) = (if c = 46 then _ else szA (n + 1) l)
        rw [if_neg hx, if_neg e]
      | succ b =>
        have hb : b < (bt l).length := by
          have : (bt (c :: l)).length = (bt l).length + 1 := by simp [e]
          omega
        obtain ⟨h1, h2, h3⟩ := plc_set (l := l) hx hb
        have hb2 : b < (plc l).length := by rw [plc_len]; exact hb
        have g : (plc (c :: l)).getD (b + 1) 0 = (plc l).getD b 0 + 1 := by
          rw [plc_bit l e, List.getD_eq_getElem?_getD, List.getElem?_cons_succ, List.getElem?_map, List.getElem?_eq_getElem hb2, List.getD_eq_getElem?_getD, List.getElem?_eq_getElem hb2]
          rfl
        rw [g, List.set_cons_succ]
        refine ⟨?_, ?_, fun n => ?_⟩
        · have e1 : bt (c :: l.set ((plc l).getD b 0) x) = c :: bt (l.set ((plc l).getD b 0) x) := by simp [e]
          have e2 : bt (c :: l) = c :: bt l := by simp [e]
          rw [e1, h1, e2, List.set_cons_succ]
        · rw [plc_bit _ e, plc_bit _ e, h2]
        · show (if c = 46 then _ else szA (n + 1) _) = (if c = 46 then _ else szA (n + 1) l)
          rw [if_neg e, if_neg e, h3]
theorem sg_set {l : List Nat} {i x : Nat} (h : Sg l) (hx : x = 48 ∨ x = 49 ∨ x = 46) : Sg (l.set i x) := fun c hc => by
  rcases List.mem_or_eq_of_mem_set hc with q | q
  · exact h c q
  · rw [q]; exact hx
/-- bits set to x, one behind the other -/
def fl (x : Nat) (l bs : List Nat) : List Nat := bs.foldl (fun m b => m.set ((plc l).getD b 0) x) l
def flB (x : Nat) (b bs : List Nat) : List Nat := bs.foldl (fun m i => m.set i x) b
theorem flB_len (x : Nat) : ∀ (bs b : List Nat), (flB x b bs).length = b.length
  | [], b => rfl
  | i :: bs, b => by
    show (flB x (b.set i x) bs).length = _
    rw [flB_len x bs, List.length_set]
theorem fl_go {x : Nat} (hx : x = 48 ∨ x = 49) : ∀ {bs m p : List Nat}, plc m = p → (∀ b ∈ bs, b < (bt m).length) →
    bt (bs.foldl (fun m b => m.set (p.getD b 0) x) m) = flB x (bt m) bs ∧ szs (bs.foldl (fun m b => m.set (p.getD b 0) x) m) = szs m ∧ (Sg m → Sg (bs.foldl (fun m b => m.set (p.getD b 0) x) m))
      ∧ (bs.foldl (fun m b => m.set (p.getD b 0) x) m).length = m.length
  | [], m, p, _, _ => ⟨rfl, rfl, fun h => h, rfl⟩
  | b :: bs, m, p, hp, h => by
    subst hp
    have x46 : x ≠ 46 := by omega
    obtain ⟨h1, h2, h3⟩ := plc_set (l := m) (b := b) x46 (h b List.mem_cons_self)
    have hb : ∀ c ∈ bs, c < (bt (m.set ((plc m).getD b 0) x)).length := fun c hc => by
      rw [h1, List.length_set]
      exact h c (List.mem_cons_of_mem _ hc)
    obtain ⟨g1, g2, g3, g4⟩ := fl_go hx (bs := bs) h2 hb
    rw [List.foldl_cons]
    refine ⟨?_, ?_, fun q => g3 (sg_set q (by omega)), by rw [g4, List.length_set]⟩
    · rw [g1, h1]
      rfl
    · rw [g2]
      exact h3 0
theorem fl_ok {x : Nat} {l bs : List Nat} (hx : x = 48 ∨ x = 49) (h : ∀ b ∈ bs, b < (bt l).length) : bt (fl x l bs) = flB x (bt l) bs ∧ szs (fl x l bs) = szs l ∧ (Sg l → Sg (fl x l bs)) ∧ (fl x l bs).length = l.length := fl_go hx rfl h
/-! a pattern by its sizes and its bits -/
def cut : List Nat → List Nat → List (List Nat)
  | [], _ => []
  | s :: ss, b => b.take s :: cut ss (b.drop s)
def jn (ss b : List Nat) : List Nat := TL.joinL [46] (cut ss b)
theorem cut_len : ∀ (ss b : List Nat), (cut ss b).length = ss.length
  | [], b => rfl
  | s :: ss, b => by
    show (cut ss _).length + 1 = _
    rw [cut_len ss]
    rfl
theorem cut_lens : ∀ {ss b : List Nat}, ss.sum ≤ b.length → (cut ss b).map List.length = ss
  | [], b, _ => rfl
  | s :: ss, b, h => by
    rw [List.sum_cons] at h
    show (b.take s).length :: (cut ss (b.drop s)).map List.length = _
    rw [cut_lens (by rw [List.length_drop]; omega), List.length_take]
    congr 1
    omega
theorem cut_mem : ∀ {ss b p : List Nat} {c : Nat}, p ∈ cut ss b → c ∈ p → c ∈ b
  | [], b, p, c, h, _ => by simp [cut] at h
  | s :: ss, b, p, c, h, hc => by
    rcases List.mem_cons.mp h with q | q
    · subst q
      exact List.mem_of_mem_take hc
    · exact List.mem_of_mem_drop (cut_mem q hc)
theorem cut_flat : ∀ {ss b : List Nat}, ss.sum = b.length → (cut ss b).flatten = b
  | [], b, h => by
    have : b = [] := List.length_eq_zero_iff.mp (by simpa using h.symm)
    rw [this]
    rfl
  | s :: ss, b, h => by
    rw [List.sum_cons] at h
    show (b.take s ++ (cut ss (b.drop s)).flatten) = b
    rw [cut_flat (by rw [List.length_drop]; omega), List.take_append_drop]
theorem bt_plain : ∀ {b : List Nat}, (∀ c ∈ b, c = 48 ∨ c = 49) → bt b = b := fun {b} h =>
  List.filter_eq_self.mpr fun c hc => by
    have := h c hc
    simp
    omega
theorem bt_join : ∀ {bs : List (List Nat)}, (∀ b ∈ bs, ∀ c ∈ b, c = 48 ∨ c = 49) → bt (TL.joinL [46] bs) = bs.flatten
  | [], _ => rfl
  | [b], h => by
    show bt b = [b].flatten
    rw [bt_plain (h b List.mem_cons_self)]
    simp
  | b :: d :: r, h => by
    have ih := bt_join (bs := d :: r) fun x hx => h x (List.mem_cons_of_mem _ hx)
    have e : TL.joinL [46] (b :: d :: r) = b ++ ([46] ++ TL.joinL [46] (d :: r)) := rfl
    rw [e, List.flatten_cons, ← ih]
    show List.filter _ (b ++ ([46] ++ _)) = _
    rw [List.filter_append, List.filter_append]
    have q := bt_plain (h b List.mem_cons_self)
    show bt b ++ ([] ++ _) = _
    rw [q]
    rfl
def Bits (b : List Nat) : Prop := ∀ c ∈ b, c = 48 ∨ c = 49
theorem Bits.bt {l : List Nat} (h : Sg l) : Bits (Fb.bt l) := fun c hc => by
  have h1 := List.mem_filter.mp hc
  have h2 := h c h1.1
  have h3 : ¬ c = 46 := by simpa using h1.2
  omega
theorem jn_sg {ss b : List Nat} (h : Bits b) : Sg (jn ss b) := sg_join fun p hp c hc => h c (cut_mem hp hc)
theorem jn_sz {ss b : List Nat} (h : Bits b) (hs : ss.sum ≤ b.length) (ne : ss ≠ []) : szs (jn ss b) = ss := by
  unfold jn
  rw [szs_join (fun e => ne (by have := congrArg List.length e; rw [cut_len] at this; exact List.length_eq_zero_iff.mp this)) (fun p hp c hc => h c (cut_mem hp hc)), cut_lens hs]
theorem jn_bt {ss b : List Nat} (h : Bits b) (hs : ss.sum = b.length) : bt (jn ss b) = b := by
  unfold jn
  rw [bt_join (fun p hp c hc => h c (cut_mem hp hc)), cut_flat hs]
theorem jn_go : ∀ (l : List Nat) (n : Nat) (pre : List Nat), pre.length = n → jn (szA n l) (pre ++ bt l) = pre ++ l
  | [], n, pre, h => by
    show TL.joinL [46] [(pre ++ []).take n] = pre ++ []
    rw [List.append_nil, ← h, List.take_length]
    rfl
  | c :: l, n, pre, h => by
    by_cases e : c = 46
    · subst e
      have ih := jn_go l 0 [] rfl
      have es : szA n (46 :: l) = n :: szA 0 l := rfl
      have eb : bt (46 :: l) = bt l := by simp
      rw [es, eb]
      unfold jn at *
      show TL.joinL [46] ((pre ++ bt l).take n :: cut (szA 0 l) ((pre ++ bt l).drop n)) = _
      rw [← h, List.take_left', List.drop_left']
      · rw [List.nil_append] at ih
        cases q : cut (szA 0 l) (bt l) with
        | nil =>
          have h1 := congrArg List.length q
          rw [cut_len] at h1
          have h2 := (szA_len l 0).1
          simp at h1
          rw [h1] at h2
          simp at h2
        | cons d r =>
          rw [q] at ih
          have e2 : TL.joinL [46] (pre :: d :: r) = pre ++ ([46] ++ TL.joinL [46] (d :: r)) := rfl
          rw [e2, ih]
          rfl
      · rfl
      · rfl
    · have ih := jn_go l (n + 1) (pre ++ [c]) (by rw [List.length_append, h] <;> rfl)
      have es : szA n (c :: l) = szA (n + 1) l := by
        show (if c = 46 then _ else _) = _
        rw [if_neg e]
      have eb : bt (c :: l) = c :: bt l := by simp [e]
      rw [es, eb]
      rw [List.append_assoc, List.append_assoc] at ih
      exact ih
theorem jn_of (l : List Nat) : jn (szs l) (bt l) = l := by
  have h := jn_go l 0 [] rfl
  exact h
/-- two patterns of the same sizes and bits are the same -/
theorem pat_ext {l m : List Nat} (h1 : szs l = szs m) (h2 : bt l = bt m) : l = m := by
  rw [← jn_of l, ← jn_of m, h1, h2]
theorem IsP.bits {l : List Nat} (h : IsP l) : Bits (bt l) := Bits.bt h.sg
theorem bt_sum (l : List Nat) : (bt l).length = (szs l).sum := by
  have h := szA_sum l 0
  rw [Nat.zero_add] at h
  exact h.symm
theorem isP_jn {l b : List Nat} (h : IsP l) (hb : Bits b) (hl : b.length = (bt l).length) : IsP (jn (szs l) b) ∧ szs (jn (szs l) b) = szs l ∧ bt (jn (szs l) b) = b := by
  have e := bt_sum l
  have ne : szs l ≠ [] := fun q => by
    have h2 := (szA_len l 0).1
    unfold szs at q
    rw [q] at h2
    simp at h2
  have z := jn_sz (ss := szs l) hb (by omega) ne
  have t := jn_bt (ss := szs l) hb (by omega)
  refine ⟨⟨jn_sg hb, by rw [z]; exact h.one, by rw [z]; exact h.few, ?_⟩, z, t⟩
  show (bt (jn (szs l) b)).length ≤ 120
  rw [t, hl]
  exact h.sum
theorem isP_fl {l bs : List Nat} {x : Nat} (h : IsP l) (hx : x = 48 ∨ x = 49) (hb : ∀ b ∈ bs, b < (bt l).length) : IsP (fl x l bs) ∧ szs (fl x l bs) = szs l ∧ bt (fl x l bs) = flB x (bt l) bs := by
  obtain ⟨h1, h2, h3, h4⟩ := fl_ok (l := l) hx hb
  refine ⟨⟨h3 h.sg, by rw [h2]; exact h.one, by rw [h2]; exact h.few, ?_⟩, h2, h1⟩
  show (bt _).length ≤ 120
  rw [h1, flB_len]
  exact h.sum
theorem flB_bits {x : Nat} (hx : x = 48 ∨ x = 49) : ∀ {bs b : List Nat}, Bits b → Bits (flB x b bs)
  | [], b, h => h
  | i :: bs, b, h => flB_bits hx (bs := bs) (b := b.set i x) fun c hc => by
    rcases List.mem_or_eq_of_mem_set hc with q | q
    · exact h c q
    · rw [q]; exact hx
theorem le_sum : ∀ {l : List Nat} {n : Nat}, n ∈ l → n ≤ l.sum
  | [], n, h => by simp at h
  | a :: l, n, h => by
    rw [List.sum_cons]
    rcases List.mem_cons.mp h with q | q
    · omega
    · have := le_sum q
      omega
/-! a block set -/
def upB (x f s : Nat) (b : List Nat) : List Nat := b.take f ++ List.replicate s x ++ b.drop (f + s)
theorem upB_go {x f : Nat} {b : List Nat} : ∀ s, f + s ≤ b.length → (List.range s).foldl (fun m j => m.set (f + j) x) b = upB x f s b
  | 0, h => by
    unfold upB
    simp
  | s + 1, h => by
    rw [List.range_succ, List.foldl_append, upB_go s (by omega), List.foldl_cons, List.foldl_nil]
    unfold upB
    have e : b.drop (f + s) = b[f + s]'(by omega) :: b.drop (f + s + 1) := List.drop_eq_getElem_cons (by omega)
    have l1 : (b.take f ++ List.replicate s x).length = f + s := by
      rw [List.length_append, List.length_take, List.length_replicate]
      omega
    rw [List.set_append_right _ _ (by omega), l1, Nat.sub_self, e, List.set_cons_zero, List.replicate_succ', ← Nat.add_assoc]
    simp
theorem upB_len {x f s : Nat} {b : List Nat} (h : f + s ≤ b.length) : (upB x f s b).length = b.length := by
  unfold upB
  rw [List.length_append, List.length_append, List.length_take, List.length_replicate, List.length_drop]
  omega
theorem upB_bits {x f s : Nat} {b : List Nat} (hx : x = 48 ∨ x = 49) (h : Bits b) : Bits (upB x f s b) := fun c hc => by
  unfold upB at hc
  rcases List.mem_append.mp hc with q | q
  · rcases List.mem_append.mp q with r | r
    · exact h c (List.mem_of_mem_take r)
    · rw [(List.mem_replicate.mp r).2]; exact hx
  · exact h c (List.mem_of_mem_drop q)
theorem cut_set {x : Nat} : ∀ {ss : List Nat} {b : List Nat} {k s : Nat}, ss[k]? = some s → ss.sum ≤ b.length → (cut ss b).set k (List.replicate s x) = cut ss (upB x (ss.take k).sum s b)
  | [], b, k, s, h, _ => by simp at h
  | t :: ss, b, 0, s, h, hl => by
    rw [List.sum_cons] at hl
    have e : t = s := by simpa using h
    subst e
    show List.replicate t x :: cut ss (b.drop t) = (upB x 0 t b).take t :: cut ss ((upB x 0 t b).drop t)
    unfold upB
    rw [List.take_zero, List.nil_append, Nat.zero_add, List.take_left' (by simp), List.drop_left' (by simp)]
  | t :: ss, b, k + 1, s, h, hl => by
    rw [List.sum_cons] at hl
    have h' : ss[k]? = some s := by simpa using h
    have ih := cut_set (x := x) (b := b.drop t) h' (by rw [List.length_drop]; omega)
    have hk : (ss.take k).sum + s ≤ ss.sum := by
      have e := List.take_append_drop k ss
      have e2 : ss.drop k = s :: ss.drop (k + 1) := by
        have hk := (List.getElem?_eq_some_iff.mp h').1
        rw [List.drop_eq_getElem_cons hk]
        congr 1
        exact (List.getElem?_eq_some_iff.mp h').2
      have e3 := congrArg List.sum e
      rw [List.sum_append, e2, List.sum_cons] at e3
      omega
    show b.take t :: (cut ss (b.drop t)).set k _ = (upB x (t + (ss.take k).sum) s b).take t :: cut ss ((upB x (t + (ss.take k).sum) s b).drop t)
    rw [ih]
    have lt : (b.take t).length = t := by rw [List.length_take]; omega
    have e : upB x (t + (ss.take k).sum) s b = b.take t ++ upB x (ss.take k).sum s (b.drop t) := by
      unfold upB
      rw [List.take_add, List.drop_drop, Nat.add_assoc]
      simp
    rw [e, List.take_left' lt, List.drop_left' lt]
/-- the parts of a pattern -/
theorem spl_cut (l : List Nat) : ∀ acc, TL.spl [46] 0 acc l = cut (szA acc.length l) (acc ++ bt l) := by
  induction l with
  | nil =>
    intro acc
    rw [TL.spl_nil]
    show [acc] = [(acc ++ []).take acc.length]
    rw [List.append_nil, List.take_length]
  | cons c l ih =>
    intro acc
    by_cases e : c = 46
    · subst e
      have hp : TL.pre [46] (46 :: l) = true := TL.pre_self [46] l
      rw [TL.spl_hit hp]
      have eb : bt (46 :: l) = bt l := by simp
      rw [eb]
      show acc :: TL.spl [46] 0 [] l = (acc ++ bt l).take acc.length :: cut (szA 0 l) ((acc ++ bt l).drop acc.length)
      rw [List.take_left' rfl, List.drop_left' rfl, ih []]
      rfl
    · have hp : TL.pre [46] (c :: l) = false := TL.pre_of_head _ _ fun q => e q
      rw [TL.spl_miss hp, ih (acc ++ [c])]
      have eb : bt (c :: l) = c :: bt l := by simp [e]
      have es : szA acc.length (c :: l) = szA (acc.length + 1) l := by
        show (if c = 46 then _ else _) = _
        rw [if_neg e]
      rw [eb, es, List.length_append, List.append_assoc]
      rfl
theorem split_cut (l : List Nat) : Txt.split (S l) "." = (cut (szs l) (bt l)).map S := by
  have e : ((".":Str)) = S [46] := by decide +kernel
  rw [e, SX.split_S (by simp) (by decide), spl_cut l []]
  rfl
theorem join_cut (bs : List (List Nat)) : Txt.join "." (bs.map S) = S (TL.joinL [46] bs) := by
  have e : ((".":Str)) = S [46] := by decide +kernel
  rw [e]
  exact SX.join_S [46] bs
theorem cut_rep : ∀ (ss : List Nat) (N x : Nat), ss.sum ≤ N → cut ss (List.replicate N x) = ss.map fun s => List.replicate s x
  | [], N, x, h => rfl
  | s :: ss, N, x, h => by
    rw [List.sum_cons] at h
    show (List.replicate N x).take s :: cut ss ((List.replicate N x).drop s) = _
    rw [List.take_replicate, List.drop_replicate, cut_rep ss (N - s) x (by omega), Nat.min_eq_left (by omega)]
    rfl
end Fb
set_option maxRecDepth 100000
set_option maxHeartbeats 4000000
namespace Fb
open PySem PySem.Spec PyProof.Rows L2
open Sem (wp)
/-! enumerate(zip(text, text)), whose inner tuples stay out: the zip makes a new one each time -/
def ZF (h : Heap) (z TI TO : Addr) (v : Value) (f : Bool) : Prop := h.get? z = some { cls := .type "zip", dict := none, data := .fields #[v, .bool f, .bool false, .ref TI, .ref TO], slots := #[] }
def HV (v : Value) : Prop := v = .none ∨ ∃ T : Addr, v = rawInt T
section
variable {prog : Program} {w : World} {A : Around} {E : Value → Shared → Prop} {s : Shared} {z TI TO i1 i2 : Addr} {fp1 fp2 : List Addr} {n1 n2 i : Nat} {P1 P2 : Nat → Value → Prop} {St1 St2 : Nat → Heap → Prop} {a1 a2 v : Value} {f : Bool}
theorem free_any {Q : Bool → Shared → Prop} (hz : ZF s.heap z TI TO v f) (hv : HV v) (q1 : Q true s) (q0 : ∀ h', ZF h' z TI TO v true → Heap.SameBut z s.heap h' → Q false { s with heap := h' }) :
    wpAny (model prog w) A (Builtin.SmallTypes.ownedTupleIsFree (.ref z)) Q E s := by
  unfold Builtin.SmallTypes.ownedTupleIsFree
  rcases hv with rfl | ⟨T, rfl⟩
  · exact wpAny_bind (wpAny_field hz rfl (x := .none) rfl (wpAny_pure q1))
  refine wpAny_bind (wpAny_field hz rfl (x := rawInt T) rfl ?_)
  show wpAny _ _ (loadIfAlive ((T : Int).toNat) >>= fun r => _) _ _ _; rw [Int.toNat_natCast]
  refine wpAny_bind (fun _ _ _ => ?_)
  show wpAny _ _ (_ : Sem Bool) Q E s
  cases hT : s.heap.get? T with
  | none => simp only [Option.isNone_none, if_true]; exact wpAny_pure q1
  | some oT =>
    simp only [Option.isNone_some, Bool.false_eq_true, if_false]
    refine wpAny_bind (wpAny_field hz rfl (x := .bool f) rfl ?_)
    cases f
    · rw [if_pos (show (Value.bool false != Value.bool true) = true by rfl)]
      exact wpAny_bind (wpAny_setField_rec hz (by simp) fun g hg sg => wpAny_pure (q0 g hg sg))
    · rw [if_neg (show ¬ (Value.bool true != Value.bool true) = true by exact Bool.false_ne_true)]
      exact wpAny_pure (q0 _ hz (Heap.SameBut.refl _ _))
theorem ZF.put {h h' : Heap} {x : Addr} (e : ZF h z TI TO v f) (sb : Heap.SameBut x h h') (ne : z ≠ x) : ZF h' z TI TO v f := sb.extBut _ _ ne e
theorem zipN_item {Q : Value → Shared → Prop} (S : ZipSep2 z TI TO i1 i2 fp1 fp2) (D1 : Draws prog w A i1 fp1 n1 P1 St1) (D2 : Draws prog w A i2 fp2 n2 P2 St2)
    (hz : ZF s.heap z TI TO v f) (hv : HV v) (hTI : IsTupOf2 s.heap TI (.ref i1) (.ref i2)) (hTO : IsTupOf2 s.heap TO a1 a2) (st1 : St1 i s.heap) (st2 : St2 i s.heap) (lt1 : i < n1) (lt2 : i < n2)
    (k : ∀ x1 x2 h' tk v' f' b1 b2, P1 i x1 → P2 i x2 → HV v' → ZF h' z TI TO v' f' → IsTupOf2 h' TO b1 b2 → St1 (i + 1) h' → St2 (i + 1) h' → IsTupOf2 h' s.heap.objs.size x1 x2 → h'.objs.size = s.heap.objs.size + 1 →
      (∀ c o, c ≠ z → c ≠ TO → c ≠ i1 → c ≠ i2 → s.heap.get? c = some o → h'.get? c = some o) → Q (.ref s.heap.objs.size) { s with heap := h', toks := tk }) :
    wpAny (model prog w) A (Builtin.«zip.__next__» ⟨[.ref z], []⟩) (fun fin s' => ∃ v, fin = .done (.ret v) ∧ Q v s') E s := by
  obtain ⟨hp, g, d, t0, os⟩ := s
  show wpAny _ _ (field (.ref z) 2 >>= fun r => _) _ _ _; refine wpAny_bind (wpAny_field hz rfl (x := .bool false) rfl ?_)
  show wpAny _ _ (field (.ref z) 3 >>= fun r => _) _ _ _; refine wpAny_bind (wpAny_field hz rfl (x := .ref TI) rfl ?_)
  refine wpAny_bind (wpAny_seqItems hTI rfl ?_)
  show wpAny _ _ (Builtin.SmallTypes.ownedTupleIsFree (.ref z) >>= fun r => _) _ _ _
  refine wpAny_bind (free_any hz hv ?_ fun g0 zz0 s0 => ?_)
  · -- the tuple is free: it is filled again, a copy is given
    simp only [if_true]
    refine wpAny_bind (wpAny_rule (wpAny_bind (wpAny_field hz rfl (x := .ref TO) rfl ?_)))
    refine wpAny_bind (wpAny_setField_rec hz (by simp) fun g0 zz0 s0 => ?_)
    replace zz0 : ZF g0 z TI TO .ellipsis f := zz0; replace s0 : Heap.SameBut z hp g0 := s0
    refine wpAny_bind ?_; simp only [List.zipIdx_cons, List.zipIdx_nil, List.forIn_cons, List.forIn_nil]
    refine wpAny_bind (wpAny_bind (wpAny_onRaise ?_))
    show wpAny _ _ (Builtin.SmallTypes.nextOf (.ref i1) >>= fun r => _) _ _ ⟨g0, g, d, t0, os⟩
    refine wpAny_bind (D1.item i _ _ _ lt1 (D1.over st1 s0 S.zf1) fun x1 p1 t1 e1 y1 r1 => wpAny_pure ?_)
    replace r1 : Heap.SameBut i1 g0 p1 := r1
    have U1 : IsTupOf2 p1 TO a1 a2 := r1.extBut _ _ S.Ti1 (s0.extBut _ _ S.TOz hTO)
    refine wpAny_bind (wpAny_seqItems (s := ⟨p1, g, d, t1, os⟩) U1 rfl (wpAny_bind (updateSeq_IsTupOf2 (s := ⟨p1, g, d, t1, os⟩) U1 fun g1 V1 s1 => ?_)))
    replace V1 : IsTupOf2 g1 TO x1 a2 := V1; replace s1 : Heap.SameBut TO p1 g1 := s1
    refine wpAny_bind (wpAny_letGo (wpAny_pure (wpAny_bind (wpAny_bind (wpAny_onRaise ?_)))))
    show wpAny _ _ (Builtin.SmallTypes.nextOf (.ref i2) >>= fun r => _) _ _ ⟨g1, g, d, t1, os⟩
    refine wpAny_bind (D2.item i _ _ _ lt2 (D2.over (D2.over (D2.over st2 s0 S.zf2) r1 S.sep1_2) s1 S.Tf2) fun x2 p2 t2 e2 y2 r2 => wpAny_pure ?_)
    replace r2 : Heap.SameBut i2 g1 p2 := r2
    have U2 : IsTupOf2 p2 TO x1 a2 := r2.extBut _ _ S.Ti2 V1
    refine wpAny_bind (wpAny_seqItems (s := ⟨p2, g, d, t2, os⟩) U2 rfl (wpAny_bind (updateSeq_IsTupOf2 (s := ⟨p2, g, d, t2, os⟩) U2 fun g2 V2 s2 => ?_)))
    replace V2 : IsTupOf2 g2 TO x1 x2 := V2; replace s2 : Heap.SameBut TO p2 g2 := s2
    refine wpAny_bind (wpAny_letGo (wpAny_pure (wpAny_pure (wpAny_bind (wpAny_seqItems (s := ⟨g2, g, d, t2, os⟩) V2 rfl (wpAny_bind (wpAny_newTuple ?_)))))))
    have sz : g2.objs.size = hp.objs.size := by rw [s2.1, r2.1, s1.1, r1.1, s0.1]
    have Z2 : ZF g2 z TI TO .ellipsis f := (((zz0.put r1 S.zi1).put s1 S.TOz.symm).put r2 S.zi2).put s2 S.TOz.symm
    have all : ∀ c o, c ≠ z → c ≠ TO → c ≠ i1 → c ≠ i2 → hp.get? c = some o → g2.get? c = some o := fun c o cz cT c1 c2 e => s2.extBut _ _ cT (r2.extBut _ _ c2 (s1.extBut _ _ cT (r1.extBut _ _ c1 (s0.extBut _ _ cz e))))
    have j1 : St1 (i + 1) g2 := D1.over (D1.over (D1.over y1 s1 S.Tf1) r2 S.sep2_1) s2 S.Tf1
    have j2 : St2 (i + 1) g2 := D2.over y2 s2 S.Tf2
    have zlt : z < g2.objs.size := Heap.lt_size Z2
    show wpAny _ _ (Builtin.SmallTypes.ownedTupleHandOut (.ref z) (.ref g2.objs.size) >>= fun r => _) _ _ ⟨g2.push { cls := .type "tuple", data := .seq #[x1, x2] }, g, d, t2, os⟩
    refine wpAny_bind ?_; unfold Builtin.SmallTypes.ownedTupleHandOut
    have Z3 : ZF (g2.push { cls := .type "tuple", data := .seq #[x1, x2] }) z TI TO .ellipsis f := Heap.get?_push_of_some _ Z2
    refine wpAny_bind (wpAny_setField_rec Z3 (by simp) fun g4 Z4 s4 => ?_)
    replace Z4 : ZF g4 z TI TO (rawInt g2.objs.size) f := Z4
    refine wpAny_setField_rec Z4 (by simp) fun g5 Z5 s5 => ?_
    replace Z5 : ZF g5 z TI TO (rawInt g2.objs.size) false := Z5
    replace s4 : Heap.SameBut z (g2.push { cls := .type "tuple", data := .seq #[x1, x2] }) g4 := s4; replace s5 : Heap.SameBut z g4 g5 := s5
    have up : ∀ c o, c ≠ z → g2.get? c = some o → g5.get? c = some o := fun c o c1 e => s5.extBut _ _ c1 (s4.extBut _ _ c1 (Heap.get?_push_of_some _ e))
    have T5 : IsTupOf2 g5 g2.objs.size x1 x2 := s5.extBut _ _ (Nat.ne_of_gt zlt) (s4.extBut _ _ (Nat.ne_of_gt zlt) (Heap.get?_push_size _ rfl))
    have z5 : g5.objs.size = g2.objs.size + 1 := by rw [s5.1, s4.1, Heap.size_push]
    rw [sz] at T5 z5
    refine wpAny_pure ⟨_, rfl, ?_⟩
    show Q (.ref g2.objs.size) ⟨g5, g, d, t2, os⟩; rw [sz]
    exact k x1 x2 g5 t2 _ _ _ _ e1 e2 (.inr ⟨_, rfl⟩) Z5 (up _ _ S.TOz V2) (D1.frame _ _ _ j1 fun b hb o e => up b o (fun q => S.zf1 (q ▸ hb)) e) (D2.frame _ _ _ j2 fun b hb o e => up b o (fun q => S.zf2 (q ▸ hb)) e) T5 z5 fun c o cz cT c1 c2 e => up c o cz (all c o cz cT c1 c2 e)
  · -- it is still out: a new one
    replace s0 : Heap.SameBut z hp g0 := s0
    simp only [Bool.false_eq_true, if_false]
    refine wpAny_bind ?_; rw [← Array.forIn_toList]; simp only [List.forIn_cons, List.forIn_nil]
    refine wpAny_bind (wpAny_bind (wpAny_holding ?_))
    show wpAny _ _ (Builtin.SmallTypes.nextOf (.ref i1) >>= fun r => _) _ _ ⟨g0, g, d, t0, os⟩
    refine wpAny_bind (D1.item i _ _ _ lt1 (D1.over st1 s0 S.zf1) fun x1 p1 t1 e1 y1 r1 => wpAny_pure (wpAny_pure ?_))
    replace r1 : Heap.SameBut i1 g0 p1 := r1
    refine wpAny_bind (wpAny_bind (wpAny_holding ?_))
    show wpAny _ _ (Builtin.SmallTypes.nextOf (.ref i2) >>= fun r => _) _ _ ⟨p1, g, d, t1, os⟩
    refine wpAny_bind (D2.item i _ _ _ lt2 (D2.over (D2.over st2 s0 S.zf2) r1 S.sep1_2) fun x2 p2 t2 e2 y2 r2 => wpAny_pure (wpAny_pure (wpAny_pure ?_)))
    replace r2 : Heap.SameBut i2 p1 p2 := r2
    show wpAny _ _ (newTuple [x1, x2] >>= fun r => _) _ _ ⟨p2, g, d, t2, os⟩; refine wpAny_bind (wpAny_newTuple ?_)
    have sz : p2.objs.size = hp.objs.size := by rw [r2.1, r1.1, s0.1]
    have Z2 : ZF p2 z TI TO v true := (zz0.put r1 S.zi1).put r2 S.zi2
    have all : ∀ c o, c ≠ z → c ≠ i1 → c ≠ i2 → hp.get? c = some o → p2.get? c = some o := fun c o cz c1 c2 e => r2.extBut _ _ c2 (r1.extBut _ _ c1 (s0.extBut _ _ cz e))
    have up : ∀ c o, p2.get? c = some o → (p2.push { cls := .type "tuple", data := .seq #[x1, x2] }).get? c = some o := fun c o e => Heap.get?_push_of_some _ e
    have T5 : IsTupOf2 (p2.push { cls := .type "tuple", data := .seq #[x1, x2] }) p2.objs.size x1 x2 := Heap.get?_push_size _ rfl
    have z5 : (p2.push { cls := .type "tuple", data := .seq #[x1, x2] }).objs.size = p2.objs.size + 1 := Heap.size_push ..
    refine wpAny_pure ⟨_, rfl, ?_⟩
    show Q (.ref p2.objs.size) ⟨_, g, d, t2, os⟩; rw [sz] at T5 z5 ⊢
    exact k x1 x2 _ t2 _ _ _ _ e1 e2 hv (up _ _ Z2) (up _ _ (all _ _ S.TOz S.Ti1 S.Ti2 hTO)) (D1.frame _ _ _ (D1.over y1 r2 S.sep2_1) fun b hb o e => up b o e) (D2.frame _ _ _ y2 fun b hb o e => up b o e) T5 z5 fun c o cz cT c1 c2 e => up c o (all c o cz c1 c2 e)
theorem zipN_end {Q : Fin → Shared → Prop} (S : ZipSep2 z TI TO i1 i2 fp1 fp2) (D1 : Draws prog w A i1 fp1 n1 P1 St1) (D2 : Draws prog w A i2 fp2 n2 P2 St2)
    (hz : ZF s.heap z TI TO v f) (hv : HV v) (hTI : IsTupOf2 s.heap TI (.ref i1) (.ref i2)) (hTO : IsTupOf2 s.heap TO a1 a2) (st1 : St1 i s.heap) (st2 : St2 i s.heap) (le1 : i ≤ n1) (le2 : i ≤ n2) (hend : i = n1 ∨ i = n2)
    (k : ∀ h' tk e, (∀ c o, c ≠ z → c ≠ TO → c ≠ i1 → c ≠ i2 → s.heap.get? c = some o → h'.get? c = some o) → (∃ o, h'.get? e = some o ∧ o.cls = .type "StopIteration") → E (.ref e) { s with heap := h', toks := tk }) :
    wpAny (model prog w) A (Builtin.«zip.__next__» ⟨[.ref z], []⟩) Q E s := by
  obtain ⟨hp, g, d, t0, os⟩ := s
  show wpAny _ _ (field (.ref z) 2 >>= fun r => _) _ _ _; refine wpAny_bind (wpAny_field hz rfl (x := .bool false) rfl ?_)
  show wpAny _ _ (field (.ref z) 3 >>= fun r => _) _ _ _; refine wpAny_bind (wpAny_field hz rfl (x := .ref TI) rfl ?_)
  refine wpAny_bind (wpAny_seqItems hTI rfl ?_)
  show wpAny _ _ (Builtin.SmallTypes.ownedTupleIsFree (.ref z) >>= fun r => _) _ _ _
  refine wpAny_bind (free_any hz hv ?_ fun g0 zz0 s0 => ?_)
  · simp only [if_true]
    refine wpAny_bind (wpAny_rule (wpAny_bind (wpAny_field hz rfl (x := .ref TO) rfl ?_)))
    refine wpAny_bind (wpAny_setField_rec hz (by simp) fun g0 zz0 s0 => ?_)
    replace zz0 : ZF g0 z TI TO .ellipsis f := zz0; replace s0 : Heap.SameBut z hp g0 := s0
    refine wpAny_bind ?_; simp only [List.zipIdx_cons, List.zipIdx_nil, List.forIn_cons, List.forIn_nil]
    refine wpAny_bind (wpAny_bind (wpAny_onRaise ?_))
    show wpAny _ _ (Builtin.SmallTypes.nextOf (.ref i1) >>= fun r => _) _ _ ⟨g0, g, d, t0, os⟩
    by_cases lt1 : i < n1
    · refine wpAny_bind (D1.item i _ _ _ lt1 (D1.over st1 s0 S.zf1) fun x1 p1 t1 e1 y1 r1 => wpAny_pure ?_)
      replace r1 : Heap.SameBut i1 g0 p1 := r1
      have U1 : IsTupOf2 p1 TO a1 a2 := r1.extBut _ _ S.Ti1 (s0.extBut _ _ S.TOz hTO)
      refine wpAny_bind (wpAny_seqItems (s := ⟨p1, g, d, t1, os⟩) U1 rfl (wpAny_bind (updateSeq_IsTupOf2 (s := ⟨p1, g, d, t1, os⟩) U1 fun g1 V1 s1 => ?_)))
      replace s1 : Heap.SameBut TO p1 g1 := s1
      refine wpAny_bind (wpAny_letGo (wpAny_pure (wpAny_bind (wpAny_bind (wpAny_onRaise ?_)))))
      show wpAny _ _ (Builtin.SmallTypes.nextOf (.ref i2) >>= fun r => _) _ _ ⟨g1, g, d, t1, os⟩
      obtain rfl : i = n2 := by omega
      refine wpAny_bind (D2.done ⟨g1, g, d, t1, os⟩ _ _ (D2.over (D2.over (D2.over st2 s0 S.zf2) r1 S.sep1_2) s1 S.Tf2) fun q e xq oe => ?_)
      replace xq : Heap.ExtBut i2 g1 q := xq
      obtain ⟨ob, h1, h2⟩ := oe; replace h1 : q.get? e = some ob := h1
      have Zq : ZF q z TI TO .ellipsis f := xq _ _ S.zi2 ((zz0.put r1 S.zi1).put s1 S.TOz.symm)
      have nez : e ≠ z := fun x => by subst x; have y : q.get? e = _ := Zq; rw [y] at h1; cases h1; simp at h2
      refine wpAny_setField_rec (s := ⟨q, g, d, t1, os⟩) Zq (by simp) fun q' _ s' => ?_
      replace s' : Heap.SameBut z q q' := s'
      exact k q' t1 e (fun c o cz cT c1 c2 x => s'.extBut _ _ cz (xq _ _ c2 (s1.extBut _ _ cT (r1.extBut _ _ c1 (s0.extBut _ _ cz x))))) ⟨ob, s'.extBut _ _ nez h1, h2⟩
    · obtain rfl : i = n1 := by omega
      refine wpAny_bind (D1.done ⟨g0, g, d, t0, os⟩ _ _ (D1.over st1 s0 S.zf1) fun q e xq oe => ?_)
      replace xq : Heap.ExtBut i1 g0 q := xq
      obtain ⟨ob, h1, h2⟩ := oe; replace h1 : q.get? e = some ob := h1
      have Zq : ZF q z TI TO .ellipsis f := xq _ _ S.zi1 zz0
      have nez : e ≠ z := fun x => by subst x; have y : q.get? e = _ := Zq; rw [y] at h1; cases h1; simp at h2
      refine wpAny_setField_rec (s := ⟨q, g, d, t0, os⟩) Zq (by simp) fun q' _ s' => ?_
      replace s' : Heap.SameBut z q q' := s'
      exact k q' t0 e (fun c o cz cT c1 c2 x => s'.extBut _ _ cz (xq _ _ c1 (s0.extBut _ _ cz x))) ⟨ob, s'.extBut _ _ nez h1, h2⟩
  · replace s0 : Heap.SameBut z hp g0 := s0
    simp only [Bool.false_eq_true, if_false]
    refine wpAny_bind ?_; rw [← Array.forIn_toList]; simp only [List.forIn_cons, List.forIn_nil]
    refine wpAny_bind (wpAny_bind (wpAny_holding ?_))
    show wpAny _ _ (Builtin.SmallTypes.nextOf (.ref i1) >>= fun r => _) _ _ ⟨g0, g, d, t0, os⟩
    by_cases lt1 : i < n1
    · refine wpAny_bind (D1.item i _ _ _ lt1 (D1.over st1 s0 S.zf1) fun x1 p1 t1 e1 y1 r1 => wpAny_pure (wpAny_pure ?_))
      replace r1 : Heap.SameBut i1 g0 p1 := r1
      refine wpAny_bind (wpAny_bind (wpAny_holding ?_))
      show wpAny _ _ (Builtin.SmallTypes.nextOf (.ref i2) >>= fun r => _) _ _ ⟨p1, g, d, t1, os⟩
      obtain rfl : i = n2 := by omega
      refine wpAny_bind (D2.done ⟨p1, g, d, t1, os⟩ _ _ (D2.over (D2.over st2 s0 S.zf2) r1 S.sep1_2) fun q e xq oe => ?_)
      replace xq : Heap.ExtBut i2 p1 q := xq
      exact k q t1 e (fun c o cz cT c1 c2 x => xq _ _ c2 (r1.extBut _ _ c1 (s0.extBut _ _ cz x))) oe
    · obtain rfl : i = n1 := by omega
      refine wpAny_bind (D1.done ⟨g0, g, d, t0, os⟩ _ _ (D1.over st1 s0 S.zf1) fun q e xq oe => ?_)
      replace xq : Heap.ExtBut i1 g0 q := xq
      exact k q t0 e (fun c o cz cT c1 c2 x => xq _ _ c1 (s0.extBut _ _ cz x)) oe
theorem nextZ_item {Q : Value → Shared → Prop} (S : ZipSep2 z TI TO i1 i2 fp1 fp2) (D1 : Draws prog w A.in1 i1 fp1 n1 P1 St1) (D2 : Draws prog w A.in1 i2 fp2 n2 P2 St2)
    (hz : ZF s.heap z TI TO v f) (hv : HV v) (hTI : IsTupOf2 s.heap TI (.ref i1) (.ref i2)) (hTO : IsTupOf2 s.heap TO a1 a2) (st1 : St1 i s.heap) (st2 : St2 i s.heap) (lt1 : i < n1) (lt2 : i < n2)
    (k : ∀ x1 x2 h' tk v' f' b1 b2, P1 i x1 → P2 i x2 → HV v' → ZF h' z TI TO v' f' → IsTupOf2 h' TO b1 b2 → St1 (i + 1) h' → St2 (i + 1) h' → IsTupOf2 h' s.heap.objs.size x1 x2 → h'.objs.size = s.heap.objs.size + 1 →
      (∀ c o, c ≠ z → c ≠ TO → c ≠ i1 → c ≠ i2 → s.heap.get? c = some o → h'.get? c = some o) → Q (.ref s.heap.objs.size) { s with heap := h', toks := tk }) :
    wpAny (model prog w) A (Builtin.SmallTypes.nextOf (.ref z)) Q E s := by
  have hT : s.TypeIs (.ref z) "zip" := ⟨_, hz, rfl⟩
  unfold Builtin.SmallTypes.nextOf
  refine wpAny_bind (wpAny_callSpecial?_slot (name := Str.ofString "__next__") hT F.slot_zip_next (wpAny_call_entry F.slot_zip_next hT F.entry_zip_next ?_ (F.args_zip_next_1 _)))
  exact zipN_item S D1 D2 hz hv hTI hTO st1 st2 lt1 lt2 fun x1 x2 h' tk v' f' b1 b2 c1 c2 c3 c4 c5 c6 c7 c8 c9 c10 => wpAny_pure (k x1 x2 h' tk v' f' b1 b2 c1 c2 c3 c4 c5 c6 c7 c8 c9 c10)
theorem nextZ_end {Q : Value → Shared → Prop} (S : ZipSep2 z TI TO i1 i2 fp1 fp2) (D1 : Draws prog w A.in1 i1 fp1 n1 P1 St1) (D2 : Draws prog w A.in1 i2 fp2 n2 P2 St2)
    (hz : ZF s.heap z TI TO v f) (hv : HV v) (hTI : IsTupOf2 s.heap TI (.ref i1) (.ref i2)) (hTO : IsTupOf2 s.heap TO a1 a2) (st1 : St1 i s.heap) (st2 : St2 i s.heap) (le1 : i ≤ n1) (le2 : i ≤ n2) (hend : i = n1 ∨ i = n2)
    (k : ∀ h' tk e, (∀ c o, c ≠ z → c ≠ TO → c ≠ i1 → c ≠ i2 → s.heap.get? c = some o → h'.get? c = some o) → (∃ o, h'.get? e = some o ∧ o.cls = .type "StopIteration") → E (.ref e) { s with heap := h', toks := tk }) :
    wpAny (model prog w) A (Builtin.SmallTypes.nextOf (.ref z)) Q E s := by
  have hT : s.TypeIs (.ref z) "zip" := ⟨_, hz, rfl⟩
  unfold Builtin.SmallTypes.nextOf
  exact wpAny_bind (wpAny_callSpecial?_slot (name := Str.ofString "__next__") hT F.slot_zip_next (wpAny_call_entry F.slot_zip_next hT F.entry_zip_next (zipN_end S D1 D2 hz hv hTI hTO st1 st2 le1 le2 hend k) (F.args_zip_next_1 _)))
/-- the enumerate's step over such a zip -/
theorem enumZ_item {e : Addr} {old : Value} {Q : Option Value → Shared → Prop} (S : ZipSep2 z TI TO i1 i2 fp1 fp2) (D1 : Draws prog w A.in1.in1 i1 fp1 n1 P1 St1) (D2 : Draws prog w A.in1.in1 i2 fp2 n2 P2 St2)
    (he : IsEnum s.heap e z i old) (ez : e ≠ z) (eT : e ≠ TO) (e1 : e ∉ fp1) (e2 : e ∉ fp2)
    (hz : ZF s.heap z TI TO v f) (hv : HV v) (hTI : IsTupOf2 s.heap TI (.ref i1) (.ref i2)) (hTO : IsTupOf2 s.heap TO a1 a2) (st1 : St1 i s.heap) (st2 : St2 i s.heap) (lt1 : i < n1) (lt2 : i < n2)
    (k : ∀ x1 x2 h' tk t v' f' b1 b2, P1 i x1 → P2 i x2 → HV v' → ZF h' z TI TO v' f' → IsTupOf2 h' TO b1 b2 → St1 (i + 1) h' → St2 (i + 1) h' → IsTupOf2 h' s.heap.objs.size x1 x2 → h'.objs.size = s.heap.objs.size + 2 →
      IsTupOf2 h' (s.heap.objs.size + 1) (.int i t) (.ref s.heap.objs.size) → IsEnumOut h' e z ((i : Int) + 1) (.ref s.heap.objs.size) (s.heap.objs.size + 1) →
      (∀ c o, c ≠ e → c ≠ z → c ≠ TO → c ≠ i1 → c ≠ i2 → s.heap.get? c = some o → h'.get? c = some o) → Q (some (.ref (s.heap.objs.size + 1))) { s with heap := h', toks := tk }) :
    wpAny (model prog w) A (pyNext (.ref e)) Q E s := by
  have hT : s.TypeIs (.ref e) "enumerate" := ⟨_, he, rfl⟩
  unfold pyNext
  refine wpAny_bind (wpAny_attempt (wpAny_callSpecial?_slot (name := Str.ofString "__next__") hT F.slot_enumerate_next (wpAny_call_entry F.slot_enumerate_next hT F.entry_enumerate_next ?_ (F.args_enumerate_next_1 _))))
  obtain ⟨hp, g, d, t0, os⟩ := s
  have ei1 : e ≠ i1 := fun q => e1 (q ▸ S.mem1)
  have ei2 : e ≠ i2 := fun q => e2 (q ▸ S.mem2)
  have elt : e < hp.objs.size := Heap.lt_size he
  show wpAny _ _ (field (.ref e) 2 >>= fun r => _) _ _ _; refine wpAny_bind (wpAny_field he rfl (x := .ref z) rfl ?_)
  refine wpAny_bind (nextZ_item S D1 D2 hz hv hTI hTO st1 st2 lt1 lt2 fun x1 x2 q t v' f' b1 b2 c1 c2 c3 c4 c5 c6 c7 c8 c9 c10 => ?_)
  replace c8 : IsTupOf2 q hp.objs.size x1 x2 := c8; replace c9 : q.objs.size = hp.objs.size + 1 := c9; replace c10 : ∀ c o, c ≠ z → c ≠ TO → c ≠ i1 → c ≠ i2 → hp.get? c = some o → q.get? c = some o := c10
  have E1 : IsEnum q e z i old := c10 _ _ ez eT ei1 ei2 he
  show wpAny _ _ (field (.ref e) 3 >>= fun r => _) _ _ ⟨q, g, d, t, os⟩; refine wpAny_bind (wpAny_field E1 rfl (x := rawInt i) rfl ?_)
  show wpAny _ _ (field (.ref e) 4 >>= fun r => _) _ _ ⟨q, g, d, t, os⟩; refine wpAny_bind (wpAny_field E1 rfl (x := .none) rfl ?_)
  show wpAny _ _ (mkInt i >>= fun r => _) _ _ ⟨q, g, d, t, os⟩; refine wpAny_bind (wpAny_mkInt ?_)
  show wpAny _ _ (setField (.ref e) 3 (rawInt ((i : Int) + 1)) >>= fun r => _) _ _ ⟨q, g, d, t + 1, os⟩
  refine wpAny_bind (wpAny_setField_rec E1 (by simp) fun q2 E2 r2 => ?_)
  replace r2 : Heap.SameBut e q q2 := r2; replace E2 : IsEnum q2 e z ((i : Int) + 1) old := E2
  show wpAny _ _ (setField (.ref e) 4 .none >>= fun r => _) _ _ ⟨q2, g, d, t + 1, os⟩
  refine wpAny_bind (wpAny_setField_rec E2 (by simp) fun q3 E3 r3 => ?_)
  replace r3 : Heap.SameBut e q2 q3 := r3; replace E3 : IsEnum q3 e z ((i : Int) + 1) old := E3
  show wpAny _ _ (newTuple [.int i t, .ref hp.objs.size] >>= fun r => _) _ _ ⟨q3, g, d, t + 1, os⟩; refine wpAny_bind (wpAny_newTuple ?_)
  have E4 : IsEnum (q3.push { cls := .type "tuple", data := .seq #[.int i t, .ref hp.objs.size] }) e z ((i : Int) + 1) old := Heap.get?_push_of_some _ E3
  generalize eq4 : q3.push { cls := .type "tuple", data := .seq #[.int i t, .ref hp.objs.size] } = q4 at E4
  have z3 : q3.objs.size = hp.objs.size + 1 := by rw [r3.1, r2.1, c9]
  have T4 : IsTupOf2 q4 (hp.objs.size + 1) (.int i t) (.ref hp.objs.size) := by rw [← eq4, ← z3]; exact Heap.get?_push_size _ rfl
  have z4 : q4.objs.size = hp.objs.size + 2 := by rw [← eq4, Heap.size_push, z3]
  have up4 : ∀ c o, c ≠ e → q.get? c = some o → q4.get? c = some o := fun c o ce x => by rw [← eq4]; exact Heap.get?_push_of_some _ (r3.extBut _ _ ce (r2.extBut _ _ ce x))
  show wpAny _ _ (Builtin.SmallTypes.ownedTupleIsFree (.ref e) >>= fun r => _) _ _ ⟨q4, g, d, t + 1, os⟩
  rw [z3]; clear eq4 E3 r3 E2 r2 q2 z3 q3
  refine wpAny_bind ?_
  unfold Builtin.SmallTypes.ownedTupleIsFree
  refine wpAny_bind (wpAny_field E4 rfl (x := .none) rfl (wpAny_pure ?_)); simp only [if_true]
  refine wpAny_bind (wpAny_rule (wpAny_bind (wpAny_field E4 rfl (x := old) rfl (wpAny_bind (wpAny_setField_rec E4 (by simp) fun q5 E5 r5 => ?_)))))
  replace r5 : Heap.SameBut e q4 q5 := r5; replace E5 : IsEnum q5 e z ((i : Int) + 1) (.ref hp.objs.size) := E5
  show wpAny _ _ (Builtin.SmallTypes.ownedTupleHandOut (.ref e) (.ref (hp.objs.size + 1)) >>= fun r => _) _ _ ⟨q5, g, d, t + 1, os⟩
  refine wpAny_bind ?_; unfold Builtin.SmallTypes.ownedTupleHandOut
  refine wpAny_bind (wpAny_setField_rec E5 (by simp) fun q6 E6 r6 => ?_)
  replace r6 : Heap.SameBut e q5 q6 := r6; replace E6 : IsEnumOut q6 e z ((i : Int) + 1) (.ref hp.objs.size) (hp.objs.size + 1) := E6
  refine wpAny_setField_rec E6 (by simp) fun q7 E7 r7 => ?_
  replace r7 : Heap.SameBut e q6 q7 := r7; replace E7 : IsEnumOut q7 e z ((i : Int) + 1) (.ref hp.objs.size) (hp.objs.size + 1) := E7
  have up7 : ∀ c o, c ≠ e → q4.get? c = some o → q7.get? c = some o := fun c o ce x => r7.extBut _ _ ce (r6.extBut _ _ ce (r5.extBut _ _ ce x))
  have up : ∀ c o, c ≠ e → q.get? c = some o → q7.get? c = some o := fun c o ce x => up7 _ _ ce (up4 _ _ ce x)
  have z7 : q7.objs.size = hp.objs.size + 2 := by rw [r7.1, r6.1, r5.1, z4]
  refine wpAny_bind (wpAny_letGo (wpAny_pure ⟨_, rfl, wpAny_pure ?_⟩))
  exact k x1 x2 q7 (t + 1) t v' f' b1 b2 c1 c2 c3 (up _ _ ez.symm c4) (up _ _ eT.symm c5) (D1.frame _ _ _ c6 fun b hb o x => up b o (fun y => e1 (y ▸ hb)) x) (D2.frame _ _ _ c7 fun b hb o x => up b o (fun y => e2 (y ▸ hb)) x)
    (up _ _ (Nat.ne_of_gt elt) c8) z7 (up7 _ _ (Nat.ne_of_gt (Nat.lt_succ_of_lt elt)) T4) E7 fun c o ce cz cT d1 d2 x => up c o ce (c10 c o cz cT d1 d2 x)
theorem enumZ_end {e : Addr} {j : Int} {old : Value} {Q : Option Value → Shared → Prop} (S : ZipSep2 z TI TO i1 i2 fp1 fp2) (D1 : Draws prog w A.in1.in1 i1 fp1 n1 P1 St1) (D2 : Draws prog w A.in1.in1 i2 fp2 n2 P2 St2)
    (he : IsEnum s.heap e z j old) (hz : ZF s.heap z TI TO v f) (hv : HV v) (hTI : IsTupOf2 s.heap TI (.ref i1) (.ref i2)) (hTO : IsTupOf2 s.heap TO a1 a2) (st1 : St1 i s.heap) (st2 : St2 i s.heap) (le1 : i ≤ n1) (le2 : i ≤ n2) (hend : i = n1 ∨ i = n2)
    (k : ∀ h' tk, (∀ c o, c ≠ z → c ≠ TO → c ≠ i1 → c ≠ i2 → s.heap.get? c = some o → h'.get? c = some o) → Q none { s with heap := h', toks := tk }) :
    wpAny (model prog w) A (pyNext (.ref e)) Q E s := by
  have hT : s.TypeIs (.ref e) "enumerate" := ⟨_, he, rfl⟩
  unfold pyNext
  refine wpAny_bind (wpAny_attempt (wpAny_callSpecial?_slot (name := Str.ofString "__next__") hT F.slot_enumerate_next (wpAny_call_entry F.slot_enumerate_next hT F.entry_enumerate_next ?_ (F.args_enumerate_next_1 _))))
  show wpAny _ _ (field (.ref e) 2 >>= fun r => _) _ _ _; refine wpAny_bind (wpAny_field he rfl (x := .ref z) rfl ?_)
  refine wpAny_bind (nextZ_end S D1 D2 hz hv hTI hTO st1 st2 le1 le2 hend fun h' tk x kp hx => ?_)
  obtain ⟨o, ho, hc⟩ := hx
  refine wpAny_bind (wpAny_isInstance (T := "StopIteration") (b := true) ⟨o, ho, hc⟩ isSubtype_stop ?_)
  exact wpAny_pure (k h' tk kp)
theorem meets_enumZ (z : Addr) (TI TO : Addr) :
    Meets (Builtin.«enumerate.__new__» ⟨[.type "enumerate", .ref z], []⟩) (fun _ R s => IsZip s.heap z TI TO .none ∧
      R (.ok (.ret (.ref s.heap.objs.size))) { s with heap := s.heap.push { cls := .type "enumerate", data := .fields #[.none, .bool false, .ref z, rawInt 0, .none, .none] } }) :=
  .of_wp fun prog w A R s h => by
    obtain ⟨hp, g, d, tk, os⟩ := s; obtain ⟨h1, h⟩ := h
    have hsub := sub_enumerate
    have q1 : ∀ {A' : Around} {E : Value → Shared → Prop} {Q : Value → Shared → Prop}, Q (.ref z) ⟨hp, g, d, tk, os⟩ → wpAny (model prog w) A' (pyIter (.ref z)) Q E ⟨hp, g, d, tk, os⟩ := fun q => wpAny_pyIter_zip h1 q
    wp_walk using q1
    refine wpAny_stack_any fun st => wpAny_pure ?_
    split
    · rename_i c _ _ _ _ _
      cases (c == Value.type "enumerate") <;> (wp_walk using q1; exact ⟨_, rfl, h⟩)
    · wp_walk using q1
      exact ⟨_, rfl, h⟩
theorem call_enumZ {Q : Value → Shared → Prop} (hz : IsZip s.heap z TI TO .none)
    (k : ∀ h', IsEnum h' s.heap.objs.size z 0 .none → h'.objs.size = s.heap.objs.size + 1 → (∀ b o, s.heap.get? b = some o → h'.get? b = some o) → Q (.ref s.heap.objs.size) { s with heap := h' }) :
    wpAny (model prog w) A (call (.type "enumerate") [.ref z]) Q E s := by
  refine callType_new F.called_enumerate (by decide) (F.typeCall_enumerate_1 _) (F.newCall_enumerate_1 _) (fun obj => F.args_object_init_2 obj _) F.entry_enumerate_new (meets_enumZ z TI TO) ⟨hz, ?_⟩
  have he : IsEnum (s.heap.push { cls := .type "enumerate", data := .fields #[.none, .bool false, .ref z, rawInt 0, .none, .none] }) s.heap.objs.size z 0 .none := Heap.get?_push_size _ rfl
  exact ⟨⟨_, he, rfl⟩, k _ he (Heap.size_push ..) fun b o y => Heap.get?_push_of_some _ y⟩
end
/-- the turns: a pair of the number and a pair, both new -/
def ItZ (vals : Nat → List V) (n : Nat) : It := ⟨fun i _ => i < n, fun i H v H' => ∃ T T1, v = .ref T ∧ H T1 = none ∧ H T = none ∧ T ≠ T1 ∧ H' = upd (upd H T1 (.tup (vals i))) T (.tup [.int (i : Nat), .ref T1]), fun i _ => i = n⟩
/-- what an enumerate e over a zip z over two iterators is, behind i turns -/
def EZ (e z TI TO i1 i2 : Addr) (St1 St2 : Nat → Heap → Prop) (i : Nat) (h : Heap) : Prop :=
  (∃ old, IsEnum h e z i old) ∧ (∃ v f, HV v ∧ ZF h z TI TO v f) ∧ IsTupOf2 h TI (.ref i1) (.ref i2) ∧ (∃ a1 a2, IsTupOf2 h TO a1 a2) ∧ St1 i h ∧ St2 i h
theorem turn_Z {P : Program} {w : World} {K : PySem.W.Frag} {elts : List Expr} {kk : Nat} {tpos : Pos} {e z TI TO i1 i2 : Addr} {fp1 fp2 : List Addr} {n1 n2 : Nat} {P1 P2 : Nat → Value → Prop} {St1 St2 : Nat → Heap → Prop} {vals : Nat → List V}
    (S : ZipSep2 z TI TO i1 i2 fp1 fp2) (D1 : ∀ A : Around, A.handled = none → Draws P w A i1 fp1 n1 P1 St1) (D2 : ∀ A : Around, A.handled = none → Draws P w A i2 fp2 n2 P2 St2)
    (ez : e ≠ z) (eT : e ≠ TO) (eTI : e ≠ TI) (e1 : e ∉ fp1) (e2 : e ∉ fp2) (c1 : ∀ i h, St1 i h → ∀ b ∈ fp1, ∃ o, h.get? b = some o ∧ ∀ v, o.data ≠ .cell v) (c2 : ∀ i h, St2 i h → ∀ b ∈ fp2, ∃ o, h.get? b = some o ∧ ∀ v, o.data ≠ .cell v)
    (tell : ∀ i x y, P1 i x → P2 i y → Vals (vals i) [x, y]) (few : ∀ i, (vals i).length ≤ sizeLine) :
    Turn P w K (.Tuple elts kk tpos) (ItZ vals (min n1 n2)) (e :: z :: TI :: TO :: (fp1 ++ fp2)) e (EZ e z TI TO i1 i2 St1 St2) where
  mem := by simp
  obj := by
    rintro i h ⟨⟨old, he⟩, ⟨v, f, hv, hz⟩, hTI, ⟨a1, a2, hTO⟩, st1, st2⟩ b hb
    have hb' : b = e ∨ b = z ∨ b = TI ∨ b = TO ∨ b ∈ fp1 ∨ b ∈ fp2 := by simpa using hb
    rcases hb' with rfl | rfl | rfl | rfl | h1 | h1
    · exact ⟨_, he, fun v z => nomatch z⟩
    · exact ⟨_, hz, fun v z => nomatch z⟩
    · exact ⟨_, hTI, fun v z => nomatch z⟩
    · exact ⟨_, hTO, fun v z => nomatch z⟩
    · exact c1 i h st1 b h1
    · exact c2 i h st2 b h1
  keep := by
    rintro i h h' ⟨⟨old, he⟩, ⟨v, f, hv, hz⟩, hTI, ⟨a1, a2, hTO⟩, st1, st2⟩ k
    exact ⟨⟨old, k _ (by simp) _ he⟩, ⟨v, f, hv, k _ (by simp) _ hz⟩, k _ (by simp) _ hTI, ⟨a1, a2, k _ (by simp) _ hTO⟩, (D1 {} rfl).frame _ _ _ st1 fun b hb o x => k b (by simp [hb]) o x, (D2 {} rfl).frame _ _ _ st2 fun b hb o x => k b (by simp [hb]) o x⟩
  item := by
    rintro X rfl rfl rfl calm i pins s σ H E I apart ⟨⟨old, he⟩, ⟨v, f, hv, hz⟩, hTI, ⟨a1, a2, hTO⟩, st1, st2⟩ go
    have hh := I.ok.hd calm
    have lt1 : i < n1 := Nat.lt_of_lt_of_le go (Nat.min_le_left ..)
    have lt2 : i < n2 := Nat.lt_of_lt_of_le go (Nat.min_le_right ..)
    refine enumZ_item S (D1 _ hh) (D2 _ hh) he ez eT e1 e2 hz hv hTI hTO st1 st2 lt1 lt2 fun x1 x2 h' tk t v' f' b1 b2 p1 p2 hv' hz' hTO' s1' s2' hT1 hsz hT hE kp => ⟨_, rfl, ?_⟩
    refine wpAny_letOwnedTupleGo_enum hE fun h2 hE2 sb => ?_
    replace sb : Heap.SameBut e h' h2 := sb
    have elt : e < s.heap.objs.size := Heap.lt_size he
    have up : ∀ c o, c ≠ e → h'.get? c = some o → h2.get? c = some o := fun c o ce x => sb.extBut _ _ ce x
    have fp_e : ∀ b ∈ e :: z :: TI :: TO :: (fp1 ++ fp2), b < s.heap.objs.size := fun b hb => by
      have hb' : b = e ∨ b = z ∨ b = TI ∨ b = TO ∨ b ∈ fp1 ∨ b ∈ fp2 := by simpa using hb
      rcases hb' with rfl | rfl | rfl | rfl | q | q
      · exact elt
      · exact Heap.lt_size hz
      · exact Heap.lt_size hTI
      · exact Heap.lt_size hTO
      · obtain ⟨o, ho, _⟩ := c1 _ _ st1 _ q; exact Heap.lt_size ho
      · obtain ⟨o, ho, _⟩ := c2 _ _ st2 _ q; exact Heap.lt_size ho
    -- the inner tuple first
    have q1 : H s.heap.objs.size = none := I.hok.fresh (Nat.le_refl _)
    have I1 : Inv X pins σ (upd H s.heap.objs.size (.tup (vals i))) { s with heap := s.heap.push { cls := .type "tuple", data := .seq #[x1, x2] } } := by
      refine I.laid (t' := s.toks) (fun b u e => Heap.get?_push_of_some _ e) (Nat.le_refl _) ⟨few i, [x1, x2], tell i _ _ p1 p2, _, Heap.get?_push_size _ rfl, rfl, _, rfl⟩
    have n1' : s.heap.objs.size + 1 ≠ s.heap.objs.size := Nat.succ_ne_self _
    have I2 : Inv X pins σ (upd (upd H s.heap.objs.size (.tup (vals i))) (s.heap.objs.size + 1) (.tup [.int (i : Nat), .ref s.heap.objs.size])) { s with heap := h2, toks := tk } := by
      refine I1.turnedNew (ch := e :: z :: TI :: TO :: (fp1 ++ fp2)) (fun b u hb q => ?_) (fun b hb => ?_) (by show (s.heap.push _).objs.size ≤ _; rw [Heap.size_push]; exact Nat.le_refl _) ⟨by show 2 ≤ sizeLine; decide, [.int i t, .ref s.heap.objs.size], .cons ⟨t, rfl⟩ (.cons rfl .nil), _, up _ _ (Nat.ne_of_gt (Nat.lt_succ_of_lt elt)) hT, rfl, _, rfl⟩
      · have nb : b ≠ e ∧ b ≠ z ∧ b ≠ TI ∧ b ≠ TO ∧ b ∉ fp1 ∧ b ∉ fp2 := by simpa using hb
        replace q : (s.heap.push { cls := .type "tuple", data := .seq #[x1, x2] }).get? b = some u := q
        by_cases hbs : b = s.heap.objs.size
        · subst hbs
          have y := Heap.get?_push_size s.heap (o := { cls := .type "tuple", data := .seq #[x1, x2] }) rfl
          rw [y] at q
          cases q
          exact up _ _ nb.1 hT1
        · have y : s.heap.get? b = some u := by rw [← q]; exact (Heap.get?_push_ne _ _ _ hbs).symm
          exact up _ _ nb.1 (kp b u nb.1 nb.2.1 nb.2.2.2.1 (fun z => nb.2.2.2.2.1 (z ▸ S.mem1)) (fun z => nb.2.2.2.2.2 (z ▸ S.mem2)) y)
      · have a := apart b hb
        refine ⟨?_, a.2⟩
        rw [upd_ne (Nat.ne_of_lt (fp_e b hb))]
        exact a.1
    refine ⟨.ref (s.heap.objs.size + 1), _, I2, rfl, ⟨_, _, rfl, q1, I.hok.fresh (Nat.le_succ _), n1', rfl⟩, ⟨⟨_, by have y := hE2; push_cast at y ⊢; exact y⟩, ⟨v', f', hv', up _ _ ez.symm hz'⟩, up _ _ eTI.symm (kp _ _ eTI.symm S.TIz S.TITO S.TIi1 S.TIi2 hTI), ⟨b1, b2, up _ _ eT.symm hTO'⟩,
      (D1 {} rfl).frame _ _ _ s1' fun b hb o x => up b o (fun y => e1 (y ▸ hb)) x, (D2 {} rfl).frame _ _ _ s2' fun b hb o x => up b o (fun y => e2 (y ▸ hb)) x⟩, fun b hb => ?_⟩
    have lt := fp_e b hb
    rw [upd_ne (Nat.ne_of_lt (Nat.lt_succ_of_lt lt)), upd_ne (Nat.ne_of_lt lt)]
    exact (apart b hb).1
  done := by
    rintro X rfl rfl rfl calm i pins s σ H E I apart ⟨⟨old, he⟩, ⟨v, f, hv, hz⟩, hTI, ⟨a1, a2, hTO⟩, st1, st2⟩ stop
    have hh := I.ok.hd calm
    have eqi : i = min n1 n2 := stop
    refine enumZ_end S (D1 _ hh) (D2 _ hh) he hz hv hTI hTO st1 st2 (by rw [eqi]; exact Nat.min_le_left ..) (by rw [eqi]; exact Nat.min_le_right ..) (by omega) fun h' tk kp => ⟨rfl, ?_⟩
    refine I.turnedL (ch := e :: z :: TI :: TO :: (fp1 ++ fp2)) (fun b u hb q => ?_) apart
    have nb : b ≠ e ∧ b ≠ z ∧ b ≠ TI ∧ b ≠ TO ∧ b ∉ fp1 ∧ b ∉ fp2 := by simpa using hb
    exact kp b u nb.2.1 nb.2.2.2.1 (fun z => nb.2.2.2.2.1 (z ▸ S.mem1)) (fun z => nb.2.2.2.2.2 (z ▸ S.mem2)) q
  self := fun A i s Q E st q => wpAny_pyIter_enum st.1.choose_spec q
section
variable {X : Cx} {elts : List Expr} {kk : Nat} {tpos p pos p2 pos2 : Pos} {e1 e2 : Expr} {ta : TA}
def iEnumZ (ta : TA) : TI := fun σ H R => ta σ H fun vs H1 => ∃ x y : Str, vs = [.str x, .str y] ∧ R (ItZ (fun i => [.str (sgn x i), .str (sgn y i)]) (min x.cps.size y.cps.size)) H1
theorem pi_enumZ (hg : Gl X "enumerate") (hm : X.mg "enumerate" = none) (hg2 : Gl X "zip") (hm2 : X.mg "zip" = none) (ha : PA X [e1, e2] ta)
    (hs0 : starEach [Expr.Call (.Name "zip" p2) [e1, e2] [] pos2] X.env = [(false, eval (Expr.Call (.Name "zip" p2) [e1, e2] [] pos2) X.env)] := by rfl)
    (hs : starEach [e1, e2] X.env = (false, eval e1 X.env) :: starEach [e2] X.env := by rfl) (hp : (backTo pos2 (starEach [e2] X.env)).any (·.1) = false := by rfl) :
    PI X (.Tuple elts kk tpos) (.Call (.Name "enumerate" p) [.Call (.Name "zip" p2) [e1, e2] [] pos2] [] pos) (iEnumZ ta) := by
  constructor
  intro pins s σ H R I h
  refine Call_ (ld_blt I hg hm boot_enumerate (callWith_type1 ?_ hs0 rfl))
  rw [hs0]
  show wpAny _ _ (spliced ((false, eval (Expr.Call (.Name "zip" p2) [e1, e2] [] pos2) X.env) :: backTo pos [])) _ _ s
  refine Calls.spliced_cons (Call_ (ld_blt I hg2 hm2 PyProof.Rows.boot_zip (callWith_type1 ?_ hs hp)))
  apply thn (ha.run pos2 pins s σ H _ I h)
  rintro us s1 ⟨vs, H1, I1, rel, x, y, rfl, q⟩
  obtain ⟨u1, u2, rfl, r1, r2⟩ := vals2 rel
  obtain ⟨t1, rfl⟩ := (show ∃ t, u1 = Value.str x t from r1)
  obtain ⟨t2, rfl⟩ := (show ∃ t, u2 = Value.str y t from r2)
  apply zip_begins2 (begins_text x t1) (begins_text y t2) trivial trivial
  intro h' hz hTI hTO g1 g2 hsz keep
  refine Calls.spliced_nil ?_
  refine call_enumZ (s := { s1 with heap := h' }) hz fun h2 hE hsz2 keep2 => ?_
  replace hsz2 : h2.objs.size = h'.objs.size + 1 := hsz2; replace keep2 : ∀ b o, h'.get? b = some o → h2.get? b = some o := keep2
  replace hE : IsEnum h2 h'.objs.size (s1.heap.objs.size + 4) 0 .none := hE
  show wpAny _ _ (pyIter (.ref h'.objs.size)) _ _ _
  rw [hsz] at hE ⊢
  apply wpAny_pyIter_enum hE
  have I2 : Inv X pins σ H1 { s1 with heap := h2 } := I1.kept (t' := s1.toks) fun b u z => keep2 _ _ (keep _ _ z)
  have S := zip_sep2 (N := s1.heap.objs.size) (fp1 := []) (fp2 := []) (fun b z => nomatch z) (fun b z => nomatch z)
  have one : ∀ {b c : Addr}, b ∈ ([c] : List Addr) → b = c := fun z => List.mem_singleton.mp z
  refine ⟨s1.heap.objs.size + 5, _, _, _, H1, rfl, I2, turn_Z (e := s1.heap.objs.size + 5) S (fun A hh => draws_text hh _ x t1) (fun A hh => draws_text hh _ y t2) (by show (_ : Nat) ≠ _; omega) (by show (_ : Nat) ≠ _; omega) (by show (_ : Nat) ≠ _; omega) (fun z => absurd (one z) (by show (_ : Nat) ≠ _; omega)) (fun z => absurd (one z) (by show (_ : Nat) ≠ _; omega))
      (fun i h st b hb => by rw [one hb]; exact text_cell st) (fun i h st b hb => by rw [one hb]; exact text_cell st) (fun i a b pa pb => .cons (rel_sgn pa) (.cons (rel_sgn pb) .nil)) (fun i => by show 2 ≤ sizeLine; decide),
    ⟨⟨.none, hE⟩, ⟨.none, false, .inl rfl, keep2 _ _ hz⟩, keep2 _ _ hTI, ⟨_, _, keep2 _ _ hTO⟩, text_begun (keep2 _ _ g1), text_begun (keep2 _ _ g2)⟩, fun b hb => ?_, q⟩
  have hb' : b = s1.heap.objs.size + 5 ∨ b = s1.heap.objs.size + 4 ∨ b = s1.heap.objs.size + 2 ∨ b = s1.heap.objs.size + 3 ∨ b = s1.heap.objs.size ∨ b = s1.heap.objs.size + 1 := by simpa using hb
  have le : s1.heap.objs.size ≤ b := by rcases hb' with rfl | rfl | rfl | rfl | rfl | rfl <;> (show (_ : Nat) ≤ _; omega)
  exact I1.fpOk le (I1.hok.fresh le)
end
theorem lc_Z {vals : Nat → List V} {n : Nat} {g : TG} {tt : TT} {te : TE} {vs : List Nat} {σ : L2.St} {H1 : Hp} {D : Addr} {Qd : Hp → Prop} (Pv : Nat → Hp → Prop) (h0 : Pv 0 (upd H1 D (.lst [])))
    (hs : ∀ i T T1 H, i < n → Pv i H → H T1 = none → H T = none → T ≠ T1 → g (.ref T) (wipe σ vs) (upd (upd H T1 (.tup (vals i))) T (.tup [.int (i : Nat), .ref T1])) fun σ2 H2 => wipe σ2 vs = wipe σ vs ∧ tt σ2 H2 fun b H3 =>
      if b = true then te σ2 H3 fun y H4 => ∃ acc, H4 D = some (.lst acc) ∧ acc.length < sizeLine ∧ Pv (i + 1) (upd H4 D (.lst (acc ++ [y]))) else Pv (i + 1) H3) (hd : ∀ H, Pv n H → Qd H) :
    ∃ W : Nat → Nat → Hp → Prop, (∃ m, W 0 m (upd H1 D (.lst []))) ∧ ∀ i m H, W i m H →
      ((ItZ vals n).stop i H ∧ Qd H) ∨ ((ItZ vals n).go i H ∧ ∃ Nx : Hp → Prop, (∀ H', Nx H' → ∃ m', m' < m ∧ W (i + 1) m' H') ∧ ∀ x H', (ItZ vals n).yld i H x H' → g x (wipe σ vs) H' fun σ2 H2 => wipe σ2 vs = wipe σ vs ∧ tt σ2 H2 fun b H3 =>
        if b = true then te σ2 H3 fun y H4 => ∃ acc, H4 D = some (.lst acc) ∧ acc.length < sizeLine ∧ Nx (upd H4 D (.lst (acc ++ [y]))) else Nx H3) := by
  refine ⟨fun i m H => i + m = n ∧ Pv i H, ⟨n, by omega, h0⟩, fun i m H ⟨hm, p⟩ => ?_⟩
  by_cases lt : i < n
  · refine Or.inr ⟨lt, Pv (i + 1), fun H' p' => ⟨m - 1, by omega, by omega, p'⟩, ?_⟩
    rintro x H' ⟨T, T1, rfl, h1, h2, h3, rfl⟩
    exact hs i T T1 H lt p h1 h2 h3
  · obtain rfl : i = n := by omega
    exact Or.inl ⟨rfl, hd H p⟩
end Fb
set_option maxRecDepth 100000
set_option maxHeartbeats 4000000
namespace Fb
open PySem PySem.Spec PyProof.Rows L2
open SX (S)
/-! the numbers of unlike bits -/
def unlNs (l m : List Nat) : List Nat := (List.range (min (bt l).length (bt m).length)).filter fun i => decide ((bt l).getD i 0 ≠ (bt m).getD i 0)
def unlZ (l m : List Nat) : Nat := ((List.zipWith (fun a b => decide (a ≠ b)) l m).filter id).length
theorem unlZ_cons (a b : Nat) (l m : List Nat) : unlZ (a :: l) (b :: m) = (if a = b then 0 else 1) + unlZ l m := by
  unfold unlZ
  rw [List.zipWith_cons_cons]
  by_cases h : a = b
  · rw [List.filter_cons_of_neg (by simpa using h), if_pos h, Nat.zero_add]
  · rw [List.filter_cons_of_pos (by simpa using h), List.length_cons, if_neg h, Nat.add_comm]
theorem unlNs_bt (l m : List Nat) : (unlNs l m).length = unlZ (bt l) (bt m) := by
  unfold unlNs unlZ
  generalize bt l = l
  generalize bt m = m
  have e : List.zipWith (fun a b => decide (a ≠ b)) l m = (List.range (min l.length m.length)).map fun i => decide (l.getD i 0 ≠ m.getD i 0) := by
    refine List.ext_getElem? fun i => ?_
    by_cases hi : i < min l.length m.length
    · have z1 := List.getElem?_eq_getElem (show i < l.length by omega)
      have z2 := List.getElem?_eq_getElem (show i < m.length by omega)
      rw [List.getElem?_zipWith, List.getElem?_map, List.getElem?_range hi, z1, z2]
      show some (decide (l[i] ≠ m[i])) = some (decide (l.getD i 0 ≠ m.getD i 0))
      rw [List.getD_eq_getElem?_getD, List.getD_eq_getElem?_getD, z1, z2]
      rfl
    · rw [List.getElem?_eq_none (by rw [List.length_zipWith]; omega), List.getElem?_eq_none (by simpa using hi)]
  rw [e, List.filter_map, List.length_map]
  rfl
theorem unlZ_al : ∀ {l m : List Nat}, Al l m → unlZ (bt l) (bt m) = unlZ l m
  | _, _, .nil => rfl
  | a :: l, b :: m, .cons r t => by
    have ih := unlZ_al t
    rcases r with ⟨h1, h2⟩ | ⟨h1, h2⟩
    · subst h1 h2
      rw [unlZ_cons, if_pos rfl, Nat.zero_add]
      exact ih
    · have ha : a ≠ 46 := by rcases h1 with h | h <;> omega
      have hb : b ≠ 46 := by rcases h2 with h | h <;> omega
      have e1 : bt (a :: l) = a :: bt l := by unfold bt; rw [List.filter_cons_of_pos (by simpa using ha)]
      have e2 : bt (b :: m) = b :: bt m := by unfold bt; rw [List.filter_cons_of_pos (by simpa using hb)]
      rw [e1, e2, unlZ_cons, unlZ_cons, ih]
theorem unlNs_len {l m : List Nat} (h : Al l m) : (unlNs l m).length = unlZ l m := (unlNs_bt l m).trans (unlZ_al h)
theorem nums_ln (ns : List Nat) : (nums ns).length = ns.length := by unfold nums; rw [List.length_map]
theorem unlNs_le (l m : List Nat) : (unlNs l m).length ≤ l.length := by
  unfold unlNs
  refine Nat.le_trans (List.length_filter_le _ _) ?_
  rw [List.length_range]
  exact Nat.le_trans (Nat.min_le_left ..) (by unfold bt; exact List.length_filter_le _ _)
theorem lc_outZ {H1 : Hp} {D : Addr} (out : Nat → List V) {vals : Nat → List V} {n : Nat} {g : TG} {tt : TT} {te : TE} {vs : List Nat} {σ : L2.St} {Qd : Hp → Prop} (hD : H1 D = none) (o0 : out 0 = []) (ol : ∀ i, i < n → (out i).length < sizeLine)
    (hs : ∀ i T T1 H (Kc : V → Hp → Prop) (K0 : Hp → Prop), i < n → Same H1 H → H T = some (.tup [.int (i : Nat), .ref T1]) → H T1 = some (.tup (vals i)) → (∀ y H4, Same H H4 → out (i + 1) = out i ++ [y] → Kc y H4) → (∀ H4, Same H H4 → out (i + 1) = out i → K0 H4) →
      g (.ref T) (wipe σ vs) H fun σ2 H2 => wipe σ2 vs = wipe σ vs ∧ tt σ2 H2 fun b H3 => if b = true then te σ2 H3 Kc else K0 H3)
    (hd : ∀ H, Same H1 H → H D = some (.lst (out n)) → Qd H) :
    ∃ W : Nat → Nat → Hp → Prop, (∃ m, W 0 m (upd H1 D (.lst []))) ∧ ∀ i m H, W i m H →
      ((ItZ vals n).stop i H ∧ Qd H) ∨ ((ItZ vals n).go i H ∧ ∃ Nx : Hp → Prop, (∀ H', Nx H' → ∃ m', m' < m ∧ W (i + 1) m' H') ∧ ∀ x H', (ItZ vals n).yld i H x H' → g x (wipe σ vs) H' fun σ2 H2 => wipe σ2 vs = wipe σ vs ∧ tt σ2 H2 fun b H3 =>
        if b = true then te σ2 H3 fun y H4 => ∃ acc, H4 D = some (.lst acc) ∧ acc.length < sizeLine ∧ Nx (upd H4 D (.lst (acc ++ [y]))) else Nx H3) := by
  refine lc_Z (fun i H => OutI H1 D (out i) H) (by rw [o0]; exact OutI.start hD) (fun i T T1 H lt h h1 h2 ne => ?_) (fun H h => hd H h.1 h.2)
  have s0 : Same H (upd H T1 (.tup (vals i))) := smN (Same.refl _) h1
  have s1 : Same H (upd (upd H T1 (.tup (vals i))) T (.tup [.int (i : Nat), .ref T1])) := smN s0 (by rw [upd_ne ne]; exact h2)
  exact hs i T T1 _ _ _ lt (h.1.trans s1) upd_same (by rw [upd_ne (Ne.symm ne)]; exact upd_same) (fun y H4 s q => ⟨out i, (h.stay (s1.trans s)).2, ol i lt, by rw [q]; exact h.put hD (s1.trans s)⟩) (fun H4 s q => by rw [q]; exact h.stay (s1.trans s))
def spUnl : Sp := fun vs H Q _ => ∃ l m, vs = [.str (S l), .str (S m)] ∧ l.length ≤ 1000 ∧ m.length ≤ 1000 ∧ ∀ D H', Same H H' → H D = none → H' D = some (.lst (nums (unlNs l m))) → Q (.ref D) H'
end Fb
set_option maxRecDepth 100000
set_option maxHeartbeats 4000000
namespace Fb
open PySem PySem.Spec PyProof.Rows L2
/-! max and min of two texts -/
section
variable {prog : Program} {w : World} {A : Around}
theorem strs_gt {P : Nat → Value → Prop} (val : Nat → Str) (hval : ∀ i v, P i v → ∃ t, v = .str (val i) t) :
    CmpOf prog w A .Gt P (fun i j => decide ((val j).cps.toList < (val i).cps.toList)) := fun i j vi vj s Q E hi hj h => by
  obtain ⟨t, rfl⟩ := hval i vi hi
  obtain ⟨u, rfl⟩ := hval j vj hj
  have q := PySem.P.gt_str (x := val i) (y := val j) (t := t) (u := u) (A := A) (E := E) (prog := prog) (w := w) (s := s) (Q := Q) h
  unfold compareOp at q
  exact q
theorem strs_lt {P : Nat → Value → Prop} (val : Nat → Str) (hval : ∀ i v, P i v → ∃ t, v = .str (val i) t) :
    CmpOf prog w A .Lt P (fun i j => decide ((val i).cps.toList < (val j).cps.toList)) := fun i j vi vj s Q E hi hj h => by
  obtain ⟨t, rfl⟩ := hval i vi hi
  obtain ⟨u, rfl⟩ := hval j vj hj
  have q := PySem.P.lt_str (x := val i) (y := val j) (t := t) (u := u) (A := A) (E := E) (prog := prog) (w := w) (s := s) (Q := Q) h
  unfold compareOp at q
  exact q
variable {E : Value → Shared → Prop} {s : Shared}
def two (a b : Str) (i : Nat) : Str := if i = 0 then a else b
theorem two_at {a b : Str} {t u : Tok} (i : Nat) (v : Value) (h : (#[Value.str a t, Value.str b u])[i]? = some v) : ∃ t, v = .str (two a b i) t := by
  match i, h with
  | 0, h => exact ⟨t, by simpa [two] using h.symm⟩
  | 1, h => exact ⟨u, by simpa [two] using h.symm⟩
  | i + 2, h => simp at h
theorem two_walk {a b : Str} {t u : Tok} {h' : Heap} (hsz : (s.heap.push { cls := .type "tuple", data := .seq #[.str a t, .str b u] }).objs.size = s.heap.objs.size + 1)
    (hk : ∀ c o, c ∉ [s.heap.objs.size + 1] → ((s.heap.push { cls := .type "tuple", data := .seq #[.str a t, .str b u] }).push { cls := .type "tuple_iterator", data := .fields #[.ref s.heap.objs.size, .int 0 0] }).get? c = some o → h'.get? c = some o) :
    ∀ c o, s.heap.get? c = some o → h'.get? c = some o := fun c o e => by
  refine hk c o (fun hm => ?_) (Heap.get?_push_of_some _ (Heap.get?_push_of_some _ e))
  rcases List.mem_cons.mp hm with e1 | hm
  · have := Heap.lt_size e; rw [e1] at this; exact Nat.lt_irrefl _ (Nat.lt_of_succ_lt this)
  · cases hm
theorem max_two_strs {a b : Str} {t u : Tok} {Q : Value → Shared → Prop} (hh : A.handled = none)
    (h : ∀ h' tk, (∀ c o, s.heap.get? c = some o → h'.get? c = some o) → Q (if a.cps.toList < b.cps.toList then .str b u else .str a t) { s with heap := h', toks := tk }) :
    wpAny (model prog w) A (call (.builtin "max") [.str a t, .str b u]) Q E s := by
  have hT : (s.heap.push { cls := .type "tuple", data := .seq #[.str a t, .str b u] }).IsTuple s.heap.objs.size #[.str a t, .str b u] := ⟨_, Heap.get?_push_size _ rfl, rfl, 0, rfl⟩
  refine call_max_two (wpAny_pyIter_tuple hT ?_)
  have hsz : (s.heap.push { cls := .type "tuple", data := .seq #[.str a t, .str b u] }).objs.size = s.heap.objs.size + 1 := Heap.size_push ..
  refine ⟨_, [_, s.heap.objs.size], [_], _, _, _, _, rfl, Walks.tuple (A := A.in1) hh _ s.heap.objs.size (by rw [hsz]; exact Nat.ne_of_lt (Nat.lt_succ_self _)) #[.str a t, .str b u],
    ⟨⟨_, Heap.get?_push_size _ rfl, rfl, rfl⟩, hT.push _⟩, fun c hc => ?_, by simp, strs_gt (two a b) two_at, fun v h' tk hP hk => ?_⟩
  · show c < ((s.heap.push _).push _).objs.size
    rw [Heap.size_push, hsz]
    rcases List.mem_cons.mp hc with rfl | hc
    · rw [hsz]; exact Nat.lt_succ_self _
    · rcases List.mem_cons.mp hc with rfl | hc
      · exact Nat.lt_succ_of_lt (Nat.lt_succ_self _)
      · cases hc
  · have hold : ∀ c o, s.heap.get? c = some o → h'.get? c = some o := fun c o e => by
      refine hk c o (fun hm => ?_) (Heap.get?_push_of_some _ (Heap.get?_push_of_some _ e))
      rcases List.mem_cons.mp hm with e1 | hm
      · have := Heap.lt_size e; rw [e1, hsz] at this; exact Nat.lt_irrefl _ (Nat.lt_of_succ_lt this)
      · cases hm
    have := h h' tk hold
    have hv : v = if a.cps.toList < b.cps.toList then Value.str b u else Value.str a t := by
      have hP' : (#[Value.str a t, Value.str b u])[argBest (fun i j => decide ((two a b j).cps.toList < (two a b i).cps.toList)) 1]? = some v := hP
      by_cases hba : a.cps.toList < b.cps.toList
      · have e : argBest (fun i j => decide ((two a b j).cps.toList < (two a b i).cps.toList)) 1 = 1 := by simp [argBest, two, hba]
        rw [e] at hP'
        simpa [hba] using hP'.symm
      · have e : argBest (fun i j => decide ((two a b j).cps.toList < (two a b i).cps.toList)) 1 = 0 := by simp [argBest, two, hba]
        rw [e] at hP'
        simpa [hba] using hP'.symm
    rw [hv]; exact this
theorem min_two_strs {a b : Str} {t u : Tok} {Q : Value → Shared → Prop} (hh : A.handled = none)
    (h : ∀ h' tk, (∀ c o, s.heap.get? c = some o → h'.get? c = some o) → Q (if b.cps.toList < a.cps.toList then .str b u else .str a t) { s with heap := h', toks := tk }) :
    wpAny (model prog w) A (call (.builtin "min") [.str a t, .str b u]) Q E s := by
  have hT : (s.heap.push { cls := .type "tuple", data := .seq #[.str a t, .str b u] }).IsTuple s.heap.objs.size #[.str a t, .str b u] := ⟨_, Heap.get?_push_size _ rfl, rfl, 0, rfl⟩
  refine call_min_two (wpAny_pyIter_tuple hT ?_)
  have hsz : (s.heap.push { cls := .type "tuple", data := .seq #[.str a t, .str b u] }).objs.size = s.heap.objs.size + 1 := Heap.size_push ..
  refine ⟨_, [_, s.heap.objs.size], [_], _, _, _, _, rfl, Walks.tuple (A := A.in1) hh _ s.heap.objs.size (by rw [hsz]; exact Nat.ne_of_lt (Nat.lt_succ_self _)) #[.str a t, .str b u],
    ⟨⟨_, Heap.get?_push_size _ rfl, rfl, rfl⟩, hT.push _⟩, fun c hc => ?_, by simp, strs_lt (two a b) two_at, fun v h' tk hP hk => ?_⟩
  · show c < ((s.heap.push _).push _).objs.size
    rw [Heap.size_push, hsz]
    rcases List.mem_cons.mp hc with rfl | hc
    · rw [hsz]; exact Nat.lt_succ_self _
    · rcases List.mem_cons.mp hc with rfl | hc
      · exact Nat.lt_succ_of_lt (Nat.lt_succ_self _)
      · cases hc
  · have hold : ∀ c o, s.heap.get? c = some o → h'.get? c = some o := fun c o e => by
      refine hk c o (fun hm => ?_) (Heap.get?_push_of_some _ (Heap.get?_push_of_some _ e))
      rcases List.mem_cons.mp hm with e1 | hm
      · have := Heap.lt_size e; rw [e1, hsz] at this; exact Nat.lt_irrefl _ (Nat.lt_of_succ_lt this)
      · cases hm
    have := h h' tk hold
    have hv : v = if b.cps.toList < a.cps.toList then Value.str b u else Value.str a t := by
      have hP' : (#[Value.str a t, Value.str b u])[argBest (fun i j => decide ((two a b i).cps.toList < (two a b j).cps.toList)) 1]? = some v := hP
      by_cases hba : b.cps.toList < a.cps.toList
      · have e : argBest (fun i j => decide ((two a b i).cps.toList < (two a b j).cps.toList)) 1 = 1 := by simp [argBest, two, hba]
        rw [e] at hP'
        simpa [hba] using hP'.symm
      · have e : argBest (fun i j => decide ((two a b i).cps.toList < (two a b j).cps.toList)) 1 = 0 := by simp [argBest, two, hba]
        rw [e] at hP'
        simpa [hba] using hP'.symm
    rw [hv]; exact this
end
section
variable {X : Cx}
theorem call_maxS (hc : X.calm = true) : CallR X (.builtin "max") (fun xs H Q => ∃ i j : Str, xs = [.str i, .str j] ∧ Q (.str (if i.cps.toList < j.cps.toList then j else i)) H) := by
  intro pins s σ H xs us Q I r h
  obtain ⟨i, j, rfl, q⟩ := h
  obtain ⟨u, w', rfl, ⟨t, rfl⟩, ⟨t', rfl⟩⟩ := vals2 r
  refine max_two_strs (I.ok.hd hc) fun h' tk k => ⟨_, H, I.kept k, ?_, q⟩
  by_cases hj : i.cps.toList < j.cps.toList
  · rw [if_pos hj, if_pos hj]; exact ⟨_, rfl⟩
  · rw [if_neg hj, if_neg hj]; exact ⟨_, rfl⟩
theorem call_minS (hc : X.calm = true) : CallR X (.builtin "min") (fun xs H Q => ∃ i j : Str, xs = [.str i, .str j] ∧ Q (.str (if j.cps.toList < i.cps.toList then j else i)) H) := by
  intro pins s σ H xs us Q I r h
  obtain ⟨i, j, rfl, q⟩ := h
  obtain ⟨u, w', rfl, ⟨t, rfl⟩, ⟨t', rfl⟩⟩ := vals2 r
  refine min_two_strs (I.ok.hd hc) fun h' tk k => ⟨_, H, I.kept k, ?_, q⟩
  by_cases hj : j.cps.toList < i.cps.toList
  · rw [if_pos hj, if_pos hj]; exact ⟨_, rfl⟩
  · rw [if_neg hj, if_neg hj]; exact ⟨_, rfl⟩
end
/-! a sign, so often -/
theorem fold_sign (c : Nat) : ∀ (k : Nat) (acc : Array Nat), (List.replicate k (#[c] : Array Nat)).foldl (· ++ ·) acc = acc ++ (List.replicate k c).toArray
  | 0, acc => by simp
  | k + 1, acc => by
    rw [List.replicate_succ, List.foldl_cons, fold_sign c k, List.replicate_succ]
    apply Array.toList_inj.mp
    simp
theorem op_repS {X : Cx} : OpR X (binaryOp .Mult) (fun x y H Q => ∃ (c k : Nat), x = .str (SX.S [c]) ∧ y = .int (k : Nat) ∧ k ≤ 100000 ∧ Q (.str (SX.S (List.replicate k c))) H) := by
  intro pins s σ H x y v u Q I rx ry h
  obtain ⟨c, k, rfl, rfl, hk, q⟩ := h
  obtain ⟨t, rfl⟩ := rx
  obtain ⟨t', rfl⟩ := ry
  have l1 : (SX.S [c]).length = 1 := rfl
  refine PySem.P.mul_str ?_ ?_ ?_ ?_
  · rw [decide_eq_false (by omega), decide_eq_false (by omega)] <;> rfl
  · intro h1 h2
    rw [l1]
    have hk1 : 1 ≤ k := by omega
    intro h3
    have h5 : (1 : Int) ≤ (2 ^ 63 - 1) / (k : Int) := Int.le_ediv_of_mul_le (by omega) (by omega)
    omega
  · intro _ _
    rw [l1]
    exact decide_eq_false (by show ¬ (1 * ((k : Int)).toNat > sizeLine); rw [sizeLine_eq, show ((k : Int)).toNat = k from rfl]; omega)
  · by_cases h0 : (k : Int) < 1
    · rw [if_pos h0]
      have e : k = 0 := by omega
      subst e
      exact ⟨by decide, .str _, H, I.tok _, ⟨_, rfl⟩, q⟩
    · rw [if_neg h0]
      by_cases h1 : k = 1
      · subst h1
        rw [if_pos (by rfl)]
        exact ⟨.str _, H, I, ⟨_, rfl⟩, q⟩
      · have e1 : (((k : Int) == 1) || (SX.S [c]).length == 0) = false := by
          rw [l1]
          simp
          omega
        rw [if_neg (by rw [e1]; exact Bool.false_ne_true)]
        have e2 : (List.replicate ((k : Int)).toNat (SX.S [c]).cps).foldl (· ++ ·) #[] = (List.replicate k c).toArray := by
          have := fold_sign c k #[]
          rw [show ((k : Int)).toNat = k from rfl]
          show (List.replicate k (#[c] : Array Nat)).foldl (· ++ ·) #[] = _
          rw [this]
          simp
        rw [e2]
        refine ⟨?_, .str _, H, I.tok _, ⟨_, rfl⟩, q⟩
        show (SX.S (List.replicate k c)).length ≤ sizeLine
        rw [SX.S_len, List.length_replicate, sizeLine_eq]
        omega
end Fb
set_option maxRecDepth 100000
set_option maxHeartbeats 4000000
namespace Fb
open PySem PySem.Spec PyProof.Rows L2
theorem ixN_at {n j : Nat} (hj : j < n) : ixN n (j : Int) = some j := by
  unfold ixN
  rw [if_pos (by omega), if_pos (by omega)]
  simp
theorem countIn_signs (c : Nat) : ∀ l : List Nat, countIn (.str ⟨#[c]⟩) (l.map fun n => PyData.str ⟨#[n]⟩) = ((l.count c : Nat) : Int)
  | [] => by simp [countIn]
  | n :: l => by
    rw [List.map_cons, countIn, countIn_signs c l, List.count_cons]
    by_cases h : n = c
    · subst h
      simp [same]
      omega
    · have e : same (PyData.str ⟨#[n]⟩) (.str ⟨#[c]⟩) = false := by
        simp [same]
        exact h
      rw [e]
      simp [h]
theorem count_ones (b : List Nat) : Txt.count (SX.S b) "1" = ((b.count 49 : Nat) : Int) := by
  have e : (("1" : Str)) = ⟨#[49]⟩ := by decide +kernel
  rw [e, count_is, show (SX.S b).cps.toList = b by simp [SX.S], countIn_signs]
/-! sum of a tuple; a class held by a local name; comprehensions over tuples -/
section
variable {X : Cx}
def rSumT (K : PySem.W.Frag) : List V → Hp → VK → Prop := fun vs H Q => ∃ (a : Addr) (ns : List Int), vs = [V.ref a] ∧ SqT K H a (ns.map V.int) ∧ Q (.int ns.sum) H
theorem cr_sumT (hc : X.calm = true) : CallR X (.builtin "sum") (rSumT X.K) := by
  intro pins s σ H vs us Q I r h
  obtain ⟨a, ns, rfl, hs, q⟩ := h
  obtain ⟨its, rv, hl, _⟩ := I.tuple hs
  rw [Vals.ref1 r]
  have hi := rv.ints
  obtain ⟨xs, e⟩ := hi.allInts.items
  have hn : numsOf (intItems xs).toList = ns := by rw [← e]; exact hi.numsOf
  rw [nums_intItems] at hn
  rw [e] at hl
  refine PySem.W.ktm_sumG (I.ok.hd hc) hl fun h' tk t' hk => ?_
  rw [preSum_eq, List.take_of_length_le (by simp), hn]
  exact ⟨.int _, H, I.kept hk, ⟨_, rfl⟩, q⟩
/-- C(..), C held by the i-th slot -/
def tMakeL (i : Nat) (C : Addr) (sp : Sp) (E : XK) (t : TA) : TE := fun σ H Q => σ[i]? = some (some (.ref C)) ∧ t σ H fun vs H1 => ∀ x dx, H1 x = none → H1 dx = none → dx ≠ x → sp (.ref x :: vs) (upd (upd H1 dx (.own x)) x (.ins C dx [])) (fun v H2 => v = .non ∧ Q (.ref x) H2) E
theorem pe_makeL {CX : CXT} {k i : Nat} {f C : Addr} {sp : Sp} {E : XK} {x : Str} {p pos : Pos} {e : Expr} {es : List Expr} {t : TA} (M : Mk X.K C f) (F : FnR X.prog X.w X.K X.mg X.base CX k f sp) (hr : Room (k + 1) X.A) (hN : X.N[i]? = some x) (hv : Vis X.env.scope x) (hx : Passes CX X E) (ha : PA X (e :: es) t) (hdb : (x == ("__debug__" : Str)) = false := by decide)
    (hcd : (x == ("__classdict__" : Str)) = false := by decide) (he : starEach (e :: es) X.env = (false, eval e X.env) :: starEach es X.env := by rfl) (hpl : (backTo pos (starEach es X.env)).any (·.1) = false := by rfl) : PE X (.Call (.Name x p) (e :: es) [] pos) (tMakeL i C sp E t) := by
  refine ⟨fun pins s σ H Q I h => ?_⟩
  obtain ⟨hs, ht⟩ := h
  refine wpAny_Call_Name_kw (thn ((pe_var (pos := p) hN hv hdb hcd).run pins s σ H (fun v H1 => v = .ref C ∧ H1 = H) I ⟨.ref C, hs, rfl, rfl⟩) fun u s1 ⟨v, H1, I1, r1, q1⟩ => ?_)
  obtain ⟨rfl, rfl⟩ := q1
  cases r1
  refine PySem.W.callWith_K (h₀ := X.base) I.ok.mod.kin M.kp (thn (ha.run pos pins s1 σ _ _ I1 ht) fun us s2 ⟨vs, H2, I2, r, q⟩ => ⟨I2.kIn, ?_⟩) he hpl
  exact StX.run_makeR M F hr hx I2 r q
end
section
variable {g : TG} {tt : TT} {te : TE} {vs : List Nat} {σ : L2.St} {H1 : Hp} {D : Addr} {Qd : Hp → Prop} (out : Nat → List V)
theorem lc_outU {K : PySem.W.Frag} {a : Addr} {xs : List V} (hD : H1 D = none) (hl : SqT K H1 a xs) (o0 : out 0 = []) (ol : ∀ i, i < xs.length → (out i).length < sizeLine)
    (hs : ∀ i x H (Kc : V → Hp → Prop) (K0 : Hp → Prop), xs[i]? = some x → Same H1 H → (∀ y H4, Same H H4 → out (i + 1) = out i ++ [y] → Kc y H4) → (∀ H4, Same H H4 → out (i + 1) = out i → K0 H4) →
      g x (wipe σ vs) H fun σ2 H2 => wipe σ2 vs = wipe σ vs ∧ tt σ2 H2 fun b H3 => if b = true then te σ2 H3 Kc else K0 H3)
    (hd : ∀ H, Same H1 H → H D = some (.lst (out xs.length)) → Qd H) :
    ∃ W : Nat → Nat → Hp → Prop, (∃ m, W 0 m (upd H1 D (.lst []))) ∧ ∀ i m H, W i m H →
      ((Itt K a).stop i H ∧ Qd H) ∨ ((Itt K a).go i H ∧ ∃ Nx : Hp → Prop, (∀ H', Nx H' → ∃ m', m' < m ∧ W (i + 1) m' H') ∧ ∀ x H', (Itt K a).yld i H x H' → g x (wipe σ vs) H' fun σ2 H2 => wipe σ2 vs = wipe σ vs ∧ tt σ2 H2 fun b H3 =>
        if b = true then te σ2 H3 fun y H4 => ∃ acc, H4 D = some (.lst acc) ∧ acc.length < sizeLine ∧ Nx (upd H4 D (.lst (acc ++ [y]))) else Nx H3) := by
  refine lc_tup (xs := xs) (fun i H => OutI H1 D (out i) H) (by rw [o0]; exact OutI.start hD) (fun i H _ h => sqT_same h.1 hl) (fun i x H e h => ?_) (fun H h => hd H h.1 h.2)
  have lt : i < xs.length := (List.getElem?_eq_some_iff.mp e).1
  exact hs i x H _ _ e h.1 (fun y H4 s q => ⟨out i, (h.stay s).2, ol i lt, by rw [q]; exact h.put hD s⟩) (fun H4 s q => by rw [q]; exact h.stay s)
end
end Fb
set_option maxRecDepth 100000
set_option maxHeartbeats 4000000
namespace Fb
open PySem PySem.Spec PyProof.Rows L2
open SX (S)
/-! lists of single signs -/
abbrev sgV (b : List Nat) : List V := b.map fun c => V.str (S [c])
theorem sgV_str (b : List Nat) : sgV b = (b.map fun c => S [c]).map V.str := by rw [List.map_map] <;> rfl
theorem countIn_strs (k : Str) : ∀ ys : List Str, countIn (.str k) (ys.map PyData.str) = ((ys.count k : Nat) : Int)
  | [] => by simp [countIn]
  | y :: ys => by
    rw [List.map_cons, countIn, countIn_strs k ys, List.count_cons]
    by_cases h : y = k
    · subst h
      simp [same]
      omega
    · have e : same (PyData.str y) (.str k) = false := by
        simp [same]
        exact h
      rw [e]
      simp [h]
section
variable {X : Cx}
def rCntS (K : PySem.W.Frag) : V → List V → Hp → VK → Prop := fun x xs H Q => ∃ (p : Addr) (ys : List Str) (k : Str), x = .ref p ∧ xs = [.str k] ∧ SqL K H p (ys.map V.str) ∧ Q (.int (ys.count k : Nat)) H
theorem mt_lcountS : MtR X "list.count" (rCntS X.K) := by
  intro pins s σ H x xs v us Q I rx rxs h
  obtain ⟨p, ys, k, rfl, rfl, hs, q⟩ := h
  cases rx
  obtain ⟨u, rfl, t, rfl⟩ := rxs.one
  obtain ⟨its, rv, ⟨ob, n, ho, hc, _, hdat⟩, _⟩ := I.list hs
  refine count_list_strs (vs := its) ⟨ob, ho, hc, n, hdat⟩ rv.strs ?_
  rw [countIn_strs]
  exact ⟨.int (ys.count k : Nat), H, I.tok _, ⟨_, rfl⟩, q⟩
end
theorem call_len_seqK {X : Cx} {K : PySem.W.Frag} (hK : X.K = K) : CallR X (.builtin "len") (fun xs H Q => ∃ p ys, xs = [.ref p] ∧ (SqL K H p ys ∨ SqT K H p ys) ∧ Q (.int ys.length) H) := by
  subst hK
  exact call_len_seq
theorem count_sg (b : List Nat) (c : Nat) : (b.map fun c => S [c]).count (S [c]) = b.count c := by
  induction b with
  | nil => rfl
  | cons a b ih =>
    rw [List.map_cons, List.count_cons, List.count_cons, ih, SX.S_beq_eq]
    by_cases h : a = c
    · subst h; simp
    · simp [h]
theorem inV_sgV (c : Nat) (b : List Nat) : inV (.str (S [c])) (sgV b) = decide (c ∈ b) := by
  induction b with
  | nil => rfl
  | cons a b ih =>
    have e : inV (.str (S [c])) (sgV (a :: b)) = (eqV (V.str (S [a])) (V.str (S [c])) || inV (.str (S [c])) (sgV b)) := rfl
    rw [e, ih]
    have e2 : eqV (V.str (S [a])) (V.str (S [c])) = decide (a = c) := by
      show (S [a] == S [c]) = _
      rw [SX.S_beq_eq]
      by_cases h : a = c
      · subst h; simp
      · simp [h]
    rw [e2]
    by_cases h : a = c
    · subst h; simp
    · have : ¬ c = a := fun q => h q.symm
      simp [h, this]
theorem flat_sgV : ∀ b : List Nat, (sgV b).all flatV = true
  | [] => rfl
  | c :: b => by
    show (flatV (V.str (S [c])) && (sgV b).all flatV) = true
    rw [flat_sgV b]
    rfl
theorem cut_get : ∀ {ss b : List Nat} {i s : Nat}, ss[i]? = some s → (cut ss b)[i]? = some ((b.drop (ss.take i).sum).take s)
  | [], b, i, s, h => by simp at h
  | t :: ss, b, 0, s, h => by
    have e : t = s := by simpa using h
    subst e
    rfl
  | t :: ss, b, i + 1, s, h => by
    have h' : ss[i]? = some s := by simpa using h
    show (cut ss (b.drop t))[i]? = some ((b.drop (t + (ss.take i).sum)).take s)
    rw [cut_get h', List.drop_drop]
theorem take_sum_s {ss : List Nat} {i s : Nat} (h : ss[i]? = some s) : (ss.take (i + 1)).sum = (ss.take i).sum + s := by
  rw [List.take_add_one, h, List.sum_append]
  simp
theorem take_sum_le (ss : List Nat) (i : Nat) : (ss.take i).sum ≤ ss.sum := by
  have e := congrArg List.sum (List.take_append_drop i ss)
  rw [List.sum_append] at e
  omega
theorem cutV_sg {b : List Nat} {f s : Nat} (h : f + s ≤ b.length) : cutV (sgV b) (some (f : Int)) (some ((f : Int) + (s : Int))) = sgV ((b.drop f).take s) := by
  unfold cutV
  have e : ((f : Int) + (s : Int)) = ((f + s : Nat) : Int) := by omega
  rw [e, HT.sIx_nat, HT.sIx_nat, List.length_map, Nat.min_eq_left h, Nat.min_eq_left (show f ≤ b.length by omega), Nat.add_sub_cancel_left, ← List.map_drop, ← List.map_take]
/-- a comprehension over a text -/
theorem lc_S {l : List Nat} {g : TG} {tt : TT} {te : TE} {vs : List Nat} {σ : L2.St} {H1 : Hp} {D : Addr} {Qd : Hp → Prop} (Pv : Nat → Hp → Prop) (h0 : Pv 0 (upd H1 D (.lst [])))
    (hs : ∀ i c H, l[i]? = some c → Pv i H → g (.str (S [c])) (wipe σ vs) H fun σ2 H2 => wipe σ2 vs = wipe σ vs ∧ tt σ2 H2 fun b H3 =>
      if b = true then te σ2 H3 fun y H4 => ∃ acc, H4 D = some (.lst acc) ∧ acc.length < sizeLine ∧ Pv (i + 1) (upd H4 D (.lst (acc ++ [y]))) else Pv (i + 1) H3) (hd : ∀ H, Pv l.length H → Qd H) :
    ∃ W : Nat → Nat → Hp → Prop, (∃ m, W 0 m (upd H1 D (.lst []))) ∧ ∀ i m H, W i m H →
      ((Its (S l)).stop i H ∧ Qd H) ∨ ((Its (S l)).go i H ∧ ∃ Nx : Hp → Prop, (∀ H', Nx H' → ∃ m', m' < m ∧ W (i + 1) m' H') ∧ ∀ x H', (Its (S l)).yld i H x H' → g x (wipe σ vs) H' fun σ2 H2 => wipe σ2 vs = wipe σ vs ∧ tt σ2 H2 fun b H3 =>
        if b = true then te σ2 H3 fun y H4 => ∃ acc, H4 D = some (.lst acc) ∧ acc.length < sizeLine ∧ Nx (upd H4 D (.lst (acc ++ [y]))) else Nx H3) := by
  have hz : (S l).cps.size = l.length := by simp [S]
  refine ⟨fun i m H => i + m = l.length ∧ Pv i H, ⟨l.length, by omega, h0⟩, fun i m H ⟨hm, p⟩ => ?_⟩
  by_cases lt : i < l.length
  · refine Or.inr ⟨by show i < (S l).cps.size; omega, Pv (i + 1), fun H' p' => ⟨m - 1, by omega, by omega, p'⟩, ?_⟩
    rintro x H' ⟨eH, c, hc, rfl⟩
    subst eH
    have e : l[i]? = some c := by simpa [S] using hc
    exact hs i c _ e p
  · obtain rfl : i = l.length := by omega
    exact Or.inl ⟨by show (S l).cps.size ≤ _; omega, hd H p⟩
/-! an exception that was caught and is kept, with fields or without -/
section
variable {X : Cx}
def rIsB (K : PySem.W.Frag) : List V → Hp → VK → Prop := fun xs H Q => ∃ (a C : Addr) (c : V) (cv : Value) (b : Bool), xs = [.ref a, c] ∧ XC K C ∧ XB K ∧ (H a = some (ExR (.ref C) none a) ∨ ∃ fs, XR H a C fs) ∧ ClsV c cv ∧ PySem.W.kitOne K (.ref C) cv = some b ∧ Q (.bl b) H
theorem call_isB : CallR X (.builtin "isinstance") (rIsB X.K) := by
  intro pins s σ H xs us Q I r h
  obtain ⟨a, C, c, cv, b, e, T, B, hE | ⟨fs, hE⟩, k, e2, q⟩ := h
  · exact call_isR pins s σ H xs us Q I r ⟨a, C, c, cv, b, e, T, B, hE, k, e2, q⟩
  · exact call_isQ pins s σ H xs us Q I r ⟨a, C, fs, c, cv, b, e, T, B, hE, k, e2, q⟩
end
end Fb
set_option maxRecDepth 100000
set_option maxHeartbeats 4000000
/-! a loop over range of a written number: within its body a token is out; calls and stores whose parts want one -/
namespace Fb
open PySem PySem.Spec PyProof.Rows L2
/-- what is walked, a token out behind it -/
def PIs (X : Cx) (tg iter : Expr) (wi : TI) : Prop :=
  ∀ (pins : List (Addr × Obj)) (s : Shared) (σ : L2.St) (H : Hp) (R : It → Hp → Prop), Inv X pins σ H s → wi σ H R →
    wpAny (model X.prog X.w) X.A (eval iter X.env) (fun v s1 => 1 ≤ s1.toks ∧ wpAny (model X.prog X.w) X.A (pyIter v) (PIE X pins σ tg R) X.xe s1) X.xe s
section
variable {X : Cx} {tg : Expr} {p c pos : Pos} {k : Int} {j : Nat}
theorem pis_range1 (hg : Gl X "range") (hm : X.mg "range" = none) : PIs X tg (.Call (.Name "range" p) [.Constant (.int k) j c] [] pos) (iRng1 (tCons (tC (.int k)) tNil)) := by
  intro pins s σ H R I h
  refine Call_ (ld_blt I hg hm boot_range (PyProof.Rows.callWith_type1 ?_ rfl rfl))
  show wpAny _ _ (spliced ((false, eval (.Constant (.int k) j c) X.env) :: backTo pos (starEach [] X.env))) _ _ s
  refine Calls.spliced_cons (wpAny_Constant_int (Calls.spliced_nil ?_))
  obtain ⟨i, e, q1, q2, q⟩ := h
  have e1 : k = i := by
    have := (List.cons.inj e).1
    exact V.int.inj this
  subst e1
  exact wpAny_mono (PySem.wpAny_toks_of (n := 1) (by show 1 ≤ s.toks + 1; omega) (call_range_1 (range_it (tg := tg) (R := R) (I.tok (s.toks + 1)) (by omega) (by omega) q1 q2 (by simpa using q)))) (fun _ _ z => z) fun _ _ z => z.2
theorem ps_forT {iter : Expr} {body : List Stmt} {wi : TI} {g : TG} {tb : TS} {pos : Pos} (hp : PassesOwn (model X.prog X.w) X.A X.env X.xe) (hc : X.calm = true) (hi : PIs X tg iter wi) (hg : PG X tg g) (hb : PSsT X body tb)
    (hs : ∀ x, foldedSetIterable iter X.env x = pure x := by intro _; rfl) : PS X (.For tg iter body [] pos) (tFor wi g tb) := by
  refine ⟨fun pins s σ H D I h => ?_⟩
  refine wpAny_For (thn (hi pins s σ H _ I h) fun v s1 ⟨t1, h1⟩ => wpAny_mono (PySem.wpAny_toks_of t1 h1) (fun itv s2 h2 => ?_) fun _ _ z => z.2) hs
  obtain ⟨t2, it, fp, tn, J, H2, e, I2, T, st2, f2, W, ⟨m0, w0⟩, turn⟩ := h2
  subst e
  have stat : ∀ {H' : Hp}, (∀ b ∈ fp, H' b = none) → ∀ b ∈ fp, FpOk X pins H' b := fun hn b hb => ⟨hn b hb, (f2 b hb).2⟩
  refine codeAny_forLoop_any (fun n s' => 1 ≤ s'.toks ∧ ∃ i σ' H', Inv X pins σ' H' s' ∧ tn i s'.heap ∧ (∀ b ∈ fp, H' b = none) ∧ W i n σ' H') ?_ m0 ⟨t2, 0, σ, H2, I2, st2, fun b hb => (f2 b hb).1, w0⟩
  rintro n s3 ⟨t3, i, σ3, H3, I3, st3, fr3, w3⟩
  rcases turn i n σ3 H3 w3 with ⟨stop, qn⟩ | ⟨go, N, hN, step⟩
  · refine wpAny_passesOwn hp (thn (T.done X rfl rfl rfl hc i pins s3 σ3 H3 X.xe I3 (stat fr3) st3 stop) fun r s4 ⟨hr, I4⟩ => ?_)
    subst hr
    exact wpAny_execs_nil ⟨σ3, H3, I4, qn⟩
  · refine wpAny_passesOwn hp (wpAny_mono (PySem.wpAny_toks_of t3 (T.item X rfl rfl rfl hc i pins s3 σ3 H3 X.xe I3 (stat fr3) st3 go)) (fun r s4 ⟨t4, u, hr, h4⟩ => ?_) fun _ _ z => z.2)
    subst hr
    refine wpAny_passesOwn hp (wpAny_mono (PySem.wpAny_toks_of t4 h4) (fun _ s5 ⟨t5, x, H5, I5, r5, y5, st5, fr5⟩ => ?_) fun _ _ z => z.2)
    have I5' := I5.pinned (stat fr5) (T.obj _ _ st5)
    refine wpAny_passesOwn hp (wpAny_mono (PySem.wpAny_toks_of t5 (hg.run _ s5 σ3 H5 x u _ I5' r5 (step x H5 y5))) (fun _ s6 ⟨t6, σ6, H6, I6, q6⟩ => ?_) fun _ _ z => z.2)
    refine wpAny_passesOwn hp (wpAny_mono (PySem.wpAny_toks_of t6 (hb _ s6 σ6 H6 _ t6 I6 q6)) (fun f s7 ⟨t7, q7⟩ => ?_) fun _ _ z => z.2)
    have again : ∀ {σ7 : L2.St} {H7 : Hp}, Inv X (pins ++ pinsAt fp s5.heap) σ7 H7 s7 → N σ7 H7 → ∃ m, m < n ∧ 1 ≤ s7.toks ∧ ∃ i σ' H', Inv X pins σ' H' s7 ∧ tn i s7.heap ∧ (∀ b ∈ fp, H' b = none) ∧ W i m σ' H' := fun {σ7 H7} I7 n7 => by
      obtain ⟨m', hm, w7⟩ := hN σ7 H7 n7
      refine ⟨m', hm, t7, i + 1, σ7, H7, I7.unpinned, T.keep _ _ _ st5 fun b hb o e => (I7.pin (b, o) (List.mem_append_right _ (List.mem_append_right _ (mem_pinsAt hb e)))).1, fun b hb => ?_, w7⟩
      obtain ⟨o, e, d⟩ := T.obj _ _ st5 b hb
      exact (I7.pin (b, o) (List.mem_append_right _ (List.mem_append_right _ (mem_pinsAt hb e)))).2.1
    cases f with
    | next => obtain ⟨σ7, H7, I7, n7⟩ := q7; exact again I7 n7
    | cont => obtain ⟨σ7, H7, I7, n7⟩ := q7; exact again I7 n7
    | brk => obtain ⟨σ7, H7, I7, q7⟩ := q7; exact ⟨σ7, H7, I7.unpinned, q7⟩
    | ret v => obtain ⟨x7, σ7, H7, I7, r7, q7⟩ := q7; exact ⟨x7, σ7, H7, I7.unpinned, r7, q7⟩
end
section
variable {X : Cx} {CX : CXT} {k : Nat} {f : Addr} {fd : FuncData} {ps : List Str} {sp : Sp} {ds : List Value} {dvs : List V} {E : XK} {x : Str} {p pos : Pos} {e : Expr} {es : List Expr} {t : TA}
theorem pet_call (F : FnOk X.prog X.w X.K X.mg X.base CX k f fd ps sp) (hr : Room k X.A) (hg : Gl X x) (hm : X.mg x = some (.ref f)) (hk : PySem.W.keepIn X.K (.ref f) = true) (hb : Binds X.K fd ps ds) (hd : Vals dvs ds) (hx : Passes CX X E)
    (ha : L2.PAT X (e :: es) t) (hdb : (x == ("__debug__" : Str)) = false := by decide) (he : starEach (e :: es) X.env = (false, eval e X.env) :: starEach es X.env := by rfl) (hpl : (backTo pos (starEach es X.env)).any (·.1) = false := by rfl) :
    L2.PET X (.Call (.Name x p) (e :: es) [] pos) (tCall sp dvs E t) := by
  intro pins s σ H Q h0 I h
  refine wpAny_Call_Name_kw (ld_glob I hg hm ?_ hdb)
  refine PySem.W.callWith_K (h₀ := X.base) I.ok.mod.kin hk (thn (ha pos pins s σ H _ h0 I h) fun us s1 ⟨vs, H1, I1, r, q⟩ => ⟨I1.kIn, ?_⟩) he hpl
  exact run_fn F hr hb hd hx I1 r q
theorem pst_set {i : Nat} {te : TE} {pos' : Pos} (hN : X.N.Nodup) (hi : X.N[i]? = some x) (hx : Loc X.env.scope x) (he : L2.PET X e te) (hs : swapsWith e (some (.Name x pos')) pos.line X.env = pure false := by rfl) (hf : X.fn x = true ∨ X.env.scope.names.lookup x = some .local := by first | exact .inl rfl | exact .inr rfl | assumption) :
    PST X (.Assign [.Name x pos'] e pos) (tAsg te (gName i)) := by
  intro pins s σ H D h0 I h
  refine wpAny_Assign_Name (thn (he pins s σ H _ h0 I h) fun v s1 ⟨y, H1, I1, r1, q1⟩ => ?_) hs
  exact store_ok I1 hN hi hx r1 (fun s2 I2 => ⟨_, H1, I2, q1⟩) hf
end
/-! in and not in, within a comprehension: the fragment named -/
theorem op_inK {X : Cx} {K : PySem.W.Frag} (hK : X.K = K) : OpR X (compareOp .In) (rIn K false) := by
  subst hK
  exact op_in_seq
theorem op_notInK {X : Cx} {K : PySem.W.Frag} (hK : X.K = K) : OpR X (compareOp .NotIn) (rIn K true) := by
  subst hK
  exact op_notIn_seq
end Fb
set_option maxRecDepth 100000
set_option maxHeartbeats 4000000
namespace Fb
open PySem PySem.Spec PyProof.Rows L2
open SX (S)

/-! the written part: addresses and defs of the program -/
structure Pz where
  (C fe cNoPattern cUnlike a_isp p_isp a_npi : Addr)
  (d_isp d_npi : FuncData)
  (a_has_pattern_form : Addr) (d_has_pattern_form : FuncData)
  (a_first_wrong_sign : Addr) (d_first_wrong_sign : FuncData)
  (a_pattern_fault : Addr) (d_pattern_fault : FuncData)
  (a_need_pattern : Addr) (d_need_pattern : FuncData)
  (a_sizes_of : Addr) (d_sizes_of : FuncData)
  (a_need_sizes : Addr) (d_need_sizes : FuncData)
  (a_bits_of : Addr) (d_bits_of : FuncData)
  (a_need_alike : Addr) (d_need_alike : FuncData)
  (a_unlike_bits : Addr) (d_unlike_bits : FuncData)
  (a_box : Addr) (d_box : FuncData)
  (a_init : Addr) (d_init : FuncData)
  (a_str : Addr) (d_str : FuncData)
abbrev s_has_pattern_form : Stmt := top 10
theorem sc_has_pattern_form : FnScope ["text", "parts", "bits"] ["text"] (defScope s_has_pattern_form) := ⟨rfl, rfl, rfl, by decide +kernel, rfl, by decide +kernel, by decide +kernel⟩
abbrev s_first_wrong_sign : Stmt := top 12
theorem sc_first_wrong_sign : FnScope ["thing", "bits", "blocks", "size", "at", "sign"] ["thing"] (defScope s_first_wrong_sign) := ⟨rfl, rfl, rfl, by decide +kernel, rfl, by decide +kernel, by decide +kernel⟩
abbrev s_pattern_fault : Stmt := top 11
theorem sc_pattern_fault : FnScope ["thing"] ["thing"] (defScope s_pattern_fault) := ⟨rfl, rfl, rfl, by decide +kernel, rfl, by decide +kernel, by decide +kernel⟩
abbrev s_need_pattern : Stmt := top 13
theorem sc_need_pattern : FnScope ["thing", "at"] ["thing"] (defScope s_need_pattern) := ⟨rfl, rfl, rfl, by decide +kernel, rfl, by decide +kernel, by decide +kernel⟩
abbrev s_sizes_of : Stmt := top 14
theorem sc_sizes_of : FnScope ["text", "part"] ["text"] (defScope s_sizes_of) := ⟨rfl, rfl, rfl, by decide +kernel, rfl, by decide +kernel, by decide +kernel⟩
abbrev s_need_sizes : Stmt := top 15
theorem sc_need_sizes : FnScope ["thing", "sizes"] ["thing", "sizes"] (defScope s_need_sizes) := ⟨rfl, rfl, rfl, by decide +kernel, rfl, by decide +kernel, by decide +kernel⟩
abbrev s_bits_of : Stmt := top 16
theorem sc_bits_of : FnScope ["text"] ["text"] (defScope s_bits_of) := ⟨rfl, rfl, rfl, by decide +kernel, rfl, by decide +kernel, by decide +kernel⟩
abbrev s_need_alike : Stmt := top 23
theorem sc_need_alike : FnScope ["texts", "text"] ["texts"] (defScope s_need_alike) := ⟨rfl, rfl, rfl, by decide +kernel, rfl, by decide +kernel, by decide +kernel⟩
abbrev s_unlike_bits : Stmt := top 17
theorem sc_unlike_bits : FnScope ["one", "other", "bit", "a", "b"] ["one", "other"] (defScope s_unlike_bits) := ⟨rfl, rfl, rfl, by decide +kernel, rfl, by decide +kernel, by decide +kernel⟩
abbrev s_box : Stmt := top 24
theorem sc_box : FnScope ["one", "other", "found", "a", "b", "signs", "text", "sign"] ["one", "other"] (defScope s_box) := ⟨rfl, rfl, rfl, by decide +kernel, rfl, by decide +kernel, by decide +kernel⟩
abbrev s_Pattern_init : Stmt := inClass (top 20) 2
theorem sc_Pattern_init : FnScope ["self", "text"] ["self", "text"] (defScope s_Pattern_init) := ⟨rfl, rfl, rfl, by decide +kernel, rfl, by decide +kernel, by decide +kernel⟩
abbrev s_Pattern_str : Stmt := inClass (top 20) 9
theorem sc_Pattern_str : FnScope ["self"] ["self"] (defScope s_Pattern_str) := ⟨rfl, rfl, rfl, by decide +kernel, rfl, by decide +kernel, by decide +kernel⟩
abbrev s_Pattern_is_pattern : Stmt := inClass (top 20) 3
theorem sc_Pattern_is_pattern : FnScope ["thing"] ["thing"] (defScope s_Pattern_is_pattern) := ⟨rfl, rfl, rfl, by decide +kernel, rfl, by decide +kernel, by decide +kernel⟩
abbrev s_NoPattern_init : Stmt := inClass (top 3) 0
theorem sc_NoPattern_init : FnScope ["self", "at"] ["self", "at"] (defScope s_NoPattern_init) := ⟨rfl, rfl, rfl, by decide +kernel, rfl, by decide +kernel, by decide +kernel⟩
structure Txp (K : PySem.W.Frag) (mg : Str → Option Value) (z : Pz) : Prop where
  g_Pattern : mg "Pattern" = some (.ref z.C)
  cls : Cls K z.C
  mkP : Mk K z.C z.a_init
  na_text : NoAttr K z.C "_text"
  na_bits : NoAttr K z.C "_bits"
  na_sizes : NoAttr K z.C "_sizes"
  crP : ClX.CRead K z.C (.type "type")
  vBITS : ∃ mc u, ClX.CRead K z.C mc ∧ ClX.CVal K z.C mc "BITS" (.int 120) u
  vBLOCKS : ∃ mc u, ClX.CRead K z.C mc ∧ ClX.CVal K z.C mc "BLOCKS" (.int 3) u
  ca : PySem.W.findIn K (.ref z.C) "__class__" = some (some (.builtin "object.__class__"))
  xb : XB K
  mo : PySem.W.mroIn K z.C (.type "object") = some true
  ic : ∃ cd, PySem.W.clsIn K z.C = some cd ∧ cd.mro = [.ref z.C, .type "object"]
  tyC : PySem.W.typeIn K (.ref z.C) = some (.type "type")
  smP : SMet K z.C (.type "type") "is_pattern" z.p_isp z.a_isp
  F_isp : Fun K "is_pattern" "Pattern.is_pattern" s_Pattern_is_pattern z.a_isp z.d_isp
  b_isp : Binds K z.d_isp ["thing"] []
  F_npi : Fun K "__init__" "NoPattern.__init__" s_NoPattern_init z.a_npi z.d_npi
  b_npi : Binds K z.d_npi ["self", "at"] []
  iNP : PySem.W.findIn K (.ref z.cNoPattern) "__init__" = some (some (.ref z.a_npi))
  tNP : PySem.W.typeIn K (.ref z.a_npi) = some (.type "function")
  nNP : PySem.W.findIn K (.ref z.cNoPattern) "at" = some none
  xNoPattern : XF K mg z.fe "NoPattern" z.cNoPattern
  g_MOST_UNLIKE_BITS : ∃ t, mg "MOST_UNLIKE_BITS" = some (.int 10 t)
  g_has_pattern_form : mg "has_pattern_form" = some (.ref z.a_has_pattern_form)
  k_has_pattern_form : PySem.W.keepIn K (.ref z.a_has_pattern_form) = true
  F_has_pattern_form : Fun K "has_pattern_form" "has_pattern_form" s_has_pattern_form z.a_has_pattern_form z.d_has_pattern_form
  b_has_pattern_form : Binds K z.d_has_pattern_form ["text"] []
  g_first_wrong_sign : mg "first_wrong_sign" = some (.ref z.a_first_wrong_sign)
  k_first_wrong_sign : PySem.W.keepIn K (.ref z.a_first_wrong_sign) = true
  F_first_wrong_sign : Fun K "first_wrong_sign" "first_wrong_sign" s_first_wrong_sign z.a_first_wrong_sign z.d_first_wrong_sign
  b_first_wrong_sign : Binds K z.d_first_wrong_sign ["thing"] []
  g_pattern_fault : mg "pattern_fault" = some (.ref z.a_pattern_fault)
  k_pattern_fault : PySem.W.keepIn K (.ref z.a_pattern_fault) = true
  F_pattern_fault : Fun K "pattern_fault" "pattern_fault" s_pattern_fault z.a_pattern_fault z.d_pattern_fault
  b_pattern_fault : Binds K z.d_pattern_fault ["thing"] []
  g_need_pattern : mg "need_pattern" = some (.ref z.a_need_pattern)
  k_need_pattern : PySem.W.keepIn K (.ref z.a_need_pattern) = true
  F_need_pattern : Fun K "need_pattern" "need_pattern" s_need_pattern z.a_need_pattern z.d_need_pattern
  b_need_pattern : Binds K z.d_need_pattern ["thing"] []
  g_sizes_of : mg "sizes_of" = some (.ref z.a_sizes_of)
  k_sizes_of : PySem.W.keepIn K (.ref z.a_sizes_of) = true
  F_sizes_of : Fun K "sizes_of" "sizes_of" s_sizes_of z.a_sizes_of z.d_sizes_of
  b_sizes_of : Binds K z.d_sizes_of ["text"] []
  g_need_sizes : mg "need_sizes" = some (.ref z.a_need_sizes)
  k_need_sizes : PySem.W.keepIn K (.ref z.a_need_sizes) = true
  F_need_sizes : Fun K "need_sizes" "need_sizes" s_need_sizes z.a_need_sizes z.d_need_sizes
  b_need_sizes : Binds K z.d_need_sizes ["thing", "sizes"] []
  g_bits_of : mg "bits_of" = some (.ref z.a_bits_of)
  k_bits_of : PySem.W.keepIn K (.ref z.a_bits_of) = true
  F_bits_of : Fun K "bits_of" "bits_of" s_bits_of z.a_bits_of z.d_bits_of
  b_bits_of : Binds K z.d_bits_of ["text"] []
  g_need_alike : mg "need_alike" = some (.ref z.a_need_alike)
  k_need_alike : PySem.W.keepIn K (.ref z.a_need_alike) = true
  F_need_alike : Fun K "need_alike" "need_alike" s_need_alike z.a_need_alike z.d_need_alike
  b_need_alike : Binds K z.d_need_alike ["texts"] []
  g_unlike_bits : mg "unlike_bits" = some (.ref z.a_unlike_bits)
  k_unlike_bits : PySem.W.keepIn K (.ref z.a_unlike_bits) = true
  F_unlike_bits : Fun K "unlike_bits" "unlike_bits" s_unlike_bits z.a_unlike_bits z.d_unlike_bits
  b_unlike_bits : Binds K z.d_unlike_bits ["one", "other"] []
  g_box : mg "box" = some (.ref z.a_box)
  k_box : PySem.W.keepIn K (.ref z.a_box) = true
  F_box : Fun K "box" "box" s_box z.a_box z.d_box
  b_box : Binds K z.d_box ["one", "other"] []
  m_init : PySem.W.findIn K (.ref z.C) "__init__" = some (some (.ref z.a_init))
  f_init : PySem.W.isFn K (.ref z.a_init) = true
  F_init : Fun K "__init__" "Pattern.__init__" s_Pattern_init z.a_init z.d_init
  b_init : Binds K z.d_init ["self", "text"] []
  m_str : PySem.W.findIn K (.ref z.C) "__str__" = some (some (.ref z.a_str))
  f_str : PySem.W.isFn K (.ref z.a_str) = true
  F_str : Fun K "__str__" "Pattern.__str__" s_Pattern_str z.a_str z.d_str
  b_str : Binds K z.d_str ["self"] []
  xUnlike : XF K mg z.fe "Unlike" z.cUnlike
  eUnlike : PySem.W.excIn K z.cUnlike [.type "ValueError", .type "Exception", .type "BaseException", .type "object"] "ValueError.__new__" = true
  n_isinstance : mg "isinstance" = none
  n_str : mg "str" = none
  n_enumerate : mg "enumerate" = none
  n_len : mg "len" = none
  n_tuple : mg "tuple" = none
  n_zip : mg "zip" = none
/-! promises -/
def optI : Option Nat → V
  | none => .non
  | some k => .int (k : Nat)
def spForm : Sp := fun vs H Q _ => ∃ l, vs = [.str (S l)] ∧ l.length ≤ sizeLine - 2 ∧ ∀ H', Same H H' → Q (.bl (decide (pf l = none))) H'
def spFirst : Sp := fun vs H Q _ => ∃ l, vs = [.str (S l)] ∧ l.length ≤ sizeLine - 2 ∧ ∀ H', Same H H' → Q (.int (((pf l).getD l.length : Nat) : Int)) H'
def spFault (K : PySem.W.Frag) : Sp := fun vs H Q _ => (∃ l, vs = [.str (S l)] ∧ l.length ≤ sizeLine - 2 ∧ ∀ H', Same H H' → Q (optI (pf l)) H') ∨ (∃ x t, vs = [x] ∧ TyX K H x t ∧ PySem.W.kitOne K t (.type "str") = some false ∧ Q (.int 0) H)
def spNeed : Sp := fun vs H Q _ => ∃ l, vs = [.str (S l)] ∧ l.length ≤ sizeLine - 2 ∧ pf l = none ∧ ∀ H', Same H H' → Q .non H'
def spSizes : Sp := fun vs H Q _ => ∃ l, vs = [.str (S l)] ∧ l.length ≤ 1000 ∧ ∀ p H', Same H H' → H p = none → H' p = some (.tup (nums (szs l))) → Q (.ref p) H'
def spNeedS (K : PySem.W.Frag) (C : Addr) : Sp := fun vs H Q E => ∃ l t ns, vs = [.str (S l), .ref t] ∧ l.length ≤ 1000 ∧ pf l = none ∧ SqT K H t (nums ns) ∧ (if szs l = ns then ∀ H', Same H H' → Q .non H' else ∀ H', Same H H' → E (.ref C) none H')
def spBits : Sp := fun vs H Q _ => ∃ l, vs = [.str (S l)] ∧ l.length ≤ 1000 ∧ Q (.str (S (l.filter (fun c => c != 46)))) H
def spBelow : Sp := fun vs H Q _ => ∃ l m, vs = [.str (S l), .str (S m)] ∧ l.length ≤ 1000 ∧ ∀ H', Same H H' → Q (.bl (below l m)) H'
def spUnS : Sp := fun vs H Q _ => ∃ a b, vs = [.str (S [a]), .str (S [b])] ∧ Q (.str (S [fXor a b])) H
/-! small facts -/
theorem S_0 : ("0" : Str) = S [48] := by decide +kernel
theorem S_1 : ("1" : Str) = S [49] := by decide +kernel
theorem S_d : ("." : Str) = S [46] := by decide +kernel
theorem S_e : ("" : Str) = S [] := by decide +kernel
theorem S_eq {a b : List Nat} : (V.str (S a) = V.str (S b)) ↔ a = b := ⟨fun h => SX.S_inj (V.str.inj h), fun h => by rw [h]⟩
theorem inV_sg (c : Nat) : inV (.str (S [c])) [.str "0", .str "1", .str "."] = decide (c = 48 ∨ c = 49 ∨ c = 46) := by
  rw [S_0, S_1, S_d]
  have e : ∀ a : Nat, eqV (V.str (S [a])) (V.str (S [c])) = decide (c = a) := fun a => by
    show (S [a] == S [c]) = _
    rw [SX.S_beq_eq]
    by_cases h : c = a
    · subst h; simp
    · rw [decide_eq_false h, decide_eq_false (fun z => h (by simpa using z.symm))]
  show ([V.str (S [48]), V.str (S [49]), V.str (S [46])].any fun y => eqV y (V.str (S [c]))) = _
  simp only [List.any_cons, List.any_nil, e, Bool.or_false, Bool.decide_or]
theorem le3 : 3 ≤ sizeLine := by decide
theorem S_sz (l : List Nat) : (S l).cps.size = l.length := by simp [S]
theorem S_ln (l : List Nat) : (S l).length = l.length := SX.S_len l
theorem small1 (n : Nat) (h : n ≤ 1000) : n < sizeLine := small1000 h
/-! a text of a pattern, by its parts -/
theorem txt_parts (l : List Nat) : Txt.split (S l) "." = (cut (szs l) (bt l)).map S := split_cut l
theorem join_flat : ∀ ps : List (List Nat), TL.joinL [] ps = ps.flatten
  | [] => rfl
  | [p] => by simp [TL.joinL]
  | p :: q :: r => by
    have h := join_flat (q :: r)
    simp only [TL.joinL] at h ⊢
    rw [h]
    simp
theorem mem_tw {p : Nat → Bool} {x : Nat} : ∀ {l : List Nat}, x ∈ l.takeWhile p → p x = true
  | a :: l, h => by
    rw [List.takeWhile_cons] at h
    split at h
    · rename_i e
      rcases List.mem_cons.mp h with q | q
      · rw [q]; exact e
      · exact mem_tw q
    · simp at h
theorem tw_bad {p : Nat → Bool} : ∀ {l : List Nat} (h : (l.takeWhile p).length < l.length), p (l[(l.takeWhile p).length]'h) = false
  | [], h => by simp at h
  | a :: l, h => by
    by_cases e : p a = true
    · have e2 : (a :: l).takeWhile p = a :: l.takeWhile p := by rw [List.takeWhile_cons, if_pos e]
      have h2 : (l.takeWhile p).length < l.length := by rw [e2] at h; simpa using h
      have := tw_bad h2
      simpa [e2] using this
    · have e2 : (a :: l).takeWhile p = [] := by rw [List.takeWhile_cons, if_neg e]
      simpa [e2] using e
theorem tw_all {p : Nat → Bool} : ∀ {l : List Nat}, (∀ c ∈ l, p c = true) → l.takeWhile p = l
  | [], _ => rfl
  | a :: l, h => by rw [List.takeWhile_cons, if_pos (h a List.mem_cons_self), tw_all fun c hc => h c (List.mem_cons_of_mem _ hc)]
theorem join_parts (l : List Nat) : Txt.join "" ((cut (szs l) (bt l)).map S) = S (bt l) := by
  rw [S_e, SX.join_S, join_flat, cut_flat (bt_sum l).symm]
theorem inV_parts (ps : List (List Nat)) : inV (.str "") ((ps.map S).map V.str) = decide ([] ∈ ps) := by
  rw [S_e]
  show (((ps.map S).map V.str).any fun y => eqV y (V.str (S []))) = _
  rw [List.map_map, List.any_map]
  have e : (fun y => eqV y (V.str (S []))) ∘ (V.str ∘ S) = fun p : List Nat => decide (p = []) := by
    funext p
    show (S p == S []) = _
    rw [SX.S_beq_eq]
  rw [e]
  by_cases h : [] ∈ ps
  · rw [decide_eq_true h]
    exact List.any_eq_true.mpr ⟨[], h, by simp⟩
  · rw [decide_eq_false h]
    refine List.any_eq_false.mpr fun p hp => ?_
    simp only [decide_eq_true_eq]
    exact fun e => h (e ▸ hp)
theorem flat_parts (ps : List (List Nat)) : ((ps.map S).map V.str).all flatV = true := by
  rw [List.map_map, List.all_map]
  exact List.all_eq_true.mpr fun p _ => rfl
theorem nil_cut {l : List Nat} : [] ∈ cut (szs l) (bt l) ↔ 0 ∈ szs l := by
  have e := cut_lens (ss := szs l) (b := bt l) (Nat.le_of_eq (bt_sum l).symm)
  constructor
  · intro h
    rw [← e]
    exact List.mem_map.mpr ⟨[], h, rfl⟩
  · intro h
    rw [← e] at h
    obtain ⟨p, hp, e2⟩ := List.mem_map.mp h
    rw [List.length_eq_zero_iff.mp e2] at hp
    exact hp
theorem strip_bits (b : List Nat) : (Txt.stripChars (S b) "01" = S []) ↔ ∀ c ∈ b, c = 48 ∨ c = 49 := by
  have g : ("01" : Str).cps.contains = fun c => decide (c = 48 ∨ c = 49) := by
    funext c
    rw [show ("01" : Str) = S [48, 49] by decide +kernel]
    show (#[48, 49] : Array Nat).contains c = _
    simp [Bool.decide_or, eq_comm]
  generalize ep : (fun c : Nat => decide (c = 48 ∨ c = 49)) = p at g
  have hp : ∀ c, p c = true ↔ (c = 48 ∨ c = 49) := fun c => by rw [← ep]; simp
  have e : Txt.stripChars (S b) "01" = S ((b.drop (b.takeWhile p).length).take (b.length - ((b.drop (b.takeWhile p).length).reverse.takeWhile p).length - (b.takeWhile p).length)) := by
    unfold Txt.stripChars
    rw [stripBy_eq, g]
    show Builtin.Str.strSub (S b) (b.takeWhile p).length ((S b).length - ((b.drop (b.takeWhile p).length).reverse.takeWhile p).length) = _
    rw [S_ln]
    show (⟨(b.toArray).extract _ _⟩ : Str) = _
    rw [List.extract_toArray, List.extract_eq_drop_take] <;> rfl
  rw [e]
  constructor
  · intro h
    have h2 := SX.S_inj h
    by_cases hd : b.drop (b.takeWhile p).length = []
    · intro c hc
      have t : b.takeWhile p = b := by
        have := List.takeWhile_append_dropWhile (p := p) (l := b)
        have l1 : b.length ≤ (b.takeWhile p).length := by simpa using hd
        exact List.IsPrefix.eq_of_length_le (List.takeWhile_prefix p) l1
      rw [← t] at hc
      exact (hp c).mp (mem_tw hc)
    · exfalso
      have nz : (b.takeWhile p).length < b.length := by
        have : b.drop (b.takeWhile p).length ≠ [] := hd
        rw [Ne, List.drop_eq_nil_iff] at this
        omega
      -- the sign behind the first good ones is not good
      have bad : p (b[(b.takeWhile p).length]'nz) = false := by
        exact tw_bad nz
      have few : ((b.drop (b.takeWhile p).length).reverse.takeWhile p).length < (b.drop (b.takeWhile p).length).length := by
        refine Nat.lt_of_not_le fun le => ?_
        have t : (b.drop (b.takeWhile p).length).reverse.takeWhile p = (b.drop (b.takeWhile p).length).reverse :=
          List.IsPrefix.eq_of_length_le (List.takeWhile_prefix p) (by rw [List.length_reverse]; exact le)
        have m : b[(b.takeWhile p).length]'nz ∈ (b.drop (b.takeWhile p).length).reverse := by
          rw [List.mem_reverse, List.drop_eq_getElem_cons nz]
          exact List.mem_cons_self
        rw [← t] at m
        rw [mem_tw m] at bad
        cases bad
      have ln : ((b.drop (b.takeWhile p).length).take (b.length - ((b.drop (b.takeWhile p).length).reverse.takeWhile p).length - (b.takeWhile p).length)).length = 0 := by rw [h2] <;> rfl
      rw [List.length_take, List.length_drop] at ln
      rw [List.length_drop] at few
      omega
  · intro h
    have t : b.takeWhile p = b := tw_all fun c hc => (hp c).mpr (h c hc)
    rw [t, List.drop_length, List.take_nil]
theorem form_iff {l : List Nat} : pf l = none ↔ ((szs l).length ≤ 3 ∧ 0 ∉ szs l ∧ (bt l).length ≤ 120 ∧ ∀ c ∈ bt l, c = 48 ∨ c = 49) := by
  constructor
  · intro h
    have p := isP_pf h
    exact ⟨p.few, fun z => by have := p.one 0 z; omega, p.sum, p.bits⟩
  · rintro ⟨h1, h2, h3, h4⟩
    refine IsP.pf ⟨fun c hc => ?_, fun n hn => ?_, h1, h3⟩
    · by_cases d : c = 46
      · exact .inr (.inr d)
      · rcases h4 c (List.mem_filter.mpr ⟨hc, by simpa using d⟩) with e | e
        · exact .inl e
        · exact .inr (.inl e)
    · rcases Nat.eq_zero_or_pos n with e | e
      · exact absurd (e ▸ hn) h2
      · exact e
section
variable {P : Program} {wo : World} {K : PySem.W.Frag} {mg : Str → Option Value} {base : Heap} {z : Pz}

theorem ok_has_pattern_form (T : Txp K mg z) : FnOk P wo K mg base CX0 1 z.a_has_pattern_form z.d_has_pattern_form ["text"] spForm := by
  refine T.F_has_pattern_form.ok sc_has_pattern_form (fun vs H Q E h => ?_) (fun cdv A outer s H vs Q E hr h => ?_)
  · obtain ⟨l, rfl, _⟩ := h
    rfl
  · obtain ⟨l, rfl, hl, ret⟩ := h
    have hz : 2 ≤ sizeLine := by decide
    refine ⟨_, (pss_cons (ps_set (i := 1) sc_has_pattern_form.nd rfl (Or.inl rfl) (pe_bm PySem.F.plainAttrs_str PySem.F.slot_str_split PySem.F.type_str_split mt_split (pv 0) (pa_cons pe_str pa_nil)))
      (pss_cons (ps_set (i := 2) sc_has_pattern_form.nd rfl (Or.inl rfl) (pe_joinK (K := K) rfl pe_str (pa_cons (pv 1) pa_nil)))
      (pss_cons (ps_if (PW.pt (pw_or (pt_cmpR op_gt (pe_callB call_len_seq (by rfl) T.n_len (by decide +kernel) (pa_cons (pv 1) pa_nil)) (ClX.pe_cval (pe_glob (v := .ref z.C) rfl T.g_Pattern rfl)) (nomark _)) (pw_or (pt_cmpR (op_inK (K := K) rfl) pe_str (pv 1) rfl) (pw_or1 (pt_cmpR op_gt (pe_callB call_len_str (by rfl) T.n_len (by decide +kernel) (pa_cons (pv 2) pa_nil)) (ClX.pe_cval (pe_glob (v := .ref z.C) rfl T.g_Pattern rfl)) (nomark _))))))
        (pss_one (ps_ret pe_bl))
        pss_nil)
      (pss_one (ps_ret (pe_cmpR op_eq (pe_bm PySem.F.plainAttrs_str PySem.F.slot_str_strip PySem.F.type_str_strip mt_stripChars (pv 2) (pa_cons pe_str pa_nil)) pe_str (nomark _))))))), ?_⟩
    refine ⟨_, rfl, rfl, S l, ".", rfl, rfl, by decide, by rw [S_ln]; omega, fun p hp => ?_⟩
    rw [txt_parts]
    have s1 := smN (o := .lst (((cut (szs l) (bt l)).map S).map V.str)) (Same.refl H) hp
    have lp : (((cut (szs l) (bt l)).map S).map V.str).length = (szs l).length := by rw [List.length_map, List.length_map, cut_len]
    have out : ¬ ((szs l).length ≤ 3 ∧ 0 ∉ szs l ∧ (bt l).length ≤ 120 ∧ ∀ c ∈ bt l, c = 48 ∨ c = 49) → ∀ H', Same H H' → Q (.bl false) H' := fun h H' s' => by
      have q := ret H' s'
      rw [decide_eq_false (fun e => h (form_iff.mp e))] at q
      exact q
    have hb : (bt l).length ≤ l.length := List.length_filter_le _ _
    have sum : ((((cut (szs l) (bt l)).map S)).map fun w => w.length).sum = (bt l).length := by
      rw [SX.lens, cut_lens (Nat.le_of_eq (bt_sum l).symm), bt_sum]
    refine ⟨rfl, _, rfl, "", p, (cut (szs l) (bt l)).map S, rfl, rfl, .inl (SqL.of upd_same), ?_, ?_⟩
    · rw [sum]
      show (bt l).length + _ * 0 ≤ sizeLine
      omega
    rw [join_parts]
    obtain ⟨mk, uk, crk, cvk⟩ := T.vBLOCKS
    obtain ⟨mb, ub, crb, cvb⟩ := T.vBITS
    refine ⟨_, rfl, p, _, rfl, .inl (SqL.of upd_same), z.C, mk, _, uk, rfl, crk, cvk, _, _, rfl, rfl, _, rfl, ?_⟩
    rw [lp]
    refine ite2 (fun c1 => ?_) (fun c1 => ?_)
    · exact iteT (out (fun h => by have := of_decide_eq_true c1; have := h.1; omega) _ s1)
    refine ⟨_, rfl, p, _, rfl, .inl (SqL.of upd_same), rfl, flat_parts _, _, rfl, ?_⟩
    rw [inV_parts]
    refine ite2 (fun c2 => ?_) (fun c2 => ?_)
    · have c2' : decide ([] ∈ cut (szs l) (bt l)) = true := c2
      exact iteT (out (fun h => h.2.1 (nil_cut.mp (of_decide_eq_true c2'))) _ s1)
    refine ⟨_, rfl, _, rfl, by rw [S_ln]; omega, z.C, mb, _, ub, rfl, crb, cvb, _, _, rfl, rfl, _, rfl, ?_⟩
    rw [S_ln]
    refine ite2 (fun c3 => ?_) (fun c3 => ?_)
    · exact out (fun h => by have := of_decide_eq_true c3; have := h.2.2.1; omega) _ s1
    refine ⟨_, rfl, rfl, S (bt l), "01", rfl, rfl, by rw [S_ln]; omega, rfl, ?_⟩
    have c2' : ¬ decide ([] ∈ cut (szs l) (bt l)) = true := c2
    have e : decide (V.str (Txt.stripChars (S (bt l)) "01") = V.str "") = decide (pf l = none) := by
      rw [decide_eq_decide, S_e]
      constructor
      · intro h
        refine form_iff.mpr ⟨?_, ?_, ?_, (strip_bits _).mp (V.str.inj h)⟩
        · refine Nat.le_of_not_lt fun q => c1 (decide_eq_true ?_)
          omega
        · exact fun q => c2' (decide_eq_true (nil_cut.mpr q))
        · refine Nat.le_of_not_lt fun q => c3 (decide_eq_true ?_)
          omega
      · intro h
        rw [(strip_bits _).mpr (form_iff.mp h).2.2.2]
    rw [e]
    exact ret _ s1
theorem ok_first_wrong_sign (T : Txp K mg z) : FnOk P wo K mg base CX0 1 z.a_first_wrong_sign z.d_first_wrong_sign ["thing"] spFirst := by
  refine T.F_first_wrong_sign.ok sc_first_wrong_sign (fun vs H Q E h => ?_) (fun cdv A outer s H vs Q E hr h => ?_)
  · obtain ⟨l, rfl, _⟩ := h
    rfl
  · obtain ⟨l, rfl, hl, ret⟩ := h
    refine ⟨_, (pss_cons (ps_set (i := 1) sc_first_wrong_sign.nd rfl (Or.inl rfl) pe_int)
      (pss_cons (ps_set (i := 2) sc_first_wrong_sign.nd rfl (Or.inl rfl) pe_int)
      (pss_cons (ps_set (i := 3) sc_first_wrong_sign.nd rfl (Or.inl rfl) pe_int)
      (pss_cons (ps_for PassesOwn.never rfl (pi_enumS rfl T.n_enumerate (pa_cons (pv 0) pa_nil)) (pg_tup rfl (pgs_cons (pg_name (i := 4) sc_first_wrong_sign.nd rfl (Or.inl rfl)) (pgs_cons (pg_name (i := 5) sc_first_wrong_sign.nd rfl (Or.inl rfl)) pgs_nil)))
        (pss_cons (ps_if (PW.pt (pw_or (pt_cmpR (op_notInK (K := K) rfl) (pv 5) (pe_tup (pa_cons pe_str (pa_cons pe_str (pa_cons pe_str pa_nil)))) rfl) (pw_or1 (pt_cmpR op_eq (pv 1) (ClX.pe_cval (pe_glob (v := .ref z.C) rfl T.g_Pattern rfl)) (nomark _)))))
          (pss_one (ps_ret (pv 4)))
          pss_nil)
        (pss_one (ps_if (pt_cmpR op_eq (pv 5) pe_str (nomark _))
          (pss_cons (ps_if (PW.pt (pw_or (pt_cmpR op_eq (pv 3) pe_int (nomark _)) (pw_or1 (pt_cmpR op_eq (pv 2) (ClX.pe_cval (pe_glob (v := .ref z.C) rfl T.g_Pattern rfl)) (nomark _)))))
            (pss_one (ps_ret (pv 4)))
            pss_nil)
          (pss_cons (ps_aug (i := 2) sc_first_wrong_sign.nd rfl (Or.inl rfl) pe_int ip_add)
          (pss_one (ps_set (i := 3) sc_first_wrong_sign.nd rfl (Or.inl rfl) pe_int))))
          (pss_cons (ps_aug (i := 1) sc_first_wrong_sign.nd rfl (Or.inl rfl) pe_int ip_add)
          (pss_one (ps_aug (i := 3) sc_first_wrong_sign.nd rfl (Or.inl rfl) pe_int ip_add)))))))
      (pss_one (ps_ret (pe_callB call_len_str (by rfl) T.n_len (by decide +kernel) (pa_cons (pv 0) pa_nil)))))))), ?_⟩
    refine ⟨_, rfl, S l, rfl, ?_⟩
    rw [S_sz]
    refine for_T (fun i σ H' => Same H H' ∧ ∃ (b k n : Nat) (x4 x5 : Option V), σ = [some (.str (S l)), some (.int b), some (.int k), some (.int n), x4, x5] ∧ pfa (l.drop i) i b k n = pf l) ⟨Same.refl _, 0, 1, 0, none, none, rfl, rfl⟩ ?_ ?_
    · rintro i Tu σ H1 hi ⟨s1, b, k, n, x4, x5, rfl, e⟩ hT
      have hc : l[i]? = some l[i] := List.getElem?_eq_getElem hi
      have ed : l.drop i = l[i] :: l.drop (i + 1) := List.drop_eq_getElem_cons hi
      generalize l[i] = c at hc ed
      rw [ed] at e
      have es : sgn (S l) i = S [c] := S_sgn hc
      have s2 : Same H (upd H1 Tu (.tup [.int (i : Nat), .str (sgn (S l) i)])) := smN s1 hT
      refine ⟨Tu, [.int (i : Nat), .str (S [c])], rfl, SqT.of (by rw [upd_same, es]), rfl, ?_⟩
      refine ⟨_, _, rfl, ?_⟩
      refine ⟨_, _, rfl, ?_⟩
      refine ⟨rfl, ?_⟩
      refine ⟨_, rfl, le3, fun t ht => ⟨t, _, rfl, .inr (SqT.of upd_same), rfl, rfl, _, rfl, ?_⟩⟩
      have s3 := smN (o := .tup [.str "0", .str "1", .str "."]) s2 ht
      rw [inV_sg]
      unfold pfa at e
      by_cases h1 : c = 48 ∨ c = 49 ∨ c = 46
      · rw [decide_eq_true h1]
        refine iteF ?_
        obtain ⟨mc, u, cr, cv⟩ := T.vBITS
        refine ⟨_, rfl, z.C, mc, _, u, rfl, cr, cv, rfl, _, rfl, ?_⟩
        refine ite2 (fun h2 => ?_) (fun h2 => ?_)
        · have h3 : b = 120 := by have := of_decide_eq_true h2; have := V.int.inj this; omega
          rw [if_pos (.inr h3)] at e
          refine ⟨_, rfl, ?_⟩
          have q := ret _ s3
          rw [← e] at q
          exact q
        · have h3 : ¬ b = 120 := fun z => h2 (by rw [z] <;> rfl)
          rw [if_neg (by intro z; rcases z with z | z; exact z h1; exact h3 z)] at e
          refine ⟨_, rfl, rfl, _, rfl, ?_⟩
          refine ite2 (fun h4 => ?_) (fun h4 => ?_)
          · have h5 : c = 46 := by
              have := of_decide_eq_true h4
              rw [S_d] at this
              simpa using S_eq.mp this
            rw [if_pos h5] at e
            refine ⟨_, rfl, rfl, _, rfl, ?_⟩
            refine ite2 (fun h6 => ?_) (fun h6 => ?_)
            · have h7 : n = 0 := by have := of_decide_eq_true h6; have := V.int.inj this; omega
              refine iteT ?_
              rw [if_pos (.inl h7)] at e
              refine ⟨_, rfl, ?_⟩
              have q := ret _ s3
              rw [← e] at q
              exact q
            · have h7 : ¬ n = 0 := fun z => h6 (by rw [z] <;> rfl)
              obtain ⟨mc, u, cr, cv⟩ := T.vBLOCKS
              refine ⟨_, rfl, z.C, mc, _, u, rfl, cr, cv, rfl, _, rfl, ?_⟩
              refine ite2 (fun h8 => ?_) (fun h8 => ?_)
              · have h9 : k = 3 := by have := of_decide_eq_true h8; have := V.int.inj this; omega
                rw [if_pos (.inr h9)] at e
                refine ⟨_, rfl, ?_⟩
                have q := ret _ s3
                rw [← e] at q
                exact q
              · have h9 : ¬ k = 3 := fun z => h8 (by rw [z] <;> rfl)
                rw [if_neg (by intro z; rcases z with z | z; exact h7 z; exact h9 z)] at e
                refine ⟨_, rfl, _, _, rfl, rfl, ?_⟩
                exact ⟨s3, b, k + 1, 0, _, _, rfl, e⟩
          · have h5 : ¬ c = 46 := fun z => h4 (by rw [z, S_d] <;> exact decide_eq_true rfl)
            rw [if_neg h5] at e
            refine ⟨_, rfl, _, _, rfl, rfl, ?_⟩
            refine ⟨_, rfl, _, _, rfl, rfl, ?_⟩
            exact ⟨s3, b + 1, k, n + 1, _, _, rfl, e⟩
      · rw [decide_eq_false h1]
        refine iteT (iteT ?_)
        rw [if_pos (.inl h1)] at e
        refine ⟨_, rfl, ?_⟩
        have q := ret _ s3
        rw [← e] at q
        exact q
    · rintro σ H1 ⟨s1, b, k, n, x4, x5, rfl, e⟩
      rw [List.drop_length] at e
      unfold pfa at e
      refine ⟨_, rfl, S l, rfl, by rw [S_ln]; omega, ?_⟩
      rw [S_ln]
      have q := ret _ s1
      have g : (pf l).getD l.length = l.length := by
        rw [← e]
        split <;> rfl
      rw [g] at q
      exact q
theorem ok_pattern_fault (T : Txp K mg z) : FnOk P wo K mg base CX0 2 z.a_pattern_fault z.d_pattern_fault ["thing"] (spFault K) := by
  refine T.F_pattern_fault.ok sc_pattern_fault (fun vs H Q E h => ?_) (fun cdv A outer s H vs Q E hr h => ?_)
  · rcases h with ⟨l, rfl, _⟩ | ⟨x, t, rfl, _⟩ <;> rfl
  · have hr1 : Room 1 _ := hr
    have G_has_pattern_form : FnOk P wo K mg base CX0 1 z.a_has_pattern_form z.d_has_pattern_form ["text"] spForm := ok_has_pattern_form T
    have G_first_wrong_sign : FnOk P wo K mg base CX0 1 z.a_first_wrong_sign z.d_first_wrong_sign ["thing"] spFirst := ok_first_wrong_sign T
    refine ⟨_, (pss_cons (ps_if (pt_not (pt_val (pe_callB call_isi (by rfl) T.n_isinstance boot_isinstance (pa_cons (pv 0) (pa_cons (pe_bltn (v := .ty "str") rfl T.n_str (by decide +kernel) rfl) pa_nil)))))
        (pss_one (ps_ret pe_int))
        pss_nil)
      (pss_one (ps_ret (pe_ifExp (pt_val (pe_call G_has_pattern_form hr1 rfl T.g_has_pattern_form T.k_has_pattern_form T.b_has_pattern_form .nil pass0 (pa_cons (pv 0) pa_nil))) pe_non (pe_call G_first_wrong_sign hr1 rfl T.g_first_wrong_sign T.k_first_wrong_sign T.b_first_wrong_sign .nil pass0 (pa_cons (pv 0) pa_nil)))))), ?_⟩
    rcases h with ⟨l, rfl, hl, ret⟩ | ⟨x, t, rfl, ty, kt, ret⟩
    · refine ⟨_, rfl, _, _, _, _, true, rfl, .ty "str", .base (.str _), kit_ty (by decide +kernel), _, rfl, ?_⟩
      refine iteF ?_
      refine ⟨_, rfl, l, rfl, hl, fun H1 s1 => ⟨_, rfl, ?_⟩⟩
      by_cases e : pf l = none
      · rw [decide_eq_true e]
        refine iteT ?_
        have q := ret _ s1
        rw [e] at q
        exact q
      · rw [decide_eq_false e]
        refine iteF ?_
        refine ⟨_, rfl, l, rfl, hl, fun H2 s2 => ?_⟩
        obtain ⟨k, ek⟩ := Option.ne_none_iff_exists'.mp e
        have q := ret _ (s1.trans s2)
        rw [ek] at q ⊢
        exact q
    · refine ⟨_, rfl, _, _, _, _, false, rfl, .ty "str", ty, kt, _, rfl, ?_⟩
      exact iteT ret

end
end Fb
set_option maxRecDepth 100000
set_option maxHeartbeats 4000000
namespace Fb
open PySem PySem.Spec PyProof.Rows L2
open SX (S)
section
variable {P : Program} {wo : World} {K : PySem.W.Frag} {mg : Str → Option Value} {base : Heap} {z : Pz}
theorem ok_need_pattern (T : Txp K mg z) : FnOk P wo K mg base CX0 3 z.a_need_pattern z.d_need_pattern ["thing"] spNeed := by
  refine T.F_need_pattern.ok sc_need_pattern (fun vs H Q E h => ?_) (fun cdv A outer s H vs Q E hr h => ?_)
  · obtain ⟨l, rfl, _⟩ := h
    rfl
  · obtain ⟨l, rfl, hl, hp, ret⟩ := h
    have hr1 : Room 2 _ := hr
    have G_pattern_fault : FnOk P wo K mg base CX0 2 z.a_pattern_fault z.d_pattern_fault ["thing"] (spFault K) := ok_pattern_fault T
    refine ⟨_, (pss_cons (ps_set (i := 1) sc_need_pattern.nd rfl (Or.inl rfl) (pe_call G_pattern_fault hr1 rfl T.g_pattern_fault T.k_pattern_fault T.b_pattern_fault .nil pass0 (pa_cons (pv 0) pa_nil)))
      (pss_one (ps_if (pt_cmpR op_notN (pv 1) pe_non (nomark _))
        (pss_one ps_no)
        pss_nil))), ?_⟩
    refine ⟨_, rfl, .inl ⟨l, rfl, hl, fun H' s => ?_⟩⟩
    rw [hp]
    refine ⟨_, rfl, rfl, _, rfl, ?_⟩
    refine iteNS (show optI none = .non from rfl) ?_
    exact ret _ s
theorem ok_sizes_of (T : Txp K mg z) : FnOk P wo K mg base CX0 2 z.a_sizes_of z.d_sizes_of ["text"] spSizes := by
  refine T.F_sizes_of.ok sc_sizes_of (fun vs H Q E h => ?_) (fun cdv A outer s H vs Q E hr h => ?_)
  · obtain ⟨l, rfl, _⟩ := h
    rfl
  · obtain ⟨l, rfl, hl, ret⟩ := h
    have hz : 1000 + 2 ≤ sizeLine := by decide
    have hsl := szA_len l 0
    have hlen : (Txt.split (S l) ".").length = (szs l).length := by rw [← split_lens l, List.length_map]
    have key : ∀ (i : Nat) (y : Str), (Txt.split (S l) ".")[i]? = some y → (szs l)[i]? = some y.length := fun i y e => by
      rw [← split_lens l, List.getElem?_map, e] <;> rfl
    refine ⟨_, (pss_one (ps_ret (pe_callTy call_tuple_of (by rfl) T.n_tuple (by decide +kernel) (pa_cons (by refine' pe_lc (own := [("part", 1)]) (tt := tYes) rfl sc_sizes_of.nd ?hi (blkOk_by (N := ["text", "part"]) (sc := defScope s_sizes_of) (by first | decide +kernel | kernel_rfl | rfl)) ?hg ?ht ?he (by intro _; rfl); (case hi => exact (pi_list (pe_bm PySem.F.plainAttrs_str PySem.F.slot_str_split PySem.F.type_str_split mt_split (pv 0) (pa_cons pe_str pa_nil)))); (case hg => exact fun _ _ _ _ _ => (pg_name (i := 1) sc_sizes_of.nd rfl (Or.inl rfl))); (case ht => exact fun _ _ _ _ _ => pts_nil); (case he => exact fun _ _ _ _ _ => (pe_callB call_len_str (by rfl) T.n_len (by decide +kernel) (pa_cons (pv 1) pa_nil)))) pa_nil)))), ?_⟩
    refine ⟨_, rfl, rfl, S l, ".", rfl, rfl, by decide, by rw [S_ln]; omega, fun p hp => ?_⟩
    refine ⟨p, rfl, ⟨_, SqL.of upd_same⟩, fun D hD => ?_⟩
    have s1 : Same H (upd H p (.lst ((Txt.split (S l) ".").map V.str))) := smN (Same.refl _) hp
    have few : (szs l).length ≤ 1001 := by unfold szs; omega
    refine lc_outL (xs := (Txt.split (S l) ".").map V.str) (outM fun i => V.int ((szs l).getD i 0 : Nat)) hD (SqL.of upd_same) outM_0 (fun i hi => by
        rw [outM_l]
        rw [List.length_map, hlen] at hi
        exact Nat.lt_of_lt_of_le (Nat.lt_of_lt_of_le hi few) (by decide)) (fun i x H2 Kc K0 e s2 kc k0 => ?_) (fun H2 s2 e2 => ?_)
    · rw [List.getElem?_map] at e
      cases q : (Txt.split (S l) ".")[i]? with
      | none => rw [q] at e; cases e
      | some y =>
        rw [q] at e
        cases e
        have e3 := key i y q
        have hy : y.length ≤ 1000 := by
          have m := PyProof.Rows.part_short (List.mem_of_getElem? q)
          rw [S_ln l] at m
          omega
        refine ⟨rfl, yes1 ?_⟩
        refine ⟨_, rfl, y, rfl, Nat.le_trans hy (by decide), kc _ _ (Same.refl _) ?_⟩
        rw [outM_s, List.getD_eq_getElem?_getD, e3] <;> rfl
    · have e4 : outM (fun i => V.int ((szs l).getD i 0 : Nat)) ((Txt.split (S l) ".").map V.str).length = nums (szs l) := outM_all (by rw [List.length_map, hlen]; unfold nums; rw [List.length_map]) fun i hi => by
        unfold nums
        rw [List.length_map, hlen] at hi
        rw [List.getElem?_map, List.getD_eq_getElem?_getD, List.getElem?_eq_getElem hi] <;> rfl
      rw [e4] at e2
      refine ⟨D, _, rfl, .inl ⟨SqL.of e2, fun q hq => ?_⟩⟩
      exact ret q _ (smN (s1.trans s2) hq) ((s1.trans s2).free hq) upd_same
theorem ok_need_sizes (T : Txp K mg z) : FnOk P wo K mg base (L2.CX P wo) 4 z.a_need_sizes z.d_need_sizes ["thing", "sizes"] (spNeedS K z.cUnlike) := by
  refine T.F_need_sizes.okX sc_need_sizes (fun vs H Q E h => ?_) (fun cdv A outer s H vs Q E hr h => ?_)
  · obtain ⟨l, t, ns, rfl, _⟩ := h
    rfl
  · obtain ⟨l, t, ns, rfl, hl, hp, ht, ret⟩ := h
    have hr2 : Room 3 _ := hr
    have hr1 : Room 2 _ := hr.mono (by decide)
    have hu64 : (A.deeper (envOfC "need_sizes" (defScope s_need_sizes) s.heap.objs.size z.a_need_sizes cdv)).units + 64 < cLine := hr.units
    have G_need_pattern : FnOk P wo K mg base CX0 3 z.a_need_pattern z.d_need_pattern ["thing"] spNeed := ok_need_pattern T
    have G_sizes_of : FnOk P wo K mg base CX0 2 z.a_sizes_of z.d_sizes_of ["text"] spSizes := ok_sizes_of T
    refine ⟨_, (pss_cons (ps_expr (pe_call G_need_pattern hr2 rfl T.g_need_pattern T.k_need_pattern T.b_need_pattern .nil pass0 (pa_cons (pv 0) pa_nil)))
      (pss_one (ps_if (pt_cmpR (op_neD hu64) (pe_call G_sizes_of hr1 rfl T.g_sizes_of T.k_sizes_of T.b_sizes_of .nil pass0 (pa_cons (pv 0) pa_nil)) (pv 1) (nomark _))
        (pss_one (ps_raise rfl (takes_of rfl rfl rfl rfl) (pmk_own PySem.F.excBase_ValueError T.eUnlike T.xUnlike.g T.xUnlike.kp (raises_own T.xUnlike.xc.sb T.xUnlike.ty) rfl)))
        pss_nil))), ?_⟩
    refine ⟨_, rfl, l, rfl, Nat.le_trans hl (by decide), hp, fun H1 s1 => ?_⟩
    refine ⟨_, rfl, l, rfl, hl, fun p H2 s2 hn h2 => ?_⟩
    have s12 := s1.trans s2
    refine ⟨_, rfl, _, _, .tup (SqT.of h2) (dp_nums _), .tup (sqT_same s12 ht) (dp_nums _), shaped_tup (lay_nums _), shaped_tup (lay_nums _), _, rfl, ?_⟩
    rw [eqv_numT]
    by_cases e : szs l = ns
    · rw [if_pos e] at ret
      rw [decide_eq_true e]
      exact iteF (ret _ s12)
    · rw [if_neg e] at ret
      rw [decide_eq_false e]
      exact iteT (ret _ s12)
theorem ok_bits_of (T : Txp K mg z) : FnOk P wo K mg base CX0 2 z.a_bits_of z.d_bits_of ["text"] spBits := by
  refine Fun.okT T.F_bits_of sc_bits_of (by decide +kernel) (by decide) (fun vs H Q E h => ?_) (fun cdv A outer s H vs Q E hr h => ?_)
  · obtain ⟨l, rfl, _⟩ := h
    rfl
  · obtain ⟨l, rfl, hl, ret⟩ := h
    refine ⟨_, CwR.psst_one (CwR.pst_ret (CwR.pet_replC (pv 0))), ?_⟩
    refine ⟨_, rfl, S l, rfl, ?_, ?_⟩
    · rw [S_ln]
      show l.length + (l.length + 1) * 0 ≤ 16777216
      omega
    · rw [replace_dots]
      exact ret
end
/-! instances of Pattern -/
def ptF (l : List Nat) (t : Addr) : List (Str × V) := [("_text", .str (S l)), ("_bits", .str (S (l.filter (fun c => c != 46)))), ("_sizes", .ref t)]
def PtI (C : Addr) (H : Hp) (a : Addr) (l : List Nat) : Prop := IsP l ∧ ∃ dx t, H a = some (.ins C dx (ptF l t)) ∧ H t = some (.tup (nums (szs l)))
theorem PtI.same {C : Addr} {H H' : Hp} {a : Addr} {l : List Nat} (h : PtI C H a l) (s : Same H H') : PtI C H' a l := by
  obtain ⟨hp, dx, t, h1, h2⟩ := h
  exact ⟨hp, dx, t, s _ _ h1, s _ _ h2⟩
theorem lkT {l : List Nat} {t : Addr} : (ptF l t).lookup ("_text" : Str) = some (.str (S l)) := by simp [ptF, List.lookup]
theorem ne_bt : (("_bits" : Str) == "_text") = false := by decide +kernel
theorem ne_st : (("_sizes" : Str) == "_text") = false := by decide +kernel
theorem ne_sb : (("_sizes" : Str) == "_bits") = false := by decide +kernel
theorem lkB {l : List Nat} {t : Addr} : (ptF l t).lookup ("_bits" : Str) = some (.str (S (l.filter (fun c => c != 46)))) := by simp [ptF, List.lookup, ne_bt]
theorem lkS {l : List Nat} {t : Addr} : (ptF l t).lookup ("_sizes" : Str) = some (.ref t) := by simp [ptF, List.lookup, ne_st, ne_sb]
theorem ne_tb : ¬ (("_text" : Str) = "_bits") := by decide +kernel
theorem ne_ts : ¬ (("_text" : Str) = "_sizes") := by decide +kernel
theorem ne_bs : ¬ (("_bits" : Str) = "_sizes") := by decide +kernel
theorem put3 {l : List Nat} {t : Addr} : putF "_sizes" (.ref t) (putF "_bits" (.str (S (l.filter (fun c => c != 46)))) (putF "_text" (.str (S l)) [])) = ptF l t := by
  simp [putF, ptF, ne_tb, ne_ts, ne_bs, Ne.symm]
def spInit (C : Addr) : Sp := fun vs H Q _ => ∃ a dx l, vs = [.ref a, .str (S l)] ∧ IsP l ∧ H a = some (.ins C dx []) ∧ ∀ t H', (∀ b o, b ≠ a → H b = some o → H' b = some o) → H' a = some (.ins C dx (ptF l t)) → H' t = some (.tup (nums (szs l))) → Q .non H'
def spStrP (C : Addr) : Sp := fun vs H Q _ => ∃ a l, vs = [.ref a] ∧ PtI C H a l ∧ Q (.str (S l)) H
def spGetS (C : Addr) : Sp := fun vs H Q _ => ∃ a l, vs = [.ref a] ∧ PtI C H a l ∧ ∀ t, H t = some (.tup (nums (szs l))) → Q (.ref t) H
def spEqP (C : Addr) : Sp := fun vs H Q _ => ∃ a l y, vs = [.ref a, y] ∧ PtI C H a l ∧ ((∃ b m, y = .ref b ∧ PtI C H b m ∧ Q (.bl (decide (l = m))) H) ∨ ((y = .non ∨ ∃ w, y = .str w) ∧ Q (.bl false) H))
def spCmpP (C cU : Addr) (r : List Nat → List Nat → Bool) : Sp := fun vs H Q E => ∃ a b l m, vs = [.ref a, .ref b] ∧ PtI C H a l ∧ PtI C H b m ∧ (if szs m = szs l then ∀ H', Same H H' → Q (.bl (r l m)) H' else ∀ H', Same H H' → E (.ref cU) none H')
def spBinP (C cU : Addr) (f : Nat → Nat → Nat) : Sp := fun vs H Q E => ∃ a b l m, vs = [.ref a, .ref b] ∧ PtI C H a l ∧ PtI C H b m ∧ (if szs m = szs l then ∀ p H', Same H H' → H p = none → PtI C H' p (zw f l m) → Q (.ref p) H' else ∀ H', Same H H' → E (.ref cU) none H')
theorem mk_pat {C : Addr} {H1 : Hp} {Q : VK} {E : XK} {l : List Nat} (hp : IsP l) (k : ∀ p H', Same H1 H' → H1 p = none → PtI C H' p l → Q (.ref p) H') :
    ∀ x dx, H1 x = none → H1 dx = none → dx ≠ x → spInit C [.ref x, .str (S l)] (upd (upd H1 dx (.own x)) x (.ins C dx [])) (fun v H2 => v = .non ∧ Q (.ref x) H2) E := by
  intro x dx hx hd ne
  refine ⟨x, dx, l, rfl, hp, upd_same, fun t H' keep ha ht => ⟨rfl, k x H' (fun b o e => keep b o (ne_of_none e hx) ?_) hx ⟨hp, dx, t, ha, ht⟩⟩⟩
  rw [upd_ne (ne_of_none e hx), upd_ne (ne_of_none e hd)]
  exact e
def rLt (l m : List Nat) : Bool := decide (l ≠ m) && below l m
def rGe (l m : List Nat) : Bool := below m l
def rGt (l m : List Nat) : Bool := decide (l ≠ m) && below m l
theorem kit_self {K : PySem.W.Frag} {C : Addr} : PySem.W.kitOne K (.ref C) (.ref C) = some true := by
  unfold PySem.W.kitOne
  simp
section
variable {K : PySem.W.Frag} {mg : Str → Option Value} {z : Pz}
theorem kit_sub (T : Txp K mg z) {n : String} (h : PySem.W.subIn K (.type n) (.ref z.C) = some false) : PySem.W.kitOne K (.type n) (.ref z.C) = some false := by
  obtain ⟨cd, c1, c2⟩ := T.ic
  unfold PySem.W.kitOne
  have e1 : (Value.type n == Value.ref z.C) = false := by rfl
  rw [e1, if_neg Bool.false_ne_true]
  unfold PySem.W.kitCls
  have e2 : ((PySem.W.clsIn K z.C).isSome && PySem.W.typeIn K (.ref z.C) == some (.type "type")) = true := by
    rw [c1, T.tyC] <;> rfl
  show (if ((PySem.W.clsIn K z.C).isSome && PySem.W.typeIn K (.ref z.C) == some (.type "type")) = true then PySem.W.subIn K (.type n) (.ref z.C) else none) = _
  rw [if_pos e2]
  exact h
theorem sub_str {C : Addr} : PySem.W.subIn K (.type "str") (.ref C) = some false := by
  have e : fastBuiltinMro "str" = some [.type "str", .type "object"] := by decide +kernel
  show (fastBuiltinMro "str").map (·.contains (.ref C)) = some false
  rw [e]
  first
    | rfl
    | simp
theorem PtI.ty (T : Txp K mg z) {H : Hp} {a : Addr} {l : List Nat} (h : PtI z.C H a l) : TyX K H (.ref a) (.ref z.C) := by
  obtain ⟨hp, dx, t, h1, h2⟩ := h
  exact .base (.ins h1 T.cls T.ca T.xb.hn T.xb.ht T.mo)
end
section
variable {P : Program} {wo : World} {K : PySem.W.Frag} {mg : Str → Option Value} {base : Heap} {z : Pz}
theorem ok_init (T : Txp K mg z) : FnOk P wo K mg base CX0 4 z.a_init z.d_init ["self", "text"] (spInit z.C) := by
  refine T.F_init.ok sc_Pattern_init (fun vs H Q E h => ?_) (fun cdv A outer s H vs Q E hr h => ?_)
  · obtain ⟨a, dx, l, rfl, _⟩ := h
    rfl
  · obtain ⟨a, dx, l, rfl, hp, ha, ret⟩ := h
    have hr2 : Room 3 _ := hr
    have hr1 : Room 2 _ := hr.mono (by decide)
    have hl := hp.len
    have G_need_pattern : FnOk P wo K mg base CX0 3 z.a_need_pattern z.d_need_pattern ["thing"] spNeed := ok_need_pattern T
    have G_sizes_of : FnOk P wo K mg base CX0 2 z.a_sizes_of z.d_sizes_of ["text"] spSizes := ok_sizes_of T
    have G_bits_of : FnOk P wo K mg base CX0 2 z.a_bits_of z.d_bits_of ["text"] spBits := ok_bits_of T
    refine ⟨_, (pss_cons (ps_expr (pe_call G_need_pattern hr2 rfl T.g_need_pattern T.k_need_pattern T.b_need_pattern .nil pass0 (pa_cons (pv 1) pa_nil)))
      (pss_cons (ps_fld (pv 0) (pv 1) rfl)
      (pss_cons (ps_fld (pv 0) (pe_call G_bits_of hr1 rfl T.g_bits_of T.k_bits_of T.b_bits_of .nil pass0 (pa_cons (pv 1) pa_nil)) rfl)
      (pss_one (ps_fld (pv 0) (pe_call G_sizes_of hr1 rfl T.g_sizes_of T.k_sizes_of T.b_sizes_of .nil pass0 (pa_cons (pv 1) pa_nil)) rfl))))), ?_⟩
    refine ⟨_, rfl, l, rfl, Nat.le_trans hl (by decide), hp.pf, fun H1 s1 => ?_⟩
    refine ⟨_, rfl, _, rfl, a, z.C, dx, _, rfl, s1 _ _ ha, T.cls, T.na_text, by decide, ?_⟩
    refine ⟨_, rfl, l, rfl, by omega, ?_⟩
    refine ⟨_, rfl, a, z.C, dx, _, rfl, upd_same, T.cls, T.na_bits, ?_, ?_⟩
    · exact Nat.lt_of_le_of_lt (length_putF _ _ _) (by decide)
    refine ⟨_, rfl, l, rfl, by omega, fun t H2 s2 hn ht => ?_⟩
    refine ⟨_, rfl, a, z.C, dx, _, rfl, s2 _ _ upd_same, T.cls, T.na_sizes, ?_, ?_⟩
    · exact Nat.lt_of_le_of_lt (length_putF _ _ _) (Nat.lt_of_le_of_lt (Nat.succ_le_succ (length_putF _ _ _)) (by decide))
    have nt : t ≠ a := fun e => by
      subst e
      have h2 := s2 _ _ upd_same
      rw [ht] at h2
      cases h2
    rw [put3]
    refine ret t _ (fun b o nb e => ?_) upd_same (by rw [upd_ne nt]; exact ht)
    rw [upd_ne nb]
    refine s2 _ _ ?_
    rw [upd_ne nb, upd_ne nb]
    exact s1 _ _ e
theorem ok_str (T : Txp K mg z) : FnOk P wo K mg base CX0 2 z.a_str z.d_str ["self"] (spStrP z.C) := by
  refine T.F_str.ok sc_Pattern_str (fun vs H Q E h => ?_) (fun cdv A outer s H vs Q E hr h => ?_)
  · obtain ⟨a, l, rfl, _⟩ := h
    rfl
  · obtain ⟨a, l, rfl, ⟨hp, dx, t, h1, h2⟩, ret⟩ := h
    refine ⟨_, (pss_one (ps_ret (pe_callTy SkE.call_str_str (by rfl) T.n_str (by decide +kernel) (pa_cons (pe_fld (pv 0) rfl) pa_nil)))), ?_⟩
    exact ⟨_, rfl, a, z.C, dx, _, _, rfl, h1, T.cls, T.na_text, lkT, _, rfl, ret⟩
end
end Fb
set_option maxRecDepth 100000
set_option maxHeartbeats 4000000
namespace Fb
open PySem PySem.Spec PyProof.Rows L2
open SX (S)
/-! faults of values -/
def Flt (K : PySem.W.Frag) (H : Hp) (x : V) (r : Option Nat) : Prop := (∃ l, x = .str (S l) ∧ l.length ≤ 1000 ∧ r = pf l) ∨ (∃ t, TyX K H x t ∧ PySem.W.kitOne K t (.type "str") = some false ∧ r = some 0)
theorem Flt.same {K : PySem.W.Frag} {H H' : Hp} {x : V} {r : Option Nat} (s : Same H H') (h : Flt K H x r) : Flt K H' x r := by
  rcases h with ⟨l, h⟩ | ⟨t, h1, h2, h3⟩
  · exact .inl ⟨l, h⟩
  · exact .inr ⟨t, tyX_same s h1, h2, h3⟩
theorem Flt.text {K : PySem.W.Frag} {H : Hp} {x : V} (h : Flt K H x none) : ∃ l, x = .str (S l) ∧ IsP l := by
  rcases h with ⟨l, h1, h2, h3⟩ | ⟨t, h1, h2, h3⟩
  · exact ⟨l, h1, isP_pf h3.symm⟩
  · cases h3
/-- NoPattern with this field leaves -/
def OutNP (C : Addr) (H : Hp) (E : XK) (k : Nat) : Prop := ∀ d H', Same H H' → H' d = some (.xd [("at", .int (k : Nat))]) → E (.ref C) (some d) H'
theorem OutNP.later {C : Addr} {H H1 : Hp} {E : XK} {k : Nat} (h : OutNP C H E k) (s : Same H H1) : OutNP C H1 E k := fun d H' s' e => h d H' (s.trans s') e
def spNeedX (K : PySem.W.Frag) (C : Addr) : Sp := fun vs H Q E => ∃ x r, vs = [x] ∧ Flt K H x r ∧ (r = none → ∀ H', Same H H' → Q .non H') ∧ ∀ k, r = some k → OutNP C H E k
def spIsP (K : PySem.W.Frag) : Sp := fun vs H Q _ => ∃ x r, vs = [x] ∧ Flt K H x r ∧ ∀ H', Same H H' → Q (.bl (decide (r = none))) H'
/-- the first fault in a row -/
def ffst : List (Option Nat) → Option Nat
  | [] => none
  | some k :: _ => some k
  | none :: r => ffst r
def spAlike (K : PySem.W.Frag) (cN cU : Addr) : Sp := fun vs H Q E => ∃ q xs rs, vs = [.ref q] ∧ SqL K H q xs ∧ Paired (Flt K H) xs rs ∧ 1 ≤ xs.length ∧ (∀ k, ffst rs = some k → OutNP cN H E k) ∧
  (ffst rs = none → ∀ ls : List (List Nat), xs = ls.map (fun l => .str (S l)) → (if ∀ l ∈ ls, szs l = szs (ls.headD []) then ∀ H', Same H H' → Q .non H' else ∀ H', Same H H' → E (.ref cU) none H'))
/-- the box, sign by sign -/
def bxs : List (List Nat) → List Nat → List Nat → List (List Nat)
  | f, a :: l, b :: m => bxs (f.flatMap fun t => if a = b then [t ++ [a]] else [t ++ [48], t ++ [49]]) l m
  | f, _, _ => f
def spBox (K : PySem.W.Frag) (cN : Addr) : Sp := fun vs H Q E => ∃ x y r1 r2, vs = [x, y] ∧ Flt K H x r1 ∧ Flt K H y r2 ∧ (∀ k, ffst [r1, r2] = some k → OutNP cN H E k) ∧
  (ffst [r1, r2] = none → ∃ l, x = .str (S l) ∧ y = .str (S l) ∧ ∀ p H', Same H H' → H p = none → H' p = some (.lst [.str (S l)]) → Q (.ref p) H')
theorem ffst_two {r1 r2 : Option Nat} (h : ffst [r1, r2] = none) : r1 = none ∧ r2 = none := by
  cases r1 <;> cases r2 <;> simp [ffst] at h ⊢
theorem ffst_none : ∀ {rs : List (Option Nat)}, ffst rs = none → ∀ r ∈ rs, r = none
  | [], _, r, hr => by simp at hr
  | some k :: rs, h, _, _ => by cases h
  | none :: rs, h, r, hr => by
    rcases List.mem_cons.mp hr with e | e
    · exact e
    · exact ffst_none (rs := rs) h r e
theorem ffst_at : ∀ {rs : List (Option Nat)} {i k : Nat}, rs[i]? = some (some k) → (∀ j, j < i → rs[j]? = some none) → ffst rs = some k
  | [], i, k, h, _ => by simp at h
  | some k' :: rs, 0, k, h, _ => by simpa [ffst] using h
  | none :: rs, 0, k, h, _ => by simp at h
  | r :: rs, i + 1, k, h, hj => by
    have h0 := hj 0 (by omega)
    have : r = none := by simpa using h0
    subst this
    exact ffst_at (rs := rs) (i := i) (by simpa using h) fun j lt => by simpa using hj (j + 1) (by omega)
theorem texts_of {K : PySem.W.Frag} {H : Hp} : ∀ {xs : List V} {rs : List (Option Nat)}, Paired (Flt K H) xs rs → (∀ r ∈ rs, r = none) → ∃ ls : List (List Nat), xs = ls.map (fun l => .str (S l)) ∧ ∀ l ∈ ls, IsP l
  | _, _, .nil, _ => ⟨[], rfl, fun l hl => by simp at hl⟩
  | _, _, .cons (a := x) (b := r) h t, hr => by
    have := hr r List.mem_cons_self
    subst this
    obtain ⟨l, rfl, hp⟩ := h.text
    obtain ⟨ls, rfl, hq⟩ := texts_of t fun r hr' => hr r (List.mem_cons_of_mem _ hr')
    exact ⟨l :: ls, rfl, fun m hm => by rcases List.mem_cons.mp hm with e | e; exact e ▸ hp; exact hq m e⟩
theorem pairedAt {α β : Type} {R : α → β → Prop} : ∀ {a : List α} {c : List β} {i : Nat} {x : α}, Paired R a c → a[i]? = some x → ∃ y, c[i]? = some y ∧ R x y
  | _, _, _, _, .nil, e => by simp at e
  | _, _, 0, _, .cons r _, e => by simp at e; subst e; exact ⟨_, rfl, r⟩
  | _, _, i + 1, _, .cons _ t, e => by
    obtain ⟨x, h1, h2⟩ := pairedAt (i := i) t (by simpa using e)
    exact ⟨x, by simpa using h1, h2⟩
section
variable {P : Program} {wo : World} {K : PySem.W.Frag} {mg : Str → Option Value} {base : Heap} {z : Pz}
theorem ok_npi (T : Txp K mg z) : FnOk P wo K mg base CX0 2 z.a_npi z.d_npi ["self", "at"] (spI1 z.cNoPattern "at") := by
  refine T.F_npi.ok sc_NoPattern_init (fun vs H Q E h => ?_) (fun cdv A outer s H vs Q E hr h => ?_)
  · obtain ⟨a, v, rfl, _⟩ := h
    rfl
  · obtain ⟨a, v, rfl, ha, k⟩ := h
    exact ⟨_, pss_one (ps_ost (pv 0) (pv 1)), _, rfl, _, rfl, a, z.cNoPattern, rfl, T.xNoPattern.oc, T.nNP, .inl ⟨ha, fun d h1 h2 => k d h1 h2⟩⟩
theorem ok_need_patternX (T : Txp K mg z) : FnOk P wo K mg base (L2.CX P wo) 4 z.a_need_pattern z.d_need_pattern ["thing"] (spNeedX K z.cNoPattern) := by
  refine T.F_need_pattern.okX sc_need_pattern (fun vs H Q E h => ?_) (fun cdv A outer s H vs Q E hr h => ?_)
  · obtain ⟨x, r, rfl, _⟩ := h
    rfl
  · obtain ⟨x, r, rfl, hf, ret, out⟩ := h
    have hr2 : Room 3 _ := hr
    have hr1 : Room 2 _ := hr.mono (by decide)
    have G_pattern_fault : FnOk P wo K mg base CX0 2 z.a_pattern_fault z.d_pattern_fault ["thing"] (spFault K) := ok_pattern_fault T
    refine ⟨_, (pss_cons (ps_set (i := 1) sc_need_pattern.nd rfl (Or.inl rfl) (pe_call G_pattern_fault hr1 rfl T.g_pattern_fault T.k_pattern_fault T.b_pattern_fault .nil pass0 (pa_cons (pv 0) pa_nil)))
      (pss_one (ps_if (pt_cmpR op_notN (pv 1) pe_non (nomark _))
        (pss_one (ps_raise rfl (takes_of rfl rfl rfl rfl) (pmk_oex T.xNoPattern.oc T.iNP T.tNP (ok_npi T) hr2 T.b_npi .nil pass0 rfl T.xNoPattern.g (pa_cons (pv 1) pa_nil))))
        pss_nil))), ?_⟩
    have go : ∀ H1, Same H H1 → ∀ r, (r = none → ∀ H', Same H H' → Q .non H') → (∀ k, r = some k → OutNP z.cNoPattern H E k) → tIfS (tTest (tOp (fun x y H Q => y = .non ∧ Q (.bl (!decide (x = .non))) H) (tVar 1) (tC .non))) (tSeq (fun _ σ H => tMkO z.cNoPattern (spI1 z.cNoPattern "at") [] (tCons (tVar 1) tNil) σ H fun cls d H' => E cls d H') tNext) tNext { nx := fun _ H' => Q .non H', rt := Q } [some x, some (optI r)] H1 := by
      intro H1 s1 r ret out
      refine ⟨_, rfl, rfl, _, rfl, ?_⟩
      cases r with
      | none => exact iteNS (show optI none = .non from rfl) (ret rfl _ s1)
      | some k =>
        have e : (!decide (optI (some k) = V.non)) = true := by
          rw [decide_eq_false (fun q => nomatch q)] <;> rfl
        rw [e]
        refine iteT ⟨_, rfl, by show 1 ≤ 1000; decide, fun a ha => ⟨a, _, rfl, upd_same, fun d h1 h2 => ⟨rfl, d, _, upd_same, by rw [upd_ne h2]; exact upd_same, by rw [upd_ne h2] at h1; exact h1, ?_⟩⟩⟩
        have hd : H1 d = none := by rw [upd_ne h2] at h1; exact h1
        refine out k rfl d _ (fun b o eb => ?_) upd_same
        have eb1 := s1 b o eb
        have nbd := ne_of_none eb1 hd
        have nba := ne_of_none eb1 ha
        rw [upd_ne nbd, del_ne nba, upd_ne nba, upd_ne nbd, upd_ne nba]
        exact eb1
    rcases hf with ⟨l, rfl, hl, rfl⟩ | ⟨t, ty, kt, rfl⟩
    · exact ⟨_, rfl, .inl ⟨l, rfl, Nat.le_trans hl (by decide), fun H1 s1 => go H1 s1 (pf l) ret out⟩⟩
    · exact ⟨_, rfl, .inr ⟨x, t, rfl, ty, kt, go H (Same.refl _) (some 0) ret out⟩⟩
theorem ok_isp (T : Txp K mg z) : FnOk P wo K mg base CX0 3 z.a_isp z.d_isp ["thing"] (spIsP K) := by
  refine T.F_isp.ok sc_Pattern_is_pattern (fun vs H Q E h => ?_) (fun cdv A outer s H vs Q E hr h => ?_)
  · obtain ⟨x, r, rfl, _⟩ := h
    rfl
  · obtain ⟨x, r, rfl, hf, ret⟩ := h
    have hr1 : Room 2 _ := hr
    have G_pattern_fault : FnOk P wo K mg base CX0 2 z.a_pattern_fault z.d_pattern_fault ["thing"] (spFault K) := ok_pattern_fault T
    refine ⟨_, (pss_one (ps_ret (pe_cmpR op_isN (pe_call G_pattern_fault hr1 rfl T.g_pattern_fault T.k_pattern_fault T.b_pattern_fault .nil pass0 (pa_cons (pv 0) pa_nil)) pe_non (nomark _)))), ?_⟩
    have e : ∀ r : Option Nat, decide (optI r = V.non) = decide (r = none) := fun r => by
      cases r with
      | none => rfl
      | some k => rw [decide_eq_false (fun q => nomatch q), decide_eq_false (fun q => nomatch q)]
    rcases hf with ⟨l, rfl, hl, rfl⟩ | ⟨t, ty, kt, rfl⟩
    · refine ⟨_, rfl, .inl ⟨l, rfl, Nat.le_trans hl (by decide), fun H1 s1 => ⟨rfl, ?_⟩⟩⟩
      rw [e]
      exact ret _ s1
    · refine ⟨_, rfl, .inr ⟨x, t, rfl, ty, kt, rfl, ?_⟩⟩
      exact ret _ (Same.refl _)
theorem ok_need_alike (T : Txp K mg z) : FnOk P wo K mg base (L2.CX P wo) 5 z.a_need_alike z.d_need_alike ["texts"] (spAlike K z.cNoPattern z.cUnlike) := by
  refine T.F_need_alike.okX sc_need_alike (fun vs H Q E h => ?_) (fun cdv A outer s H vs Q E hr h => ?_)
  · obtain ⟨q, xs, rs, rfl, _⟩ := h
    rfl
  · obtain ⟨q, xs, rs, rfl, hq, hp, h1, out, ret⟩ := h
    have hr3 : Room 4 _ := hr
    have hr1 : Room 2 _ := hr.mono (by decide)
    have G_need_pattern : FnOk P wo K mg base (L2.CX P wo) 4 z.a_need_pattern z.d_need_pattern ["thing"] (spNeedX K z.cNoPattern) := ok_need_patternX T
    have G_need_sizes : FnOk P wo K mg base (L2.CX P wo) 4 z.a_need_sizes z.d_need_sizes ["thing", "sizes"] (spNeedS K z.cUnlike) := ok_need_sizes T
    have G_sizes_of : FnOk P wo K mg base CX0 2 z.a_sizes_of z.d_sizes_of ["text"] spSizes := ok_sizes_of T
    refine ⟨_, (pss_cons (ps_for (passes_of rfl) rfl (pi_list (pv 0)) (pg_name (i := 1) sc_need_alike.nd rfl (Or.inl rfl))
        (pss_one (ps_expr (pe_call G_need_pattern hr3 rfl T.g_need_pattern T.k_need_pattern T.b_need_pattern .nil (passes_call (takes_of rfl rfl rfl rfl) (fun _ _ _ _ h => h)) (pa_cons (pv 1) pa_nil)))))
      (pss_one (ps_for (passes_of rfl) rfl (pi_list (pv 0)) (pg_name (i := 1) sc_need_alike.nd rfl (Or.inl rfl))
        (pss_one (ps_expr (pe_call G_need_sizes hr3 rfl T.g_need_sizes T.k_need_sizes T.b_need_sizes .nil (passes_call (takes_of rfl rfl rfl rfl) (fun _ _ _ _ h => h)) (pa_cons (pv 1) (pa_cons (pe_call G_sizes_of hr1 rfl T.g_sizes_of T.k_sizes_of T.b_sizes_of .nil pass0 (pa_cons (pe_ix ix_list (pv 0) pe_int (fun _ _ => rfl)) pa_nil)) pa_nil)))))))), ?_⟩
    refine ⟨_, rfl, q, rfl, ⟨_, hq⟩, for_list (K := K) (a := q) (xs := xs) (fun i σ H' => Same H H' ∧ (∃ x1, σ = [some (.ref q), x1]) ∧ ∀ j, j < i → rs[j]? = some none) ⟨Same.refl _, ⟨_, rfl⟩, fun j hj => by omega⟩ (fun i σ H' _ h => h.1.seq hq) ?_ ?_⟩
    · rintro i x σ H1 e ⟨s1, ⟨x1, rfl⟩, hj⟩
      obtain ⟨r, er, hr⟩ := pairedAt hp e
      refine ⟨_, rfl, x, r, rfl, hr.same s1, fun e0 H2 s2 => ?_, fun k ek => ?_⟩
      · subst e0
        refine ⟨s1.trans s2, ⟨_, rfl⟩, fun j lt => ?_⟩
        by_cases c : j = i
        · subst c; exact er
        · exact hj j (by omega)
      · subst ek
        exact (out k (ffst_at er hj)).later s1
    · rintro σ H1 ⟨s1, ⟨x1, rfl⟩, hj⟩
      have lr : xs.length = rs.length := hp.length
      have none' : ∀ r ∈ rs, r = none := fun r hr => by
        obtain ⟨i, hi, e⟩ := List.getElem_of_mem hr
        have := hj i (by omega)
        rw [List.getElem?_eq_getElem hi, e] at this
        exact Option.some.inj this
      have ff : ffst rs = none := by
        cases e : ffst rs with
        | none => rfl
        | some k =>
          exfalso
          clear out ret hp hj lr
          induction rs with
          | nil => cases e
          | cons r rs ih =>
            have := none' r List.mem_cons_self
            subst this
            exact ih (fun r hr => none' r (List.mem_cons_of_mem _ hr)) e
      obtain ⟨ls, rfl, hls⟩ := texts_of hp none'
      have rt := ret ff ls rfl
      obtain ⟨l0, r0, e0⟩ : ∃ l0 r0, ls = l0 :: r0 := by
        cases ls with
        | nil => simp at h1
        | cons a b => exact ⟨a, b, rfl⟩
      have hh : ls.headD [] = l0 := by rw [e0]; rfl
      rw [hh] at rt
      have hl0 : IsP l0 := hls l0 (by rw [e0]; exact List.mem_cons_self)
      have at0 : (ls.map fun l => V.str (S l))[0]? = some (.str (S l0)) := by rw [e0]; rfl
      refine ⟨_, rfl, q, rfl, ⟨_, s1.seq hq⟩, for_list (K := K) (a := q) (xs := ls.map fun l => V.str (S l)) (fun i σ H' => Same H H' ∧ (∃ x1, σ = [some (.ref q), x1]) ∧ ∀ j l, j < i → ls[j]? = some l → szs l = szs l0) ⟨s1, ⟨_, rfl⟩, fun j _ hj => by omega⟩ (fun i σ H' _ h => h.1.seq hq) ?_ ?_⟩
      · rintro i x σ H2 e ⟨s2, ⟨x1, rfl⟩, hj⟩
        rw [List.getElem?_map] at e
        cases el : ls[i]? with
        | none => rw [el] at e; cases e
        | some l =>
          rw [el] at e
          cases e
          have hl := hls l (List.mem_of_getElem? el)
          have len := hl.len
          have len0 := hl0.len
          refine ⟨_, rfl, _, rfl, q, _, 0, _, rfl, rfl, s2.seq hq, atI_nat (j := 0) at0, l0, rfl, by omega, fun t H3 s3 _ ht => ?_⟩
          refine ⟨l, t, szs l0, rfl, by omega, hl.pf, SqT.of ht, ?_⟩
          by_cases c : szs l = szs l0
          · rw [if_pos c]
            intro H4 s4
            refine ⟨(s2.trans s3).trans s4, ⟨_, rfl⟩, fun j m lt em => ?_⟩
            by_cases cj : j = i
            · subst cj; rw [el] at em; cases em; exact c
            · exact hj j m (by omega) em
          · rw [if_neg c]
            have neg : ¬ ∀ l ∈ ls, szs l = szs l0 := fun h => c (h l (List.mem_of_getElem? el))
            rw [if_neg neg] at rt
            exact fun H4 s4 => rt H4 ((s2.trans s3).trans s4)
      · rintro σ H2 ⟨s2, _, hj⟩
        have pos : ∀ l ∈ ls, szs l = szs l0 := fun l hl => by
          obtain ⟨i, hi, e⟩ := List.getElem_of_mem hl
          exact hj i l (by rw [List.length_map]; exact hi) (by rw [List.getElem?_eq_getElem hi, e])
        rw [if_pos pos] at rt
        exact rt H2 s2
theorem ok_unlike_bits (T : Txp K mg z) : FnOk P wo K mg base CX0 3 z.a_unlike_bits z.d_unlike_bits ["one", "other"] spUnl := by
  refine T.F_unlike_bits.ok sc_unlike_bits (fun vs H Q E h => ?_) (fun cdv A outer s H vs Q E hr h => ?_)
  · obtain ⟨l, m, rfl, _⟩ := h
    rfl
  · obtain ⟨l, m, rfl, hl, hm, ret⟩ := h
    have hr1 : Room 2 _ := hr
    have G_bits_of : FnOk P wo K mg base CX0 2 z.a_bits_of z.d_bits_of ["text"] spBits := ok_bits_of T
    refine ⟨_, (pss_one (ps_ret (by refine' pe_lc (own := [("bit", 2), ("a", 3), ("b", 4)]) (g := (gTup K 2 (gCons (gName 2) (gCons (gTup K 2 (gCons (gName 3) (gCons (gName 4) gNil))) gNil)))) rfl sc_unlike_bits.nd ?hi (blkOk_by (N := ["one", "other", "bit", "a", "b"]) (sc := defScope s_unlike_bits) (by first | decide +kernel | kernel_rfl | rfl)) ?hg ?ht ?he (by intro _; rfl); (case hi => exact (pi_enumZ rfl T.n_enumerate rfl T.n_zip (pa_cons (pe_call G_bits_of hr1 rfl T.g_bits_of T.k_bits_of T.b_bits_of .nil pass0 (pa_cons (pv 0) pa_nil)) (pa_cons (pe_call G_bits_of hr1 rfl T.g_bits_of T.k_bits_of T.b_bits_of .nil pass0 (pa_cons (pv 1) pa_nil)) pa_nil)))); (case hg => exact fun _ _ _ _ _ => (pg_tup rfl (pgs_cons (pg_name (i := 2) sc_unlike_bits.nd rfl (Or.inl rfl) (.inr rfl)) (pgs_cons (pg_tup rfl (pgs_cons (pg_name (i := 3) sc_unlike_bits.nd rfl (Or.inl rfl) (.inr rfl)) (pgs_cons (pg_name (i := 4) sc_unlike_bits.nd rfl (Or.inl rfl) (.inr rfl)) pgs_nil))) pgs_nil)))); (case ht => exact fun _ _ _ _ _ => (pts_one (pt_cmpR op_ne (pv 3) (pv 4) (nomark _)))); (case he => exact fun _ _ _ _ _ => (pv 2))))), ?_⟩
    refine ⟨_, rfl, l, rfl, hl, ?_⟩
    refine ⟨_, rfl, m, rfl, hm, ?_⟩
    rw [show l.filter (fun c => c != 46) = bt l from rfl, show m.filter (fun c => c != 46) = bt m from rfl]
    have bl : (bt l).length ≤ l.length := List.length_filter_le _ _
    refine ⟨S (bt l), S (bt m), rfl, fun D hD => ?_⟩
    rw [S_sz, S_sz]
    refine lc_outZ (outF (fun i => decide ((bt l).getD i 0 ≠ (bt m).getD i 0)) fun i => V.int (i : Nat)) hD outF_0 (fun i hi => Nat.lt_of_le_of_lt outF_l (small1 i (by omega))) (fun i Tu T1 H2 Kc K0 lt s2 hT hT1 kc k0 => ?_) (fun H2 s2 e2 => ?_)
    · have g1 : (bt l)[i]? = some (bt l)[i] := List.getElem?_eq_getElem (by omega)
      have g2 : (bt m)[i]? = some (bt m)[i] := List.getElem?_eq_getElem (by omega)
      have d1 : (bt l).getD i 0 = (bt l)[i] := by rw [List.getD_eq_getElem?_getD, g1] <;> rfl
      have d2 : (bt m).getD i 0 = (bt m)[i] := by rw [List.getD_eq_getElem?_getD, g2] <;> rfl
      refine ⟨Tu, [.int (i : Nat), .ref T1], rfl, SqT.of hT, rfl, ?_⟩
      refine ⟨_, _, rfl, ?_⟩
      refine ⟨_, _, rfl, T1, [.str (S [(bt l)[i]]), .str (S [(bt m)[i]])], rfl, SqT.of (by rw [hT1]; rw [show sgn (S (bt l)) i = S [(bt l)[i]] from S_sgn g1, show sgn (S (bt m)) i = S [(bt m)[i]] from S_sgn g2]), rfl, ?_⟩
      refine ⟨_, _, rfl, ?_⟩
      refine ⟨_, _, rfl, ?_⟩
      refine ⟨rfl, rfl, ?_⟩
      have st := outF_t (p := fun i => decide ((bt l).getD i 0 ≠ (bt m).getD i 0)) (f := fun i => V.int (i : Nat)) (i := i)
      have sf := outF_f (p := fun i => decide ((bt l).getD i 0 ≠ (bt m).getD i 0)) (f := fun i => V.int (i : Nat)) (i := i)
      rw [d1, d2] at st sf
      generalize (bt l)[i] = a at st sf
      generalize (bt m)[i] = b at st sf
      refine ⟨rfl, _, rfl, _, rfl, rfl, _, rfl, ?_⟩
      refine ite2 (fun h => ?_) (fun h => ?_)
      · have ne : a ≠ b := fun e => by subst e; simp at h
        exact ⟨_, rfl, kc _ _ (Same.refl _) (st (decide_eq_true ne))⟩
      · have e : a = b := by
          by_cases q : a = b
          · exact q
          · exact absurd (by rw [decide_eq_false (fun z => q (by simpa using S_eq.mp z))]; rfl) h
        exact k0 _ (Same.refl _) (sf (decide_eq_false (by simpa using e)))
    · exact ret D H2 s2 hD e2
end
end Fb
set_option maxRecDepth 100000
set_option maxHeartbeats 4000000
namespace Fb
open PySem PySem.Spec PyProof.Rows L2
open SX (S)
theorem unl_self : ∀ l : List Nat, unlZ l l = 0
  | [] => rfl
  | a :: l => by rw [unlZ_cons, if_pos rfl, unl_self l]
def spInitX (K : PySem.W.Frag) (C cN : Addr) : Sp := fun vs H Q E => ∃ a dx x r, vs = [.ref a, x] ∧ Flt K H x r ∧ H a = some (.ins C dx []) ∧ (∀ k, r = some k → OutNP cN H E k) ∧
  (r = none → ∃ l, x = .str (S l) ∧ ∀ t H', (∀ b o, b ≠ a → H b = some o → H' b = some o) → H' a = some (.ins C dx (ptF l t)) → H' t = some (.tup (nums (szs l))) → Q .non H')
section
variable {P : Program} {wo : World} {K : PySem.W.Frag} {mg : Str → Option Value} {base : Heap} {z : Pz}
theorem ok_initX (T : Txp K mg z) : FnOk P wo K mg base (L2.CX P wo) 5 z.a_init z.d_init ["self", "text"] (spInitX K z.C z.cNoPattern) := by
  refine T.F_init.okX sc_Pattern_init (fun vs H Q E h => ?_) (fun cdv A outer s H vs Q E hr h => ?_)
  · obtain ⟨a, dx, x, r, rfl, _⟩ := h
    rfl
  · obtain ⟨a, dx, x, r, rfl, hf, ha, out, ret⟩ := h
    have hr3 : Room 4 _ := hr
    have hr1 : Room 2 _ := hr.mono (by decide)
    have G_need_pattern : FnOk P wo K mg base (L2.CX P wo) 4 z.a_need_pattern z.d_need_pattern ["thing"] (spNeedX K z.cNoPattern) := ok_need_patternX T
    have G_sizes_of : FnOk P wo K mg base CX0 2 z.a_sizes_of z.d_sizes_of ["text"] spSizes := ok_sizes_of T
    have G_bits_of : FnOk P wo K mg base CX0 2 z.a_bits_of z.d_bits_of ["text"] spBits := ok_bits_of T
    refine ⟨_, (pss_cons (ps_expr (pe_call G_need_pattern hr3 rfl T.g_need_pattern T.k_need_pattern T.b_need_pattern .nil (passes_call (takes_of rfl rfl rfl rfl) (fun _ _ _ _ h => h)) (pa_cons (pv 1) pa_nil)))
      (pss_cons (ps_fld (pv 0) (pv 1) rfl)
      (pss_cons (ps_fld (pv 0) (pe_call G_bits_of hr1 rfl T.g_bits_of T.k_bits_of T.b_bits_of .nil pass0 (pa_cons (pv 1) pa_nil)) rfl)
      (pss_one (ps_fld (pv 0) (pe_call G_sizes_of hr1 rfl T.g_sizes_of T.k_sizes_of T.b_sizes_of .nil pass0 (pa_cons (pv 1) pa_nil)) rfl))))), ?_⟩
    refine ⟨_, rfl, x, r, rfl, hf, fun er H1 s1 => ?_, out⟩
    subst er
    obtain ⟨l', hx', hp⟩ := hf.text
    obtain ⟨l, hx, ret2⟩ := ret rfl
    subst hx
    have el : l = l' := S_eq.mp hx'
    subst el
    have hl := hp.len
    refine ⟨_, rfl, _, rfl, a, z.C, dx, _, rfl, s1 _ _ ha, T.cls, T.na_text, by decide, ?_⟩
    refine ⟨_, rfl, l, rfl, by omega, ?_⟩
    refine ⟨_, rfl, a, z.C, dx, _, rfl, upd_same, T.cls, T.na_bits, ?_, ?_⟩
    · exact Nat.lt_of_le_of_lt (length_putF _ _ _) (by decide)
    refine ⟨_, rfl, l, rfl, by omega, fun t H2 s2 hn ht => ?_⟩
    refine ⟨_, rfl, a, z.C, dx, _, rfl, s2 _ _ upd_same, T.cls, T.na_sizes, ?_, ?_⟩
    · exact Nat.lt_of_le_of_lt (length_putF _ _ _) (Nat.lt_of_le_of_lt (Nat.succ_le_succ (length_putF _ _ _)) (by decide))
    have nt : t ≠ a := fun e => by
      subst e
      have h2 := s2 _ _ upd_same
      rw [ht] at h2
      cases h2
    rw [put3]
    refine ret2 t _ (fun b o nb e => ?_) upd_same (by rw [upd_ne nt]; exact ht)
    rw [upd_ne nb]
    refine s2 _ _ ?_
    rw [upd_ne nb, upd_ne nb]
    exact s1 _ _ e
theorem ok_box (T : Txp K mg z) : FnOk P wo K mg base (L2.CX P wo) 6 z.a_box z.d_box ["one", "other"] (spBox K z.cNoPattern) := by
  refine T.F_box.okX sc_box (fun vs H Q E h => ?_) (fun cdv A outer s H vs Q E hr h => ?_)
  · obtain ⟨x, y, r1, r2, rfl, _⟩ := h
    rfl
  · obtain ⟨x, y, r1, r2, rfl, hf1, hf2, out, ret⟩ := h
    have hr4 : Room 5 _ := hr
    have hr2 : Room 3 _ := hr.mono (by decide)
    have G_need_alike : FnOk P wo K mg base (L2.CX P wo) 5 z.a_need_alike z.d_need_alike ["texts"] (spAlike K z.cNoPattern z.cUnlike) := ok_need_alike T
    have G_unlike_bits : FnOk P wo K mg base CX0 3 z.a_unlike_bits z.d_unlike_bits ["one", "other"] spUnl := ok_unlike_bits T
    obtain ⟨tM, gM⟩ := T.g_MOST_UNLIKE_BITS
    refine ⟨_, (pss_cons (ps_expr (pe_call G_need_alike hr4 rfl T.g_need_alike T.k_need_alike T.b_need_alike .nil (passes_call (takes_of rfl rfl rfl rfl) (fun _ _ _ _ h => h)) (pa_cons (pe_lst (pa_cons (pv 0) (pa_cons (pv 1) pa_nil))) pa_nil)))
      (pss_cons (ps_if (pt_cmpR op_gt (pe_callB call_len_seq (by rfl) T.n_len (by decide +kernel) (pa_cons (pe_call G_unlike_bits hr2 rfl T.g_unlike_bits T.k_unlike_bits T.b_unlike_bits .nil pass0 (pa_cons (pv 0) (pa_cons (pv 1) pa_nil))) pa_nil)) (pe_glob (v := .int 10) rfl gM ⟨_, rfl⟩) (nomark _))
        (pss_one ps_no)
        pss_nil)
      (pss_cons (ps_set (i := 2) sc_box.nd rfl (Or.inl rfl) (pe_lst (pa_cons pe_str pa_nil)))
      (pss_cons (ps_for (passes_of rfl) rfl (pi_zipS2 rfl T.n_zip (pa_cons (pv 0) (pa_cons (pv 1) pa_nil))) (pg_tup rfl (pgs_cons (pg_name (i := 3) sc_box.nd rfl (Or.inl rfl)) (pgs_cons (pg_name (i := 4) sc_box.nd rfl (Or.inl rfl)) pgs_nil)))
        (pss_cons (ps_set (i := 5) sc_box.nd rfl (Or.inr rfl) (pe_ifExp (pt_cmpR op_eq (pv 3) (pv 4) (nomark _)) (pe_tup (pa_cons (pv 3) pa_nil)) (pe_tup (pa_cons pe_str (pa_cons pe_str pa_nil)))))
        (pss_one (by refine' ps_setLc2 (own := [("text", 6), ("sign", 7)]) (vs1 := [7]) (tt := tYes) (tt1 := tYes) (g := gName 6) (g1 := gName 7) (i := 2) rfl sc_box.nd rfl rfl (sw_true rfl rfl rfl (by decide +kernel)) ?hi (blkOk_by (N := ["one", "other", "found", "a", "b", "signs", "text", "sign"]) (sc := defScope s_box) (by first | decide +kernel | kernel_rfl | rfl)) (by decide) ?hg ?ht ?hi1 ?hg1 ?ht1 ?he (by intro _; rfl) (by intro _ _; rfl); (case hi => exact (pi_list (pv 2))); (case hg => exact fun _ _ _ _ _ => (pg_name (i := 6) sc_box.nd rfl (Or.inl rfl))); (case ht => exact fun _ _ _ _ _ => pts_nil); (case hi1 => exact fun _ _ _ _ _ => (pi_tupK (K := K) rfl (pv 5))); (case hg1 => exact fun _ _ _ _ _ => (pg_name (i := 7) sc_box.nd rfl (Or.inl rfl))); (case ht1 => exact fun _ _ _ _ _ => pts_nil); (case he => exact fun _ _ _ _ _ => (pe_op op_add_str (pv 6) (pv 7)))))))
      (pss_one (ps_ret (pv 2))))))), ?_⟩
    refine ⟨_, rfl, _, rfl, by show 2 ≤ sizeLine; decide, fun q hq => ?_⟩
    have s0 := smN (o := .lst [x, y]) (Same.refl H) hq
    refine ⟨q, [x, y], [r1, r2], rfl, SqL.of upd_same, .cons (hf1.same s0) (.cons (hf2.same s0) .nil), by show 1 ≤ 2; decide, fun k ek => (out k ek).later s0, fun ff ls els => ?_⟩
    obtain ⟨l, rfl, rfl, ret3⟩ := ret ff
    obtain ⟨rfl, rfl⟩ := ffst_two ff
    obtain ⟨l', hl', hp⟩ := hf1.text
    obtain rfl : l = l' := S_eq.mp hl'
    have len := hp.len
    have els' : ls = [l, l] := by
      match ls, els with
      | [a, b], e =>
        have e1 : V.str (S l) = V.str (S a) := (List.cons.inj e).1
        have e2 : V.str (S l) = V.str (S b) := (List.cons.inj (List.cons.inj e).2).1
        rw [← S_eq.mp e1, ← S_eq.mp e2]
      | [], e => simp at e
      | [a], e => simp at e
      | a :: b :: c :: r, e => simp at e
    subst els'
    rw [if_pos (by intro m hm; simp at hm; rw [hm]; rfl)]
    intro H1 s1
    have s01 := s0.trans s1
    refine ⟨_, rfl, _, rfl, l, l, rfl, by omega, by omega, fun D0 H2 s2 n0 d0 => ?_⟩
    refine ⟨D0, _, rfl, .inl (SqL.of d0), ?_⟩
    rw [nums_ln, unlNs_len (Al.refl hp.sg), unl_self]
    refine ⟨_, _, rfl, rfl, _, rfl, ?_⟩
    refine iteF ?_
    refine ⟨by show 1 ≤ sizeLine; decide, fun f0 h0 => ?_⟩
    have s02 := s01.trans s2
    refine ⟨_, rfl, _, rfl, S l, S l, rfl, ?_⟩
    rw [S_sz, Nat.min_self]
    refine for_T (fun i σ H' => Same H H' ∧ ∃ (f : Addr) (x3 x4 x5 x6 x7 : Option V), σ = [some (.str (S l)), some (.str (S l)), some (.ref f), x3, x4, x5, x6, x7] ∧ H f = none ∧ H' f = some (.lst [.str (S (l.take i))])) ⟨smN s02 h0, f0, none, none, none, none, none, rfl, s02.free h0, by rw [upd_same, S_e] <;> rfl⟩ ?_ ?_
    · rintro i Tu σ H3 hi ⟨s3, f, x3, x4, x5, x6, x7, rfl, hf, hl3⟩ hT
      have g1 : l[i]? = some l[i] := List.getElem?_eq_getElem hi
      have tk := take_s g1
      have es : sgn (S l) i = S [l[i]] := S_sgn g1
      generalize l[i] = c at g1 tk es
      have s4 := smN (o := .tup [.str (sgn (S l) i), .str (sgn (S l) i)]) s3 hT
      have hl4 := smN (o := .tup [.str (sgn (S l) i), .str (sgn (S l) i)]) (Same.refl H3) hT _ _ hl3
      refine ⟨Tu, [.str (S [c]), .str (S [c])], rfl, SqT.of (by rw [upd_same, es]), rfl, ?_⟩
      refine ⟨_, _, rfl, ?_⟩
      refine ⟨_, _, rfl, ?_⟩
      refine ⟨rfl, ?_⟩
      refine ⟨_, rfl, _, rfl, rfl, _, rfl, ?_⟩
      rw [decide_eq_true rfl]
      refine iteT ?_
      refine ⟨_, rfl, by show 1 ≤ sizeLine; decide, fun tt htt => ?_⟩
      have s5 := smN (o := .tup [.str (S [c])]) s4 htt
      have hl5 := smN (o := .tup [.str (S [c])]) (Same.refl _) htt _ _ hl4
      refine ⟨_, rfl, f, rfl, ⟨_, SqL.of hl5⟩, fun D hD => ?_⟩
      have HD : H D = none := s5.free hD
      have nfD : f ≠ D := ne_of_none hl5 hD
      have ntD : tt ≠ D := ne_of_none upd_same hD
      refine lc2_names (K := K) (a := f) (b := tt) (xs := [.str (S (l.take i))]) (ys := [.str (S [c])]) (fun a b H' => Same H H' ∧ H' f = some (.lst [.str (S (l.take i))]) ∧ H' tt = some (.tup [.str (S [c])]) ∧ H' D = some (.lst (if a = 0 ∧ b = 0 then [] else [.str (S (l.take (i + 1)))])))
        ⟨smN s5 hD, smN (Same.refl _) hD _ _ hl5, smN (Same.refl _) hD _ _ upd_same, by rw [upd_same]; rfl⟩ (fun a b H' h => ⟨SqL.of h.2.1, SqT.of h.2.2.1⟩) (fun _ => rfl) (fun _ => rfl) (fun _ _ => rfl) ?_ ?_ ?_
      · rintro a b x y H6 ea eb ⟨s6, f6, t6, d6⟩
        have ha : a = 0 := by have := (List.getElem?_eq_some_iff.mp ea).1; simp at this; exact this
        have hb : b = 0 := by have := (List.getElem?_eq_some_iff.mp eb).1; simp at this; exact this
        subst ha
        subst hb
        cases ea
        cases eb
        have lz : (S (l.take i)).length + (S [c]).length ≤ sizeLine := by
          rw [S_ln, List.length_take]
          exact Nat.le_trans (show min i l.length + 1 ≤ 1000 by omega) (by decide)
        refine ⟨_, rfl, _, rfl, _, _, rfl, rfl, lz, [], d6, by decide, ?_⟩
        rw [tk] at *
        refine ⟨fun b o e => by rw [upd_ne (ne_of_none e HD)]; exact s6 b o e, by rw [upd_ne nfD]; exact f6, by rw [upd_ne ntD]; exact t6, ?_⟩
        rw [upd_same, if_neg (by simp), List.nil_append, SX.S_cat]
      · rintro a H6 ha ⟨s6, f6, t6, d6⟩
        refine ⟨s6, f6, t6, ?_⟩
        rw [d6, if_neg (by simp), if_neg (by omega)]
      · rintro H6 ⟨s6, f6, t6, d6⟩
        rw [if_neg (by simp)] at d6
        exact ⟨s6, D, _, _, _, _, _, rfl, HD, d6⟩
    · rintro σ H3 ⟨s3, f, x3, x4, x5, x6, x7, rfl, hf, hl3⟩
      rw [List.take_length] at hl3
      exact ⟨_, rfl, ret3 f H3 s3 hf hl3⟩
end
end Fb
set_option maxRecDepth 100000
set_option maxHeartbeats 4000000
namespace Fb
open PySem PySem.Spec PyProof.Rows L2
open SX (S)

/-! the written part: the law's own defs -/
structure Lz where
  (a_Lpen a_Ltake a_law : Addr)
  (d_Lpen d_Ltake d_law : FuncData)
  (a_Ltext : Addr) (d_Ltext : FuncData)
  (a_Lbent : Addr) (d_Lbent : FuncData)
  (a_Ldue : Addr) (d_Ldue : FuncData)
  (a_Lcalled : Addr) (d_Lcalled : FuncData)
  (a_Lright : Addr) (d_Lright : FuncData)
abbrev s_Ltext : Stmt := top 28
theorem sc_Ltext : FnScope ["_law_pen_here", "_law_many", "_law_sizes", "_law_k", "_law_size", "_law_bit"] ["_law_pen_here"] (defScope s_Ltext) := ⟨rfl, rfl, rfl, by decide +kernel, rfl, by decide +kernel, by decide +kernel⟩
abbrev s_Lbent : Stmt := top 29
theorem sc_Lbent : FnScope ["_law_pen_here", "_law_text_here", "_law_spot", "_law_sign", "_law_way"] ["_law_pen_here", "_law_text_here"] (defScope s_Lbent) := ⟨rfl, rfl, rfl, by decide +kernel, rfl, by decide +kernel, by decide +kernel⟩
abbrev s_Ldue : Stmt := top 30
theorem sc_Ldue : FnScope ["_law_text_here", "_law_blocks", "_law_bits", "_law_run", "_law_at"] ["_law_text_here"] (defScope s_Ldue) := ⟨rfl, rfl, rfl, by decide +kernel, rfl, by decide +kernel, by decide +kernel⟩
abbrev s_Lcalled : Stmt := top 31
theorem sc_Lcalled : FnScope ["_law_ask", "_law_caught", "_law_found", "e"] ["_law_ask"] (defScope s_Lcalled) := ⟨rfl, rfl, rfl, by decide +kernel, rfl, by decide +kernel, by decide +kernel⟩
abbrev s_Lright : Stmt := top 32
theorem sc_Lright : FnScope ["_law_text_here", "_law_due_here", "_law_made", "_law_boxed"] ["_law_text_here"] (defScope s_Lright) := ⟨rfl, rfl, rfl, by decide +kernel, rfl, by decide +kernel, by decide +kernel⟩
abbrev s_law : Stmt := top 33
theorem sc_law : FnScope ["_law_script", "_law_pen_here", "_law_turn", "_law_text_here", "_law_odd"] ["_law_script"] (defScope s_law) := ⟨rfl, rfl, rfl, by decide +kernel, rfl, by decide +kernel, by decide +kernel⟩
structure TxL (K : PySem.W.Frag) (mg : Str → Option Value) (z : Pz) (w : Lz) : Prop extends Txp K mg z where
  pp : TxP mg
  g_Lpen : mg "_law_pen" = some (.ref w.a_Lpen)
  k_Lpen : PySem.W.keepIn K (.ref w.a_Lpen) = true
  F_Lpen : Fun K "_law_pen" "_law_pen" s_Lpen w.a_Lpen w.d_Lpen
  b_Lpen : Binds K w.d_Lpen ["_law_script"] []
  g_Ltake : mg "_law_take" = some (.ref w.a_Ltake)
  k_Ltake : PySem.W.keepIn K (.ref w.a_Ltake) = true
  F_Ltake : Fun K "_law_take" "_law_take" s_Ltake w.a_Ltake w.d_Ltake
  b_Ltake : Binds K w.d_Ltake ["_law_pen_here", "_law_many"] []
  g_Ltext : mg "_law_text" = some (.ref w.a_Ltext)
  k_Ltext : PySem.W.keepIn K (.ref w.a_Ltext) = true
  F_Ltext : Fun K "_law_text" "_law_text" s_Ltext w.a_Ltext w.d_Ltext
  b_Ltext : Binds K w.d_Ltext ["_law_pen_here"] []
  g_Lbent : mg "_law_bent" = some (.ref w.a_Lbent)
  k_Lbent : PySem.W.keepIn K (.ref w.a_Lbent) = true
  F_Lbent : Fun K "_law_bent" "_law_bent" s_Lbent w.a_Lbent w.d_Lbent
  b_Lbent : Binds K w.d_Lbent ["_law_pen_here", "_law_text_here"] []
  g_Ldue : mg "_law_due" = some (.ref w.a_Ldue)
  k_Ldue : PySem.W.keepIn K (.ref w.a_Ldue) = true
  F_Ldue : Fun K "_law_due" "_law_due" s_Ldue w.a_Ldue w.d_Ldue
  b_Ldue : Binds K w.d_Ldue ["_law_text_here"] []
  g_Lcalled : mg "_law_called" = some (.ref w.a_Lcalled)
  k_Lcalled : PySem.W.keepIn K (.ref w.a_Lcalled) = true
  F_Lcalled : Fun K "_law_called" "_law_called" s_Lcalled w.a_Lcalled w.d_Lcalled
  b_Lcalled : Binds K w.d_Lcalled ["_law_ask"] []
  g_Lright : mg "_law_right" = some (.ref w.a_Lright)
  k_Lright : PySem.W.keepIn K (.ref w.a_Lright) = true
  b_Lright : Binds K w.d_Lright ["_law_text_here"] []
  xFallenError : mg "FallenError" = some (.ref z.fe)
  clF : (PySem.W.clsIn K z.fe).isSome = true
  tyF : PySem.W.typeIn K (.ref z.fe) = some (.type "type")
  sbF : PySem.W.subIn K (.ref z.fe) (.type "BaseException") = some true
  n_range : mg "range" = none
  n_int : mg "int" = none
  n_min : mg "min" = none
  n_max : mg "max" = none
  n_repr : mg "repr" = none
  n_sum : mg "sum" = none
def spText : Sp := fun vs H Q _ => ∃ (p l : Addr) (n : Nat), vs = [.ref p] ∧ n < 900000 ∧ PenL H p l n ∧
  ∀ x H', But p H H' → PenL H' p l (n + 520) → x.length ≤ 490 → Q (.str (S x)) H'
def spBent : Sp := fun vs H Q _ => ∃ (p l : Addr) (n : Nat) (x : List Nat), vs = [.ref p, .str (S x)] ∧ n < 900000 ∧ PenL H p l n ∧ x.length ≤ 490 ∧
  ∀ y H', But p H H' → PenL H' p l (n + 3) → y.length ≤ 981 → Q (.str (S y)) H'
def spDue : Sp := fun vs H Q _ => ∃ x, vs = [.str (S x)] ∧ x.length ≤ 1000 ∧ ∀ H', Same H H' → Q (optI (pf x)) H'
theorem inV_s2 (c : Nat) : inV (.str (S [c])) [.str "0", .str "1"] = decide (c = 48 ∨ c = 49) := by
  rw [S_0, S_1]
  have e : ∀ a : Nat, eqV (V.str (S [a])) (V.str (S [c])) = decide (c = a) := fun a => by
    show (S [a] == S [c]) = _
    rw [SX.S_beq_eq]
    by_cases h : c = a
    · subst h; simp
    · rw [decide_eq_false h, decide_eq_false (fun z => h (by simpa using z.symm))]
  show ([V.str (S [48]), V.str (S [49])].any fun y => eqV y (V.str (S [c]))) = _
  simp only [List.any_cons, List.any_nil, e, Bool.or_false, Bool.decide_or]
theorem cutS_S (l : List Nat) (lo hi : Option Int) : ∃ m, cutS (S l) lo hi = S m ∧ m.length ≤ l.length := by
  refine ⟨((S l).cps.toList.drop (HT.sIx (S l).length 0 lo)).take (HT.sIx (S l).length (S l).length hi - HT.sIx (S l).length 0 lo), rfl, ?_⟩
  rw [List.length_take, List.length_drop]
  have : (S l).cps.toList.length = l.length := by simp [S]
  omega
theorem sum_ints {ss : List Nat} : ∃ m : Nat, (ss.map fun s : Nat => (s : Int)).sum = (m : Int) := by
  induction ss with
  | nil => exact ⟨0, rfl⟩
  | cons s ss ih =>
    obtain ⟨m, e⟩ := ih
    exact ⟨s + m, by rw [List.map_cons, List.sum_cons, e]; omega⟩
theorem nums_cut (ss : List Nat) (lo hi : Option Int) : ∃ rr : List Nat, cutV (nums ss) lo hi = nums rr := by
  unfold cutV nums
  exact ⟨_, by rw [← List.map_drop, ← List.map_take]⟩
theorem bsum {b : Nat} : ∀ {ss : List Nat}, (∀ s ∈ ss, s ≤ b) → ss.sum ≤ ss.length * b
  | [], _ => by simp
  | s :: ss, h => by
    have h1 := h s List.mem_cons_self
    have h2 := bsum (ss := ss) fun x hx => h x (List.mem_cons_of_mem _ hx)
    rw [List.sum_cons, List.length_cons, Nat.succ_mul]
    omega
section
variable {P : Program} {wo : World} {K : PySem.W.Frag} {mg : Str → Option Value} {base : Heap} {z : Pz} {w : Lz}
theorem ok_Lbent (T : TxL K mg z w) : FnOk P wo K mg base CX0 3 w.a_Lbent w.d_Lbent ["_law_pen_here", "_law_text_here"] spBent := by
  refine T.F_Lbent.ok sc_Lbent (fun vs H Q E h => ?_) (fun cdv A outer s H vs Q E hr h => ?_)
  · obtain ⟨p, l, n, x, rfl, _⟩ := h
    rfl
  · obtain ⟨p, l, n, x, rfl, hn, hP, hx, ret⟩ := h
    have hr1 : Room 2 _ := hr
    have G_Ltake : FnOk P wo K mg base CX0 2 w.a_Ltake w.d_Ltake ["_law_pen_here", "_law_many"] spTake := ok_take T.F_Ltake T.pp
    have xz : (S x).length ≤ sizeLine := by rw [S_ln]; exact Nat.le_trans (show x.length ≤ 1000 by omega) (by decide)
    refine ⟨_, (pss_cons (ps_set (i := 2) sc_Lbent.nd rfl (Or.inl rfl) (pe_call G_Ltake hr1 rfl T.g_Ltake T.k_Ltake T.b_Ltake .nil pass0 (pa_cons (pv 0) (pa_cons (pe_op op_add (pe_callB call_len_str (by rfl) T.n_len (by decide +kernel) (pa_cons (pv 1) pa_nil)) pe_int) pa_nil))))
      (pss_cons (ps_set (i := 3) sc_Lbent.nd rfl (Or.inl rfl) (pe_ix ix_str pe_str (pe_call G_Ltake hr1 rfl T.g_Ltake T.k_Ltake T.b_Ltake .nil pass0 (pa_cons (pv 0) (pa_cons pe_int pa_nil))) (fun _ _ => rfl)))
      (pss_cons (ps_set (i := 4) sc_Lbent.nd rfl (Or.inl rfl) (pe_call G_Ltake hr1 rfl T.g_Ltake T.k_Ltake T.b_Ltake .nil pass0 (pa_cons (pv 0) (pa_cons pe_int pa_nil))))
      (pss_cons (ps_if (pt_cmpR op_eq (pv 4) pe_int (nomark _))
        (pss_one (ps_ret (pe_op op_add_str (pe_op op_add_str (pe_slice sl_str (pv 1) po_none (po_some (pv 2))) (pv 3)) (pe_slice sl_str (pv 1) (po_some (pv 2)) po_none))))
        pss_nil)
      (pss_cons (ps_if (pt_cmpR op_eq (pv 4) pe_int (nomark _))
        (pss_one (ps_ret (pe_op op_add_str (pe_op op_add_str (pe_slice sl_str (pv 1) po_none (po_some (pv 2))) (pv 3)) (pe_slice sl_str (pv 1) (po_some (pe_op op_add (pv 2) pe_int)) po_none))))
        pss_nil)
      (pss_cons (ps_if (pt_cmpR op_eq (pv 4) pe_int (nomark _))
        (pss_one (ps_ret (pe_op op_add_str (pe_slice sl_str (pv 1) po_none (po_some (pv 2))) (pe_slice sl_str (pv 1) (po_some (pe_op op_add (pv 2) pe_int)) po_none))))
        pss_nil)
      (pss_cons (ps_if (pt_cmpR op_eq (pv 4) pe_int (nomark _))
        (pss_one (ps_ret (pe_slice sl_str (pv 1) po_none (po_some (pv 2)))))
        pss_nil)
      (pss_cons (ps_if (pt_cmpR op_eq (pv 4) pe_int (nomark _))
        (pss_one (ps_ret (pe_op op_add_str (pe_op op_add_str (pv 1) pe_str) (pv 1))))
        pss_nil)
      (pss_one (ps_ret (pv 1))))))))))), ?_⟩
    refine ⟨_, rfl, _, rfl, S x, rfl, xz, _, _, rfl, rfl, ?_⟩
    rw [S_ln]
    refine ⟨p, l, (x.length : Nat) + 1, n, rfl, by omega, by omega, by omega, hP, fun spot H1 _ _ P1 k1 => ?_⟩
    refine ⟨_, rfl, p, l, 8, n + 1, rfl, by decide, by decide, by omega, P1, fun d H2 hd0 hd1 P2 k2 => ?_⟩
    obtain ⟨c, hc⟩ : ∃ c, atI ("01.2 *-\n" : Str).cps.toList d = some c := by
      have : d = 0 ∨ d = 1 ∨ d = 2 ∨ d = 3 ∨ d = 4 ∨ d = 5 ∨ d = 6 ∨ d = 7 := by omega
      rcases this with rfl | rfl | rfl | rfl | rfl | rfl | rfl | rfl <;> exact ⟨_, rfl⟩
    refine ⟨_, d, c, rfl, rfl, by decide, hc, ?_⟩
    refine ⟨_, rfl, p, l, 6, n + 1 + 1, rfl, by decide, by decide, by omega, P2, fun way H3 hw0 hw1 P3 k3 => ?_⟩
    have B3 : But p H H3 := ((But.took k1).trans (But.took k2)).trans (But.took k3)
    have fin : ∀ y, y.length ≤ 981 → Q (.str (S y)) H3 := fun y hy => ret y H3 B3 (P3.mono (by omega)) hy
    obtain ⟨y1, e1, l1⟩ := cutS_S x none (some spot)
    obtain ⟨y2, e2, l2⟩ := cutS_S x (some spot) none
    obtain ⟨y3, e3, l3⟩ := cutS_S x (some (spot + 1)) none
    have lz : ∀ a b : List Nat, a.length + b.length ≤ 1000 → (S a).length + (S b).length ≤ sizeLine := fun a b h => by rw [S_ln, S_ln]; exact Nat.le_trans h (by decide)
    refine ⟨_, rfl, rfl, _, rfl, ite2 (fun _ => ?_) (fun _ => ?_)⟩
    · refine ⟨_, rfl, _, rfl, spot, rfl, S x, rfl, xz, ?_⟩
      rw [e1]
      refine ⟨_, rfl, _, _, rfl, rfl, lz y1 [c] (by show y1.length + 1 ≤ _; omega), ?_⟩
      refine ⟨_, rfl, _, rfl, spot, rfl, S x, rfl, xz, ?_⟩
      rw [e2]
      rw [show S y1 ++ (⟨#[c]⟩ : Str) = S (y1 ++ [c]) from SX.S_cat y1 [c]]
      refine ⟨_, _, rfl, rfl, lz (y1 ++ [c]) y2 (by rw [List.length_append]; show y1.length + 1 + _ ≤ _; omega), ?_⟩
      rw [SX.S_cat]
      refine fin _ ?_
      rw [List.length_append, List.length_append]
      show y1.length + 1 + _ ≤ _
      omega
    refine ⟨_, rfl, rfl, _, rfl, ite2 (fun _ => ?_) (fun _ => ?_)⟩
    · refine ⟨_, rfl, _, rfl, spot, rfl, S x, rfl, xz, ?_⟩
      rw [e1]
      refine ⟨_, rfl, _, _, rfl, rfl, lz y1 [c] (by show y1.length + 1 ≤ _; omega), ?_⟩
      refine ⟨_, rfl, _, rfl, _, _, rfl, rfl, _, rfl, S x, rfl, xz, ?_⟩
      rw [e3]
      rw [show S y1 ++ (⟨#[c]⟩ : Str) = S (y1 ++ [c]) from SX.S_cat y1 [c]]
      refine ⟨_, _, rfl, rfl, lz (y1 ++ [c]) y3 (by rw [List.length_append]; show y1.length + 1 + _ ≤ _; omega), ?_⟩
      rw [SX.S_cat]
      refine fin _ ?_
      rw [List.length_append, List.length_append]
      show y1.length + 1 + _ ≤ _
      omega
    refine ⟨_, rfl, rfl, _, rfl, ite2 (fun _ => ?_) (fun _ => ?_)⟩
    · refine ⟨_, rfl, _, rfl, spot, rfl, S x, rfl, xz, ?_⟩
      rw [e1]
      refine ⟨_, rfl, _, rfl, _, _, rfl, rfl, _, rfl, S x, rfl, xz, ?_⟩
      rw [e3]
      refine ⟨_, _, rfl, rfl, lz y1 y3 (by omega), ?_⟩
      rw [SX.S_cat]
      refine fin _ ?_
      rw [List.length_append]
      omega
    refine ⟨_, rfl, rfl, _, rfl, ite2 (fun _ => ?_) (fun _ => ?_)⟩
    · refine ⟨_, rfl, _, rfl, spot, rfl, S x, rfl, xz, ?_⟩
      rw [e1]
      exact fin _ (by omega)
    refine ⟨_, rfl, rfl, _, rfl, ite2 (fun _ => ?_) (fun _ => ?_)⟩
    · refine ⟨_, rfl, _, _, rfl, rfl, lz x [46] (by show x.length + 1 ≤ _; omega), ?_⟩
      refine ⟨_, rfl, ?_⟩
      rw [show S x ++ (("." : Str)) = S (x ++ [46]) from SX.S_cat x [46]]
      refine ⟨_, _, rfl, rfl, lz (x ++ [46]) x (by rw [List.length_append]; show x.length + 1 + _ ≤ _; omega), ?_⟩
      rw [SX.S_cat]
      refine fin _ ?_
      rw [List.length_append, List.length_append]
      show x.length + 1 + _ ≤ _
      omega
    exact ⟨_, rfl, fin x (by omega)⟩
theorem ok_Ldue (T : TxL K mg z w) : FnOk P wo K mg base CX0 2 w.a_Ldue w.d_Ldue ["_law_text_here"] spDue := by
  refine T.F_Ldue.ok sc_Ldue (fun vs H Q E h => ?_) (fun cdv A outer s H vs Q E hr h => ?_)
  · obtain ⟨x, rfl, _⟩ := h
    rfl
  · obtain ⟨x, rfl, hx, ret⟩ := h
    have xz : (S x).length ≤ sizeLine := by rw [S_ln]; exact Nat.le_trans hx (by decide)
    refine ⟨_, (pss_cons (ps_asg (pe_tup (pa_cons pe_int (pa_cons pe_int (pa_cons pe_int pa_nil)))) (pg_tup rfl (pgs_cons (pg_name (i := 1) sc_Ldue.nd rfl (Or.inl rfl)) (pgs_cons (pg_name (i := 2) sc_Ldue.nd rfl (Or.inl rfl)) (pgs_cons (pg_name (i := 3) sc_Ldue.nd rfl (Or.inl rfl)) pgs_nil)))))
      (pss_cons (ps_for PassesOwn.never rfl (pi_range1 rfl T.n_range (pa_cons (pe_callB call_len_str (by rfl) T.n_len (by decide +kernel) (pa_cons (pv 0) pa_nil)) pa_nil)) (pg_name (i := 4) sc_Ldue.nd rfl (Or.inl rfl))
        (pss_one (ps_if (PW.pt (pw_and (pt_cmpR op_in_seq (pe_ix ix_str (pv 0) (pv 4) (fun _ _ => rfl)) (pe_lst (pa_cons pe_str (pa_cons pe_str pa_nil))) rfl) (pw_and1 (pt_cmpR op_lt (pv 2) pe_int (nomark _)))))
          (pss_cons (ps_set (i := 2) sc_Ldue.nd rfl (Or.inl rfl) (pe_op op_add (pv 2) pe_int))
          (pss_one (ps_set (i := 3) sc_Ldue.nd rfl (Or.inl rfl) (pe_op op_add (pv 3) pe_int))))
          (pss_one (ps_if (PW.pt (pw_and (pt_cmpR op_eq (pe_ix ix_str (pv 0) (pv 4) (fun _ _ => rfl)) pe_str (nomark _)) (pw_and (pt_cmpR op_gt (pv 3) pe_int (nomark _)) (pw_and (pt_cmpR op_lt (pv 1) pe_int (nomark _)) (pw_and1 (pt_cmpR op_lt (pv 2) pe_int (nomark _)))))))
            (pss_cons (ps_set (i := 1) sc_Ldue.nd rfl (Or.inl rfl) (pe_op op_add (pv 1) pe_int))
            (pss_one (ps_set (i := 3) sc_Ldue.nd rfl (Or.inl rfl) pe_int)))
            (pss_one (ps_ret (pv 4))))))))
      (pss_one (ps_ret (pe_ifExp (pt_cmpR op_gt (pv 3) pe_int (nomark _)) pe_non (pe_callB call_len_str (by rfl) T.n_len (by decide +kernel) (pa_cons (pv 0) pa_nil))))))), ?_⟩
    refine ⟨le3, fun q hq => ?_⟩
    have s1 := smN (o := .tup [.int 1, .int 0, .int 0]) (Same.refl H) hq
    refine ⟨q, _, rfl, SqT.of upd_same, rfl, ?_⟩
    refine ⟨_, _, rfl, ?_⟩
    refine ⟨_, _, rfl, ?_⟩
    refine ⟨_, _, rfl, ?_⟩
    refine ⟨rfl, ?_⟩
    refine ⟨_, rfl, S x, rfl, xz, ((x.length : Nat) : Int), by rw [S_ln], by omega, by omega, ?_⟩
    rw [show ((x.length : Nat) : Int).toNat = x.length from rfl]
    refine for_range (n := x.length) (fun i σ H' => Same H H' ∧ ∃ (b k n : Nat) (x4 : Option V), b ≤ 120 ∧ k ≤ 3 ∧ σ = [some (.str (S x)), some (.int (k : Nat)), some (.int (b : Nat)), some (.int (n : Nat)), x4] ∧ pfa (x.drop i) i b k n = pf x) ⟨s1, 0, 1, 0, none, by decide, by decide, rfl, rfl⟩ ?_ ?_
    · rintro i σ H1 hi ⟨s1, b, k, n, x4, hb, hk, rfl, e⟩
      have hc : x[i]? = some x[i] := List.getElem?_eq_getElem hi
      have ed : x.drop i = x[i] :: x.drop (i + 1) := List.drop_eq_getElem_cons hi
      generalize x[i] = c at hc ed
      rw [ed] at e
      have ix : atI (S x).cps.toList (0 + (i : Int)) = some c := by rw [Int.zero_add]; exact atI_nat (j := i) hc
      unfold pfa at e
      refine ⟨_, rfl, _, rfl, S x, _, c, rfl, rfl, xz, ix, by decide, fun t ht => ?_⟩
      have s2 := smN (o := .lst [.str "0", .str "1"]) s1 ht
      refine ⟨t, _, rfl, .inl (SqL.of upd_same), rfl, rfl, _, rfl, ?_⟩
      rw [show V.str ⟨#[c]⟩ = V.str (S [c]) from rfl, inV_s2]
      have out : (pf x = some i) → Q (.int (0 + (i : Int))) (upd H1 t (.lst [.str "0", .str "1"])) := fun h => by
        have q := ret _ s2
        rw [h] at q
        rw [Int.zero_add]
        exact q
      by_cases h1 : c = 48 ∨ c = 49
      · rw [decide_eq_true h1]
        refine ite2 (fun _ => ?_) (fun h => absurd rfl h)
        refine ⟨_, rfl, _, _, rfl, rfl, _, rfl, ?_⟩
        refine ite2 (fun h2 => ?_) (fun h2 => ?_)
        · have h3 : b < 120 := by have := of_decide_eq_true h2; omega
          rw [if_neg (by omega), if_neg (by omega)] at e
          refine ⟨_, rfl, _, _, rfl, rfl, ?_⟩
          refine ⟨_, rfl, _, _, rfl, rfl, ?_⟩
          exact ⟨s2, b + 1, k, n + 1, _, by omega, hk, rfl, e⟩
        · have h3 : b = 120 := by have := of_decide_eq_false (by simpa using h2 : decide ((b : Int) < 120) = false); omega
          rw [if_pos (.inr h3)] at e
          refine ⟨_, rfl, _, rfl, S x, _, c, rfl, rfl, xz, ix, rfl, _, rfl, ?_⟩
          refine ite2 (fun h4 => ?_) (fun h4 => ?_)
          · exfalso
            have := of_decide_eq_true h4
            rw [S_d] at this
            have : c = 46 := by simpa using S_eq.mp this
            omega
          · exact ⟨_, rfl, out e.symm⟩
      · rw [decide_eq_false h1]
        refine ite2 (fun h => absurd h (by decide)) (fun _ => ?_)
        refine ⟨_, rfl, _, rfl, S x, _, c, rfl, rfl, xz, ix, rfl, _, rfl, ?_⟩
        refine ite2 (fun h4 => ?_) (fun h4 => ?_)
        · have h5 : c = 46 := by
            have := of_decide_eq_true h4
            rw [S_d] at this
            simpa using S_eq.mp this
          refine ⟨_, rfl, _, _, rfl, rfl, _, rfl, ?_⟩
          refine ite2 (fun h6 => ?_) (fun h6 => ?_)
          · have h7 : 0 < n := by have := of_decide_eq_true h6; omega
            refine ⟨_, rfl, _, _, rfl, rfl, _, rfl, ?_⟩
            refine ite2 (fun h8 => ?_) (fun h8 => ?_)
            · have h9 : k < 3 := by have := of_decide_eq_true h8; omega
              refine ⟨_, rfl, _, _, rfl, rfl, _, rfl, ?_⟩
              refine ite2 (fun h2 => ?_) (fun h2 => ?_)
              · have h3 : b < 120 := by have := of_decide_eq_true h2; omega
                rw [if_neg (by omega), if_pos h5, if_neg (by omega)] at e
                refine ⟨_, rfl, _, _, rfl, rfl, ?_⟩
                exact ⟨s2, b, k + 1, 0, _, hb, by omega, rfl, e⟩
              · have h3 : b = 120 := by have := of_decide_eq_false (by simpa using h2 : decide ((b : Int) < 120) = false); omega
                rw [if_pos (.inr h3)] at e
                exact ⟨_, rfl, out e.symm⟩
            · have h9 : k = 3 := by have := of_decide_eq_false (by simpa using h8 : decide ((k : Int) < 3) = false); omega
              by_cases h3 : b = 120
              · rw [if_pos (.inr h3)] at e
                exact ⟨_, rfl, out e.symm⟩
              · rw [if_neg (by omega), if_pos h5, if_pos (.inr h9)] at e
                exact ⟨_, rfl, out e.symm⟩
          · have h7 : n = 0 := by have := of_decide_eq_false (by simpa using h6 : decide ((0 : Int) < n) = false); omega
            by_cases h3 : b = 120
            · rw [if_pos (.inr h3)] at e
              exact ⟨_, rfl, out e.symm⟩
            · rw [if_neg (by omega), if_pos h5, if_pos (.inl h7)] at e
              exact ⟨_, rfl, out e.symm⟩
        · have h5 : ¬ c = 46 := fun z => h4 (by rw [show (⟨#[c]⟩ : Str) = S [c] from rfl, z, S_d] <;> exact decide_eq_true rfl)
          rw [if_pos (.inl (by omega))] at e
          exact ⟨_, rfl, out e.symm⟩
    · rintro σ H1 ⟨s1, b, k, n, x4, hb, hk, rfl, e⟩
      rw [List.drop_length] at e
      unfold pfa at e
      refine ⟨_, rfl, _, _, rfl, rfl, _, rfl, ?_⟩
      refine ite2 (fun h6 => ?_) (fun h6 => ?_)
      · have h7 : 0 < n := by have := of_decide_eq_true h6; omega
        rw [if_neg (by omega)] at e
        have q := ret _ s1
        rw [← e] at q
        exact q
      · have h7 : n = 0 := by have := of_decide_eq_false (by simpa using h6 : decide ((0 : Int) < n) = false); omega
        rw [if_pos h7] at e
        refine ⟨_, rfl, S x, rfl, xz, ?_⟩
        rw [S_ln]
        have q := ret _ s1
        rw [← e] at q
        exact q
end
end Fb
set_option maxRecDepth 100000
set_option maxHeartbeats 4000000
namespace Fb
open PySem PySem.Spec PyProof.Rows L2
open SX (S)
theorem lenJ : ∀ bs : List (List Nat), (TL.joinL [46] bs).length ≤ (bs.map List.length).sum + bs.length
  | [] => by simp [TL.joinL]
  | [b] => by simp [TL.joinL]
  | b :: d :: r => by
    have h := lenJ (d :: r)
    have e : TL.joinL [46] (b :: d :: r) = b ++ ([46] ++ TL.joinL [46] (d :: r)) := rfl
    rw [e, List.length_append, List.length_append, List.map_cons, List.sum_cons, List.length_cons (as := d :: r)]
    simp only [List.length_cons, List.length_nil] at *
    omega
theorem take_sum {b : Nat} {ss : List Nat} (h : ∀ s ∈ ss, s ≤ b) (i : Nat) : (ss.take i).sum ≤ i * b := by
  have h1 := bsum (b := b) (ss := ss.take i) fun s hs => h s (List.mem_of_mem_take hs)
  have h2 : (ss.take i).length ≤ i := by rw [List.length_take]; omega
  exact Nat.le_trans h1 (Nat.mul_le_mul_right b h2)
section
variable {P : Program} {wo : World} {K : PySem.W.Frag} {mg : Str → Option Value} {base : Heap} {z : Pz} {w : Lz}
theorem ok_Ltext (T : TxL K mg z w) : FnOk P wo K mg base CX0 3 w.a_Ltext w.d_Ltext ["_law_pen_here"] spText := by
  refine T.F_Ltext.ok sc_Ltext (fun vs H Q E h => ?_) (fun cdv A outer s H vs Q E hr h => ?_)
  · obtain ⟨p, l, n, rfl, _⟩ := h
    rfl
  · obtain ⟨p, l, n, rfl, hn, hP, ret⟩ := h
    have hr1 : Room 2 _ := hr
    have G_Ltake : FnOk P wo K mg base CX0 2 w.a_Ltake w.d_Ltake ["_law_pen_here", "_law_many"] spTake := ok_take T.F_Ltake T.pp
    refine ⟨_, (pss_cons (ps_set (i := 1) sc_Ltext.nd rfl (Or.inl rfl) (pe_op op_add pe_int (pe_call G_Ltake hr1 rfl T.g_Ltake T.k_Ltake T.b_Ltake .nil pass0 (pa_cons (pv 0) (pa_cons pe_int pa_nil)))))
      (pss_cons (ps_set (i := 2) sc_Ltext.nd rfl (Or.inl rfl) (pe_lst pa_nil))
      (pss_cons (ps_for PassesOwn.never rfl (pi_range1 rfl T.n_range (pa_cons (pe_callB (call_min2 rfl) (by rfl) T.n_min (by decide +kernel) (pa_cons (pe_callTy call_int1 (by rfl) T.n_int (by decide +kernel) (pa_cons (pv 1) pa_nil)) (pa_cons (pe_callTy call_int1 (by rfl) T.n_int (by decide +kernel) (pa_cons (pe_op op_add pe_int (pe_call G_Ltake hr1 rfl T.g_Ltake T.k_Ltake T.b_Ltake .nil pass0 (pa_cons (pv 0) (pa_cons pe_int pa_nil)))) pa_nil)) pa_nil))) pa_nil)) (pg_name (i := 3) sc_Ltext.nd rfl (Or.inl rfl))
        (pss_one (ps_expr (pe_bm PySem.F.plainAttrs_list PySem.F.slot_list_append PySem.F.type_list_append mt_append (pv 2) (pa_cons (pe_op op_add pe_int (pe_ix ix_list (pe_lst (pa_cons (pe_call G_Ltake hr1 rfl T.g_Ltake T.k_Ltake T.b_Ltake .nil pass0 (pa_cons (pv 0) (pa_cons pe_int pa_nil))) (pa_cons (pe_call G_Ltake hr1 rfl T.g_Ltake T.k_Ltake T.b_Ltake .nil pass0 (pa_cons (pv 0) (pa_cons pe_int pa_nil))) (pa_cons (pe_call G_Ltake hr1 rfl T.g_Ltake T.k_Ltake T.b_Ltake .nil pass0 (pa_cons (pv 0) (pa_cons pe_int pa_nil))) pa_nil)))) (pe_call G_Ltake hr1 rfl T.g_Ltake T.k_Ltake T.b_Ltake .nil pass0 (pa_cons (pv 0) (pa_cons pe_int pa_nil))) (fun _ _ => rfl))) pa_nil)))))
      (pss_cons (ps_if (pt_cmpR op_eq (pe_call G_Ltake hr1 rfl T.g_Ltake T.k_Ltake T.b_Ltake .nil pass0 (pa_cons (pv 0) (pa_cons pe_int pa_nil))) pe_int (nomark _))
        (pss_one (ps_asg (pe_callB (call_max2 rfl) (by rfl) T.n_max (by decide +kernel) (pa_cons pe_int (pa_cons (pe_callTy call_int1 (by rfl) T.n_int (by decide +kernel) (pa_cons (pe_op op_sub (pe_op op_sub (pe_op op_add pe_int (pe_call G_Ltake hr1 rfl T.g_Ltake T.k_Ltake T.b_Ltake .nil pass0 (pa_cons (pv 0) (pa_cons pe_int pa_nil)))) pe_int) (pe_callB (cr_sum rfl) (by rfl) T.n_sum (by decide +kernel) (pa_cons (pe_slice sl_list (pv 2) po_none (po_some (pe_un un_neg pe_int))) pa_nil))) pa_nil)) pa_nil))) (pg_sub (pv 2) (pe_op op_sub (pe_callB call_len_seq (by rfl) T.n_len (by decide +kernel) (pa_cons (pv 2) pa_nil)) pe_int) set_list)))
        pss_nil)
      (pss_one (ps_ret (pe_joinK (K := K) rfl pe_str (pa_cons (by refine' pe_lc (own := [("_law_size", 4)]) (tt := tYes) rfl sc_Ltext.nd ?hi (blkOk_by (N := ["_law_pen_here", "_law_many", "_law_sizes", "_law_k", "_law_size", "_law_bit"]) (sc := defScope s_Ltext) (by first | decide +kernel | kernel_rfl | rfl)) ?hg ?ht ?he (by intro _; rfl); (case hi => exact (pi_list (pv 2))); (case hg => exact fun _ _ _ _ _ => (pg_name (i := 4) sc_Ltext.nd rfl (Or.inl rfl))); (case ht => exact fun _ _ _ _ _ => pts_nil); (case he => exact fun _ _ _ _ _ => (pe_joinK (K := K) rfl pe_str (pa_cons (by refine' pe_lc (own := [("_law_bit", 5)]) (tt := tYes) rfl sc_Ltext.nd ?hi (blkOk_by (N := ["_law_pen_here", "_law_many", "_law_sizes", "_law_k", "_law_size", "_law_bit"]) (by first | decide +kernel | kernel_rfl | rfl)) ?hg ?ht ?he (by intro _; rfl); (case hi => exact (pi_range1 rfl T.n_range (pa_cons (pv 4) pa_nil))); (case hg => exact fun _ _ _ _ _ => (pg_name (i := 5) sc_Ltext.nd rfl (Or.inl rfl))); (case ht => exact fun _ _ _ _ _ => pts_nil); (case he => exact fun _ _ _ _ _ => (pe_ix ix_str pe_str (pe_call G_Ltake hr1 rfl T.g_Ltake T.k_Ltake T.b_Ltake .nil pass0 (pa_cons (pv 0) (pa_cons pe_int pa_nil))) (fun _ _ => rfl)))) pa_nil)))) pa_nil)))))))), ?_⟩
    refine ⟨_, rfl, p, l, 4, n, rfl, by decide, by decide, by omega, hP, fun d H1 hd0 hd1 P1 k1 => ?_⟩
    have B1 : But p H H1 := But.took k1
    refine ⟨1, d, rfl, rfl, ?_⟩
    refine ⟨by show 0 ≤ sizeLine; decide, fun q hq => ?_⟩
    have nqp := P1.nep hq
    have nql := P1.nel hq
    have Hq : H q = none := by
      cases e : H q with
      | none => rfl
      | some o =>
        have := B1 q o (Ne.symm nqp) e
        rw [hq] at this
        cases this
    refine ⟨_, rfl, .inl ⟨_, rfl, ?_⟩⟩
    refine ⟨_, rfl, p, l, 2, n + 1, rfl, by decide, by decide, by omega, P1.new hq, fun d2 H2 he0 he1 P2 k2 => ?_⟩
    have B2 := (B1.new (o := .lst []) hq).trans (But.took k2)
    refine ⟨3, d2, rfl, rfl, .inl ⟨_, rfl, 1 + d, 3 + d2, rfl, ?_⟩⟩
    obtain ⟨N, eN, hN1, hN4⟩ : ∃ N : Nat, (if 3 + d2 < 1 + d then 3 + d2 else 1 + d) = (N : Int) ∧ 1 ≤ N ∧ N ≤ 4 := by
      refine ⟨(if 3 + d2 < 1 + d then 3 + d2 else 1 + d).toNat, ?_, ?_, ?_⟩ <;> split <;> omega
    refine ⟨(N : Int), congrArg (fun x => [V.int x]) eN, by omega, by omega, ?_⟩
    rw [show ((N : Nat) : Int).toNat = N from rfl]
    refine for_range (n := N) (fun i σ H' => ∃ (ss : List Nat) (x3 x4 x5 : Option V), σ = [some (.ref p), some (.int (1 + d)), some (.ref q), x3, x4, x5] ∧ ss.length = i ∧ (∀ s ∈ ss, 1 ≤ s ∧ s ≤ 60) ∧ But p H H' ∧ PenL H' p l (n + 2 + 4 * i) ∧ H' q = some (.lst (nums ss)))
      ⟨[], none, none, none, rfl, rfl, (fun s hs => by simp at hs), B2, P2, by rw [k2 q (Ne.symm nqp)]; exact upd_same⟩ ?_ ?_
    · rintro i σ H3 hi ⟨ss, x3, x4, x5, rfl, e1, hs, B3, P3, hq3⟩
      refine ⟨_, rfl, .inl ⟨rfl, _, SqL.of hq3⟩, ?_⟩
      refine ⟨_, rfl, p, l, 3, n + 2 + 4 * i, rfl, by decide, by decide, by omega, P3, fun a1 H4 ha0 ha1 P4 k4 => ?_⟩
      refine ⟨_, rfl, p, l, 20, n + 2 + 4 * i + 1, rfl, by decide, by decide, by omega, P4, fun b1 H5 hb0 hb1 P5 k5 => ?_⟩
      refine ⟨_, rfl, p, l, 60, n + 2 + 4 * i + 2, rfl, by decide, by decide, by omega, P5, fun c1 H6 hc0 hc1 P6 k6 => ?_⟩
      refine ⟨by show 3 ≤ sizeLine; decide, fun t ht => ?_⟩
      have ntp := P6.nep ht
      refine ⟨_, rfl, p, l, 3, n + 2 + 4 * i + 3, rfl, by decide, by decide, by omega, P6.new ht, fun e H7 he0 he1 P7 k7 => ?_⟩
      obtain ⟨v, hv, ev⟩ : ∃ v : Nat, v < 60 ∧ atI [V.int a1, V.int b1, V.int c1] e = some (.int (v : Nat)) := by
        have : e = 0 ∨ e = 1 ∨ e = 2 := by omega
        rcases this with rfl | rfl | rfl
        · exact ⟨a1.toNat, by omega, by rw [Int.toNat_of_nonneg ha0] <;> rfl⟩
        · exact ⟨b1.toNat, by omega, by rw [Int.toNat_of_nonneg hb0] <;> rfl⟩
        · exact ⟨c1.toNat, by omega, by rw [Int.toNat_of_nonneg hc0] <;> rfl⟩
      refine ⟨t, _, e, _, rfl, rfl, SqL.of (by rw [k7 t (Ne.symm ntp)]; exact upd_same), ev, ?_⟩
      have B7 : But p H3 H7 := ((((But.took k4).trans (But.took k5)).trans (But.took k6)).new ht).trans (But.took k7)
      have hq7 := B7 q _ (Ne.symm nqp) hq3
      refine ⟨_, _, rfl, rfl, q, nums ss, _, rfl, rfl, hq7, by unfold nums; rw [List.length_map, e1]; exact small1 _ (by omega), ?_⟩
      have e5 : nums ss ++ [V.int (1 + (v : Int))] = nums (ss ++ [1 + v]) := by
        unfold nums
        rw [List.map_append]
        simp
      rw [e5]
      refine ⟨ss ++ [1 + v], _, _, _, rfl, by rw [List.length_append, e1] <;> rfl, fun s h => ?_, (B3.trans B7).put Hq, (P7.mono (by omega)).put nqp nql, upd_same⟩
      rcases List.mem_append.mp h with h | h
      · exact hs s h
      · have := List.mem_singleton.mp h
        omega
    · rintro σ H3 ⟨ss, x3, x4, x5, rfl, e1, hs, B3, P3, hq3⟩
      refine ⟨_, rfl, p, l, 3, n + 2 + 4 * N, rfl, by decide, by decide, by omega, P3, fun e H4 he0 he1 P4 k4 => ⟨rfl, _, rfl, ?_⟩⟩
      have B4 : But p H H4 := B3.trans (But.took k4)
      have hq4 : H4 q = some (.lst (nums ss)) := by rw [k4 q (Ne.symm nqp)]; exact hq3
      refine ite2 (fun _ => ?_) (fun _ => ?_)
      · refine ⟨_, rfl, p, l, 3, n + 2 + 4 * N + 1, rfl, by decide, by decide, by omega, P4, fun t H5 ht0 ht1 P5 k5 => ?_⟩
        have B5 : But p H H5 := B4.trans (But.took k5)
        have hq5 : H5 q = some (.lst (nums ss)) := by rw [k5 q (Ne.symm nqp)]; exact hq4
        refine ⟨_, _, rfl, rfl, _, _, rfl, rfl, ?_⟩
        refine ⟨_, rfl, _, rfl, _, rfl, q, _, rfl, SqL.of hq5, fun c hc => ?_⟩
        obtain ⟨rr, er⟩ := nums_cut ss none (some (-1))
        obtain ⟨m, em⟩ := sum_ints (ss := rr)
        have ncp := P5.nep hc
        have B6 := B5.new (o := .lst (cutV (nums ss) none (some (-1)))) hc
        have P6 := P5.new (o := .lst (cutV (nums ss) none (some (-1)))) hc
        have hq6 := smN (o := .lst (cutV (nums ss) none (some (-1)))) (Same.refl H5) hc _ _ hq5
        refine ⟨c, rr.map fun s : Nat => (s : Int), rfl, SqL.of (by rw [upd_same, er, List.map_map] <;> rfl), ?_⟩
        rw [em]
        refine ⟨_, _, rfl, rfl, .inl ⟨_, rfl, _, _, rfl, ?_⟩⟩
        obtain ⟨v, ev, hv1, hv2⟩ : ∃ v : Nat, (if 120 + t - 1 - (m : Int) > 1 then 120 + t - 1 - (m : Int) else 1) = (v : Int) ∧ 1 ≤ v ∧ v ≤ 121 := by
          refine ⟨(if 120 + t - 1 - (m : Int) > 1 then 120 + t - 1 - (m : Int) else 1).toNat, ?_, ?_, ?_⟩ <;> split <;> omega
        have ln : (nums ss).length = N := by unfold nums; rw [List.length_map, e1]
        refine ⟨_, rfl, _, rfl, q, nums ss, rfl, .inl (SqL.of hq6), _, _, rfl, rfl, q, nums ss, _, N - 1, rfl, rfl, hq6, ?_, ?_⟩
        · rw [ln]
          unfold ixN
          rw [if_pos (by omega), if_pos (by omega)]
          congr 1
          omega
        have eset : (nums ss).set (N - 1) (V.int (if 120 + t - 1 - (m : Int) > 1 then 120 + t - 1 - (m : Int) else 1)) = nums (ss.set (N - 1) v) := by
          rw [ev]
          unfold nums
          rw [List.map_set]
        have hq7 : (upd (upd H5 c (.lst (cutV (nums ss) none (some (-1))))) q (.lst ((nums ss).set (N - 1) (V.int (if 120 + t - 1 - (m : Int) > 1 then 120 + t - 1 - (m : Int) else 1))))) q = some (.lst (nums (ss.set (N - 1) v))) := by rw [upd_same, eset]
        have B7 := B6.put (o := .lst ((nums ss).set (N - 1) (V.int (if 120 + t - 1 - (m : Int) > 1 then 120 + t - 1 - (m : Int) else 1)))) Hq
        have P7 := P6.put (o := .lst ((nums ss).set (N - 1) (V.int (if 120 + t - 1 - (m : Int) > 1 then 120 + t - 1 - (m : Int) else 1)))) nqp nql
        generalize upd (upd H5 c (.lst (cutV (nums ss) none (some (-1))))) q (.lst ((nums ss).set (N - 1) (V.int (if 120 + t - 1 - (m : Int) > 1 then 120 + t - 1 - (m : Int) else 1)))) = H7 at hq7 B7 P7 ⊢
        obtain ⟨sf, esf⟩ : ∃ sf, ss.set (N - 1) v = sf := ⟨_, rfl⟩
        have e7 : sf.length = N := by rw [← esf, List.length_set, e1]
        have hs7 : ∀ s ∈ sf, 1 ≤ s ∧ s ≤ 121 := fun s h => by
          rw [← esf] at h
          rcases List.mem_or_eq_of_mem_set h with h | h
          · exact ⟨(hs s h).1, by have := (hs s h).2; omega⟩
          · omega
        rw [esf] at hq7
        refine ⟨rfl, ?_⟩
        refine ⟨_, rfl, q, rfl, ⟨_, SqL.of hq7⟩, fun D hD => ?_⟩
        have nDp := (P7).nep hD
        have nDl := (P7).nel hD
        have HD : H7 D = none := hD
        have sums : ∀ i, (sf.take i).sum ≤ i * 121 := fun i => take_sum (fun s h => (hs7 s h).2) i
        have len := e7
        refine lc_list (K := K) (a := q) (xs := nums sf) (fun i H' => ∃ bs : List (List Nat), bs.map List.length = sf.take i ∧ (∀ b ∈ bs, ∀ c ∈ b, c = 48 ∨ c = 49) ∧ But p H7 H' ∧ PenL H' p l ((n + 2 + 4 * N + 2) + (sf.take i).sum) ∧ H' D = some (.lst ((bs.map S).map V.str)))
          ⟨[], rfl, (fun b hb => by simp at hb), But.refl.new hD, by simpa using P7.put nDp nDl, upd_same⟩ (fun i H2 _ h2 => ?_) (fun i x H2 e h2 => ?_) (fun H2 h2 => ?_)
        · obtain ⟨bs, _, _, B2, _⟩ := h2
          exact SqL.of (B2 q _ (Ne.symm nqp) hq7)
        · obtain ⟨bs, e1, hb, B2, P2, hD2⟩ := h2
          unfold nums at e
          rw [List.getElem?_map] at e
          cases es : sf[i]? with
          | none => rw [es] at e; cases e
          | some s =>
            rw [es] at e
            cases e
            have hi : i < sf.length := (List.getElem?_eq_some_iff.mp es).1
            have hsb := hs7 s (List.mem_of_getElem? es)
            have e2 : sf.take (i + 1) = sf.take i ++ [s] := by rw [List.take_add_one, es] <;> rfl
            have sb := sums i
            refine ⟨rfl, yes1 ?_⟩
            refine ⟨rfl, ?_⟩
            refine ⟨_, rfl, (s : Int), rfl, by omega, by omega, fun D2 hD3 => ?_⟩
            have nD2p := P2.nep hD3
            have nD2l := P2.nel hD3
            have nDD : D ≠ D2 := ne_of_none hD2 hD3
            rw [show ((s : Int)).toNat = s from rfl]
            refine lc_range (fun j H' => ∃ b : List Nat, b.length = j ∧ (∀ c ∈ b, c = 48 ∨ c = 49) ∧ But p H2 H' ∧ PenL H' p l ((n + 2 + 4 * N + 2) + (sf.take i).sum + j) ∧ H' D2 = some (.lst ((b.map fun c => S [c]).map V.str))) ⟨[], rfl, (fun c hc => by simp at hc), But.refl.new hD3, P2.put nD2p nD2l, upd_same⟩ (fun j H3 hj h3 => ?_) (fun H3 h3 => ?_)
            · obtain ⟨b, b1, b2, B3, P3, hb3⟩ := h3
              refine ⟨rfl, yes1 ?_⟩
              refine ⟨_, rfl, p, l, 2, (n + 2 + 4 * N + 2) + (sf.take i).sum + j, rfl, by decide, by decide, by omega, P3, fun d H7 hd0 hd1 P7 k4 => ?_⟩
              have hd : d = 0 ∨ d = 1 := by omega
              have fin : ∀ c : Nat, (c = 48 ∨ c = 49) → ∃ b' : List Nat, b'.length = j + 1 ∧ (∀ c ∈ b', c = 48 ∨ c = 49) ∧ But p H2 (upd H7 D2 (.lst ((b.map fun c => S [c]).map V.str ++ [.str (S [c])]))) ∧ PenL (upd H7 D2 (.lst ((b.map fun c => S [c]).map V.str ++ [.str (S [c])]))) p l ((n + 2 + 4 * N + 2) + (sf.take i).sum + (j + 1)) ∧ (upd H7 D2 (.lst ((b.map fun c => S [c]).map V.str ++ [.str (S [c])]))) D2 = some (.lst ((b'.map fun c => S [c]).map V.str)) := fun c hc =>
                ⟨b ++ [c], by rw [List.length_append, b1] <;> rfl, (fun x hx => by rcases List.mem_append.mp hx with h | h; exact b2 x h; exact (List.mem_singleton.mp h) ▸ hc), (B3.trans (But.took k4)).put hD3, (P7.mono (by omega)).put nD2p nD2l, by rw [upd_same, List.map_append, List.map_append] <;> rfl⟩
              have acc : H7 D2 = some (.lst ((b.map fun c => S [c]).map V.str)) := by rw [k4 D2 (Ne.symm nD2p)]; exact hb3
              have len : ((b.map fun c => S [c]).map V.str).length < sizeLine := by rw [List.length_map, List.length_map, b1]; exact small1 _ (by omega)
              rcases hd with rfl | rfl
              · exact ⟨"01", 0, 48, rfl, rfl, by decide, by decide +kernel, _, acc, len, fin 48 (.inl rfl)⟩
              · exact ⟨"01", 1, 49, rfl, rfl, by decide, by decide +kernel, _, acc, len, fin 49 (.inr rfl)⟩
            · obtain ⟨b, b1, b2, B3, P3, hb3⟩ := h3
              refine ⟨"", D2, b.map fun c => S [c], rfl, rfl, .inl (SqL.of hb3), ?_, ?_⟩
              · rw [List.map_map, sum_signs, List.length_map, b1]
                show _ + _ * 0 ≤ _
                omega
              · rw [join_signs]
                refine ⟨_, B3 D _ (Ne.symm nDp) hD2, ?_, ?_⟩
                · have := congrArg List.length e1
                  rw [List.length_map, List.length_take] at this
                  rw [List.length_map, List.length_map, this]
                  exact small1 _ (by omega)
                · refine ⟨bs ++ [b], by rw [List.map_append, e1, e2] <;> simp [b1], fun x hx => ?_, (B2.trans B3).put hD, ?_, by rw [upd_same, List.map_append, List.map_append] <;> rfl⟩
                  · rcases List.mem_append.mp hx with h | h
                    · exact hb x h
                    · exact (List.mem_singleton.mp h) ▸ b2
                  · rw [e2, List.sum_append]
                    exact (P3.mono (by simp; omega)).put nDp nDl
        · obtain ⟨bs, e1, hb, B2, P2, hD2⟩ := h2
          have en : (nums sf).length = sf.length := by unfold nums; rw [List.length_map]
          rw [en, List.take_length] at e1 P2
          have st := sums sf.length
          rw [List.take_length] at st
          have lb : bs.length = sf.length := by rw [← e1, List.length_map]
          have sl : ((bs.map S).map fun w => w.length).sum = sf.sum := by rw [SX.lens, e1]
          refine ⟨".", D, bs.map S, rfl, rfl, .inl (SqL.of hD2), ?_, ?_⟩
          · rw [sl, List.length_map, lb]
            show _ + _ * 1 ≤ _
            omega
          · rw [S_d, SX.join_S]
            refine ret _ _ (B7.trans B2) (P2.mono (by omega)) ?_
            have := lenJ bs
            rw [e1] at this
            omega
      · have hs4 : ∀ s ∈ ss, 1 ≤ s ∧ s ≤ 121 := fun s h => ⟨(hs s h).1, by have := (hs s h).2; omega⟩
        refine ⟨rfl, ?_⟩
        refine ⟨_, rfl, q, rfl, ⟨_, SqL.of hq4⟩, fun D hD => ?_⟩
        have nDp := (P4).nep hD
        have nDl := (P4).nel hD
        have HD : H4 D = none := hD
        have sums : ∀ i, (ss.take i).sum ≤ i * 121 := fun i => take_sum (fun s h => (hs4 s h).2) i
        have len := e1
        refine lc_list (K := K) (a := q) (xs := nums ss) (fun i H' => ∃ bs : List (List Nat), bs.map List.length = ss.take i ∧ (∀ b ∈ bs, ∀ c ∈ b, c = 48 ∨ c = 49) ∧ But p H4 H' ∧ PenL H' p l ((n + 2 + 4 * N + 1) + (ss.take i).sum) ∧ H' D = some (.lst ((bs.map S).map V.str)))
          ⟨[], rfl, (fun b hb => by simp at hb), But.refl.new hD, by simpa using P4.put nDp nDl, upd_same⟩ (fun i H2 _ h2 => ?_) (fun i x H2 e h2 => ?_) (fun H2 h2 => ?_)
        · obtain ⟨bs, _, _, B2, _⟩ := h2
          exact SqL.of (B2 q _ (Ne.symm nqp) hq4)
        · obtain ⟨bs, e1, hb, B2, P2, hD2⟩ := h2
          unfold nums at e
          rw [List.getElem?_map] at e
          cases es : ss[i]? with
          | none => rw [es] at e; cases e
          | some s =>
            rw [es] at e
            cases e
            have hi : i < ss.length := (List.getElem?_eq_some_iff.mp es).1
            have hsb := hs4 s (List.mem_of_getElem? es)
            have e2 : ss.take (i + 1) = ss.take i ++ [s] := by rw [List.take_add_one, es] <;> rfl
            have sb := sums i
            refine ⟨rfl, yes1 ?_⟩
            refine ⟨rfl, ?_⟩
            refine ⟨_, rfl, (s : Int), rfl, by omega, by omega, fun D2 hD3 => ?_⟩
            have nD2p := P2.nep hD3
            have nD2l := P2.nel hD3
            have nDD : D ≠ D2 := ne_of_none hD2 hD3
            rw [show ((s : Int)).toNat = s from rfl]
            refine lc_range (fun j H' => ∃ b : List Nat, b.length = j ∧ (∀ c ∈ b, c = 48 ∨ c = 49) ∧ But p H2 H' ∧ PenL H' p l ((n + 2 + 4 * N + 1) + (ss.take i).sum + j) ∧ H' D2 = some (.lst ((b.map fun c => S [c]).map V.str))) ⟨[], rfl, (fun c hc => by simp at hc), But.refl.new hD3, P2.put nD2p nD2l, upd_same⟩ (fun j H3 hj h3 => ?_) (fun H3 h3 => ?_)
            · obtain ⟨b, b1, b2, B3, P3, hb3⟩ := h3
              refine ⟨rfl, yes1 ?_⟩
              refine ⟨_, rfl, p, l, 2, (n + 2 + 4 * N + 1) + (ss.take i).sum + j, rfl, by decide, by decide, by omega, P3, fun d H4 hd0 hd1 P4 k4 => ?_⟩
              have hd : d = 0 ∨ d = 1 := by omega
              have fin : ∀ c : Nat, (c = 48 ∨ c = 49) → ∃ b' : List Nat, b'.length = j + 1 ∧ (∀ c ∈ b', c = 48 ∨ c = 49) ∧ But p H2 (upd H4 D2 (.lst ((b.map fun c => S [c]).map V.str ++ [.str (S [c])]))) ∧ PenL (upd H4 D2 (.lst ((b.map fun c => S [c]).map V.str ++ [.str (S [c])]))) p l ((n + 2 + 4 * N + 1) + (ss.take i).sum + (j + 1)) ∧ (upd H4 D2 (.lst ((b.map fun c => S [c]).map V.str ++ [.str (S [c])]))) D2 = some (.lst ((b'.map fun c => S [c]).map V.str)) := fun c hc =>
                ⟨b ++ [c], by rw [List.length_append, b1] <;> rfl, (fun x hx => by rcases List.mem_append.mp hx with h | h; exact b2 x h; exact (List.mem_singleton.mp h) ▸ hc), (B3.trans (But.took k4)).put hD3, (P4.mono (by omega)).put nD2p nD2l, by rw [upd_same, List.map_append, List.map_append] <;> rfl⟩
              have acc : H4 D2 = some (.lst ((b.map fun c => S [c]).map V.str)) := by rw [k4 D2 (Ne.symm nD2p)]; exact hb3
              have len : ((b.map fun c => S [c]).map V.str).length < sizeLine := by rw [List.length_map, List.length_map, b1]; exact small1 _ (by omega)
              rcases hd with rfl | rfl
              · exact ⟨"01", 0, 48, rfl, rfl, by decide, by decide +kernel, _, acc, len, fin 48 (.inl rfl)⟩
              · exact ⟨"01", 1, 49, rfl, rfl, by decide, by decide +kernel, _, acc, len, fin 49 (.inr rfl)⟩
            · obtain ⟨b, b1, b2, B3, P3, hb3⟩ := h3
              refine ⟨"", D2, b.map fun c => S [c], rfl, rfl, .inl (SqL.of hb3), ?_, ?_⟩
              · rw [List.map_map, sum_signs, List.length_map, b1]
                show _ + _ * 0 ≤ _
                omega
              · rw [join_signs]
                refine ⟨_, B3 D _ (Ne.symm nDp) hD2, ?_, ?_⟩
                · have := congrArg List.length e1
                  rw [List.length_map, List.length_take] at this
                  rw [List.length_map, List.length_map, this]
                  exact small1 _ (by omega)
                · refine ⟨bs ++ [b], by rw [List.map_append, e1, e2] <;> simp [b1], fun x hx => ?_, (B2.trans B3).put hD, ?_, by rw [upd_same, List.map_append, List.map_append] <;> rfl⟩
                  · rcases List.mem_append.mp hx with h | h
                    · exact hb x h
                    · exact (List.mem_singleton.mp h) ▸ b2
                  · rw [e2, List.sum_append]
                    exact (P3.mono (by simp; omega)).put nDp nDl
        · obtain ⟨bs, e1, hb, B2, P2, hD2⟩ := h2
          have en : (nums ss).length = ss.length := by unfold nums; rw [List.length_map]
          rw [en, List.take_length] at e1 P2
          have st := sums ss.length
          rw [List.take_length] at st
          have lb : bs.length = ss.length := by rw [← e1, List.length_map]
          have sl : ((bs.map S).map fun w => w.length).sum = ss.sum := by rw [SX.lens, e1]
          refine ⟨".", D, bs.map S, rfl, rfl, .inl (SqL.of hD2), ?_, ?_⟩
          · rw [sl, List.length_map, lb]
            show _ + _ * 1 ≤ _
            omega
          · rw [S_d, SX.join_S]
            refine ret _ _ (B4.trans B2) (P2.mono (by omega)) ?_
            have := lenJ bs
            rw [e1] at this
            omega
end
end Fb
set_option maxRecDepth 100000
set_option maxHeartbeats 4000000
namespace Fb
open PySem PySem.Spec PyProof.Rows L2
open SX (S)
theorem XF.exm {K : PySem.W.Frag} {mg : Str → Option Value} {fe C : Addr} {x : Str} (T : XF K mg fe x C) (hc : (PySem.W.clsIn K fe).isSome = true) (ht : PySem.W.typeIn K (.ref fe) = some (.type "type")) (hs : PySem.W.subIn K (.ref fe) (.type "BaseException") = some true) : PySem.W.exmOne K (.ref C) (.ref fe) = some true := by
  unfold PySem.W.exmOne
  rw [hs, if_pos (by simp)]
  unfold PySem.W.kitCls
  have e2 : ((PySem.W.clsIn K fe).isSome && PySem.W.typeIn K (.ref fe) == some (.type "type")) = true := by
    rw [hc, ht] <;> rfl
  show (if ((PySem.W.clsIn K fe).isSome && PySem.W.typeIn K (.ref fe) == some (.type "type")) = true then PySem.W.subIn K (.ref C) (.ref fe) else none) = _
  rw [if_pos e2]
  show PySem.W.mroIn K C (.ref fe) = _
  rw [T.mro]
  simp
/-- what a law's own caller makes of a lambda: its value in a list, or the field of the error -/
def TTc (z : Pz) : (XK → Hp → VK → Prop) → Hp → VK → Prop := fun tl H Q =>
  tl (fun cls d H' => ∃ (dd : Addr) (k : Nat), cls = .ref z.cNoPattern ∧ d = some dd ∧ H' dd = some (.xd [("at", .int (k : Nat))]) ∧ ∀ a', H' a' = none → Q (.int (k : Nat)) (upd H' a' (ExR cls d a')))
    H (fun v H1 => ∀ p, H1 p = none → Q (.ref p) (upd H1 p (.lst [v])))
theorem pe_weak {X : Cx} {e : Expr} {te : TE} (h : PE X e te) : PE X e (fun σ H Q => ∃ Q' : VK, te σ H Q' ∧ ∀ v H1, Q' v H1 → Q v H1) :=
  ⟨fun pins s σ H Q I ⟨Q', h1, h2⟩ => wpAny_mono (h.run pins s σ H Q' I h1) (fun u s1 ⟨v, H1, I1, r, q⟩ => ⟨v, H1, I1, r, h2 _ _ q⟩) fun _ _ z => z⟩
section
variable {z : Pz} {w : Lz}
theorem ok_Lcalled {X : Cx} {q : Str} {cdv : Value} (T : TxL X.K X.mg z w) : LamX.GivesTo X ["_law_ask", "_law_caught", "_law_found", "e"] "_law_called" (defScope s_Lcalled) w.a_Lcalled cdv (defBody s_Lcalled) "_law_ask" q (TTc z) := by
  intro f c' s H Q tl act hc h
  refine ⟨_, (pss_cons (ps_set (i := 1) sc_Lcalled.nd rfl (Or.inl rfl) pe_non)
    (pss_cons (ps_set (i := 2) sc_Lcalled.nd rfl (Or.inl rfl) pe_non)
    (pss_cons (ps_try_hold (i := 3) (j := 1) (tb := fun W D σ H => ∃ (Ech : XK) (Q' : VK), (∀ cls d σ' H', Ech cls d H' → W cls d σ' H') ∧ σ[0]? = some (some (.ref f)) ∧ H c' = some (LamX.CodeO c' q) ∧ tl Ech H Q' ∧ ∀ v H1, Q' v H1 → gName 2 v σ H1 D.nx)
      rfl rfl rfl sc_Lcalled.nd rfl rfl rfl rfl ⟨rfl, by decide, .inl T.xFallenError⟩ LamX.takes0 rfl rfl (fun W pn xe tk _ => ?_))
    (pss_len (pss_cons (ps_if (pt_cmpR op_isN (pv 1) pe_non (nomark _)) (pss_one (ps_ret (pe_lst (pa_cons (pv 2) pa_nil)))) pss_nil)
    (pss_one (ps_ret (pe_ifExp (pt_val (pe_callB call_isQ (by rfl) T.n_isinstance boot_isinstance (pa_cons (pv 1) (pa_cons (pe_glob (v := .ref z.cNoPattern) rfl T.xNoPattern.g rfl) pa_nil)))) (pe_xar (pv 1)) pe_str)))))))), ?_⟩
  · refine ⟨fun pins s' σ H' D I h' => ?_⟩
    obtain ⟨Ech, Q', hW, h1, h2, h3, h4⟩ := h'
    refine PSs.run (pss_one (ps_set (i := 2) sc_Lcalled.nd rfl (Or.inl rfl) (pe_weak (act W pn xe Ech _ _ tk hW)))) pins s' σ H' D I ⟨Q', ⟨h1, h2, h3⟩, h4⟩
  · refine ⟨_, _, fun cls d σ' H' hE => ?_, rfl, hc, h, fun v H1 q _ => ?_⟩
    · obtain ⟨dd, k, rfl, rfl, hd, ret⟩ := hE
      refine ⟨true, T.xNoPattern.exm T.clF T.tyF T.sbF, fun _ a ha len => ?_, fun z => nomatch z⟩
      obtain ⟨a0, a1, a2, a3, rfl⟩ : ∃ a0 a1 a2 a3, σ' = [a0, a1, a2, a3] := by
        have l4 : σ'.length = 4 := by
          have e : ((([] : List Nat).length + 4) : Nat) = 4 := rfl
          rw [List.length_set, List.length_set, List.length_set] at len
          exact len
        match σ', l4 with
        | [a0, a1, a2, a3], _ => exact ⟨a0, a1, a2, a3, rfl⟩
      have nd : dd ≠ a := ne_of_none hd ha
      have xr : XR (upd H' a (ExR (.ref z.cNoPattern) (some dd) a)) a z.cNoPattern [("at", .int (k : Nat))] := ⟨dd, upd_same, by rw [upd_ne nd]; exact hd⟩
      refine ⟨_, rfl, rfl, _, rfl, ?_⟩
      rw [decide_eq_false (fun z => nomatch z)]
      refine iteF ?_
      refine ⟨_, rfl, a, z.cNoPattern, _, _, _, true, rfl, T.xNoPattern.xc, T.xb, xr, .own z.cNoPattern, by unfold PySem.W.kitOne; simp, _, rfl, ?_⟩
      refine iteT ?_
      exact ⟨_, rfl, a, z.cNoPattern, _, _, rfl, T.xNoPattern.xc, T.nNP, xr, rfl, ret a ha⟩
    · refine ⟨_, rfl, rfl, _, rfl, ?_⟩
      rw [decide_eq_true rfl]
      refine iteT ?_
      exact ⟨_, rfl, by show 1 ≤ sizeLine; decide, fun p hp => q p hp⟩
end
end Fb
set_option maxRecDepth 100000
set_option maxHeartbeats 4000000
namespace Fb
open PySem PySem.Spec PyProof.Rows L2
open SX (S)
def rSP (C : Addr) : List V → Hp → VK → Prop := fun xs H Q => ∃ a l, xs = [.ref a] ∧ PtI C H a l ∧ Q (.str (S l)) H
theorem call_strP {X : Cx} {z : Pz} (T : Txp X.K X.mg z) (hr : Room 6 X.A) : CallR X (.type "str") (rSP z.C) := fun pins s σ H xs us Q I r h => by
  obtain ⟨a, l, rfl, ha, q⟩ := h
  obtain ⟨hp, dx, t, h1, h2⟩ := id ha
  exact call_strI (E := fun _ _ _ => False) T.m_str T.f_str ((ok_str T).raw T.b_str .nil) (hr.mono (by decide)) pass0 pins s σ H [.ref a] us Q I r ⟨a, dx, _, rfl, h1, a, l, rfl, ha, _, rfl, q⟩
theorem pat_new {C : Addr} {H1 H' : Hp} {x dx t : Addr} {l : List Nat} (hp : IsP l) (hx : H1 x = none) (hd : H1 dx = none) (keep : ∀ b o, b ≠ x → (upd (upd H1 dx (.own x)) x (.ins C dx [])) b = some o → H' b = some o) (ha : H' x = some (.ins C dx (ptF l t))) (ht : H' t = some (.tup (nums (szs l)))) :
    Same H1 H' ∧ PtI C H' x l := by
  refine ⟨fun b o e => keep b o (ne_of_none e hx) ?_, hp, dx, t, ha, ht⟩
  rw [upd_ne (ne_of_none e hx), upd_ne (ne_of_none e hd)]
  exact e
theorem strOk_S {l : List Nat} (h : Sg l) : PyData.strOk (S l) = true := by
  unfold PyData.strOk
  simp only [S, List.all_toArray, List.all_eq_true, decide_eq_true_eq]
  intro c hc
  have := h c hc
  omega
theorem shaped_str1 {l : List Nat} (h : Sg l) : SeqAt.shaped (.list [.str (S l)]) = true := by
  unfold SeqAt.shaped
  simp [PyData.canLay0, PyData.canLayAll0, PyData.depth, PyData.depthAll, strOk_S h]
theorem shaped_str2 {l : List Nat} (h : Sg l) : SeqAt.shaped (.list [.list [.str (S l)]]) = true := by
  unfold SeqAt.shaped
  simp [PyData.canLay0, PyData.canLayAll0, PyData.depth, PyData.depthAll, strOk_S h]
theorem pfa_le : ∀ (l : List Nat) (a b k n : Nat) {m : Nat}, pfa l a b k n = some m → m ≤ a + l.length
  | [], a, b, k, n, m, h => by
    unfold pfa at h
    split at h
    · cases h; simp
    · cases h
  | c :: l, a, b, k, n, m, h => by
    unfold pfa at h
    rw [List.length_cons]
    split at h
    · cases h; omega
    · split at h
      · split at h
        · cases h; omega
        · have := pfa_le l _ _ _ _ h; omega
      · have := pfa_le l _ _ _ _ h; omega
theorem log_small {k : Nat} (h : k ≤ 1000) : ((k : Int)).natAbs.log2 < 1920 := by
  show k.log2 < 1920
  by_cases e : k = 0
  · subst e; decide
  · rw [Nat.log2_lt e]
    exact Nat.lt_of_le_of_lt h (Nat.lt_of_lt_of_le (show 1000 < 2 ^ 10 by decide) (Nat.pow_le_pow_right (by decide) (by decide)))
theorem eqv_str1 (x : Str) : PyData.eqv (.list [.str x]) (.list [.str x]) = true := by simp [PyData.eqv, PyData.eqvAll]
theorem eqv_str2 (x : Str) : PyData.eqv (.list [.list [.str x]]) (.list [.list [.str x]]) = true := by simp [PyData.eqv, PyData.eqvAll]
def qRight : Str := "_law_right" ++ ".<locals>." ++ "<lambda>"
def spRight (Tb : List (Addr × Str)) : Sp := fun vs H Q _ => ∃ l, vs = [.str (S l)] ∧ l.length ≤ 1000 ∧ LamX.Tabs Tb H ∧ ∀ H', LamX.ExtN H H' → LamX.Tabs Tb H' → Q (.bl true) H'
section
variable {P : Program} {wo : World} {K : PySem.W.Frag} {mg : Str → Option Value} {base : Heap} {z : Pz} {w : Lz}
theorem ok_Lright {Tb : List (Addr × Str)} {cR PR : Addr} {oc kV doc pm ct : Value} {od an : Option Addr} {osl : Array (Option Value)} (T : TxL K mg z w)
    (lk : K.lookup w.a_Lright = some ⟨oc, od, .func (PySem.W.fnOf "_law_right" "_law_right" (defArgs s_Lright) (defBody s_Lright) (defScope s_Lright) .none kV doc pm an (.ref cR) ct), osl⟩) (hcd : PySem.W.codeIn K (.ref cR) "_law_right" = true)
    (TB : LamX.TabB base mg cR PR) (hmT : (PR, qRight) ∈ Tb) (hu : ∀ p ∈ Tb, p.1 = PR → p.2 = qRight) :
    FnOk P wo K mg base CX0 9 w.a_Lright (PySem.W.fnOf "_law_right" "_law_right" (defArgs s_Lright) (defBody s_Lright) (defScope s_Lright) .none kV doc pm an (.ref cR) ct) ["_law_text_here"] (spRight Tb) := by
  obtain ⟨ocC, odC, kVC, docC, pmC, anC, cdC, ctC, oslC, efC, lkC, hcC⟩ := T.F_Lcalled.ex
  have bC := T.b_Lcalled
  rw [efC] at lkC bC
  refine okC lk hcd sc_Lright (fun {vs H Q E} h => ?_) (fun {A outer s H vs Q E} hr h => ?_)
  · obtain ⟨l, rfl, _⟩ := h
    rfl
  · obtain ⟨l, rfl, hl, hT, ret⟩ := h
    have hr7 : Room 8 _ := hr
    have hr2 : Room 3 _ := hr.mono (by decide)
    have hr1 : Room 2 _ := hr.mono (by decide)
    have hu64 : (A.deeper (envOfC "_law_right" (defScope s_Lright) s.heap.objs.size w.a_Lright (.ref cR))).units + 64 < cLine := hr.units
    have G_Ldue : FnOk P wo K mg base CX0 2 w.a_Ldue w.d_Ldue ["_law_text_here"] spDue := ok_Ldue T
    have G_init : FnOk P wo K mg base (L2.CX P wo) 5 z.a_init z.d_init ["self", "text"] (spInitX K z.C z.cNoPattern) := ok_initX T.toTxp
    have G_box : FnOk P wo K mg base (L2.CX P wo) 6 z.a_box z.d_box ["one", "other"] (spBox K z.cNoPattern) := ok_box T.toTxp
    refine ⟨_, (pss_cons (ps_set (i := 1) sc_Lright.nd rfl (Or.inl rfl) (pe_call G_Ldue hr1 rfl T.g_Ldue T.k_Ldue T.b_Ldue .nil pass0 (pa_cons (pv 0) pa_nil)))
      (pss_cons (ps_set (i := 2) sc_Lright.nd rfl (Or.inl rfl)
        (LamX.pe_lamcall (T := Tb) (TT := TTc z) (k := 6) rfl T.g_Lcalled T.k_Lcalled lkC hcC bC sc_Lcalled rfl (Or.inl rfl) (ok_Lcalled (cdv := cdC) T) TB rfl hmT hu hr7 (LamX.lamS_by (by first | decide +kernel | kernel_rfl | rfl)) rfl (fun _ _ _ _ _ => rfl)
          (fun A outer s H E f c' hr => (pe_callTy (call_strP T.toTxp hr) (by rfl) T.n_str (by decide +kernel) (pa_cons (pe_make T.mkP G_init (hr.mono (by decide)) rfl T.g_Pattern T.b_init .nil (passes_call (takes_of rfl rfl rfl rfl) (fun _ _ _ _ h => h)) (pa_cons (pv 0) pa_nil)) pa_nil)))))
      (pss_cons (ps_set (i := 3) sc_Lright.nd rfl (Or.inl rfl)
        (LamX.pe_lamcall (T := Tb) (TT := TTc z) (k := 6) rfl T.g_Lcalled T.k_Lcalled lkC hcC bC sc_Lcalled rfl (Or.inl rfl) (ok_Lcalled (cdv := cdC) T) TB rfl hmT hu hr7 (LamX.lamS_by (by first | decide +kernel | kernel_rfl | rfl)) rfl (fun _ _ _ _ _ => rfl)
          (fun A outer s H E f c' hr => (pe_call G_box hr rfl T.g_box T.k_box T.b_box .nil (passes_call (takes_of rfl rfl rfl rfl) (fun _ _ _ _ h => h)) (pa_cons (pv 0) (pa_cons (pv 0) pa_nil))))))
      (pss_cons (ps_if (pt_cmpR op_ne (pe_smeth (pe_glob (v := .ref z.C) rfl T.g_Pattern rfl) T.crP T.smP ((ok_isp T.toTxp).raw T.b_isp .nil) hr2 pass0 (pa_cons (pv 0) pa_nil)) (pe_cmpR op_isN (pv 1) pe_non (nomark _)) (nomark _))
        (pss_one (ps_ret pe_bl))
        pss_nil)
      (pss_cons (ps_if (pt_cmpR op_isN (pv 1) pe_non (nomark _))
        (pss_one (ps_ret (pe_and (pe_cmpR (op_eqD hu64) (pv 2) (pe_lst (pa_cons (pv 0) pa_nil)) (nomark _)) (pe_one (pe_cmpR (op_eqD hu64) (pv 3) (pe_lst (pa_cons (pe_lst (pa_cons (pv 0) pa_nil)) pa_nil)) (nomark _))))))
        pss_nil)
      (pss_one (ps_ret (pe_and (pe_cmpR op_eq (pe_callB SkE.call_repr_int (by rfl) T.n_repr (by decide +kernel) (pa_cons (pv 2) pa_nil)) (pe_callB SkE.call_repr_int (by rfl) T.n_repr (by decide +kernel) (pa_cons (pv 1) pa_nil)) (nomark _)) (pe_one (pe_cmpR op_eq (pe_callB SkE.call_repr_int (by rfl) T.n_repr (by decide +kernel) (pa_cons (pv 3) pa_nil)) (pe_callB SkE.call_repr_int (by rfl) T.n_repr (by decide +kernel) (pa_cons (pv 1) pa_nil)) (nomark _))))))))))), ?_⟩
    have hl2 : l.length ≤ sizeLine := Nat.le_trans hl (by decide)
    refine ⟨_, rfl, l, rfl, hl, fun H1 s1 => ?_⟩
    have x1 : LamX.ExtN H H1 := .of s1
    refine ⟨hT.ext s1, fun H2 x2 T2 => ?_⟩
    cases ep : pf l with
    | none =>
      have hp : IsP l := isP_pf ep
      have flt : ∀ H : Hp, Flt K H (.str (S l)) none := fun H => .inl ⟨l, rfl, hl, ep.symm⟩
      refine ⟨_, rfl, fun pa dx n1 d1 e1 => ⟨pa, dx, .str (S l), none, rfl, flt _, upd_same, (fun k ek => nomatch ek), fun _ => ⟨l, rfl, fun tt H3 k3 i3 u3 => ⟨rfl, ?_⟩⟩⟩⟩
      obtain ⟨s3, ha3⟩ := pat_new hp n1 d1 k3 i3 u3
      refine ⟨pa, l, rfl, ha3, fun p hp0 => ?_⟩
      have s4 : Same H2 (upd H3 p (.lst [.str (S l)])) := smN s3 hp0
      have m4 : (upd H3 p (.lst [.str (S l)])) p = some (.lst [.str (S l)]) := upd_same
      refine ⟨T2.ext s4, fun H5 x5 T5 => ?_⟩
      have m5 := x5 p _ m4 (fun ps q => nomatch q)
      refine ⟨_, rfl, _, rfl, .str (S l), .str (S l), none, none, rfl, flt _, flt _, (fun k ek => nomatch ek), fun _ => ⟨l, rfl, rfl, fun b H6 s6 nb hb => fun b2 hb2 => ?_⟩⟩
      have s7 : Same H5 (upd H6 b2 (.lst [.ref b])) := smN s6 hb2
      have hb7 := smN (o := .lst [.ref b]) (Same.refl H6) hb2 _ _ hb
      refine ⟨rfl, _, rfl, .str (S l), none, rfl, flt _, fun H8 s8 => ?_⟩
      refine ⟨_, rfl, rfl, rfl, ?_⟩
      refine ⟨_, rfl, ite2 (fun h => by simp [optI] at h) (fun _ => ?_)⟩
      refine ⟨_, rfl, rfl, _, rfl, ?_⟩
      rw [decide_eq_true (show optI none = .non from rfl)]
      refine iteT ?_
      have s9 : Same H5 H8 := s7.trans s8
      have m8 := s9 _ _ m5
      have hb8 := s8 _ _ hb7
      have b28 := s8 _ _ (show (upd H6 b2 (.lst [.ref b])) b2 = some (.lst [.ref b]) from upd_same)
      refine ⟨_, rfl, _, rfl, by show 1 ≤ sizeLine; decide, fun q hq => ?_⟩
      have s10 := smN (o := .lst [.str (S l)]) (Same.refl H8) hq
      refine ⟨_, _, .lst (SqL.of (s10 _ _ m8)) (.cons (.str _) .nil), .lst (SqL.of upd_same) (.cons (.str _) .nil), shaped_str1 hp.sg, shaped_str1 hp.sg, ?_⟩
      rw [eqv_str1]
      refine ⟨true, rfl, iteT ?_⟩
      refine ⟨_, rfl, _, rfl, by show 1 ≤ sizeLine; decide, fun q2 hq2 => ⟨by show 1 ≤ sizeLine; decide, fun q3 hq3 => ?_⟩⟩
      have s11 := smN (o := .lst [.str (S l)]) (Same.refl _) hq2
      have s12 := smN (o := .lst [.ref q2]) (Same.refl _) hq3
      have s13 := (s10.trans s11).trans s12
      refine ⟨_, _, .lst (SqL.of (s13 _ _ b28)) (.cons (.lst (SqL.of (s13 _ _ hb8)) (.cons (.str _) .nil)) .nil), .lst (SqL.of upd_same) (.cons (.lst (SqL.of (s12 _ _ upd_same)) (.cons (.str _) .nil)) .nil), shaped_str2 hp.sg, shaped_str2 hp.sg, ?_⟩
      rw [eqv_str2]
      exact ret _ (((x1.trans x2).trans (.of s4)).trans (x5.trans (.of (s9.trans s13)))) (T5.ext (s9.trans s13))
    | some k =>
      have flt : ∀ H : Hp, Flt K H (.str (S l)) (some k) := fun H => .inl ⟨l, rfl, hl, ep.symm⟩
      refine ⟨_, rfl, fun pa dx n1 d1 e1 => ⟨pa, dx, .str (S l), some k, rfl, flt _, upd_same, (fun k' ek d H3 s3 hd => ?_), fun e => nomatch e⟩⟩
      cases ek
      refine ⟨d, k, rfl, rfl, hd, fun a1 h1 => ?_⟩
      have s4 : Same H2 (upd H3 a1 (ExR (.ref z.cNoPattern) (some d) a1)) := smN ((fun b o e => s3 b o (by rw [upd_ne (ne_of_none e n1), upd_ne (ne_of_none e d1)]; exact e)) : Same H2 H3) h1
      refine ⟨T2.ext s4, fun H5 x5 T5 => ?_⟩
      refine ⟨_, rfl, _, rfl, .str (S l), .str (S l), some k, some k, rfl, flt _, flt _, (fun k' ek d2 H6 s6 hd2 => ?_), fun e => nomatch e⟩
      cases ek
      refine ⟨d2, k, rfl, rfl, hd2, fun a2 h2 => ?_⟩
      have s7 : Same H5 (upd H6 a2 (ExR (.ref z.cNoPattern) (some d2) a2)) := smN s6 h2
      refine ⟨rfl, _, rfl, .str (S l), some k, rfl, flt _, fun H8 s8 => ?_⟩
      refine ⟨_, rfl, rfl, rfl, ?_⟩
      refine ⟨_, rfl, ite2 (fun h => by simp [optI] at h) (fun _ => ?_)⟩
      refine ⟨_, rfl, rfl, _, rfl, ?_⟩
      rw [decide_eq_false (show ¬ optI (some k) = .non from fun z => nomatch z)]
      refine iteF ?_
      have kz : ((k : Int)).natAbs.log2 < 1920 := log_small (by have := pfa_le l 0 0 1 0 ep; omega)
      refine ⟨_, rfl, _, rfl, kz, ?_⟩
      refine ⟨_, rfl, _, rfl, kz, rfl, ?_⟩
      rw [decide_eq_true rfl]
      refine ⟨true, rfl, iteT ?_⟩
      refine ⟨_, rfl, _, rfl, kz, ?_⟩
      refine ⟨_, rfl, _, rfl, kz, rfl, ?_⟩
      rw [decide_eq_true rfl]
      exact ret _ (((x1.trans x2).trans (.of s4)).trans (x5.trans (.of (s7.trans s8)))) (T5.ext (s7.trans s8))
end
end Fb
set_option maxRecDepth 100000
set_option maxHeartbeats 4000000
namespace Fb
open PySem PySem.Spec PyProof.Rows L2
open SX (S)
def qLaw : Str := "law" ++ ".<locals>." ++ "<lambda>"
def spLaw (K : PySem.W.Frag) (Tb : List (Addr × Str)) : Sp := fun vs H Q _ => ∃ (a : Addr) (ns : List Int), vs = [.ref a] ∧ SqL K H a (ns.map V.int) ∧ ns.length ≤ 63 ∧ LamX.Tabs Tb H ∧ ∀ H', Q (.bl true) H'
theorem tabs_but {Tb : List (Addr × Str)} {H H' : Hp} {p l : Addr} {n : Nat} (t : LamX.Tabs Tb H) (hP : PenL H p l n) (b : But p H H') : LamX.Tabs Tb H' := by
  intro x hx
  obtain ⟨cs, a, r, f, e, _⟩ := hP
  obtain ⟨ps, h1, h2, h3⟩ := t x hx
  refine ⟨ps, b _ _ (fun z => ?_) h1, h2, fun pos cv hc => ?_⟩
  · rw [z, e] at h1; cases h1
  · obtain ⟨c, e1, e2⟩ := h3 pos cv hc
    refine ⟨c, e1, b _ _ (fun z => ?_) e2⟩
    rw [z, e] at e2
    unfold LamX.CodeO at e2
    cases e2
theorem tyOf_ext {K : PySem.W.Frag} {H H' : Hp} (s : LamX.ExtN H H') {x : V} {t : Value} (h : TyOf K H x t) : TyOf K H' x t := by
  cases h with
  | non => exact .non
  | bl x => exact .bl x
  | int i => exact .int i
  | str x => exact .str x
  | flt x => exact .flt x
  | lst e => exact .lst (s _ _ e (fun ps q => nomatch q))
  | frz e => exact .frz (s _ _ e (fun ps q => nomatch q))
  | tup e => exact .tup (s _ _ e (fun ps q => nomatch q))
  | dK e => exact .dK (s _ _ e (fun ps q => nomatch q))
  | dT e => exact .dT (s _ _ e (fun ps q => nomatch q))
  | ins e cl ha hn ht hm => exact .ins (s _ _ e (fun ps q => nomatch q)) cl ha hn ht hm
/-- no text, by a plain type -/
def Odd (K : PySem.W.Frag) (H : Hp) (x : V) : Prop := ∃ t, TyOf K H x t ∧ PySem.W.kitOne K t (.type "str") = some false
theorem Odd.flt {K : PySem.W.Frag} {H : Hp} {x : V} (h : Odd K H x) : Flt K H x (some 0) := by
  obtain ⟨t, h1, h2⟩ := h
  exact .inr ⟨t, .base h1, h2, rfl⟩
theorem Odd.ext {K : PySem.W.Frag} {H H' : Hp} {x : V} (s : LamX.ExtN H H') (h : Odd K H x) : Odd K H' x := by
  obtain ⟨t, h1, h2⟩ := h
  exact ⟨t, tyOf_ext s h1, h2⟩
section
variable {P : Program} {wo : World} {K : PySem.W.Frag} {mg : Str → Option Value} {base : Heap} {z : Pz} {w : Lz}
theorem ok_law {Tb : List (Addr × Str)} {cL PL f : Addr} {oc kV doc pm ct : Value} {od an : Option Addr} {osl : Array (Option Value)} (T : TxL K mg z w)
    (lk : K.lookup f = some ⟨oc, od, .func (PySem.W.fnOf "law" "law" (defArgs s_law) (defBody s_law) (defScope s_law) .none kV doc pm an (.ref cL) ct), osl⟩) (hcd : PySem.W.codeIn K (.ref cL) "law" = true)
    (TB : LamX.TabB base mg cL PL) (hmT : (PL, qLaw) ∈ Tb) (hu : ∀ p ∈ Tb, p.1 = PL → p.2 = qLaw) (G_Lright : FnOk P wo K mg base CX0 9 w.a_Lright w.d_Lright ["_law_text_here"] (spRight Tb)) :
    FnOk P wo K mg base CX0 10 f (PySem.W.fnOf "law" "law" (defArgs s_law) (defBody s_law) (defScope s_law) .none kV doc pm an (.ref cL) ct) ["_law_script"] (spLaw K Tb) := by
  obtain ⟨ocC, odC, kVC, docC, pmC, anC, cdC, ctC, oslC, efC, lkC, hcC⟩ := T.F_Lcalled.ex
  have bC := T.b_Lcalled
  rw [efC] at lkC bC
  refine okC lk hcd sc_law (fun {vs H Q E} h => ?_) (fun {A outer s H vs Q E} hr h => ?_)
  · obtain ⟨a, ns, rfl, _⟩ := h
    rfl
  · obtain ⟨a, ns, rfl, hS, hlen, hT, kk⟩ := h
    have hr8 : Room 9 _ := hr
    have hr7 : Room 8 _ := hr.mono (by decide)
    have hr2 : Room 3 _ := hr.mono (by decide)
    have hr1 : Room 2 _ := hr.mono (by decide)
    have G_Lpen : FnOk P wo K mg base CX0 2 w.a_Lpen w.d_Lpen ["_law_script"] (spPen K) := ok_pen T.F_Lpen T.pp
    have G_Ltake : FnOk P wo K mg base CX0 2 w.a_Ltake w.d_Ltake ["_law_pen_here", "_law_many"] spTake := ok_take T.F_Ltake T.pp
    have G_Ltext : FnOk P wo K mg base CX0 3 w.a_Ltext w.d_Ltext ["_law_pen_here"] spText := ok_Ltext T
    have G_Lbent : FnOk P wo K mg base CX0 3 w.a_Lbent w.d_Lbent ["_law_pen_here", "_law_text_here"] spBent := ok_Lbent T
    have G_init : FnOk P wo K mg base (L2.CX P wo) 5 z.a_init z.d_init ["self", "text"] (spInitX K z.C z.cNoPattern) := ok_initX T.toTxp
    have G_box : FnOk P wo K mg base (L2.CX P wo) 6 z.a_box z.d_box ["one", "other"] (spBox K z.cNoPattern) := ok_box T.toTxp
    refine ⟨_, (pss_cons (ps_set (i := 1) sc_law.nd rfl (Or.inl rfl) (pe_call G_Lpen hr1 rfl T.g_Lpen T.k_Lpen T.b_Lpen .nil pass0 (pa_cons (pv 0) pa_nil)))
      (pss_cons (ps_for PassesOwn.never rfl (pi_range1 rfl T.n_range (pa_cons pe_int pa_nil)) (pg_name (i := 2) sc_law.nd rfl (Or.inl rfl))
        (pss_cons (ps_set (i := 3) sc_law.nd rfl (Or.inl rfl) (pe_call G_Ltext hr2 rfl T.g_Ltext T.k_Ltext T.b_Ltext .nil pass0 (pa_cons (pv 1) pa_nil)))
        (pss_cons (ps_if (PW.pt (pw_or (pt_not (pt_val (pe_call G_Lright hr8 rfl T.g_Lright T.k_Lright T.b_Lright .nil pass0 (pa_cons (pv 3) pa_nil)))) (pw_or1 (pt_not (pt_val (pe_call G_Lright hr8 rfl T.g_Lright T.k_Lright T.b_Lright .nil pass0 (pa_cons (pe_call G_Lbent hr2 rfl T.g_Lbent T.k_Lbent T.b_Lbent .nil pass0 (pa_cons (pv 1) (pa_cons (pv 3) pa_nil))) pa_nil)))))))
          (pss_one (ps_ret pe_bl))
          pss_nil)
        (pss_cons (ps_set (i := 4) sc_law.nd rfl (Or.inr rfl) (pe_ix ix_list (pe_lst (pa_cons pe_non (pa_cons pe_int (pa_cons pe_int (pa_cons pe_bl (pa_cons (pe_lst (pa_cons (pv 3) pa_nil)) (pa_cons (pe_tup (pa_cons (pv 3) pa_nil)) (pa_cons pe_dnewK (pa_cons (pe_tup (pa_cons pe_str (pa_cons pe_str pa_nil))) pa_nil))))))))) (pe_call G_Ltake hr1 rfl T.g_Ltake T.k_Ltake T.b_Ltake .nil pass0 (pa_cons (pv 1) (pa_cons pe_int pa_nil))) (fun _ _ => rfl)))
        (pss_cons (ps_if (PW.pt (pw_or (pt_val (pe_smeth (pe_glob (v := .ref z.C) rfl T.g_Pattern rfl) T.crP T.smP ((ok_isp T.toTxp).raw T.b_isp .nil) hr2 pass0 (pa_cons (pv 4) pa_nil))) (pw_or1 (pt_cmpR op_ne (pe_callB SkE.call_repr_int (by rfl) T.n_repr (by decide +kernel) (pa_cons (LamX.pe_lamcall (T := Tb) (TT := TTc z) (k := 6) rfl T.g_Lcalled T.k_Lcalled lkC hcC bC sc_Lcalled rfl (Or.inl rfl) (ok_Lcalled (cdv := cdC) T) TB rfl hmT hu hr7 (LamX.lamS_by (by first | decide +kernel | kernel_rfl | rfl)) rfl (fun _ _ _ _ _ => rfl) (fun A outer s H E f c' hr => (pe_make T.mkP G_init (hr.mono (by decide)) rfl T.g_Pattern T.b_init .nil (passes_call (takes_of rfl rfl rfl rfl) (fun _ _ _ _ h => h)) (pa_cons (pv 4) pa_nil)))) pa_nil)) pe_str (nomark _)))))
          (pss_one (ps_ret pe_bl))
          pss_nil)
        (pss_one (ps_if (pt_cmpR op_ne (pe_callB SkE.call_repr_int (by rfl) T.n_repr (by decide +kernel) (pa_cons (LamX.pe_lamcall (T := Tb) (TT := TTc z) (k := 6) rfl T.g_Lcalled T.k_Lcalled lkC hcC bC sc_Lcalled rfl (Or.inl rfl) (ok_Lcalled (cdv := cdC) T) TB rfl hmT hu hr7 (LamX.lamS_by (by first | decide +kernel | kernel_rfl | rfl)) rfl (fun _ _ _ _ _ => rfl) (fun A outer s H E f c' hr => (pe_call G_box hr rfl T.g_box T.k_box T.b_box .nil (passes_call (takes_of rfl rfl rfl rfl) (fun _ _ _ _ h => h)) (pa_cons pe_str (pa_cons (pv 4) pa_nil))))) pa_nil)) pe_str (nomark _))
          (pss_one (ps_ret pe_bl))
          pss_nil)))))))
      (pss_one (ps_ret (pe_and (pe_call G_Lright hr8 rfl T.g_Lright T.k_Lright T.b_Lright .nil pass0 (pa_cons pe_str pa_nil)) (pe_and (pe_call G_Lright hr8 rfl T.g_Lright T.k_Lright T.b_Lright .nil pass0 (pa_cons pe_str pa_nil)) (pe_and (pe_call G_Lright hr8 rfl T.g_Lright T.k_Lright T.b_Lright .nil pass0 (pa_cons pe_str pa_nil)) (pe_one (pe_call G_Lright hr8 rfl T.g_Lright T.k_Lright T.b_Lright .nil pass0 (pa_cons pe_str pa_nil)))))))))), ?_⟩
    refine ⟨_, rfl, a, ns, rfl, hS, hlen, fun p l H1 hp1 hl1 s1 P1 => ?_⟩
    refine ⟨8, rfl, by decide, by decide, for_range (n := 8) (fun i σ H' => PenL H' p l (600 * i) ∧ LamX.Tabs Tb H' ∧ ∃ x2 x3 x4 : Option V, σ = [some (.ref a), some (.ref p), x2, x3, x4])
      ⟨P1, hT.ext s1, none, none, none, rfl⟩ ?_ ?_⟩
    · rintro i σ H2 hi ⟨P2, T2, x2, x3, x4, rfl⟩
      refine ⟨_, rfl, p, l, 600 * i, rfl, by omega, P2, fun x H3 B3 P3 lx => ?_⟩
      have T3 := tabs_but T2 P2 B3
      refine ⟨_, rfl, x, rfl, by omega, T3, fun H4 x4 T4 => ⟨true, rfl, ?_⟩⟩
      have P4 := ExtN.pen x4 P3
      refine iteF ?_
      refine ⟨_, rfl, _, rfl, p, l, _, x, rfl, by omega, P4, lx, fun y H5 B5 P5 ly => ?_⟩
      have T5 := tabs_but T4 P4 B5
      refine ⟨y, rfl, by omega, T5, fun H6 x6 T6 => ⟨true, rfl, ?_⟩⟩
      have P6 := (ExtN.pen x6 P5).mono (show 600 * i + 520 + 3 ≤ 600 * i + 523 by omega)
      refine iteF ?_
      refine ⟨_, rfl, by show 1 ≤ sizeLine; decide, fun a5 h5 => ?_⟩
      refine ⟨_, rfl, by show 1 ≤ sizeLine; decide, fun a6 h6 => ?_⟩
      refine fun a7 h7 => ?_
      refine ⟨by show 2 ≤ sizeLine; decide, fun a8 h8 => ?_⟩
      refine ⟨by show 8 ≤ sizeLine; decide, fun a9 h9 => ?_⟩
      have np5 := P6.nep h5
      have P7 := P6.new (o := .lst [.str (S x)]) h5
      have t7 := T6.ext (smN (o := .lst [.str (S x)]) (Same.refl _) h5)
      have m5 : (upd H6 a5 (.lst [.str (S x)])) a5 = some (.lst [.str (S x)]) := upd_same
      generalize upd H6 a5 (.lst [.str (S x)]) = H7 at *
      have np6 := P7.nep h6
      have s8 := smN (o := .tup [.str (S x)]) (Same.refl _) h6
      have P8 := P7.new (o := .tup [.str (S x)]) h6
      have m6 : (upd H7 a6 (.tup [.str (S x)])) a6 = some (.tup [.str (S x)]) := upd_same
      have t8 := t7.ext s8
      have m5 := s8 _ _ m5
      generalize upd H7 a6 (.tup [.str (S x)]) = H8 at *
      have np7 := P8.nep h7
      have s9 := smN (o := .dK []) (Same.refl _) h7
      have P9 := P8.new (o := .dK []) h7
      have m7 : (upd H8 a7 (.dK [])) a7 = some (.dK []) := upd_same
      have t9 := t8.ext s9
      have m5 := s9 _ _ m5
      have m6 := s9 _ _ m6
      generalize upd H8 a7 (.dK []) = H9 at *
      have np8 := P9.nep h8
      have s10 := smN (o := .tup [.str "1", .str "0"]) (Same.refl _) h8
      have P10 := P9.new (o := .tup [.str "1", .str "0"]) h8
      have m8 : (upd H9 a8 (.tup [.str "1", .str "0"])) a8 = some (.tup [.str "1", .str "0"]) := upd_same
      have t10 := t9.ext s10
      have m5 := s10 _ _ m5
      have m6 := s10 _ _ m6
      have m7 := s10 _ _ m7
      generalize upd H9 a8 (.tup [.str "1", .str "0"]) = H10 at *
      have np9 := P10.nep h9
      have s11 := smN (o := .lst [.non, .int 0, .int 10, .bl true, .ref a5, .ref a6, .ref a7, .ref a8]) (Same.refl _) h9
      have P11 := P10.new (o := .lst [.non, .int 0, .int 10, .bl true, .ref a5, .ref a6, .ref a7, .ref a8]) h9
      have m9 : (upd H10 a9 (.lst [.non, .int 0, .int 10, .bl true, .ref a5, .ref a6, .ref a7, .ref a8])) a9 = some (.lst [.non, .int 0, .int 10, .bl true, .ref a5, .ref a6, .ref a7, .ref a8]) := upd_same
      have t11 := t10.ext s11
      have m5 := s11 _ _ m5
      have m6 := s11 _ _ m6
      have m7 := s11 _ _ m7
      have m8 := s11 _ _ m8
      generalize upd H10 a9 (.lst [.non, .int 0, .int 10, .bl true, .ref a5, .ref a6, .ref a7, .ref a8]) = H11 at *
      refine ⟨_, rfl, p, l, 8, 600 * i + 523, rfl, by decide, by decide, by omega, P11, fun d H12 hd0 hd1 P12 k12 => ?_⟩
      have t12 := tabs_but t11 P11 (But.took k12)
      have m5 := (k12 a5 (Ne.symm np5)).trans m5
      have m6 := (k12 a6 (Ne.symm np6)).trans m6
      have m7 := (k12 a7 (Ne.symm np7)).trans m7
      have m8 := (k12 a8 (Ne.symm np8)).trans m8
      have m9 := (k12 a9 (Ne.symm np9)).trans m9
      obtain ⟨v, ev, ho⟩ : ∃ v, atI [V.non, .int 0, .int 10, .bl true, .ref a5, .ref a6, .ref a7, .ref a8] d = some v ∧ Odd K H12 v := by
        have : d = 0 ∨ d = 1 ∨ d = 2 ∨ d = 3 ∨ d = 4 ∨ d = 5 ∨ d = 6 ∨ d = 7 := by omega
        rcases this with rfl | rfl | rfl | rfl | rfl | rfl | rfl | rfl
        · exact ⟨_, rfl, _, .non, kit_ty (by decide +kernel)⟩
        · exact ⟨_, rfl, _, .int _, kit_ty (by decide +kernel)⟩
        · exact ⟨_, rfl, _, .int _, kit_ty (by decide +kernel)⟩
        · exact ⟨_, rfl, _, .bl _, kit_ty (by decide +kernel)⟩
        · exact ⟨_, rfl, _, .lst m5, kit_ty (by decide +kernel)⟩
        · exact ⟨_, rfl, _, .tup m6, kit_ty (by decide +kernel)⟩
        · exact ⟨_, rfl, _, .dK m7, kit_ty (by decide +kernel)⟩
        · exact ⟨_, rfl, _, .tup m8, kit_ty (by decide +kernel)⟩
      refine ⟨a9, _, d, v, rfl, rfl, SqL.of m9, ev, ?_⟩
      clear m5 m6 m7 m8 m9 ev s8 s9 s10 s11
      refine ⟨rfl, _, rfl, v, some 0, rfl, ho.flt, fun H13 s13 => ⟨false, rfl, ?_⟩⟩
      refine iteF ?_
      have e0 : Str.ofString (toString ((0 : Nat) : Int)) = ("0" : Str) := by decide +kernel
      have ho13 := ho.ext (.of s13)
      refine ⟨t12.ext s13, fun H14 x14 T14 => ?_⟩
      have ho14 := ho13.ext x14
      refine ⟨_, rfl, fun pa dx n1 d1 e1 => ?_⟩
      have sm : Same H14 (upd (upd H14 dx (.own pa)) pa (.ins z.C dx [])) := fun b o e => by rw [upd_ne (ne_of_none e n1), upd_ne (ne_of_none e d1)]; exact e
      refine ⟨pa, dx, v, some 0, rfl, (ho14.ext (.of sm)).flt, upd_same, (fun k' ek d2 H15 s15 hd2 => ?_), fun e => nomatch e⟩
      cases ek
      refine ⟨d2, 0, rfl, rfl, hd2, fun b1 hb1 => ?_⟩
      have s16 := smN (o := ExR (.ref z.cNoPattern) (some d2) b1) (sm.trans s15) hb1
      refine ⟨_, rfl, log_small (by decide), ?_⟩
      rw [e0]
      refine ⟨rfl, _, rfl, ?_⟩
      rw [show (!decide (V.str "0" = V.str "0")) = false by rw [decide_eq_true rfl] <;> rfl]
      refine iteF ?_
      refine ⟨T14.ext s16, fun H17 x17 T17 => ?_⟩
      have ho17 := (ho14.ext (.of s16)).ext x17
      have f1 : Flt K H17 (.str "1") none := .inl ⟨[49], by rw [S_1], by decide, rfl⟩
      refine ⟨_, rfl, .str "1", v, none, some 0, rfl, f1, ho17.flt, (fun k' ek d3 H18 s18 hd3 => ?_), fun e => nomatch e⟩
      cases ek
      refine ⟨d3, 0, rfl, rfl, hd3, fun b2 hb2 => ?_⟩
      have s19 := smN (o := ExR (.ref z.cNoPattern) (some d3) b2) s18 hb2
      refine ⟨_, rfl, log_small (by decide), ?_⟩
      rw [e0]
      refine ⟨rfl, _, rfl, ?_⟩
      rw [show (!decide (V.str "0" = V.str "0")) = false by rw [decide_eq_true rfl] <;> rfl]
      refine iteF ?_
      exact ⟨((ExtN.pen x17 ((ExtN.pen x14 (P12.same s13)).same s16)).same s19).mono (by omega), T17.ext s19, _, _, _, rfl⟩
    · rintro σ H2 ⟨P2, T2, x2, x3, x4, rfl⟩
      refine ⟨[], by rw [S_e] <;> rfl, by decide, T2, fun H3 x3 T3 => ⟨true, rfl, iteT ?_⟩⟩
      refine ⟨[49, 46], by rw [show ("1." : Str) = S [49, 46] by decide +kernel] <;> rfl, by decide, T3, fun H4 x4 T4 => ⟨true, rfl, iteT ?_⟩⟩
      refine ⟨[49, 46, 46, 48], by rw [show ("1..0" : Str) = S [49, 46, 46, 48] by decide +kernel] <;> rfl, by decide, T4, fun H5 x5 T5 => ⟨true, rfl, iteT ?_⟩⟩
      exact ⟨[49, 46, 49, 46, 49, 46, 49], by rw [show ("1.1.1.1" : Str) = S [49, 46, 49, 46, 49, 46, 49] by decide +kernel] <;> rfl, by decide, T5, fun H6 x6 T6 => kk H6⟩
end
end Fb
set_option maxRecDepth 100000
set_option maxHeartbeats 4000000
namespace Fb
open PySem PySem.Spec PyProof.Rows L2
theorem all_mk {l : PySem.W.OpenLaw} {w : World} {K : PySem.W.Frag} {h : Heap} {mg : Str → Option Value} {fa : Addr} (X : K.In h) (G : h.Ns mainGlobals mg) (hfa : mg "law" = some (.ref fa))
    {C fe cNoPattern cUnlike p_isp : Addr} {ocC : Value} {odC : Option Addr} {cdC : PySem.ClassData} {slC : Array (Option Value)} {tB tK tM : Tok} {restS : List Value}
    {cR PR cL PL : Addr} {odR odL : Option Addr} {vsR vsL : Array Value} {slR slL : Array (Option Value)}
    {a_isp : Addr} {od_isp an_isp : Option Addr} {sl_isp : Array (Option Value)} {oc_isp kV_isp dc_isp pm_isp cd_isp ct_isp : Value}
    {a_has_pattern_form : Addr} {od_has_pattern_form an_has_pattern_form : Option Addr} {sl_has_pattern_form : Array (Option Value)} {oc_has_pattern_form kV_has_pattern_form dc_has_pattern_form pm_has_pattern_form cd_has_pattern_form ct_has_pattern_form : Value}
    {a_first_wrong_sign : Addr} {od_first_wrong_sign an_first_wrong_sign : Option Addr} {sl_first_wrong_sign : Array (Option Value)} {oc_first_wrong_sign kV_first_wrong_sign dc_first_wrong_sign pm_first_wrong_sign cd_first_wrong_sign ct_first_wrong_sign : Value}
    {a_pattern_fault : Addr} {od_pattern_fault an_pattern_fault : Option Addr} {sl_pattern_fault : Array (Option Value)} {oc_pattern_fault kV_pattern_fault dc_pattern_fault pm_pattern_fault cd_pattern_fault ct_pattern_fault : Value}
    {a_need_pattern : Addr} {od_need_pattern an_need_pattern : Option Addr} {sl_need_pattern : Array (Option Value)} {oc_need_pattern kV_need_pattern dc_need_pattern pm_need_pattern cd_need_pattern ct_need_pattern : Value}
    {a_sizes_of : Addr} {od_sizes_of an_sizes_of : Option Addr} {sl_sizes_of : Array (Option Value)} {oc_sizes_of kV_sizes_of dc_sizes_of pm_sizes_of cd_sizes_of ct_sizes_of : Value}
    {a_need_sizes : Addr} {od_need_sizes an_need_sizes : Option Addr} {sl_need_sizes : Array (Option Value)} {oc_need_sizes kV_need_sizes dc_need_sizes pm_need_sizes cd_need_sizes ct_need_sizes : Value}
    {a_bits_of : Addr} {od_bits_of an_bits_of : Option Addr} {sl_bits_of : Array (Option Value)} {oc_bits_of kV_bits_of dc_bits_of pm_bits_of cd_bits_of ct_bits_of : Value}
    {a_need_alike : Addr} {od_need_alike an_need_alike : Option Addr} {sl_need_alike : Array (Option Value)} {oc_need_alike kV_need_alike dc_need_alike pm_need_alike cd_need_alike ct_need_alike : Value}
    {a_unlike_bits : Addr} {od_unlike_bits an_unlike_bits : Option Addr} {sl_unlike_bits : Array (Option Value)} {oc_unlike_bits kV_unlike_bits dc_unlike_bits pm_unlike_bits cd_unlike_bits ct_unlike_bits : Value}
    {a_box : Addr} {od_box an_box : Option Addr} {sl_box : Array (Option Value)} {oc_box kV_box dc_box pm_box cd_box ct_box : Value}
    {a_init : Addr} {od_init an_init : Option Addr} {sl_init : Array (Option Value)} {oc_init kV_init dc_init pm_init cd_init ct_init : Value}
    {a_str : Addr} {od_str an_str : Option Addr} {sl_str : Array (Option Value)} {oc_str kV_str dc_str pm_str cd_str ct_str : Value}
    {a_Lpen : Addr} {od_Lpen an_Lpen : Option Addr} {sl_Lpen : Array (Option Value)} {oc_Lpen kV_Lpen dc_Lpen pm_Lpen cd_Lpen ct_Lpen : Value}
    {a_Ltake : Addr} {od_Ltake an_Ltake : Option Addr} {sl_Ltake : Array (Option Value)} {oc_Ltake kV_Ltake dc_Ltake pm_Ltake cd_Ltake ct_Ltake : Value}
    {a_Ltext : Addr} {od_Ltext an_Ltext : Option Addr} {sl_Ltext : Array (Option Value)} {oc_Ltext kV_Ltext dc_Ltext pm_Ltext cd_Ltext ct_Ltext : Value}
    {a_Lbent : Addr} {od_Lbent an_Lbent : Option Addr} {sl_Lbent : Array (Option Value)} {oc_Lbent kV_Lbent dc_Lbent pm_Lbent cd_Lbent ct_Lbent : Value}
    {a_Ldue : Addr} {od_Ldue an_Ldue : Option Addr} {sl_Ldue : Array (Option Value)} {oc_Ldue kV_Ldue dc_Ldue pm_Ldue cd_Ldue ct_Ldue : Value}
    {a_Lcalled : Addr} {od_Lcalled an_Lcalled : Option Addr} {sl_Lcalled : Array (Option Value)} {oc_Lcalled kV_Lcalled dc_Lcalled pm_Lcalled cd_Lcalled ct_Lcalled : Value}
    {a_Lright : Addr} {od_Lright an_Lright : Option Addr} {sl_Lright : Array (Option Value)} {oc_Lright kV_Lright dc_Lright pm_Lright ct_Lright : Value}
    {a_law : Addr} {od_law an_law : Option Addr} {sl_law : Array (Option Value)} {oc_law kV_law dc_law pm_law ct_law : Value}
    {NxU : Addr} {nmxU qxU : Str} {bsxU : List Value} {snxU : List Str} {subxU : List Value} {abxU : Bool} {colxU : Option Bool} {ddxU : Option Addr} {k0xU k1xU k2xU k3xU k5xU : Option Value}
    {NxN : Addr} {nmxN qxN : Str} {bsxN : List Value} {snxN : List Str} {subxN : List Value} {abxN : Bool} {colxN : Option Bool} {ddxN : Option Addr} {k0xN k1xN k2xN k3xN k5xN : Option Value}
    {a_npi : Addr} {od_npi an_npi : Option Addr} {sl_npi : Array (Option Value)} {oc_npi kV_npi dc_npi pm_npi cd_npi ct_npi : Value}
    (gC : PySem.W.nsIn K mainGlobals "Pattern" = some (some (.ref C)))
    (lC : K.lookup C = some ⟨ocC, odC, .cls cdC, slC⟩)
    (mroC : cdC.mro = [.ref C, .type "object"])
    (pgC : PySem.W.plainGet K C Str.empty = true)
    (hdC : PySem.W.hasDictIn K C = true)
    (poC : PySem.W.plainOver K C = true)
    (saC : PySem.W.findIn K (.ref C) "__setattr__" = some (some (.builtin "object.__setattr__")))
    (mkC : PySem.W.makesIn K C = true)
    (kpC : PySem.W.keepIn K (.ref C) = true)
    (na_text : PySem.W.findIn K (.ref C) "_text" = some none)
    (na_bits : PySem.W.findIn K (.ref C) "_bits" = some none)
    (na_sizes : PySem.W.findIn K (.ref C) "_sizes" = some none)
    (rdC : PySem.W.readsIn K C (.type "type") = true)
    (gaC : PySem.W.specialIn K (.ref C) "__getattribute__" = some (some (.builtin "type.__getattribute__")))
    (vB : PySem.W.findCls K (.ref C) (.type "type") "BITS" = some (.val (.int 120 tB)))
    (vK : PySem.W.findCls K (.ref C) (.type "type") "BLOCKS" = some (.val (.int 3 tK)))
    (caC : PySem.W.findIn K (.ref C) "__class__" = some (some (.builtin "object.__class__")))
    (hn : PySem.W.specialIn K (.builtin "object.__class__") "__get__" = some (some (.builtin "getset_descriptor.__get__")))
    (ht : PySem.W.takesIn K (.builtin "object.__class__") = some true)
    (moC : PySem.W.mroIn K C (.type "object") = some true)
    (tyC : PySem.W.typeIn K (.ref C) = some (.type "type"))
    (gM : PySem.W.nsIn K mainGlobals "MOST_UNLIKE_BITS" = some (some (.int 10 tM)))
    (atS : PySem.W.findCls K (.ref C) (.type "type") "is_pattern" = some (.get (.builtin "staticmethod.__get__") (.ref p_isp) .none (.ref C)))
    (recS : PySem.W.recIn K p_isp "staticmethod" = some (.ref a_isp :: restS))
    (l_isp : K.lookup a_isp = some ⟨oc_isp, od_isp, .func (PySem.W.fnOf "is_pattern" "Pattern.is_pattern" (defArgs s_Pattern_is_pattern) (defBody s_Pattern_is_pattern) (defScope s_Pattern_is_pattern) .none kV_isp dc_isp pm_isp an_isp cd_isp ct_isp), sl_isp⟩)
    (c_isp : PySem.W.codeIn K cd_isp "Pattern.is_pattern" = true)
    (k_isp : PySem.W.keepIn K (.ref a_isp) = true)
    (g_has_pattern_form : PySem.W.nsIn K mainGlobals "has_pattern_form" = some (some (.ref a_has_pattern_form)))
    (l_has_pattern_form : K.lookup a_has_pattern_form = some ⟨oc_has_pattern_form, od_has_pattern_form, .func (PySem.W.fnOf "has_pattern_form" "has_pattern_form" (defArgs s_has_pattern_form) (defBody s_has_pattern_form) (defScope s_has_pattern_form) .none kV_has_pattern_form dc_has_pattern_form pm_has_pattern_form an_has_pattern_form cd_has_pattern_form ct_has_pattern_form), sl_has_pattern_form⟩)
    (c_has_pattern_form : PySem.W.codeIn K cd_has_pattern_form "has_pattern_form" = true)
    (k_has_pattern_form : PySem.W.keepIn K (.ref a_has_pattern_form) = true)
    (g_first_wrong_sign : PySem.W.nsIn K mainGlobals "first_wrong_sign" = some (some (.ref a_first_wrong_sign)))
    (l_first_wrong_sign : K.lookup a_first_wrong_sign = some ⟨oc_first_wrong_sign, od_first_wrong_sign, .func (PySem.W.fnOf "first_wrong_sign" "first_wrong_sign" (defArgs s_first_wrong_sign) (defBody s_first_wrong_sign) (defScope s_first_wrong_sign) .none kV_first_wrong_sign dc_first_wrong_sign pm_first_wrong_sign an_first_wrong_sign cd_first_wrong_sign ct_first_wrong_sign), sl_first_wrong_sign⟩)
    (c_first_wrong_sign : PySem.W.codeIn K cd_first_wrong_sign "first_wrong_sign" = true)
    (k_first_wrong_sign : PySem.W.keepIn K (.ref a_first_wrong_sign) = true)
    (g_pattern_fault : PySem.W.nsIn K mainGlobals "pattern_fault" = some (some (.ref a_pattern_fault)))
    (l_pattern_fault : K.lookup a_pattern_fault = some ⟨oc_pattern_fault, od_pattern_fault, .func (PySem.W.fnOf "pattern_fault" "pattern_fault" (defArgs s_pattern_fault) (defBody s_pattern_fault) (defScope s_pattern_fault) .none kV_pattern_fault dc_pattern_fault pm_pattern_fault an_pattern_fault cd_pattern_fault ct_pattern_fault), sl_pattern_fault⟩)
    (c_pattern_fault : PySem.W.codeIn K cd_pattern_fault "pattern_fault" = true)
    (k_pattern_fault : PySem.W.keepIn K (.ref a_pattern_fault) = true)
    (g_need_pattern : PySem.W.nsIn K mainGlobals "need_pattern" = some (some (.ref a_need_pattern)))
    (l_need_pattern : K.lookup a_need_pattern = some ⟨oc_need_pattern, od_need_pattern, .func (PySem.W.fnOf "need_pattern" "need_pattern" (defArgs s_need_pattern) (defBody s_need_pattern) (defScope s_need_pattern) .none kV_need_pattern dc_need_pattern pm_need_pattern an_need_pattern cd_need_pattern ct_need_pattern), sl_need_pattern⟩)
    (c_need_pattern : PySem.W.codeIn K cd_need_pattern "need_pattern" = true)
    (k_need_pattern : PySem.W.keepIn K (.ref a_need_pattern) = true)
    (g_sizes_of : PySem.W.nsIn K mainGlobals "sizes_of" = some (some (.ref a_sizes_of)))
    (l_sizes_of : K.lookup a_sizes_of = some ⟨oc_sizes_of, od_sizes_of, .func (PySem.W.fnOf "sizes_of" "sizes_of" (defArgs s_sizes_of) (defBody s_sizes_of) (defScope s_sizes_of) .none kV_sizes_of dc_sizes_of pm_sizes_of an_sizes_of cd_sizes_of ct_sizes_of), sl_sizes_of⟩)
    (c_sizes_of : PySem.W.codeIn K cd_sizes_of "sizes_of" = true)
    (k_sizes_of : PySem.W.keepIn K (.ref a_sizes_of) = true)
    (g_need_sizes : PySem.W.nsIn K mainGlobals "need_sizes" = some (some (.ref a_need_sizes)))
    (l_need_sizes : K.lookup a_need_sizes = some ⟨oc_need_sizes, od_need_sizes, .func (PySem.W.fnOf "need_sizes" "need_sizes" (defArgs s_need_sizes) (defBody s_need_sizes) (defScope s_need_sizes) .none kV_need_sizes dc_need_sizes pm_need_sizes an_need_sizes cd_need_sizes ct_need_sizes), sl_need_sizes⟩)
    (c_need_sizes : PySem.W.codeIn K cd_need_sizes "need_sizes" = true)
    (k_need_sizes : PySem.W.keepIn K (.ref a_need_sizes) = true)
    (g_bits_of : PySem.W.nsIn K mainGlobals "bits_of" = some (some (.ref a_bits_of)))
    (l_bits_of : K.lookup a_bits_of = some ⟨oc_bits_of, od_bits_of, .func (PySem.W.fnOf "bits_of" "bits_of" (defArgs s_bits_of) (defBody s_bits_of) (defScope s_bits_of) .none kV_bits_of dc_bits_of pm_bits_of an_bits_of cd_bits_of ct_bits_of), sl_bits_of⟩)
    (c_bits_of : PySem.W.codeIn K cd_bits_of "bits_of" = true)
    (k_bits_of : PySem.W.keepIn K (.ref a_bits_of) = true)
    (g_need_alike : PySem.W.nsIn K mainGlobals "need_alike" = some (some (.ref a_need_alike)))
    (l_need_alike : K.lookup a_need_alike = some ⟨oc_need_alike, od_need_alike, .func (PySem.W.fnOf "need_alike" "need_alike" (defArgs s_need_alike) (defBody s_need_alike) (defScope s_need_alike) .none kV_need_alike dc_need_alike pm_need_alike an_need_alike cd_need_alike ct_need_alike), sl_need_alike⟩)
    (c_need_alike : PySem.W.codeIn K cd_need_alike "need_alike" = true)
    (k_need_alike : PySem.W.keepIn K (.ref a_need_alike) = true)
    (g_unlike_bits : PySem.W.nsIn K mainGlobals "unlike_bits" = some (some (.ref a_unlike_bits)))
    (l_unlike_bits : K.lookup a_unlike_bits = some ⟨oc_unlike_bits, od_unlike_bits, .func (PySem.W.fnOf "unlike_bits" "unlike_bits" (defArgs s_unlike_bits) (defBody s_unlike_bits) (defScope s_unlike_bits) .none kV_unlike_bits dc_unlike_bits pm_unlike_bits an_unlike_bits cd_unlike_bits ct_unlike_bits), sl_unlike_bits⟩)
    (c_unlike_bits : PySem.W.codeIn K cd_unlike_bits "unlike_bits" = true)
    (k_unlike_bits : PySem.W.keepIn K (.ref a_unlike_bits) = true)
    (g_box : PySem.W.nsIn K mainGlobals "box" = some (some (.ref a_box)))
    (l_box : K.lookup a_box = some ⟨oc_box, od_box, .func (PySem.W.fnOf "box" "box" (defArgs s_box) (defBody s_box) (defScope s_box) .none kV_box dc_box pm_box an_box cd_box ct_box), sl_box⟩)
    (c_box : PySem.W.codeIn K cd_box "box" = true)
    (k_box : PySem.W.keepIn K (.ref a_box) = true)
    (m_init : PySem.W.findIn K (.ref C) "__init__" = some (some (.ref a_init)))
    (f_init : PySem.W.isFn K (.ref a_init) = true)
    (l_init : K.lookup a_init = some ⟨oc_init, od_init, .func (PySem.W.fnOf "__init__" "Pattern.__init__" (defArgs s_Pattern_init) (defBody s_Pattern_init) (defScope s_Pattern_init) .none kV_init dc_init pm_init an_init cd_init ct_init), sl_init⟩)
    (c_init : PySem.W.codeIn K cd_init "Pattern.__init__" = true)
    (k_init : PySem.W.keepIn K (.ref a_init) = true)
    (m_str : PySem.W.findIn K (.ref C) "__str__" = some (some (.ref a_str)))
    (f_str : PySem.W.isFn K (.ref a_str) = true)
    (l_str : K.lookup a_str = some ⟨oc_str, od_str, .func (PySem.W.fnOf "__str__" "Pattern.__str__" (defArgs s_Pattern_str) (defBody s_Pattern_str) (defScope s_Pattern_str) .none kV_str dc_str pm_str an_str cd_str ct_str), sl_str⟩)
    (c_str : PySem.W.codeIn K cd_str "Pattern.__str__" = true)
    (k_str : PySem.W.keepIn K (.ref a_str) = true)
    (g_Lpen : PySem.W.nsIn K mainGlobals "_law_pen" = some (some (.ref a_Lpen)))
    (l_Lpen : K.lookup a_Lpen = some ⟨oc_Lpen, od_Lpen, .func (PySem.W.fnOf "_law_pen" "_law_pen" (defArgs s_Lpen) (defBody s_Lpen) (defScope s_Lpen) .none kV_Lpen dc_Lpen pm_Lpen an_Lpen cd_Lpen ct_Lpen), sl_Lpen⟩)
    (c_Lpen : PySem.W.codeIn K cd_Lpen "_law_pen" = true)
    (k_Lpen : PySem.W.keepIn K (.ref a_Lpen) = true)
    (g_Ltake : PySem.W.nsIn K mainGlobals "_law_take" = some (some (.ref a_Ltake)))
    (l_Ltake : K.lookup a_Ltake = some ⟨oc_Ltake, od_Ltake, .func (PySem.W.fnOf "_law_take" "_law_take" (defArgs s_Ltake) (defBody s_Ltake) (defScope s_Ltake) .none kV_Ltake dc_Ltake pm_Ltake an_Ltake cd_Ltake ct_Ltake), sl_Ltake⟩)
    (c_Ltake : PySem.W.codeIn K cd_Ltake "_law_take" = true)
    (k_Ltake : PySem.W.keepIn K (.ref a_Ltake) = true)
    (g_Ltext : PySem.W.nsIn K mainGlobals "_law_text" = some (some (.ref a_Ltext)))
    (l_Ltext : K.lookup a_Ltext = some ⟨oc_Ltext, od_Ltext, .func (PySem.W.fnOf "_law_text" "_law_text" (defArgs s_Ltext) (defBody s_Ltext) (defScope s_Ltext) .none kV_Ltext dc_Ltext pm_Ltext an_Ltext cd_Ltext ct_Ltext), sl_Ltext⟩)
    (c_Ltext : PySem.W.codeIn K cd_Ltext "_law_text" = true)
    (k_Ltext : PySem.W.keepIn K (.ref a_Ltext) = true)
    (g_Lbent : PySem.W.nsIn K mainGlobals "_law_bent" = some (some (.ref a_Lbent)))
    (l_Lbent : K.lookup a_Lbent = some ⟨oc_Lbent, od_Lbent, .func (PySem.W.fnOf "_law_bent" "_law_bent" (defArgs s_Lbent) (defBody s_Lbent) (defScope s_Lbent) .none kV_Lbent dc_Lbent pm_Lbent an_Lbent cd_Lbent ct_Lbent), sl_Lbent⟩)
    (c_Lbent : PySem.W.codeIn K cd_Lbent "_law_bent" = true)
    (k_Lbent : PySem.W.keepIn K (.ref a_Lbent) = true)
    (g_Ldue : PySem.W.nsIn K mainGlobals "_law_due" = some (some (.ref a_Ldue)))
    (l_Ldue : K.lookup a_Ldue = some ⟨oc_Ldue, od_Ldue, .func (PySem.W.fnOf "_law_due" "_law_due" (defArgs s_Ldue) (defBody s_Ldue) (defScope s_Ldue) .none kV_Ldue dc_Ldue pm_Ldue an_Ldue cd_Ldue ct_Ldue), sl_Ldue⟩)
    (c_Ldue : PySem.W.codeIn K cd_Ldue "_law_due" = true)
    (k_Ldue : PySem.W.keepIn K (.ref a_Ldue) = true)
    (g_Lcalled : PySem.W.nsIn K mainGlobals "_law_called" = some (some (.ref a_Lcalled)))
    (l_Lcalled : K.lookup a_Lcalled = some ⟨oc_Lcalled, od_Lcalled, .func (PySem.W.fnOf "_law_called" "_law_called" (defArgs s_Lcalled) (defBody s_Lcalled) (defScope s_Lcalled) .none kV_Lcalled dc_Lcalled pm_Lcalled an_Lcalled cd_Lcalled ct_Lcalled), sl_Lcalled⟩)
    (c_Lcalled : PySem.W.codeIn K cd_Lcalled "_law_called" = true)
    (k_Lcalled : PySem.W.keepIn K (.ref a_Lcalled) = true)
    (g_Lright : PySem.W.nsIn K mainGlobals "_law_right" = some (some (.ref a_Lright)))
    (l_Lright : K.lookup a_Lright = some ⟨oc_Lright, od_Lright, .func (PySem.W.fnOf "_law_right" "_law_right" (defArgs s_Lright) (defBody s_Lright) (defScope s_Lright) .none kV_Lright dc_Lright pm_Lright an_Lright (.ref cR) ct_Lright), sl_Lright⟩)
    (c_Lright : PySem.W.codeIn K (.ref cR) "_law_right" = true)
    (k_Lright : PySem.W.keepIn K (.ref a_Lright) = true)
    (g_law : PySem.W.nsIn K mainGlobals "law" = some (some (.ref a_law)))
    (l_law : K.lookup a_law = some ⟨oc_law, od_law, .func (PySem.W.fnOf "law" "law" (defArgs s_law) (defBody s_law) (defScope s_law) .none kV_law dc_law pm_law an_law (.ref cL) ct_law), sl_law⟩)
    (c_law : PySem.W.codeIn K (.ref cL) "law" = true)
    (k_law : PySem.W.keepIn K (.ref a_law) = true)
    (lkR : K.lookup cR = some ⟨.type "code", odR, .fields vsR, slR⟩)
    (elR : (vsR[11]? : Option Value) = some (.ref PR))
    (hdR : PySem.W.codeHdIn K cR PR = true)
    (noR : K.lookup PR = none)
    (tbR : h.get? PR = some { cls := .none, data := .fields #[] })
    (lkL : K.lookup cL = some ⟨.type "code", odL, .fields vsL, slL⟩)
    (elL : (vsL[11]? : Option Value) = some (.ref PL))
    (hdL : PySem.W.codeHdIn K cL PL = true)
    (noL : K.lookup PL = none)
    (tbL : h.get? PL = some { cls := .none, data := .fields #[] })
    (nRL : PR ≠ PL)
    (gF : PySem.W.nsIn K mainGlobals "FallenError" = some (some (.ref fe)))
    (clF : PySem.W.isClsIn K fe = true)
    (tyF : PySem.W.typeIn K (.ref fe) = some (.type "type"))
    (sbF : PySem.W.subIn K (.ref fe) (.type "BaseException") = some true)
    (gU : PySem.W.nsIn K mainGlobals "Unlike" = some (some (.ref cUnlike)))
    (oU : K.lookup cUnlike = some (excClassObj nmxU qxU cUnlike NxU bsxU (bmX fe) true snxU subxU abxU colxU ddxU k0xU k1xU k2xU k3xU k5xU "ValueError.__new__"))
    (kpU : PySem.W.keepIn K (.ref cUnlike) = true)
    (tyU : PySem.W.typeIn K (.ref cUnlike) = some (.type "type"))
    (saU : PySem.W.findIn K (.ref cUnlike) "__setattr__" = some (some (.builtin "object.__setattr__")))
    (gaU : PySem.W.findIn K (.ref cUnlike) "__getattribute__" = some (some (.builtin "BaseException.__getattribute__")))
    (ggU : PySem.W.findIn K (.ref cUnlike) "__getattr__" = some none)
    (caU : PySem.W.findIn K (.ref cUnlike) "__class__" = some (some (.builtin "object.__class__")))
    (gN : PySem.W.nsIn K mainGlobals "NoPattern" = some (some (.ref cNoPattern)))
    (oN : K.lookup cNoPattern = some (excClassObj nmxN qxN cNoPattern NxN bsxN (bmX fe) true snxN subxN abxN colxN ddxN k0xN k1xN k2xN k3xN k5xN "ValueError.__new__"))
    (kpN : PySem.W.keepIn K (.ref cNoPattern) = true)
    (tyN : PySem.W.typeIn K (.ref cNoPattern) = some (.type "type"))
    (saN : PySem.W.findIn K (.ref cNoPattern) "__setattr__" = some (some (.builtin "object.__setattr__")))
    (gaN : PySem.W.findIn K (.ref cNoPattern) "__getattribute__" = some (some (.builtin "BaseException.__getattribute__")))
    (ggN : PySem.W.findIn K (.ref cNoPattern) "__getattr__" = some none)
    (caN : PySem.W.findIn K (.ref cNoPattern) "__class__" = some (some (.builtin "object.__class__")))
    (eU : PySem.W.excIn K cUnlike [.type "ValueError", .type "Exception", .type "BaseException", .type "object"] "ValueError.__new__" = true)
    (iNP : PySem.W.findIn K (.ref cNoPattern) "__init__" = some (some (.ref a_npi)))
    (tNP : PySem.W.typeIn K (.ref a_npi) = some (.type "function"))
    (nNP : PySem.W.findIn K (.ref cNoPattern) "at" = some none)
    (l_npi : K.lookup a_npi = some ⟨oc_npi, od_npi, .func (PySem.W.fnOf "__init__" "NoPattern.__init__" (defArgs s_NoPattern_init) (defBody s_NoPattern_init) (defScope s_NoPattern_init) .none kV_npi dc_npi pm_npi an_npi cd_npi ct_npi), sl_npi⟩)
    (c_npi : PySem.W.codeIn K cd_npi "NoPattern.__init__" = true)
    (k_npi : PySem.W.keepIn K (.ref a_npi) = true)
    (b_isinstance : PySem.W.nsIn K mainGlobals "isinstance" = some none)
    (b_str : PySem.W.nsIn K mainGlobals "str" = some none)
    (b_enumerate : PySem.W.nsIn K mainGlobals "enumerate" = some none)
    (b_len : PySem.W.nsIn K mainGlobals "len" = some none)
    (b_tuple : PySem.W.nsIn K mainGlobals "tuple" = some none)
    (b_zip : PySem.W.nsIn K mainGlobals "zip" = some none)
    (b_range : PySem.W.nsIn K mainGlobals "range" = some none)
    (b_int : PySem.W.nsIn K mainGlobals "int" = some none)
    (b_min : PySem.W.nsIn K mainGlobals "min" = some none)
    (b_max : PySem.W.nsIn K mainGlobals "max" = some none)
    (b_repr : PySem.W.nsIn K mainGlobals "repr" = some none)
    (b_sum : PySem.W.nsIn K mainGlobals "sum" = some none)
    (b_abs : PySem.W.nsIn K mainGlobals "abs" = some none)
    (b_list : PySem.W.nsIn K mainGlobals "list" = some none)
    : LamX.LawAtS l w K CX0 10 63 "_law_script" mg fa h := by
  have e := hfa.symm.trans (PySem.W.mg_of X G g_law)
  cases e
  have F_isp := fun_mk (st := s_Pattern_is_pattern) l_isp c_isp k_isp
  have B_isp := F_isp.binds (ps := ["thing"]) fun _ _ _ _ _ _ us hl => match us, hl with | [_], _ => rfl
  have F_npi := fun_mk (st := s_NoPattern_init) l_npi c_npi k_npi
  have B_npi := F_npi.binds (ps := ["self", "at"]) fun _ _ _ _ _ _ us hl => match us, hl with | [_, _], _ => rfl
  have F_has_pattern_form := fun_mk (st := s_has_pattern_form) l_has_pattern_form c_has_pattern_form k_has_pattern_form
  have B_has_pattern_form := F_has_pattern_form.binds (ps := ["text"]) fun _ _ _ _ _ _ us hl => match us, hl with | [_], _ => rfl
  have F_first_wrong_sign := fun_mk (st := s_first_wrong_sign) l_first_wrong_sign c_first_wrong_sign k_first_wrong_sign
  have B_first_wrong_sign := F_first_wrong_sign.binds (ps := ["thing"]) fun _ _ _ _ _ _ us hl => match us, hl with | [_], _ => rfl
  have F_pattern_fault := fun_mk (st := s_pattern_fault) l_pattern_fault c_pattern_fault k_pattern_fault
  have B_pattern_fault := F_pattern_fault.binds (ps := ["thing"]) fun _ _ _ _ _ _ us hl => match us, hl with | [_], _ => rfl
  have F_need_pattern := fun_mk (st := s_need_pattern) l_need_pattern c_need_pattern k_need_pattern
  have B_need_pattern := F_need_pattern.binds (ps := ["thing"]) fun _ _ _ _ _ _ us hl => match us, hl with | [_], _ => rfl
  have F_sizes_of := fun_mk (st := s_sizes_of) l_sizes_of c_sizes_of k_sizes_of
  have B_sizes_of := F_sizes_of.binds (ps := ["text"]) fun _ _ _ _ _ _ us hl => match us, hl with | [_], _ => rfl
  have F_need_sizes := fun_mk (st := s_need_sizes) l_need_sizes c_need_sizes k_need_sizes
  have B_need_sizes := F_need_sizes.binds (ps := ["thing", "sizes"]) fun _ _ _ _ _ _ us hl => match us, hl with | [_, _], _ => rfl
  have F_bits_of := fun_mk (st := s_bits_of) l_bits_of c_bits_of k_bits_of
  have B_bits_of := F_bits_of.binds (ps := ["text"]) fun _ _ _ _ _ _ us hl => match us, hl with | [_], _ => rfl
  have F_need_alike := fun_mk (st := s_need_alike) l_need_alike c_need_alike k_need_alike
  have B_need_alike := F_need_alike.binds (ps := ["texts"]) fun _ _ _ _ _ _ us hl => match us, hl with | [_], _ => rfl
  have F_unlike_bits := fun_mk (st := s_unlike_bits) l_unlike_bits c_unlike_bits k_unlike_bits
  have B_unlike_bits := F_unlike_bits.binds (ps := ["one", "other"]) fun _ _ _ _ _ _ us hl => match us, hl with | [_, _], _ => rfl
  have F_box := fun_mk (st := s_box) l_box c_box k_box
  have B_box := F_box.binds (ps := ["one", "other"]) fun _ _ _ _ _ _ us hl => match us, hl with | [_, _], _ => rfl
  have F_init := fun_mk (st := s_Pattern_init) l_init c_init k_init
  have B_init := F_init.binds (ps := ["self", "text"]) fun _ _ _ _ _ _ us hl => match us, hl with | [_, _], _ => rfl
  have F_str := fun_mk (st := s_Pattern_str) l_str c_str k_str
  have B_str := F_str.binds (ps := ["self"]) fun _ _ _ _ _ _ us hl => match us, hl with | [_], _ => rfl
  have F_Lpen := fun_mk (st := s_Lpen) l_Lpen c_Lpen k_Lpen
  have B_Lpen := F_Lpen.binds (ps := ["_law_script"]) fun _ _ _ _ _ _ us hl => match us, hl with | [_], _ => rfl
  have F_Ltake := fun_mk (st := s_Ltake) l_Ltake c_Ltake k_Ltake
  have B_Ltake := F_Ltake.binds (ps := ["_law_pen_here", "_law_many"]) fun _ _ _ _ _ _ us hl => match us, hl with | [_, _], _ => rfl
  have F_Ltext := fun_mk (st := s_Ltext) l_Ltext c_Ltext k_Ltext
  have B_Ltext := F_Ltext.binds (ps := ["_law_pen_here"]) fun _ _ _ _ _ _ us hl => match us, hl with | [_], _ => rfl
  have F_Lbent := fun_mk (st := s_Lbent) l_Lbent c_Lbent k_Lbent
  have B_Lbent := F_Lbent.binds (ps := ["_law_pen_here", "_law_text_here"]) fun _ _ _ _ _ _ us hl => match us, hl with | [_, _], _ => rfl
  have F_Ldue := fun_mk (st := s_Ldue) l_Ldue c_Ldue k_Ldue
  have B_Ldue := F_Ldue.binds (ps := ["_law_text_here"]) fun _ _ _ _ _ _ us hl => match us, hl with | [_], _ => rfl
  have F_Lcalled := fun_mk (st := s_Lcalled) l_Lcalled c_Lcalled k_Lcalled
  have B_Lcalled := F_Lcalled.binds (ps := ["_law_ask"]) fun _ _ _ _ _ _ us hl => match us, hl with | [_], _ => rfl
  have F_Lright := fun_mk (st := s_Lright) l_Lright c_Lright k_Lright
  have B_Lright := F_Lright.binds (ps := ["_law_text_here"]) fun _ _ _ _ _ _ us hl => match us, hl with | [_], _ => rfl
  have xU : XF K mg fe "Unlike" cUnlike := XF.of X G gU oU kpU tyU saU gaU ggU caU
  have xN : XF K mg fe "NoPattern" cNoPattern := XF.of X G gN oN kpN tyN saN gaN ggN caN
  let z : Pz := { C := C, fe := fe, cNoPattern := cNoPattern, cUnlike := cUnlike, a_isp := a_isp, p_isp := p_isp, a_npi := a_npi, d_isp := (PySem.W.fnOf "is_pattern" "Pattern.is_pattern" (defArgs s_Pattern_is_pattern) (defBody s_Pattern_is_pattern) (defScope s_Pattern_is_pattern) .none kV_isp dc_isp pm_isp an_isp cd_isp ct_isp), d_npi := (PySem.W.fnOf "__init__" "NoPattern.__init__" (defArgs s_NoPattern_init) (defBody s_NoPattern_init) (defScope s_NoPattern_init) .none kV_npi dc_npi pm_npi an_npi cd_npi ct_npi), a_has_pattern_form := a_has_pattern_form, d_has_pattern_form := (PySem.W.fnOf "has_pattern_form" "has_pattern_form" (defArgs s_has_pattern_form) (defBody s_has_pattern_form) (defScope s_has_pattern_form) .none kV_has_pattern_form dc_has_pattern_form pm_has_pattern_form an_has_pattern_form cd_has_pattern_form ct_has_pattern_form), a_first_wrong_sign := a_first_wrong_sign, d_first_wrong_sign := (PySem.W.fnOf "first_wrong_sign" "first_wrong_sign" (defArgs s_first_wrong_sign) (defBody s_first_wrong_sign) (defScope s_first_wrong_sign) .none kV_first_wrong_sign dc_first_wrong_sign pm_first_wrong_sign an_first_wrong_sign cd_first_wrong_sign ct_first_wrong_sign), a_pattern_fault := a_pattern_fault, d_pattern_fault := (PySem.W.fnOf "pattern_fault" "pattern_fault" (defArgs s_pattern_fault) (defBody s_pattern_fault) (defScope s_pattern_fault) .none kV_pattern_fault dc_pattern_fault pm_pattern_fault an_pattern_fault cd_pattern_fault ct_pattern_fault), a_need_pattern := a_need_pattern, d_need_pattern := (PySem.W.fnOf "need_pattern" "need_pattern" (defArgs s_need_pattern) (defBody s_need_pattern) (defScope s_need_pattern) .none kV_need_pattern dc_need_pattern pm_need_pattern an_need_pattern cd_need_pattern ct_need_pattern), a_sizes_of := a_sizes_of, d_sizes_of := (PySem.W.fnOf "sizes_of" "sizes_of" (defArgs s_sizes_of) (defBody s_sizes_of) (defScope s_sizes_of) .none kV_sizes_of dc_sizes_of pm_sizes_of an_sizes_of cd_sizes_of ct_sizes_of), a_need_sizes := a_need_sizes, d_need_sizes := (PySem.W.fnOf "need_sizes" "need_sizes" (defArgs s_need_sizes) (defBody s_need_sizes) (defScope s_need_sizes) .none kV_need_sizes dc_need_sizes pm_need_sizes an_need_sizes cd_need_sizes ct_need_sizes), a_bits_of := a_bits_of, d_bits_of := (PySem.W.fnOf "bits_of" "bits_of" (defArgs s_bits_of) (defBody s_bits_of) (defScope s_bits_of) .none kV_bits_of dc_bits_of pm_bits_of an_bits_of cd_bits_of ct_bits_of), a_need_alike := a_need_alike, d_need_alike := (PySem.W.fnOf "need_alike" "need_alike" (defArgs s_need_alike) (defBody s_need_alike) (defScope s_need_alike) .none kV_need_alike dc_need_alike pm_need_alike an_need_alike cd_need_alike ct_need_alike), a_unlike_bits := a_unlike_bits, d_unlike_bits := (PySem.W.fnOf "unlike_bits" "unlike_bits" (defArgs s_unlike_bits) (defBody s_unlike_bits) (defScope s_unlike_bits) .none kV_unlike_bits dc_unlike_bits pm_unlike_bits an_unlike_bits cd_unlike_bits ct_unlike_bits), a_box := a_box, d_box := (PySem.W.fnOf "box" "box" (defArgs s_box) (defBody s_box) (defScope s_box) .none kV_box dc_box pm_box an_box cd_box ct_box), a_init := a_init, d_init := (PySem.W.fnOf "__init__" "Pattern.__init__" (defArgs s_Pattern_init) (defBody s_Pattern_init) (defScope s_Pattern_init) .none kV_init dc_init pm_init an_init cd_init ct_init), a_str := a_str, d_str := (PySem.W.fnOf "__str__" "Pattern.__str__" (defArgs s_Pattern_str) (defBody s_Pattern_str) (defScope s_Pattern_str) .none kV_str dc_str pm_str an_str cd_str ct_str) }
  let w1 : Lz := { a_Lpen := a_Lpen, d_Lpen := (PySem.W.fnOf "_law_pen" "_law_pen" (defArgs s_Lpen) (defBody s_Lpen) (defScope s_Lpen) .none kV_Lpen dc_Lpen pm_Lpen an_Lpen cd_Lpen ct_Lpen), a_Ltake := a_Ltake, d_Ltake := (PySem.W.fnOf "_law_take" "_law_take" (defArgs s_Ltake) (defBody s_Ltake) (defScope s_Ltake) .none kV_Ltake dc_Ltake pm_Ltake an_Ltake cd_Ltake ct_Ltake), a_Ltext := a_Ltext, d_Ltext := (PySem.W.fnOf "_law_text" "_law_text" (defArgs s_Ltext) (defBody s_Ltext) (defScope s_Ltext) .none kV_Ltext dc_Ltext pm_Ltext an_Ltext cd_Ltext ct_Ltext), a_Lbent := a_Lbent, d_Lbent := (PySem.W.fnOf "_law_bent" "_law_bent" (defArgs s_Lbent) (defBody s_Lbent) (defScope s_Lbent) .none kV_Lbent dc_Lbent pm_Lbent an_Lbent cd_Lbent ct_Lbent), a_Ldue := a_Ldue, d_Ldue := (PySem.W.fnOf "_law_due" "_law_due" (defArgs s_Ldue) (defBody s_Ldue) (defScope s_Ldue) .none kV_Ldue dc_Ldue pm_Ldue an_Ldue cd_Ldue ct_Ldue), a_Lcalled := a_Lcalled, d_Lcalled := (PySem.W.fnOf "_law_called" "_law_called" (defArgs s_Lcalled) (defBody s_Lcalled) (defScope s_Lcalled) .none kV_Lcalled dc_Lcalled pm_Lcalled an_Lcalled cd_Lcalled ct_Lcalled), a_Lright := a_Lright, d_Lright := (PySem.W.fnOf "_law_right" "_law_right" (defArgs s_Lright) (defBody s_Lright) (defScope s_Lright) .none kV_Lright dc_Lright pm_Lright an_Lright (.ref cR) ct_Lright), a_law := fa, d_law := (PySem.W.fnOf "law" "law" (defArgs s_law) (defBody s_law) (defScope s_law) .none kV_law dc_law pm_law an_law (.ref cL) ct_law) }
  have icC : ∃ cd, PySem.W.clsIn K C = some cd ∧ cd.mro = [.ref C, .type "object"] := ⟨cdC, by unfold PySem.W.clsIn; rw [lC], mroC⟩
  have T : TxL K mg z w1 := { g_Pattern := PySem.W.mg_of X G gC, cls := ⟨pgC, hdC, poC, saC⟩, mkP := ⟨mkC, m_init, f_init, kpC⟩, na_text := na_text, na_bits := na_bits, na_sizes := na_sizes, crP := ⟨rdC, gaC⟩, vBITS := ⟨_, _, ⟨rdC, gaC⟩, ⟨vB, ⟨_, rfl⟩⟩⟩, vBLOCKS := ⟨_, _, ⟨rdC, gaC⟩, ⟨vK, ⟨_, rfl⟩⟩⟩, ca := caC, xb := ⟨hn, ht⟩, mo := moC, ic := icC, tyC := tyC, smP := ⟨atS, ⟨_, recS⟩, k_isp⟩, F_isp := F_isp, b_isp := B_isp, F_npi := F_npi, b_npi := B_npi, iNP := iNP, tNP := tNP, nNP := nNP, xNoPattern := xN, g_MOST_UNLIKE_BITS := ⟨_, PySem.W.mg_of X G gM⟩, g_has_pattern_form := PySem.W.mg_of X G g_has_pattern_form, k_has_pattern_form := k_has_pattern_form, F_has_pattern_form := F_has_pattern_form, b_has_pattern_form := B_has_pattern_form, g_first_wrong_sign := PySem.W.mg_of X G g_first_wrong_sign, k_first_wrong_sign := k_first_wrong_sign, F_first_wrong_sign := F_first_wrong_sign, b_first_wrong_sign := B_first_wrong_sign, g_pattern_fault := PySem.W.mg_of X G g_pattern_fault, k_pattern_fault := k_pattern_fault, F_pattern_fault := F_pattern_fault, b_pattern_fault := B_pattern_fault, g_need_pattern := PySem.W.mg_of X G g_need_pattern, k_need_pattern := k_need_pattern, F_need_pattern := F_need_pattern, b_need_pattern := B_need_pattern, g_sizes_of := PySem.W.mg_of X G g_sizes_of, k_sizes_of := k_sizes_of, F_sizes_of := F_sizes_of, b_sizes_of := B_sizes_of, g_need_sizes := PySem.W.mg_of X G g_need_sizes, k_need_sizes := k_need_sizes, F_need_sizes := F_need_sizes, b_need_sizes := B_need_sizes, g_bits_of := PySem.W.mg_of X G g_bits_of, k_bits_of := k_bits_of, F_bits_of := F_bits_of, b_bits_of := B_bits_of, g_need_alike := PySem.W.mg_of X G g_need_alike, k_need_alike := k_need_alike, F_need_alike := F_need_alike, b_need_alike := B_need_alike, g_unlike_bits := PySem.W.mg_of X G g_unlike_bits, k_unlike_bits := k_unlike_bits, F_unlike_bits := F_unlike_bits, b_unlike_bits := B_unlike_bits, g_box := PySem.W.mg_of X G g_box, k_box := k_box, F_box := F_box, b_box := B_box, m_init := m_init, f_init := f_init, F_init := F_init, b_init := B_init, m_str := m_str, f_str := f_str, F_str := F_str, b_str := B_str, xUnlike := xU, eUnlike := eU, xFallenError := PySem.W.mg_of X G gF, clF := clF, tyF := tyF, sbF := sbF, n_isinstance := PySem.W.mg_none_of X G b_isinstance, n_str := PySem.W.mg_none_of X G b_str, n_enumerate := PySem.W.mg_none_of X G b_enumerate, n_len := PySem.W.mg_none_of X G b_len, n_tuple := PySem.W.mg_none_of X G b_tuple, n_zip := PySem.W.mg_none_of X G b_zip, n_range := PySem.W.mg_none_of X G b_range, n_int := PySem.W.mg_none_of X G b_int, n_min := PySem.W.mg_none_of X G b_min, n_max := PySem.W.mg_none_of X G b_max, n_repr := PySem.W.mg_none_of X G b_repr, n_sum := PySem.W.mg_none_of X G b_sum, pp := ⟨PySem.W.mg_none_of X G b_int, PySem.W.mg_none_of X G b_len, PySem.W.mg_none_of X G b_abs, PySem.W.mg_none_of X G b_list⟩, g_Lpen := PySem.W.mg_of X G g_Lpen, k_Lpen := k_Lpen, b_Lpen := B_Lpen, F_Lpen := F_Lpen, g_Ltake := PySem.W.mg_of X G g_Ltake, k_Ltake := k_Ltake, b_Ltake := B_Ltake, F_Ltake := F_Ltake, g_Ltext := PySem.W.mg_of X G g_Ltext, k_Ltext := k_Ltext, b_Ltext := B_Ltext, F_Ltext := F_Ltext, g_Lbent := PySem.W.mg_of X G g_Lbent, k_Lbent := k_Lbent, b_Lbent := B_Lbent, F_Lbent := F_Lbent, g_Ldue := PySem.W.mg_of X G g_Ldue, k_Ldue := k_Ldue, b_Ldue := B_Ldue, F_Ldue := F_Ldue, g_Lcalled := PySem.W.mg_of X G g_Lcalled, k_Lcalled := k_Lcalled, b_Lcalled := B_Lcalled, F_Lcalled := F_Lcalled, g_Lright := PySem.W.mg_of X G g_Lright, k_Lright := k_Lright, b_Lright := B_Lright }
  have hR : ∀ p ∈ [(PR, qRight), (PL, qLaw)], p.1 = PR → p.2 = qRight := fun p hp e => by
    rcases List.mem_cons.mp hp with q | q
    · rw [q]
    · rw [List.mem_singleton.mp q] at e
      exact absurd e.symm nRL
  have hL : ∀ p ∈ [(PR, qRight), (PL, qLaw)], p.1 = PL → p.2 = qLaw := fun p hp e => by
    rcases List.mem_cons.mp hp with q | q
    · rw [q] at e
      exact absurd e nRL
    · rw [List.mem_singleton.mp q]
  have two : ∀ {A : Addr × Addr → Prop}, A (cR, PR) → A (cL, PL) → ∀ p ∈ [(cR, PR), (cL, PL)], A p := fun a b p hp => by
    rcases List.mem_cons.mp hp with q | q
    · rw [q]; exact a
    · rw [List.mem_singleton.mp q]; exact b
  refine ⟨(PySem.W.fnOf "law" "law" (defArgs s_law) (defBody s_law) (defScope s_law) .none kV_law dc_law pm_law an_law (.ref cL) ct_law), [(cR, PR), (cL, PL)], spLaw K [(PR, qRight), (PL, qLaw)], two tbR tbL, two noR noL, two (PySem.W.codeHd_of_K X hdR) (PySem.W.codeHd_of_K X hdL), fun s u => .of_eq rfl, fun H a ns hl _ hH hS => ⟨a, ns, rfl, hS, hl, fun p hp => ?_, fun _ => rfl⟩, fun base _ _ TB => ?_⟩
  · rcases List.mem_cons.mp hp with q | q
    · rw [q]; exact LamX.TabS.nil (hH (cR, PR) List.mem_cons_self)
    · rw [List.mem_singleton.mp q]; exact LamX.TabS.nil (hH (cL, PL) (List.mem_cons_of_mem _ List.mem_cons_self))
  · exact ok_law T l_law c_law (TB (cL, PL) (List.mem_cons_of_mem _ List.mem_cons_self)) (List.mem_cons_of_mem _ List.mem_cons_self) hL
      (ok_Lright T l_Lright c_Lright (TB (cR, PR) List.mem_cons_self) List.mem_cons_self hR)
end Fb
open PySem PySem.W PyProof.Rows
set_option maxRecDepth 100000 in
set_option maxHeartbeats 0 in
theorem PySem.Challenge.cw_fallenbits_k02_patterns_read_holds : PySem.Challenge.rw_fallenbits_k02_patterns_read.Holds := by
  w_on; o_law; k_head; (case hw => w_witness2)
  k_fill
  refine LamX.walk_ofTs (l := PySem.Challenge.rw_fallenbits_k02_patterns_read) (CX := fun _ => L2.CX0) (n := 63) (k := 10) (x := "_law_script") rfl (by decide) rfl ⟨rfl, by decide, by decide⟩ (fun w h Y => PySem.W.km_in_of Y) ?F (fun _ _ _ _ _ z => z)
  case F =>
    intro w mg fa h Y KX G hmg
    refine' Fb.all_mk KX G hmg ?zz_gC ?zz_lC ?zz_mroC ?zz_pgC ?zz_hdC ?zz_poC ?zz_saC ?zz_mkC ?zz_kpC ?zz_na_text ?zz_na_bits ?zz_na_sizes ?zz_rdC ?zz_gaC ?zz_vB ?zz_vK ?zz_caC ?zz_hn ?zz_ht ?zz_moC ?zz_tyC ?zz_gM ?zz_atS ?zz_recS ?zz_l_isp ?zz_c_isp ?zz_k_isp ?zz_g_has_pattern_form ?zz_l_has_pattern_form ?zz_c_has_pattern_form ?zz_k_has_pattern_form ?zz_g_first_wrong_sign ?zz_l_first_wrong_sign ?zz_c_first_wrong_sign ?zz_k_first_wrong_sign ?zz_g_pattern_fault ?zz_l_pattern_fault ?zz_c_pattern_fault ?zz_k_pattern_fault ?zz_g_need_pattern ?zz_l_need_pattern ?zz_c_need_pattern ?zz_k_need_pattern ?zz_g_sizes_of ?zz_l_sizes_of ?zz_c_sizes_of ?zz_k_sizes_of ?zz_g_need_sizes ?zz_l_need_sizes ?zz_c_need_sizes ?zz_k_need_sizes ?zz_g_bits_of ?zz_l_bits_of ?zz_c_bits_of ?zz_k_bits_of ?zz_g_need_alike ?zz_l_need_alike ?zz_c_need_alike ?zz_k_need_alike ?zz_g_unlike_bits ?zz_l_unlike_bits ?zz_c_unlike_bits ?zz_k_unlike_bits ?zz_g_box ?zz_l_box ?zz_c_box ?zz_k_box ?zz_m_init ?zz_f_init ?zz_l_init ?zz_c_init ?zz_k_init ?zz_m_str ?zz_f_str ?zz_l_str ?zz_c_str ?zz_k_str ?zz_g_Lpen ?zz_l_Lpen ?zz_c_Lpen ?zz_k_Lpen ?zz_g_Ltake ?zz_l_Ltake ?zz_c_Ltake ?zz_k_Ltake ?zz_g_Ltext ?zz_l_Ltext ?zz_c_Ltext ?zz_k_Ltext ?zz_g_Lbent ?zz_l_Lbent ?zz_c_Lbent ?zz_k_Lbent ?zz_g_Ldue ?zz_l_Ldue ?zz_c_Ldue ?zz_k_Ldue ?zz_g_Lcalled ?zz_l_Lcalled ?zz_c_Lcalled ?zz_k_Lcalled ?zz_g_Lright ?zz_l_Lright ?zz_c_Lright ?zz_k_Lright ?zz_g_law ?zz_l_law ?zz_c_law ?zz_k_law ?zz_lkR ?zz_elR ?zz_hdR ?zz_noR ?zz_tbR ?zz_lkL ?zz_elL ?zz_hdL ?zz_noL ?zz_tbL ?zz_nRL ?zz_gF ?zz_clF ?zz_tyF ?zz_sbF ?zz_gU ?zz_oU ?zz_kpU ?zz_tyU ?zz_saU ?zz_gaU ?zz_ggU ?zz_caU ?zz_gN ?zz_oN ?zz_kpN ?zz_tyN ?zz_saN ?zz_gaN ?zz_ggN ?zz_caN ?zz_eU ?zz_iNP ?zz_tNP ?zz_nNP ?zz_l_npi ?zz_c_npi ?zz_k_npi ?zz_b_isinstance ?zz_b_str ?zz_b_enumerate ?zz_b_len ?zz_b_tuple ?zz_b_zip ?zz_b_range ?zz_b_int ?zz_b_min ?zz_b_max ?zz_b_repr ?zz_b_sum ?zz_b_abs ?zz_b_list
    (case zz_gC => k_is)
    (case zz_lC => k_is)
    (case zz_mroC => rfl)
    (case zz_pgC => k_is)
    (case zz_hdC => k_is)
    (case zz_poC => k_is)
    (case zz_saC => k_is)
    (case zz_mkC => k_is)
    (case zz_kpC => k_is)
    (case zz_na_text => k_is)
    (case zz_na_bits => k_is)
    (case zz_na_sizes => k_is)
    (case zz_rdC => k_is)
    (case zz_gaC => k_is)
    (case zz_vB => k_is)
    (case zz_vK => k_is)
    (case zz_caC => k_is)
    (case zz_hn => k_is)
    (case zz_ht => k_is)
    (case zz_moC => k_is)
    (case zz_tyC => k_is)
    (case zz_gM => k_is)
    (case zz_atS => k_is)
    (case zz_recS => k_is)
    (case zz_l_isp => k_is)
    (case zz_c_isp => k_is)
    (case zz_k_isp => k_is)
    (case zz_g_has_pattern_form => k_is)
    (case zz_l_has_pattern_form => k_is)
    (case zz_c_has_pattern_form => k_is)
    (case zz_k_has_pattern_form => k_is)
    (case zz_g_first_wrong_sign => k_is)
    (case zz_l_first_wrong_sign => k_is)
    (case zz_c_first_wrong_sign => k_is)
    (case zz_k_first_wrong_sign => k_is)
    (case zz_g_pattern_fault => k_is)
    (case zz_l_pattern_fault => k_is)
    (case zz_c_pattern_fault => k_is)
    (case zz_k_pattern_fault => k_is)
    (case zz_g_need_pattern => k_is)
    (case zz_l_need_pattern => k_is)
    (case zz_c_need_pattern => k_is)
    (case zz_k_need_pattern => k_is)
    (case zz_g_sizes_of => k_is)
    (case zz_l_sizes_of => k_is)
    (case zz_c_sizes_of => k_is)
    (case zz_k_sizes_of => k_is)
    (case zz_g_need_sizes => k_is)
    (case zz_l_need_sizes => k_is)
    (case zz_c_need_sizes => k_is)
    (case zz_k_need_sizes => k_is)
    (case zz_g_bits_of => k_is)
    (case zz_l_bits_of => k_is)
    (case zz_c_bits_of => k_is)
    (case zz_k_bits_of => k_is)
    (case zz_g_need_alike => k_is)
    (case zz_l_need_alike => k_is)
    (case zz_c_need_alike => k_is)
    (case zz_k_need_alike => k_is)
    (case zz_g_unlike_bits => k_is)
    (case zz_l_unlike_bits => k_is)
    (case zz_c_unlike_bits => k_is)
    (case zz_k_unlike_bits => k_is)
    (case zz_g_box => k_is)
    (case zz_l_box => k_is)
    (case zz_c_box => k_is)
    (case zz_k_box => k_is)
    (case zz_m_init => k_is)
    (case zz_f_init => k_is)
    (case zz_l_init => k_is)
    (case zz_c_init => k_is)
    (case zz_k_init => k_is)
    (case zz_m_str => k_is)
    (case zz_f_str => k_is)
    (case zz_l_str => k_is)
    (case zz_c_str => k_is)
    (case zz_k_str => k_is)
    (case zz_g_Lpen => k_is)
    (case zz_l_Lpen => k_is)
    (case zz_c_Lpen => k_is)
    (case zz_k_Lpen => k_is)
    (case zz_g_Ltake => k_is)
    (case zz_l_Ltake => k_is)
    (case zz_c_Ltake => k_is)
    (case zz_k_Ltake => k_is)
    (case zz_g_Ltext => k_is)
    (case zz_l_Ltext => k_is)
    (case zz_c_Ltext => k_is)
    (case zz_k_Ltext => k_is)
    (case zz_g_Lbent => k_is)
    (case zz_l_Lbent => k_is)
    (case zz_c_Lbent => k_is)
    (case zz_k_Lbent => k_is)
    (case zz_g_Ldue => k_is)
    (case zz_l_Ldue => k_is)
    (case zz_c_Ldue => k_is)
    (case zz_k_Ldue => k_is)
    (case zz_g_Lcalled => k_is)
    (case zz_l_Lcalled => k_is)
    (case zz_c_Lcalled => k_is)
    (case zz_k_Lcalled => k_is)
    (case zz_g_Lright => k_is)
    (case zz_l_Lright => k_is)
    (case zz_c_Lright => k_is)
    (case zz_k_Lright => k_is)
    (case zz_g_law => k_is)
    (case zz_l_law => k_is)
    (case zz_c_law => k_is)
    (case zz_k_law => k_is)
    (case zz_lkR => k_is)
    (case zz_elR => rfl)
    (case zz_hdR => kernel_rfl)
    (case zz_noR => kernel_rfl)
    (case zz_tbR => exact PySem.W.km_tabs_of Y _ (by k_mem))
    (case zz_lkL => k_is)
    (case zz_elL => rfl)
    (case zz_hdL => kernel_rfl)
    (case zz_noL => kernel_rfl)
    (case zz_tbL => exact PySem.W.km_tabs_of Y _ (by k_mem))
    (case zz_nRL => decide)
    (case zz_gF => k_is)
    (case zz_clF => k_is)
    (case zz_tyF => k_is)
    (case zz_sbF => k_is)
    (case zz_gU => k_is)
    (case zz_oU => k_is)
    (case zz_kpU => k_is)
    (case zz_tyU => k_is)
    (case zz_saU => k_is)
    (case zz_gaU => k_is)
    (case zz_ggU => k_is)
    (case zz_caU => k_is)
    (case zz_gN => k_is)
    (case zz_oN => k_is)
    (case zz_kpN => k_is)
    (case zz_tyN => k_is)
    (case zz_saN => k_is)
    (case zz_gaN => k_is)
    (case zz_ggN => k_is)
    (case zz_caN => k_is)
    (case zz_eU => k_exc)
    (case zz_iNP => k_is)
    (case zz_tNP => k_is)
    (case zz_nNP => k_is)
    (case zz_l_npi => k_is)
    (case zz_c_npi => k_is)
    (case zz_k_npi => k_is)
    (case zz_b_isinstance => k_is)
    (case zz_b_str => k_is)
    (case zz_b_enumerate => k_is)
    (case zz_b_len => k_is)
    (case zz_b_tuple => k_is)
    (case zz_b_zip => k_is)
    (case zz_b_range => k_is)
    (case zz_b_int => k_is)
    (case zz_b_min => k_is)
    (case zz_b_max => k_is)
    (case zz_b_repr => k_is)
    (case zz_b_sum => k_is)
    (case zz_b_abs => k_is)
    (case zz_b_list => k_is)
