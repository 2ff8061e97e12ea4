import PyProof.Rows.All
import Wide.All
import OpenK.AllK
import Wide.FinOn
import HandS.ForMost
import HandS.Wide
import HandS.Codes
import HandS.ForExc
import HandS.ExcInit
import HandS.ExcValue
import HandS.ExcIs
import HandS.IsInst
import HandS.SetFor
import KE.KExcIs
import PyProof.ReprReads
import PyProof.Rows.CountFlat
import PyProof.ReprRoads
import KE.GoesEnum
import KE.GoesZip
import KE.GoesMore
import HandS.SlotsOwn
import HandS.Property
import HandS.ClsMeth
import KE.KCallOwn
import HandS.Replace
import HandS.ReplaceDef
import HandS.ReplaceLit
import HandS.WordsExc
import HandS.ReplaceList
import HandS.Lambda
import HandS.EndTab
import HandS.Conv
import PyProof.StrOps2
import PyProof.WalkInts
import PyProof.FString5
import HandS.Star
import KE.KTupSum
import PyProof.Rows.StrCountLaw
import HandS.Base
import HandS.Call
import PyProof.ToksMono
import HandS.List
import HandS.RaiseMore
import HandS.StrMore
import KE.KNestM
import PySem.Challenge.RW_fallenbits_k03_what_a_pattern_tells
set_option Elab.async false
set_option linter.all false
set_option maxRecDepth 100000
set_option maxHeartbeats 4000000
namespace Fb
open PySem PySem.Spec PyProof.Rows L2
/-! the pen -/
def penK (l : Addr) (a r f : Int) : List (Key × V) := [(.inr "cells", .ref l), (.inr "at", .int a), (.inr "rest", .int r), (.inr "fold", .int f)]
theorem ne1 : ¬ (("cells" : Str) = "rest") := by decide +kernel
theorem ne2 : ¬ (("at" : Str) = "rest") := by decide +kernel
theorem ne3 : ¬ (("cells" : Str) = "at") := by decide +kernel
theorem ne4 : ¬ (("cells" : Str) = "fold") := by decide +kernel
theorem ne5 : ¬ (("at" : Str) = "fold") := by decide +kernel
theorem ne6 : ¬ (("rest" : Str) = "fold") := by decide +kernel
theorem ne7 : ¬ (("rest" : Str) = "at") := by decide +kernel
theorem ne8 : ¬ (("fold" : Str) = "at") := by decide +kernel
theorem ne9 : ¬ (("fold" : Str) = "rest") := by decide +kernel
theorem inr_ne {a b : Str} (h : ¬ a = b) : ¬ ((Sum.inr a : Key) = Sum.inr b) := fun e => h (Sum.inr.inj e)
section
variable {H : Hp} {p l : Addr} {a r f x : Int}
theorem penK_cells : valV (penK l a r f) (.inr "cells") = some (.ref l) := by
  unfold penK; exact valV_pos rfl
theorem penK_at : valV (penK l a r f) (.inr "at") = some (.int a) := by
  unfold penK; rw [valV_neg (inr_ne ne3)]; exact valV_pos rfl
theorem penK_rest : valV (penK l a r f) (.inr "rest") = some (.int r) := by
  unfold penK; rw [valV_neg (inr_ne ne1), valV_neg (inr_ne ne2)]; exact valV_pos rfl
theorem penK_fold : valV (penK l a r f) (.inr "fold") = some (.int f) := by
  unfold penK; rw [valV_neg (inr_ne ne4), valV_neg (inr_ne ne5), valV_neg (inr_ne ne6)]; exact valV_pos rfl
theorem penK_put_at : putK (penK l a r f) (.inr "at") (.int x) = penK l x r f := by
  unfold putK
  rw [valV_any, penK_at, Option.isSome_some, if_pos rfl]
  unfold penK
  simp only [List.map_cons, List.map_nil, if_neg (inr_ne ne3), if_neg (inr_ne ne7), if_neg (inr_ne ne8), if_true]
theorem penK_put_rest : putK (penK l a r f) (.inr "rest") (.int x) = penK l a x f := by
  unfold putK
  rw [valV_any, penK_rest, Option.isSome_some, if_pos rfl]
  unfold penK
  simp only [List.map_cons, List.map_nil, if_neg (inr_ne ne1), if_neg (inr_ne ne2), if_neg (inr_ne ne9), if_true]
theorem g_cells (e : H p = some (.dK (penK l a r f))) : DGet H p (.str "cells") (some (.ref l)) := by
  have h := DGet.k (k := .inr "cells") e
  rw [penK_cells] at h; exact h
theorem g_at (e : H p = some (.dK (penK l a r f))) : DGet H p (.str "at") (some (.int a)) := by
  have h := DGet.k (k := .inr "at") e
  rw [penK_at] at h; exact h
theorem g_rest (e : H p = some (.dK (penK l a r f))) : DGet H p (.str "rest") (some (.int r)) := by
  have h := DGet.k (k := .inr "rest") e
  rw [penK_rest] at h; exact h
theorem g_fold (e : H p = some (.dK (penK l a r f))) : DGet H p (.str "fold") (some (.int f)) := by
  have h := DGet.k (k := .inr "fold") e
  rw [penK_fold] at h; exact h
theorem pen_sz : (penK l a r f).length < sizeLine := by
  show 4 < sizeLine
  rw [sizeLine_eq]; decide
theorem p_at (e : H p = some (.dK (penK l a r f))) : DPut H p (.str "at") (.int x) (upd H p (.dK (penK l x r f))) := by
  have h := DPut.k (k := .inr "at") (v := .int x) e pen_sz
  rw [penK_put_at] at h; exact h
theorem p_rest (e : H p = some (.dK (penK l a r f))) : DPut H p (.str "rest") (.int x) (upd H p (.dK (penK l a x f))) := by
  have h := DPut.k (k := .inr "rest") (v := .int x) e pen_sz
  rw [penK_put_rest] at h; exact h
end
/-- a pen at p, its cells at l, that has been asked at most n times -/
def PenL (H : Hp) (p l : Addr) (n : Nat) : Prop := ∃ (cs : List Int) (a r f : Int), H p = some (.dK (penK l a r f)) ∧ H l = some (.lst (cs.map V.int)) ∧ 0 ≤ a ∧ a ≤ n ∧ 0 ≤ r ∧ 0 ≤ f ∧ f < 2147483629
theorem PenL.mono {H : Hp} {p l : Addr} {n m : Nat} (h : PenL H p l n) (le : n ≤ m) : PenL H p l m := by
  obtain ⟨cs, a, r, f, h1, h2, h3, h4, h5⟩ := h
  exact ⟨cs, a, r, f, h1, h2, h3, by omega, h5⟩
theorem PenL.same {H H' : Hp} {p l : Addr} {n : Nat} (h : PenL H p l n) (s : Same H H') : PenL H' p l n := by
  obtain ⟨cs, a, r, f, h1, h2, h3⟩ := h
  exact ⟨cs, a, r, f, s _ _ h1, s _ _ h2, h3⟩
def spTake : Sp := fun vs H Q _ => ∃ (p l : Addr) (m : Int) (n : Nat), vs = [.ref p, .int m] ∧ 0 < m ∧ m < 1073741824 ∧ n < 1000000 ∧ PenL H p l n ∧
  ∀ (d : Int) (H' : Hp), 0 ≤ d → d < m → PenL H' p l (n + 1) → (∀ c, c ≠ p → H' c = H c) → Q (.int d) H'
structure TxP (mg : Str → Option Value) : Prop where
  n_int : mg "int" = none
  n_len : mg "len" = none
  n_abs : mg "abs" = none
  n_list : mg "list" = none
section
variable {P : Program} {w : World} {K : PySem.W.Frag} {mg : Str → Option Value} {base : Heap}
/-! the pen's making -/
theorem cut_map (ns : List Int) (lo hi : Option Int) : ∃ ms : List Int, cutV (ns.map V.int) lo hi = ms.map V.int ∧ ms.length ≤ ns.length := by
  unfold cutV
  refine ⟨(ns.drop (HT.sIx (ns.map V.int).length 0 lo)).take (HT.sIx (ns.map V.int).length (ns.map V.int).length hi - HT.sIx (ns.map V.int).length 0 lo), ?_, ?_⟩
  · rw [List.map_take, List.map_drop]
  · rw [List.length_take, List.length_drop]; omega
theorem putK_newS {kvs : List (Key × V)} {x : Str} {v : V} (h : valV kvs (.inr x) = none) : putK kvs (.inr x) v = kvs ++ [(.inr x, v)] := putK_new v h
theorem merge_pen {l : Addr} {a r f : Int} : mergeK [] [(.inr "cells", .ref l), (.inr "at", .int a), (.inr "rest", .int r), (.inr "fold", .int f)] = penK l a r f := by
  unfold mergeK
  simp only [List.foldl_cons, List.foldl_nil]
  rw [putK_newS (x := "cells") valV_nil]
  rw [putK_newS (x := "at") (by rw [List.nil_append, valV_neg (inr_ne ne3)]; exact valV_nil)]
  rw [putK_newS (x := "rest") (by simp only [List.nil_append, List.cons_append]; rw [valV_neg (inr_ne ne1), valV_neg (inr_ne ne2)]; exact valV_nil)]
  rw [putK_newS (x := "fold") (by simp only [List.nil_append, List.cons_append]; rw [valV_neg (inr_ne ne4), valV_neg (inr_ne ne5), valV_neg (inr_ne ne6)]; exact valV_nil)]
  rfl
def spPen (K : PySem.W.Frag) : Sp := fun vs H Q _ => ∃ (a : Addr) (ns : List Int), vs = [.ref a] ∧ SqL K H a (ns.map V.int) ∧ ns.length ≤ 63 ∧
  ∀ (p l : Addr) (H' : Hp), H p = none → H l = none → Same H H' → PenL H' p l 0 → Q (.ref p) H'
theorem smN {H H' : Hp} {p : Addr} {o : HO} (s : Same H H') (h : H' p = none) : Same H (upd H' p o) := fun b u e => by
  rw [upd_ne (ne_of_none (s b u e) h)]
  exact s b u e
end
end Fb
set_option maxRecDepth 100000
set_option maxHeartbeats 4000000
namespace Fb
open PySem PySem.Spec PyProof.Rows L2
def top (i : Nat) : Stmt := PySem.Challenge.pw_fallenbits_k03_what_a_pattern_tells.main.body.getD i (.Pass ⟨0, 0, 0, 0⟩)
abbrev s_Ltake : Stmt := top 26
theorem sc_Ltake : FnScope ["_law_pen_here", "_law_many", "_law_digit", "_law_at", "_law_cell", "_law_great", "_law_mixed"] ["_law_pen_here", "_law_many"] (defScope s_Ltake) := ⟨rfl, rfl, rfl, by decide +kernel, rfl, by decide +kernel, by decide +kernel⟩
abbrev s_Lpen : Stmt := top 25
theorem sc_Lpen : FnScope ["_law_script", "_law_fold", "_law_cell"] ["_law_script"] (defScope s_Lpen) := ⟨rfl, rfl, rfl, by decide +kernel, rfl, by decide +kernel, by decide +kernel⟩
section
variable {P : Program} {w : World} {K : PySem.W.Frag} {mg : Str → Option Value} {base : Heap}
theorem ok_take {f : Addr} {fd : FuncData} (F : Fun K "_law_take" "_law_take" s_Ltake f fd) (T : TxP mg) : FnOk P w K mg base CX0 2 f fd ["_law_pen_here", "_law_many"] spTake := by
  refine F.ok sc_Ltake (fun vs H Q E h => ?_) (fun cdv A outer s H vs Q E hr h => ?_)
  · obtain ⟨p, l, m, n, rfl, _⟩ := h
    rfl
  · obtain ⟨p, l, m, n, rfl, hm0, hm1, hn, ⟨cs, a, r, f, hp, hl, ha0, ha1, hr0, hf0, hf1⟩, k⟩ := h
    have hu := hu_of hr
    have npl : l ≠ p := ne_of hl hp (by intro z; cases z)
    refine ⟨_, (pss_cons (ps_if (pt_cmpR op_gt (pe_dget hu (pv 0) pe_str (fun _ _ => rfl)) pe_int (nomark _))
    (pss_cons (ps_set (i := 2) sc_Ltake.nd rfl (Or.inl rfl) (pe_op op_mod (pe_callTy call_int1 (by rfl) T.n_int (by decide +kernel) (pa_cons (pe_dget hu (pv 0) pe_str (fun _ _ => rfl)) pa_nil)) (pv 1)))
    (pss_cons (ps_dput hu (pv 0) pe_str (pe_op op_fdiv (pe_callTy call_int1 (by rfl) T.n_int (by decide +kernel) (pa_cons (pe_dget hu (pv 0) pe_str (fun _ _ => rfl)) pa_nil)) (pv 1)) rfl)
    (pss_one (ps_ret (pv 2)))))
    pss_nil)
  (pss_cons (ps_set (i := 3) sc_Ltake.nd rfl (Or.inl rfl) (pe_dget hu (pv 0) pe_str (fun _ _ => rfl)))
  (pss_cons (ps_dput hu (pv 0) pe_str (pe_op op_add (pv 3) pe_int) rfl)
  (pss_cons (ps_set (i := 4) sc_Ltake.nd rfl (Or.inl rfl) pe_int)
  (C8.pss_cut (ps_if (pt_cmpR op_lt (pv 3) (pe_callB call_len_seq (by rfl) T.n_len (by decide +kernel) (pa_cons (pe_dget hu (pv 0) pe_str (fun _ _ => rfl)) pa_nil)) (nomark _))
    (pss_one (ps_set (i := 4) sc_Ltake.nd rfl (Or.inl rfl) (pe_ix ix_list (pe_dget hu (pv 0) pe_str (fun _ _ => rfl)) (pv 3) (fun _ _ => rfl))))
    pss_nil)
  (pss_cons (ps_if (pt_cmpR op_ge (pe_callB call_abs (by rfl) T.n_abs (by decide +kernel) (pa_cons (pv 4) pa_nil)) (pe_op op_pow pe_int pe_int) (nomark _))
    (pss_cons (ps_set (i := 5) sc_Ltake.nd rfl (Or.inl rfl) (pe_op op_add (pe_op op_mul pe_int (pe_callB call_abs (by rfl) T.n_abs (by decide +kernel) (pa_cons (pv 4) pa_nil))) (pe_callTy call_int1 (by rfl) T.n_int (by decide +kernel) (pa_cons (pe_cmpR op_lt (pv 4) pe_int (nomark _)) pa_nil))))
    (pss_cons (ps_dput hu (pv 0) pe_str (pe_op op_fdiv (pe_callTy call_int1 (by rfl) T.n_int (by decide +kernel) (pa_cons (pv 5) pa_nil)) (pv 1)) rfl)
    (pss_one (ps_ret (pe_op op_mod (pe_callTy call_int1 (by rfl) T.n_int (by decide +kernel) (pa_cons (pv 5) pa_nil)) (pv 1))))))
    pss_nil)
  (pss_cons (ps_set (i := 6) sc_Ltake.nd rfl (Or.inl rfl) (pe_op op_mod (pe_callTy call_int1 (by rfl) T.n_int (by decide +kernel) (pa_cons (pe_op op_pow (pe_op op_add (pe_op op_add (pe_op op_mod (pe_callTy call_int1 (by rfl) T.n_int (by decide +kernel) (pa_cons (pv 4) pa_nil)) pe_int) (pe_callTy call_int1 (by rfl) T.n_int (by decide +kernel) (pa_cons (pe_dget hu (pv 0) pe_str (fun _ _ => rfl)) pa_nil))) (pe_op op_mul pe_int (pv 3))) pe_int) pa_nil)) pe_int))
  (pss_cons (ps_set (i := 6) sc_Ltake.nd rfl (Or.inl rfl) (pe_op op_mod (pe_callTy call_int1 (by rfl) T.n_int (by decide +kernel) (pa_cons (pe_op op_pow (pe_op op_add (pe_op op_add (pv 6) (pe_op op_mul (pe_op op_mul pe_int (pv 3)) (pv 3))) (pe_op op_fdiv (pe_callTy call_int1 (by rfl) T.n_int (by decide +kernel) (pa_cons (pe_dget hu (pv 0) pe_str (fun _ _ => rfl)) pa_nil)) pe_int)) pe_int) pa_nil)) pe_int))
  (pss_one (ps_ret (pe_op op_mod (pe_callTy call_int1 (by rfl) T.n_int (by decide +kernel) (pa_cons (pe_op op_fdiv (pv 6) pe_int) pa_nil)) (pv 1)))))))))))), ?_⟩
    -- if pen['rest'] > 0
    refine ⟨_, rfl, p, _, rfl, g_rest hp, _, _, rfl, rfl, _, rfl, ?_⟩
    refine ite2 (fun h1 => ?_) (fun h1 => ?_)
    · -- the rest
      refine ⟨_, rfl, p, _, rfl, g_rest hp, .inl ⟨_, rfl, ?_⟩⟩
      refine ⟨_, rfl, _, _, rfl, rfl, hm0, ?_⟩
      refine ⟨_, rfl, p, _, rfl, g_rest hp, .inl ⟨_, rfl, ?_⟩⟩
      refine ⟨_, rfl, _, _, rfl, rfl, ⟨hm0, hm1⟩, ?_⟩
      refine ⟨_, rfl, p, _, rfl, p_rest hp, ?_⟩
      refine ⟨_, rfl, ?_⟩
      refine k _ _ (Int.emod_nonneg _ (by omega)) (Int.emod_lt_of_pos _ hm0) ⟨cs, a, r / m, f, upd_same, by rw [upd_ne npl]; exact hl, ha0, by omega, Int.ediv_nonneg hr0 (by omega), hf0, hf1⟩ (fun c hc => upd_ne hc)
    · -- at = pen['at']; pen['at'] = at + 1; cell = 0
      refine ⟨_, rfl, p, _, rfl, g_at hp, ?_⟩
      refine ⟨_, rfl, _, _, rfl, rfl, _, rfl, p, _, rfl, p_at hp, ?_⟩
      have hp' : ∀ {x : Int}, (upd H p (.dK (penK l x r f))) p = some (.dK (penK l x r f)) := upd_same
      have hl' : ∀ {x : Int}, (upd H p (.dK (penK l x r f))) l = some (.lst (cs.map V.int)) := by intro x; rw [upd_ne npl]; exact hl
      refine ⟨fun σ H' => H' = upd H p (.dK (penK l (a + 1) r f)) ∧ ∃ c : Int, σ = [some (.ref p), some (.int m), none, some (.int a), some (.int c), none, none], ?_, ?_⟩
      · -- if at < len(pen['cells'])
        refine ⟨_, rfl, _, rfl, p, _, rfl, g_cells hp', l, _, rfl, .inl (SqL.of hl'), _, _, rfl, rfl, _, rfl, ?_⟩
        refine ite2 (fun h2 => ?_) (fun h2 => ?_)
        · rw [List.length_map] at h2
          have h3 : a < (cs.length : Int) := by simpa using h2
          obtain ⟨j, rfl⟩ : ∃ j : Nat, a = (j : Int) := ⟨a.toNat, by omega⟩
          refine ⟨_, rfl, p, _, rfl, g_cells hp', _, rfl, l, _, _, _, rfl, rfl, SqL.of hl', atI_nat (j := j) (v := V.int (cs[j]'(by omega))) (by rw [List.getElem?_map, List.getElem?_eq_getElem (show j < cs.length by omega)]; rfl), ?_⟩
          exact ⟨rfl, _, rfl⟩
        · exact ⟨rfl, 0, rfl⟩
      · rintro σ _ ⟨rfl, c, rfl⟩
        -- if abs(cell) >= 10 ** 18
        refine ⟨_, rfl, _, rfl, _, _, rfl, rfl, ⟨by decide, by decide, by decide⟩, _, _, rfl, rfl, _, rfl, ?_⟩
        refine ite2 (fun h2 => ?_) (fun h2 => ?_)
        · -- great
          have hg : 0 ≤ 2 * (if c < 0 then -c else c) + (if decide (c < 0) = true then (1 : Int) else 0) := by
            split <;> split <;> omega
          refine ⟨_, rfl, _, rfl, _, _, rfl, rfl, .inl ⟨by decide, by decide⟩, ?_⟩
          refine ⟨_, rfl, _, _, rfl, rfl, .inr ⟨_, rfl, ?_⟩⟩
          refine ⟨_, _, rfl, rfl, ?_⟩
          refine ⟨_, rfl, .inl ⟨_, rfl, ?_⟩⟩
          refine ⟨_, rfl, _, _, rfl, rfl, ⟨hm0, hm1⟩, _, rfl, p, _, rfl, p_rest hp', ?_⟩
          refine ⟨_, rfl, .inl ⟨_, rfl, ?_⟩⟩
          refine ⟨_, rfl, _, _, rfl, rfl, hm0, ?_⟩
          refine k _ _ (Int.emod_nonneg _ (by omega)) (Int.emod_lt_of_pos _ hm0) ⟨cs, a + 1, _, f, upd_same, by rw [upd_ne npl]; exact hl', by omega, by omega, Int.ediv_nonneg hg (by omega), hf0, hf1⟩ (fun c hc => by rw [upd_ne hc, upd_ne hc])
        · -- mixed
          refine ⟨_, rfl, .inl ⟨_, rfl, ?_⟩⟩
          refine ⟨_, _, rfl, rfl, (show (0 : Int) < 2147483563 by decide), ?_⟩
          refine ⟨_, rfl, p, _, rfl, g_fold hp', .inl ⟨_, rfl, ?_⟩⟩
          refine ⟨_, _, rfl, rfl, ?_⟩
          refine ⟨_, rfl, _, _, rfl, rfl, .inl ⟨by decide, by decide⟩, ?_⟩
          refine ⟨_, _, rfl, rfl, ?_⟩
          have e1 := Int.emod_nonneg c (show (2147483563 : Int) ≠ 0 by decide)
          have e2 := Int.emod_lt_of_pos c (show (0 : Int) < 2147483563 by decide)
          refine ⟨_, _, rfl, rfl, ⟨by decide, by decide, ?_⟩, ?_⟩
          · have : (c % 2147483563 + f + 70001 * a) < 2 ^ 63 := by omega
            omega
          refine .inl ⟨_, rfl, ?_⟩
          refine ⟨_, _, rfl, rfl, (show (0 : Int) < 2147483647 by decide), ?_⟩
          generalize hx : (c % 2147483563 + f + 70001 * a) ^ (3 : Int).toNat % 2147483647 = x
          have e3 : 0 ≤ x := by rw [← hx]; exact Int.emod_nonneg _ (by decide)
          have e4 : x < 2147483647 := by rw [← hx]; exact Int.emod_lt_of_pos _ (by decide)
          refine ⟨_, rfl, ?_⟩
          refine ⟨_, rfl, _, _, rfl, rfl, .inl ⟨by decide, by decide⟩, ?_⟩
          refine ⟨_, rfl, _, _, rfl, rfl, .inr ⟨by omega, by omega⟩, ?_⟩
          refine ⟨_, _, rfl, rfl, ?_⟩
          refine ⟨_, rfl, p, _, rfl, g_fold hp', .inl ⟨_, rfl, ?_⟩⟩
          refine ⟨_, _, rfl, rfl, ⟨by decide, by decide⟩, ?_⟩
          refine ⟨_, _, rfl, rfl, ?_⟩
          have e5 : 0 ≤ 30011 * a * a := Int.mul_nonneg (by omega) ha0
          have e6 : 30011 * a * a ≤ 30011 * 1000000 * 1000000 := Int.mul_le_mul (by omega) (by omega) ha0 (by decide)
          refine ⟨_, _, rfl, rfl, ⟨by decide, by decide, ?_⟩, ?_⟩
          · generalize 30011 * a * a = z at *
            omega
          refine .inl ⟨_, rfl, ?_⟩
          refine ⟨_, _, rfl, rfl, (show (0 : Int) < 2147483587 by decide), ?_⟩
          refine ⟨_, rfl, _, _, rfl, rfl, ⟨by decide, by decide⟩, .inl ⟨_, rfl, ?_⟩⟩
          refine ⟨_, rfl, _, _, rfl, rfl, hm0, ?_⟩
          refine k _ _ (Int.emod_nonneg _ (by omega)) (Int.emod_lt_of_pos _ hm0) ⟨cs, a + 1, r, f, upd_same, hl', by omega, by omega, hr0, hf0, hf1⟩ (fun c hc => upd_ne hc)

theorem ok_pen {f : Addr} {fd : FuncData} (F : Fun K "_law_pen" "_law_pen" s_Lpen f fd) (T : TxP mg) : FnOk P w K mg base CX0 2 f fd ["_law_script"] (spPen K) := by
  refine F.ok sc_Lpen (fun vs H Q E h => ?_) (fun cdv A outer s H vs Q E hr h => ?_)
  · obtain ⟨a, ns, rfl, _⟩ := h
    rfl
  · obtain ⟨a, ns, rfl, hS, hl, k⟩ := h
    refine ⟨_, (pss_cons (ps_set (i := 1) sc_Lpen.nd rfl (Or.inl rfl) pe_int)
  (pss_cons (ps_for PassesOwn.never rfl (pi_list (pe_slice sl_list (pv 0) po_none (po_some pe_int))) (pg_name (i := 2) sc_Lpen.nd rfl (Or.inl rfl))
    (pss_one (ps_set (i := 1) sc_Lpen.nd rfl (Or.inl rfl) (pe_op op_mod (pe_callTy call_int1 (by rfl) T.n_int (by decide +kernel) (pa_cons (pe_op op_add (pe_op op_add (pe_op op_mul (pv 1) pe_int) (pe_op op_mod (pe_callTy call_int1 (by rfl) T.n_int (by decide +kernel) (pa_cons (pv 2) pa_nil)) pe_int)) pe_int) pa_nil)) pe_int))))
  (pss_one (ps_ret (pe_disp (pps_cons pe_str (pe_callTy call_list_of (by rfl) T.n_list (by decide +kernel) (pa_cons (pe_slice sl_list (pv 0) po_none (po_some pe_int)) pa_nil)) (pps_cons pe_str pe_int (pps_cons pe_str pe_int (pps_cons pe_str (pv 1) pps_nil)))) rfl rfl (by decide) (by decide)))))), ?_⟩
    obtain ⟨ms, hms, hml⟩ := cut_map ns none (some 63)
    refine ⟨_, rfl, ?_⟩
    refine ⟨_, rfl, a, _, rfl, hS, fun q hq => ?_⟩
    rw [hms]
    have s1 : Same H (upd H q (.lst (ms.map V.int))) := smN (Same.refl H) hq
    refine ⟨q, rfl, ⟨_, SqL.of upd_same⟩, for_list (K := K) (a := q) (xs := ms.map V.int) (fun i σ H' => H' = upd H q (.lst (ms.map V.int)) ∧ ∃ (f : Int) (v : Option V), 0 ≤ f ∧ f < 2147483629 ∧ σ = [some (.ref a), some (.int f), v])
      ⟨rfl, 97, none, by decide, by decide, rfl⟩ (fun i σ H' _ ⟨e, _⟩ => by rw [e]; exact SqL.of upd_same) ?_ ?_⟩
    · rintro i y σ _ hi ⟨rfl, f, v, hf0, hf1, rfl⟩
      obtain ⟨z, hz, rfl⟩ : ∃ z, ms[i]? = some z ∧ V.int z = y := by
        rw [List.getElem?_map] at hi
        cases e : ms[i]? with
        | none => rw [e] at hi; cases hi
        | some z => rw [e] at hi; exact ⟨z, rfl, Option.some.inj hi⟩
      refine ⟨_, rfl, _, _, rfl, rfl, .inr ⟨by decide, by decide⟩, ?_⟩
      refine ⟨_, rfl, .inl ⟨_, rfl, ?_⟩⟩
      refine ⟨_, _, rfl, rfl, (show (0 : Int) < 2147483629 by decide), ?_⟩
      refine ⟨_, _, rfl, rfl, ?_⟩
      refine ⟨_, _, rfl, rfl, ?_⟩
      refine .inl ⟨_, rfl, ?_⟩
      refine ⟨_, _, rfl, rfl, (show (0 : Int) < 2147483629 by decide), ?_⟩
      exact ⟨rfl, _, _, Int.emod_nonneg _ (by decide), Int.emod_lt_of_pos _ (by decide), rfl⟩
    · rintro σ _ ⟨rfl, f, v, hf0, hf1, rfl⟩
      intro p hp
      have s2 : Same H (upd (upd H q (.lst (ms.map V.int))) p (.dK [])) := smN s1 hp
      refine ⟨_, rfl, ?_⟩
      refine ⟨_, rfl, a, _, rfl, s2.seq hS, fun q2 hq2 => ?_⟩
      rw [hms]
      refine ⟨q2, _, rfl, .inl (SqL.of upd_same), fun l hl => ?_⟩
      refine ⟨_, rfl, ?_⟩
      have nl : l ≠ p := by
        intro e; subst e
        have h : (upd (upd H q (.lst (ms.map V.int))) l (.dK [])) l = some (.dK []) := upd_same
        have h2 := smN (o := .lst (ms.map V.int)) (Same.refl _) hq2 _ _ h
        rw [h2] at hl; cases hl
      have np2 : p ≠ q2 := by
        intro e; subst e; rw [upd_same] at hq2; cases hq2
      refine ⟨by rw [upd_ne nl.symm, upd_ne np2]; exact upd_same, [(.inr "cells", .ref l), (.inr "at", .int 0), (.inr "rest", .int 0), (.inr "fold", .int f)], rfl, (by show 4 ≤ 15; decide), ?_⟩
      rw [merge_pen]
      refine k p l _ (Same.free s1 hp) ((smN s2 hq2).free hl) ?_ ⟨ms, 0, 0, f, upd_same, by rw [upd_ne nl]; exact upd_same, by decide, by decide, by decide, hf0, hf1⟩
      intro b o e
      have e2 := s2 b o e
      rw [upd_ne (ne_of_none (s1 b o e) hp)]
      rw [upd_ne (ne_of_none (smN (Same.refl _) hq2 b o e2) hl), upd_ne (ne_of_none e2 hq2)]
      exact e2
end
end Fb
-- bumped
set_option maxRecDepth 100000
set_option maxHeartbeats 4000000
namespace Fb
open PySem PySem.Spec PyProof.Rows L2
/-! own exceptions as values -/
/-- C(e, ..), C's own __init__ keeping sp: a new exception, held -/
def tExI (C : Addr) (sp : Sp) (dvs : List V) (ta : TA) : TE := fun σ H Q => ta σ H fun vs H1 => vs.length ≤ 1000 ∧ ∀ a, H1 a = none → sp (.ref a :: (vs ++ dvs)) (upd H1 a (exo a C none)) (fun v H2 => v = .non ∧ Q (.ref a) H2) (fun _ _ _ => False)
section
variable {X : Cx} {e : Expr} {es : List Expr} {ta : TA} {p pos : Pos}
theorem pe_exI {CX : CXT} {x : Str} {C fI : Addr} {k : Nat} {fd : FuncData} {ps : List Str} {sp : Sp} {ds : List Value} {dvs : List V} (T : OexC X.K C) (own : PySem.W.findIn X.K (.ref C) "__init__" = some (some (.ref fI))) (isf : PySem.W.typeIn X.K (.ref fI) = some (.type "function"))
    (G : FnOk X.prog X.w X.K X.mg X.base CX k fI fd ps sp) (room : Room (k + 1) X.A) (bnd : Binds X.K fd ps ds) (dfl : Vals dvs ds) (out : Passes CX X (fun _ _ _ => False)) (gl : Gl X x) (at_ : X.mg x = some (.ref C)) (ha : PA X (e :: es) ta)
    (h1 : (x == ("__debug__" : Str)) = false := by decide) (h2 : starEach (e :: es) X.env = (false, eval e X.env) :: starEach es X.env := by rfl) (h3 : (backTo pos (starEach es X.env)).any (·.1) = false := by rfl) :
    PE X (.Call (.Name x p) (e :: es) [] pos) (tExI C sp dvs ta) := by
  constructor
  intro pins s σ H Q I asked
  obtain ⟨_, _, _, _, bm, _, _, _, _, _, _, _, _, _, _, cls, refs⟩ := T.cls
  apply wpAny_Call_Name_kw
  refine ld_glob I gl at_ ?_ h1
  apply PySem.W.callWith_K (h₀ := X.base) I.ok.mod.kin T.kC ?_ h2 h3
  apply thn (ha.run pos pins s σ H _ I asked)
  rintro us ⟨hp, g, dr, tk, os⟩ ⟨vs, H1, I1, rel, few, next⟩
  refine ⟨I1.kIn, ?_⟩
  show wpAny _ _ (call (.ref C) us) _ _ _
  have above : hp.objs.size ≤ hp.objs.size + 1 := Nat.le_succ _
  have q := next (hp.objs.size + 1) (I1.hok.fresh above)
  have made : ((hp.push (PySem.W.kdv_tup us)).push (PySem.HandSPX.excO C hp.objs.size)).get? (hp.objs.size + 1) = some (PySem.HandSPX.excO C hp.objs.size) := by heap_get
  have I2 := I1.laid (t' := tk) (fun b o z => Heap.get?_push_of_some _ (Heap.get?_push_of_some (PySem.W.kdv_tup us) z)) above (exo_ok (H := upd H1 (hp.objs.size + 1) (exo (hp.objs.size + 1) C none)) (P := X.prog) (w := X.w) made)
  have rel2 : Vals (V.ref (hp.objs.size + 1) :: (vs ++ dvs)) (Value.ref (hp.objs.size + 1) :: (us ++ ds)) := .cons rfl (rel.append dfl)
  have len : (Value.ref (hp.objs.size + 1) :: us ++ ds).length = ps.length := rel2.length.symm.trans (G.len _ _ _ _ q)
  have small : us.length ≤ sizeLine := by
    rw [sizeLine_eq, ← Paired.length rel]
    omega
  apply wpAny_call
  refine PySem.HandSPX.call_own PySem.F.excBase_ValueError (fun Y => PySem.HandSPX.refsVE_contains Y bm refs) (I1.kIn _ _ cls) (PySem.W.looks_findIn I1.kIn own) (fun self => PySem.W.bind_fn I1.kIn self isf) small ?_
  refine codeAny_mono (G.run _ X.stack _ _ ⟨Value.ref (hp.objs.size + 1) :: us, []⟩ _ _ _ (fun _ _ _ => False) (room.make C us []) (I2.env0.make C us []) (bnd _ (Value.ref (hp.objs.size + 1) :: us) I2.kIn len) rel2 q) ?_
  intro r s' z
  cases r with
  | error er => exact out pins σ _ _ er s' I2 z
  | ok fl =>
    cases fl with
    | brk => exact (show False from z).elim
    | cont => exact (show False from z).elim
    | next => exact (show False from z).elim
    | ret u =>
      obtain ⟨v, H', I3, rv, rfl, q3⟩ := I2.after z
      exact ⟨rv, V.ref (hp.objs.size + 1), H', I3, rfl, q3⟩
end
/-- at a an exception of the class at C stands, with its own dict or without -/
def ExAt (H : Hp) (a C : Addr) : Prop := H a = some (ExO (.ref C) a) ∨ ∃ (d : Addr) (fs : List (Str × V)), H a = some (exo a C (some d)) ∧ H d = some (exd d fs)
/-- .. with a field -/
def ExFld (H : Hp) (a C : Addr) (fs : List (Str × V)) : Prop := ∃ d : Addr, H a = some (exo a C (some d)) ∧ H d = some (exd d fs)
theorem ExFld.at {H : Hp} {a C : Addr} {fs : List (Str × V)} (h : ExFld H a C fs) : ExAt H a C := by
  obtain ⟨d, h1, h2⟩ := h
  exact .inr ⟨d, fs, h1, h2⟩
theorem ExFld.same {H H' : Hp} {a C : Addr} {fs : List (Str × V)} (h : ExFld H a C fs) (s : Same H H') : ExFld H' a C fs := by
  obtain ⟨d, h1, h2⟩ := h
  exact ⟨d, s _ _ h1, s _ _ h2⟩
theorem ExAt.same {H H' : Hp} {a C : Addr} (h : ExAt H a C) (s : Same H H') : ExAt H' a C := by
  rcases h with h | ⟨d, fs, h1, h2⟩
  · exact .inl (s _ _ h)
  · exact .inr ⟨d, fs, s _ _ h1, s _ _ h2⟩
/-- what the written part says of an exception class, for isinstance and fields -/
structure XC (K : PySem.W.Frag) (C : Addr) : Prop where
  cl : (PySem.W.clsIn K C).isSome = true
  ga : PySem.W.findIn K (.ref C) "__getattribute__" = some (some (.builtin "BaseException.__getattribute__"))
  gg : PySem.W.findIn K (.ref C) "__getattr__" = some none
  sb : PySem.W.subIn K (.ref C) (.type "BaseException") = some true
  ca : PySem.W.findIn K (.ref C) "__class__" = some (some (.builtin "object.__class__"))
  ob : PySem.W.mroIn K C (.type "object") = some true
  hd : PySem.W.hasDictIn K C = true
structure XB (K : PySem.W.Frag) : Prop where
  hn : PySem.W.specialIn K (.builtin "object.__class__") "__get__" = some (some (.builtin "getset_descriptor.__get__"))
  ht : PySem.W.takesIn K (.builtin "object.__class__") = some true
section
variable {X : Cx} {pins : List (Addr × Obj)} {σ : L2.St} {H : Hp} {s : Shared}
theorem ExAt.inst {a C : Addr} (I : Inv X pins σ H s) (h : ExAt H a C) : ∃ ox od, PySem.W.InstAt s.heap a ox C od := by
  rcases h with h | ⟨d, fs, h1, h2⟩
  · obtain ⟨⟨oe, vs, ho, hz, hd, _⟩, _, _⟩ := I.hok a _ h
    refine ⟨oe, none, ho, hz.1, ?_, ?_⟩
    · unfold PySem.W.notCls; rw [hd] <;> rfl
    · rw [hz.2] <;> trivial
  · obtain ⟨t1, ho⟩ := exo_at I.hok h1
    obtain ⟨mA, ⟨o, es, ep, e1, _⟩, _⟩ := exd_at I.hok h2
    exact ⟨_, some o, ho, rfl, rfl, e1⟩
def rIsX (K : PySem.W.Frag) : List V → Hp → VK → Prop := fun xs H Q => ∃ (a C : Addr) (c : V) (cv : Value) (b : Bool), xs = [.ref a, c] ∧ XC K C ∧ XB K ∧ ExAt H a C ∧ ClsV c cv ∧ PySem.W.kitOne K (.ref C) cv = some b ∧ Q (.bl b) H
theorem call_isX : CallR X (.builtin "isinstance") (rIsX X.K) := by
  intro pins s σ H xs us Q I r h
  obtain ⟨a, C, c, cv, b, rfl, T, B, hE, k, e, q⟩ := h
  obtain ⟨u1, u2, rfl, r1, r2⟩ := vals2 r
  have e2 := k.eq r2
  subst e2
  cases (show u1 = Value.ref a from r1)
  obtain ⟨ox, od, J⟩ := hE.inst I
  exact PySem.W.kia_one (PySem.W.kitx_exc T.cl T.ga T.gg T.sb T.ca B.hn B.ht T.ob) I.kIn J e (fun z => nomatch z) fun tk => ⟨.bl b, H, I.tok tk, rfl, q⟩
/-- e.f of an exception that is held -/
def tXat (K : PySem.W.Frag) (f : Str) (te : TE) : TE := fun σ H Q => te σ H fun x H1 => ∃ (a C : Addr) (fs : List (Str × V)) (v : V), x = .ref a ∧ XC K C ∧ PySem.W.findIn K (.ref C) f = some none ∧ ExFld H1 a C fs ∧ fs.lookup f = some v ∧ Q v H1
theorem pe_xat {e : Expr} {te : TE} {f : Str} {pos : Pos} (he : PE X e te) (hb : attributeBase e f X.env (eval e X.env) = eval e X.env := by rfl) : PE X (.Attribute e f pos) (tXat X.K f te) := by
  refine ⟨fun pins s σ H Q I h => ?_⟩
  refine attr_of hb (thn (he.run pins s σ H _ I h) fun u s1 hh => ?_)
  obtain ⟨x, H1, I1, rx, a, C, fs, v, ex, T, hno, ⟨d, h1, h2⟩, hl, q⟩ := hh
  subst ex
  obtain rfl : u = Value.ref a := rx
  obtain ⟨t1, ho⟩ := exo_at I1.hok h1
  obtain ⟨mA, hns, hr⟩ := exd_at I1.hok h2
  obtain ⟨od, hod, hlk⟩ := lookIn_ns hns
  obtain ⟨u, hu, ru⟩ := RelO.some_of (v := v) (o := mA f) (by rw [← hl]; exact hr f)
  have J : PySem.W.InstAt s1.heap a { cls := .ref C, dict := some d, data := .fields #[.ref t1, .none, .none, .none, .bool false, .none] } C (some od) := ⟨ho, rfl, rfl, hod⟩
  exact HandSPX.exc_get I1.kIn J T.ga T.gg T.sb (PySem.W.findObj_own T.hd hno rfl (by rw [hlk, hu])) (handed_of ru) ⟨v, H1, I1.tok _, ru, q⟩
end
end Fb
set_option maxRecDepth 100000
set_option maxHeartbeats 4000000
namespace Fb
open PySem PySem.Spec PyProof.Rows L2
/-! defs whose promise is asked only where no repr is under way -/
/-- no repr is under way -/
abbrev Q0 (A : Around) : Prop := A.guards = some []
structure FnG (P : Program) (w : World) (K : PySem.W.Frag) (mg : Str → Option Value) (base : Heap) (CX : CXT) (k : Nat) (f : Addr) (fd : FuncData) (ps : List Str) (sp : Sp) : Prop where
  many : ∀ {vs H Q E}, sp vs H Q E → vs.length = ps.length
  go : ∀ {A : Around} {outer : List Env} {s : Shared} {H : Hp} {args : Args} {us : List Value} {vs : List V} {Q : VK} {E : XK}, Q0 A → Room k A → Env0 P w K mg base A outer s H →
    BindsTo s fd args (ps.zip us) → Vals vs us → sp vs H Q E → codeAny (model P w) A (.call (.ref f) args) (CR CX outer P w H s Q E) s
section
variable {P : Program} {w : World} {K : PySem.W.Frag} {mg : Str → Option Value} {base : Heap} {CX : CXT} {k : Nat} {f : Addr} {fd : FuncData} {ps : List Str} {sp : Sp}
theorem FnG.of (F : FnOk P w K mg base CX k f fd ps sp) : FnG P w K mg base CX k f fd ps sp :=
  ⟨fun h => F.len _ _ _ _ h, fun _ hr he hb hv h => F.run _ _ _ _ _ _ _ _ _ hr he hb hv h⟩
theorem q0_deeper {A : Around} {env : Env} (h : Q0 A) : Q0 (A.deeper env) := by
  first
    | exact h
    | (obtain ⟨hd, d, fr, gs, u⟩ := A; simp_all [Around.deeper, pushGuards])
end
/-- the rule for a def, its body told where no repr is under way -/
theorem Fun.okG {P : Program} {w : World} {K : PySem.W.Frag} {mg : Str → Option Value} {base : Heap} {CX : CXT} {x qual : Str} {st : Stmt} {f : Addr} {fd : FuncData} {N ps : List Str} {k : Nat} {sp : Sp} (F : Fun K x qual st f fd) (S : FnScope N ps (defScope st))
    (len : ∀ {vs H Q E}, sp vs H Q E → vs.length = ps.length)
    (body : ∀ {cdv : Value} {A : Around} {outer : List Env} {s : Shared} {H : Hp} {vs : List V} {Q : VK} {E : XK}, Q0 (A.deeper (envOfC qual (defScope st) s.heap.objs.size f cdv)) → Room k (A.deeper (envOfC qual (defScope st) s.heap.objs.size f cdv)) → sp vs H Q E →
      ∃ t, PSs (cxOf CX P w K mg base N qual (defScope st) f cdv A outer s H E) (defBody st) t ∧ t { nx := fun _ H' => Q .non H', rt := Q } (start N vs) H) : FnG P w K mg base CX (k + 1) f fd ps sp := by
  obtain ⟨oc, od, kV, doc, pm, an, cdv, ct, osl, rfl, lk, hcd⟩ := F.ex
  refine ⟨len, ?_⟩
  intro A outer s H args us vs Q E hg room env bnd rel asked
  have stays : ∀ b o, base.get? b = some o → s.heap.get? b = some o := fun b o z => (env.bs b o z).1
  have kin : K.In s.heap := env.mod.kin.keeps stays
  have kinds : ∀ y ∈ ps.zip us, (defScope st).names.lookup y.1 = some .local ∨ ((defScope st).names.lookup y.1 = some .cell ∧ ((cellsFrom (s.heap.objs.size + 1) (defScope st).names []).lookup y.1).isSome = true) := by
    rintro ⟨n, v⟩ hy
    rcases S.par n (List.of_mem_zip hy).1 with z | z
    · exact Or.inl z
    · exact Or.inr ⟨z, PySem.W.cellsFrom_some _ _ _ (Or.inl z)⟩
  refine codeAny_call_function room.depth (kin _ _ lk) rfl S.co S.gen rfl (PySem.W.codeRec_of kin hcd) (bnd _ _ _ _ (wpAny_newFunctionEnv_cells S.kind kinds ?_))
  rintro _ rfl s1 born
  refine ⟨(env.mod.nolimit.keeps stays).keeps born.toInCall.keep, codeAny_func ?_⟩
  obtain ⟨t, ht, asked2⟩ := body (outer := outer) (s := s) (q0_deeper hg) (room.deeper _) asked
  have I := inv_start (CX := CX) (E := E) S room.hd env (len asked) rel born
  refine wpAny_mono (ht.run [] s1 _ H _ I asked2) ?_ (fun _ _ z => z)
  intro fl s' z
  cases fl with
  | brk =>
    obtain ⟨_, _, _, q⟩ := z
    exact (show False from q).elim
  | cont =>
    obtain ⟨_, _, _, q⟩ := z
    exact (show False from q).elim
  | next =>
    obtain ⟨σ', H', J, q⟩ := z
    exact ⟨.non, H', J.os, J.bare, J.base, J.hok, rfl, q⟩
  | ret u =>
    obtain ⟨v, σ', H', J, rv, q⟩ := z
    exact ⟨v, H', J.os, J.bare, J.base, J.hok, rv, q⟩
/-- .. that lets no exception out -/
theorem Fun.okG0 {P : Program} {w : World} {K : PySem.W.Frag} {mg : Str → Option Value} {base : Heap} {x qual : Str} {st : Stmt} {f : Addr} {fd : FuncData} {N ps : List Str} {k : Nat} {sp : Sp} (F : Fun K x qual st f fd) (S : FnScope N ps (defScope st))
    (len : ∀ {vs H Q E}, sp vs H Q E → vs.length = ps.length)
    (body : ∀ {cdv : Value} {A : Around} {outer : List Env} {s : Shared} {H : Hp} {vs : List V} {Q : VK} {E : XK}, Q0 (A.deeper (envOfC qual (defScope st) s.heap.objs.size f cdv)) → Room k (A.deeper (envOfC qual (defScope st) s.heap.objs.size f cdv)) → sp vs H Q E →
      ∃ t, PSs (cxOf CX0 P w K mg base N qual (defScope st) f cdv A outer s H E).nox (defBody st) t ∧ t { nx := fun _ H' => Q .non H', rt := Q } (start N vs) H) : FnG P w K mg base CX0 (k + 1) f fd ps sp :=
  Fun.okG F S len fun hg hr h => by
    obtain ⟨t, a, b⟩ := body hg hr h
    exact ⟨t, a.nox, b⟩
section
variable {X : Cx} {CX : CXT} {k : Nat} {f : Addr} {fd : FuncData} {ps : List Str} {sp : Sp} {dvs : List V} {ds : List Value} {E : XK} {x : Str} {p pos : Pos} {e : Expr} {es : List Expr} {t : TA}
/-- f(e, ..), no repr under way -/
theorem pe_callG (hq : Q0 X.A) (F : FnG X.prog X.w X.K X.mg X.base CX k f fd ps sp) (hr : Room k X.A) (hg : Gl X x) (hm : X.mg x = some (.ref f)) (hk : PySem.W.keepIn X.K (.ref f) = true) (hb : Binds X.K fd ps ds) (hd : Vals dvs ds) (hx : Passes CX X E)
    (ha : PA X (e :: es) t) (hdb : (x == ("__debug__" : Str)) = false := by decide) (he : starEach (e :: es) X.env = (false, eval e X.env) :: starEach es X.env := by rfl) (hpl : (backTo pos (starEach es X.env)).any (·.1) = false := by rfl) :
    PE X (.Call (.Name x p) (e :: es) [] pos) (tCall sp dvs E t) := by
  constructor
  intro pins s σ H Q I h
  apply wpAny_Call_Name_kw
  refine ld_glob I hg hm ?_ hdb
  apply PySem.W.callWith_K (h₀ := X.base) I.ok.mod.kin hk ?_ he hpl
  apply thn (ha.run pos pins s σ H _ I h)
  rintro us s1 ⟨vs, H1, I1, rel, asked⟩
  have rel2 : Vals (vs ++ dvs) (us ++ ds) := rel.append hd
  have hl : (us ++ ds).length = ps.length := rel2.length.symm.trans (F.many asked)
  refine ⟨I1.kIn, wpAny_call (codeAny_mono (F.go hq hr I1.env0 (hb s1 us I1.kIn hl) rel2 asked) ?_)⟩
  intro r s' z
  cases r with
  | error er => exact hx pins σ _ _ er s' I1 z
  | ok fl =>
    cases fl with
    | ret u => exact I1.after z
    | brk => exact (show False from z).elim
    | cont => exact (show False from z).elim
    | next => exact (show False from z).elim
end
/-! the law's own call -/
section
variable {P : Program} {w : World} {K : PySem.W.Frag} {mg mb : Str → Option Value} {CX : CXT} {k : Nat} {fa a : Addr} {fd : FuncData} {x : Str} {sp : Sp} {s₁ : Shared} {vs : List Value} {ns : List Int}
/-- what the law's def is asked from outside, H telling of nothing but the script -/
theorem law_core (kin : K.In s₁.heap) (hns : s₁.heap.Ns mainGlobals mg) (hb : s₁.heap.Ns builtinsNs mb) (hbb : ∀ x : Str, x ≠ "__name__" → mb x = bootBuiltins x) (hlim : s₁.heap.NoLimit) (hg : s₁.gens = #[])
    (ha : s₁.heap.get? a = some { cls := .type "list", data := .seq vs.toArray }) (room : Room k callerA)
    (F : ∀ base : Heap, K.In base → base.Ns mainGlobals mg → FnG P w K mg base CX k fa fd [x] sp) (bnd : ∀ (s : Shared) (u : Value), BindsTo s fd ⟨[u], []⟩ [(x, u)])
    (hCX : ∀ H e s', CX [] H s₁ (fun _ _ _ => False) e s' → False) {H : Hp} (only : Only H) (asked : sp [.ref a] H (fun v _ => v = .bl true) fun _ _ _ => False) (hok : HOk P w H s₁.heap)
    (hA : ∀ {b u}, H b = some u → b = a) (hK : ∀ {u}, H a = some u → K.lookup a = none) :
    codeAny (model P w) callerA (.call (.ref fa) ⟨[.ref a], []⟩) (fun r s' => r = .ok (.ret (.bool true)) ∧ OldK s₁.heap s'.heap ∧ s'.os = s₁.os ∧ AllBare s'.gens) s₁ := by
  have seen : ∀ {b : Addr} {o : Obj}, s₁.heap.get? b = some o → (∀ u, H b = some u → False) → (hidT s₁.heap H).get? b = some o := fun {b o} z n =>
    hidT_get z (by cases q : H b with | none => rfl | some u => exact (n u q).elim)
  have seenNs : ∀ {b : Addr} {m : Str → Option Value}, s₁.heap.Ns b m → (hidT s₁.heap H).Ns b m := by
    rintro b m ⟨o, es, ep, z, d, r⟩
    refine ⟨o, es, ep, seen z fun u q => ?_, d, r⟩
    have e := hA q
    subst e
    rw [ha] at z
    cases z
    exact nomatch d
  have kin2 : K.In (hidT s₁.heap H) := fun b o z => seen (kin b o z) fun u q => by
    have e := hA q
    subst e
    rw [hK q] at z
    cases z
  obtain ⟨mc, l1, l2⟩ := hlim
  have e0 : Env0 P w K mg (hidT s₁.heap H) callerA [] s₁ H := ⟨rfl, ⟨kin2, seenNs hns, ⟨mb, seenNs hb, hbb⟩, ⟨mc, seenNs l1, l2⟩⟩, fun b o z => of_hidT z, Nat.le_of_eq (hidT_size _ _), trivial, (fun b z => nomatch z), hok, .of_eq hg⟩
  refine codeAny_mono ((F _ kin2 (seenNs hns)).go (show Q0 callerA from rfl) room e0 (us := [.ref a]) (vs := [.ref a]) (bnd s₁ (.ref a)) (.cons rfl .nil) asked) ?_
  intro r s' z
  cases r with
  | error e => exact (hCX H e s' z).elim
  | ok fl =>
    cases fl with
    | brk => exact (show False from z).elim
    | cont => exact (show False from z).elim
    | next => exact (show False from z).elim
    | ret u =>
      obtain ⟨v, H', os, bare, un, hok', rv, rfl⟩ := z
      cases (show u = Value.bool true from rv)
      refine ⟨rfl, OldK.of_keep fun b o z => ?_, os, bare⟩
      rcases only b with n | ⟨ob, xs, n⟩
      · exact un.keep b o z n (fun q => nomatch q) (fun q => nomatch q)
      · obtain ⟨z1, _⟩ := hok b _ n
        obtain ⟨z2, _⟩ := hok' b _ (un.frzs b ob _ n)
        rw [z2, ← z1, z]
theorem law_callG (kin : K.In s₁.heap) (hns : s₁.heap.Ns mainGlobals mg) (hb : s₁.heap.Ns builtinsNs mb) (hbb : ∀ x : Str, x ≠ "__name__" → mb x = bootBuiltins x) (hlim : s₁.heap.NoLimit) (hg : s₁.gens = #[])
    (ha : s₁.heap.get? a = some { cls := .type "list", data := .seq vs.toArray }) (hi : IntsAre vs ns) (hl : ns.length ≤ sizeLine) (room : Room k callerA)
    (F : ∀ base : Heap, K.In base → base.Ns mainGlobals mg → FnG P w K mg base CX k fa fd [x] sp) (bnd : ∀ (s : Shared) (u : Value), BindsTo s fd ⟨[u], []⟩ [(x, u)])
    (hsp : ∀ H : Hp, Only H → SqL K H a (ns.map V.int) → sp [.ref a] H (fun v _ => v = .bl true) fun _ _ _ => False)
    (hCX : ∀ H e s', CX [] H s₁ (fun _ _ _ => False) e s' → False) :
    codeAny (model P w) callerA (.call (.ref fa) ⟨[.ref a], []⟩) (fun r s' => r = .ok (.ret (.bool true)) ∧ OldK s₁.heap s'.heap ∧ s'.os = s₁.os ∧ AllBare s'.gens) s₁ := by
  have rel : Vals (ns.map V.int) vs := vals_ints hi
  cases hk : K.lookup a with
  | some o =>
    have z := kin a o hk
    rw [ha] at z
    cases z
    have only : Only (fun _ => none) := fun _ => Or.inl rfl
    refine law_core kin hns hb hbb hlim hg ha room F bnd hCX only (hsp _ only (Or.inr ⟨_, vs.toArray, _, hk, rfl, rfl, rfl, ?_, ?_⟩)) ?_ ?_ ?_
    · rw [List.size_toArray, hi.length]
      exact hl
    · simpa using rel
    · exact fun b u z => nomatch z
    · exact fun z => nomatch z
    · exact fun z => nomatch z
  | none =>
    let H0 : Hp := fun b => if b = a then some (.frz { cls := .type "list", data := .seq vs.toArray } (.lst (ns.map V.int))) else none
    have at0 : H0 a = some (.frz { cls := .type "list", data := .seq vs.toArray } (.lst (ns.map V.int))) := if_pos rfl
    have off : ∀ {b u}, H0 b = some u → b = a := fun {b u} z => by
      by_cases e : b = a
      · exact e
      · have z2 : H0 b = none := if_neg e
        rw [z2] at z
        cases z
    have only : Only H0 := fun b => by
      by_cases e : b = a
      · rw [e]
        exact Or.inr ⟨_, _, at0⟩
      · exact Or.inl (if_neg e)
    refine law_core kin hns hb hbb hlim hg ha room F bnd hCX only (hsp _ only (Or.inl (Or.inr ⟨_, at0⟩))) (fun b u z => ?_) off (fun _ => hk)
    have e := off z
    subst e
    rw [at0] at z
    cases z
    exact ⟨ha, by rw [List.length_map]; exact hl, vs, _, rel, ha⟩
end
/-- the goal that k_head leaves, from the law's promise over FnG -/
theorem walk_ofG {l : PySem.W.OpenLaw} {n k : Nat} {q : Program} {loose : List Str} {XP : (Str → Option Value) → Heap → Prop} {YP : World → Heap → Prop} {d : DefRec} {K : Params → PySem.W.Frag} {CX : World → CXT} {sp : World → Sp} {x : Str}
    (hn : l.most = some n) (hn2 : n ≤ sizeLine) (hdf : d.params.defaults = []) (hr : Room k callerA) (hY : ∀ (w : World) (h : Heap), YP w h → (K w.params).In h)
    (F : ∀ (w : World) (mg : Str → Option Value) (fa : Addr) (h : Heap), (K w.params).In h → h.Ns mainGlobals mg → mg d.name = some (.ref fa) →
      ∃ fd : FuncData, (∀ (s : Shared) (u : Value), BindsTo s fd ⟨[u], []⟩ [(x, u)]) ∧ ∀ base : Heap, (K w.params).In base → base.Ns mainGlobals mg → FnG l.prog w (K w.params) mg base (CX w) k fa fd [x] (sp w))
    (hsp : ∀ (w : World) (H : Hp) (a : Addr) (ns : List Int), ns.length ≤ n → Only H → SqL (K w.params) H a (ns.map V.int) → sp w [.ref a] H (fun v _ => v = .bl true) fun _ _ _ => False)
    (hCX : ∀ (w : World) (H : Hp) (s : Shared) (e : Value) (s' : Shared), CX w [] H s (fun _ _ _ => False) e s' → False) : PySem.W.WalkO q loose XP YP l.row.toRowW d [] (fun f vs => PySem.call f vs) := by
  apply Att.attach_call hn hdf
  intro w s₀ s₁ mg mb fa o pm cd doc a vs ns G Y _ _ _ hmg hobj hints hlen hg
  obtain ⟨fd, bnd, hF⟩ := F w mg fa _ (hY w _ Y) G.T.g hmg
  exact law_callG (hY w _ Y) G.T.g G.T.b G.T.builtins G.T.nolimit hg hobj hints (Nat.le_trans hlen hn2) hr hF bnd (fun H only hS => hsp w H a ns hlen only hS) (fun H e s' => hCX w H s₁ e s')
/-! repr of data; how often a truth value stands in a list -/
section
variable {X : Cx}
def rRepr (K : PySem.W.Frag) : List V → Hp → VK → Prop := fun xs H Q => ∃ (x : V) (d : PyData), xs = [x] ∧ Dp K H x d ∧ d.showable = true ∧ d.hasDict = false ∧ d.depth ≤ 60 ∧ d.shown.length ≤ sizeLine ∧ Q (.str d.shown) H
theorem call_repr (hq : Q0 X.A) (hu : X.A.units + 64 < cLine) : CallR X (.builtin "repr") (rRepr X.K) := by
  intro pins s σ H xs us Q I r h
  obtain ⟨x, d, rfl, hd, hs, hnd, hdep, hsz, q⟩ := h
  obtain ⟨u, rfl, ru⟩ := vals1 r
  have done : ∀ (h' : Heap) (t tk : Tok), (∀ b o, s.heap.get? b = some o → h'.get? b = some o) → EP X pins σ Q (.str d.shown t) { s with heap := h', toks := tk } :=
    fun h' t tk k => ⟨.str d.shown, H, I.kept k, ⟨t, rfl⟩, q⟩
  cases hd with
  | non =>
    cases (show u = Value.none from ru)
    exact PySem.P.repr_of_none (done s.heap _ _ fun _ _ z => z)
  | bl b =>
    cases (show u = Value.bool b from ru)
    have e : PyData.shown (.bool b) = (if b then "True" else "False" : Str) := by simp only [PyData.shown]
    rw [e] at done
    exact PySem.P.repr_of_bool (by cases b <;> exact done s.heap _ _ fun _ _ z => z)
  | int i =>
    obtain ⟨t, rfl⟩ := (show ∃ t, u = Value.int i t from ru)
    have e : PyData.shown (.int i) = toString i := by simp only [PyData.shown]
    rw [e] at done
    exact PySem.P.repr_of_int (by simpa [PyData.showable] using hs) (done s.heap _ _ fun _ _ z => z)
  | str y =>
    obtain ⟨t, rfl⟩ := (show ∃ t, u = Value.str y t from ru)
    have e : PyData.shown (.str y) = reprText y := by simp only [PyData.shown]
    rw [e] at done hsz
    exact PySem.P.repr_of_str (done s.heap _ _ fun _ _ z => z) hsz
  | @lst a ys ds h1 h2 =>
    obtain ⟨as, rd⟩ := Dp.reads I (.list ds) _ u (.lst h1 h2) ru
    cases (show u = Value.ref a from ru)
    exact PySem.repr_of_reads' rd hs (PyData.noDict_hsm hnd) hq (by omega) (fun _ _ z => z) (fun h' t tk k => done h' t tk k) hsz
  | @tup a ys ds h1 h2 =>
    obtain ⟨as, rd⟩ := Dp.reads I (.tuple ds) _ u (.tup h1 h2) ru
    cases (show u = Value.ref a from ru)
    exact PySem.repr_of_reads' rd hs (PyData.noDict_hsm hnd) hq (by omega) (fun _ _ z => z) (fun h' t tk k => done h' t tk k) hsz
theorem dp_bools {K : PySem.W.Frag} {H : Hp} : ∀ bs : List Bool, DpAll K H (bs.map V.bl) (bs.map PyData.bool)
  | [] => .nil
  | b :: bs => .cons (.bl b) (dp_bools bs)
theorem countIn_bools (k : Bool) : ∀ bs : List Bool, countIn (.bool k) (bs.map PyData.bool) = ((bs.count k : Nat) : Int)
  | [] => by simp [countIn]
  | b :: bs => by
    rw [List.map_cons, countIn, countIn_bools k bs, List.count_cons]
    simp only [same]
    cases b <;> cases k <;> simp <;> omega
def rCntB (K : PySem.W.Frag) : V → List V → Hp → VK → Prop := fun x xs H Q => ∃ (p : Addr) (bs : List Bool) (k : Bool), x = .ref p ∧ xs = [.bl k] ∧ SqL K H p (bs.map V.bl) ∧ Q (.int (bs.count k : Nat)) H
theorem mt_lcountB : MtR X "list.count" (rCntB X.K) := by
  intro pins s σ H x xs v us Q I rx rxs h
  obtain ⟨p, bs, k, rfl, rfl, hs, q⟩ := h
  cases rx
  obtain ⟨u, rfl, ru⟩ := rxs.one
  cases (show u = Value.bool k from ru)
  obtain ⟨its, rv, ⟨ob, n, ho, hc, _, hdat⟩, _⟩ := I.list hs
  obtain ⟨as, rd⟩ := Dp.readsAll I _ _ its (dp_bools bs) rv
  have all : (bs.map PyData.bool).all Shape.bool.has = true := by
    rw [List.all_eq_true]
    intro d hd
    obtain ⟨b, _, rfl⟩ := List.mem_map.mp hd
    rfl
  refine count_list_bools (vs := its) ⟨ob, ho, hc, n, hdat⟩ rd all ?_
  rw [countIn_bools]
  exact ⟨.int (bs.count k : Nat), H, I.tok _, ⟨_, rfl⟩, q⟩
end
end Fb
set_option maxRecDepth 100000
set_option maxHeartbeats 4000000
namespace Fb
open PySem PySem.Spec PyProof.Rows L2
/-! an exception that was caught and is kept: try: .. except X as e: y = e -/
/-- at a: an exception of the class cls, its own dict at d -/
def ExR (cls : Value) (d : Option Addr) (a : Addr) : HO := .ext fun h => ∃ (oe : Obj) (vs : Array Value), h.get? a = some oe ∧ oe.cls = cls ∧ oe.dict = d ∧ oe.data = .fields vs
section
variable {X : Cx} {pins : List (Addr × Obj)} {σ : L2.St} {H : Hp} {s : Shared}
/-- an object of ours that nothing tells of is taken up -/
theorem adopt {a : Addr} {oe : Obj} {vs : Array Value} {cls : Value} {d : Option Addr} (I : Inv X ((a, oe) :: pins) σ H s) (new : ∀ o, X.s_0.heap.get? a = some o → False) (np : ∀ p ∈ X.pn ++ pins, p.1 ≠ a) (z : Zc cls d oe) (dat : oe.data = .fields vs) : Inv X pins σ (upd H a (ExR cls d a)) s := by
  obtain ⟨he, hn, hL, hF, _⟩ := I.pin (a, oe) (List.mem_append_right _ List.mem_cons_self)
  have old : ∀ {b : Addr} {o : HO}, H b = some o → upd H a (ExR cls d a) b = some o := fun {b o} q => (upd_ne (ne_of_none q hn)).trans q
  have off : ∀ {b : Addr}, b ≠ a → H b = none → upd H a (ExR cls d a) b = none := fun q n => (upd_ne q).trans n
  have nc : ∀ {x : Str} {c : Addr}, X.env.cells.lookup x = some c → c ≠ a := by
    intro x c e q
    obtain ⟨v, o, ho, hd⟩ := I.cell x c e
    subst q
    have he' : s.heap.get? c = some oe := he
    rw [ho] at he'
    cases he'
    rw [dat] at hd
    cases hd
  have n0 : ∀ {b : Addr} {o : Obj}, X.s_0.heap.get? b = some o → b ≠ a := fun {b o} q e => new o (by rw [← e]; exact q)
  constructor
  · exact I.ok
  · exact I.os
  · exact I.bare
  · constructor
    · exact I.base.keep
    · exact I.base.slot
    · exact fun b o q n x => off (n0 q) (I.base.free b o q n x)
    · exact I.base.there
    · exact fun b xs q => old (I.base.tups b xs q)
    · exact fun b o u q => old (I.base.frzs b o u q)
    · intro b ps q
      obtain ⟨more, e⟩ := I.base.tbls b ps q
      exact ⟨more, old e⟩
  · exact I.loc
  · exact I.cell
  · exact off (Ne.symm hL) I.free
  · exact fun x c e => off (nc e) (I.freeC x c e)
  · intro p hp
    have hp' : p ∈ X.pn ++ (a, oe) :: pins := by
      rcases List.mem_append.mp hp with h | h
      · exact List.mem_append_left _ h
      · exact List.mem_append_right _ (List.mem_cons_of_mem _ h)
    obtain ⟨h1, h2, h3, h4, h5⟩ := I.pin p hp'
    exact ⟨h1, off (np p hp) h2, h3, h4, h5⟩
  · intro b o q
    by_cases e : b = a
    · subst e
      rw [upd_same] at q
      cases q
      exact ⟨⟨oe, vs, he, z.1, z.2, dat⟩, ⟨oe, he⟩, fun h1 h2 ⟨o', v', q, r⟩ k => ⟨o', v', k _ q, r⟩⟩
    · rw [upd_ne e] at q
      exact (I.hok b o q).stay (fun c u _ r => r) (fun c r => old r) (fun c xs r => old r)
  · exact I.len
end
/-- what the clause does: y holds the exception, its own name goes -/
def wHold (K : PySem.W.Frag) (c : Value) (i j : Nat) (Wout : WX) (D : Ends) : WX := fun cls d σ H =>
  ∃ b, PySem.W.exmOne K cls c = some b ∧ (b = true → ∀ a, H a = none → D.nx (((σ.set i (some (.ref a))).set j (some (.ref a))).set i none) (upd H a (ExR cls d a))) ∧ (b = false → Wout cls d σ H)
section
variable {X : Cx} {x n y : Str} {c : Value} {i j : Nat} {body : List Stmt} {np pos pos' p1 p2 p3 : Pos} {tb : WX → TS} {Wout : WX}
theorem ps_try_hold (hs : X.stack = X.env :: X.outer) (hf : X.env.frame = some X.env.locals) (hex : X.ex = []) (hN : X.N.Nodup) (hi : X.N[i]? = some n) (hj : X.N[j]? = some y) (hln : X.env.kindOf n = some .local) (hly : X.env.scope.names.lookup y = some .local) (hc : Names X x c) (tk : Takes X Wout)
    (hdn : (n == ("__debug__" : Str)) = false) (hcn : (n == ("__classdict__" : Str)) = false)
    (hb : ∀ (W : WX) (pn : List (Addr × Obj)) (xe : Value → Shared → Prop), Takes (X.tr pn xe) W → PassesOwn (model X.prog X.w) X.A X.env xe → PSs (X.tr pn xe) body (tb W)) :
    PS X (.Try body [.ExceptHandler (some (.Name x np)) (some n) [.Assign [.Name y p1] (.Name n p2) p3] pos'] [] [] pos) (fun D σ H => tb (wHold X.K c i j Wout D) D σ H) := by
  constructor
  intro pins s σ H D I asked
  have ok := I.ok
  have frames : X.A.frames = some (X.env :: X.outer) := by rw [ok.frames, hs]
  apply wpAny_Try_except
  let clauses : List ExceptHandler := [.ExceptHandler (some (.Name x np)) (some n) [.Assign [.Name y p1] (.Name n p2) p3] pos']
  let behind : Value → Shared → Prop := fun e s₁ => wpAny (model X.prog X.w) X.A (noteFrame e X.env) (fun _ s₂ => wpAny (model X.prog X.w) X.A (setFlight e none) (fun _ s₃ => wpAny (model X.prog X.w) X.A (handleBy e X.env clauses) (SP X pins D) X.xe s₃) X.xe s₂) X.xe s₁
  have caught : Takes (X.tr (X.pn ++ pins) behind) (wHold X.K c i j Wout D) := by
    rintro u s' ⟨a, B, sI, pins', σ', H', cls, d, rfl, J', ground, up, sky, na, os, ag, b, eb, yes, no⟩
    have J : Inv X pins σ' H' sI := J'.ofTry ok
    have Ba : B.get? a = none := by
      rcases sky with h | h | h
      · exact h.2.1
      · exact h.2.1
      · exact h.2.1
    have sky' : Sky B (X.env :: X.outer) a (Zc cls d) X.env.locals s'.heap := by rw [← hs]; exact sky
    show wpAny (model X.prog X.w) X.A (noteFrame (.ref a) X.env) _ _ _
    refine Sky.land Zc.steady frames hf sky' fun h3 fl3 up3 => ?_
    have J3 : Inv X pins σ' H' { s' with heap := h3 } := J.landed ground fl3.1 (up.trans up3) os ag
    obtain ⟨oe3, vs3, he3, hz3, hd3⟩ := fl3.there
    have nofr : a ∉ frs (X.env :: X.outer) := by
      intro hm
      obtain ⟨_, o', e', hnf⟩ := fl3.2.2.1.mem hm
      rw [he3] at e'
      cases e'
      exact hnf _ hd3
    have nL : a ≠ X.env.locals := fun q => nofr (List.mem_filterMap.mpr ⟨X.env, List.mem_cons_self, by rw [hf, q]⟩)
    have nF : a ∉ X.fs := by
      intro hm
      obtain ⟨e, he, q⟩ := List.mem_filterMap.mp hm
      exact nofr (List.mem_filterMap.mpr ⟨e, List.mem_cons_of_mem _ he, q⟩)
    have inI : ∀ {o : Obj}, sI.heap.get? a = some o → False := fun {o} q => by
      have z := ground a o q (by rw [hs]; exact nofr)
      rw [Ba] at z
      cases z
    have new : ∀ o, X.s_0.heap.get? a = some o → False := fun o q => by
      obtain ⟨o', q'⟩ := J.base.there a o q (by rw [hex]; exact fun z => nomatch z)
      exact inI q'
    have others : ∀ p ∈ X.pn ++ pins, p.1 ≠ a := fun p hp q => by
      have z := (J.pin p hp).1
      rw [q] at z
      exact inI z
    have S3 := J3.suite he3 hd3 na nL nF
    refine wpAny_handleBy_cons (codeAny_handlers_test ?_) (fun q => by cases q)
    have LT1 : PySem.W.Looks (model X.prog X.w) h3 (typeOf (.ref a)) cls := fun A Q E s k q => wpAny_typeOf_ref (k _ _ he3) (by rw [hz3.1]; exact q)
    have LT2 := PySem.W.exm_one (M := model X.prog X.w) J3.kIn LT1 eb
    have name : ∀ {Q : Value → Shared → Prop} {E : Value → Shared → Prop}, Q c { s' with heap := h3 } → wpAny (model X.prog X.w) (X.A.mark (some (.ref a))) (eval (.Name x np) X.env) Q E { s' with heap := h3 } := by
      intro Q E q
      obtain ⟨g1, g2, g3 | ⟨g3, g4, g5⟩⟩ := hc
      · exact ld_glob (X := X.suite a ((a, oe3) :: (X.pn ++ pins))) S3 g1 g3 q g2
      · exact ld_blt (X := X.suite a ((a, oe3) :: (X.pn ++ pins))) S3 g1 g3 g4 q g5 g2
    refine name (LT2.here ?_)
    cases b with
    | true =>
      refine codeAny_handlers_suite_as (HandSPX.lands_againZ fl3 fun h4 fl4 up4 => ?_)
      have J4 : Inv X pins σ' H' { s' with heap := h4 } := J.landed ground fl4.1 ((up.trans up3).trans up4) os ag
      obtain ⟨oe4, vs4, he4, hz4, hd4⟩ := fl4.there
      have S4 := J4.suite he4 hd4 na nL nF
      refine store_ok (X := X.suite a ((a, oe4) :: (X.pn ++ pins))) (v := .ref a) S4 hN hi (Or.inl hln) rfl (fun s5 S5 => ?_) (Or.inr hln)
      have rd : PE (X.suite a ((a, oe4) :: (X.pn ++ pins))) (.Name n p2) (tVar i) := pe_var hi (Or.inl hln) hdn hcn
      have st : PSs (X.suite a ((a, oe4) :: (X.pn ++ pins))) [.Assign [.Name y p1] (.Name n p2) p3] (tAsg (tVar i) (gName j)) := pss_one (ps_set hN hj (Or.inl hly) rd (by rfl) (Or.inr hly))
      have li : i < σ'.length := by
        rw [J.len]
        exact (List.getElem?_eq_some_iff.mp hi).1
      refine wpAny_mono (st.run [] s5 _ H' { nx := fun σ6 H6 => σ6 = (σ'.set i (some (.ref a))).set j (some (.ref a)) ∧ H6 = H', rt := fun _ _ => False, bk := fun _ _ => False, ct := fun _ _ => False } S5 ⟨_, List.getElem?_set_self li, rfl, rfl⟩) ?_ (fun _ _ z => (show False from z).elim)
      intro f s6 z
      have J6 : ∀ {σ6 : L2.St} {H6 : Hp}, Inv (X.suite a ((a, oe4) :: (X.pn ++ pins))) [] σ6 H6 s6 → Inv X ((a, oe4) :: pins) σ6 H6 s6 := fun {σ6 H6} I6 =>
        ⟨ok, I6.os, I6.bare, I6.base, I6.loc, I6.cell, I6.free, I6.freeC, fun p hp => I6.pin p (by
          rw [List.append_nil]
          rcases List.mem_append.mp hp with h | h
          · exact List.mem_cons_of_mem _ (List.mem_append_left _ h)
          · rcases List.mem_cons.mp h with h | h
            · rw [h]; exact List.mem_cons_self
            · exact List.mem_cons_of_mem _ (List.mem_append_right _ h)), I6.hok, I6.len⟩
      cases f with
      | next =>
        obtain ⟨σ6, H6, S6, rfl, rfl⟩ := z
        refine gone_ok (J6 S6) hN hi hln fun s7 J7 => ?_
        exact ⟨_, _, adopt J7 new others hz4 hd4, yes rfl a na⟩
      | brk =>
        obtain ⟨_, _, _, q⟩ := z
        exact (show False from q).elim
      | cont =>
        obtain ⟨_, _, _, q⟩ := z
        exact (show False from q).elim
      | ret u =>
        obtain ⟨_, _, _, _, _, q⟩ := z
        exact (show False from q).elim
    | false =>
      show wpAny _ X.A (handleBy (.ref a) X.env []) _ _ _
      apply wpAny_handleBy_nil
      obtain ⟨_, _, _, oe, vs, T, oT, ts', he, hz, hd, h1, hr⟩ := id fl3
      have up_ : wpAny (model X.prog X.w) X.A (setFlight (.ref a) X.env.frame) (fun _ s4 => wpAny (model X.prog X.w) X.A (throw (.ref a) : Sem Flow) (SP X pins D) X.xe s4) X.xe { s' with heap := h3 } := by
        rw [hf]
        refine HandSPX.setFlight_upZ fl3 fun h4 hh4 up4 => wpAny_throw (tk _ _ ?_)
        exact ⟨a, B, sI, pins, σ', H', cls, d, rfl, J, ground, (up.trans up3).trans up4, Or.inr (Or.inr (by rw [hs]; exact hh4)), na, os, ag, no rfl⟩
      unfold PySem.passOn
      refine wpAny_bind (wpAny_field he hd h1 ?_)
      rw [if_neg (show ¬ ((Value.ref T == Value.none) = true) from by simp)]
      first
        | exact wpAny_bind (wpAny_pure (wpAny_bind up_))
        | exact wpAny_bind up_
  refine wpAny_mono ((hb _ _ behind caught PassesOwn.looking).run [] s σ H D (I.toTry _) asked) ?_ (fun e s1 he => he)
  intro f s1 z
  cases f with
  | next =>
    obtain ⟨σ', H', J', q⟩ := z
    exact wpAny_execs_nil ⟨σ', H', J'.ofTry ok, q⟩
  | brk =>
    obtain ⟨σ', H', J', q⟩ := z
    exact ⟨σ', H', J'.ofTry ok, q⟩
  | cont =>
    obtain ⟨σ', H', J', q⟩ := z
    exact ⟨σ', H', J'.ofTry ok, q⟩
  | ret u =>
    obtain ⟨v, σ', H', J', r, q⟩ := z
    exact ⟨v, σ', H', J'.ofTry ok, r, q⟩
end
end Fb
set_option maxRecDepth 100000
set_option maxHeartbeats 4000000
namespace Fb
open PySem PySem.Spec PyProof.Rows L2
/-! walks that yield new tuples of what is known beforehand: enumerate(text), zip(text, text), zip of three -/
def ItT (vals : Nat → List V) (n : Nat) : It := ⟨fun i _ => i < n, fun i H v H' => ∃ T, v = .ref T ∧ H T = none ∧ H' = upd H T (.tup (vals i)), fun i _ => i = n⟩
theorem turn_T {P : Program} {w : World} {K : PySem.W.Frag} {elts : List Expr} {kk : Nat} {tpos : Pos} {it : Addr} {fp wr : List Addr} {n : Nat} {Pt : Nat → Array Value → Prop} {St : Nat → Heap → Prop} {Mid : Nat → Addr → Heap → Prop} {vals : Nat → List V}
    (W : ∀ A : Around, A.handled = none → WalksT P w A it fp wr n Pt St Mid) (mem : it ∈ fp) (obj : ∀ i h, St i h → ∀ b ∈ fp, ∃ o, h.get? b = some o ∧ ∀ v, o.data ≠ .cell v)
    (tell : ∀ i a, Pt i a → Vals (vals i) a.toList) (few : ∀ i, (vals i).length ≤ sizeLine)
    (self : ∀ (A : Around) (i : Nat) (s : Shared) (Q : Value → Shared → Prop) (E : Value → Shared → Prop), St i s.heap → Q (.ref it) s → wpAny (model P w) A (pyIter (.ref it)) Q E s) : Turn P w K (.Tuple elts kk tpos) (ItT vals n) fp it St where
  mem := mem
  obj := obj
  keep := fun i h h' st k => (W {} rfl).frame i h h' st k
  item := by
    rintro X rfl rfl rfl calm i pins s σ H E I apart st go
    have w := W X.A (I.ok.hd calm)
    refine w.item i s _ _ go st fun T a h' tk pt young isT mid keep => ⟨_, rfl, w.go elts kk tpos i T _ _ _ mid fun h'' st' keep2 => ?_⟩
    obtain ⟨o, ho, hc, m, hd⟩ := isT
    have ho2 : h''.get? T = some o := keep2 T o (w.apart i T _ mid) ho
    have J : Inv X pins σ (upd H T (.tup (vals i))) { s with heap := h'', toks := tk } := by
      refine I.turnedNew (ch := wr) (fun b u hb q => keep2 b u hb (keep b u hb q)) (fun b hb => apart b (w.sub b hb)) young ⟨few i, a.toList, tell i a pt, o, ho2, hc, m, ?_⟩
      rw [hd]
    refine ⟨.ref T, _, J, rfl, ⟨T, rfl, I.hok.fresh young, rfl⟩, st', fun b hb => ?_⟩
    obtain ⟨ob, hb2, _⟩ := obj i _ st b hb
    rw [upd_ne (Nat.ne_of_lt (Nat.lt_of_lt_of_le (Heap.lt_size hb2) young))]
    exact (apart b hb).1
  done := by
    rintro X rfl rfl rfl calm i pins s σ H E I apart st stop
    have w := W X.A (I.ok.hd calm)
    cases (show i = n from stop)
    exact w.done s _ _ st fun h' tk keep => ⟨rfl, I.turnedL (ch := wr) keep fun b hb => apart b (w.sub b hb)⟩
  self := self
/-- the sign of a text at a place -/
def sgn (x : Str) (i : Nat) : Str := ⟨#[x.cps.getD i 0]⟩
theorem sgn_at {x : Str} {i c : Nat} (h : x.cps[i]? = some c) : (⟨#[c]⟩ : Str) = sgn x i := by
  unfold sgn
  rw [Array.getD_eq_getD_getElem?, h] <;> rfl
abbrev PTx (x : Str) : Nat → Value → Prop := fun i v => ∃ c u, x.cps[i]? = some c ∧ v = .str ⟨#[c]⟩ u
theorem draws_text {prog : Program} {w : World} {A : Around} (hh : A.handled = none) (it : Addr) (x : Str) (t : Tok) : Draws prog w A it [it] x.cps.size (PTx x) (fun i h => h.IsStrIter it (strIterType x) x t i) := by
  unfold strIterType
  cases h : x.cps.all (· < 128)
  · exact Draws.strWide hh it x t
  · exact Draws.strAscii hh it x t
theorem text_begun {x : Str} {t : Tok} {h : Heap} {it : Addr} (e : h.get? it = some { cls := .type (strIterType x), data := .fields #[.str x t, .int 0 0] }) : h.IsStrIter it (strIterType x) x t 0 := ⟨_, e, rfl, rfl⟩
theorem text_cell {ty : String} {x : Str} {t : Tok} {i : Nat} {h : Heap} {it : Addr} (e : h.IsStrIter it ty x t i) : ∃ o, h.get? it = some o ∧ ∀ v, o.data ≠ .cell v := by
  obtain ⟨o, e1, _, e2⟩ := e
  exact ⟨o, e1, fun v z => by rw [e2] at z; cases z⟩
theorem rel_sgn {x : Str} {i : Nat} {v : Value} (h : PTx x i v) : RelV (.str (sgn x i)) v := by
  obtain ⟨c, u, e, rfl⟩ := h
  rw [← sgn_at e]
  exact ⟨u, rfl⟩
section
variable {X : Cx} {elts : List Expr} {kk : Nat} {tpos p pos : Pos} {e e1 e2 e3 : Expr} {ta : TA}
def iEnumS (ta : TA) : TI := fun σ H R => ta σ H fun vs H1 => ∃ x : Str, vs = [.str x] ∧ R (ItT (fun i => [.int (i : Nat), .str (sgn x i)]) x.cps.size) H1
theorem pi_enumS (hg : Gl X "enumerate") (hm : X.mg "enumerate" = none) (ha : PA X [e] ta) (hs : starEach [e] X.env = [(false, eval e X.env)] := by rfl) :
    PI X (.Tuple elts kk tpos) (.Call (.Name "enumerate" p) [e] [] pos) (iEnumS ta) := by
  constructor
  intro pins s σ H R I h
  refine Call_ (ld_blt I hg hm boot_enumerate (callWith_type1 ?_ hs rfl))
  apply thn (ha.run pos pins s σ H _ I h)
  rintro us s1 ⟨vs, H1, I1, rel, x, rfl, q⟩
  obtain ⟨u, rfl, ru⟩ := vals1 rel
  obtain ⟨t, rfl⟩ := (show ∃ t, u = Value.str x t from ru)
  apply call_enumerate_str
  intro h' he hit hsz keep
  apply wpAny_pyIter_enum he
  have I2 : Inv X pins σ H1 { s1 with heap := h' } := I1.kept (t' := s1.toks) keep
  have ne : s1.heap.objs.size + 1 ≠ s1.heap.objs.size := Nat.succ_ne_self _
  refine ⟨s1.heap.objs.size + 1, [s1.heap.objs.size + 1, s1.heap.objs.size], _, _, H1, rfl, I2,
    turn_T (fun A hh => WalksT.enumerateD (draws_text (A := A.in1) hh s1.heap.objs.size x t) (s1.heap.objs.size + 1) ne (fun z => ne (by simpa using z)) (by simp)) (by simp) ?_ ?_ (fun i => by show 2 ≤ sizeLine; decide) (fun A i s Q E st q => wpAny_pyIter_enum st.1.choose_spec q), ⟨⟨.none, he⟩, hit⟩, ?_, q⟩
  · rintro i h ⟨⟨old, h1⟩, h2⟩ b hb
    have hb' : b = s1.heap.objs.size + 1 ∨ b = s1.heap.objs.size := by simpa using hb
    rcases hb' with rfl | rfl
    · exact ⟨_, h1, fun v z => nomatch z⟩
    · exact text_cell h2
  · rintro i a ⟨t2, v, hv, rfl⟩
    exact .cons ⟨t2, rfl⟩ (.cons (rel_sgn hv) .nil)
  · intro b hb
    have hb' : b = s1.heap.objs.size + 1 ∨ b = s1.heap.objs.size := by simpa using hb
    have le : s1.heap.objs.size ≤ b := by rcases hb' with rfl | rfl <;> omega
    exact I1.fpOk le (I1.hok.fresh le)
def iZipS2 (ta : TA) : TI := fun σ H R => ta σ H fun vs H1 => ∃ x y : Str, vs = [.str x, .str y] ∧ R (ItT (fun i => [.str (sgn x i), .str (sgn y i)]) (min x.cps.size y.cps.size)) H1
theorem pi_zipS2 (hg : Gl X "zip") (hm : X.mg "zip" = none) (ha : PA X [e1, e2] ta) (hs : starEach [e1, e2] X.env = (false, eval e1 X.env) :: starEach [e2] X.env := by rfl) (hp : (backTo pos (starEach [e2] X.env)).any (·.1) = false := by rfl) :
    PI X (.Tuple elts kk tpos) (.Call (.Name "zip" p) [e1, e2] [] pos) (iZipS2 ta) := by
  constructor
  intro pins s σ H R I h
  refine Call_ (ld_blt I hg hm PyProof.Rows.boot_zip (callWith_type1 ?_ hs hp))
  apply thn (ha.run pos pins s σ H _ I h)
  rintro us s1 ⟨vs, H1, I1, rel, x, y, rfl, q⟩
  obtain ⟨u1, u2, rfl, r1, r2⟩ := vals2 rel
  obtain ⟨t1, rfl⟩ := (show ∃ t, u1 = Value.str x t from r1)
  obtain ⟨t2, rfl⟩ := (show ∃ t, u2 = Value.str y t from r2)
  apply zip_begins2 (begins_text x t1) (begins_text y t2) trivial trivial
  intro h' hz hTI hTO g1 g2 hsz keep
  apply wpAny_pyIter_zip hz
  have I2 : Inv X pins σ H1 { s1 with heap := h' } := I1.kept (t' := s1.toks) keep
  have S := zip_sep2 (N := s1.heap.objs.size) (fp1 := []) (fp2 := []) (fun b z => nomatch z) (fun b z => nomatch z)
  have five : ∀ {b : Addr}, b ∈ (s1.heap.objs.size + 4) :: (s1.heap.objs.size + 2) :: (s1.heap.objs.size + 3) :: ([s1.heap.objs.size] ++ [s1.heap.objs.size + 1]) → b = s1.heap.objs.size + 4 ∨ b = s1.heap.objs.size + 2 ∨ b = s1.heap.objs.size + 3 ∨ b = s1.heap.objs.size ∨ b = s1.heap.objs.size + 1 := fun z => by simpa using z
  refine ⟨s1.heap.objs.size + 4, _, _, _, H1, rfl, I2, turn_T (fun A hh => WalksT.zipD2 S (draws_text (A := A.in1) hh _ x t1) (draws_text (A := A.in1) hh _ y t2)) (by simp) ?_ ?_ (fun i => by show 2 ≤ sizeLine; decide) (fun A i s Q E st q => wpAny_pyIter_zip st.1 q),
    ⟨hz, hTI, ⟨_, _, hTO⟩, text_begun g1, text_begun g2⟩, ?_, q⟩
  · rintro i h ⟨h1, h2, ⟨_, _, h3⟩, h4, h5⟩ b hb
    rcases five hb with rfl | rfl | rfl | rfl | rfl
    · exact ⟨_, h1, fun v z => nomatch z⟩
    · exact ⟨_, h2, fun v z => nomatch z⟩
    · exact ⟨_, h3, fun v z => nomatch z⟩
    · exact text_cell h4
    · exact text_cell h5
  · rintro i a ⟨v1, v2, hv1, hv2, rfl⟩
    exact .cons (rel_sgn hv1) (.cons (rel_sgn hv2) .nil)
  · intro b hb
    have le : s1.heap.objs.size ≤ b := by rcases five hb with rfl | rfl | rfl | rfl | rfl <;> omega
    exact I1.fpOk le (I1.hok.fresh le)
def iZipS3 (ta : TA) : TI := fun σ H R => ta σ H fun vs H1 => ∃ x y z : Str, vs = [.str x, .str y, .str z] ∧ R (ItT (fun i => [.str (sgn x i), .str (sgn y i), .str (sgn z i)]) (min (min x.cps.size y.cps.size) z.cps.size)) H1
theorem pi_zipS3 (hg : Gl X "zip") (hm : X.mg "zip" = none) (ha : PA X [e1, e2, e3] ta) (hs : starEach [e1, e2, e3] X.env = (false, eval e1 X.env) :: starEach [e2, e3] X.env := by rfl) (hp : (backTo pos (starEach [e2, e3] X.env)).any (·.1) = false := by rfl) :
    PI X (.Tuple elts kk tpos) (.Call (.Name "zip" p) [e1, e2, e3] [] pos) (iZipS3 ta) := by
  constructor
  intro pins s σ H R I h
  refine Call_ (ld_blt I hg hm PyProof.Rows.boot_zip (callWith_type1 ?_ hs hp))
  apply thn (ha.run pos pins s σ H _ I h)
  rintro us s1 ⟨vs, H1, I1, rel, x, y, z, rfl, q⟩
  cases rel with
  | cons r1 rr =>
    rename_i u1 us
    obtain ⟨u2, u3, rfl, r2, r3⟩ := vals2 rr
    obtain ⟨t1, rfl⟩ := (show ∃ t, u1 = Value.str x t from r1)
    obtain ⟨t2, rfl⟩ := (show ∃ t, u2 = Value.str y t from r2)
    obtain ⟨t3, rfl⟩ := (show ∃ t, u3 = Value.str z t from r3)
    apply zip_begins3 (begins_text x t1) (begins_text y t2) (begins_text z t3) trivial trivial trivial
    intro h' hz hTI hTO g1 g2 g3 hsz keep
    apply wpAny_pyIter_zip hz
    have I2 : Inv X pins σ H1 { s1 with heap := h' } := I1.kept (t' := s1.toks) keep
    have S := zip_sep3 (N := s1.heap.objs.size) (fp1 := []) (fp2 := []) (fp3 := []) (fun b z => nomatch z) (fun b z => nomatch z) (fun b z => nomatch z)
    have six : ∀ {b : Addr}, b ∈ (s1.heap.objs.size + 5) :: (s1.heap.objs.size + 3) :: (s1.heap.objs.size + 4) :: ([s1.heap.objs.size] ++ [s1.heap.objs.size + 1] ++ [s1.heap.objs.size + 2]) → b = s1.heap.objs.size + 5 ∨ b = s1.heap.objs.size + 3 ∨ b = s1.heap.objs.size + 4 ∨ b = s1.heap.objs.size ∨ b = s1.heap.objs.size + 1 ∨ b = s1.heap.objs.size + 2 := fun z => by simpa using z
    refine ⟨s1.heap.objs.size + 5, _, _, _, H1, rfl, I2, turn_T (fun A hh => WalksT.zipD3 S (draws_text (A := A.in1) hh _ x t1) (draws_text (A := A.in1) hh _ y t2) (draws_text (A := A.in1) hh _ z t3)) (by simp) ?_ ?_ (fun i => by show 3 ≤ sizeLine; decide) (fun A i s Q E st q => wpAny_pyIter_zip st.1 q),
      ⟨hz, hTI, ⟨_, _, _, hTO⟩, text_begun g1, text_begun g2, text_begun g3⟩, ?_, q⟩
    · rintro i h ⟨h1, h2, ⟨_, _, _, h3⟩, h4, h5, h6⟩ b hb
      rcases six hb with rfl | rfl | rfl | rfl | rfl | rfl
      · exact ⟨_, h1, fun v z => nomatch z⟩
      · exact ⟨_, h2, fun v z => nomatch z⟩
      · exact ⟨_, h3, fun v z => nomatch z⟩
      · exact text_cell h4
      · exact text_cell h5
      · exact text_cell h6
    · rintro i a ⟨v1, v2, v3, hv1, hv2, hv3, rfl⟩
      exact .cons (rel_sgn hv1) (.cons (rel_sgn hv2) (.cons (rel_sgn hv3) .nil))
    · intro b hb
      have le : s1.heap.objs.size ≤ b := by rcases six hb with rfl | rfl | rfl | rfl | rfl | rfl <;> omega
      exact I1.fpOk le (I1.hok.fresh le)
end
/-! loops and comprehensions over such a walk -/
theorem for_T {vals : Nat → List V} {n : Nat} {g : TG} {tb : TS} {D : Ends} {σ : L2.St} {H : Hp} (Pv : Nat → L2.St → Hp → Prop) (h0 : Pv 0 σ H)
    (hs : ∀ i T σ H, i < n → Pv i σ H → H T = none → g (.ref T) σ (upd H T (.tup (vals i))) fun σ2 H2 => tb { D with nx := Pv (i + 1), ct := Pv (i + 1), bk := D.nx } σ2 H2) (hd : ∀ σ H, Pv n σ H → D.nx σ H) :
    ∃ W : Nat → Nat → L2.St → Hp → Prop, (∃ m, W 0 m σ H) ∧ ∀ i m σ H, W i m σ H →
      ((ItT vals n).stop i H ∧ D.nx σ H) ∨ ((ItT vals n).go i H ∧ ∃ N : L2.St → Hp → Prop, (∀ σ' H', N σ' H' → ∃ m', m' < m ∧ W (i + 1) m' σ' H') ∧ ∀ x H', (ItT vals n).yld i H x H' → g x σ H' fun σ2 H2 => tb { D with nx := N, ct := N, bk := D.nx } σ2 H2) := by
  refine ⟨fun i m σ H => i + m = n ∧ Pv i σ H, ⟨n, by omega, h0⟩, fun i m σ H ⟨hm, p⟩ => ?_⟩
  by_cases lt : i < n
  · refine Or.inr ⟨lt, Pv (i + 1), fun σ' H' p' => ⟨m - 1, by omega, by omega, p'⟩, ?_⟩
    rintro x H' ⟨T, rfl, hT, rfl⟩
    exact hs i T σ H lt p hT
  · obtain rfl : i = n := by omega
    exact Or.inl ⟨rfl, hd σ H p⟩
theorem lc_T {vals : Nat → List V} {n : Nat} {g : TG} {tt : TT} {te : TE} {vs : List Nat} {σ : L2.St} {H1 : Hp} {D : Addr} {Qd : Hp → Prop} (Pv : Nat → Hp → Prop) (h0 : Pv 0 (upd H1 D (.lst [])))
    (hs : ∀ i T H, i < n → Pv i H → H T = none → g (.ref T) (wipe σ vs) (upd H T (.tup (vals i))) fun σ2 H2 => wipe σ2 vs = wipe σ vs ∧ tt σ2 H2 fun b H3 =>
      if b = true then te σ2 H3 fun y H4 => ∃ acc, H4 D = some (.lst acc) ∧ acc.length < sizeLine ∧ Pv (i + 1) (upd H4 D (.lst (acc ++ [y]))) else Pv (i + 1) H3) (hd : ∀ H, Pv n H → Qd H) :
    ∃ W : Nat → Nat → Hp → Prop, (∃ m, W 0 m (upd H1 D (.lst []))) ∧ ∀ i m H, W i m H →
      ((ItT vals n).stop i H ∧ Qd H) ∨ ((ItT vals n).go i H ∧ ∃ Nx : Hp → Prop, (∀ H', Nx H' → ∃ m', m' < m ∧ W (i + 1) m' H') ∧ ∀ x H', (ItT vals n).yld i H x H' → g x (wipe σ vs) H' fun σ2 H2 => wipe σ2 vs = wipe σ vs ∧ tt σ2 H2 fun b H3 =>
        if b = true then te σ2 H3 fun y H4 => ∃ acc, H4 D = some (.lst acc) ∧ acc.length < sizeLine ∧ Nx (upd H4 D (.lst (acc ++ [y]))) else Nx H3) := by
  refine ⟨fun i m H => i + m = n ∧ Pv i H, ⟨n, by omega, h0⟩, fun i m H ⟨hm, p⟩ => ?_⟩
  by_cases lt : i < n
  · refine Or.inr ⟨lt, Pv (i + 1), fun H' p' => ⟨m - 1, by omega, by omega, p'⟩, ?_⟩
    rintro x H' ⟨T, rfl, hT, rfl⟩
    exact hs i T H lt p hT
  · obtain rfl : i = n := by omega
    exact Or.inl ⟨rfl, hd H p⟩
end Fb
set_option maxRecDepth 100000
set_option maxHeartbeats 4000000
namespace Fb
open PySem PySem.Spec PyProof.Rows L2
/-! what own classes say of operators: instances with a dict -/
/-- what never comes to pass needs no reading -/
theorem ps_no {X : Cx} {st : Stmt} : PS X st (fun _ _ _ => False) := ⟨fun _ _ _ _ _ _ h => h.elim⟩
theorem pss_no {X : Cx} {sts : List Stmt} : PSs X sts (fun _ _ _ => False) := ⟨fun _ _ _ _ _ _ h => h.elim⟩
theorem pe_no {X : Cx} {e : Expr} : PE X e (fun _ _ _ => False) := ⟨fun _ _ _ _ _ _ h => h.elim⟩
section
variable {X : Cx} {CX : CXT} {pins : List (Addr × Obj)} {σ : L2.St} {H : Hp} {s : Shared} {a C dx g : Addr} {fs : List (Str × V)} {n : Nat} {sp : Sp} {E : XK}
theorem ins_at (I : Inv X pins σ H s) (e : H a = some (.ins C dx fs)) : ∃ od, PySem.W.InstAt s.heap a (PySem.W.instObj C dx) C (some od) := by
  obtain ⟨mA, O, _⟩ := ins_get I.hok e
  obtain ⟨od, J, _⟩ := O.look
  exact ⟨od, J⟩
/-- the type of what may stand on the right -/
inductive RTy (H : Hp) : V → Value → Prop where
  | non : RTy H .non (.type "NoneType")
  | str (x : Str) : RTy H (.str x) (.type "str")
  | ins {b C' dy : Addr} {gs : List (Str × V)} (e : H b = some (.ins C' dy gs)) : RTy H (.ref b) (.ref C')
theorem RTy.looks {y : V} {t u : Value} (I : Inv X pins σ H s) (r : RTy H y t) (ry : RelV y u) : PySem.W.Looks (model X.prog X.w) s.heap (typeOf u) t := by
  cases r with
  | non =>
    cases (show u = Value.none from ry)
    exact fun A Q E s k q => wpAny_typeOf (show s.TypeIs .none "NoneType" from rfl) q
  | str x =>
    obtain ⟨t, rfl⟩ := (show ∃ t, u = Value.str x t from ry)
    exact fun A Q E s k q => wpAny_typeOf (show s.TypeIs (.str x t) "str" from rfl) q
  | ins e =>
    cases (show u = Value.ref _ from ry)
    obtain ⟨od, J⟩ := ins_at I e
    exact J.type
theorem first_str {K : PySem.W.Frag} {C : Addr} : PySem.W.notFirst K C (.type "str") = true := by
  have e : fastBuiltinMro "str" = some [.type "str", .type "object"] := by decide +kernel
  have h : PySem.W.subIn K (.type "str") (.ref C) = some false := by
    show (fastBuiltinMro "str").map (·.contains (.ref C)) = some false
    rw [e]
    first
      | rfl
      | simp
  unfold PySem.W.notFirst
  rw [h]
  simp
theorem first_non {K : PySem.W.Frag} {C : Addr} : PySem.W.notFirst K C (.type "NoneType") = true := by
  unfold PySem.W.notFirst
  rw [HN.sub_none]
  simp
theorem first_self {K : PySem.W.Frag} {C : Addr} : PySem.W.notFirst K C (.ref C) = true := by
  unfold PySem.W.notFirst
  simp
/-- x op y by the def of x's class -/
def rCmpI (K : PySem.W.Frag) (C : Addr) (sp : Sp) (E : XK) : R2 := fun x y H Q => ∃ a dx fs t, x = .ref a ∧ H a = some (.ins C dx fs) ∧ RTy H y t ∧ PySem.W.notFirst K C t = true ∧ sp [x, y] H Q E
theorem op_cmpI {op : CmpOp} (hop : ∀ a b, compareOp op a b = richCompare op a b) (hs : PySem.W.findIn X.K (.ref C) (cmpInfo op).2.1 = some (some (.ref g))) (hf : PySem.W.isFn X.K (.ref g) = true) (F : FnR X.prog X.w X.K X.mg X.base CX n g sp)
    (hr : Room n X.A) (hx : Passes CX X E) : OpR X (compareOp op) (rCmpI X.K C sp E) := by
  intro pins s σ H x y v u Q I rx ry h
  obtain ⟨a, dx, fs, t, rfl, ha, hb, hn, q⟩ := h
  cases (show v = Value.ref a from rx)
  obtain ⟨od, J⟩ := ins_at I ha
  obtain ⟨m, hF⟩ := I.fr
  rw [hop]
  refine PySem.W.cmp_K (op := op) (tb := t) hr.units0 hF I.ok.mod.kin J (hb.looks I ry) hn hs hf ?_
  refine wpAny_mono (wpAny_call (run_fnR (us := [.ref a, u]) (vs := [.ref a, y]) F hr hx I (.cons rfl (.cons ry .nil)) q)) (fun w s' z => ?_) fun _ _ x => x
  obtain ⟨z', H', I', rz, qz⟩ := z
  exact SlX.cmpback rz ⟨z', H', I', rz, qz⟩
/-- two instances of C -/
def rBinI (C : Addr) (sp : Sp) (E : XK) : R2 := fun x y H Q => ∃ a dx fs b dy gs, x = .ref a ∧ H a = some (.ins C dx fs) ∧ y = .ref b ∧ H b = some (.ins C dy gs) ∧ sp [x, y] H Q E
theorem op_binI {op : Operator} (hc : PySem.W.selfFirst X.K C = true) (hs : PySem.W.findIn X.K (.ref C) (PySem.dunder op.info.2) = some (some (.ref g))) (hf : PySem.W.isFn X.K (.ref g) = true) (F : FnR X.prog X.w X.K X.mg X.base CX n g sp)
    (hr : Room n X.A) (hx : Passes CX X E) : OpR X (binaryOp op) (rBinI C sp E) := by
  intro pins s σ H x y v u Q I rx ry h
  obtain ⟨a, dx, fs, b, dy, gs, rfl, ha, rfl, hb, q⟩ := h
  cases (show v = Value.ref a from rx)
  cases (show u = Value.ref b from ry)
  obtain ⟨od, J⟩ := ins_at I ha
  obtain ⟨od', J'⟩ := ins_at I hb
  obtain ⟨m, hF⟩ := I.fr
  refine PySem.W.binop_K (op := op) hF I.ok.mod.kin J J'.type hc hs hf ?_
  refine wpAny_mono (wpAny_call (run_fnR (us := [.ref a, .ref b]) (vs := [.ref a, .ref b]) F hr hx I (.cons rfl (.cons rfl .nil)) q)) (fun w s' z => ?_) fun _ _ x => x
  obtain ⟨z', H', I', rz, qz⟩ := z
  exact SlX.cmpback rz ⟨z', H', I', rz, qz⟩
/-! str(x), len(x) -/
theorem relv_str {v : Value} {y : Str} (r : RelV (.str y) v) : ∃ t, v = .str y t := r
def rStrI (C : Addr) (sp : Sp) (E : XK) : List V → Hp → VK → Prop := fun xs H Q => ∃ a dx fs, xs = [.ref a] ∧ H a = some (.ins C dx fs) ∧ sp [.ref a] H (fun z H' => ∃ y, z = .str y ∧ Q (.str y) H') E
theorem call_strI (hs : PySem.W.findIn X.K (.ref C) "__str__" = some (some (.ref g))) (hf : PySem.W.isFn X.K (.ref g) = true) (F : FnR X.prog X.w X.K X.mg X.base CX n g sp) (hr : Room (n + 2) X.A) (hx : Passes CX X E) : CallR X (.type "str") (rStrI C sp E) := by
  intro pins s σ H xs us Q I r h
  obtain ⟨a, dx, fs, rfl, ha, q⟩ := h
  obtain ⟨u, rfl, ru⟩ := r.one
  cases (show u = Value.ref a from ru)
  obtain ⟨od, J⟩ := ins_at I ha
  have hr2 : Room n X.A.in1.in1 := (show Room (n + 1) X.A.in1 from Room.in1 hr).in1
  refine PySem.W.kso_call hr2.units0 I.kIn J hs hf (wpAny_mono (wpAny_call (SlX.run_at (us := [.ref a]) (ws := [.ref a]) F hr2 I.env0.in1.in1 hx I (.cons rfl .nil) q)) (fun w s' z => ?_) fun _ _ x => x)
  obtain ⟨z', H', I', rz, y, ey, qz⟩ := z
  subst ey
  obtain ⟨t, e⟩ := relv_str rz
  cases e
  exact ⟨.str y, H', I', ⟨t, rfl⟩, qz⟩
def rLenI (C : Addr) (sp : Sp) (E : XK) : List V → Hp → VK → Prop := fun xs H Q => ∃ a dx fs, xs = [.ref a] ∧ H a = some (.ins C dx fs) ∧ sp [.ref a] H (fun z H' => ∃ i : Nat, z = .int i ∧ (i : Int) < 2 ^ 63 ∧ Q (.int i) H') E
theorem call_lenI (hs : PySem.W.findIn X.K (.ref C) "__len__" = some (some (.ref g))) (hf : PySem.W.isFn X.K (.ref g) = true) (F : FnR X.prog X.w X.K X.mg X.base CX n g sp) (hr : Room (n + 1) X.A) (hx : Passes CX X E) : CallR X (.builtin "len") (rLenI C sp E) := by
  intro pins s σ H xs us Q I r h
  obtain ⟨a, dx, fs, rfl, ha, q⟩ := h
  obtain ⟨u, rfl, ru⟩ := r.one
  cases (show u = Value.ref a from ru)
  obtain ⟨od, J⟩ := ins_at I ha
  have hr2 : Room n X.A.in1 := Room.in1 hr
  obtain ⟨m, hF⟩ := I.fr
  refine PySem.W.len_K hF I.ok.mod.kin J hs hf (wpAny_mono (wpAny_call (SlX.run_at (us := [.ref a]) (ws := [.ref a]) F hr2 I.env0.in1 hx I (.cons rfl .nil) q)) (fun w s' z => ?_) fun _ _ x => x)
  obtain ⟨z', H', I', rz, i, ei, lt, qz⟩ := z
  subst ei
  obtain ⟨t, e⟩ := (show ∃ t, w = Value.int i t from rz)
  cases e
  exact ⟨⟨by omega, lt⟩, .int i, H', I'.tok _, ⟨_, rfl⟩, qz⟩
end
/-! !=, by the own == -/
section
variable {M : Model} {prog : Program} {w : World} {A : Around} {E : Value → Shared → Prop} {s : Shared} {K : PySem.W.Frag} {x C f : Addr} {ox : Obj} {od : Option Obj} {y : Value}
theorem objNe_K {Q : Fin → Shared → Prop} (hu : A.units < cLine) (X : K.In s.heap) (I : PySem.W.InstAt s.heap x ox C od) (hs : PySem.W.findIn K (.ref C) "__eq__" = some (some (.ref f))) (hf : PySem.W.isFn K (.ref f) = true)
    (hcall : wpAny (model prog w) A (call (.ref f) [.ref x, y]) (fun v s' => ∃ b, v = .bool b ∧ Q (.done (.ret (.bool (!b)))) s') E s) :
    wpAny (model prog w) A (Builtin.«object.__ne__» ⟨[.ref x, y], []⟩) Q E s := by
  unfold Builtin.«object.__ne__»
  repeat (first
    | with_reducible refine wpAny_cRoomFor hu ?_
    | (refine wpAny_bind (m := callSpecialIfBound? (.ref x) (Str.ofString "__eq__") [y])
        (PySem.W.ifBound_K X I hs hf (wpAny_mono hcall (fun r s' hr => by
          obtain ⟨b, rfl, hq⟩ := hr
          repeat (first | exact hq | exact wpAny_pure hq | exact wpAny_truthy_bool hq | (refine wpAny_bind (m := truthy (.bool _)) (wpAny_truthy_bool ?_)) | wp_step)) fun _ _ e => e)))
    | wp_step)
theorem ifBound_objNe {args : List Value} {Q : Option Value → Shared → Prop} (X : K.In s.heap) (I : PySem.W.InstAt s.heap x ox C od) (hs : PySem.W.findIn K (.ref C) "__ne__" = some (some (.builtin "object.__ne__")))
    (h : wpAny M A (call (.builtin "object.__ne__") (.ref x :: args)) (fun v => Q (some v)) E s) : wpAny M A (callSpecialIfBound? (.ref x) "__ne__" args) Q E s := by
  simp only [callSpecialIfBound?, bindSpecialIfBound?]
  refine wpAny_holding (wpAny_bind (wpAny_bind (wpAny_bind (I.type.here ((PySem.W.looks_findIn X hs).here ?_)))))
  refine wpAny_bind (wpAny_askSetting (wpAny_ite ?_))
  have fin : wpAny M A (call (.builtin "object.__ne__") ([.ref x] ++ args) >>= fun v => pure (some v)) Q E s := wpAny_bind (wpAny_mono h (fun v s' h' => wpAny_pure h') fun _ _ h' => h')
  split
  · exact wpAny_bind (wpAny_of_eq (F.cmp_object.ne.bind _) (wpAny_pure (by exact fin)))
  · exact wpAny_tryCatch (wpAny_bind (wpAny_of_eq (F.cmp_object.ne.bind _) (wpAny_pure (by exact fin))))
theorem ne_K {Q : Value → Shared → Prop} {tb : Value} (hu : A.units + 1 < cLine) (X : K.In s.heap) (I : PySem.W.InstAt s.heap x ox C od) (hb : PySem.W.Looks (model prog w) s.heap (typeOf y) (.ref C)) (hm : PySem.W.mroIn K C (.type "object") = some true)
    (hn : PySem.W.findIn K (.ref C) "__ne__" = some (some (.builtin "object.__ne__"))) (hs : PySem.W.findIn K (.ref C) "__eq__" = some (some (.ref f))) (hf : PySem.W.isFn K (.ref f) = true)
    (hcall : wpAny (model prog w) A.in1 (call (.ref f) [.ref x, y]) (fun v s' => ∃ b, v = .bool b ∧ Q (.bool (!b)) s') E s) : wpAny (model prog w) A (richCompare .NotEq (.ref x) y) Q E s := by
  have one : wpAny (model prog w) A (tryCompare (.ref x) "__ne__" y) (fun r s' => ∃ b : Bool, r = some (.bool (!b)) ∧ Q (.bool (!b)) s') E s := by
    unfold tryCompare
    refine wpAny_bind (ifBound_objNe X I hn (wpAny_call (codeAny_call_builtin F.cmp_object.ne.plain F.cmpEntry_ne (PySem.W.check_slot F.cmpKind_ne F.cmpSplit_ne (I.type.andThen (PySem.W.looks_mroIn X hm)) (F.cmpArgs_ne _ _)
      (objNe_K (A := A.in1) (show A.in1.units < cLine from hu) X I hs hf (wpAny_mono hcall (fun v s' hv => ?_) fun _ _ e => e))))))
    obtain ⟨b, rfl, hq⟩ := hv
    first | exact ⟨b, rfl, wpAny_pure ⟨b, rfl, hq⟩⟩ | exact ⟨b, rfl, wpAny_pure (wpAny_pure ⟨b, rfl, hq⟩)⟩
  simp only [richCompare, cmpInfo_NotEq, oneThing_ref]
  refine wpAny_holding (wpAny_bind (wpAny_cRoomFor (Nat.lt_of_succ_lt hu) ?_))
  refine wpAny_bind (I.type.here (wpAny_bind (hb.here ?_)))
  rw [show (Value.ref C != Value.ref C) = false from by simp]
  simp only [Bool.false_eq_true, if_false]
  refine wpAny_bind (wpAny_pure ?_)
  simp only [Bool.false_eq_true, if_false]
  refine wpAny_bind (m := tryCompare (.ref x) _ y) (wpAny_mono one (fun r s' z => ?_) fun _ _ e => e)
  obtain ⟨b, rfl, hq⟩ := z
  first | exact wpAny_pure hq | exact wpAny_pure (wpAny_pure hq)
end
section
variable {X : Cx} {CX : CXT} {C g : Addr} {n : Nat} {sp : Sp} {E : XK}
def rNeI (C : Addr) (sp : Sp) (E : XK) : R2 := fun x y H Q => ∃ a dx fs b dy gs, x = .ref a ∧ H a = some (.ins C dx fs) ∧ y = .ref b ∧ H b = some (.ins C dy gs) ∧ sp [x, y] H (fun v H' => ∃ k, v = .bl k ∧ Q (.bl (!k)) H') E
theorem op_neI (hn : PySem.W.findIn X.K (.ref C) "__ne__" = some (some (.builtin "object.__ne__"))) (hm : PySem.W.mroIn X.K C (.type "object") = some true) (hs : PySem.W.findIn X.K (.ref C) "__eq__" = some (some (.ref g))) (hf : PySem.W.isFn X.K (.ref g) = true)
    (F : FnR X.prog X.w X.K X.mg X.base CX n g sp) (hr : Room (n + 1) X.A) (hx : Passes CX X E) : OpR X (compareOp .NotEq) (rNeI C sp E) := by
  intro pins s σ H x y v u Q I rx ry h
  obtain ⟨a, dx, fs, b, dy, gs, rfl, ha, rfl, hb, q⟩ := h
  cases (show v = Value.ref a from rx)
  cases (show u = Value.ref b from ry)
  obtain ⟨od, J⟩ := ins_at I ha
  obtain ⟨od', J'⟩ := ins_at I hb
  have hu : X.A.units + 1 < cLine := by have := hr.un; omega
  unfold compareOp
  refine ne_K (tb := .none) hu I.kIn J J'.type hm hn hs hf ?_
  refine wpAny_mono (wpAny_call (SlX.run_at (us := [.ref a, .ref b]) (ws := [.ref a, .ref b]) F hr.in1 I.env0.in1 hx I (.cons rfl (.cons rfl .nil)) q)) (fun w s' z => ?_) fun _ _ x => x
  obtain ⟨z', H', I', rz, k, ek, qz⟩ := z
  subst ek
  cases (show w = Value.bool k from rz)
  exact ⟨k, rfl, .bl (!k), H', I', rfl, qz⟩
end
/-! x op= y, no own in-place def -/
section
variable {prog : Program} {w : World} {A : Around} {E : Value → Shared → Prop} {s : Shared} {K : PySem.W.Frag} {x C L f : Addr} {h₀ : Heap} {m : Str → Option Value} {ox : Obj} {od : Option Obj}
theorem noFill {M : Model} {h : Heap} {nm : String} {cd : PySem.ClassData} (X : K.In h) (hc : PySem.W.clsIn K C = some cd) (hm : cd.mro = [.ref C, .type "object"]) (hs : PySem.W.findIn K (.ref C) (PySem.dunderI nm) = some none) (ho : typeLookup (.type "object") (PySem.dunderI nm) = pure none) :
    PySem.W.Looks M h (fillsInplaceSlot (.ref C) nm false) false := by
  intro A Q E s k q
  unfold fillsInplaceSlot
  refine wpAny_bind ((PySem.W.looks_clsIn X hc).andThen (f := fun cd => pure cd.mro) .now A _ E s k ?_)
  rw [hm, List.anyM_cons]
  refine wpAny_bind (wpAny_bind (PySem.W.looks_findIn X hs A _ E s k ?_))
  dsimp only
  refine wpAny_pure ?_
  simp only [Bool.false_eq_true, if_false]
  rw [List.anyM_cons]
  refine wpAny_bind (wpAny_bind (wpAny_of_eq ho ?_))
  dsimp only
  refine wpAny_pure ?_
  simp only [Bool.false_eq_true, if_false]
  rw [List.anyM_nil]
  exact wpAny_pure q
theorem ibinop_K {op : Operator} {b : Value} {Q : Value → Shared → Prop} {cd : PySem.ClassData} (hop : (op == .Add) = false) (F : Fr h₀ L s.heap m) (X₀ : K.In h₀) (I : PySem.W.InstAt s.heap x ox C od) (hb : PySem.W.Looks (model prog w) s.heap (typeOf b) (.ref C)) (hc : PySem.W.clsIn K C = some cd) (hm : cd.mro = [.ref C, .type "object"])
    (hi : PySem.W.findIn K (.ref C) (PySem.dunderI op.info.2) = some none) (ho : typeLookup (.type "object") (PySem.dunderI op.info.2) = pure none)
    (hs : PySem.W.findIn K (.ref C) (PySem.dunder op.info.2) = some (some (.ref f))) (hf : PySem.W.isFn K (.ref f) = true)
    (h : wpAny (model prog w) A (call (.ref f) [.ref x, b]) (PySem.W.CmpBack Q) E s) : wpAny (model prog w) A (inplaceOp op (.ref x) b) Q E s := by
  have X := X₀.keeps F.keep
  unfold inplaceOp
  refine wpAny_holding (wpAny_bind (I.type.here ?_))
  rw [hop]
  refine wpAny_bind ((noFill X hc hm hi ho).here ?_)
  simp only [Bool.false_eq_true, if_false]
  refine wpAny_bind ?_
  unfold binaryOp1
  refine wpAny_bind (I.type.here (wpAny_bind (hb.here (wpAny_bind ((PySem.W.fills_K X hc hm hs).here ?_)))))
  simp only [beq_self_eq_true, if_true]
  refine wpAny_bind (wpAny_pure ?_)
  simp only [Bool.and_false, Bool.false_eq_true, if_false, Bool.false_and]
  refine wpAny_bind (wpAny_pure ?_)
  simp only [Bool.false_eq_true, if_false]
  refine wpAny_bind (m := tryMethod (.ref x) _ b) ?_
  unfold tryMethod
  refine wpAny_bind (PySem.W.special_fn X I hs (beq_iff_eq.mp hf) (wpAny_mono h (fun v s' hv => ?_) fun _ _ e => e))
  cases v <;> first | exact hv.elim | exact wpAny_pure (wpAny_pure (wpAny_pure hv))
end
section
variable {X : Cx} {CX : CXT} {C g : Addr} {n : Nat} {sp : Sp} {E : XK}
theorem iop_binI {op : Operator} (hop : (op == .Add) = false) (hc : ∃ cd, PySem.W.clsIn X.K C = some cd ∧ cd.mro = [.ref C, .type "object"]) (hi : PySem.W.findIn X.K (.ref C) (PySem.dunderI op.info.2) = some none) (ho : typeLookup (.type "object") (PySem.dunderI op.info.2) = pure none)
    (hs : PySem.W.findIn X.K (.ref C) (PySem.dunder op.info.2) = some (some (.ref g))) (hf : PySem.W.isFn X.K (.ref g) = true) (F : FnR X.prog X.w X.K X.mg X.base CX n g sp)
    (hr : Room n X.A) (hx : Passes CX X E) : OpR X (inplaceOp op) (rBinI C sp E) := by
  intro pins s σ H x y v u Q I rx ry h
  obtain ⟨a, dx, fs, b, dy, gs, rfl, ha, rfl, hb, q⟩ := h
  cases (show v = Value.ref a from rx)
  cases (show u = Value.ref b from ry)
  obtain ⟨od, J⟩ := ins_at I ha
  obtain ⟨od', J'⟩ := ins_at I hb
  obtain ⟨m, hF⟩ := I.fr
  obtain ⟨cd, c1, c2⟩ := hc
  refine ibinop_K (op := op) hop hF I.ok.mod.kin J J'.type c1 c2 hi ho hs hf ?_
  refine wpAny_mono (wpAny_call (run_fnR (us := [.ref a, .ref b]) (vs := [.ref a, .ref b]) F hr hx I (.cons rfl (.cons rfl .nil)) q)) (fun w s' z => ?_) fun _ _ x => x
  obtain ⟨z', H', I', rz, qz⟩ := z
  exact SlX.cmpback rz ⟨z', H', I', rz, qz⟩
end
/-! tokens -/
/-- an expression that gives one out -/
def PEK (X : Cx) (e : Expr) (t : TE) : Prop :=
  ∀ (pins : List (Addr × Obj)) (s : Shared) (σ : L2.St) (H : Hp) (Q : VK), Inv X pins σ H s → t σ H Q → wpAny (model X.prog X.w) X.A (eval e X.env) (fun v s' => 1 ≤ s'.toks ∧ EP X pins σ Q v s') X.xe s
section
variable {X : Cx} {a e : Expr} {es : List Expr} {ta te : TE} {t : TA} {pos cp : Pos} {x : Str} {j : Nat}
theorem pek_op {op : Operator} {r : R2} (ho : OpR X (binaryOp op) r) (ha : PE X a ta) : PEK X (.BinOp a op (.Constant (.str x) j cp) pos) (tOp r ta (tC (.str x))) := by
  intro pins s σ H Q I h
  refine wpAny_BinOp (thn (ha.run pins s σ H _ I h) fun v s1 ⟨z, H1, I1, r1, q1⟩ => ?_)
  refine Calls.Constant_str ?_
  exact wpAny_mono (PySem.wpAny_toks_of (n := 1) (by show 1 ≤ s1.toks + 1; omega) (ho pins _ σ H1 z (.str x) v _ Q (I1.tok _) r1 ⟨_, rfl⟩ q1)) (fun _ _ z => z) fun _ _ z => z.2
theorem PAT.of (h : PA X es t) : PAT X es t := fun pos pins s σ H Q _ I q => h.run pos pins s σ H Q I q
theorem pa_consK (ha : PEK X e te) (hr : PAT X es t) (hs : starEach (e :: es) X.env = (false, eval e X.env) :: starEach es X.env := by rfl) : PA X (e :: es) (tCons te t) := by
  refine ⟨fun pos pins s σ H Q I h => ?_⟩
  rw [hs]
  show wpAny _ _ (spliced ((false, eval e X.env) :: backTo pos (starEach es X.env))) _ _ s
  refine Calls.spliced_cons (thn (ha pins s σ H _ I h) fun u s1 ⟨ht, x, H1, I1, r1, q1⟩ => ?_)
  exact thn (hr pos pins s1 σ H1 _ ht I1 q1) fun us s2 ⟨xs, H2, I2, r2, q2⟩ => ⟨x :: xs, H2, I2, .cons r1 r2, q2⟩
theorem pat_cons (ha : PET X e te) (hr : PAT X es t) (hs : starEach (e :: es) X.env = (false, eval e X.env) :: starEach es X.env := by rfl) : PAT X (e :: es) (tCons te t) := by
  intro pos pins s σ H Q h0 I h
  rw [hs]
  show wpAny _ _ (spliced ((false, eval e X.env) :: backTo pos (starEach es X.env))) _ _ s
  refine Calls.spliced_cons (wpAny_mono (PySem.wpAny_toks (ha pins s σ H _ h0 I h)) (fun u s1 q => ?_) fun _ _ z => z.2)
  obtain ⟨hk, x, H1, I1, r1, q1⟩ := q
  exact thn (hr pos pins s1 σ H1 _ (Nat.le_trans h0 hk) I1 q1) fun us s2 ⟨xs, H2, I2, r2, q2⟩ => ⟨x :: xs, H2, I2, .cons r1 r2, q2⟩
end
/-- a def of at least one parameter: a token is out when its body begins -/
theorem Fun.okT {P : Program} {w : World} {K : PySem.W.Frag} {mg : Str → Option Value} {base : Heap} {x qual : Str} {st : Stmt} {f : Addr} {fd : FuncData} {N ps : List Str} {k : Nat} {sp : Sp} (F : Fun K x qual st f fd) (S : FnScope N ps (defScope st))
    (hnc : ∀ y ∈ (defScope st).names, y.2 ≠ .cell) (hps : 1 ≤ ps.length) (len : ∀ vs H Q E, sp vs H Q E → vs.length = ps.length)
    (hbody : ∀ (cdv : Value) (A : Around) (outer : List Env) (s : Shared) (H : Hp) (vs : List V) (Q : VK) (E : XK), Room k (A.deeper (envOfC qual (defScope st) s.heap.objs.size f cdv)) → sp vs H Q E →
      ∃ t, PSsT (cxOf CX0 P w K mg base N qual (defScope st) f cdv A outer s H E) (defBody st) t ∧ t { nx := fun _ H' => Q .non H', rt := Q } (start N vs) H) : FnOk P w K mg base CX0 (k + 1) f fd ps sp := by
  obtain ⟨oc, od, kV, doc, pm, an, cdv, ct, osl, rfl, lk, hcd⟩ := F.ex
  exact fn_ofT lk hcd S hnc hps len fun A outer s H vs Q E hr hsp => hbody cdv A outer s H vs Q E hr hsp
/-! a static method, called off the class -/
structure SMet (K : PySem.W.Frag) (C : Addr) (mc : Value) (m : Str) (p g : Addr) : Prop where
  at_ : PySem.W.findCls K (.ref C) mc m = some (.get (.builtin "staticmethod.__get__") (.ref p) .none (.ref C))
  rc : ∃ rest, PySem.W.recIn K p "staticmethod" = some (.ref g :: rest)
  kp : PySem.W.keepIn K (.ref g) = true
def tSMeth (C : Addr) (sp : Sp) (E : XK) (ta : TE) (t : TA) : TE := fun σ H Q => ta σ H fun x H1 => x = .ref C ∧ t σ H1 fun vs H2 => sp vs H2 Q E
section
variable {X : Cx} {CX : CXT} {k : Nat} {C p g : Addr} {mc : Value} {sp : Sp} {E : XK} {o e : Expr} {es : List Expr} {m : Str} {pos apos : Pos} {ta : TE} {t : TA} {pl : Sem Bool}
theorem pe_smeth (he : PE X o ta) (r : ClX.CRead X.K C mc) (c : SMet X.K C mc m p g) (F : FnR X.prog X.w X.K X.mg X.base CX k g sp) (hr : Room k X.A) (hx : Passes CX X E) (ha : PA X (e :: es) t)
    (h1 : starEach (e :: es) X.env = (false, eval e X.env) :: starEach es X.env := by rfl) (h2 : (backTo pos (starEach es X.env)).any (·.1) = false := by rfl)
    (h3 : eval (.Call (.Attribute o m apos) (e :: es) [] pos) X.env = (do
      let ov ← eval o X.env
      standAt apos.atName
      let (f, first) ← holding [ov] (getMethod ov m pl)
      callWith pos f first (backTo pos (starEach (e :: es) X.env)) (backToKw pos (keywordEach [] X.env))) := by rfl) :
    PE X (.Call (.Attribute o m apos) (e :: es) [] pos) (tSMeth C sp E ta t) := by
  constructor
  intro pins s σ H Q I asked
  obtain ⟨rest, rec_⟩ := c.rc
  apply PySem.W.methodCall_KW (pl := pl) ?_ h3
  apply thn (he.run pins s σ H _ I asked)
  rintro u s1 ⟨x, H1, I1, rx, ex, q⟩
  subst ex
  cases (show u = Value.ref C from rx)
  apply PySem.W.method_cls I1.kIn r.ga
  apply PySem.W.cls_bind I1.kIn r.rd c.at_
  apply wpAny_call
  apply PySem.W.sm_get (s := { s1 with toks := s1.toks + 1 }) I1.kIn rec_
  apply PySem.W.handed_on rfl
  have I2 : Inv X pins σ H1 { s1 with toks := s1.toks + 1 } := I1.tok _
  apply PySem.W.callWith_K (h₀ := X.base) I2.ok.mod.kin c.kp ?_ h1 h2
  apply thn (ha.run pos pins _ σ H1 _ I2 q)
  rintro us s3 ⟨vs, H3, I3, rv, q3⟩
  exact ⟨I3.kIn, wpAny_call (run_fnR (us := us) (vs := vs) F hr hx I3 rv q3)⟩
end
end Fb
set_option maxRecDepth 100000
set_option maxHeartbeats 4000000
namespace Fb
open PySem PySem.Spec PyProof.Rows L2
open SX (S)
/-! patterns as lists of signs: 48, 49, 46 -/
/-- how many leading signs begin some pattern; none for a pattern -/
def pfa : List Nat → Nat → Nat → Nat → Nat → Option Nat
  | [], at_, _, _, size => if size = 0 then some at_ else none
  | c :: cs, at_, bits, blocks, size =>
    if ¬(c = 48 ∨ c = 49 ∨ c = 46) ∨ bits = 120 then some at_
    else if c = 46 then (if size = 0 ∨ blocks = 3 then some at_ else pfa cs (at_ + 1) bits (blocks + 1) 0)
    else pfa cs (at_ + 1) (bits + 1) blocks (size + 1)
def pf (l : List Nat) : Option Nat := pfa l 0 0 1 0
/-- the sizes of the parts between dots -/
def szA : Nat → List Nat → List Nat
  | n, [] => [n]
  | n, c :: cs => if c = 46 then n :: szA 0 cs else szA (n + 1) cs
def szs (l : List Nat) : List Nat := szA 0 l
theorem spl_len : ∀ (l acc : List Nat), (TL.spl [46] 0 acc l).map List.length = szA acc.length l
  | [], acc => by rw [TL.spl_nil]; rfl
  | c :: l, acc => by
    by_cases h : c = 46
    · subst h
      have hp : TL.pre [46] (46 :: l) = true := TL.pre_self [46] l
      rw [TL.spl_hit hp]
      show acc.length :: (TL.spl [46] 0 [] l).map List.length = szA acc.length (46 :: l)
      rw [spl_len l []]
      rfl
    · have hp : TL.pre [46] (c :: l) = false := TL.pre_of_head _ _ fun e => h e
      rw [TL.spl_miss hp, spl_len l (acc ++ [c])]
      show szA (acc ++ [c]).length l = if c = 46 then _ else szA (acc.length + 1) l
      rw [if_neg h, List.length_append]
      rfl
theorem split_lens (l : List Nat) : (Txt.split (S l) ".").map (fun z => z.length) = szs l := by
  have e : ((".":Str)) = S [46] := by decide +kernel
  rw [e, SX.split_S (by simp) (by decide), List.map_map]
  have h := spl_len l []
  show _ = szA 0 l
  rw [← (show ([] : List Nat).length = 0 from rfl), ← h]
  refine List.map_congr_left fun x _ => ?_
  show (S x).length = x.length
  exact SX.S_len x
theorem szA_len : ∀ (l : List Nat) (n : Nat), 1 ≤ (szA n l).length ∧ (szA n l).length ≤ l.length + 1
  | [], n => by simp [szA]
  | c :: l, n => by
    unfold szA
    by_cases h : c = 46
    · rw [if_pos h]
      have := szA_len l 0
      simp only [List.length_cons]
      omega
    · rw [if_neg h]
      have := szA_len l (n + 1)
      simp only [List.length_cons]
      omega
/-- signs of a pattern -/
def Sg (l : List Nat) : Prop := ∀ c ∈ l, c = 48 ∨ c = 49 ∨ c = 46
def nb (l : List Nat) : Nat := (l.filter (fun c => c != 46)).length
theorem szA_sum : ∀ (l : List Nat) (n : Nat), (szA n l).sum = n + nb l
  | [], n => by simp [szA, nb]
  | c :: l, n => by
    unfold szA nb
    by_cases h : c = 46
    · subst h
      rw [if_pos rfl, List.sum_cons, szA_sum l 0]
      simp [nb]
    · rw [if_neg h, szA_sum l (n + 1), List.filter_cons_of_pos (by simpa using h), List.length_cons]
      unfold nb
      omega
theorem pfa_good : ∀ (l : List Nat) (a bits blocks size : Nat), Sg l → (∀ n ∈ szA size l, 1 ≤ n) → blocks + (szA size l).length ≤ 4 → bits + nb l ≤ 120 → pfa l a bits blocks size = none
  | [], a, bits, blocks, size, _, h2, _, _ => by
    have : 1 ≤ size := h2 size (by simp [szA])
    unfold pfa
    rw [if_neg (by omega)]
  | c :: l, a, bits, blocks, size, h1, h2, h3, h4 => by
    have hc := h1 c List.mem_cons_self
    have h1' : Sg l := fun d hd => h1 d (List.mem_cons_of_mem _ hd)
    unfold pfa
    by_cases h : c = 46
    · subst h
      have e : szA size (46 :: l) = size :: szA 0 l := by
        show (if 46 = 46 then _ else _) = _
        rw [if_pos rfl]
      rw [e] at h2 h3
      have hs : 1 ≤ size := h2 size List.mem_cons_self
      have hl := szA_len l 0
      have sm := szA_sum l 0
      have pos : 1 ≤ (szA 0 l).sum := by
        cases q : szA 0 l with
        | nil => rw [q] at hl; simp at hl
        | cons x r =>
          have := h2 x (by rw [q]; simp)
          rw [List.sum_cons]
          omega
      have en : nb (46 :: l) = nb l := by simp [nb]
      rw [en] at h4
      rw [List.length_cons] at h3
      rw [if_neg (by omega), if_pos rfl, if_neg (by omega)]
      exact pfa_good l _ _ _ _ h1' (fun n hn => h2 n (List.mem_cons_of_mem _ hn)) (by omega) (by omega)
    · have e : szA size (c :: l) = szA (size + 1) l := by
        show (if c = 46 then _ else _) = _
        rw [if_neg h]
      rw [e] at h2 h3
      have en : nb (c :: l) = nb l + 1 := by
        unfold nb
        rw [List.filter_cons_of_pos (by simpa using h), List.length_cons]
      rw [en] at h4
      rw [if_neg (by omega), if_neg h]
      exact pfa_good l _ _ _ _ h1' h2 h3 (by omega)
/-- a pattern -/
structure IsP (l : List Nat) : Prop where
  sg : Sg l
  one : ∀ n ∈ szs l, 1 ≤ n
  few : (szs l).length ≤ 3
  sum : nb l ≤ 120
theorem IsP.pf {l : List Nat} (h : IsP l) : pf l = none := pfa_good l 0 0 1 0 h.sg h.one (by have := h.few; unfold szs at this; omega) (by have := h.sum; omega)
theorem len_nb : ∀ (l : List Nat) (n : Nat), l.length + 1 = nb l + (szA n l).length
  | [], n => by simp [nb, szA]
  | c :: l, n => by
    unfold szA nb
    by_cases h : c = 46
    · subst h
      rw [if_pos rfl, List.length_cons, List.length_cons, len_nb l 0]
      simp [nb]
      omega
    · rw [if_neg h, List.length_cons, len_nb l (n + 1), List.filter_cons_of_pos (by simpa using h), List.length_cons]
      unfold nb
      omega
theorem IsP.len {l : List Nat} (h : IsP l) : l.length ≤ 122 := by
  have h1 := len_nb l 0
  have h2 := h.few
  have h3 := h.sum
  unfold szs at h2
  omega
/-! two patterns of equal sizes -/
def AlS (a b : Nat) : Prop := (a = 46 ∧ b = 46) ∨ ((a = 48 ∨ a = 49) ∧ (b = 48 ∨ b = 49))
abbrev Al (l m : List Nat) : Prop := Paired AlS l m
theorem Al.szA : ∀ {l m : List Nat}, Al l m → ∀ n, Fb.szA n l = Fb.szA n m
  | _, _, .nil, n => rfl
  | a :: l, b :: m, .cons r t, n => by
    show (if a = 46 then _ else _) = (if b = 46 then _ else _)
    rcases r with ⟨rfl, rfl⟩ | ⟨h1, h2⟩
    · rw [if_pos rfl, if_pos rfl, Al.szA t 0]
    · rw [if_neg (by omega), if_neg (by omega), Al.szA t (n + 1)]
theorem Al.szs {l m : List Nat} (h : Al l m) : Fb.szs l = Fb.szs m := h.szA 0
theorem Al.nb {l m : List Nat} (h : Al l m) : Fb.nb l = Fb.nb m := by
  have h1 := szA_sum l 0
  have h2 := szA_sum m 0
  rw [h.szA 0] at h1
  omega
theorem Al.len : ∀ {l m : List Nat}, Al l m → l.length = m.length
  | _, _, .nil => rfl
  | _, _, .cons _ t => by rw [List.length_cons, List.length_cons, Al.len t]
theorem Al.sg : ∀ {l m : List Nat}, Al l m → Sg m
  | _, _, .nil => fun c hc => by simp at hc
  | _, _, .cons r t => fun c hc => by
    rcases List.mem_cons.mp hc with e | e
    · subst e
      rcases r with ⟨_, h⟩ | ⟨_, h⟩ <;> omega
    · exact Al.sg t c e
theorem Al.symm : ∀ {l m : List Nat}, Al l m → Al m l
  | _, _, .nil => .nil
  | _, _, .cons r t => .cons (by rcases r with ⟨h1, h2⟩ | ⟨h1, h2⟩; exact .inl ⟨h2, h1⟩; exact .inr ⟨h2, h1⟩) (Al.symm t)
theorem Al.refl : ∀ {l : List Nat}, Sg l → Al l l
  | [], _ => .nil
  | c :: l, h => .cons (by rcases h c List.mem_cons_self with e | e | e; exact .inr ⟨.inl e, .inl e⟩; exact .inr ⟨.inr e, .inr e⟩; exact .inl ⟨e, e⟩) (Al.refl fun d hd => h d (List.mem_cons_of_mem _ hd))
theorem Al.trans : ∀ {l m k : List Nat}, Al l m → Al m k → Al l k
  | _, _, _, .nil, .nil => .nil
  | _, _, _, .cons r t, .cons r' t' => .cons (by rcases r with ⟨h1, h2⟩ | ⟨h1, h2⟩ <;> rcases r' with ⟨h3, h4⟩ | ⟨h3, h4⟩; exact .inl ⟨h1, h4⟩; omega; omega; exact .inr ⟨h1, h4⟩) (Al.trans t t')
theorem Al.isP {l m : List Nat} (h : Al l m) (p : IsP l) : IsP m :=
  ⟨h.sg, by rw [← h.szs]; exact p.one, by rw [← h.szs]; exact p.few, by rw [← h.nb]; exact p.sum⟩
/-- sign by sign -/
def zw (f : Nat → Nat → Nat) (l m : List Nat) : List Nat := List.zipWith f l m
theorem Al.zw {f : Nat → Nat → Nat} (hf : ∀ a b, AlS a b → AlS a (f a b)) : ∀ {l m : List Nat}, Al l m → Al l (zw f l m)
  | _, _, .nil => .nil
  | _, _, .cons r t => .cons (hf _ _ r) (Al.zw hf t)
def fAnd (a b : Nat) : Nat := if a = b then a else 48
def fOr (a b : Nat) : Nat := if a = b then a else 49
def fXor (a b : Nat) : Nat := if a ≠ b then 49 else if a = 46 then 46 else 48
theorem al_and (a b : Nat) (h : AlS a b) : AlS a (fAnd a b) := by
  unfold AlS fAnd at *
  by_cases e : a = b
  · subst e; rw [if_pos rfl]; omega
  · rw [if_neg e]; omega
theorem al_or (a b : Nat) (h : AlS a b) : AlS a (fOr a b) := by
  unfold AlS fOr at *
  by_cases e : a = b
  · subst e; rw [if_pos rfl]; omega
  · rw [if_neg e]; omega
theorem al_xor (a b : Nat) (h : AlS a b) : AlS a (fXor a b) := by
  unfold AlS fXor at *
  by_cases e : a = b
  · subst e; rw [if_neg (by simp)]; by_cases q : a = 46
    · rw [if_pos q]; omega
    · rw [if_neg q]; omega
  · rw [if_pos e]; omega
/-- each sign of the one is at most the other's -/
def below (l m : List Nat) : Bool := (List.zipWith (fun a b => decide (a ≤ b)) l m).all id
theorem szA_head : ∀ (l : List Nat) (n : Nat), ∃ h r, szA n l = h :: r ∧ n ≤ h
  | [], n => ⟨n, [], rfl, Nat.le_refl _⟩
  | c :: l, n => by
    unfold szA
    by_cases h : c = 46
    · rw [if_pos h]
      exact ⟨n, _, rfl, Nat.le_refl _⟩
    · rw [if_neg h]
      obtain ⟨x, r, e, hx⟩ := szA_head l (n + 1)
      exact ⟨x, r, e, by omega⟩
theorem al_of : ∀ {l m : List Nat}, Sg l → Sg m → ∀ n, szA n l = szA n m → Al l m
  | [], [], _, _, _, _ => .nil
  | [], c :: m, _, _, n, e => by
    exfalso
    unfold szA at e
    by_cases h : c = 46
    · rw [if_pos h] at e
      have := szA_len m 0
      simp at e
      rw [e] at this
      simp at this
    · rw [if_neg h] at e
      obtain ⟨x, r, e2, hx⟩ := szA_head m (n + 1)
      rw [e2] at e
      simp at e
      omega
  | c :: l, [], _, _, n, e => by
    exfalso
    unfold szA at e
    by_cases h : c = 46
    · rw [if_pos h] at e
      have := szA_len l 0
      simp at e
      rw [e] at this
      simp at this
    · rw [if_neg h] at e
      obtain ⟨x, r, e2, hx⟩ := szA_head l (n + 1)
      rw [e2] at e
      simp at e
      omega
  | c :: l, d :: m, hl, hm, n, e => by
    have h1 : Sg l := fun x hx => hl x (List.mem_cons_of_mem _ hx)
    have h2 : Sg m := fun x hx => hm x (List.mem_cons_of_mem _ hx)
    have hc := hl c List.mem_cons_self
    have hd := hm d List.mem_cons_self
    unfold szA at e
    by_cases h : c = 46
    · by_cases h' : d = 46
      · rw [if_pos h, if_pos h'] at e
        exact .cons (.inl ⟨h, h'⟩) (al_of h1 h2 0 (List.cons.inj e).2)
      · exfalso
        rw [if_pos h, if_neg h'] at e
        obtain ⟨x, r, e2, hx⟩ := szA_head m (n + 1)
        rw [e2] at e
        have := (List.cons.inj e).1
        omega
    · by_cases h' : d = 46
      · exfalso
        rw [if_neg h, if_pos h'] at e
        obtain ⟨x, r, e2, hx⟩ := szA_head l (n + 1)
        rw [e2] at e
        have := (List.cons.inj e).1
        omega
      · rw [if_neg h, if_neg h'] at e
        exact .cons (.inr ⟨by omega, by omega⟩) (al_of h1 h2 (n + 1) e)
/-! places -/
theorem S_sgn {l : List Nat} {i c : Nat} (h : l[i]? = some c) : (⟨#[(S l).cps.getD i 0]⟩ : Str) = S [c] := by
  have e : (S l).cps.getD i 0 = c := by
    show l.toArray.getD i 0 = c
    rw [Array.getD_eq_getD_getElem?]
    simp [h]
  rw [e]
theorem join_empty : ∀ xs : List Nat, TL.joinL [] (xs.map fun c => [c]) = xs
  | [] => rfl
  | [a] => rfl
  | a :: b :: r => by
    have h := join_empty (b :: r)
    show [a] ++ [] ++ TL.joinL [] ((b :: r).map fun c => [c]) = _
    rw [h]
    rfl
theorem join_signs (xs : List Nat) : Txt.join "" (xs.map fun c => S [c]) = S xs := by
  have e : (("" : Str)) = S [] := by decide +kernel
  have h := SX.join_S [] (xs.map fun c => [c])
  rw [e]
  rw [List.map_map] at h
  rw [join_empty] at h
  exact h
theorem repl_dots : ∀ l : List Nat, StrLaws.replL [46] [] l = l.filter (fun c => c != 46)
  | [] => StrLaws.replL_nil
  | c :: l => by
    by_cases h : c = 46
    · subst h
      rw [StrLaws.replL_hit (by simp) (by simp), List.filter_cons_of_neg (by simp)]
      exact repl_dots l
    · rw [StrLaws.replL_miss (by simpa using h), List.filter_cons_of_pos (by simpa using h), repl_dots l]
theorem replace_dots (l : List Nat) : Txt.replace (S l) "." "" = S (l.filter (fun c => c != 46)) := by
  have e1 : ((".":Str)) = S [46] := by decide +kernel
  have e2 : (("" : Str)) = S [] := by decide +kernel
  rw [e1, e2]
  refine TL.ext_tl ?_
  have h := StrLaws.replace_list (x := S l) (y := S [46]) (z := S []) (by decide)
  exact h.trans (repl_dots l)
/-! the other way -/
theorem pfa_conv : ∀ (l : List Nat) (a bits blocks size : Nat), blocks ≤ 3 → bits ≤ 120 → pfa l a bits blocks size = none → Sg l ∧ (∀ n ∈ szA size l, 1 ≤ n) ∧ blocks + (szA size l).length ≤ 4 ∧ bits + nb l ≤ 120
  | [], a, bits, blocks, size, hb, hc, h => by
    unfold pfa at h
    by_cases e : size = 0
    · rw [if_pos e] at h; cases h
    · refine ⟨fun c hc => by simp at hc, fun n hn => ?_, by simp [szA]; omega, by simp [nb]; omega⟩
      have : n = size := by simpa [szA] using hn
      omega
  | c :: l, a, bits, blocks, size, hb, hc, h => by
    unfold pfa at h
    by_cases e : ¬(c = 48 ∨ c = 49 ∨ c = 46) ∨ bits = 120
    · rw [if_pos e] at h; cases h
    · rw [if_neg e] at h
      have e1 : c = 48 ∨ c = 49 ∨ c = 46 := by
        by_cases q : c = 48 ∨ c = 49 ∨ c = 46
        · exact q
        · exact absurd (.inl q) e
      have e2 : ¬ bits = 120 := fun q => e (.inr q)
      have sg : ∀ {l : List Nat}, Sg l → Sg (c :: l) := fun h d hd => by
        rcases List.mem_cons.mp hd with q | q
        · rw [q]; exact e1
        · exact h d q
      by_cases d : c = 46
      · rw [if_pos d] at h
        by_cases f : size = 0 ∨ blocks = 3
        · rw [if_pos f] at h; cases h
        · rw [if_neg f] at h
          obtain ⟨h1, h2, h3, h4⟩ := pfa_conv l _ _ _ _ (by omega) (by omega) h
          have es : szA size (c :: l) = size :: szA 0 l := by
            show (if c = 46 then _ else _) = _
            rw [if_pos d]
          have en : nb (c :: l) = nb l := by subst d; simp [nb]
          rw [es, en]
          refine ⟨sg h1, fun n hn => ?_, by rw [List.length_cons]; omega, h4⟩
          rcases List.mem_cons.mp hn with q | q
          · omega
          · exact h2 n q
      · rw [if_neg d] at h
        obtain ⟨h1, h2, h3, h4⟩ := pfa_conv l _ _ _ _ (by omega) (by omega) h
        have es : szA size (c :: l) = szA (size + 1) l := by
          show (if c = 46 then _ else _) = _
          rw [if_neg d]
        have en : nb (c :: l) = nb l + 1 := by
          unfold nb
          rw [List.filter_cons_of_pos (by simpa using d), List.length_cons]
        rw [es, en]
        exact ⟨sg h1, h2, h3, by omega⟩
theorem isP_pf {l : List Nat} (h : Fb.pf l = none) : IsP l := by
  obtain ⟨h1, h2, h3, h4⟩ := pfa_conv l 0 0 1 0 (by decide) (by decide) h
  exact ⟨h1, h2, by unfold szs; omega, by omega⟩
end Fb
set_option maxRecDepth 100000
set_option maxHeartbeats 4000000
namespace Fb
open PySem PySem.Spec PyProof.Rows L2
/-! the document's own error classes -/
abbrev bmX (fe : Addr) : List Value := [.ref fe, .type "ValueError", .type "Exception", .type "BaseException", .type "object"]
/-- what the written part says of an own error class under FallenError -/
structure XF (K : PySem.W.Frag) (mg : Str → Option Value) (fe : Addr) (x : Str) (C : Addr) : Prop where
  g : mg x = some (.ref C)
  ob : ∃ nm q N bs sn sub ab col dd k0 k1 k2 k3 k5, K.lookup C = some (excClassObj nm q C N bs (bmX fe) true sn sub ab col dd k0 k1 k2 k3 k5 "ValueError.__new__")
  kp : PySem.W.keepIn K (.ref C) = true
  ty : PySem.W.typeIn K (.ref C) = some (.type "type")
  sa : PySem.W.findIn K (.ref C) "__setattr__" = some (some (.builtin "object.__setattr__"))
  ga : PySem.W.findIn K (.ref C) "__getattribute__" = some (some (.builtin "BaseException.__getattribute__"))
  gg : PySem.W.findIn K (.ref C) "__getattr__" = some none
  ca : PySem.W.findIn K (.ref C) "__class__" = some (some (.builtin "object.__class__"))
section
variable {K : PySem.W.Frag} {mg : Str → Option Value} {fe C : Addr} {x : Str}
theorem XF.cls (T : XF K mg fe x C) : ∃ cd, PySem.W.clsIn K C = some cd ∧ cd.mro = .ref C :: bmX fe ∧ cd.hasDict = true := by
  obtain ⟨nm, q, N, bs, sn, sub, ab, col, dd, k0, k1, k2, k3, k5, h⟩ := T.ob
  exact ⟨{ name := nm, bases := bs, mro := .ref C :: bmX fe, ns := N, qualname := q, hasDict := true, slotNames := sn, subclasses := sub, abstract := ab, collection := col, hasDel := false }, by unfold PySem.W.clsIn; rw [h] <;> rfl, rfl, rfl⟩
theorem XF.mro (T : XF K mg fe x C) (b : Value) : PySem.W.mroIn K C b = some ((Value.ref C :: bmX fe).contains b) := by
  obtain ⟨cd, h1, h2, _⟩ := T.cls
  unfold PySem.W.mroIn
  rw [h1, Option.bind_some, h2] <;> rfl
theorem XF.xc (T : XF K mg fe x C) : XC K C := by
  obtain ⟨cd, h1, h2, h3⟩ := T.cls
  refine ⟨by rw [h1]; rfl, T.ga, T.gg, ?_, T.ca, ?_, by unfold PySem.W.hasDictIn; rw [h1] <;> exact h3⟩
  · show PySem.W.mroIn K C _ = _
    rw [T.mro] <;> simp
  · rw [T.mro] <;> simp
theorem XF.oc (T : XF K mg fe x C) : OexC K C := by
  obtain ⟨nm, q, N, bs, sn, sub, ab, col, dd, k0, k1, k2, k3, k5, h⟩ := T.ob
  exact ⟨⟨nm, q, N, bs, bmX fe, sn, sub, ab, col, dd, k0, k1, k2, k3, k5, h, by rfl⟩, T.sa, T.xc.sb, T.ty, T.kp⟩
/-- isinstance(e, D), e of the class at C, D at another address that is a class too -/
theorem XF.is {D : Addr} {y : Str} (T : XF K mg fe x C) (U : XF K mg fe y D) (hf : D ≠ fe) : PySem.W.kitOne K (.ref C) (.ref D) = some (decide (C = D)) := by
  unfold PySem.W.kitOne
  by_cases e : C = D
  · subst e
    simp
  · have e1 : (Value.ref C == Value.ref D) = false := beq_eq_false_iff_ne.mpr fun z => e (Value.ref.inj z)
    rw [e1, if_neg Bool.false_ne_true, decide_eq_false e]
    unfold PySem.W.kitCls
    have e2 : ((PySem.W.clsIn K D).isSome && PySem.W.typeIn K (.ref D) == some (.type "type")) = true := by
      rw [U.xc.cl, U.ty] <;> rfl
    show (if ((PySem.W.clsIn K D).isSome && PySem.W.typeIn K (.ref D) == some (.type "type")) = true then PySem.W.subIn K (.ref C) (.ref D) else none) = _
    rw [if_pos e2]
    show PySem.W.mroIn K C (.ref D) = _
    rw [T.mro]
    have e3 : (Value.ref D == Value.ref C) = false := beq_eq_false_iff_ne.mpr fun z => e (Value.ref.inj z).symm
    have e4 : (Value.ref D == Value.ref fe) = false := beq_eq_false_iff_ne.mpr fun z => hf (Value.ref.inj z)
    have e5 : ∀ T : String, (Value.ref D == Value.type T) = false := fun T => rfl
    simp [List.contains, List.elem, e3, e4, e5]
theorem XF.isF (T : XF K mg fe x C) (hc : (PySem.W.clsIn K fe).isSome = true) (ht : PySem.W.typeIn K (.ref fe) = some (.type "type")) : PySem.W.kitOne K (.ref C) (.ref fe) = some true := by
  unfold PySem.W.kitOne
  by_cases e : C = fe
  · subst e
    simp
  · have e1 : (Value.ref C == Value.ref fe) = false := beq_eq_false_iff_ne.mpr fun z => e (Value.ref.inj z)
    rw [e1, if_neg Bool.false_ne_true]
    have e2 : ((PySem.W.clsIn K fe).isSome && PySem.W.typeIn K (.ref fe) == some (.type "type")) = true := by
      rw [hc, ht] <;> rfl
    show (if ((PySem.W.clsIn K fe).isSome && PySem.W.typeIn K (.ref fe) == some (.type "type")) = true then PySem.W.subIn K (.ref C) (.ref fe) else none) = _
    rw [if_pos e2]
    show PySem.W.mroIn K C (.ref fe) = _
    rw [T.mro]
    simp
theorem XF.isV (T : XF K mg fe x C) : PySem.W.kitOne K (.ref C) (.type "ValueError") = some true := by
  unfold PySem.W.kitOne
  have e1 : (Value.ref C == Value.type "ValueError") = false := by rfl
  rw [e1, if_neg Bool.false_ne_true]
  show (if PySem.W.kitMeta "ValueError" = true then PySem.W.subIn K (.ref C) (.type "ValueError") else none) = _
  rw [if_pos (by decide +kernel)]
  show PySem.W.mroIn K C _ = _
  rw [T.mro]
  simp
end
theorem XF.of {K : PySem.W.Frag} {h : Heap} {mg : Str → Option Value} {fe C N : Addr} {x nm q : Str} {bs : List Value} {sn : List Str} {sub : List Value} {ab : Bool} {col : Option Bool} {dd : Option Addr} {k0 k1 k2 k3 k5 : Option Value} (X : K.In h) (G : h.Ns mainGlobals mg)
    (g : PySem.W.nsIn K mainGlobals x = some (some (.ref C))) (ob : K.lookup C = some (excClassObj nm q C N bs (bmX fe) true sn sub ab col dd k0 k1 k2 k3 k5 "ValueError.__new__")) (kp : PySem.W.keepIn K (.ref C) = true) (ty : PySem.W.typeIn K (.ref C) = some (.type "type"))
    (sa : PySem.W.findIn K (.ref C) "__setattr__" = some (some (.builtin "object.__setattr__"))) (ga : PySem.W.findIn K (.ref C) "__getattribute__" = some (some (.builtin "BaseException.__getattribute__"))) (gg : PySem.W.findIn K (.ref C) "__getattr__" = some none)
    (ca : PySem.W.findIn K (.ref C) "__class__" = some (some (.builtin "object.__class__"))) : XF K mg fe x C :=
  ⟨PySem.W.mg_of X G g, ⟨nm, q, N, bs, sn, sub, ab, col, dd, k0, k1, k2, k3, k5, ob⟩, kp, ty, sa, ga, gg, ca⟩
/-! isinstance of an exception that was caught and is kept -/
section
variable {X : Cx} {pins : List (Addr × Obj)} {σ : L2.St} {H : Hp} {s : Shared}
theorem exr_inst {a C : Addr} (I : Inv X pins σ H s) (h : H a = some (ExR (.ref C) none a)) : ∃ ox, PySem.W.InstAt s.heap a ox C none := by
  obtain ⟨⟨oe, vs, ho, h1, h2, h3⟩, _, _⟩ := I.hok a _ h
  refine ⟨oe, ho, h1, ?_, ?_⟩
  · unfold PySem.W.notCls; rw [h3] <;> rfl
  · rw [h2] <;> trivial
def rIsR (K : PySem.W.Frag) : List V → Hp → VK → Prop := fun xs H Q => ∃ (a C : Addr) (c : V) (cv : Value) (b : Bool), xs = [.ref a, c] ∧ XC K C ∧ XB K ∧ H a = some (ExR (.ref C) none a) ∧ ClsV c cv ∧ PySem.W.kitOne K (.ref C) cv = some b ∧ Q (.bl b) H
theorem call_isR : CallR X (.builtin "isinstance") (rIsR X.K) := by
  intro pins s σ H xs us Q I r h
  obtain ⟨a, C, c, cv, b, rfl, T, B, hE, k, e, q⟩ := h
  obtain ⟨u1, u2, rfl, r1, r2⟩ := vals2 r
  have e2 := k.eq r2
  subst e2
  cases (show u1 = Value.ref a from r1)
  obtain ⟨ox, J⟩ := exr_inst I hE
  exact PySem.W.kia_one (PySem.W.kitx_exc T.cl T.ga T.gg T.sb T.ca B.hn B.ht T.ob) I.kIn J e (fun z => nomatch z) fun tk => ⟨.bl b, H, I.tok tk, rfl, q⟩
end
/-- an own __init__ of one field -/
def spI1 (C : Addr) (f : Str) : Sp := fun vs H Q _ => ∃ (a : Addr) (v : V), vs = [.ref a, v] ∧ H a = some (exo a C none) ∧ ∀ d, H d = none → d ≠ a → Q .non (upd (upd H d (exd d [(f, v)])) a (exo a C (some d)))
end Fb
set_option maxRecDepth 100000
set_option maxHeartbeats 4000000
namespace Fb
open PySem PySem.Spec PyProof.Rows L2
/-! list comprehensions that leave what was: the list so far is told by a function of the turn -/
section
variable {g : TG} {tt : TT} {te : TE} {vs : List Nat} {σ : L2.St} {H1 : Hp} {D : Addr} {Qd : Hp → Prop} (out : Nat → List V)
def OutI (H1 : Hp) (D : Addr) (o : List V) (H : Hp) : Prop := Same H1 H ∧ H D = some (.lst o)
theorem OutI.start {H1 : Hp} {D : Addr} (hD : H1 D = none) : OutI H1 D [] (upd H1 D (.lst [])) := ⟨smN (Same.refl _) hD, upd_same⟩
theorem OutI.put {H1 H H4 : Hp} {D : Addr} {o : List V} {y : V} (hD : H1 D = none) (h : OutI H1 D o H) (s : Same H H4) : OutI H1 D (o ++ [y]) (upd H4 D (.lst (o ++ [y]))) :=
  ⟨fun b u e => by rw [upd_ne (ne_of_none e hD)]; exact s _ _ (h.1 _ _ e), upd_same⟩
theorem OutI.stay {H1 H H4 : Hp} {D : Addr} {o : List V} (h : OutI H1 D o H) (s : Same H H4) : OutI H1 D o H4 := ⟨h.1.trans s, s _ _ h.2⟩
theorem lc_outL {K : PySem.W.Frag} {a : Addr} {xs : List V} (hD : H1 D = none) (hl : SqL K H1 a xs) (o0 : out 0 = []) (ol : ∀ i, i < xs.length → (out i).length < sizeLine)
    (hs : ∀ i x H (Kc : V → Hp → Prop) (K0 : Hp → Prop), xs[i]? = some x → Same H1 H → (∀ y H4, Same H H4 → out (i + 1) = out i ++ [y] → Kc y H4) → (∀ H4, Same H H4 → out (i + 1) = out i → K0 H4) →
      g x (wipe σ vs) H fun σ2 H2 => wipe σ2 vs = wipe σ vs ∧ tt σ2 H2 fun b H3 => if b = true then te σ2 H3 Kc else K0 H3)
    (hd : ∀ H, Same H1 H → H D = some (.lst (out xs.length)) → Qd H) :
    ∃ W : Nat → Nat → Hp → Prop, (∃ m, W 0 m (upd H1 D (.lst []))) ∧ ∀ i m H, W i m H →
      ((Itl K a).stop i H ∧ Qd H) ∨ ((Itl K a).go i H ∧ ∃ Nx : Hp → Prop, (∀ H', Nx H' → ∃ m', m' < m ∧ W (i + 1) m' H') ∧ ∀ x H', (Itl K a).yld i H x H' → g x (wipe σ vs) H' fun σ2 H2 => wipe σ2 vs = wipe σ vs ∧ tt σ2 H2 fun b H3 =>
        if b = true then te σ2 H3 fun y H4 => ∃ acc, H4 D = some (.lst acc) ∧ acc.length < sizeLine ∧ Nx (upd H4 D (.lst (acc ++ [y]))) else Nx H3) := by
  refine lc_list (xs := xs) (fun i H => OutI H1 D (out i) H) (by rw [o0]; exact OutI.start hD) (fun i H _ h => h.1.seq hl) (fun i x H e h => ?_) (fun H h => hd H h.1 h.2)
  have lt : i < xs.length := (List.getElem?_eq_some_iff.mp e).1
  exact hs i x H _ _ e h.1 (fun y H4 s q => ⟨out i, (h.stay s).2, ol i lt, by rw [q]; exact h.put hD s⟩) (fun H4 s q => by rw [q]; exact h.stay s)
theorem lc_outT {vals : Nat → List V} {n : Nat} (hD : H1 D = none) (o0 : out 0 = []) (ol : ∀ i, i < n → (out i).length < sizeLine)
    (hs : ∀ i T H (Kc : V → Hp → Prop) (K0 : Hp → Prop), i < n → Same H1 H → H T = some (.tup (vals i)) → (∀ y H4, Same H H4 → out (i + 1) = out i ++ [y] → Kc y H4) → (∀ H4, Same H H4 → out (i + 1) = out i → K0 H4) →
      g (.ref T) (wipe σ vs) H fun σ2 H2 => wipe σ2 vs = wipe σ vs ∧ tt σ2 H2 fun b H3 => if b = true then te σ2 H3 Kc else K0 H3)
    (hd : ∀ H, Same H1 H → H D = some (.lst (out n)) → Qd H) :
    ∃ W : Nat → Nat → Hp → Prop, (∃ m, W 0 m (upd H1 D (.lst []))) ∧ ∀ i m H, W i m H →
      ((ItT vals n).stop i H ∧ Qd H) ∨ ((ItT vals n).go i H ∧ ∃ Nx : Hp → Prop, (∀ H', Nx H' → ∃ m', m' < m ∧ W (i + 1) m' H') ∧ ∀ x H', (ItT vals n).yld i H x H' → g x (wipe σ vs) H' fun σ2 H2 => wipe σ2 vs = wipe σ vs ∧ tt σ2 H2 fun b H3 =>
        if b = true then te σ2 H3 fun y H4 => ∃ acc, H4 D = some (.lst acc) ∧ acc.length < sizeLine ∧ Nx (upd H4 D (.lst (acc ++ [y]))) else Nx H3) := by
  refine lc_T (fun i H => OutI H1 D (out i) H) (by rw [o0]; exact OutI.start hD) (fun i T H lt h hT => ?_) (fun H h => hd H h.1 h.2)
  have s0 : Same H (upd H T (.tup (vals i))) := smN (Same.refl _) hT
  exact hs i T _ _ _ lt (h.1.trans s0) upd_same (fun y H4 s q => ⟨out i, (h.stay (s0.trans s)).2, ol i lt, by rw [q]; exact h.put hD (s0.trans s)⟩) (fun H4 s q => by rw [q]; exact h.stay (s0.trans s))
theorem lc_outR {lo : Int} {n : Nat} (hD : H1 D = none) (o0 : out 0 = []) (ol : ∀ i, i < n → (out i).length < sizeLine)
    (hs : ∀ i H (Kc : V → Hp → Prop) (K0 : Hp → Prop), i < n → Same H1 H → (∀ y H4, Same H H4 → out (i + 1) = out i ++ [y] → Kc y H4) → (∀ H4, Same H H4 → out (i + 1) = out i → K0 H4) →
      g (.int (lo + i)) (wipe σ vs) H fun σ2 H2 => wipe σ2 vs = wipe σ vs ∧ tt σ2 H2 fun b H3 => if b = true then te σ2 H3 Kc else K0 H3)
    (hd : ∀ H, Same H1 H → H D = some (.lst (out n)) → Qd H) :
    ∃ W : Nat → Nat → Hp → Prop, (∃ m, W 0 m (upd H1 D (.lst []))) ∧ ∀ i m H, W i m H →
      ((Itr lo n).stop i H ∧ Qd H) ∨ ((Itr lo n).go i H ∧ ∃ Nx : Hp → Prop, (∀ H', Nx H' → ∃ m', m' < m ∧ W (i + 1) m' H') ∧ ∀ x H', (Itr lo n).yld i H x H' → g x (wipe σ vs) H' fun σ2 H2 => wipe σ2 vs = wipe σ vs ∧ tt σ2 H2 fun b H3 =>
        if b = true then te σ2 H3 fun y H4 => ∃ acc, H4 D = some (.lst acc) ∧ acc.length < sizeLine ∧ Nx (upd H4 D (.lst (acc ++ [y]))) else Nx H3) := by
  refine lc_range (fun i H => OutI H1 D (out i) H) (by rw [o0]; exact OutI.start hD) (fun i H lt h => ?_) (fun H h => hd H h.1 h.2)
  exact hs i H _ _ lt h.1 (fun y H4 s q => ⟨out i, (h.stay s).2, ol i lt, by rw [q]; exact h.put hD s⟩) (fun H4 s q => by rw [q]; exact h.stay s)
end
theorem iteNo {A B : Prop} (h : B) : if false = true then A else B := by
  rw [if_neg Bool.false_ne_true]
  exact h
theorem yes1 {A B : Hp → Prop} {σ : L2.St} {H : Hp} (h : A H) : tYes σ H (fun b H3 => if b = true then A H3 else B H3) := by
  show (if true = true then A H else B H)
  rw [if_pos rfl]
  exact h
/-- the list so far, item by item -/
def outM (f : Nat → V) (i : Nat) : List V := (List.range i).map f
theorem outM_0 {f : Nat → V} : outM f 0 = [] := rfl
theorem outM_s {f : Nat → V} {i : Nat} : outM f (i + 1) = outM f i ++ [f i] := by unfold outM; rw [List.range_succ, List.map_append]; rfl
theorem outM_l {f : Nat → V} {i : Nat} : (outM f i).length = i := by unfold outM; simp
/-- .. of those that are kept -/
def outF (p : Nat → Bool) (f : Nat → V) (i : Nat) : List V := ((List.range i).filter p).map f
theorem outF_0 {p : Nat → Bool} {f : Nat → V} : outF p f 0 = [] := rfl
theorem outF_t {p : Nat → Bool} {f : Nat → V} {i : Nat} (h : p i = true) : outF p f (i + 1) = outF p f i ++ [f i] := by unfold outF; rw [List.range_succ, List.filter_append, List.map_append]; simp [h]
theorem outF_f {p : Nat → Bool} {f : Nat → V} {i : Nat} (h : p i = false) : outF p f (i + 1) = outF p f i := by unfold outF; rw [List.range_succ, List.filter_append, List.map_append]; simp [h]
theorem outF_l {p : Nat → Bool} {f : Nat → V} {i : Nat} : (outF p f i).length ≤ i := by
  unfold outF
  rw [List.length_map]
  exact Nat.le_trans (List.length_filter_le _ _) (by simp)
end Fb
set_option maxRecDepth 100000
set_option maxHeartbeats 4000000
namespace Fb
open PySem PySem.Spec PyProof.Rows L2
/-! flat data -/
def numD (ns : List Nat) : List PyData := ns.map fun n => .int (n : Nat)
def nums (ns : List Nat) : List V := ns.map fun n => V.int (n : Nat)
def boolD (bs : List Bool) : List PyData := bs.map .bool
def bools (bs : List Bool) : List V := bs.map V.bl
section
variable {K : PySem.W.Frag} {H : Hp}
theorem dp_nums : ∀ ns : List Nat, DpAll K H (nums ns) (numD ns)
  | [] => .nil
  | n :: ns => .cons (.int _) (dp_nums ns)
theorem dp_bls : ∀ bs : List Bool, DpAll K H (bools bs) (boolD bs)
  | [] => .nil
  | b :: bs => .cons (.bl b) (dp_bls bs)
end
theorem lay_nums : ∀ ns : List Nat, PyData.canLayAll0 (numD ns) = true ∧ PyData.depthAll (numD ns) = 0
  | [] => ⟨rfl, rfl⟩
  | n :: ns => by
    obtain ⟨h1, h2⟩ := lay_nums ns
    unfold numD at *
    rw [List.map_cons]
    constructor
    · rw [PyData.canLayAll0, h1] <;> rfl
    · rw [PyData.depthAll, h2] <;> rfl
theorem lay_bools : ∀ ns : List Bool, PyData.canLayAll0 (boolD ns) = true ∧ PyData.depthAll (boolD ns) = 0
  | [] => ⟨rfl, rfl⟩
  | n :: ns => by
    obtain ⟨h1, h2⟩ := lay_bools ns
    unfold boolD at *
    rw [List.map_cons]
    constructor
    · rw [PyData.canLayAll0, h1] <;> rfl
    · rw [PyData.depthAll, h2] <;> rfl
theorem shaped_tup {ds : List PyData} (h : PyData.canLayAll0 ds = true ∧ PyData.depthAll ds = 0) : SeqAt.shaped (.tuple ds) = true := by
  unfold SeqAt.shaped
  rw [PyData.canLay0, PyData.depth, h.1, h.2]
  rfl
theorem shaped_lst {ds : List PyData} (h : PyData.canLayAll0 ds = true ∧ PyData.depthAll ds = 0) : SeqAt.shaped (.list ds) = true := by
  unfold SeqAt.shaped
  rw [PyData.canLay0, PyData.depth, h.1, h.2]
  rfl
theorem eqv_nums : ∀ ns ms : List Nat, PyData.eqvAll (numD ns) (numD ms) = decide (ns = ms)
  | [], [] => by simp [numD, PyData.eqvAll]
  | [], _ :: _ => by simp [numD, PyData.eqvAll]
  | _ :: _, [] => by simp [numD, PyData.eqvAll]
  | n :: ns, m :: ms => by
    have h := eqv_nums ns ms
    unfold numD at *
    rw [List.map_cons, List.map_cons, PyData.eqvAll, h, PyData.eqv]
    by_cases e : n = m
    · subst e
      simp
    · have e2 : ¬ ((n : Int) = (m : Int)) := by omega
      simp [e, e2]
theorem eqv_numT (ns ms : List Nat) : PyData.eqv (.tuple (numD ns)) (.tuple (numD ms)) = decide (ns = ms) := by rw [PyData.eqv, eqv_nums]
theorem eqv_numL (ns ms : List Nat) : PyData.eqv (.list (numD ns)) (.list (numD ms)) = decide (ns = ms) := by rw [PyData.eqv, eqv_nums]
mutual
theorem dp_same {K : PySem.W.Frag} {H H' : Hp} (s : Same H H') : ∀ (d : PyData) {v : V}, Dp K H v d → Dp K H' v d
  | _, _, .non => .non
  | _, _, .bl b => .bl b
  | _, _, .int i => .int i
  | _, _, .str x => .str x
  | .list ds, _, .lst h a => .lst (s.seq h) (dp_sameAll s ds a)
  | .tuple ds, _, .tup h a => .tup (by
      rcases h with (h | ⟨o, h⟩) | h
      · exact .inl (.inl (s _ _ h))
      · exact .inl (.inr ⟨o, s _ _ h⟩)
      · exact .inr h) (dp_sameAll s ds a)
theorem dp_sameAll {K : PySem.W.Frag} {H H' : Hp} (s : Same H H') : ∀ (ds : List PyData) {vs : List V}, DpAll K H vs ds → DpAll K H' vs ds
  | _, _, .nil => .nil
  | d :: ds, _, .cons h t => .cons (dp_same s d h) (dp_sameAll s ds t)
end
theorem sqT_same {K : PySem.W.Frag} {H H' : Hp} (s : Same H H') {a : Addr} {xs : List V} (h : SqT K H a xs) : SqT K H' a xs := by
  rcases h with (h | ⟨o, h⟩) | h
  · exact .inl (.inl (s _ _ h))
  · exact .inl (.inr ⟨o, s _ _ h⟩)
  · exact .inr h
theorem outM_all {ys : List V} {f : Nat → V} {n : Nat} (hn : n = ys.length) (h : ∀ i, i < n → ys[i]? = some (f i)) : outM f n = ys := by
  subst hn
  unfold outM
  refine List.ext_getElem? fun i => ?_
  by_cases hi : i < ys.length
  · rw [List.getElem?_map, List.getElem?_range hi, h i hi] <;> rfl
  · rw [List.getElem?_eq_none (by simpa using hi), List.getElem?_eq_none (by omega)]
/-- one sign is at most another -/
theorem sign_lt (a b : Nat) : (([b] : List Nat) < [a]) ↔ b < a := by
  rw [List.cons_lt_cons_iff]
  simp
theorem sign_le (a b : Nat) : (!decide (([b] : List Nat) < [a])) = decide (a ≤ b) := by
  by_cases h : b < a
  · rw [decide_eq_true ((sign_lt a b).mpr h), decide_eq_false (by omega)] <;> rfl
  · rw [decide_eq_false (fun z => h ((sign_lt a b).mp z)), decide_eq_true (by omega)] <;> rfl
/-! within a comprehension: readings that name the written part by itself -/
section
variable {X : Cx} {o e : Expr} {es : List Expr} {to : TE} {t : TA} {apos cpos : Pos} {K : PySem.W.Frag}
def rJn (K : PySem.W.Frag) : V → List V → Hp → VK → Prop := fun x xs H Q => ∃ a p, ∃ ys : List Str, x = .str a ∧ xs = [.ref p] ∧ (SqL K H p (ys.map V.str) ∨ SqT K H p (ys.map V.str)) ∧
    (ys.map (·.length)).sum + ys.length * a.length ≤ 16777216 ∧ Q (.str (Txt.join a ys)) H
theorem pe_joinK (hK : X.K = K) (ho : PE X o to) (ha : PA X (e :: es) t)
    (hbase : attributeBase o "join" X.env (eval o X.env) = eval o X.env := by rfl)
    (hfew : ((backTo cpos (starEach (e :: es) X.env)).all (fun x => !x.1) && (backToKw cpos (keywordEach [] X.env)).all (fun x => x.1.isSome)
      && decide ((e :: es).length + ([] : List Keyword).length + (if ([] : List Keyword).isEmpty then 0 else 1) < 30)) = true := by rfl)
    (hline : (apos.endLine == cpos.line) = true := by rfl) (hs : starEach (e :: es) X.env = (false, eval e X.env) :: starEach es X.env := by rfl) (hplain : (backTo cpos (starEach es X.env)).any (·.1) = false := by rfl) :
    PE X (.Call (.Attribute o "join" apos) (e :: es) [] cpos) (tBM K "str" (rJn K) to t) := by
  subst hK
  exact pe_bm PySem.F.plainAttrs_str PySem.F.slot_str_join PySem.F.type_str_join mt_join ho ha hbase hfew hline hs hplain
end
end Fb
set_option maxRecDepth 100000
set_option maxHeartbeats 4000000
namespace Fb
open PySem PySem.Spec PyProof.Rows L2
open SX (S)
/-! what the laws' own drawing defs need -/
/-- all but p is as it was -/
def But (p : Addr) (H H' : Hp) : Prop := ∀ c o, c ≠ p → H c = some o → H' c = some o
section
variable {H H1 H2 : Hp} {p : Addr}
theorem But.refl : But p H H := fun _ _ _ h => h
theorem But.trans (a : But p H H1) (b : But p H1 H2) : But p H H2 := fun c o n h => b c o n (a c o n h)
theorem But.of (s : Same H H1) : But p H H1 := fun c o _ h => s c o h
theorem But.took (k : ∀ c, c ≠ p → H1 c = H c) : But p H H1 := fun c o n h => by rw [k c n]; exact h
theorem But.new {q : Addr} {o : HO} (b : But p H H1) (h : H1 q = none) : But p H (upd H1 q o) := fun c u n e => by
  have e1 := b c u n e
  rw [upd_ne (ne_of_none e1 h)]
  exact e1
/-- a list that is not tracked at the start is stored to -/
theorem But.put {q : Addr} {o : HO} (b : But p H H1) (h : H q = none) : But p H (upd H1 q o) := fun c u n e => by
  rw [upd_ne (ne_of_none e h)]
  exact b c u n e
theorem PenL.new {l : Addr} {n : Nat} {q : Addr} {o : HO} (h : PenL H p l n) (hq : H q = none) : PenL (upd H q o) p l n := h.same (smN (Same.refl _) hq)
theorem PenL.put {l : Addr} {n : Nat} {q : Addr} {o : HO} (h : PenL H p l n) (n1 : p ≠ q) (n2 : l ≠ q) : PenL (upd H q o) p l n := by
  obtain ⟨cs, a, r, f, e, e2, h3⟩ := h
  exact ⟨cs, a, r, f, by rw [upd_ne n1]; exact e, by rw [upd_ne n2]; exact e2, h3⟩
theorem PenL.nep {l : Addr} {n : Nat} {q : Addr} (h : PenL H p l n) (hq : H q = none) : p ≠ q := by
  obtain ⟨cs, a, r, f, e, e2, h3⟩ := h
  exact ne_of_none e hq
theorem PenL.nel {l : Addr} {n : Nat} {q : Addr} (h : PenL H p l n) (hq : H q = none) : l ≠ q := by
  obtain ⟨cs, a, r, f, e, e2, h3⟩ := h
  exact ne_of_none e2 hq
end
/-! a walk over a text -/
theorem for_S {l : List Nat} {g : TG} {tb : TS} {D : Ends} {σ : L2.St} {H : Hp} (Pv : Nat → L2.St → Hp → Prop) (h0 : Pv 0 σ H)
    (hs : ∀ i c σ H, l[i]? = some c → Pv i σ H → g (.str (S [c])) σ H fun σ2 H2 => tb { D with nx := Pv (i + 1), ct := Pv (i + 1), bk := D.nx } σ2 H2) (hd : ∀ σ H, Pv l.length σ H → D.nx σ H) :
    ∃ W : Nat → Nat → L2.St → Hp → Prop, (∃ m, W 0 m σ H) ∧ ∀ i m σ H, W i m σ H →
      ((Its (S l)).stop i H ∧ D.nx σ H) ∨ ((Its (S l)).go i H ∧ ∃ N : L2.St → Hp → Prop, (∀ σ' H', N σ' H' → ∃ m', m' < m ∧ W (i + 1) m' σ' H') ∧ ∀ x H', (Its (S l)).yld i H x H' → g x σ H' fun σ2 H2 => tb { D with nx := N, ct := N, bk := D.nx } σ2 H2) := by
  have hz : (S l).cps.size = l.length := by simp [S]
  refine ⟨fun i m σ H => i + m = l.length ∧ Pv i σ H, ⟨l.length, by omega, h0⟩, fun i m σ H ⟨hm, p⟩ => ?_⟩
  by_cases lt : i < l.length
  · refine Or.inr ⟨by show i < (S l).cps.size; omega, Pv (i + 1), fun σ' H' p' => ⟨m - 1, by omega, by omega, p'⟩, ?_⟩
    rintro x H' ⟨eH, c, hc, rfl⟩
    subst eH
    have e : l[i]? = some c := by simpa [S] using hc
    exact hs i c σ _ e p
  · obtain rfl : i = l.length := by omega
    exact Or.inl ⟨by show (S l).cps.size ≤ _; omega, hd σ H p⟩
/-! mathematics of drawn patterns -/
theorem Al.snoc : ∀ {l m : List Nat} {a b : Nat}, Al l m → AlS a b → Al (l ++ [a]) (m ++ [b])
  | _, _, _, _, .nil, r => .cons r .nil
  | _, _, _, _, .cons r t, q => .cons r (Al.snoc t q)
theorem take_s {l : List Nat} {i c : Nat} (h : l[i]? = some c) : l.take (i + 1) = l.take i ++ [c] := by
  rw [List.take_add_one, h] <;> rfl
theorem Al.at : ∀ {l m : List Nat} {i a : Nat}, Al l m → l[i]? = some a → ∃ b, m[i]? = some b ∧ AlS a b
  | _, _, _, _, .nil, e => by simp at e
  | _, _, 0, _, .cons r _, e => by simp at e; subst e; exact ⟨_, rfl, r⟩
  | _, _, i + 1, _, .cons _ t, e => by
    obtain ⟨b, h1, h2⟩ := Al.at (i := i) t (by simpa using e)
    exact ⟨b, by simpa using h1, h2⟩
theorem zw_take {f : Nat → Nat → Nat} {l m : List Nat} {i a b : Nat} (h1 : l[i]? = some a) (h2 : m[i]? = some b) : zw f (l.take (i + 1)) (m.take (i + 1)) = zw f (l.take i) (m.take i) ++ [f a b] := by
  rw [take_s h1, take_s h2]
  unfold zw
  have hl : i < l.length := (List.getElem?_eq_some_iff.mp h1).1
  have hm : i < m.length := (List.getElem?_eq_some_iff.mp h2).1
  rw [List.zipWith_append (by rw [List.length_take, List.length_take]; omega)]
  rfl
theorem sg_join : ∀ {bs : List (List Nat)}, (∀ b ∈ bs, ∀ c ∈ b, c = 48 ∨ c = 49) → Sg (TL.joinL [46] bs)
  | [], _ => fun c hc => by simp [TL.joinL] at hc
  | [b], h => fun c hc => by
    have := h b (by simp) c (by simpa [TL.joinL] using hc)
    omega
  | b :: d :: r, h => fun c hc => by
    have hc' : c ∈ b ++ ([46] ++ TL.joinL [46] (d :: r)) := hc
    rw [List.mem_append, List.mem_append] at hc'
    rcases hc' with q | q | q
    · have := h b List.mem_cons_self c q
      omega
    · have := List.mem_singleton.mp q
      omega
    · exact sg_join (fun x hx => h x (List.mem_cons_of_mem _ hx)) c q
theorem szs_join {bs : List (List Nat)} (hne : bs ≠ []) (h : ∀ b ∈ bs, ∀ c ∈ b, c = 48 ∨ c = 49) : szs (TL.joinL [46] bs) = bs.map List.length := by
  have e := spl_len (TL.joinL [46] bs) []
  rw [SX.spl_join hne (fun p hp hm => by have := h p hp 46 hm; omega)] at e
  exact e.symm
theorem isP_of {l ss : List Nat} {M : Nat} (hs : Sg l) (hz : szs l = ss) (h3 : ss.length ≤ 3) (h1 : ∀ s ∈ ss, 1 ≤ s ∧ s ≤ M) (hM : M ≤ 40) : IsP l := by
  refine ⟨hs, by rw [hz]; exact fun n hn => (h1 n hn).1, by rw [hz]; exact h3, ?_⟩
  have e := szA_sum l 0
  have e2 : (szA 0 l) = ss := hz
  rw [e2] at e
  have : ss.sum ≤ ss.length * M := by
    clear e e2 hz h3
    induction ss with
    | nil => simp
    | cons s ss ih =>
      have := ih fun x hx => h1 x (List.mem_cons_of_mem _ hx)
      have h2 := (h1 s List.mem_cons_self).2
      rw [List.sum_cons, List.length_cons, Nat.succ_mul]
      omega
  have h5 : ss.length * M ≤ 3 * 40 := Nat.mul_le_mul h3 hM
  omega
/-- no bit stands in the one and has fallen in the other -/
def upP (l m : List Nat) (k : Nat) : Bool := decide (l.getD k 0 = 49) && decide (m.getD k 0 = 48)
theorem below_nil : ∀ {l m : List Nat}, Al l m → below l m = decide ((List.range l.length).filter (upP l m) = [])
  | [], [], .nil => rfl
  | a :: l, b :: m, .cons r t => by
    have ih := below_nil t
    have e1 : below (a :: l) (b :: m) = (decide (a ≤ b) && below l m) := rfl
    have e2 : (List.range (a :: l).length).filter (upP (a :: l) (b :: m)) = (if upP (a :: l) (b :: m) 0 = true then [0] else []) ++ ((List.range l.length).filter (upP l m)).map (· + 1) := by
      rw [List.length_cons, List.range_succ_eq_map, List.filter_cons]
      have : (List.map Nat.succ (List.range l.length)).filter (upP (a :: l) (b :: m)) = ((List.range l.length).filter (upP l m)).map (· + 1) := by
        rw [List.filter_map]
        have hf : (upP (a :: l) (b :: m) ∘ Nat.succ) = upP l m := by
          funext k
          simp [upP]
        rw [hf]
      split <;> simp [this]
    rw [e1, ih, e2]
    have u : upP (a :: l) (b :: m) 0 = (decide (a = 49) && decide (b = 48)) := by simp [upP]
    rw [u]
    by_cases h : a ≤ b
    · have : (decide (a = 49) && decide (b = 48)) = false := by
        by_cases q : a = 49
        · have : ¬ b = 48 := by omega
          simp [this]
        · simp [q]
      rw [this]
      simp [h]
    · have : (decide (a = 49) && decide (b = 48)) = true := by
        have h1 : a = 49 ∧ b = 48 := by unfold AlS at r; omega
        simp [h1.1, h1.2]
      rw [this]
      simp [h]
/-- the sign where so many of the two stand -/
def fC (cs : List Nat) (a b : Nat) : Nat := if a = 46 then 46 else if (if a = 49 then 1 else 0) + (if b = 49 then 1 else 0) ∈ cs then 49 else 48
theorem zw_congr {f g : Nat → Nat → Nat} (h : ∀ a b, AlS a b → f a b = g a b) : ∀ {l m : List Nat}, Al l m → zw f l m = zw g l m
  | _, _, .nil => rfl
  | _, _, .cons r t => by
    show f _ _ :: zw f _ _ = g _ _ :: zw g _ _
    rw [h _ _ r, zw_congr h t]
theorem fC_and (a b : Nat) (h : AlS a b) : fC [2] a b = fAnd a b := by
  unfold fC fAnd
  rcases h with ⟨rfl, rfl⟩ | ⟨h1, h2⟩
  · rfl
  · rcases h1 with rfl | rfl <;> rcases h2 with rfl | rfl <;> decide
theorem fC_or (a b : Nat) (h : AlS a b) : fC [1, 2] a b = fOr a b := by
  unfold fC fOr
  rcases h with ⟨rfl, rfl⟩ | ⟨h1, h2⟩
  · rfl
  · rcases h1 with rfl | rfl <;> rcases h2 with rfl | rfl <;> decide
theorem fC_xor (a b : Nat) (h : AlS a b) : fC [1] a b = fXor a b := by
  unfold fC fXor
  rcases h with ⟨rfl, rfl⟩ | ⟨h1, h2⟩
  · rfl
  · rcases h1 with rfl | rfl <;> rcases h2 with rfl | rfl <;> decide
theorem inV_nums (j : Nat) : ∀ cs : List Nat, inV (.int (j : Nat)) (nums cs) = decide (j ∈ cs)
  | [] => by simp [inV, nums]
  | c :: cs => by
    have ih := inV_nums j cs
    unfold inV nums at *
    rw [List.map_cons, List.any_cons, ih]
    show ((c : Int) == (j : Int) || _) = _
    by_cases h : j = c
    · subst h; simp
    · have h2 : ¬ ((c : Int) = (j : Int)) := by omega
      have h3 : ((c : Int) == (j : Int)) = false := by simpa using h2
      rw [h3]
      simp [h]
theorem flat_nums : ∀ cs : List Nat, (nums cs).all flatV = true
  | [] => rfl
  | c :: cs => by
    unfold nums
    rw [List.map_cons, List.all_cons]
    exact flat_nums cs
theorem sum_signs (xs : List Nat) : (xs.map ((fun w : Str => w.length) ∘ fun c => S [c])).sum = xs.length := by
  induction xs with
  | nil => rfl
  | cons c xs ih => rw [List.map_cons, List.sum_cons, ih, List.length_cons, Nat.add_comm]; rfl
theorem zw_and_or : ∀ {l m : List Nat}, Al l m → zw fOr (zw fAnd l m) l = l
  | _, _, .nil => rfl
  | a :: l, b :: m, .cons r t => by
    show fOr (fAnd a b) a :: zw fOr (zw fAnd l m) l = a :: l
    rw [zw_and_or t]
    have e : fOr (fAnd a b) a = a := by
      unfold fOr fAnd
      rcases r with ⟨rfl, rfl⟩ | ⟨h1, h2⟩
      · rfl
      · rcases h1 with rfl | rfl <;> rcases h2 with rfl | rfl <;> decide
    rw [e]
/-! patterns of other sizes -/
def filt (l : List Nat) : List Nat := l.filter (fun c => c != 46)
theorem filt_sg {l : List Nat} (h : Sg l) : ∀ c ∈ filt l, c = 48 ∨ c = 49 := fun c hc => by
  unfold filt at hc
  rw [List.mem_filter] at hc
  have := h c hc.1
  have h2 : ¬ c = 46 := by simpa using hc.2
  omega
theorem filt_len (l : List Nat) : (filt l).length = nb l := rfl
theorem szA_plain : ∀ (f : List Nat) (n : Nat), (∀ c ∈ f, c = 48 ∨ c = 49) → szA n f = [n + f.length]
  | [], n, _ => rfl
  | c :: f, n, h => by
    have hc := h c List.mem_cons_self
    unfold szA
    rw [if_neg (by omega), szA_plain f (n + 1) (fun d hd => h d (List.mem_cons_of_mem _ hd)), List.length_cons]
    congr 1
    omega
theorem szA_cut : ∀ (f r : List Nat) (n : Nat), (∀ c ∈ f, c = 48 ∨ c = 49) → szA n (f ++ 46 :: r) = (n + f.length) :: szA 0 r
  | [], r, n, _ => by
    show (if 46 = 46 then _ else _) = _
    rw [if_pos rfl]
    rfl
  | c :: f, r, n, h => by
    have hc := h c List.mem_cons_self
    show (if c = 46 then _ else szA (n + 1) (f ++ 46 :: r)) = _
    rw [if_neg (by omega), szA_cut f r (n + 1) (fun d hd => h d (List.mem_cons_of_mem _ hd)), List.length_cons]
    congr 1
    omega
theorem szA_more : ∀ (l : List Nat) (n : Nat), (szA n (l ++ [49])).length = (szA n l).length ∧ ((∀ s ∈ szA n l, 1 ≤ s) → ∀ s ∈ szA n (l ++ [49]), 1 ≤ s)
  | [], n => by
    refine ⟨rfl, fun _ s hs => ?_⟩
    have : s = n + 1 := by simpa [szA] using hs
    omega
  | c :: l, n => by
    by_cases h : c = 46
    · have e1 : szA n (c :: (l ++ [49])) = n :: szA 0 (l ++ [49]) := by show (if c = 46 then _ else _) = _; rw [if_pos h]
      have e2 : szA n (c :: l) = n :: szA 0 l := by show (if c = 46 then _ else _) = _; rw [if_pos h]
      obtain ⟨h1, h2⟩ := szA_more l 0
      rw [List.cons_append, e1, e2]
      refine ⟨by rw [List.length_cons, List.length_cons, h1], fun hh s hs => ?_⟩
      rcases List.mem_cons.mp hs with e | e
      · exact hh s (e ▸ List.mem_cons_self)
      · exact h2 (fun t ht => hh t (List.mem_cons_of_mem _ ht)) s e
    · have e1 : szA n (c :: (l ++ [49])) = szA (n + 1) (l ++ [49]) := by show (if c = 46 then _ else _) = _; rw [if_neg h]
      have e2 : szA n (c :: l) = szA (n + 1) l := by show (if c = 46 then _ else _) = _; rw [if_neg h]
      rw [List.cons_append, e1, e2]
      exact szA_more l (n + 1)
theorem nb_pos {x : List Nat} (h : IsP x) : 1 ≤ nb x := by
  have e := szA_sum x 0
  obtain ⟨a, r, e2, _⟩ := szA_head x 0
  have := h.one a (by unfold szs; rw [e2]; exact List.mem_cons_self)
  rw [e2, List.sum_cons] at e
  omega
theorem isP_far1 {x : List Nat} (h : IsP x) (hn : nb x ≤ 100) : IsP (x ++ [49]) := by
  obtain ⟨h1, h2⟩ := szA_more x 0
  refine ⟨fun c hc => ?_, h2 h.one, by have := h.few; unfold szs at *; omega, ?_⟩
  · rcases List.mem_append.mp hc with e | e
    · exact h.sg c e
    · have := List.mem_singleton.mp e
      omega
  · unfold nb
    rw [List.filter_append, List.length_append]
    unfold nb at hn
    simp
    omega
theorem isP_far2 {x : List Nat} (h : IsP x) (hn : nb x ≤ 100) : IsP (filt x ++ [46, 49]) := by
  have p := nb_pos h
  have hs := filt_sg h.sg
  have e : szs (filt x ++ [46, 49]) = [nb x, 1] := by
    show szA 0 (filt x ++ 46 :: [49]) = _
    rw [szA_cut _ _ _ hs, Nat.zero_add, filt_len]
    rfl
  refine ⟨fun c hc => ?_, by rw [e]; intro n hn; simp at hn; omega, by rw [e]; simp, ?_⟩
  · rcases List.mem_append.mp hc with q | q
    · have := hs c q
      omega
    · simp at q
      omega
  · have s := szA_sum (filt x ++ [46, 49]) 0
    have e2 : szA 0 (filt x ++ [46, 49]) = [nb x, 1] := e
    rw [e2] at s
    simp at s
    omega
theorem isP_far3 {x : List Nat} (h : IsP x) : IsP ([49, 46] ++ filt (x.take 20)) := by
  have hsg : Sg (x.take 20) := fun c hc => h.sg c (List.mem_of_mem_take hc)
  have hs := filt_sg hsg
  have e : szs ([49, 46] ++ filt (x.take 20)) = [1, (filt (x.take 20)).length] := by
    show szA 0 ([49] ++ 46 :: filt (x.take 20)) = _
    rw [szA_cut [49] _ _ (by simp), szA_plain _ _ hs, Nat.zero_add, Nat.zero_add]
    rfl
  have le : (filt (x.take 20)).length ≤ 20 := by
    unfold filt
    have := List.length_filter_le (fun c => c != 46) (x.take 20)
    have h2 : (x.take 20).length ≤ 20 := by rw [List.length_take]; omega
    omega
  have pos : 1 ≤ (filt (x.take 20)).length := by
    cases x with
    | nil => have := nb_pos h; simp [nb] at this
    | cons c r =>
      have hc : ¬ c = 46 := fun q => by
        have := h.one 0 (by
          unfold szs
          show 0 ∈ (if c = 46 then _ else _)
          rw [if_pos q]
          exact List.mem_cons_self)
        omega
      unfold filt
      rw [List.take_succ_cons, List.filter_cons_of_pos (by simpa using hc), List.length_cons]
      omega
  refine ⟨fun c hc => ?_, by rw [e]; intro n hn; simp at hn; omega, by rw [e]; simp, ?_⟩
  · rcases List.mem_append.mp hc with q | q
    · simp at q
      omega
    · have := hs c q
      omega
  · have s := szA_sum ([49, 46] ++ filt (x.take 20)) 0
    have e2 : szA 0 ([49, 46] ++ filt (x.take 20)) = [1, (filt (x.take 20)).length] := e
    rw [e2, List.sum_cons, List.sum_cons, List.sum_nil] at s
    omega
theorem isP_many : IsP (List.replicate 100 49) ∧ szs (List.replicate 100 49) = [100] := by
  have e : szs (List.replicate 100 49) = [100] := by decide +kernel
  refine ⟨⟨fun c hc => .inr (.inl (List.eq_of_mem_replicate hc)), by rw [e]; decide, by rw [e]; decide, by decide +kernel⟩, e⟩
theorem nb_of {x ss : List Nat} {M : Nat} (hz : szs x = ss) (h3 : ss.length ≤ 3) (h1 : ∀ s ∈ ss, s ≤ M) : nb x ≤ 3 * M := by
  have e := szA_sum x 0
  have e2 : szA 0 x = ss := hz
  rw [e2] at e
  have : ss.sum ≤ ss.length * M := by
    clear e e2 hz h3
    induction ss with
    | nil => simp
    | cons s ss ih =>
      have := ih fun x hx => h1 x (List.mem_cons_of_mem _ hx)
      have h2 := h1 s List.mem_cons_self
      rw [List.sum_cons, List.length_cons, Nat.succ_mul]
      omega
  have h5 : ss.length * M ≤ 3 * M := Nat.mul_le_mul_right _ h3
  omega
theorem cut20 (x : List Nat) : cutS (S x) none (some 20) = S (x.take 20) := by
  unfold cutS
  have e : (S x).cps.toList = x := rfl
  have e2 : (S x).length = x.length := SX.S_len x
  rw [e, e2]
  show S _ = S _
  congr 1
  show (x.drop 0).take (min 20 x.length - 0) = x.take 20
  rw [List.drop_zero, Nat.sub_zero]
  by_cases h : x.length ≤ 20
  · rw [List.take_of_length_le (show x.length ≤ min 20 x.length by omega), List.take_of_length_le h]
  · rw [show min 20 x.length = 20 by omega]
end Fb
set_option maxRecDepth 100000
set_option maxHeartbeats 4000000
namespace Fb
open PySem PySem.Spec PyProof.Rows L2
/-! [.. for x in a list for y in a tuple] -/
theorem pi_tupK {X : Cx} {tg l : Expr} {tl : TE} {K : PySem.W.Frag} (hK : X.K = K) (hl : PE X l tl) : PI X tg l (iTup K tl) := by
  subst hK
  exact pi_tup hl
section
variable {K : PySem.W.Frag} {a b D : Addr} {xs ys : List V} {σ : L2.St} {H1 : Hp} {te : TE} {vs vs1 : List Nat} {i1 j1 s1 : Nat} {Qd : Hp → Prop}
theorem lc2_names (Pv : Nat → Nat → Hp → Prop) (h0 : Pv 0 0 (upd H1 D (.lst []))) (hl : ∀ i j H, Pv i j H → SqL K H a xs ∧ SqT K H b ys)
    (hs1 : ∀ x, ((wipe σ vs).set i1 (some x))[s1]? = some (some (.ref b))) (hw : ∀ x, wipe ((wipe σ vs).set i1 (some x)) vs = wipe σ vs)
    (hw1 : ∀ x y, wipe ((wipe ((wipe σ vs).set i1 (some x)) vs1).set j1 (some y)) vs1 = wipe ((wipe σ vs).set i1 (some x)) vs1)
    (step : ∀ i j x y H, xs[i]? = some x → ys[j]? = some y → Pv i j H → te ((wipe ((wipe σ vs).set i1 (some x)) vs1).set j1 (some y)) H fun v H7 => ∃ acc, H7 D = some (.lst acc) ∧ acc.length < sizeLine ∧ Pv i (j + 1) (upd H7 D (.lst (acc ++ [v]))))
    (next : ∀ i H, i < xs.length → Pv i ys.length H → Pv (i + 1) 0 H) (hd : ∀ H, Pv xs.length 0 H → Qd H) :
    ∃ W : Nat → Nat → Hp → Prop, (∃ m, W 0 m (upd H1 D (.lst []))) ∧ ∀ i m H, W i m H →
      ((Itl K a).stop i H ∧ Qd H) ∨ ((Itl K a).go i H ∧ ∃ Nx : Hp → Prop, (∀ H', Nx H' → ∃ m', m' < m ∧ W (i + 1) m' H') ∧ ∀ x H', (Itl K a).yld i H x H' → gName i1 x (wipe σ vs) H' fun σ2 H2 => wipe σ2 vs = wipe σ vs ∧ tYes σ2 H2 fun bb H3 =>
        if bb = true then iTup K (tVar s1) σ2 H3 fun J1 H4 => ∃ W1 : Nat → Nat → Hp → Prop, (∃ m, W1 0 m H4) ∧ ∀ j k H, W1 j k H →
          (J1.stop j H ∧ Nx H) ∨ (J1.go j H ∧ ∃ Nx1 : Hp → Prop, (∀ H', Nx1 H' → ∃ k', k' < k ∧ W1 (j + 1) k' H') ∧ ∀ x H', J1.yld j H x H' → gName j1 x (wipe σ2 vs1) H' fun σ3 H5 => wipe σ3 vs1 = wipe σ2 vs1 ∧ tYes σ3 H5 fun bb H6 =>
            if bb = true then te σ3 H6 fun y H7 => ∃ acc, H7 D = some (.lst acc) ∧ acc.length < sizeLine ∧ Nx1 (upd H7 D (.lst (acc ++ [y]))) else Nx1 H6)
        else Nx H3) := by
  refine ⟨fun i m H => i + m = xs.length ∧ Pv i 0 H, ⟨xs.length, by omega, h0⟩, fun i m H ⟨hm, p⟩ => ?_⟩
  obtain ⟨q1, q2⟩ := hl i 0 H p
  by_cases lt : i < xs.length
  · have ex : xs[i]? = some xs[i] := List.getElem?_eq_getElem lt
    refine Or.inr ⟨⟨xs, xs[i], q1, ex⟩, Pv (i + 1) 0, fun H' p' => ⟨m - 1, by omega, by omega, p'⟩, ?_⟩
    rintro x H' ⟨eH, y⟩
    subst eH
    have e := y xs q1
    refine ⟨hw x, yes1 ?_⟩
    refine ⟨.ref b, hs1 x, b, rfl, ⟨ys, q2⟩, ?_⟩
    refine ⟨fun j k H => j + k = ys.length ∧ Pv i j H, ⟨ys.length, by omega, p⟩, fun j k H ⟨hk, p⟩ => ?_⟩
    obtain ⟨r1, r2⟩ := hl i j H p
    by_cases lt2 : j < ys.length
    · have ey : ys[j]? = some ys[j] := List.getElem?_eq_getElem lt2
      refine Or.inr ⟨⟨ys, ys[j], r2, ey⟩, Pv i (j + 1), fun H' p' => ⟨k - 1, by omega, by omega, p'⟩, ?_⟩
      rintro y2 H' ⟨eH, y'⟩
      subst eH
      have e2 := y' ys r2
      exact ⟨hw1 x y2, yes1 (step i j x y2 _ e e2 p)⟩
    · obtain rfl : j = ys.length := by omega
      exact Or.inl ⟨⟨ys, r2, Nat.le_refl _⟩, next i H lt p⟩
  · obtain rfl : i = xs.length := by omega
    exact Or.inl ⟨⟨xs, q1, Nat.le_refl _⟩, hd H p⟩
end
/-! a value's fault, as a pattern -/
theorem tyOf_same {K : PySem.W.Frag} {H H' : Hp} (s : Same H H') {x : V} {t : Value} (h : TyOf K H x t) : TyOf K H' x t := by
  cases h with
  | non => exact .non
  | bl x => exact .bl x
  | int i => exact .int i
  | str x => exact .str x
  | flt x => exact .flt x
  | lst e => exact .lst (s _ _ e)
  | frz e => exact .frz (s _ _ e)
  | tup e => exact .tup (s _ _ e)
  | dK e => exact .dK (s _ _ e)
  | dT e => exact .dT (s _ _ e)
  | ins e cl ha hn ht hm => exact .ins (s _ _ e) cl ha hn ht hm
theorem tyX_same {K : PySem.W.Frag} {H H' : Hp} (s : Same H H') {x : V} {t : Value} (h : TyX K H x t) : TyX K H' x t := by
  cases h with
  | base h => exact .base (tyOf_same s h)
  | byt b => exact .byt b
  | set e => exact .set (s _ _ e)
  | kList e c => exact .kList e c
  | kTuple e c => exact .kTuple e c
  | kDict e c => exact .kDict e c
  | fTuple e => exact .fTuple (s _ _ e)
  | fDict e => exact .fDict (s _ _ e)
end Fb
set_option maxRecDepth 100000
set_option maxHeartbeats 4000000
namespace Fb
open PySem PySem.Spec PyProof.Rows L2
/-! caught exceptions that are kept, with their fields; lambdas that are handed on -/
/-- at a: an exception of the class at C that was caught; its fields -/
def XR (H : Hp) (a C : Addr) (fs : List (Str × V)) : Prop := ∃ d, H a = some (ExR (.ref C) (some d) a) ∧ H d = some (.xd fs)
section
variable {X : Cx} {pins : List (Addr × Obj)} {σ : L2.St} {H : Hp} {s : Shared}
theorem XR.inst {a C : Addr} {fs : List (Str × V)} (I : Inv X pins σ H s) (h : XR H a C fs) : ∃ ox od, PySem.W.InstAt s.heap a ox C (some od) ∧ ∀ f, RelO (fs.lookup f) ((PySem.W.lookIn f od).getD none) ∧ ∃ r, PySem.W.lookIn f od = some r := by
  obtain ⟨d, h1, h2⟩ := h
  obtain ⟨⟨oe, vs, ho, z1, z2, z3⟩, _, _⟩ := I.hok a _ h1
  have hx : ObjOk X.prog X.w H s.heap d (.xd fs) := I.hok d _ h2
  obtain ⟨mA, hns, hr⟩ := hx
  obtain ⟨od, hod, hl⟩ := lookIn_ns hns
  refine ⟨oe, od, ⟨ho, z1, ?_, ?_⟩, fun f => ⟨?_, _, hl f⟩⟩
  · unfold PySem.W.notCls; rw [z3] <;> rfl
  · rw [z2]
    exact hod
  · rw [hl f]
    exact hr f
def rIsQ (K : PySem.W.Frag) : List V → Hp → VK → Prop := fun xs H Q => ∃ (a C : Addr) (fs : List (Str × V)) (c : V) (cv : Value) (b : Bool), xs = [.ref a, c] ∧ XC K C ∧ XB K ∧ XR H a C fs ∧ ClsV c cv ∧ PySem.W.kitOne K (.ref C) cv = some b ∧ Q (.bl b) H
theorem call_isQ : CallR X (.builtin "isinstance") (rIsQ X.K) := by
  intro pins s σ H xs us Q I r h
  obtain ⟨a, C, fs, c, cv, b, rfl, T, B, hE, k, e, q⟩ := h
  obtain ⟨u1, u2, rfl, r1, r2⟩ := vals2 r
  have e2 := k.eq r2
  subst e2
  cases (show u1 = Value.ref a from r1)
  obtain ⟨ox, od, J, _⟩ := hE.inst I
  exact PySem.W.kia_one (PySem.W.kitx_exc T.cl T.ga T.gg T.sb T.ca B.hn B.ht T.ob) I.kIn J e (fun z => nomatch z) fun tk => ⟨.bl b, H, I.tok tk, rfl, q⟩
/-- e.f, e such an exception -/
def tXar (K : PySem.W.Frag) (f : Str) (te : TE) : TE := fun σ H Q => te σ H fun x H1 => ∃ (a C : Addr) (fs : List (Str × V)) (v : V), x = .ref a ∧ XC K C ∧ PySem.W.findIn K (.ref C) f = some none ∧ XR H1 a C fs ∧ fs.lookup f = some v ∧ Q v H1
theorem pe_xar {e : Expr} {te : TE} {f : Str} {pos : Pos} (he : PE X e te) (hb : attributeBase e f X.env (eval e X.env) = eval e X.env := by rfl) : PE X (.Attribute e f pos) (tXar X.K f te) := by
  refine ⟨fun pins s σ H Q I h => ?_⟩
  refine attr_of hb (thn (he.run pins s σ H _ I h) fun u s1 hh => ?_)
  obtain ⟨x, H1, I1, rx, a, C, fs, v, ex, T, hno, hx, hl, q⟩ := hh
  subst ex
  obtain rfl : u = Value.ref a := rx
  obtain ⟨ox, od, J, hr⟩ := hx.inst I1
  obtain ⟨r1, r, e1⟩ := hr f
  rw [e1, hl] at r1
  obtain ⟨u, hu, ru⟩ := RelO.some_of (v := v) (o := r) r1
  exact HandSPX.exc_get I1.kIn J T.ga T.gg T.sb (PySem.W.findObj_own T.hd hno rfl (by rw [e1, hu])) (handed_of ru) ⟨v, H1, I1.tok _, ru, q⟩
end
/-- behind a statement the slots are as many as before -/
theorem pss_len {X : Cx} {sts : List Stmt} {t : TS} (h : PSs X sts t) : PSs X sts (fun D σ H => σ.length = X.N.length → t D σ H) :=
  ⟨fun pins s σ H D I q => h.run pins s σ H D I (q I.len)⟩
/-- a def by its body, its code object named -/
theorem okC {P : Program} {w : World} {K : PySem.W.Frag} {mg : Str → Option Value} {base : Heap} {x qual : Str} {st : Stmt} {f c : Addr} {oc : Value} {od an : Option Addr} {osl : Array (Option Value)} {kV doc pm ct : Value} {N ps : List Str} {k : Nat} {sp : Sp}
    (lk : K.lookup f = some ⟨oc, od, .func (PySem.W.fnOf x qual (defArgs st) (defBody st) (defScope st) .none kV doc pm an (.ref c) ct), osl⟩) (hcd : PySem.W.codeIn K (.ref c) qual = true) (S : FnScope N ps (defScope st))
    (len : ∀ {vs H Q E}, sp vs H Q E → vs.length = ps.length)
    (body : ∀ {A : Around} {outer : List Env} {s : Shared} {H : Hp} {vs : List V} {Q : VK} {E : XK}, Room k (A.deeper (envOfC qual (defScope st) s.heap.objs.size f (.ref c))) → sp vs H Q E →
      ∃ t, PSs (cxOf CX0 P w K mg base N qual (defScope st) f (.ref c) A outer s H E).nox (defBody st) t ∧ t { nx := fun _ H' => Q .non H', rt := Q } (start N vs) H) :
    FnOk P w K mg base CX0 (k + 1) f (PySem.W.fnOf x qual (defArgs st) (defBody st) (defScope st) .none kV doc pm an (.ref c) ct) ps sp := by
  refine fn_of lk hcd S (fun _ _ _ _ h => len h) fun A outer s H vs Q E hr h => ?_
  obtain ⟨t, h1, h2⟩ := body (outer := outer) hr h
  exact ⟨t, h1.nox, h2⟩
/-! what stays when tables grow -/
theorem ExtN.pen {H H' : Hp} {p l : Addr} {n : Nat} (e : LamX.ExtN H H') (h : PenL H p l n) : PenL H' p l n := by
  obtain ⟨cs, a, r, f, h1, h2, h3⟩ := h
  exact ⟨cs, a, r, f, e _ _ h1 (fun ps q => nomatch q), e _ _ h2 (fun ps q => nomatch q), h3⟩
end Fb
set_option maxRecDepth 100000
set_option maxHeartbeats 4000000
namespace Fb
open PySem PySem.Spec PyProof.Rows L2
/-! x in o, x not in o, o[i] by the defs of o's class: instances with a dict -/
section
variable {X : Cx} {CX : CXT} {pins : List (Addr × Obj)} {σ : L2.St} {H : Hp} {s : Shared} {a C dx g : Addr} {fs : List (Str × V)} {n : Nat} {sp : Sp} {E : XK}
def rInI (C : Addr) (sp : Sp) (E : XK) (neg : Bool) : R2 := fun x y H Q => ∃ b dx fs, y = .ref b ∧ H b = some (.ins C dx fs) ∧ sp [y, x] H (fun z H' => ∃ c, z = .bl c ∧ Q (.bl (if neg then !c else c)) H') E
theorem op_inI (hs : PySem.W.findIn X.K (.ref C) "__contains__" = some (some (.ref g))) (hf : PySem.W.isFn X.K (.ref g) = true) (F : FnR X.prog X.w X.K X.mg X.base CX n g sp) (hr : Room n X.A) (hx : Passes CX X E) : OpR X (compareOp .In) (rInI C sp E false) := by
  intro pins s σ H x y v u Q I rx ry h
  obtain ⟨b, dx, fs, rfl, hb, q⟩ := h
  cases (show u = Value.ref b from ry)
  obtain ⟨od, J⟩ := ins_at I hb
  obtain ⟨m, hF⟩ := I.fr
  refine PySem.W.in_K hF I.ok.mod.kin J hs hf ?_
  refine wpAny_mono (wpAny_call (run_fnR (us := [.ref b, v]) (vs := [.ref b, x]) F hr hx I (.cons rfl (.cons rx .nil)) q)) (fun w s' z => ?_) fun _ _ x => x
  obtain ⟨z', H', I', rz, c, ec, qz⟩ := z
  subst ec
  cases (show w = Value.bool c from rz)
  exact wpAny_pure ⟨.bl c, H', I', rfl, qz⟩
theorem op_notInI (hs : PySem.W.findIn X.K (.ref C) "__contains__" = some (some (.ref g))) (hf : PySem.W.isFn X.K (.ref g) = true) (F : FnR X.prog X.w X.K X.mg X.base CX n g sp) (hr : Room n X.A) (hx : Passes CX X E) : OpR X (compareOp .NotIn) (rInI C sp E true) := by
  intro pins s σ H x y v u Q I rx ry h
  obtain ⟨b, dx, fs, rfl, hb, q⟩ := h
  cases (show u = Value.ref b from ry)
  obtain ⟨od, J⟩ := ins_at I hb
  obtain ⟨m, hF⟩ := I.fr
  refine PySem.W.notIn_K hF I.ok.mod.kin J hs hf ?_
  refine wpAny_mono (wpAny_call (run_fnR (us := [.ref b, v]) (vs := [.ref b, x]) F hr hx I (.cons rfl (.cons rx .nil)) q)) (fun w s' z => ?_) fun _ _ x => x
  obtain ⟨z', H', I', rz, c, ec, qz⟩ := z
  subst ec
  cases (show w = Value.bool c from rz)
  exact wpAny_pure ⟨.bl (!c), H', I', rfl, qz⟩
def tIxI (C : Addr) (sp : Sp) (E : XK) (ta tb : TE) : TE := fun σ H Q => ta σ H fun x H1 => tb σ H1 fun y H2 => ∃ a dx fs, x = .ref a ∧ H2 a = some (.ins C dx fs) ∧ sp [x, y] H2 Q E
theorem pe_ixI {o i : Expr} {ta tb : TE} {pos : Pos} (hs : PySem.W.findIn X.K (.ref C) "__getitem__" = some (some (.ref g))) (hf : PySem.W.fnIn X.K g = true) (hfn : PySem.W.isFn X.K (.ref g) = true) (F : FnR X.prog X.w X.K X.mg X.base CX n g sp) (hr : Room (n + 1) X.A) (hx : Passes CX X E)
    (ha : PE X o ta) (hb : PE X i tb) (hsl : ∀ (x : Addr) (v : Value), subscripted i true (.ref x) v = runValue (.builtin "lifetime.subscript" ⟨[.ref x, v], []⟩) := by intro _ _; with_unfolding_all rfl) : PE X (.Subscript o i pos) (tIxI C sp E ta tb) := by
  refine ⟨fun pins s σ H Q I h => ?_⟩
  refine Subscript_ (binT ha hb I h fun v u s2 x y H2 I2 rx ry q => ?_)
  obtain ⟨a, dx, fs, rfl, e, q⟩ := q
  cases (show v = Value.ref a from rx)
  obtain ⟨od, J⟩ := ins_at I2 e
  obtain ⟨m, hF⟩ := I2.fr
  have hr2 : Room n X.A.in1 := Room.in1 hr
  exact PySem.W.sub_K hF I2.ok.mod.kin J hs hf hfn (wpAny_call (SlX.run_at (us := [.ref a, u]) (ws := [.ref a, y]) F hr2 I2.env0.in1 hx I2 (.cons rfl (.cons ry .nil)) q)) (hsl _ _)
end
/-! bool(x), list(a text) -/
theorem bool_own {prog : Program} {w : World} {A : Around} {E : Value → Shared → Prop} {s : Shared} {K : PySem.W.Frag} {x C L f : Addr} {h₀ : Heap} {m : Str → Option Value} {ox : Obj} {od : Option Obj} {Q : Value → Shared → Prop} (F : Fr h₀ L s.heap m) (X₀ : K.In h₀) (I : PySem.W.InstAt s.heap x ox C od) (hs : PySem.W.findIn K (.ref C) "__bool__" = some (some (.ref f))) (hf : PySem.W.isFn K (.ref f) = true)
    (h : wpAny (model prog w) A.in1.in1 (call (.ref f) [.ref x]) (PySem.W.BoolBack fun b s₁ => Q (.bool b) s₁) E s) : wpAny (model prog w) A (call (.type "bool") [.ref x]) Q E s := by
  refine callType_codes (T := "bool") (Bi := Builtin.«object.__init__») (Q₁ := fun r s₁ => ∃ b, r = Value.bool b ∧ Q r s₁) PySem.F.called_bool (PySem.F.typeCall_bool_1 _) PySem.F.entry_object_init ?_ ?_
  · refine codeAny_of_tree ?_
    show wpAny _ A.in1.in1 (do checkBuiltinCall "bool.__new__" ⟨[.type "bool", .ref x], []⟩; again (.builtin "bool.__new__" ⟨[.type "bool", .ref x], []⟩)) _ _ s
    refine wpAny_bind (wpAny_of_eq (PySem.F.newCall_bool_1 _) (wpAny_pure ⟨plainId_quiet (by decide +kernel) _, codeAny_builtin PySem.F.entry_bool_new ?_⟩))
    rw [Around.under_plainId (by decide +kernel) _]
    unfold Builtin.«bool.__new__»
    refine wpAny_bind (wpAny_of_eq (a := true) (by rfl) ?_)
    refine PySem.W.KFB.if_not rfl ?_
    refine wpAny_bind (wpAny_of_eq (a := true) PySem.F.conv_sub_bool ?_)
    refine PySem.W.KFB.if_not rfl ?_
    refine wpAny_bind (wpAny_pure ?_)
    refine wpAny_bind (PySem.W.truthy_K F X₀ I hs hf (wpAny_mono h (fun r s₁ hr => ?_) fun _ _ y => y))
    cases r <;> first | exact hr.elim | skip
    exact wpAny_pure ⟨_, rfl, hr⟩
  · rintro obj s₁ ⟨b, rfl, hq⟩
    exact ⟨rfl, PySem.F.args_object_init_2 _ _, object_init_meets PySem.F.called_bool.init.lookup PySem.F.called_bool.made (by decide) prog w A.in1 _ s₁ ⟨rfl, rfl, hq⟩⟩
section
variable {X : Cx} {CX : CXT} {pins : List (Addr × Obj)} {σ : L2.St} {H : Hp} {s : Shared} {a C dx g : Addr} {fs : List (Str × V)} {n : Nat} {sp : Sp} {E : XK}
def rBoolI (C : Addr) (sp : Sp) (E : XK) : List V → Hp → VK → Prop := fun xs H Q => ∃ a dx fs, xs = [.ref a] ∧ H a = some (.ins C dx fs) ∧ sp [.ref a] H (fun z H' => ∃ b, z = .bl b ∧ Q (.bl b) H') E
theorem call_boolI (hs : PySem.W.findIn X.K (.ref C) "__bool__" = some (some (.ref g))) (hf : PySem.W.isFn X.K (.ref g) = true) (F : FnR X.prog X.w X.K X.mg X.base CX n g sp) (hr : Room (n + 2) X.A) (hx : Passes CX X E) : CallR X (.type "bool") (rBoolI C sp E) := by
  intro pins s σ H xs us Q I r h
  obtain ⟨a, dx, fs, rfl, ha, q⟩ := h
  obtain ⟨u, rfl, ru⟩ := r.one
  cases (show u = Value.ref a from ru)
  obtain ⟨od, J⟩ := ins_at I ha
  have hr2 : Room n X.A.in1.in1 := (show Room (n + 1) X.A.in1 from Room.in1 hr).in1
  obtain ⟨m, hF⟩ := I.fr
  refine bool_own hF I.ok.mod.kin J hs hf (wpAny_mono (wpAny_call (SlX.run_at (us := [.ref a]) (ws := [.ref a]) F hr2 I.env0.in1.in1 hx I (.cons rfl .nil) q)) (fun w s' z => ?_) fun _ _ x => x)
  obtain ⟨z', H', I', rz, b, eb, qz⟩ := z
  subst eb
  cases (show w = Value.bool b from rz)
  exact ⟨.bl b, H', I', rfl, qz⟩
theorem vals_signs {l : List Nat} {us : List Value} (hl : us.length = l.length) (hu : ∀ (j : Nat) (v : Value), us[j]? = some v → ∃ (c : Nat) (t : Tok), l[j]? = some c ∧ v = Value.str ⟨#[c]⟩ t) : Vals (l.map fun c => V.str (SX.S [c])) us := by
  have e : (l.map fun c => V.str (SX.S [c])) = (List.range us.length).map fun j => V.str (SX.S [l.getD j 0]) := by
    refine List.ext_getElem? fun j => ?_
    rw [List.getElem?_map, List.getElem?_map]
    by_cases h : j < l.length
    · rw [List.getElem?_range (by omega), List.getElem?_eq_getElem h]
      show some (V.str (SX.S [l[j]])) = some (V.str (SX.S [l.getD j 0]))
      rw [List.getD_eq_getElem?_getD, List.getElem?_eq_getElem h] <;> rfl
    · rw [List.getElem?_eq_none (by omega), List.getElem?_eq_none (by simp; omega)] <;> rfl
  rw [e]
  refine vals_of_get us _ fun j u hj => ?_
  obtain ⟨c, t, hc, rfl⟩ := hu j u hj
  rw [List.getD_eq_getElem?_getD, hc]
  exact ⟨t, rfl⟩
def rListS : List V → Hp → VK → Prop := fun xs H Q => ∃ l : List Nat, xs = [.str (SX.S l)] ∧ l.length ≤ sizeLine ∧ ∀ p, H p = none → Q (.ref p) (upd H p (.lst (l.map fun c => V.str (SX.S [c]))))
theorem call_listS (hc : X.calm = true) : CallR X (.type "list") rListS := by
  intro pins s σ H xs us Q I r h
  obtain ⟨l, rfl, hl, q⟩ := h
  obtain ⟨u, rfl, t, rfl⟩ := vals1 r
  have sz : (SX.S l).cps.size = l.length := by simp [SX.S]
  refine call_list_str (I.ok.hd hc) (SX.S l) t (hn := by rw [sz]; exact hl) fun h' tk acc c' hk e' hi => ?_
  refine ⟨.ref s.heap.objs.size, upd H s.heap.objs.size (.lst (l.map fun c => V.str (SX.S [c]))), I.laid hk (Nat.le_refl _) (show ObjOk X.prog X.w _ _ _ (.lst (l.map fun c => V.str (SX.S [c]))) from ⟨?_, acc.toList, c', ?_, ?_⟩), rfl, q _ (I.hok.fresh (Nat.le_refl _))⟩
  · rw [List.length_map]; exact hl
  · refine vals_signs (by rw [Array.length_toList, hi.1, sz]) fun j v hj => ?_
    obtain ⟨c, u, h1, h2⟩ := hi.2 j v (by rw [← hj, Array.getElem?_toList])
    exact ⟨c, u, by simpa [SX.S] using h1, h2⟩
  · rw [Array.toArray_toList]; exact e'
end
end Fb
set_option maxRecDepth 100000
set_option maxHeartbeats 4000000
namespace Fb
open PySem PySem.Spec PyProof.Rows L2
/-! max and min of two texts -/
section
variable {prog : Program} {w : World} {A : Around}
theorem strs_gt {P : Nat → Value → Prop} (val : Nat → Str) (hval : ∀ i v, P i v → ∃ t, v = .str (val i) t) :
    CmpOf prog w A .Gt P (fun i j => decide ((val j).cps.toList < (val i).cps.toList)) := fun i j vi vj s Q E hi hj h => by
  obtain ⟨t, rfl⟩ := hval i vi hi
  obtain ⟨u, rfl⟩ := hval j vj hj
  have q := PySem.P.gt_str (x := val i) (y := val j) (t := t) (u := u) (A := A) (E := E) (prog := prog) (w := w) (s := s) (Q := Q) h
  unfold compareOp at q
  exact q
theorem strs_lt {P : Nat → Value → Prop} (val : Nat → Str) (hval : ∀ i v, P i v → ∃ t, v = .str (val i) t) :
    CmpOf prog w A .Lt P (fun i j => decide ((val i).cps.toList < (val j).cps.toList)) := fun i j vi vj s Q E hi hj h => by
  obtain ⟨t, rfl⟩ := hval i vi hi
  obtain ⟨u, rfl⟩ := hval j vj hj
  have q := PySem.P.lt_str (x := val i) (y := val j) (t := t) (u := u) (A := A) (E := E) (prog := prog) (w := w) (s := s) (Q := Q) h
  unfold compareOp at q
  exact q
variable {E : Value → Shared → Prop} {s : Shared}
def two (a b : Str) (i : Nat) : Str := if i = 0 then a else b
theorem two_at {a b : Str} {t u : Tok} (i : Nat) (v : Value) (h : (#[Value.str a t, Value.str b u])[i]? = some v) : ∃ t, v = .str (two a b i) t := by
  match i, h with
  | 0, h => exact ⟨t, by simpa [two] using h.symm⟩
  | 1, h => exact ⟨u, by simpa [two] using h.symm⟩
  | i + 2, h => simp at h
theorem two_walk {a b : Str} {t u : Tok} {h' : Heap} (hsz : (s.heap.push { cls := .type "tuple", data := .seq #[.str a t, .str b u] }).objs.size = s.heap.objs.size + 1)
    (hk : ∀ c o, c ∉ [s.heap.objs.size + 1] → ((s.heap.push { cls := .type "tuple", data := .seq #[.str a t, .str b u] }).push { cls := .type "tuple_iterator", data := .fields #[.ref s.heap.objs.size, .int 0 0] }).get? c = some o → h'.get? c = some o) :
    ∀ c o, s.heap.get? c = some o → h'.get? c = some o := fun c o e => by
  refine hk c o (fun hm => ?_) (Heap.get?_push_of_some _ (Heap.get?_push_of_some _ e))
  rcases List.mem_cons.mp hm with e1 | hm
  · have := Heap.lt_size e; rw [e1] at this; exact Nat.lt_irrefl _ (Nat.lt_of_succ_lt this)
  · cases hm
theorem max_two_strs {a b : Str} {t u : Tok} {Q : Value → Shared → Prop} (hh : A.handled = none)
    (h : ∀ h' tk, (∀ c o, s.heap.get? c = some o → h'.get? c = some o) → Q (if a.cps.toList < b.cps.toList then .str b u else .str a t) { s with heap := h', toks := tk }) :
    wpAny (model prog w) A (call (.builtin "max") [.str a t, .str b u]) Q E s := by
  have hT : (s.heap.push { cls := .type "tuple", data := .seq #[.str a t, .str b u] }).IsTuple s.heap.objs.size #[.str a t, .str b u] := ⟨_, Heap.get?_push_size _ rfl, rfl, 0, rfl⟩
  refine call_max_two (wpAny_pyIter_tuple hT ?_)
  have hsz : (s.heap.push { cls := .type "tuple", data := .seq #[.str a t, .str b u] }).objs.size = s.heap.objs.size + 1 := Heap.size_push ..
  refine ⟨_, [_, s.heap.objs.size], [_], _, _, _, _, rfl, Walks.tuple (A := A.in1) hh _ s.heap.objs.size (by rw [hsz]; exact Nat.ne_of_lt (Nat.lt_succ_self _)) #[.str a t, .str b u],
    ⟨⟨_, Heap.get?_push_size _ rfl, rfl, rfl⟩, hT.push _⟩, fun c hc => ?_, by simp, strs_gt (two a b) two_at, fun v h' tk hP hk => ?_⟩
  · show c < ((s.heap.push _).push _).objs.size
    rw [Heap.size_push, hsz]
    rcases List.mem_cons.mp hc with rfl | hc
    · rw [hsz]; exact Nat.lt_succ_self _
    · rcases List.mem_cons.mp hc with rfl | hc
      · exact Nat.lt_succ_of_lt (Nat.lt_succ_self _)
      · cases hc
  · have hold : ∀ c o, s.heap.get? c = some o → h'.get? c = some o := fun c o e => by
      refine hk c o (fun hm => ?_) (Heap.get?_push_of_some _ (Heap.get?_push_of_some _ e))
      rcases List.mem_cons.mp hm with e1 | hm
      · have := Heap.lt_size e; rw [e1, hsz] at this; exact Nat.lt_irrefl _ (Nat.lt_of_succ_lt this)
      · cases hm
    have := h h' tk hold
    have hv : v = if a.cps.toList < b.cps.toList then Value.str b u else Value.str a t := by
      have hP' : (#[Value.str a t, Value.str b u])[argBest (fun i j => decide ((two a b j).cps.toList < (two a b i).cps.toList)) 1]? = some v := hP
      by_cases hba : a.cps.toList < b.cps.toList
      · have e : argBest (fun i j => decide ((two a b j).cps.toList < (two a b i).cps.toList)) 1 = 1 := by simp [argBest, two, hba]
        rw [e] at hP'
        simpa [hba] using hP'.symm
      · have e : argBest (fun i j => decide ((two a b j).cps.toList < (two a b i).cps.toList)) 1 = 0 := by simp [argBest, two, hba]
        rw [e] at hP'
        simpa [hba] using hP'.symm
    rw [hv]; exact this
theorem min_two_strs {a b : Str} {t u : Tok} {Q : Value → Shared → Prop} (hh : A.handled = none)
    (h : ∀ h' tk, (∀ c o, s.heap.get? c = some o → h'.get? c = some o) → Q (if b.cps.toList < a.cps.toList then .str b u else .str a t) { s with heap := h', toks := tk }) :
    wpAny (model prog w) A (call (.builtin "min") [.str a t, .str b u]) Q E s := by
  have hT : (s.heap.push { cls := .type "tuple", data := .seq #[.str a t, .str b u] }).IsTuple s.heap.objs.size #[.str a t, .str b u] := ⟨_, Heap.get?_push_size _ rfl, rfl, 0, rfl⟩
  refine call_min_two (wpAny_pyIter_tuple hT ?_)
  have hsz : (s.heap.push { cls := .type "tuple", data := .seq #[.str a t, .str b u] }).objs.size = s.heap.objs.size + 1 := Heap.size_push ..
  refine ⟨_, [_, s.heap.objs.size], [_], _, _, _, _, rfl, Walks.tuple (A := A.in1) hh _ s.heap.objs.size (by rw [hsz]; exact Nat.ne_of_lt (Nat.lt_succ_self _)) #[.str a t, .str b u],
    ⟨⟨_, Heap.get?_push_size _ rfl, rfl, rfl⟩, hT.push _⟩, fun c hc => ?_, by simp, strs_lt (two a b) two_at, fun v h' tk hP hk => ?_⟩
  · show c < ((s.heap.push _).push _).objs.size
    rw [Heap.size_push, hsz]
    rcases List.mem_cons.mp hc with rfl | hc
    · rw [hsz]; exact Nat.lt_succ_self _
    · rcases List.mem_cons.mp hc with rfl | hc
      · exact Nat.lt_succ_of_lt (Nat.lt_succ_self _)
      · cases hc
  · have hold : ∀ c o, s.heap.get? c = some o → h'.get? c = some o := fun c o e => by
      refine hk c o (fun hm => ?_) (Heap.get?_push_of_some _ (Heap.get?_push_of_some _ e))
      rcases List.mem_cons.mp hm with e1 | hm
      · have := Heap.lt_size e; rw [e1, hsz] at this; exact Nat.lt_irrefl _ (Nat.lt_of_succ_lt this)
      · cases hm
    have := h h' tk hold
    have hv : v = if b.cps.toList < a.cps.toList then Value.str b u else Value.str a t := by
      have hP' : (#[Value.str a t, Value.str b u])[argBest (fun i j => decide ((two a b i).cps.toList < (two a b j).cps.toList)) 1]? = some v := hP
      by_cases hba : b.cps.toList < a.cps.toList
      · have e : argBest (fun i j => decide ((two a b i).cps.toList < (two a b j).cps.toList)) 1 = 1 := by simp [argBest, two, hba]
        rw [e] at hP'
        simpa [hba] using hP'.symm
      · have e : argBest (fun i j => decide ((two a b i).cps.toList < (two a b j).cps.toList)) 1 = 0 := by simp [argBest, two, hba]
        rw [e] at hP'
        simpa [hba] using hP'.symm
    rw [hv]; exact this
end
section
variable {X : Cx}
theorem call_maxS (hc : X.calm = true) : CallR X (.builtin "max") (fun xs H Q => ∃ i j : Str, xs = [.str i, .str j] ∧ Q (.str (if i.cps.toList < j.cps.toList then j else i)) H) := by
  intro pins s σ H xs us Q I r h
  obtain ⟨i, j, rfl, q⟩ := h
  obtain ⟨u, w', rfl, ⟨t, rfl⟩, ⟨t', rfl⟩⟩ := vals2 r
  refine max_two_strs (I.ok.hd hc) fun h' tk k => ⟨_, H, I.kept k, ?_, q⟩
  by_cases hj : i.cps.toList < j.cps.toList
  · rw [if_pos hj, if_pos hj]; exact ⟨_, rfl⟩
  · rw [if_neg hj, if_neg hj]; exact ⟨_, rfl⟩
theorem call_minS (hc : X.calm = true) : CallR X (.builtin "min") (fun xs H Q => ∃ i j : Str, xs = [.str i, .str j] ∧ Q (.str (if j.cps.toList < i.cps.toList then j else i)) H) := by
  intro pins s σ H xs us Q I r h
  obtain ⟨i, j, rfl, q⟩ := h
  obtain ⟨u, w', rfl, ⟨t, rfl⟩, ⟨t', rfl⟩⟩ := vals2 r
  refine min_two_strs (I.ok.hd hc) fun h' tk k => ⟨_, H, I.kept k, ?_, q⟩
  by_cases hj : j.cps.toList < i.cps.toList
  · rw [if_pos hj, if_pos hj]; exact ⟨_, rfl⟩
  · rw [if_neg hj, if_neg hj]; exact ⟨_, rfl⟩
end
/-! a sign, so often -/
theorem fold_sign (c : Nat) : ∀ (k : Nat) (acc : Array Nat), (List.replicate k (#[c] : Array Nat)).foldl (· ++ ·) acc = acc ++ (List.replicate k c).toArray
  | 0, acc => by simp
  | k + 1, acc => by
    rw [List.replicate_succ, List.foldl_cons, fold_sign c k, List.replicate_succ]
    apply Array.toList_inj.mp
    simp
theorem op_repS {X : Cx} : OpR X (binaryOp .Mult) (fun x y H Q => ∃ (c k : Nat), x = .str (SX.S [c]) ∧ y = .int (k : Nat) ∧ k ≤ 100000 ∧ Q (.str (SX.S (List.replicate k c))) H) := by
  intro pins s σ H x y v u Q I rx ry h
  obtain ⟨c, k, rfl, rfl, hk, q⟩ := h
  obtain ⟨t, rfl⟩ := rx
  obtain ⟨t', rfl⟩ := ry
  have l1 : (SX.S [c]).length = 1 := rfl
  refine PySem.P.mul_str ?_ ?_ ?_ ?_
  · rw [decide_eq_false (by omega), decide_eq_false (by omega)] <;> rfl
  · intro h1 h2
    rw [l1]
    have hk1 : 1 ≤ k := by omega
    intro h3
    have h5 : (1 : Int) ≤ (2 ^ 63 - 1) / (k : Int) := Int.le_ediv_of_mul_le (by omega) (by omega)
    omega
  · intro _ _
    rw [l1]
    exact decide_eq_false (by show ¬ (1 * ((k : Int)).toNat > sizeLine); rw [sizeLine_eq, show ((k : Int)).toNat = k from rfl]; omega)
  · by_cases h0 : (k : Int) < 1
    · rw [if_pos h0]
      have e : k = 0 := by omega
      subst e
      exact ⟨by decide, .str _, H, I.tok _, ⟨_, rfl⟩, q⟩
    · rw [if_neg h0]
      by_cases h1 : k = 1
      · subst h1
        rw [if_pos (by rfl)]
        exact ⟨.str _, H, I, ⟨_, rfl⟩, q⟩
      · have e1 : (((k : Int) == 1) || (SX.S [c]).length == 0) = false := by
          rw [l1]
          simp
          omega
        rw [if_neg (by rw [e1]; exact Bool.false_ne_true)]
        have e2 : (List.replicate ((k : Int)).toNat (SX.S [c]).cps).foldl (· ++ ·) #[] = (List.replicate k c).toArray := by
          have := fold_sign c k #[]
          rw [show ((k : Int)).toNat = k from rfl]
          show (List.replicate k (#[c] : Array Nat)).foldl (· ++ ·) #[] = _
          rw [this]
          simp
        rw [e2]
        refine ⟨?_, .str _, H, I.tok _, ⟨_, rfl⟩, q⟩
        show (SX.S (List.replicate k c)).length ≤ sizeLine
        rw [SX.S_len, List.length_replicate, sizeLine_eq]
        omega
end Fb
set_option maxRecDepth 100000
set_option maxHeartbeats 4000000
namespace Fb
open PySem PySem.Spec PyProof.Rows L2
open SX (S)
/-! the bits of a pattern, and where they stand -/
/-- signs without the dots -/
abbrev bt (l : List Nat) : List Nat := l.filter (fun c => c != 46)
def plc (l : List Nat) : List Nat := (List.range l.length).filter (fun i => l.getD i 0 != 46)
theorem plc_nil : plc [] = [] := rfl
theorem plc_dot (l : List Nat) : plc (46 :: l) = (plc l).map (· + 1) := by
  unfold plc
  rw [List.length_cons, List.range_succ_eq_map, List.filter_cons_of_neg (by simp), List.filter_map]
  rfl
theorem plc_bit {c : Nat} (l : List Nat) (h : c ≠ 46) : plc (c :: l) = 0 :: (plc l).map (· + 1) := by
  unfold plc
  rw [List.length_cons, List.range_succ_eq_map, List.filter_cons_of_pos (by simpa using h), List.filter_map]
  rfl
theorem plc_len : ∀ l : List Nat, (plc l).length = (bt l).length
  | [] => rfl
  | c :: l => by
    by_cases h : c = 46
    · subst h
      rw [plc_dot, List.length_map, plc_len l]
      simp
    · rw [plc_bit l h, List.length_cons, List.length_map, plc_len l]
      simp [h]
theorem plc_lt {l : List Nat} {i : Nat} (h : i ∈ plc l) : i < l.length := by
  unfold plc at h
  exact List.mem_range.mp (List.mem_filter.mp h).1
theorem plc_set : ∀ {l : List Nat} {b x : Nat}, x ≠ 46 → b < (bt l).length →
    bt (l.set ((plc l).getD b 0) x) = (bt l).set b x ∧ plc (l.set ((plc l).getD b 0) x) = plc l ∧ (∀ n, szA n (l.set ((plc l).getD b 0) x) = szA n l)
  | [], b, x, _, h => by simp at h
  | c :: l, b, x, hx, h => by
    by_cases e : c = 46
    · subst e
      have hb : b < (bt l).length := by simpa using h
      obtain ⟨h1, h2, h3⟩ := plc_set (l := l) hx hb
      have hb2 : b < (plc l).length := by rw [plc_len]; exact hb
      have g : (plc (46 :: l)).getD b 0 = (plc l).getD b 0 + 1 := by
        rw [plc_dot, List.getD_eq_getElem?_getD, List.getElem?_map, List.getElem?_eq_getElem hb2, List.getD_eq_getElem?_getD, List.getElem?_eq_getElem hb2]
        rfl
      rw [g, List.set_cons_succ]
      refine ⟨?_, ?_, fun n => ?_⟩
      · have : bt (46 :: l.set ((plc l).getD b 0) x) = bt (l.set ((plc l).getD b 0) x) := by simp
        rw [this, h1]
        simp
      · rw [plc_dot, plc_dot, h2]
      · show n :: szA 0 _ = n :: szA 0 _
        rw [h3]
    · cases b with
      | zero =>
        have g : (plc (c :: l)).getD 0 0 = 0 := by rw [plc_bit l e] <;> rfl
        rw [g, List.set_cons_zero]
        refine ⟨by simp [e, hx], by rw [plc_bit l e, plc_bit l hx], fun n => ?_⟩
        show (if x = 46 then _ else szA (n + 1) l) = (if c = 46 then _ else szA (n + 1) l)
        rw [if_neg hx, if_neg e]
      | succ b =>
        have hb : b < (bt l).length := by
          have : (bt (c :: l)).length = (bt l).length + 1 := by simp [e]
          omega
        obtain ⟨h1, h2, h3⟩ := plc_set (l := l) hx hb
        have hb2 : b < (plc l).length := by rw [plc_len]; exact hb
        have g : (plc (c :: l)).getD (b + 1) 0 = (plc l).getD b 0 + 1 := by
          rw [plc_bit l e, List.getD_eq_getElem?_getD, List.getElem?_cons_succ, List.getElem?_map, List.getElem?_eq_getElem hb2, List.getD_eq_getElem?_getD, List.getElem?_eq_getElem hb2]
          rfl
        rw [g, List.set_cons_succ]
        refine ⟨?_, ?_, fun n => ?_⟩
        · have e1 : bt (c :: l.set ((plc l).getD b 0) x) = c :: bt (l.set ((plc l).getD b 0) x) := by simp [e]
          have e2 : bt (c :: l) = c :: bt l := by simp [e]
          rw [e1, h1, e2, List.set_cons_succ]
        · rw [plc_bit _ e, plc_bit _ e, h2]
        · show (if c = 46 then _ else szA (n + 1) _) = (if c = 46 then _ else szA (n + 1) l)
          rw [if_neg e, if_neg e, h3]
theorem sg_set {l : List Nat} {i x : Nat} (h : Sg l) (hx : x = 48 ∨ x = 49 ∨ x = 46) : Sg (l.set i x) := fun c hc => by
  rcases List.mem_or_eq_of_mem_set hc with q | q
  · exact h c q
  · rw [q]; exact hx
/-- bits set to x, one behind the other -/
def fl (x : Nat) (l bs : List Nat) : List Nat := bs.foldl (fun m b => m.set ((plc l).getD b 0) x) l
def flB (x : Nat) (b bs : List Nat) : List Nat := bs.foldl (fun m i => m.set i x) b
theorem flB_len (x : Nat) : ∀ (bs b : List Nat), (flB x b bs).length = b.length
  | [], b => rfl
  | i :: bs, b => by
    show (flB x (b.set i x) bs).length = _
    rw [flB_len x bs, List.length_set]
theorem fl_go {x : Nat} (hx : x = 48 ∨ x = 49) : ∀ {bs m p : List Nat}, plc m = p → (∀ b ∈ bs, b < (bt m).length) →
    bt (bs.foldl (fun m b => m.set (p.getD b 0) x) m) = flB x (bt m) bs ∧ szs (bs.foldl (fun m b => m.set (p.getD b 0) x) m) = szs m ∧ (Sg m → Sg (bs.foldl (fun m b => m.set (p.getD b 0) x) m))
      ∧ (bs.foldl (fun m b => m.set (p.getD b 0) x) m).length = m.length
  | [], m, p, _, _ => ⟨rfl, rfl, fun h => h, rfl⟩
  | b :: bs, m, p, hp, h => by
    subst hp
    have x46 : x ≠ 46 := by omega
    obtain ⟨h1, h2, h3⟩ := plc_set (l := m) (b := b) x46 (h b List.mem_cons_self)
    have hb : ∀ c ∈ bs, c < (bt (m.set ((plc m).getD b 0) x)).length := fun c hc => by
      rw [h1, List.length_set]
      exact h c (List.mem_cons_of_mem _ hc)
    obtain ⟨g1, g2, g3, g4⟩ := fl_go hx (bs := bs) h2 hb
    rw [List.foldl_cons]
    refine ⟨?_, ?_, fun q => g3 (sg_set q (by omega)), by rw [g4, List.length_set]⟩
    · rw [g1, h1]
      rfl
    · rw [g2]
      exact h3 0
theorem fl_ok {x : Nat} {l bs : List Nat} (hx : x = 48 ∨ x = 49) (h : ∀ b ∈ bs, b < (bt l).length) : bt (fl x l bs) = flB x (bt l) bs ∧ szs (fl x l bs) = szs l ∧ (Sg l → Sg (fl x l bs)) ∧ (fl x l bs).length = l.length := fl_go hx rfl h
/-! a pattern by its sizes and its bits -/
def cut : List Nat → List Nat → List (List Nat)
  | [], _ => []
  | s :: ss, b => b.take s :: cut ss (b.drop s)
def jn (ss b : List Nat) : List Nat := TL.joinL [46] (cut ss b)
theorem cut_len : ∀ (ss b : List Nat), (cut ss b).length = ss.length
  | [], b => rfl
  | s :: ss, b => by
    show (cut ss _).length + 1 = _
    rw [cut_len ss]
    rfl
theorem cut_lens : ∀ {ss b : List Nat}, ss.sum ≤ b.length → (cut ss b).map List.length = ss
  | [], b, _ => rfl
  | s :: ss, b, h => by
    rw [List.sum_cons] at h
    show (b.take s).length :: (cut ss (b.drop s)).map List.length = _
    rw [cut_lens (by rw [List.length_drop]; omega), List.length_take]
    congr 1
    omega
theorem cut_mem : ∀ {ss b p : List Nat} {c : Nat}, p ∈ cut ss b → c ∈ p → c ∈ b
  | [], b, p, c, h, _ => by simp [cut] at h
  | s :: ss, b, p, c, h, hc => by
    rcases List.mem_cons.mp h with q | q
    · subst q
      exact List.mem_of_mem_take hc
    · exact List.mem_of_mem_drop (cut_mem q hc)
theorem cut_flat : ∀ {ss b : List Nat}, ss.sum = b.length → (cut ss b).flatten = b
  | [], b, h => by
    have : b = [] := List.length_eq_zero_iff.mp (by simpa using h.symm)
    rw [this]
    rfl
  | s :: ss, b, h => by
    rw [List.sum_cons] at h
    show (b.take s ++ (cut ss (b.drop s)).flatten) = b
    rw [cut_flat (by rw [List.length_drop]; omega), List.take_append_drop]
theorem bt_plain : ∀ {b : List Nat}, (∀ c ∈ b, c = 48 ∨ c = 49) → bt b = b := fun {b} h =>
  List.filter_eq_self.mpr fun c hc => by
    have := h c hc
    simp
    omega
theorem bt_join : ∀ {bs : List (List Nat)}, (∀ b ∈ bs, ∀ c ∈ b, c = 48 ∨ c = 49) → bt (TL.joinL [46] bs) = bs.flatten
  | [], _ => rfl
  | [b], h => by
    show bt b = [b].flatten
    rw [bt_plain (h b List.mem_cons_self)]
    simp
  | b :: d :: r, h => by
    have ih := bt_join (bs := d :: r) fun x hx => h x (List.mem_cons_of_mem _ hx)
    have e : TL.joinL [46] (b :: d :: r) = b ++ ([46] ++ TL.joinL [46] (d :: r)) := rfl
    rw [e, List.flatten_cons, ← ih]
    show List.filter _ (b ++ ([46] ++ _)) = _
    rw [List.filter_append, List.filter_append]
    have q := bt_plain (h b List.mem_cons_self)
    show bt b ++ ([] ++ _) = _
    rw [q]
    rfl
def Bits (b : List Nat) : Prop := ∀ c ∈ b, c = 48 ∨ c = 49
theorem Bits.bt {l : List Nat} (h : Sg l) : Bits (Fb.bt l) := fun c hc => by
  have h1 := List.mem_filter.mp hc
  have h2 := h c h1.1
  have h3 : ¬ c = 46 := by simpa using h1.2
  omega
theorem jn_sg {ss b : List Nat} (h : Bits b) : Sg (jn ss b) := sg_join fun p hp c hc => h c (cut_mem hp hc)
theorem jn_sz {ss b : List Nat} (h : Bits b) (hs : ss.sum ≤ b.length) (ne : ss ≠ []) : szs (jn ss b) = ss := by
  unfold jn
  rw [szs_join (fun e => ne (by have := congrArg List.length e; rw [cut_len] at this; exact List.length_eq_zero_iff.mp this)) (fun p hp c hc => h c (cut_mem hp hc)), cut_lens hs]
theorem jn_bt {ss b : List Nat} (h : Bits b) (hs : ss.sum = b.length) : bt (jn ss b) = b := by
  unfold jn
  rw [bt_join (fun p hp c hc => h c (cut_mem hp hc)), cut_flat hs]
theorem jn_go : ∀ (l : List Nat) (n : Nat) (pre : List Nat), pre.length = n → jn (szA n l) (pre ++ bt l) = pre ++ l
  | [], n, pre, h => by
    show TL.joinL [46] [(pre ++ []).take n] = pre ++ []
    rw [List.append_nil, ← h, List.take_length]
    rfl
  | c :: l, n, pre, h => by
    by_cases e : c = 46
    · subst e
      have ih := jn_go l 0 [] rfl
      have es : szA n (46 :: l) = n :: szA 0 l := rfl
      have eb : bt (46 :: l) = bt l := by simp
      rw [es, eb]
      unfold jn at *
      show TL.joinL [46] ((pre ++ bt l).take n :: cut (szA 0 l) ((pre ++ bt l).drop n)) = _
      rw [← h, List.take_left', List.drop_left']
      · rw [List.nil_append] at ih
        cases q : cut (szA 0 l) (bt l) with
        | nil =>
          have h1 := congrArg List.length q
          rw [cut_len] at h1
          have h2 := (szA_len l 0).1
          simp at h1
          rw [h1] at h2
          simp at h2
        | cons d r =>
          rw [q] at ih
          have e2 : TL.joinL [46] (pre :: d :: r) = pre ++ ([46] ++ TL.joinL [46] (d :: r)) := rfl
          rw [e2, ih]
          rfl
      · rfl
      · rfl
    · have ih := jn_go l (n + 1) (pre ++ [c]) (by rw [List.length_append, h] <;> rfl)
      have es : szA n (c :: l) = szA (n + 1) l := by
        show (if c = 46 then _ else _) = _
        rw [if_neg e]
      have eb : bt (c :: l) = c :: bt l := by simp [e]
      rw [es, eb]
      rw [List.append_assoc, List.append_assoc] at ih
      exact ih
theorem jn_of (l : List Nat) : jn (szs l) (bt l) = l := by
  have h := jn_go l 0 [] rfl
  exact h
/-- two patterns of the same sizes and bits are the same -/
theorem pat_ext {l m : List Nat} (h1 : szs l = szs m) (h2 : bt l = bt m) : l = m := by
  rw [← jn_of l, ← jn_of m, h1, h2]
theorem IsP.bits {l : List Nat} (h : IsP l) : Bits (bt l) := Bits.bt h.sg
theorem bt_sum (l : List Nat) : (bt l).length = (szs l).sum := by
  have h := szA_sum l 0
  rw [Nat.zero_add] at h
  exact h.symm
theorem isP_jn {l b : List Nat} (h : IsP l) (hb : Bits b) (hl : b.length = (bt l).length) : IsP (jn (szs l) b) ∧ szs (jn (szs l) b) = szs l ∧ bt (jn (szs l) b) = b := by
  have e := bt_sum l
  have ne : szs l ≠ [] := fun q => by
    have h2 := (szA_len l 0).1
    unfold szs at q
    rw [q] at h2
    simp at h2
  have z := jn_sz (ss := szs l) hb (by omega) ne
  have t := jn_bt (ss := szs l) hb (by omega)
  refine ⟨⟨jn_sg hb, by rw [z]; exact h.one, by rw [z]; exact h.few, ?_⟩, z, t⟩
  show (bt (jn (szs l) b)).length ≤ 120
  rw [t, hl]
  exact h.sum
theorem isP_fl {l bs : List Nat} {x : Nat} (h : IsP l) (hx : x = 48 ∨ x = 49) (hb : ∀ b ∈ bs, b < (bt l).length) : IsP (fl x l bs) ∧ szs (fl x l bs) = szs l ∧ bt (fl x l bs) = flB x (bt l) bs := by
  obtain ⟨h1, h2, h3, h4⟩ := fl_ok (l := l) hx hb
  refine ⟨⟨h3 h.sg, by rw [h2]; exact h.one, by rw [h2]; exact h.few, ?_⟩, h2, h1⟩
  show (bt _).length ≤ 120
  rw [h1, flB_len]
  exact h.sum
theorem flB_bits {x : Nat} (hx : x = 48 ∨ x = 49) : ∀ {bs b : List Nat}, Bits b → Bits (flB x b bs)
  | [], b, h => h
  | i :: bs, b, h => flB_bits hx (bs := bs) (b := b.set i x) fun c hc => by
    rcases List.mem_or_eq_of_mem_set hc with q | q
    · exact h c q
    · rw [q]; exact hx
theorem le_sum : ∀ {l : List Nat} {n : Nat}, n ∈ l → n ≤ l.sum
  | [], n, h => by simp at h
  | a :: l, n, h => by
    rw [List.sum_cons]
    rcases List.mem_cons.mp h with q | q
    · omega
    · have := le_sum q
      omega
/-! a block set -/
def upB (x f s : Nat) (b : List Nat) : List Nat := b.take f ++ List.replicate s x ++ b.drop (f + s)
theorem upB_go {x f : Nat} {b : List Nat} : ∀ s, f + s ≤ b.length → (List.range s).foldl (fun m j => m.set (f + j) x) b = upB x f s b
  | 0, h => by
    unfold upB
    simp
  | s + 1, h => by
    rw [List.range_succ, List.foldl_append, upB_go s (by omega), List.foldl_cons, List.foldl_nil]
    unfold upB
    have e : b.drop (f + s) = b[f + s]'(by omega) :: b.drop (f + s + 1) := List.drop_eq_getElem_cons (by omega)
    have l1 : (b.take f ++ List.replicate s x).length = f + s := by
      rw [List.length_append, List.length_take, List.length_replicate]
      omega
    rw [List.set_append_right _ _ (by omega), l1, Nat.sub_self, e, List.set_cons_zero, List.replicate_succ', ← Nat.add_assoc]
    simp
theorem upB_len {x f s : Nat} {b : List Nat} (h : f + s ≤ b.length) : (upB x f s b).length = b.length := by
  unfold upB
  rw [List.length_append, List.length_append, List.length_take, List.length_replicate, List.length_drop]
  omega
theorem upB_bits {x f s : Nat} {b : List Nat} (hx : x = 48 ∨ x = 49) (h : Bits b) : Bits (upB x f s b) := fun c hc => by
  unfold upB at hc
  rcases List.mem_append.mp hc with q | q
  · rcases List.mem_append.mp q with r | r
    · exact h c (List.mem_of_mem_take r)
    · rw [(List.mem_replicate.mp r).2]; exact hx
  · exact h c (List.mem_of_mem_drop q)
theorem cut_set {x : Nat} : ∀ {ss : List Nat} {b : List Nat} {k s : Nat}, ss[k]? = some s → ss.sum ≤ b.length → (cut ss b).set k (List.replicate s x) = cut ss (upB x (ss.take k).sum s b)
  | [], b, k, s, h, _ => by simp at h
  | t :: ss, b, 0, s, h, hl => by
    rw [List.sum_cons] at hl
    have e : t = s := by simpa using h
    subst e
    show List.replicate t x :: cut ss (b.drop t) = (upB x 0 t b).take t :: cut ss ((upB x 0 t b).drop t)
    unfold upB
    rw [List.take_zero, List.nil_append, Nat.zero_add, List.take_left' (by simp), List.drop_left' (by simp)]
  | t :: ss, b, k + 1, s, h, hl => by
    rw [List.sum_cons] at hl
    have h' : ss[k]? = some s := by simpa using h
    have ih := cut_set (x := x) (b := b.drop t) h' (by rw [List.length_drop]; omega)
    have hk : (ss.take k).sum + s ≤ ss.sum := by
      have e := List.take_append_drop k ss
      have e2 : ss.drop k = s :: ss.drop (k + 1) := by
        have hk := (List.getElem?_eq_some_iff.mp h').1
        rw [List.drop_eq_getElem_cons hk]
        congr 1
        exact (List.getElem?_eq_some_iff.mp h').2
      have e3 := congrArg List.sum e
      rw [List.sum_append, e2, List.sum_cons] at e3
      omega
    show b.take t :: (cut ss (b.drop t)).set k _ = (upB x (t + (ss.take k).sum) s b).take t :: cut ss ((upB x (t + (ss.take k).sum) s b).drop t)
    rw [ih]
    have lt : (b.take t).length = t := by rw [List.length_take]; omega
    have e : upB x (t + (ss.take k).sum) s b = b.take t ++ upB x (ss.take k).sum s (b.drop t) := by
      unfold upB
      rw [List.take_add, List.drop_drop, Nat.add_assoc]
      simp
    rw [e, List.take_left' lt, List.drop_left' lt]
/-- the parts of a pattern -/
theorem spl_cut (l : List Nat) : ∀ acc, TL.spl [46] 0 acc l = cut (szA acc.length l) (acc ++ bt l) := by
  induction l with
  | nil =>
    intro acc
    rw [TL.spl_nil]
    show [acc] = [(acc ++ []).take acc.length]
    rw [List.append_nil, List.take_length]
  | cons c l ih =>
    intro acc
    by_cases e : c = 46
    · subst e
      have hp : TL.pre [46] (46 :: l) = true := TL.pre_self [46] l
      rw [TL.spl_hit hp]
      have eb : bt (46 :: l) = bt l := by simp
      rw [eb]
      show acc :: TL.spl [46] 0 [] l = (acc ++ bt l).take acc.length :: cut (szA 0 l) ((acc ++ bt l).drop acc.length)
      rw [List.take_left' rfl, List.drop_left' rfl, ih []]
      rfl
    · have hp : TL.pre [46] (c :: l) = false := TL.pre_of_head _ _ fun q => e q
      rw [TL.spl_miss hp, ih (acc ++ [c])]
      have eb : bt (c :: l) = c :: bt l := by simp [e]
      have es : szA acc.length (c :: l) = szA (acc.length + 1) l := by
        show (if c = 46 then _ else _) = _
        rw [if_neg e]
      rw [eb, es, List.length_append, List.append_assoc]
      rfl
theorem split_cut (l : List Nat) : Txt.split (S l) "." = (cut (szs l) (bt l)).map S := by
  have e : ((".":Str)) = S [46] := by decide +kernel
  rw [e, SX.split_S (by simp) (by decide), spl_cut l []]
  rfl
theorem join_cut (bs : List (List Nat)) : Txt.join "." (bs.map S) = S (TL.joinL [46] bs) := by
  have e : ((".":Str)) = S [46] := by decide +kernel
  rw [e]
  exact SX.join_S [46] bs
theorem cut_rep : ∀ (ss : List Nat) (N x : Nat), ss.sum ≤ N → cut ss (List.replicate N x) = ss.map fun s => List.replicate s x
  | [], N, x, h => rfl
  | s :: ss, N, x, h => by
    rw [List.sum_cons] at h
    show (List.replicate N x).take s :: cut ss ((List.replicate N x).drop s) = _
    rw [List.take_replicate, List.drop_replicate, cut_rep ss (N - s) x (by omega), Nat.min_eq_left (by omega)]
    rfl
end Fb
set_option maxRecDepth 100000
set_option maxHeartbeats 4000000
namespace Fb
open PySem PySem.Spec PyProof.Rows L2
theorem ixN_at {n j : Nat} (hj : j < n) : ixN n (j : Int) = some j := by
  unfold ixN
  rw [if_pos (by omega), if_pos (by omega)]
  simp
theorem countIn_signs (c : Nat) : ∀ l : List Nat, countIn (.str ⟨#[c]⟩) (l.map fun n => PyData.str ⟨#[n]⟩) = ((l.count c : Nat) : Int)
  | [] => by simp [countIn]
  | n :: l => by
    rw [List.map_cons, countIn, countIn_signs c l, List.count_cons]
    by_cases h : n = c
    · subst h
      simp [same]
      omega
    · have e : same (PyData.str ⟨#[n]⟩) (.str ⟨#[c]⟩) = false := by
        simp [same]
        exact h
      rw [e]
      simp [h]
theorem count_ones (b : List Nat) : Txt.count (SX.S b) "1" = ((b.count 49 : Nat) : Int) := by
  have e : (("1" : Str)) = ⟨#[49]⟩ := by decide +kernel
  rw [e, count_is, show (SX.S b).cps.toList = b by simp [SX.S], countIn_signs]
/-! sum of a tuple; a class held by a local name; comprehensions over tuples -/
section
variable {X : Cx}
def rSumT (K : PySem.W.Frag) : List V → Hp → VK → Prop := fun vs H Q => ∃ (a : Addr) (ns : List Int), vs = [V.ref a] ∧ SqT K H a (ns.map V.int) ∧ Q (.int ns.sum) H
theorem cr_sumT (hc : X.calm = true) : CallR X (.builtin "sum") (rSumT X.K) := by
  intro pins s σ H vs us Q I r h
  obtain ⟨a, ns, rfl, hs, q⟩ := h
  obtain ⟨its, rv, hl, _⟩ := I.tuple hs
  rw [Vals.ref1 r]
  have hi := rv.ints
  obtain ⟨xs, e⟩ := hi.allInts.items
  have hn : numsOf (intItems xs).toList = ns := by rw [← e]; exact hi.numsOf
  rw [nums_intItems] at hn
  rw [e] at hl
  refine PySem.W.ktm_sumG (I.ok.hd hc) hl fun h' tk t' hk => ?_
  rw [preSum_eq, List.take_of_length_le (by simp), hn]
  exact ⟨.int _, H, I.kept hk, ⟨_, rfl⟩, q⟩
/-- C(..), C held by the i-th slot -/
def tMakeL (i : Nat) (C : Addr) (sp : Sp) (E : XK) (t : TA) : TE := fun σ H Q => σ[i]? = some (some (.ref C)) ∧ t σ H fun vs H1 => ∀ x dx, H1 x = none → H1 dx = none → dx ≠ x → sp (.ref x :: vs) (upd (upd H1 dx (.own x)) x (.ins C dx [])) (fun v H2 => v = .non ∧ Q (.ref x) H2) E
theorem pe_makeL {CX : CXT} {k i : Nat} {f C : Addr} {sp : Sp} {E : XK} {x : Str} {p pos : Pos} {e : Expr} {es : List Expr} {t : TA} (M : Mk X.K C f) (F : FnR X.prog X.w X.K X.mg X.base CX k f sp) (hr : Room (k + 1) X.A) (hN : X.N[i]? = some x) (hv : Vis X.env.scope x) (hx : Passes CX X E) (ha : PA X (e :: es) t) (hdb : (x == ("__debug__" : Str)) = false := by decide)
    (hcd : (x == ("__classdict__" : Str)) = false := by decide) (he : starEach (e :: es) X.env = (false, eval e X.env) :: starEach es X.env := by rfl) (hpl : (backTo pos (starEach es X.env)).any (·.1) = false := by rfl) : PE X (.Call (.Name x p) (e :: es) [] pos) (tMakeL i C sp E t) := by
  refine ⟨fun pins s σ H Q I h => ?_⟩
  obtain ⟨hs, ht⟩ := h
  refine wpAny_Call_Name_kw (thn ((pe_var (pos := p) hN hv hdb hcd).run pins s σ H (fun v H1 => v = .ref C ∧ H1 = H) I ⟨.ref C, hs, rfl, rfl⟩) fun u s1 ⟨v, H1, I1, r1, q1⟩ => ?_)
  obtain ⟨rfl, rfl⟩ := q1
  cases r1
  refine PySem.W.callWith_K (h₀ := X.base) I.ok.mod.kin M.kp (thn (ha.run pos pins s1 σ _ _ I1 ht) fun us s2 ⟨vs, H2, I2, r, q⟩ => ⟨I2.kIn, ?_⟩) he hpl
  exact StX.run_makeR M F hr hx I2 r q
end
section
variable {g : TG} {tt : TT} {te : TE} {vs : List Nat} {σ : L2.St} {H1 : Hp} {D : Addr} {Qd : Hp → Prop} (out : Nat → List V)
theorem lc_outU {K : PySem.W.Frag} {a : Addr} {xs : List V} (hD : H1 D = none) (hl : SqT K H1 a xs) (o0 : out 0 = []) (ol : ∀ i, i < xs.length → (out i).length < sizeLine)
    (hs : ∀ i x H (Kc : V → Hp → Prop) (K0 : Hp → Prop), xs[i]? = some x → Same H1 H → (∀ y H4, Same H H4 → out (i + 1) = out i ++ [y] → Kc y H4) → (∀ H4, Same H H4 → out (i + 1) = out i → K0 H4) →
      g x (wipe σ vs) H fun σ2 H2 => wipe σ2 vs = wipe σ vs ∧ tt σ2 H2 fun b H3 => if b = true then te σ2 H3 Kc else K0 H3)
    (hd : ∀ H, Same H1 H → H D = some (.lst (out xs.length)) → Qd H) :
    ∃ W : Nat → Nat → Hp → Prop, (∃ m, W 0 m (upd H1 D (.lst []))) ∧ ∀ i m H, W i m H →
      ((Itt K a).stop i H ∧ Qd H) ∨ ((Itt K a).go i H ∧ ∃ Nx : Hp → Prop, (∀ H', Nx H' → ∃ m', m' < m ∧ W (i + 1) m' H') ∧ ∀ x H', (Itt K a).yld i H x H' → g x (wipe σ vs) H' fun σ2 H2 => wipe σ2 vs = wipe σ vs ∧ tt σ2 H2 fun b H3 =>
        if b = true then te σ2 H3 fun y H4 => ∃ acc, H4 D = some (.lst acc) ∧ acc.length < sizeLine ∧ Nx (upd H4 D (.lst (acc ++ [y]))) else Nx H3) := by
  refine lc_tup (xs := xs) (fun i H => OutI H1 D (out i) H) (by rw [o0]; exact OutI.start hD) (fun i H _ h => sqT_same h.1 hl) (fun i x H e h => ?_) (fun H h => hd H h.1 h.2)
  have lt : i < xs.length := (List.getElem?_eq_some_iff.mp e).1
  exact hs i x H _ _ e h.1 (fun y H4 s q => ⟨out i, (h.stay s).2, ol i lt, by rw [q]; exact h.put hD s⟩) (fun H4 s q => by rw [q]; exact h.stay s)
end
end Fb
set_option maxRecDepth 100000
set_option maxHeartbeats 4000000
namespace Fb
open PySem PySem.Spec PyProof.Rows L2
open SX (S)
/-! lists of single signs -/
abbrev sgV (b : List Nat) : List V := b.map fun c => V.str (S [c])
theorem sgV_str (b : List Nat) : sgV b = (b.map fun c => S [c]).map V.str := by rw [List.map_map] <;> rfl
theorem countIn_strs (k : Str) : ∀ ys : List Str, countIn (.str k) (ys.map PyData.str) = ((ys.count k : Nat) : Int)
  | [] => by simp [countIn]
  | y :: ys => by
    rw [List.map_cons, countIn, countIn_strs k ys, List.count_cons]
    by_cases h : y = k
    · subst h
      simp [same]
      omega
    · have e : same (PyData.str y) (.str k) = false := by
        simp [same]
        exact h
      rw [e]
      simp [h]
section
variable {X : Cx}
def rCntS (K : PySem.W.Frag) : V → List V → Hp → VK → Prop := fun x xs H Q => ∃ (p : Addr) (ys : List Str) (k : Str), x = .ref p ∧ xs = [.str k] ∧ SqL K H p (ys.map V.str) ∧ Q (.int (ys.count k : Nat)) H
theorem mt_lcountS : MtR X "list.count" (rCntS X.K) := by
  intro pins s σ H x xs v us Q I rx rxs h
  obtain ⟨p, ys, k, rfl, rfl, hs, q⟩ := h
  cases rx
  obtain ⟨u, rfl, t, rfl⟩ := rxs.one
  obtain ⟨its, rv, ⟨ob, n, ho, hc, _, hdat⟩, _⟩ := I.list hs
  refine count_list_strs (vs := its) ⟨ob, ho, hc, n, hdat⟩ rv.strs ?_
  rw [countIn_strs]
  exact ⟨.int (ys.count k : Nat), H, I.tok _, ⟨_, rfl⟩, q⟩
end
theorem call_len_seqK {X : Cx} {K : PySem.W.Frag} (hK : X.K = K) : CallR X (.builtin "len") (fun xs H Q => ∃ p ys, xs = [.ref p] ∧ (SqL K H p ys ∨ SqT K H p ys) ∧ Q (.int ys.length) H) := by
  subst hK
  exact call_len_seq
theorem count_sg (b : List Nat) (c : Nat) : (b.map fun c => S [c]).count (S [c]) = b.count c := by
  induction b with
  | nil => rfl
  | cons a b ih =>
    rw [List.map_cons, List.count_cons, List.count_cons, ih, SX.S_beq_eq]
    by_cases h : a = c
    · subst h; simp
    · simp [h]
theorem inV_sgV (c : Nat) (b : List Nat) : inV (.str (S [c])) (sgV b) = decide (c ∈ b) := by
  induction b with
  | nil => rfl
  | cons a b ih =>
    have e : inV (.str (S [c])) (sgV (a :: b)) = (eqV (V.str (S [a])) (V.str (S [c])) || inV (.str (S [c])) (sgV b)) := rfl
    rw [e, ih]
    have e2 : eqV (V.str (S [a])) (V.str (S [c])) = decide (a = c) := by
      show (S [a] == S [c]) = _
      rw [SX.S_beq_eq]
      by_cases h : a = c
      · subst h; simp
      · simp [h]
    rw [e2]
    by_cases h : a = c
    · subst h; simp
    · have : ¬ c = a := fun q => h q.symm
      simp [h, this]
theorem flat_sgV : ∀ b : List Nat, (sgV b).all flatV = true
  | [] => rfl
  | c :: b => by
    show (flatV (V.str (S [c])) && (sgV b).all flatV) = true
    rw [flat_sgV b]
    rfl
theorem cut_get : ∀ {ss b : List Nat} {i s : Nat}, ss[i]? = some s → (cut ss b)[i]? = some ((b.drop (ss.take i).sum).take s)
  | [], b, i, s, h => by simp at h
  | t :: ss, b, 0, s, h => by
    have e : t = s := by simpa using h
    subst e
    rfl
  | t :: ss, b, i + 1, s, h => by
    have h' : ss[i]? = some s := by simpa using h
    show (cut ss (b.drop t))[i]? = some ((b.drop (t + (ss.take i).sum)).take s)
    rw [cut_get h', List.drop_drop]
theorem take_sum_s {ss : List Nat} {i s : Nat} (h : ss[i]? = some s) : (ss.take (i + 1)).sum = (ss.take i).sum + s := by
  rw [List.take_add_one, h, List.sum_append]
  simp
theorem take_sum_le (ss : List Nat) (i : Nat) : (ss.take i).sum ≤ ss.sum := by
  have e := congrArg List.sum (List.take_append_drop i ss)
  rw [List.sum_append] at e
  omega
theorem cutV_sg {b : List Nat} {f s : Nat} (h : f + s ≤ b.length) : cutV (sgV b) (some (f : Int)) (some ((f : Int) + (s : Int))) = sgV ((b.drop f).take s) := by
  unfold cutV
  have e : ((f : Int) + (s : Int)) = ((f + s : Nat) : Int) := by omega
  rw [e, HT.sIx_nat, HT.sIx_nat, List.length_map, Nat.min_eq_left h, Nat.min_eq_left (show f ≤ b.length by omega), Nat.add_sub_cancel_left, ← List.map_drop, ← List.map_take]
/-- a comprehension over a text -/
theorem lc_S {l : List Nat} {g : TG} {tt : TT} {te : TE} {vs : List Nat} {σ : L2.St} {H1 : Hp} {D : Addr} {Qd : Hp → Prop} (Pv : Nat → Hp → Prop) (h0 : Pv 0 (upd H1 D (.lst [])))
    (hs : ∀ i c H, l[i]? = some c → Pv i H → g (.str (S [c])) (wipe σ vs) H fun σ2 H2 => wipe σ2 vs = wipe σ vs ∧ tt σ2 H2 fun b H3 =>
      if b = true then te σ2 H3 fun y H4 => ∃ acc, H4 D = some (.lst acc) ∧ acc.length < sizeLine ∧ Pv (i + 1) (upd H4 D (.lst (acc ++ [y]))) else Pv (i + 1) H3) (hd : ∀ H, Pv l.length H → Qd H) :
    ∃ W : Nat → Nat → Hp → Prop, (∃ m, W 0 m (upd H1 D (.lst []))) ∧ ∀ i m H, W i m H →
      ((Its (S l)).stop i H ∧ Qd H) ∨ ((Its (S l)).go i H ∧ ∃ Nx : Hp → Prop, (∀ H', Nx H' → ∃ m', m' < m ∧ W (i + 1) m' H') ∧ ∀ x H', (Its (S l)).yld i H x H' → g x (wipe σ vs) H' fun σ2 H2 => wipe σ2 vs = wipe σ vs ∧ tt σ2 H2 fun b H3 =>
        if b = true then te σ2 H3 fun y H4 => ∃ acc, H4 D = some (.lst acc) ∧ acc.length < sizeLine ∧ Nx (upd H4 D (.lst (acc ++ [y]))) else Nx H3) := by
  have hz : (S l).cps.size = l.length := by simp [S]
  refine ⟨fun i m H => i + m = l.length ∧ Pv i H, ⟨l.length, by omega, h0⟩, fun i m H ⟨hm, p⟩ => ?_⟩
  by_cases lt : i < l.length
  · refine Or.inr ⟨by show i < (S l).cps.size; omega, Pv (i + 1), fun H' p' => ⟨m - 1, by omega, by omega, p'⟩, ?_⟩
    rintro x H' ⟨eH, c, hc, rfl⟩
    subst eH
    have e : l[i]? = some c := by simpa [S] using hc
    exact hs i c _ e p
  · obtain rfl : i = l.length := by omega
    exact Or.inl ⟨by show (S l).cps.size ≤ _; omega, hd H p⟩
/-! an exception that was caught and is kept, with fields or without -/
section
variable {X : Cx}
def rIsB (K : PySem.W.Frag) : List V → Hp → VK → Prop := fun xs H Q => ∃ (a C : Addr) (c : V) (cv : Value) (b : Bool), xs = [.ref a, c] ∧ XC K C ∧ XB K ∧ (H a = some (ExR (.ref C) none a) ∨ ∃ fs, XR H a C fs) ∧ ClsV c cv ∧ PySem.W.kitOne K (.ref C) cv = some b ∧ Q (.bl b) H
theorem call_isB : CallR X (.builtin "isinstance") (rIsB X.K) := by
  intro pins s σ H xs us Q I r h
  obtain ⟨a, C, c, cv, b, e, T, B, hE | ⟨fs, hE⟩, k, e2, q⟩ := h
  · exact call_isR pins s σ H xs us Q I r ⟨a, C, c, cv, b, e, T, B, hE, k, e2, q⟩
  · exact call_isQ pins s σ H xs us Q I r ⟨a, C, fs, c, cv, b, e, T, B, hE, k, e2, q⟩
end
end Fb
set_option maxRecDepth 100000
set_option maxHeartbeats 4000000
/-! a loop over range of a written number: within its body a token is out; calls and stores whose parts want one -/
namespace Fb
open PySem PySem.Spec PyProof.Rows L2
/-- what is walked, a token out behind it -/
def PIs (X : Cx) (tg iter : Expr) (wi : TI) : Prop :=
  ∀ (pins : List (Addr × Obj)) (s : Shared) (σ : L2.St) (H : Hp) (R : It → Hp → Prop), Inv X pins σ H s → wi σ H R →
    wpAny (model X.prog X.w) X.A (eval iter X.env) (fun v s1 => 1 ≤ s1.toks ∧ wpAny (model X.prog X.w) X.A (pyIter v) (PIE X pins σ tg R) X.xe s1) X.xe s
section
variable {X : Cx} {tg : Expr} {p c pos : Pos} {k : Int} {j : Nat}
theorem pis_range1 (hg : Gl X "range") (hm : X.mg "range" = none) : PIs X tg (.Call (.Name "range" p) [.Constant (.int k) j c] [] pos) (iRng1 (tCons (tC (.int k)) tNil)) := by
  intro pins s σ H R I h
  refine Call_ (ld_blt I hg hm boot_range (PyProof.Rows.callWith_type1 ?_ rfl rfl))
  show wpAny _ _ (spliced ((false, eval (.Constant (.int k) j c) X.env) :: backTo pos (starEach [] X.env))) _ _ s
  refine Calls.spliced_cons (wpAny_Constant_int (Calls.spliced_nil ?_))
  obtain ⟨i, e, q1, q2, q⟩ := h
  have e1 : k = i := by
    have := (List.cons.inj e).1
    exact V.int.inj this
  subst e1
  exact wpAny_mono (PySem.wpAny_toks_of (n := 1) (by show 1 ≤ s.toks + 1; omega) (call_range_1 (range_it (tg := tg) (R := R) (I.tok (s.toks + 1)) (by omega) (by omega) q1 q2 (by simpa using q)))) (fun _ _ z => z) fun _ _ z => z.2
theorem ps_forT {iter : Expr} {body : List Stmt} {wi : TI} {g : TG} {tb : TS} {pos : Pos} (hp : PassesOwn (model X.prog X.w) X.A X.env X.xe) (hc : X.calm = true) (hi : PIs X tg iter wi) (hg : PG X tg g) (hb : PSsT X body tb)
    (hs : ∀ x, foldedSetIterable iter X.env x = pure x := by intro _; rfl) : PS X (.For tg iter body [] pos) (tFor wi g tb) := by
  refine ⟨fun pins s σ H D I h => ?_⟩
  refine wpAny_For (thn (hi pins s σ H _ I h) fun v s1 ⟨t1, h1⟩ => wpAny_mono (PySem.wpAny_toks_of t1 h1) (fun itv s2 h2 => ?_) fun _ _ z => z.2) hs
  obtain ⟨t2, it, fp, tn, J, H2, e, I2, T, st2, f2, W, ⟨m0, w0⟩, turn⟩ := h2
  subst e
  have stat : ∀ {H' : Hp}, (∀ b ∈ fp, H' b = none) → ∀ b ∈ fp, FpOk X pins H' b := fun hn b hb => ⟨hn b hb, (f2 b hb).2⟩
  refine codeAny_forLoop_any (fun n s' => 1 ≤ s'.toks ∧ ∃ i σ' H', Inv X pins σ' H' s' ∧ tn i s'.heap ∧ (∀ b ∈ fp, H' b = none) ∧ W i n σ' H') ?_ m0 ⟨t2, 0, σ, H2, I2, st2, fun b hb => (f2 b hb).1, w0⟩
  rintro n s3 ⟨t3, i, σ3, H3, I3, st3, fr3, w3⟩
  rcases turn i n σ3 H3 w3 with ⟨stop, qn⟩ | ⟨go, N, hN, step⟩
  · refine wpAny_passesOwn hp (thn (T.done X rfl rfl rfl hc i pins s3 σ3 H3 X.xe I3 (stat fr3) st3 stop) fun r s4 ⟨hr, I4⟩ => ?_)
    subst hr
    exact wpAny_execs_nil ⟨σ3, H3, I4, qn⟩
  · refine wpAny_passesOwn hp (wpAny_mono (PySem.wpAny_toks_of t3 (T.item X rfl rfl rfl hc i pins s3 σ3 H3 X.xe I3 (stat fr3) st3 go)) (fun r s4 ⟨t4, u, hr, h4⟩ => ?_) fun _ _ z => z.2)
    subst hr
    refine wpAny_passesOwn hp (wpAny_mono (PySem.wpAny_toks_of t4 h4) (fun _ s5 ⟨t5, x, H5, I5, r5, y5, st5, fr5⟩ => ?_) fun _ _ z => z.2)
    have I5' := I5.pinned (stat fr5) (T.obj _ _ st5)
    refine wpAny_passesOwn hp (wpAny_mono (PySem.wpAny_toks_of t5 (hg.run _ s5 σ3 H5 x u _ I5' r5 (step x H5 y5))) (fun _ s6 ⟨t6, σ6, H6, I6, q6⟩ => ?_) fun _ _ z => z.2)
    refine wpAny_passesOwn hp (wpAny_mono (PySem.wpAny_toks_of t6 (hb _ s6 σ6 H6 _ t6 I6 q6)) (fun f s7 ⟨t7, q7⟩ => ?_) fun _ _ z => z.2)
    have again : ∀ {σ7 : L2.St} {H7 : Hp}, Inv X (pins ++ pinsAt fp s5.heap) σ7 H7 s7 → N σ7 H7 → ∃ m, m < n ∧ 1 ≤ s7.toks ∧ ∃ i σ' H', Inv X pins σ' H' s7 ∧ tn i s7.heap ∧ (∀ b ∈ fp, H' b = none) ∧ W i m σ' H' := fun {σ7 H7} I7 n7 => by
      obtain ⟨m', hm, w7⟩ := hN σ7 H7 n7
      refine ⟨m', hm, t7, i + 1, σ7, H7, I7.unpinned, T.keep _ _ _ st5 fun b hb o e => (I7.pin (b, o) (List.mem_append_right _ (List.mem_append_right _ (mem_pinsAt hb e)))).1, fun b hb => ?_, w7⟩
      obtain ⟨o, e, d⟩ := T.obj _ _ st5 b hb
      exact (I7.pin (b, o) (List.mem_append_right _ (List.mem_append_right _ (mem_pinsAt hb e)))).2.1
    cases f with
    | next => obtain ⟨σ7, H7, I7, n7⟩ := q7; exact again I7 n7
    | cont => obtain ⟨σ7, H7, I7, n7⟩ := q7; exact again I7 n7
    | brk => obtain ⟨σ7, H7, I7, q7⟩ := q7; exact ⟨σ7, H7, I7.unpinned, q7⟩
    | ret v => obtain ⟨x7, σ7, H7, I7, r7, q7⟩ := q7; exact ⟨x7, σ7, H7, I7.unpinned, r7, q7⟩
end
section
variable {X : Cx} {CX : CXT} {k : Nat} {f : Addr} {fd : FuncData} {ps : List Str} {sp : Sp} {ds : List Value} {dvs : List V} {E : XK} {x : Str} {p pos : Pos} {e : Expr} {es : List Expr} {t : TA}
theorem pet_call (F : FnOk X.prog X.w X.K X.mg X.base CX k f fd ps sp) (hr : Room k X.A) (hg : Gl X x) (hm : X.mg x = some (.ref f)) (hk : PySem.W.keepIn X.K (.ref f) = true) (hb : Binds X.K fd ps ds) (hd : Vals dvs ds) (hx : Passes CX X E)
    (ha : L2.PAT X (e :: es) t) (hdb : (x == ("__debug__" : Str)) = false := by decide) (he : starEach (e :: es) X.env = (false, eval e X.env) :: starEach es X.env := by rfl) (hpl : (backTo pos (starEach es X.env)).any (·.1) = false := by rfl) :
    L2.PET X (.Call (.Name x p) (e :: es) [] pos) (tCall sp dvs E t) := by
  intro pins s σ H Q h0 I h
  refine wpAny_Call_Name_kw (ld_glob I hg hm ?_ hdb)
  refine PySem.W.callWith_K (h₀ := X.base) I.ok.mod.kin hk (thn (ha pos pins s σ H _ h0 I h) fun us s1 ⟨vs, H1, I1, r, q⟩ => ⟨I1.kIn, ?_⟩) he hpl
  exact run_fn F hr hb hd hx I1 r q
theorem pst_set {i : Nat} {te : TE} {pos' : Pos} (hN : X.N.Nodup) (hi : X.N[i]? = some x) (hx : Loc X.env.scope x) (he : L2.PET X e te) (hs : swapsWith e (some (.Name x pos')) pos.line X.env = pure false := by rfl) (hf : X.fn x = true ∨ X.env.scope.names.lookup x = some .local := by first | exact .inl rfl | exact .inr rfl | assumption) :
    PST X (.Assign [.Name x pos'] e pos) (tAsg te (gName i)) := by
  intro pins s σ H D h0 I h
  refine wpAny_Assign_Name (thn (he pins s σ H _ h0 I h) fun v s1 ⟨y, H1, I1, r1, q1⟩ => ?_) hs
  exact store_ok I1 hN hi hx r1 (fun s2 I2 => ⟨_, H1, I2, q1⟩) hf
end
/-! in and not in, within a comprehension: the fragment named -/
theorem op_inK {X : Cx} {K : PySem.W.Frag} (hK : X.K = K) : OpR X (compareOp .In) (rIn K false) := by
  subst hK
  exact op_in_seq
theorem op_notInK {X : Cx} {K : PySem.W.Frag} (hK : X.K = K) : OpR X (compareOp .NotIn) (rIn K true) := by
  subst hK
  exact op_notIn_seq
end Fb
set_option maxRecDepth 100000
set_option maxHeartbeats 4000000
namespace Fb
open PySem PySem.Spec PyProof.Rows L2
open SX (S)

/-! the written part: addresses and defs of the program -/
structure Pz where
  (C fe cNoPattern cUnlike cNoBit p_sizes p_standing p_full a_npi : Addr)
  (d_npi : FuncData)
  (a_is_whole : Addr) (d_is_whole : FuncData)
  (a_is_number : Addr) (d_is_number : FuncData)
  (a_has_pattern_form : Addr) (d_has_pattern_form : FuncData)
  (a_first_wrong_sign : Addr) (d_first_wrong_sign : FuncData)
  (a_pattern_fault : Addr) (d_pattern_fault : FuncData)
  (a_need_pattern : Addr) (d_need_pattern : FuncData)
  (a_sizes_of : Addr) (d_sizes_of : FuncData)
  (a_need_bits : Addr) (d_need_bits : FuncData)
  (a_bits_of : Addr) (d_bits_of : FuncData)
  (a_places_of : Addr) (d_places_of : FuncData)
  (a_with_fallen : Addr) (d_with_fallen : FuncData)
  (a_with_erased : Addr) (d_with_erased : FuncData)
  (a_can_be_sizes : Addr) (d_can_be_sizes : FuncData)
  (a_init : Addr) (d_init : FuncData)
  (a_str : Addr) (d_str : FuncData)
  (a_len : Addr) (d_len : FuncData)
  (a_bool : Addr) (d_bool : FuncData)
  (a_getitem : Addr) (d_getitem : FuncData)
  (a_contains : Addr) (d_contains : FuncData)
  (a_sizes : Addr) (d_sizes : FuncData)
  (a_standing : Addr) (d_standing : FuncData)
  (a_fallen : Addr) (d_fallen : FuncData)
  (a_erased : Addr) (d_erased : FuncData)
  (a_full : Addr) (d_full : FuncData)
abbrev s_is_whole : Stmt := top 7
theorem sc_is_whole : FnScope ["thing"] ["thing"] (defScope s_is_whole) := ⟨rfl, rfl, rfl, by decide +kernel, rfl, by decide +kernel, by decide +kernel⟩
abbrev s_is_number : Stmt := top 8
theorem sc_is_number : FnScope ["thing", "many"] ["thing", "many"] (defScope s_is_number) := ⟨rfl, rfl, rfl, by decide +kernel, rfl, by decide +kernel, by decide +kernel⟩
abbrev s_has_pattern_form : Stmt := top 9
theorem sc_has_pattern_form : FnScope ["text", "parts", "bits"] ["text"] (defScope s_has_pattern_form) := ⟨rfl, rfl, rfl, by decide +kernel, rfl, by decide +kernel, by decide +kernel⟩
abbrev s_first_wrong_sign : Stmt := top 11
theorem sc_first_wrong_sign : FnScope ["thing", "bits", "blocks", "size", "at", "sign"] ["thing"] (defScope s_first_wrong_sign) := ⟨rfl, rfl, rfl, by decide +kernel, rfl, by decide +kernel, by decide +kernel⟩
abbrev s_pattern_fault : Stmt := top 10
theorem sc_pattern_fault : FnScope ["thing"] ["thing"] (defScope s_pattern_fault) := ⟨rfl, rfl, rfl, by decide +kernel, rfl, by decide +kernel, by decide +kernel⟩
abbrev s_need_pattern : Stmt := top 12
theorem sc_need_pattern : FnScope ["thing", "at"] ["thing"] (defScope s_need_pattern) := ⟨rfl, rfl, rfl, by decide +kernel, rfl, by decide +kernel, by decide +kernel⟩
abbrev s_sizes_of : Stmt := top 13
theorem sc_sizes_of : FnScope ["text", "part"] ["text"] (defScope s_sizes_of) := ⟨rfl, rfl, rfl, by decide +kernel, rfl, by decide +kernel, by decide +kernel⟩
abbrev s_need_bits : Stmt := top 15
theorem sc_need_bits : FnScope ["thing", "many", "bit"] ["thing", "many"] (defScope s_need_bits) := ⟨rfl, rfl, rfl, by decide +kernel, rfl, by decide +kernel, by decide +kernel⟩
abbrev s_bits_of : Stmt := top 16
theorem sc_bits_of : FnScope ["text"] ["text"] (defScope s_bits_of) := ⟨rfl, rfl, rfl, by decide +kernel, rfl, by decide +kernel, by decide +kernel⟩
abbrev s_places_of : Stmt := top 17
theorem sc_places_of : FnScope ["text", "place", "sign"] ["text"] (defScope s_places_of) := ⟨rfl, rfl, rfl, by decide +kernel, rfl, by decide +kernel, by decide +kernel⟩
abbrev s_with_fallen : Stmt := top 18
theorem sc_with_fallen : FnScope ["text", "bits", "places", "signs", "bit"] ["text", "bits"] (defScope s_with_fallen) := ⟨rfl, rfl, rfl, by decide +kernel, rfl, by decide +kernel, by decide +kernel⟩
abbrev s_with_erased : Stmt := top 19
theorem sc_with_erased : FnScope ["text", "block", "parts"] ["text", "block"] (defScope s_with_erased) := ⟨rfl, rfl, rfl, by decide +kernel, rfl, by decide +kernel, by decide +kernel⟩
abbrev s_can_be_sizes : Stmt := top 22
theorem sc_can_be_sizes : FnScope ["sizes", "size"] ["sizes"] (defScope s_can_be_sizes) := ⟨rfl, rfl, rfl, by decide +kernel, rfl, by decide +kernel, by decide +kernel⟩
abbrev s_Pattern_init : Stmt := inClass (top 23) 2
theorem sc_Pattern_init : FnScope ["self", "text"] ["self", "text"] (defScope s_Pattern_init) := ⟨rfl, rfl, rfl, by decide +kernel, rfl, by decide +kernel, by decide +kernel⟩
abbrev s_Pattern_str : Stmt := inClass (top 23) 9
theorem sc_Pattern_str : FnScope ["self"] ["self"] (defScope s_Pattern_str) := ⟨rfl, rfl, rfl, by decide +kernel, rfl, by decide +kernel, by decide +kernel⟩
abbrev s_Pattern_len : Stmt := inClass (top 23) 10
theorem sc_Pattern_len : FnScope ["self"] ["self"] (defScope s_Pattern_len) := ⟨rfl, rfl, rfl, by decide +kernel, rfl, by decide +kernel, by decide +kernel⟩
abbrev s_Pattern_bool : Stmt := inClass (top 23) 11
theorem sc_Pattern_bool : FnScope ["self"] ["self"] (defScope s_Pattern_bool) := ⟨rfl, rfl, rfl, by decide +kernel, rfl, by decide +kernel, by decide +kernel⟩
abbrev s_Pattern_getitem : Stmt := inClass (top 23) 12
theorem sc_Pattern_getitem : FnScope ["self", "at"] ["self", "at"] (defScope s_Pattern_getitem) := ⟨rfl, rfl, rfl, by decide +kernel, rfl, by decide +kernel, by decide +kernel⟩
abbrev s_Pattern_contains : Stmt := inClass (top 23) 14
theorem sc_Pattern_contains : FnScope ["self", "x"] ["self", "x"] (defScope s_Pattern_contains) := ⟨rfl, rfl, rfl, by decide +kernel, rfl, by decide +kernel, by decide +kernel⟩
abbrev s_Pattern_sizes : Stmt := inClass (top 23) 5
theorem sc_Pattern_sizes : FnScope ["self"] ["self"] (defScope s_Pattern_sizes) := ⟨rfl, rfl, rfl, by decide +kernel, rfl, by decide +kernel, by decide +kernel⟩
abbrev s_Pattern_standing : Stmt := inClass (top 23) 6
theorem sc_Pattern_standing : FnScope ["self"] ["self"] (defScope s_Pattern_standing) := ⟨rfl, rfl, rfl, by decide +kernel, rfl, by decide +kernel, by decide +kernel⟩
abbrev s_Pattern_fallen : Stmt := inClass (top 23) 7
theorem sc_Pattern_fallen : FnScope ["self", "bits"] ["self", "bits"] (defScope s_Pattern_fallen) := ⟨rfl, rfl, rfl, by decide +kernel, rfl, by decide +kernel, by decide +kernel⟩
abbrev s_Pattern_erased : Stmt := inClass (top 23) 8
theorem sc_Pattern_erased : FnScope ["self", "block"] ["self", "block"] (defScope s_Pattern_erased) := ⟨rfl, rfl, rfl, by decide +kernel, rfl, by decide +kernel, by decide +kernel⟩
abbrev s_Pattern_full : Stmt := inClass (top 23) 4
theorem sc_Pattern_full : FnScope ["cls", "sizes", "size"] ["cls", "sizes"] (defScope s_Pattern_full) := ⟨rfl, rfl, rfl, by decide +kernel, rfl, by decide +kernel, by decide +kernel⟩
abbrev s_NoPattern_init : Stmt := inClass (top 3) 0
theorem sc_NoPattern_init : FnScope ["self", "at"] ["self", "at"] (defScope s_NoPattern_init) := ⟨rfl, rfl, rfl, by decide +kernel, rfl, by decide +kernel, by decide +kernel⟩
structure Txp (K : PySem.W.Frag) (mg : Str → Option Value) (z : Pz) : Prop where
  g_Pattern : mg "Pattern" = some (.ref z.C)
  cls : Cls K z.C
  mkP : Mk K z.C z.a_init
  na_text : NoAttr K z.C "_text"
  na_bits : NoAttr K z.C "_bits"
  na_sizes : NoAttr K z.C "_sizes"
  crP : ClX.CRead K z.C (.type "type")
  vBITS : ∃ mc u, ClX.CRead K z.C mc ∧ ClX.CVal K z.C mc "BITS" (.int 120) u
  vBLOCKS : ∃ mc u, ClX.CRead K z.C mc ∧ ClX.CVal K z.C mc "BLOCKS" (.int 3) u
  ca : PySem.W.findIn K (.ref z.C) "__class__" = some (some (.builtin "object.__class__"))
  xb : XB K
  mo : PySem.W.mroIn K z.C (.type "object") = some true
  ic : ∃ cd, PySem.W.clsIn K z.C = some cd ∧ cd.mro = [.ref z.C, .type "object"]
  tyC : PySem.W.typeIn K (.ref z.C) = some (.type "type")
  F_npi : Fun K "__init__" "NoPattern.__init__" s_NoPattern_init z.a_npi z.d_npi
  b_npi : Binds K z.d_npi ["self", "at"] []
  iNP : PySem.W.findIn K (.ref z.cNoPattern) "__init__" = some (some (.ref z.a_npi))
  tNP : PySem.W.typeIn K (.ref z.a_npi) = some (.type "function")
  nNP : PySem.W.findIn K (.ref z.cNoPattern) "at" = some none
  xNoPattern : XF K mg z.fe "NoPattern" z.cNoPattern
  xNoBit : XF K mg z.fe "NoBit" z.cNoBit
  eNoBit : PySem.W.excIn K z.cNoBit [.type "ValueError", .type "Exception", .type "BaseException", .type "object"] "ValueError.__new__" = true
  g_is_whole : mg "is_whole" = some (.ref z.a_is_whole)
  k_is_whole : PySem.W.keepIn K (.ref z.a_is_whole) = true
  F_is_whole : Fun K "is_whole" "is_whole" s_is_whole z.a_is_whole z.d_is_whole
  b_is_whole : Binds K z.d_is_whole ["thing"] []
  g_is_number : mg "is_number" = some (.ref z.a_is_number)
  k_is_number : PySem.W.keepIn K (.ref z.a_is_number) = true
  F_is_number : Fun K "is_number" "is_number" s_is_number z.a_is_number z.d_is_number
  b_is_number : Binds K z.d_is_number ["thing", "many"] []
  g_has_pattern_form : mg "has_pattern_form" = some (.ref z.a_has_pattern_form)
  k_has_pattern_form : PySem.W.keepIn K (.ref z.a_has_pattern_form) = true
  F_has_pattern_form : Fun K "has_pattern_form" "has_pattern_form" s_has_pattern_form z.a_has_pattern_form z.d_has_pattern_form
  b_has_pattern_form : Binds K z.d_has_pattern_form ["text"] []
  g_first_wrong_sign : mg "first_wrong_sign" = some (.ref z.a_first_wrong_sign)
  k_first_wrong_sign : PySem.W.keepIn K (.ref z.a_first_wrong_sign) = true
  F_first_wrong_sign : Fun K "first_wrong_sign" "first_wrong_sign" s_first_wrong_sign z.a_first_wrong_sign z.d_first_wrong_sign
  b_first_wrong_sign : Binds K z.d_first_wrong_sign ["thing"] []
  g_pattern_fault : mg "pattern_fault" = some (.ref z.a_pattern_fault)
  k_pattern_fault : PySem.W.keepIn K (.ref z.a_pattern_fault) = true
  F_pattern_fault : Fun K "pattern_fault" "pattern_fault" s_pattern_fault z.a_pattern_fault z.d_pattern_fault
  b_pattern_fault : Binds K z.d_pattern_fault ["thing"] []
  g_need_pattern : mg "need_pattern" = some (.ref z.a_need_pattern)
  k_need_pattern : PySem.W.keepIn K (.ref z.a_need_pattern) = true
  F_need_pattern : Fun K "need_pattern" "need_pattern" s_need_pattern z.a_need_pattern z.d_need_pattern
  b_need_pattern : Binds K z.d_need_pattern ["thing"] []
  g_sizes_of : mg "sizes_of" = some (.ref z.a_sizes_of)
  k_sizes_of : PySem.W.keepIn K (.ref z.a_sizes_of) = true
  F_sizes_of : Fun K "sizes_of" "sizes_of" s_sizes_of z.a_sizes_of z.d_sizes_of
  b_sizes_of : Binds K z.d_sizes_of ["text"] []
  g_need_bits : mg "need_bits" = some (.ref z.a_need_bits)
  k_need_bits : PySem.W.keepIn K (.ref z.a_need_bits) = true
  F_need_bits : Fun K "need_bits" "need_bits" s_need_bits z.a_need_bits z.d_need_bits
  b_need_bits : Binds K z.d_need_bits ["thing", "many"] []
  g_bits_of : mg "bits_of" = some (.ref z.a_bits_of)
  k_bits_of : PySem.W.keepIn K (.ref z.a_bits_of) = true
  F_bits_of : Fun K "bits_of" "bits_of" s_bits_of z.a_bits_of z.d_bits_of
  b_bits_of : Binds K z.d_bits_of ["text"] []
  g_places_of : mg "places_of" = some (.ref z.a_places_of)
  k_places_of : PySem.W.keepIn K (.ref z.a_places_of) = true
  F_places_of : Fun K "places_of" "places_of" s_places_of z.a_places_of z.d_places_of
  b_places_of : Binds K z.d_places_of ["text"] []
  g_with_fallen : mg "with_fallen" = some (.ref z.a_with_fallen)
  k_with_fallen : PySem.W.keepIn K (.ref z.a_with_fallen) = true
  F_with_fallen : Fun K "with_fallen" "with_fallen" s_with_fallen z.a_with_fallen z.d_with_fallen
  b_with_fallen : Binds K z.d_with_fallen ["text", "bits"] []
  g_with_erased : mg "with_erased" = some (.ref z.a_with_erased)
  k_with_erased : PySem.W.keepIn K (.ref z.a_with_erased) = true
  F_with_erased : Fun K "with_erased" "with_erased" s_with_erased z.a_with_erased z.d_with_erased
  b_with_erased : Binds K z.d_with_erased ["text", "block"] []
  g_can_be_sizes : mg "can_be_sizes" = some (.ref z.a_can_be_sizes)
  k_can_be_sizes : PySem.W.keepIn K (.ref z.a_can_be_sizes) = true
  F_can_be_sizes : Fun K "can_be_sizes" "can_be_sizes" s_can_be_sizes z.a_can_be_sizes z.d_can_be_sizes
  b_can_be_sizes : Binds K z.d_can_be_sizes ["sizes"] []
  m_init : PySem.W.findIn K (.ref z.C) "__init__" = some (some (.ref z.a_init))
  f_init : PySem.W.isFn K (.ref z.a_init) = true
  F_init : Fun K "__init__" "Pattern.__init__" s_Pattern_init z.a_init z.d_init
  b_init : Binds K z.d_init ["self", "text"] []
  m_str : PySem.W.findIn K (.ref z.C) "__str__" = some (some (.ref z.a_str))
  f_str : PySem.W.isFn K (.ref z.a_str) = true
  F_str : Fun K "__str__" "Pattern.__str__" s_Pattern_str z.a_str z.d_str
  b_str : Binds K z.d_str ["self"] []
  m_len : PySem.W.findIn K (.ref z.C) "__len__" = some (some (.ref z.a_len))
  f_len : PySem.W.isFn K (.ref z.a_len) = true
  F_len : Fun K "__len__" "Pattern.__len__" s_Pattern_len z.a_len z.d_len
  b_len : Binds K z.d_len ["self"] []
  m_bool : PySem.W.findIn K (.ref z.C) "__bool__" = some (some (.ref z.a_bool))
  f_bool : PySem.W.isFn K (.ref z.a_bool) = true
  F_bool : Fun K "__bool__" "Pattern.__bool__" s_Pattern_bool z.a_bool z.d_bool
  b_bool : Binds K z.d_bool ["self"] []
  m_getitem : PySem.W.findIn K (.ref z.C) "__getitem__" = some (some (.ref z.a_getitem))
  f_getitem : PySem.W.isFn K (.ref z.a_getitem) = true
  F_getitem : Fun K "__getitem__" "Pattern.__getitem__" s_Pattern_getitem z.a_getitem z.d_getitem
  b_getitem : Binds K z.d_getitem ["self", "at"] []
  m_contains : PySem.W.findIn K (.ref z.C) "__contains__" = some (some (.ref z.a_contains))
  f_contains : PySem.W.isFn K (.ref z.a_contains) = true
  F_contains : Fun K "__contains__" "Pattern.__contains__" s_Pattern_contains z.a_contains z.d_contains
  b_contains : Binds K z.d_contains ["self", "x"] []
  fi_getitem : PySem.W.fnIn K z.a_getitem = true
  F_sizes : Fun K "sizes" "Pattern.sizes" s_Pattern_sizes z.a_sizes z.d_sizes
  b_sizes : Binds K z.d_sizes ["self"] []
  F_standing : Fun K "standing" "Pattern.standing" s_Pattern_standing z.a_standing z.d_standing
  b_standing : Binds K z.d_standing ["self"] []
  F_fallen : Fun K "fallen" "Pattern.fallen" s_Pattern_fallen z.a_fallen z.d_fallen
  b_fallen : Binds K z.d_fallen ["self", "bits"] []
  F_erased : Fun K "erased" "Pattern.erased" s_Pattern_erased z.a_erased z.d_erased
  b_erased : Binds K z.d_erased ["self", "block"] []
  ps_sizes : PropOf K z.C "sizes" z.p_sizes z.a_sizes
  ps_standing : PropOf K z.C "standing" z.p_standing z.a_standing
  bm_fallen : Meth K z.C "fallen" z.a_fallen
  bm_erased : Meth K z.C "erased" z.a_erased
  cm_full : ClX.CMet K z.C (.type "type") "full" z.p_full z.a_full
  F_full : Fun K "full" "Pattern.full" s_Pattern_full z.a_full z.d_full
  n_isinstance : mg "isinstance" = none
  n_str : mg "str" = none
  n_enumerate : mg "enumerate" = none
  n_len : mg "len" = none
  n_tuple : mg "tuple" = none
  n_all : mg "all" = none
  n_int : mg "int" = none
  n_bool : mg "bool" = none
  n_list : mg "list" = none
  n_sum : mg "sum" = none
/-! promises -/
def optI : Option Nat → V
  | none => .non
  | some k => .int (k : Nat)
def spForm : Sp := fun vs H Q _ => ∃ l, vs = [.str (S l)] ∧ l.length ≤ sizeLine - 2 ∧ ∀ H', Same H H' → Q (.bl (decide (pf l = none))) H'
def spFirst : Sp := fun vs H Q _ => ∃ l, vs = [.str (S l)] ∧ l.length ≤ sizeLine - 2 ∧ ∀ H', Same H H' → Q (.int (((pf l).getD l.length : Nat) : Int)) H'
def spFault (K : PySem.W.Frag) : Sp := fun vs H Q _ => (∃ l, vs = [.str (S l)] ∧ l.length ≤ sizeLine - 2 ∧ ∀ H', Same H H' → Q (optI (pf l)) H') ∨ (∃ x t, vs = [x] ∧ TyX K H x t ∧ PySem.W.kitOne K t (.type "str") = some false ∧ Q (.int 0) H)
def spNeed : Sp := fun vs H Q _ => ∃ l, vs = [.str (S l)] ∧ l.length ≤ sizeLine - 2 ∧ pf l = none ∧ ∀ H', Same H H' → Q .non H'
def spSizes : Sp := fun vs H Q _ => ∃ l, vs = [.str (S l)] ∧ l.length ≤ 1000 ∧ ∀ p H', Same H H' → H p = none → H' p = some (.tup (nums (szs l))) → Q (.ref p) H'
def spNeedS (K : PySem.W.Frag) (C : Addr) : Sp := fun vs H Q E => ∃ l t ns, vs = [.str (S l), .ref t] ∧ l.length ≤ 1000 ∧ pf l = none ∧ SqT K H t (nums ns) ∧ (if szs l = ns then ∀ H', Same H H' → Q .non H' else ∀ H', Same H H' → E (.ref C) none H')
def spBits : Sp := fun vs H Q _ => ∃ l, vs = [.str (S l)] ∧ l.length ≤ 1000 ∧ Q (.str (S (l.filter (fun c => c != 46)))) H
def spBelow : Sp := fun vs H Q _ => ∃ l m, vs = [.str (S l), .str (S m)] ∧ l.length ≤ 1000 ∧ ∀ H', Same H H' → Q (.bl (below l m)) H'
def spUnS : Sp := fun vs H Q _ => ∃ a b, vs = [.str (S [a]), .str (S [b])] ∧ Q (.str (S [fXor a b])) H
/-! small facts -/
theorem S_0 : ("0" : Str) = S [48] := by decide +kernel
theorem S_1 : ("1" : Str) = S [49] := by decide +kernel
theorem S_d : ("." : Str) = S [46] := by decide +kernel
theorem S_e : ("" : Str) = S [] := by decide +kernel
theorem S_eq {a b : List Nat} : (V.str (S a) = V.str (S b)) ↔ a = b := ⟨fun h => SX.S_inj (V.str.inj h), fun h => by rw [h]⟩
theorem inV_sg (c : Nat) : inV (.str (S [c])) [.str "0", .str "1", .str "."] = decide (c = 48 ∨ c = 49 ∨ c = 46) := by
  rw [S_0, S_1, S_d]
  have e : ∀ a : Nat, eqV (V.str (S [a])) (V.str (S [c])) = decide (c = a) := fun a => by
    show (S [a] == S [c]) = _
    rw [SX.S_beq_eq]
    by_cases h : c = a
    · subst h; simp
    · rw [decide_eq_false h, decide_eq_false (fun z => h (by simpa using z.symm))]
  show ([V.str (S [48]), V.str (S [49]), V.str (S [46])].any fun y => eqV y (V.str (S [c]))) = _
  simp only [List.any_cons, List.any_nil, e, Bool.or_false, Bool.decide_or]
theorem le3 : 3 ≤ sizeLine := by decide
theorem S_sz (l : List Nat) : (S l).cps.size = l.length := by simp [S]
theorem S_ln (l : List Nat) : (S l).length = l.length := SX.S_len l
theorem small1 (n : Nat) (h : n ≤ 1000) : n < sizeLine := small1000 h
/-! a text of a pattern, by its parts -/
theorem txt_parts (l : List Nat) : Txt.split (S l) "." = (cut (szs l) (bt l)).map S := split_cut l
theorem join_flat : ∀ ps : List (List Nat), TL.joinL [] ps = ps.flatten
  | [] => rfl
  | [p] => by simp [TL.joinL]
  | p :: q :: r => by
    have h := join_flat (q :: r)
    simp only [TL.joinL] at h ⊢
    rw [h]
    simp
theorem mem_tw {p : Nat → Bool} {x : Nat} : ∀ {l : List Nat}, x ∈ l.takeWhile p → p x = true
  | a :: l, h => by
    rw [List.takeWhile_cons] at h
    split at h
    · rename_i e
      rcases List.mem_cons.mp h with q | q
      · rw [q]; exact e
      · exact mem_tw q
    · simp at h
theorem tw_bad {p : Nat → Bool} : ∀ {l : List Nat} (h : (l.takeWhile p).length < l.length), p (l[(l.takeWhile p).length]'h) = false
  | [], h => by simp at h
  | a :: l, h => by
    by_cases e : p a = true
    · have e2 : (a :: l).takeWhile p = a :: l.takeWhile p := by rw [List.takeWhile_cons, if_pos e]
      have h2 : (l.takeWhile p).length < l.length := by rw [e2] at h; simpa using h
      have := tw_bad h2
      simpa [e2] using this
    · have e2 : (a :: l).takeWhile p = [] := by rw [List.takeWhile_cons, if_neg e]
      simpa [e2] using e
theorem tw_all {p : Nat → Bool} : ∀ {l : List Nat}, (∀ c ∈ l, p c = true) → l.takeWhile p = l
  | [], _ => rfl
  | a :: l, h => by rw [List.takeWhile_cons, if_pos (h a List.mem_cons_self), tw_all fun c hc => h c (List.mem_cons_of_mem _ hc)]
theorem join_parts (l : List Nat) : Txt.join "" ((cut (szs l) (bt l)).map S) = S (bt l) := by
  rw [S_e, SX.join_S, join_flat, cut_flat (bt_sum l).symm]
theorem inV_parts (ps : List (List Nat)) : inV (.str "") ((ps.map S).map V.str) = decide ([] ∈ ps) := by
  rw [S_e]
  show (((ps.map S).map V.str).any fun y => eqV y (V.str (S []))) = _
  rw [List.map_map, List.any_map]
  have e : (fun y => eqV y (V.str (S []))) ∘ (V.str ∘ S) = fun p : List Nat => decide (p = []) := by
    funext p
    show (S p == S []) = _
    rw [SX.S_beq_eq]
  rw [e]
  by_cases h : [] ∈ ps
  · rw [decide_eq_true h]
    exact List.any_eq_true.mpr ⟨[], h, by simp⟩
  · rw [decide_eq_false h]
    refine List.any_eq_false.mpr fun p hp => ?_
    simp only [decide_eq_true_eq]
    exact fun e => h (e ▸ hp)
theorem flat_parts (ps : List (List Nat)) : ((ps.map S).map V.str).all flatV = true := by
  rw [List.map_map, List.all_map]
  exact List.all_eq_true.mpr fun p _ => rfl
theorem nil_cut {l : List Nat} : [] ∈ cut (szs l) (bt l) ↔ 0 ∈ szs l := by
  have e := cut_lens (ss := szs l) (b := bt l) (Nat.le_of_eq (bt_sum l).symm)
  constructor
  · intro h
    rw [← e]
    exact List.mem_map.mpr ⟨[], h, rfl⟩
  · intro h
    rw [← e] at h
    obtain ⟨p, hp, e2⟩ := List.mem_map.mp h
    rw [List.length_eq_zero_iff.mp e2] at hp
    exact hp
theorem strip_bits (b : List Nat) : (Txt.stripChars (S b) "01" = S []) ↔ ∀ c ∈ b, c = 48 ∨ c = 49 := by
  have g : ("01" : Str).cps.contains = fun c => decide (c = 48 ∨ c = 49) := by
    funext c
    rw [show ("01" : Str) = S [48, 49] by decide +kernel]
    show (#[48, 49] : Array Nat).contains c = _
    simp [Bool.decide_or, eq_comm]
  generalize ep : (fun c : Nat => decide (c = 48 ∨ c = 49)) = p at g
  have hp : ∀ c, p c = true ↔ (c = 48 ∨ c = 49) := fun c => by rw [← ep]; simp
  have e : Txt.stripChars (S b) "01" = S ((b.drop (b.takeWhile p).length).take (b.length - ((b.drop (b.takeWhile p).length).reverse.takeWhile p).length - (b.takeWhile p).length)) := by
    unfold Txt.stripChars
    rw [stripBy_eq, g]
    show Builtin.Str.strSub (S b) (b.takeWhile p).length ((S b).length - ((b.drop (b.takeWhile p).length).reverse.takeWhile p).length) = _
    rw [S_ln]
    show (⟨(b.toArray).extract _ _⟩ : Str) = _
    rw [List.extract_toArray, List.extract_eq_drop_take] <;> rfl
  rw [e]
  constructor
  · intro h
    have h2 := SX.S_inj h
    by_cases hd : b.drop (b.takeWhile p).length = []
    · intro c hc
      have t : b.takeWhile p = b := by
        have := List.takeWhile_append_dropWhile (p := p) (l := b)
        have l1 : b.length ≤ (b.takeWhile p).length := by simpa using hd
        exact List.IsPrefix.eq_of_length_le (List.takeWhile_prefix p) l1
      rw [← t] at hc
      exact (hp c).mp (mem_tw hc)
    · exfalso
      have nz : (b.takeWhile p).length < b.length := by
        have : b.drop (b.takeWhile p).length ≠ [] := hd
        rw [Ne, List.drop_eq_nil_iff] at this
        omega
      -- the sign behind the first good ones is not good
      have bad : p (b[(b.takeWhile p).length]'nz) = false := by
        exact tw_bad nz
      have few : ((b.drop (b.takeWhile p).length).reverse.takeWhile p).length < (b.drop (b.takeWhile p).length).length := by
        refine Nat.lt_of_not_le fun le => ?_
        have t : (b.drop (b.takeWhile p).length).reverse.takeWhile p = (b.drop (b.takeWhile p).length).reverse :=
          List.IsPrefix.eq_of_length_le (List.takeWhile_prefix p) (by rw [List.length_reverse]; exact le)
        have m : b[(b.takeWhile p).length]'nz ∈ (b.drop (b.takeWhile p).length).reverse := by
          rw [List.mem_reverse, List.drop_eq_getElem_cons nz]
          exact List.mem_cons_self
        rw [← t] at m
        rw [mem_tw m] at bad
        cases bad
      have ln : ((b.drop (b.takeWhile p).length).take (b.length - ((b.drop (b.takeWhile p).length).reverse.takeWhile p).length - (b.takeWhile p).length)).length = 0 := by rw [h2] <;> rfl
      rw [List.length_take, List.length_drop] at ln
      rw [List.length_drop] at few
      omega
  · intro h
    have t : b.takeWhile p = b := tw_all fun c hc => (hp c).mpr (h c hc)
    rw [t, List.drop_length, List.take_nil]
theorem form_iff {l : List Nat} : pf l = none ↔ ((szs l).length ≤ 3 ∧ 0 ∉ szs l ∧ (bt l).length ≤ 120 ∧ ∀ c ∈ bt l, c = 48 ∨ c = 49) := by
  constructor
  · intro h
    have p := isP_pf h
    exact ⟨p.few, fun z => by have := p.one 0 z; omega, p.sum, p.bits⟩
  · rintro ⟨h1, h2, h3, h4⟩
    refine IsP.pf ⟨fun c hc => ?_, fun n hn => ?_, h1, h3⟩
    · by_cases d : c = 46
      · exact .inr (.inr d)
      · rcases h4 c (List.mem_filter.mpr ⟨hc, by simpa using d⟩) with e | e
        · exact .inl e
        · exact .inr (.inl e)
    · rcases Nat.eq_zero_or_pos n with e | e
      · exact absurd (e ▸ hn) h2
      · exact e
section
variable {P : Program} {wo : World} {K : PySem.W.Frag} {mg : Str → Option Value} {base : Heap} {z : Pz}

theorem ok_has_pattern_form (T : Txp K mg z) : FnOk P wo K mg base CX0 1 z.a_has_pattern_form z.d_has_pattern_form ["text"] spForm := by
  refine T.F_has_pattern_form.ok sc_has_pattern_form (fun vs H Q E h => ?_) (fun cdv A outer s H vs Q E hr h => ?_)
  · obtain ⟨l, rfl, _⟩ := h
    rfl
  · obtain ⟨l, rfl, hl, ret⟩ := h
    have hz : 2 ≤ sizeLine := by decide
    refine ⟨_, (pss_cons (ps_set (i := 1) sc_has_pattern_form.nd rfl (Or.inl rfl) (pe_bm PySem.F.plainAttrs_str PySem.F.slot_str_split PySem.F.type_str_split mt_split (pv 0) (pa_cons pe_str pa_nil)))
      (pss_cons (ps_set (i := 2) sc_has_pattern_form.nd rfl (Or.inl rfl) (pe_joinK (K := K) rfl pe_str (pa_cons (pv 1) pa_nil)))
      (pss_cons (ps_if (PW.pt (pw_or (pt_cmpR op_gt (pe_callB call_len_seq (by rfl) T.n_len (by decide +kernel) (pa_cons (pv 1) pa_nil)) (ClX.pe_cval (pe_glob (v := .ref z.C) rfl T.g_Pattern rfl)) (nomark _)) (pw_or (pt_cmpR (op_inK (K := K) rfl) pe_str (pv 1) rfl) (pw_or1 (pt_cmpR op_gt (pe_callB call_len_str (by rfl) T.n_len (by decide +kernel) (pa_cons (pv 2) pa_nil)) (ClX.pe_cval (pe_glob (v := .ref z.C) rfl T.g_Pattern rfl)) (nomark _))))))
        (pss_one (ps_ret pe_bl))
        pss_nil)
      (pss_one (ps_ret (pe_cmpR op_eq (pe_bm PySem.F.plainAttrs_str PySem.F.slot_str_strip PySem.F.type_str_strip mt_stripChars (pv 2) (pa_cons pe_str pa_nil)) pe_str (nomark _))))))), ?_⟩
    refine ⟨_, rfl, rfl, S l, ".", rfl, rfl, by decide, by rw [S_ln]; omega, fun p hp => ?_⟩
    rw [txt_parts]
    have s1 := smN (o := .lst (((cut (szs l) (bt l)).map S).map V.str)) (Same.refl H) hp
    have lp : (((cut (szs l) (bt l)).map S).map V.str).length = (szs l).length := by rw [List.length_map, List.length_map, cut_len]
    have out : ¬ ((szs l).length ≤ 3 ∧ 0 ∉ szs l ∧ (bt l).length ≤ 120 ∧ ∀ c ∈ bt l, c = 48 ∨ c = 49) → ∀ H', Same H H' → Q (.bl false) H' := fun h H' s' => by
      have q := ret H' s'
      rw [decide_eq_false (fun e => h (form_iff.mp e))] at q
      exact q
    have hb : (bt l).length ≤ l.length := List.length_filter_le _ _
    have sum : ((((cut (szs l) (bt l)).map S)).map fun w => w.length).sum = (bt l).length := by
      rw [SX.lens, cut_lens (Nat.le_of_eq (bt_sum l).symm), bt_sum]
    refine ⟨rfl, _, rfl, "", p, (cut (szs l) (bt l)).map S, rfl, rfl, .inl (SqL.of upd_same), ?_, ?_⟩
    · rw [sum]
      show (bt l).length + _ * 0 ≤ sizeLine
      omega
    rw [join_parts]
    obtain ⟨mk, uk, crk, cvk⟩ := T.vBLOCKS
    obtain ⟨mb, ub, crb, cvb⟩ := T.vBITS
    refine ⟨_, rfl, p, _, rfl, .inl (SqL.of upd_same), z.C, mk, _, uk, rfl, crk, cvk, _, _, rfl, rfl, _, rfl, ?_⟩
    rw [lp]
    refine ite2 (fun c1 => ?_) (fun c1 => ?_)
    · exact iteT (out (fun h => by have := of_decide_eq_true c1; have := h.1; omega) _ s1)
    refine ⟨_, rfl, p, _, rfl, .inl (SqL.of upd_same), rfl, flat_parts _, _, rfl, ?_⟩
    rw [inV_parts]
    refine ite2 (fun c2 => ?_) (fun c2 => ?_)
    · have c2' : decide ([] ∈ cut (szs l) (bt l)) = true := c2
      exact iteT (out (fun h => h.2.1 (nil_cut.mp (of_decide_eq_true c2'))) _ s1)
    refine ⟨_, rfl, _, rfl, by rw [S_ln]; omega, z.C, mb, _, ub, rfl, crb, cvb, _, _, rfl, rfl, _, rfl, ?_⟩
    rw [S_ln]
    refine ite2 (fun c3 => ?_) (fun c3 => ?_)
    · exact out (fun h => by have := of_decide_eq_true c3; have := h.2.2.1; omega) _ s1
    refine ⟨_, rfl, rfl, S (bt l), "01", rfl, rfl, by rw [S_ln]; omega, rfl, ?_⟩
    have c2' : ¬ decide ([] ∈ cut (szs l) (bt l)) = true := c2
    have e : decide (V.str (Txt.stripChars (S (bt l)) "01") = V.str "") = decide (pf l = none) := by
      rw [decide_eq_decide, S_e]
      constructor
      · intro h
        refine form_iff.mpr ⟨?_, ?_, ?_, (strip_bits _).mp (V.str.inj h)⟩
        · refine Nat.le_of_not_lt fun q => c1 (decide_eq_true ?_)
          omega
        · exact fun q => c2' (decide_eq_true (nil_cut.mpr q))
        · refine Nat.le_of_not_lt fun q => c3 (decide_eq_true ?_)
          omega
      · intro h
        rw [(strip_bits _).mpr (form_iff.mp h).2.2.2]
    rw [e]
    exact ret _ s1
theorem ok_first_wrong_sign (T : Txp K mg z) : FnOk P wo K mg base CX0 1 z.a_first_wrong_sign z.d_first_wrong_sign ["thing"] spFirst := by
  refine T.F_first_wrong_sign.ok sc_first_wrong_sign (fun vs H Q E h => ?_) (fun cdv A outer s H vs Q E hr h => ?_)
  · obtain ⟨l, rfl, _⟩ := h
    rfl
  · obtain ⟨l, rfl, hl, ret⟩ := h
    refine ⟨_, (pss_cons (ps_set (i := 1) sc_first_wrong_sign.nd rfl (Or.inl rfl) pe_int)
      (pss_cons (ps_set (i := 2) sc_first_wrong_sign.nd rfl (Or.inl rfl) pe_int)
      (pss_cons (ps_set (i := 3) sc_first_wrong_sign.nd rfl (Or.inl rfl) pe_int)
      (pss_cons (ps_for PassesOwn.never rfl (pi_enumS rfl T.n_enumerate (pa_cons (pv 0) pa_nil)) (pg_tup rfl (pgs_cons (pg_name (i := 4) sc_first_wrong_sign.nd rfl (Or.inl rfl)) (pgs_cons (pg_name (i := 5) sc_first_wrong_sign.nd rfl (Or.inl rfl)) pgs_nil)))
        (pss_cons (ps_if (PW.pt (pw_or (pt_cmpR (op_notInK (K := K) rfl) (pv 5) (pe_tup (pa_cons pe_str (pa_cons pe_str (pa_cons pe_str pa_nil)))) rfl) (pw_or1 (pt_cmpR op_eq (pv 1) (ClX.pe_cval (pe_glob (v := .ref z.C) rfl T.g_Pattern rfl)) (nomark _)))))
          (pss_one (ps_ret (pv 4)))
          pss_nil)
        (pss_one (ps_if (pt_cmpR op_eq (pv 5) pe_str (nomark _))
          (pss_cons (ps_if (PW.pt (pw_or (pt_cmpR op_eq (pv 3) pe_int (nomark _)) (pw_or1 (pt_cmpR op_eq (pv 2) (ClX.pe_cval (pe_glob (v := .ref z.C) rfl T.g_Pattern rfl)) (nomark _)))))
            (pss_one (ps_ret (pv 4)))
            pss_nil)
          (pss_cons (ps_aug (i := 2) sc_first_wrong_sign.nd rfl (Or.inl rfl) pe_int ip_add)
          (pss_one (ps_set (i := 3) sc_first_wrong_sign.nd rfl (Or.inl rfl) pe_int))))
          (pss_cons (ps_aug (i := 1) sc_first_wrong_sign.nd rfl (Or.inl rfl) pe_int ip_add)
          (pss_one (ps_aug (i := 3) sc_first_wrong_sign.nd rfl (Or.inl rfl) pe_int ip_add)))))))
      (pss_one (ps_ret (pe_callB call_len_str (by rfl) T.n_len (by decide +kernel) (pa_cons (pv 0) pa_nil)))))))), ?_⟩
    refine ⟨_, rfl, S l, rfl, ?_⟩
    rw [S_sz]
    refine for_T (fun i σ H' => Same H H' ∧ ∃ (b k n : Nat) (x4 x5 : Option V), σ = [some (.str (S l)), some (.int b), some (.int k), some (.int n), x4, x5] ∧ pfa (l.drop i) i b k n = pf l) ⟨Same.refl _, 0, 1, 0, none, none, rfl, rfl⟩ ?_ ?_
    · rintro i Tu σ H1 hi ⟨s1, b, k, n, x4, x5, rfl, e⟩ hT
      have hc : l[i]? = some l[i] := List.getElem?_eq_getElem hi
      have ed : l.drop i = l[i] :: l.drop (i + 1) := List.drop_eq_getElem_cons hi
      generalize l[i] = c at hc ed
      rw [ed] at e
      have es : sgn (S l) i = S [c] := S_sgn hc
      have s2 : Same H (upd H1 Tu (.tup [.int (i : Nat), .str (sgn (S l) i)])) := smN s1 hT
      refine ⟨Tu, [.int (i : Nat), .str (S [c])], rfl, SqT.of (by rw [upd_same, es]), rfl, ?_⟩
      refine ⟨_, _, rfl, ?_⟩
      refine ⟨_, _, rfl, ?_⟩
      refine ⟨rfl, ?_⟩
      refine ⟨_, rfl, le3, fun t ht => ⟨t, _, rfl, .inr (SqT.of upd_same), rfl, rfl, _, rfl, ?_⟩⟩
      have s3 := smN (o := .tup [.str "0", .str "1", .str "."]) s2 ht
      rw [inV_sg]
      unfold pfa at e
      by_cases h1 : c = 48 ∨ c = 49 ∨ c = 46
      · rw [decide_eq_true h1]
        refine iteF ?_
        obtain ⟨mc, u, cr, cv⟩ := T.vBITS
        refine ⟨_, rfl, z.C, mc, _, u, rfl, cr, cv, rfl, _, rfl, ?_⟩
        refine ite2 (fun h2 => ?_) (fun h2 => ?_)
        · have h3 : b = 120 := by have := of_decide_eq_true h2; have := V.int.inj this; omega
          rw [if_pos (.inr h3)] at e
          refine ⟨_, rfl, ?_⟩
          have q := ret _ s3
          rw [← e] at q
          exact q
        · have h3 : ¬ b = 120 := fun z => h2 (by rw [z] <;> rfl)
          rw [if_neg (by intro z; rcases z with z | z; exact z h1; exact h3 z)] at e
          refine ⟨_, rfl, rfl, _, rfl, ?_⟩
          refine ite2 (fun h4 => ?_) (fun h4 => ?_)
          · have h5 : c = 46 := by
              have := of_decide_eq_true h4
              rw [S_d] at this
              simpa using S_eq.mp this
            rw [if_pos h5] at e
            refine ⟨_, rfl, rfl, _, rfl, ?_⟩
            refine ite2 (fun h6 => ?_) (fun h6 => ?_)
            · have h7 : n = 0 := by have := of_decide_eq_true h6; have := V.int.inj this; omega
              refine iteT ?_
              rw [if_pos (.inl h7)] at e
              refine ⟨_, rfl, ?_⟩
              have q := ret _ s3
              rw [← e] at q
              exact q
            · have h7 : ¬ n = 0 := fun z => h6 (by rw [z] <;> rfl)
              obtain ⟨mc, u, cr, cv⟩ := T.vBLOCKS
              refine ⟨_, rfl, z.C, mc, _, u, rfl, cr, cv, rfl, _, rfl, ?_⟩
              refine ite2 (fun h8 => ?_) (fun h8 => ?_)
              · have h9 : k = 3 := by have := of_decide_eq_true h8; have := V.int.inj this; omega
                rw [if_pos (.inr h9)] at e
                refine ⟨_, rfl, ?_⟩
                have q := ret _ s3
                rw [← e] at q
                exact q
              · have h9 : ¬ k = 3 := fun z => h8 (by rw [z] <;> rfl)
                rw [if_neg (by intro z; rcases z with z | z; exact h7 z; exact h9 z)] at e
                refine ⟨_, rfl, _, _, rfl, rfl, ?_⟩
                exact ⟨s3, b, k + 1, 0, _, _, rfl, e⟩
          · have h5 : ¬ c = 46 := fun z => h4 (by rw [z, S_d] <;> exact decide_eq_true rfl)
            rw [if_neg h5] at e
            refine ⟨_, rfl, _, _, rfl, rfl, ?_⟩
            refine ⟨_, rfl, _, _, rfl, rfl, ?_⟩
            exact ⟨s3, b + 1, k, n + 1, _, _, rfl, e⟩
      · rw [decide_eq_false h1]
        refine iteT (iteT ?_)
        rw [if_pos (.inl h1)] at e
        refine ⟨_, rfl, ?_⟩
        have q := ret _ s3
        rw [← e] at q
        exact q
    · rintro σ H1 ⟨s1, b, k, n, x4, x5, rfl, e⟩
      rw [List.drop_length] at e
      unfold pfa at e
      refine ⟨_, rfl, S l, rfl, by rw [S_ln]; omega, ?_⟩
      rw [S_ln]
      have q := ret _ s1
      have g : (pf l).getD l.length = l.length := by
        rw [← e]
        split <;> rfl
      rw [g] at q
      exact q
theorem ok_pattern_fault (T : Txp K mg z) : FnOk P wo K mg base CX0 2 z.a_pattern_fault z.d_pattern_fault ["thing"] (spFault K) := by
  refine T.F_pattern_fault.ok sc_pattern_fault (fun vs H Q E h => ?_) (fun cdv A outer s H vs Q E hr h => ?_)
  · rcases h with ⟨l, rfl, _⟩ | ⟨x, t, rfl, _⟩ <;> rfl
  · have hr1 : Room 1 _ := hr
    have G_has_pattern_form : FnOk P wo K mg base CX0 1 z.a_has_pattern_form z.d_has_pattern_form ["text"] spForm := ok_has_pattern_form T
    have G_first_wrong_sign : FnOk P wo K mg base CX0 1 z.a_first_wrong_sign z.d_first_wrong_sign ["thing"] spFirst := ok_first_wrong_sign T
    refine ⟨_, (pss_cons (ps_if (pt_not (pt_val (pe_callB call_isi (by rfl) T.n_isinstance boot_isinstance (pa_cons (pv 0) (pa_cons (pe_bltn (v := .ty "str") rfl T.n_str (by decide +kernel) rfl) pa_nil)))))
        (pss_one (ps_ret pe_int))
        pss_nil)
      (pss_one (ps_ret (pe_ifExp (pt_val (pe_call G_has_pattern_form hr1 rfl T.g_has_pattern_form T.k_has_pattern_form T.b_has_pattern_form .nil pass0 (pa_cons (pv 0) pa_nil))) pe_non (pe_call G_first_wrong_sign hr1 rfl T.g_first_wrong_sign T.k_first_wrong_sign T.b_first_wrong_sign .nil pass0 (pa_cons (pv 0) pa_nil)))))), ?_⟩
    rcases h with ⟨l, rfl, hl, ret⟩ | ⟨x, t, rfl, ty, kt, ret⟩
    · refine ⟨_, rfl, _, _, _, _, true, rfl, .ty "str", .base (.str _), kit_ty (by decide +kernel), _, rfl, ?_⟩
      refine iteF ?_
      refine ⟨_, rfl, l, rfl, hl, fun H1 s1 => ⟨_, rfl, ?_⟩⟩
      by_cases e : pf l = none
      · rw [decide_eq_true e]
        refine iteT ?_
        have q := ret _ s1
        rw [e] at q
        exact q
      · rw [decide_eq_false e]
        refine iteF ?_
        refine ⟨_, rfl, l, rfl, hl, fun H2 s2 => ?_⟩
        obtain ⟨k, ek⟩ := Option.ne_none_iff_exists'.mp e
        have q := ret _ (s1.trans s2)
        rw [ek] at q ⊢
        exact q
    · refine ⟨_, rfl, _, _, _, _, false, rfl, .ty "str", ty, kt, _, rfl, ?_⟩
      exact iteT ret

end
end Fb
set_option maxRecDepth 100000
set_option maxHeartbeats 4000000
namespace Fb
open PySem PySem.Spec PyProof.Rows L2
open SX (S)
section
variable {P : Program} {wo : World} {K : PySem.W.Frag} {mg : Str → Option Value} {base : Heap} {z : Pz}
theorem ok_need_pattern (T : Txp K mg z) : FnOk P wo K mg base CX0 3 z.a_need_pattern z.d_need_pattern ["thing"] spNeed := by
  refine T.F_need_pattern.ok sc_need_pattern (fun vs H Q E h => ?_) (fun cdv A outer s H vs Q E hr h => ?_)
  · obtain ⟨l, rfl, _⟩ := h
    rfl
  · obtain ⟨l, rfl, hl, hp, ret⟩ := h
    have hr1 : Room 2 _ := hr
    have G_pattern_fault : FnOk P wo K mg base CX0 2 z.a_pattern_fault z.d_pattern_fault ["thing"] (spFault K) := ok_pattern_fault T
    refine ⟨_, (pss_cons (ps_set (i := 1) sc_need_pattern.nd rfl (Or.inl rfl) (pe_call G_pattern_fault hr1 rfl T.g_pattern_fault T.k_pattern_fault T.b_pattern_fault .nil pass0 (pa_cons (pv 0) pa_nil)))
      (pss_one (ps_if (pt_cmpR op_notN (pv 1) pe_non (nomark _))
        (pss_one ps_no)
        pss_nil))), ?_⟩
    refine ⟨_, rfl, .inl ⟨l, rfl, hl, fun H' s => ?_⟩⟩
    rw [hp]
    refine ⟨_, rfl, rfl, _, rfl, ?_⟩
    refine iteNS (show optI none = .non from rfl) ?_
    exact ret _ s
theorem ok_sizes_of (T : Txp K mg z) : FnOk P wo K mg base CX0 2 z.a_sizes_of z.d_sizes_of ["text"] spSizes := by
  refine T.F_sizes_of.ok sc_sizes_of (fun vs H Q E h => ?_) (fun cdv A outer s H vs Q E hr h => ?_)
  · obtain ⟨l, rfl, _⟩ := h
    rfl
  · obtain ⟨l, rfl, hl, ret⟩ := h
    have hz : 1000 + 2 ≤ sizeLine := by decide
    have hsl := szA_len l 0
    have hlen : (Txt.split (S l) ".").length = (szs l).length := by rw [← split_lens l, List.length_map]
    have key : ∀ (i : Nat) (y : Str), (Txt.split (S l) ".")[i]? = some y → (szs l)[i]? = some y.length := fun i y e => by
      rw [← split_lens l, List.getElem?_map, e] <;> rfl
    refine ⟨_, (pss_one (ps_ret (pe_callTy call_tuple_of (by rfl) T.n_tuple (by decide +kernel) (pa_cons (by refine' pe_lc (own := [("part", 1)]) (tt := tYes) rfl sc_sizes_of.nd ?hi (blkOk_by (N := ["text", "part"]) (sc := defScope s_sizes_of) (by first | decide +kernel | kernel_rfl | rfl)) ?hg ?ht ?he (by intro _; rfl); (case hi => exact (pi_list (pe_bm PySem.F.plainAttrs_str PySem.F.slot_str_split PySem.F.type_str_split mt_split (pv 0) (pa_cons pe_str pa_nil)))); (case hg => exact fun _ _ _ _ _ => (pg_name (i := 1) sc_sizes_of.nd rfl (Or.inl rfl))); (case ht => exact fun _ _ _ _ _ => pts_nil); (case he => exact fun _ _ _ _ _ => (pe_callB call_len_str (by rfl) T.n_len (by decide +kernel) (pa_cons (pv 1) pa_nil)))) pa_nil)))), ?_⟩
    refine ⟨_, rfl, rfl, S l, ".", rfl, rfl, by decide, by rw [S_ln]; omega, fun p hp => ?_⟩
    refine ⟨p, rfl, ⟨_, SqL.of upd_same⟩, fun D hD => ?_⟩
    have s1 : Same H (upd H p (.lst ((Txt.split (S l) ".").map V.str))) := smN (Same.refl _) hp
    have few : (szs l).length ≤ 1001 := by unfold szs; omega
    refine lc_outL (xs := (Txt.split (S l) ".").map V.str) (outM fun i => V.int ((szs l).getD i 0 : Nat)) hD (SqL.of upd_same) outM_0 (fun i hi => by
        rw [outM_l]
        rw [List.length_map, hlen] at hi
        exact Nat.lt_of_lt_of_le (Nat.lt_of_lt_of_le hi few) (by decide)) (fun i x H2 Kc K0 e s2 kc k0 => ?_) (fun H2 s2 e2 => ?_)
    · rw [List.getElem?_map] at e
      cases q : (Txt.split (S l) ".")[i]? with
      | none => rw [q] at e; cases e
      | some y =>
        rw [q] at e
        cases e
        have e3 := key i y q
        have hy : y.length ≤ 1000 := by
          have m := PyProof.Rows.part_short (List.mem_of_getElem? q)
          rw [S_ln l] at m
          omega
        refine ⟨rfl, yes1 ?_⟩
        refine ⟨_, rfl, y, rfl, Nat.le_trans hy (by decide), kc _ _ (Same.refl _) ?_⟩
        rw [outM_s, List.getD_eq_getElem?_getD, e3] <;> rfl
    · have e4 : outM (fun i => V.int ((szs l).getD i 0 : Nat)) ((Txt.split (S l) ".").map V.str).length = nums (szs l) := outM_all (by rw [List.length_map, hlen]; unfold nums; rw [List.length_map]) fun i hi => by
        unfold nums
        rw [List.length_map, hlen] at hi
        rw [List.getElem?_map, List.getD_eq_getElem?_getD, List.getElem?_eq_getElem hi] <;> rfl
      rw [e4] at e2
      refine ⟨D, _, rfl, .inl ⟨SqL.of e2, fun q hq => ?_⟩⟩
      exact ret q _ (smN (s1.trans s2) hq) ((s1.trans s2).free hq) upd_same
theorem ok_bits_of (T : Txp K mg z) : FnOk P wo K mg base CX0 2 z.a_bits_of z.d_bits_of ["text"] spBits := by
  refine Fun.okT T.F_bits_of sc_bits_of (by decide +kernel) (by decide) (fun vs H Q E h => ?_) (fun cdv A outer s H vs Q E hr h => ?_)
  · obtain ⟨l, rfl, _⟩ := h
    rfl
  · obtain ⟨l, rfl, hl, ret⟩ := h
    refine ⟨_, CwR.psst_one (CwR.pst_ret (CwR.pet_replC (pv 0))), ?_⟩
    refine ⟨_, rfl, S l, rfl, ?_, ?_⟩
    · rw [S_ln]
      show l.length + (l.length + 1) * 0 ≤ 16777216
      omega
    · rw [replace_dots]
      exact ret
end
/-! instances of Pattern -/
def ptF (l : List Nat) (t : Addr) : List (Str × V) := [("_text", .str (S l)), ("_bits", .str (S (l.filter (fun c => c != 46)))), ("_sizes", .ref t)]
def PtI (C : Addr) (H : Hp) (a : Addr) (l : List Nat) : Prop := IsP l ∧ ∃ dx t, H a = some (.ins C dx (ptF l t)) ∧ H t = some (.tup (nums (szs l)))
theorem PtI.same {C : Addr} {H H' : Hp} {a : Addr} {l : List Nat} (h : PtI C H a l) (s : Same H H') : PtI C H' a l := by
  obtain ⟨hp, dx, t, h1, h2⟩ := h
  exact ⟨hp, dx, t, s _ _ h1, s _ _ h2⟩
theorem lkT {l : List Nat} {t : Addr} : (ptF l t).lookup ("_text" : Str) = some (.str (S l)) := by simp [ptF, List.lookup]
theorem ne_bt : (("_bits" : Str) == "_text") = false := by decide +kernel
theorem ne_st : (("_sizes" : Str) == "_text") = false := by decide +kernel
theorem ne_sb : (("_sizes" : Str) == "_bits") = false := by decide +kernel
theorem lkB {l : List Nat} {t : Addr} : (ptF l t).lookup ("_bits" : Str) = some (.str (S (l.filter (fun c => c != 46)))) := by simp [ptF, List.lookup, ne_bt]
theorem lkS {l : List Nat} {t : Addr} : (ptF l t).lookup ("_sizes" : Str) = some (.ref t) := by simp [ptF, List.lookup, ne_st, ne_sb]
theorem ne_tb : ¬ (("_text" : Str) = "_bits") := by decide +kernel
theorem ne_ts : ¬ (("_text" : Str) = "_sizes") := by decide +kernel
theorem ne_bs : ¬ (("_bits" : Str) = "_sizes") := by decide +kernel
theorem put3 {l : List Nat} {t : Addr} : putF "_sizes" (.ref t) (putF "_bits" (.str (S (l.filter (fun c => c != 46)))) (putF "_text" (.str (S l)) [])) = ptF l t := by
  simp [putF, ptF, ne_tb, ne_ts, ne_bs, Ne.symm]
def spInit (C : Addr) : Sp := fun vs H Q _ => ∃ a dx l, vs = [.ref a, .str (S l)] ∧ IsP l ∧ H a = some (.ins C dx []) ∧ ∀ t H', (∀ b o, b ≠ a → H b = some o → H' b = some o) → H' a = some (.ins C dx (ptF l t)) → H' t = some (.tup (nums (szs l))) → Q .non H'
def spStrP (C : Addr) : Sp := fun vs H Q _ => ∃ a l, vs = [.ref a] ∧ PtI C H a l ∧ Q (.str (S l)) H
def spGetS (C : Addr) : Sp := fun vs H Q _ => ∃ a l, vs = [.ref a] ∧ PtI C H a l ∧ ∀ t, H t = some (.tup (nums (szs l))) → Q (.ref t) H
def spEqP (C : Addr) : Sp := fun vs H Q _ => ∃ a l y, vs = [.ref a, y] ∧ PtI C H a l ∧ ((∃ b m, y = .ref b ∧ PtI C H b m ∧ Q (.bl (decide (l = m))) H) ∨ ((y = .non ∨ ∃ w, y = .str w) ∧ Q (.bl false) H))
def spCmpP (C cU : Addr) (r : List Nat → List Nat → Bool) : Sp := fun vs H Q E => ∃ a b l m, vs = [.ref a, .ref b] ∧ PtI C H a l ∧ PtI C H b m ∧ (if szs m = szs l then ∀ H', Same H H' → Q (.bl (r l m)) H' else ∀ H', Same H H' → E (.ref cU) none H')
def spBinP (C cU : Addr) (f : Nat → Nat → Nat) : Sp := fun vs H Q E => ∃ a b l m, vs = [.ref a, .ref b] ∧ PtI C H a l ∧ PtI C H b m ∧ (if szs m = szs l then ∀ p H', Same H H' → H p = none → PtI C H' p (zw f l m) → Q (.ref p) H' else ∀ H', Same H H' → E (.ref cU) none H')
theorem mk_pat {C : Addr} {H1 : Hp} {Q : VK} {E : XK} {l : List Nat} (hp : IsP l) (k : ∀ p H', Same H1 H' → H1 p = none → PtI C H' p l → Q (.ref p) H') :
    ∀ x dx, H1 x = none → H1 dx = none → dx ≠ x → spInit C [.ref x, .str (S l)] (upd (upd H1 dx (.own x)) x (.ins C dx [])) (fun v H2 => v = .non ∧ Q (.ref x) H2) E := by
  intro x dx hx hd ne
  refine ⟨x, dx, l, rfl, hp, upd_same, fun t H' keep ha ht => ⟨rfl, k x H' (fun b o e => keep b o (ne_of_none e hx) ?_) hx ⟨hp, dx, t, ha, ht⟩⟩⟩
  rw [upd_ne (ne_of_none e hx), upd_ne (ne_of_none e hd)]
  exact e
def rLt (l m : List Nat) : Bool := decide (l ≠ m) && below l m
def rGe (l m : List Nat) : Bool := below m l
def rGt (l m : List Nat) : Bool := decide (l ≠ m) && below m l
theorem kit_self {K : PySem.W.Frag} {C : Addr} : PySem.W.kitOne K (.ref C) (.ref C) = some true := by
  unfold PySem.W.kitOne
  simp
section
variable {K : PySem.W.Frag} {mg : Str → Option Value} {z : Pz}
theorem kit_sub (T : Txp K mg z) {n : String} (h : PySem.W.subIn K (.type n) (.ref z.C) = some false) : PySem.W.kitOne K (.type n) (.ref z.C) = some false := by
  obtain ⟨cd, c1, c2⟩ := T.ic
  unfold PySem.W.kitOne
  have e1 : (Value.type n == Value.ref z.C) = false := by rfl
  rw [e1, if_neg Bool.false_ne_true]
  unfold PySem.W.kitCls
  have e2 : ((PySem.W.clsIn K z.C).isSome && PySem.W.typeIn K (.ref z.C) == some (.type "type")) = true := by
    rw [c1, T.tyC] <;> rfl
  show (if ((PySem.W.clsIn K z.C).isSome && PySem.W.typeIn K (.ref z.C) == some (.type "type")) = true then PySem.W.subIn K (.type n) (.ref z.C) else none) = _
  rw [if_pos e2]
  exact h
theorem sub_str {C : Addr} : PySem.W.subIn K (.type "str") (.ref C) = some false := by
  have e : fastBuiltinMro "str" = some [.type "str", .type "object"] := by decide +kernel
  show (fastBuiltinMro "str").map (·.contains (.ref C)) = some false
  rw [e]
  first
    | rfl
    | simp
theorem PtI.ty (T : Txp K mg z) {H : Hp} {a : Addr} {l : List Nat} (h : PtI z.C H a l) : TyX K H (.ref a) (.ref z.C) := by
  obtain ⟨hp, dx, t, h1, h2⟩ := h
  exact .base (.ins h1 T.cls T.ca T.xb.hn T.xb.ht T.mo)
end
section
variable {P : Program} {wo : World} {K : PySem.W.Frag} {mg : Str → Option Value} {base : Heap} {z : Pz}
theorem ok_init (T : Txp K mg z) : FnOk P wo K mg base CX0 4 z.a_init z.d_init ["self", "text"] (spInit z.C) := by
  refine T.F_init.ok sc_Pattern_init (fun vs H Q E h => ?_) (fun cdv A outer s H vs Q E hr h => ?_)
  · obtain ⟨a, dx, l, rfl, _⟩ := h
    rfl
  · obtain ⟨a, dx, l, rfl, hp, ha, ret⟩ := h
    have hr2 : Room 3 _ := hr
    have hr1 : Room 2 _ := hr.mono (by decide)
    have hl := hp.len
    have G_need_pattern : FnOk P wo K mg base CX0 3 z.a_need_pattern z.d_need_pattern ["thing"] spNeed := ok_need_pattern T
    have G_sizes_of : FnOk P wo K mg base CX0 2 z.a_sizes_of z.d_sizes_of ["text"] spSizes := ok_sizes_of T
    have G_bits_of : FnOk P wo K mg base CX0 2 z.a_bits_of z.d_bits_of ["text"] spBits := ok_bits_of T
    refine ⟨_, (pss_cons (ps_expr (pe_call G_need_pattern hr2 rfl T.g_need_pattern T.k_need_pattern T.b_need_pattern .nil pass0 (pa_cons (pv 1) pa_nil)))
      (pss_cons (ps_fld (pv 0) (pv 1) rfl)
      (pss_cons (ps_fld (pv 0) (pe_call G_bits_of hr1 rfl T.g_bits_of T.k_bits_of T.b_bits_of .nil pass0 (pa_cons (pv 1) pa_nil)) rfl)
      (pss_one (ps_fld (pv 0) (pe_call G_sizes_of hr1 rfl T.g_sizes_of T.k_sizes_of T.b_sizes_of .nil pass0 (pa_cons (pv 1) pa_nil)) rfl))))), ?_⟩
    refine ⟨_, rfl, l, rfl, Nat.le_trans hl (by decide), hp.pf, fun H1 s1 => ?_⟩
    refine ⟨_, rfl, _, rfl, a, z.C, dx, _, rfl, s1 _ _ ha, T.cls, T.na_text, by decide, ?_⟩
    refine ⟨_, rfl, l, rfl, by omega, ?_⟩
    refine ⟨_, rfl, a, z.C, dx, _, rfl, upd_same, T.cls, T.na_bits, ?_, ?_⟩
    · exact Nat.lt_of_le_of_lt (length_putF _ _ _) (by decide)
    refine ⟨_, rfl, l, rfl, by omega, fun t H2 s2 hn ht => ?_⟩
    refine ⟨_, rfl, a, z.C, dx, _, rfl, s2 _ _ upd_same, T.cls, T.na_sizes, ?_, ?_⟩
    · exact Nat.lt_of_le_of_lt (length_putF _ _ _) (Nat.lt_of_le_of_lt (Nat.succ_le_succ (length_putF _ _ _)) (by decide))
    have nt : t ≠ a := fun e => by
      subst e
      have h2 := s2 _ _ upd_same
      rw [ht] at h2
      cases h2
    rw [put3]
    refine ret t _ (fun b o nb e => ?_) upd_same (by rw [upd_ne nt]; exact ht)
    rw [upd_ne nb]
    refine s2 _ _ ?_
    rw [upd_ne nb, upd_ne nb]
    exact s1 _ _ e
theorem ok_str (T : Txp K mg z) : FnOk P wo K mg base CX0 2 z.a_str z.d_str ["self"] (spStrP z.C) := by
  refine T.F_str.ok sc_Pattern_str (fun vs H Q E h => ?_) (fun cdv A outer s H vs Q E hr h => ?_)
  · obtain ⟨a, l, rfl, _⟩ := h
    rfl
  · obtain ⟨a, l, rfl, ⟨hp, dx, t, h1, h2⟩, ret⟩ := h
    refine ⟨_, (pss_one (ps_ret (pe_callTy SkE.call_str_str (by rfl) T.n_str (by decide +kernel) (pa_cons (pe_fld (pv 0) rfl) pa_nil)))), ?_⟩
    exact ⟨_, rfl, a, z.C, dx, _, _, rfl, h1, T.cls, T.na_text, lkT, _, rfl, ret⟩
end
end Fb
-- bumped
set_option maxRecDepth 100000
set_option maxHeartbeats 4000000
namespace Fb
open PySem PySem.Spec PyProof.Rows L2
open SX (S)
/-- is this value a whole number? -/
def Wh (K : PySem.W.Frag) (H : Hp) (x : V) (r : Option Int) : Prop := (∃ i, x = .int i ∧ r = some i) ∨ (∃ b, x = .bl b ∧ r = none) ∨ ∃ t, TyX K H x t ∧ PySem.W.kitOne K t (.type "int") = some false ∧ r = none
theorem Wh.same {K : PySem.W.Frag} {H H' : Hp} {x : V} {r : Option Int} (s : Same H H') (h : Wh K H x r) : Wh K H' x r := by
  rcases h with h | h | ⟨t, h1, h2⟩
  · exact .inl h
  · exact .inr (.inl h)
  · exact .inr (.inr ⟨t, tyX_same s h1, h2⟩)
/-- .. from 0 to m - 1? -/
def inR (m : Int) : Option Int → Bool
  | some i => decide (0 ≤ i) && decide (i < m)
  | none => false
def spWhole (K : PySem.W.Frag) : Sp := fun vs H Q _ => ∃ x r, vs = [x] ∧ Wh K H x r ∧ Q (.bl r.isSome) H
def spNumber (K : PySem.W.Frag) : Sp := fun vs H Q _ => ∃ x m r, vs = [x, .int m] ∧ Wh K H x r ∧ Q (.bl (inR m r)) H
def spNeedB (K : PySem.W.Frag) (cB : Addr) : Sp := fun vs H Q E => ∃ q m xs rs, vs = [.ref q, .int m] ∧ H q = some (.lst xs) ∧ Paired (Wh K H) xs rs ∧ xs.length ≤ 1000 ∧ (if rs.all (inR m) = true then ∀ H', Same H H' → Q .non H' else ∀ H', Same H H' → E (.ref cB) none H')
theorem pairedAt {α β : Type} {R : α → β → Prop} : ∀ {a : List α} {c : List β} {i : Nat} {x : α}, Paired R a c → a[i]? = some x → ∃ y, c[i]? = some y ∧ R x y
  | _, _, _, _, .nil, e => by simp at e
  | _, _, 0, _, .cons r _, e => by simp at e; subst e; exact ⟨_, rfl, r⟩
  | _, _, i + 1, _, .cons _ t, e => by
    obtain ⟨x, h1, h2⟩ := pairedAt (i := i) t (by simpa using e)
    exact ⟨x, by simpa using h1, h2⟩
section
variable {P : Program} {wo : World} {K : PySem.W.Frag} {mg : Str → Option Value} {base : Heap} {z : Pz}
theorem ok_is_whole (T : Txp K mg z) : FnOk P wo K mg base CX0 2 z.a_is_whole z.d_is_whole ["thing"] (spWhole K) := by
  refine T.F_is_whole.ok sc_is_whole (fun vs H Q E h => ?_) (fun cdv A outer s H vs Q E hr h => ?_)
  · obtain ⟨x, r, rfl, _⟩ := h
    rfl
  · obtain ⟨x, r, rfl, hw, ret⟩ := h
    refine ⟨_, (pss_one (ps_ret (pe_and (pe_callB call_isi (by rfl) T.n_isinstance boot_isinstance (pa_cons (pv 0) (pa_cons (pe_bltn (v := .ty "int") rfl T.n_int (by decide +kernel) rfl) pa_nil))) (pe_one (pe_not (pe_callB call_isi (by rfl) T.n_isinstance boot_isinstance (pa_cons (pv 0) (pa_cons (pe_bltn (v := .ty "bool") rfl T.n_bool (by decide +kernel) rfl) pa_nil)))))))), ?_⟩
    rcases hw with ⟨i, rfl, rfl⟩ | ⟨b, rfl, rfl⟩ | ⟨t, h1, h2, rfl⟩
    · refine ⟨_, rfl, _, _, _, _, true, rfl, .ty "int", .base (.int _), kit_ty (by decide +kernel), true, rfl, iteT ?_⟩
      exact ⟨_, rfl, _, _, _, _, false, rfl, .ty "bool", .base (.int _), kit_ty (by decide +kernel), false, rfl, ret⟩
    · refine ⟨_, rfl, _, _, _, _, true, rfl, .ty "int", .base (.bl _), kit_ty (by decide +kernel), true, rfl, iteT ?_⟩
      exact ⟨_, rfl, _, _, _, _, true, rfl, .ty "bool", .base (.bl _), kit_ty (by decide +kernel), true, rfl, ret⟩
    · exact ⟨_, rfl, _, _, _, _, false, rfl, .ty "int", h1, h2, false, rfl, iteF ret⟩
theorem ok_is_number (T : Txp K mg z) : FnOk P wo K mg base CX0 3 z.a_is_number z.d_is_number ["thing", "many"] (spNumber K) := by
  refine T.F_is_number.ok sc_is_number (fun vs H Q E h => ?_) (fun cdv A outer s H vs Q E hr h => ?_)
  · obtain ⟨x, m, r, rfl, _⟩ := h
    rfl
  · obtain ⟨x, m, r, rfl, hw, ret⟩ := h
    have hr1 : Room 2 _ := hr
    have G_is_whole : FnOk P wo K mg base CX0 2 z.a_is_whole z.d_is_whole ["thing"] (spWhole K) := ok_is_whole T
    refine ⟨_, (pss_one (ps_ret (pe_and (pe_call G_is_whole hr1 rfl T.g_is_whole T.k_is_whole T.b_is_whole .nil pass0 (pa_cons (pv 0) pa_nil)) (pe_one (pe_chain op_le op_lt pe_int (pv 0) (pv 1)))))), ?_⟩
    refine ⟨_, rfl, x, r, rfl, hw, _, rfl, ?_⟩
    cases r with
    | none => exact iteF ret
    | some i =>
      refine iteT ?_
      obtain rfl : x = .int i := by
        rcases hw with ⟨j, rfl, e⟩ | ⟨b, rfl, e⟩ | ⟨t, h1, h2, e⟩
        · cases e; rfl
        · cases e
        · cases e
      refine ⟨_, rfl, 0, i, rfl, rfl, _, rfl, ?_⟩
      by_cases h0 : 0 ≤ i
      · rw [decide_eq_true h0]
        refine iteT ⟨_, rfl, i, m, rfl, rfl, ?_⟩
        have e : inR m (some i) = decide (i < m) := by show (decide (0 ≤ i) && decide (i < m)) = _; rw [decide_eq_true h0] <;> simp
        rw [e] at ret
        exact ret
      · rw [decide_eq_false h0]
        refine iteF ?_
        have e : inR m (some i) = false := by show (decide (0 ≤ i) && decide (i < m)) = _; rw [decide_eq_false h0] <;> simp
        rw [e] at ret
        exact ret
theorem ok_need_bits (T : Txp K mg z) : FnOk P wo K mg base (L2.CX P wo) 4 z.a_need_bits z.d_need_bits ["thing", "many"] (spNeedB K z.cNoBit) := by
  refine T.F_need_bits.okX sc_need_bits (fun vs H Q E h => ?_) (fun cdv A outer s H vs Q E hr h => ?_)
  · obtain ⟨q, m, xs, rs, rfl, _⟩ := h
    rfl
  · obtain ⟨q, m, xs, rs, rfl, hq, hp, hl, ret⟩ := h
    have hr2 : Room 3 _ := hr
    have G_is_number : FnOk P wo K mg base CX0 3 z.a_is_number z.d_is_number ["thing", "many"] (spNumber K) := ok_is_number T
    refine ⟨_, (pss_one (ps_if (PW.pt (pw_or (pt_not (pt_val (pe_callB call_isi (by rfl) T.n_isinstance boot_isinstance (pa_cons (pv 0) (pa_cons (pe_bltn (v := .ty "list") rfl T.n_list (by decide +kernel) rfl) pa_nil))))) (pw_or1 (pt_not (pt_val (pe_callB (cr_all rfl) (by rfl) T.n_all (by decide +kernel) (pa_cons (by refine' pe_lc (own := [("bit", 2)]) (tt := tYes) rfl sc_need_bits.nd ?hi (blkOk_by (N := ["thing", "many", "bit"]) (sc := defScope s_need_bits) (by first | decide +kernel | kernel_rfl | rfl)) ?hg ?ht ?he (by intro _; rfl); (case hi => exact (pi_list (pv 0))); (case hg => exact fun _ _ _ _ _ => (pg_name (i := 2) sc_need_bits.nd rfl (Or.inl rfl))); (case ht => exact fun _ _ _ _ _ => pts_nil); (case he => exact fun _ _ _ _ _ => (pe_call G_is_number hr2 rfl T.g_is_number T.k_is_number T.b_is_number .nil pass0 (pa_cons (pv 2) (pa_cons (pv 1) pa_nil))))) pa_nil)))))))
        (pss_one (ps_raise rfl (takes_of rfl rfl rfl rfl) (pmk_own PySem.F.excBase_ValueError T.eNoBit T.xNoBit.g T.xNoBit.kp (raises_own T.xNoBit.xc.sb T.xNoBit.ty) rfl)))
        pss_nil)), ?_⟩
    refine ⟨_, rfl, _, _, _, _, true, rfl, .ty "list", .base (.lst hq), kit_ty (by decide +kernel), true, rfl, ?_⟩
    refine iteF ?_
    refine ⟨_, rfl, q, rfl, ⟨_, SqL.of hq⟩, fun D hD => ?_⟩
    refine lc_outL (xs := xs) (outM fun i => V.bl (inR m (rs.getD i none))) hD (SqL.of hq) outM_0 (fun i hi => by rw [outM_l]; exact small1 i (by omega)) (fun i x H2 Kc K0 e s2 kc k0 => ?_) (fun H2 s2 e2 => ?_)
    · obtain ⟨r, er, hr⟩ := pairedAt hp e
      have ed : rs.getD i none = r := by rw [List.getD_eq_getElem?_getD, er] <;> rfl
      refine ⟨rfl, yes1 ?_⟩
      refine ⟨_, rfl, _, rfl, x, m, r, rfl, hr.same s2, kc _ _ (Same.refl _) ?_⟩
      rw [outM_s, ed]
    · have lr : xs.length = rs.length := hp.length
      have e3 : outM (fun i => V.bl (inR m (rs.getD i none))) xs.length = (rs.map (inR m)).map V.bl := outM_all (by rw [List.length_map, List.length_map, lr]) fun i hi => by
        have : rs[i]? = some rs[i] := List.getElem?_eq_getElem (by omega)
        rw [List.getElem?_map, List.getElem?_map, List.getD_eq_getElem?_getD, this] <;> rfl
      rw [e3] at e2
      refine ⟨D, rs.map (inR m), rfl, SqL.of e2, ?_⟩
      have e4 : (rs.map (inR m)).all id = rs.all (inR m) := by rw [List.all_map] <;> rfl
      rw [e4]
      refine ⟨_, rfl, ?_⟩
      cases c : rs.all (inR m) with
      | true =>
        rw [c, if_pos rfl] at ret
        exact iteF (ret _ s2)
      | false =>
        rw [c, if_neg Bool.false_ne_true] at ret
        exact iteT (ret _ s2)
end
end Fb
-- bumped
set_option maxRecDepth 100000
set_option maxHeartbeats 4000000
namespace Fb
open PySem PySem.Spec PyProof.Rows L2
open SX (S)
/-- NoPattern with this field leaves -/
def OutNP (C : Addr) (H : Hp) (E : XK) (k : Nat) : Prop := ∀ d H', Same H H' → H' d = some (.xd [("at", .int (k : Nat))]) → E (.ref C) (some d) H'
theorem OutNP.later {C : Addr} {H H1 : Hp} {E : XK} {k : Nat} (h : OutNP C H E k) (s : Same H H1) : OutNP C H1 E k := fun d H' s' e => h d H' (s.trans s') e
def spPlaces : Sp := fun vs H Q _ => ∃ l, vs = [.str (S l)] ∧ l.length ≤ 1000 ∧ ∀ p H', Same H H' → H p = none → H' p = some (.lst (nums (plc l))) → Q (.ref p) H'
def spWFall (K : PySem.W.Frag) : Sp := fun vs H Q _ => ∃ l q bs, vs = [.str (S l), .ref q] ∧ l.length ≤ 1000 ∧ SqL K H q (nums bs) ∧ (∀ b ∈ bs, b < (bt l).length) ∧ ∀ H', Same H H' → Q (.str (S (fl 48 l bs))) H'
def spWEr : Sp := fun vs H Q _ => ∃ l k s, vs = [.str (S l), .int (k : Nat)] ∧ l.length ≤ 1000 ∧ (szs l)[k]? = some s ∧ ∀ H', Same H H' → Q (.str (S (jn (szs l) (upB 49 ((szs l).take k).sum s (bt l))))) H'
theorem outM_sgn {l : List Nat} {i : Nat} (h : i < l.length) : sgn (S l) i = S [l.getD i 0] := by
  have e : l[i]? = some l[i] := List.getElem?_eq_getElem h
  rw [show sgn (S l) i = S [l[i]] from S_sgn e, List.getD_eq_getElem?_getD, e] <;> rfl
section
variable {P : Program} {wo : World} {K : PySem.W.Frag} {mg : Str → Option Value} {base : Heap} {z : Pz}
theorem ok_places_of (T : Txp K mg z) : FnOk P wo K mg base CX0 2 z.a_places_of z.d_places_of ["text"] spPlaces := by
  refine T.F_places_of.ok sc_places_of (fun vs H Q E h => ?_) (fun cdv A outer s H vs Q E hr h => ?_)
  · obtain ⟨l, rfl, _⟩ := h
    rfl
  · obtain ⟨l, rfl, hl, ret⟩ := h
    refine ⟨_, (pss_one (ps_ret (by refine' pe_lc (own := [("place", 1), ("sign", 2)]) (g := gTup K 2 (gCons (gName 1) (gCons (gName 2) gNil))) rfl sc_places_of.nd ?hi (blkOk_by (N := ["text", "place", "sign"]) (sc := defScope s_places_of) (by first | decide +kernel | kernel_rfl | rfl)) ?hg ?ht ?he (by intro _; rfl); (case hi => exact (pi_enumS rfl T.n_enumerate (pa_cons (pv 0) pa_nil))); (case hg => exact fun _ _ _ _ _ => (pg_tup rfl (pgs_cons (pg_name (i := 1) sc_places_of.nd rfl (Or.inl rfl) (.inr rfl)) (pgs_cons (pg_name (i := 2) sc_places_of.nd rfl (Or.inl rfl) (.inr rfl)) pgs_nil)))); (case ht => exact fun _ _ _ _ _ => (pts_one (pt_cmpR op_ne (pv 2) pe_str (nomark _)))); (case he => exact fun _ _ _ _ _ => (pv 1))))), ?_⟩
    refine ⟨_, rfl, S l, rfl, fun D hD => ?_⟩
    rw [S_sz]
    refine lc_outT (outF (fun i => l.getD i 0 != 46) fun i => V.int (i : Nat)) hD outF_0 (fun i hi => Nat.lt_of_le_of_lt outF_l (small1 i (by omega))) (fun i Tu H2 Kc K0 lt s2 hT kc k0 => ?_) (fun H2 s2 e2 => ?_)
    · rw [outM_sgn lt] at hT
      refine ⟨Tu, _, rfl, SqT.of hT, rfl, ?_⟩
      refine ⟨_, _, rfl, ?_⟩
      refine ⟨_, _, rfl, ?_⟩
      refine ⟨rfl, ?_⟩
      refine ⟨rfl, ?_⟩
      refine ⟨_, rfl, rfl, _, rfl, ?_⟩
      rw [S_d]
      by_cases h : l.getD i 0 = 46
      · rw [decide_eq_true (show V.str (S [l.getD i 0]) = V.str (S [46]) by rw [h])]
        refine iteNo (k0 _ (Same.refl _) (outF_f ?_))
        show (l.getD i 0 != 46) = false
        rw [h] <;> rfl
      · rw [decide_eq_false (fun q => h (by simpa using S_eq.mp q))]
        refine iteT ?_
        exact ⟨_, rfl, kc _ _ (Same.refl _) (outF_t (show (l.getD i 0 != 46) = true by simpa using h))⟩
    · refine ret D _ s2 hD ?_
      rw [e2]
      unfold nums plc outF
      rfl
theorem ok_with_fallen (T : Txp K mg z) : FnOk P wo K mg base CX0 3 z.a_with_fallen z.d_with_fallen ["text", "bits"] (spWFall K) := by
  refine T.F_with_fallen.ok sc_with_fallen (fun vs H Q E h => ?_) (fun cdv A outer s H vs Q E hr h => ?_)
  · obtain ⟨l, q, bs, rfl, _⟩ := h
    rfl
  · obtain ⟨l, q, bs, rfl, hl, hq, hb, ret⟩ := h
    have hr1 : Room 2 _ := hr
    have G_places_of : FnOk P wo K mg base CX0 2 z.a_places_of z.d_places_of ["text"] spPlaces := ok_places_of T
    refine ⟨_, (pss_cons (ps_set (i := 2) sc_with_fallen.nd rfl (Or.inl rfl) (pe_call G_places_of hr1 rfl T.g_places_of T.k_places_of T.b_places_of .nil pass0 (pa_cons (pv 0) pa_nil)))
      (pss_cons (ps_set (i := 3) sc_with_fallen.nd rfl (Or.inl rfl) (pe_callTy (call_listS rfl) (by rfl) T.n_list (by decide +kernel) (pa_cons (pv 0) pa_nil)))
      (pss_cons (ps_for PassesOwn.never rfl (pi_list (pv 1)) (pg_name (i := 4) sc_with_fallen.nd rfl (Or.inl rfl))
        (pss_one (ps_asg pe_str (pg_sub (pv 3) (pe_ix ix_list (pv 2) (pv 4) (fun _ _ => rfl)) set_list))))
      (pss_one (ps_ret (pe_joinK (K := K) rfl pe_str (pa_cons (pv 3) pa_nil))))))), ?_⟩
    refine ⟨_, rfl, l, rfl, hl, fun p H1 s1 np hp => ?_⟩
    refine ⟨_, rfl, l, rfl, Nat.le_trans hl (by decide), fun t ht => ?_⟩
    have s2 := smN (o := .lst (sgV l)) s1 ht
    have hp2 := smN (o := .lst (sgV l)) (Same.refl _) ht p _ hp
    have ntp : t ≠ p := fun e => by rw [e, hp] at ht; cases ht
    refine ⟨_, rfl, q, rfl, ⟨_, s2.seq hq⟩, ?_⟩
    refine for_list (K := K) (a := q) (xs := nums bs) (fun i σ H' => Same H H' ∧ (∃ x4, σ = [some (.str (S l)), some (.ref q), some (.ref p), some (.ref t), x4]) ∧ H' p = some (.lst (nums (plc l))) ∧ H t = none ∧
      H' t = some (.lst (sgV ((bs.take i).foldl (fun m b => m.set ((plc l).getD b 0) 48) l)))) ⟨s2, ⟨_, rfl⟩, hp2, s1.free ht, upd_same⟩ (fun i σ H' _ h => h.1.seq hq) ?_ ?_
    · rintro i x σ H2 e ⟨s3, ⟨x4, rfl⟩, hp3, nt, ht3⟩
      unfold nums at e
      rw [List.getElem?_map] at e
      cases eb : bs[i]? with
      | none => rw [eb] at e; cases e
      | some b =>
        rw [eb] at e
        cases e
        have lb := hb b (List.mem_of_getElem? eb)
        have lb2 : b < (plc l).length := by rw [plc_len]; exact lb
        have ep : (plc l)[b]? = some ((plc l).getD b 0) := by rw [List.getElem?_eq_getElem lb2, List.getD_eq_getElem?_getD, List.getElem?_eq_getElem lb2] <;> rfl
        have lp : (plc l).getD b 0 < l.length := plc_lt (List.mem_of_getElem? ep)
        have fb := (fl_go (x := 48) (.inl rfl) (bs := bs.take i) (m := l) (p := plc l) rfl (fun b hb' => hb b (List.mem_of_mem_take hb'))).2.2.2
        refine ⟨_, rfl, _, rfl, _, rfl, p, nums (plc l), (b : Int), .int ((plc l).getD b 0 : Nat), rfl, rfl, SqL.of hp3, atI_nat (by unfold nums; rw [List.getElem?_map, ep] <;> rfl), ?_⟩
        refine ⟨t, _, ((plc l).getD b 0 : Nat), _, rfl, rfl, ht3, ixN_at (by rw [List.length_map, fb]; exact lp), ?_⟩
        refine ⟨fun c o eo => ?_, ⟨_, rfl⟩, by rw [upd_ne (Ne.symm ntp)]; exact hp3, nt, ?_⟩
        · rw [upd_ne (ne_of_none eo nt)]
          exact s3 c o eo
        · rw [upd_same, take_s eb, List.foldl_append, List.foldl_cons, List.foldl_nil, S_0]
          show some (HO.lst ((List.map _ _).set _ _)) = some (HO.lst (List.map _ _))
          rw [List.map_set]
    · rintro σ H2 ⟨s3, ⟨x4, rfl⟩, hp3, nt, ht3⟩
      have en : (nums bs).length = bs.length := by unfold nums; rw [List.length_map]
      rw [en, List.take_length] at ht3
      have fb := (fl_ok (x := 48) (l := l) (bs := bs) (.inl rfl) hb).2.2.2
      refine ⟨rfl, _, rfl, "", t, (fl 48 l bs).map fun c => S [c], rfl, rfl, .inl (SqL.of (by rw [ht3, List.map_map] <;> rfl)), ?_, ?_⟩
      · rw [List.map_map, sum_signs, List.length_map]
        show _ + _ * 0 ≤ _
        omega
      · rw [join_signs]
        exact ret _ s3
theorem ok_with_erased (T : Txp K mg z) : FnOk P wo K mg base CX0 2 z.a_with_erased z.d_with_erased ["text", "block"] spWEr := by
  refine T.F_with_erased.ok sc_with_erased (fun vs H Q E h => ?_) (fun cdv A outer s H vs Q E hr h => ?_)
  · obtain ⟨l, k, s', rfl, _⟩ := h
    rfl
  · obtain ⟨l, k, s', rfl, hl, hk, ret⟩ := h
    have ls := bt_sum l
    have lb : (bt l).length ≤ l.length := List.length_filter_le _ _
    have cl : (cut (szs l) (bt l)).length = (szs l).length := cut_len _ _
    have sl := szA_len l 0
    have hkl := (List.getElem?_eq_some_iff.mp hk).1
    obtain ⟨pt, ek⟩ : ∃ pt, (cut (szs l) (bt l))[k]? = some pt := ⟨_, List.getElem?_eq_getElem (by rw [cl]; exact hkl)⟩
    have lpt : pt.length = s' := by
      have := cut_lens (ss := szs l) (b := bt l) (by omega)
      have e := congrArg (fun x => x[k]?) this
      rw [List.getElem?_map, ek, hk] at e
      simpa using e
    have hs : s' ≤ 1000 := by
      rw [← lpt]
      have := cut_flat (ss := szs l) (b := bt l) (by omega)
      have h2 : pt.length ≤ (cut (szs l) (bt l)).flatten.length := (List.sublist_flatten_of_mem (List.mem_of_getElem? ek)).length_le
      rw [this] at h2
      omega
    refine ⟨_, (pss_cons (ps_set (i := 2) sc_with_erased.nd rfl (Or.inl rfl) (pe_bm PySem.F.plainAttrs_str PySem.F.slot_str_split PySem.F.type_str_split mt_split (pv 0) (pa_cons pe_str pa_nil)))
      (pss_cons (ps_asg (pe_op op_repS pe_str (pe_callB call_len_str (by rfl) T.n_len (by decide +kernel) (pa_cons (pe_ix ix_list (pv 2) (pv 1) (fun _ _ => rfl)) pa_nil))) (pg_sub (pv 2) (pv 1) set_list))
      (pss_one (ps_ret (pe_joinK (K := K) rfl pe_str (pa_cons (pv 2) pa_nil)))))), ?_⟩
    refine ⟨_, rfl, rfl, S l, ".", rfl, rfl, by decide, by rw [S_ln]; exact Nat.le_trans (show l.length + 2 ≤ 1002 by omega) (by decide), fun p hp => ?_⟩
    rw [split_cut]
    have s1 : Same H (upd H p (.lst (((cut (szs l) (bt l)).map S).map V.str))) := smN (Same.refl _) hp
    refine ⟨_, rfl, _, rfl, p, _, (k : Int), .str (S pt), rfl, rfl, SqL.of upd_same, atI_nat (by rw [List.getElem?_map, List.getElem?_map, ek] <;> rfl), ?_⟩
    refine ⟨S pt, rfl, by rw [S_ln]; exact Nat.le_trans (show pt.length ≤ 1000 by omega) (by decide), ?_⟩
    rw [S_ln, lpt]
    refine ⟨49, s', by rw [S_1] <;> rfl, rfl, by omega, ?_⟩
    refine ⟨_, rfl, _, rfl, p, _, (k : Int), k, rfl, rfl, upd_same, ixN_at (by rw [List.length_map, List.length_map, cl]; exact hkl), ?_⟩
    refine ⟨rfl, _, rfl, ".", p, (cut (szs l) (upB 49 ((szs l).take k).sum s' (bt l))).map S, rfl, rfl, .inl (SqL.of ?_), ?_, ?_⟩
    · rw [upd_same, ← cut_set hk (by omega), List.map_set, List.map_set]
    · have e1 : (((cut (szs l) (upB 49 ((szs l).take k).sum s' (bt l))).map S).map fun w => w.length).sum = (szs l).sum := by
        rw [SX.lens, cut_lens]
        have hle : ((szs l).take k).sum + s' ≤ (szs l).sum := by
          have e := List.take_append_drop k (szs l)
          have e2 : (szs l).drop k = s' :: (szs l).drop (k + 1) := by
            rw [List.drop_eq_getElem_cons hkl]
            congr 1
            exact (List.getElem?_eq_some_iff.mp hk).2
          have e3 := congrArg List.sum e
          rw [List.sum_append, e2, List.sum_cons] at e3
          omega
        rw [upB_len (by omega)]
        omega
      rw [e1, List.length_map, cut_len]
      unfold szs at *
      show _ + _ * 1 ≤ _
      omega
    · rw [join_cut]
      refine ret _ (fun c o eo => ?_)
      have ncp := ne_of_none eo hp
      rw [upd_ne ncp, upd_ne ncp]
      exact eo
end
end Fb
-- bumped
set_option maxRecDepth 100000
set_option maxHeartbeats 4000000
namespace Fb
open PySem PySem.Spec PyProof.Rows L2
open SX (S)
def whp : Option Int → Bool
  | some i => decide (1 ≤ i)
  | none => false
/-- sizes of a pattern, or not -/
def szT (rs : List (Option Int)) : Bool := decide (1 ≤ (rs.length : Int)) && (decide ((rs.length : Int) ≤ 3) && (rs.all whp && decide ((rs.map fun r => r.getD 0).sum ≤ 120)))
def spCan (K : PySem.W.Frag) : Sp := fun vs H Q _ => ∃ t xs rs, vs = [.ref t] ∧ SqT K H t xs ∧ Paired (Wh K H) xs rs ∧ rs.length ≤ 1000 ∧ ∀ H', Same H H' → Q (.bl (szT rs)) H'
def spFallen (K : PySem.W.Frag) (C cB : Addr) : Sp := fun vs H Q E => ∃ a l q xs rs, vs = [.ref a, .ref q] ∧ PtI C H a l ∧ H q = some (.lst xs) ∧ Paired (Wh K H) xs rs ∧ xs.length ≤ 1000 ∧
  (if rs.all (inR ((bt l).length : Nat)) = true then ∀ bs : List Nat, xs = nums bs → (∀ b ∈ bs, b < (bt l).length) → ∀ p H', Same H H' → H p = none → PtI C H' p (fl 48 l bs) → Q (.ref p) H' else ∀ H', Same H H' → E (.ref cB) none H')
def spErased (K : PySem.W.Frag) (C cB : Addr) : Sp := fun vs H Q E => ∃ a l x r, vs = [.ref a, x] ∧ PtI C H a l ∧ Wh K H x r ∧
  (if inR ((szs l).length : Nat) r = true then ∀ k s, x = .int (k : Nat) → (szs l)[k]? = some s → ∀ p H', Same H H' → H p = none → PtI C H' p (jn (szs l) (upB 49 ((szs l).take k).sum s (bt l))) → Q (.ref p) H' else ∀ H', Same H H' → E (.ref cB) none H')
def spItem (K : PySem.W.Frag) (C cB : Addr) : Sp := fun vs H Q E => ∃ a l x r, vs = [.ref a, x] ∧ PtI C H a l ∧ Wh K H x r ∧
  (if inR ((bt l).length : Nat) r = true then ∀ k c, x = .int (k : Nat) → (bt l)[k]? = some c → ∀ H', Same H H' → Q (.int (c - 48 : Nat)) H' else ∀ H', Same H H' → E (.ref cB) none H')
def spHas (K : PySem.W.Frag) (C : Addr) : Sp := fun vs H Q _ => ∃ a l x r, vs = [.ref a, x] ∧ PtI C H a l ∧ Wh K H x r ∧
  (if inR ((bt l).length : Nat) r = true then ∀ k c, x = .int (k : Nat) → (bt l)[k]? = some c → ∀ H', Same H H' → Q (.bl (decide (c = 49))) H' else ∀ H', Same H H' → Q (.bl false) H')
def spGetI (C : Addr) (f : List Nat → V) : Sp := fun vs H Q _ => ∃ a l, vs = [.ref a] ∧ PtI C H a l ∧ Q (f l) H
def spFull (K : PySem.W.Frag) (C cN : Addr) : Sp := fun vs H Q E => ∃ t xs rs, vs = [.ref C, .ref t] ∧ H t = some (.tup xs) ∧ Paired (Wh K H) xs rs ∧ rs.length ≤ 1000 ∧
  (if szT rs = true then ∀ ss : List Nat, xs = nums ss → 1 ≤ ss.length → ss.length ≤ 3 → (∀ s ∈ ss, 1 ≤ s) → ss.sum ≤ 120 → ∀ p H', Same H H' → H p = none → PtI C H' p (jn ss (List.replicate ss.sum 49)) → Q (.ref p) H' else OutNP cN H E 0)
theorem whole_in {K : PySem.W.Frag} {H : Hp} {x : V} {r : Option Int} {m : Nat} (h : Wh K H x r) (e : inR (m : Nat) r = true) : ∃ k : Nat, x = .int (k : Nat) ∧ k < m ∧ r = some (k : Int) := by
  rcases h with ⟨i, rfl, rfl⟩ | ⟨b, rfl, rfl⟩ | ⟨t, _, _, rfl⟩
  · have e2 : (decide (0 ≤ i) && decide (i < (m : Int))) = true := e
    rw [Bool.and_eq_true, decide_eq_true_eq, decide_eq_true_eq] at e2
    exact ⟨i.toNat, by rw [Int.toNat_of_nonneg e2.1], by omega, by rw [Int.toNat_of_nonneg e2.1]⟩
  · cases e
  · cases e
theorem wholes_in {K : PySem.W.Frag} {H : Hp} {m : Nat} : ∀ {xs : List V} {rs : List (Option Int)}, Paired (Wh K H) xs rs → rs.all (inR (m : Nat)) = true → ∃ bs : List Nat, xs = nums bs ∧ ∀ b ∈ bs, b < m
  | _, _, .nil, _ => ⟨[], rfl, fun b hb => by simp at hb⟩
  | _, _, .cons h t, e => by
    rw [List.all_cons, Bool.and_eq_true] at e
    obtain ⟨k, rfl, hk, _⟩ := whole_in h e.1
    obtain ⟨bs, rfl, hb⟩ := wholes_in t e.2
    exact ⟨k :: bs, rfl, fun b hb' => by rcases List.mem_cons.mp hb' with q | q; exact q ▸ hk; exact hb b q⟩
theorem whole_p {K : PySem.W.Frag} {H : Hp} : ∀ {xs : List V} {rs : List (Option Int)}, Paired (Wh K H) xs rs → rs.all whp = true → ∃ bs : List Nat, xs = nums bs ∧ (∀ b ∈ bs, 1 ≤ b) ∧ (rs.map fun r => r.getD 0) = bs.map fun b : Nat => (b : Int)
  | _, _, .nil, _ => ⟨[], rfl, (fun b hb => by simp at hb), rfl⟩
  | _, _, .cons h t, e => by
    rw [List.all_cons, Bool.and_eq_true] at e
    obtain ⟨bs, rfl, hb, eb⟩ := whole_p t e.2
    rcases h with ⟨i, rfl, rfl⟩ | ⟨b, rfl, rfl⟩ | ⟨t, _, _, rfl⟩
    · have e2 : 1 ≤ i := of_decide_eq_true (show decide (1 ≤ i) = true from e.1)
      refine ⟨i.toNat :: bs, ?_, fun b hb' => ?_, ?_⟩
      · show V.int i :: nums bs = V.int (i.toNat : Nat) :: nums bs
        rw [Int.toNat_of_nonneg (by omega)]
      · rcases List.mem_cons.mp hb' with q | q
        · omega
        · exact hb b q
      · show i :: _ = ((i.toNat : Nat) : Int) :: _
        rw [Int.toNat_of_nonneg (by omega), eb] <;> rfl
    · cases e.1
    · cases e.1
theorem sum_cast : ∀ bs : List Nat, (bs.map fun b : Nat => (b : Int)).sum = (bs.sum : Nat)
  | [] => rfl
  | b :: bs => by
    rw [List.map_cons, List.sum_cons, sum_cast bs, List.sum_cons]
    omega
theorem PtI.fld {C : Addr} {H : Hp} {a : Addr} {l : List Nat} (h : PtI C H a l) : ∃ dx t, H a = some (.ins C dx (ptF l t)) ∧ H t = some (.tup (nums (szs l))) := h.2
theorem bt_len {l : List Nat} (h : IsP l) : (bt l).length ≤ 120 := h.sum
section
variable {P : Program} {wo : World} {K : PySem.W.Frag} {mg : Str → Option Value} {base : Heap} {z : Pz}
theorem ok_npi (T : Txp K mg z) : FnOk P wo K mg base CX0 2 z.a_npi z.d_npi ["self", "at"] (spI1 z.cNoPattern "at") := by
  refine T.F_npi.ok sc_NoPattern_init (fun vs H Q E h => ?_) (fun cdv A outer s H vs Q E hr h => ?_)
  · obtain ⟨a, v, rfl, _⟩ := h
    rfl
  · obtain ⟨a, v, rfl, ha, k⟩ := h
    exact ⟨_, pss_one (ps_ost (pv 0) (pv 1)), _, rfl, _, rfl, a, z.cNoPattern, rfl, T.xNoPattern.oc, T.nNP, .inl ⟨ha, fun d h1 h2 => k d h1 h2⟩⟩
theorem ok_len (T : Txp K mg z) : FnOk P wo K mg base CX0 2 z.a_len z.d_len ["self"] (spGetI z.C fun l => .int ((bt l).length : Nat)) := by
  refine T.F_len.ok sc_Pattern_len (fun vs H Q E h => ?_) (fun cdv A outer s H vs Q E hr h => ?_)
  · obtain ⟨a, l, rfl, _⟩ := h
    rfl
  · obtain ⟨a, l, rfl, ⟨hp, dx, t, h1, h2⟩, ret⟩ := h
    refine ⟨_, (pss_one (ps_ret (pe_callB call_len_str (by rfl) T.n_len (by decide +kernel) (pa_cons (pe_fld (pv 0) rfl) pa_nil)))), ?_⟩
    refine ⟨_, rfl, a, z.C, dx, _, _, rfl, h1, T.cls, T.na_bits, lkB, _, rfl, by rw [S_ln]; exact Nat.le_trans (bt_len hp) (by decide), ?_⟩
    rw [S_ln]
    exact ret
theorem ok_bool (T : Txp K mg z) : FnOk P wo K mg base CX0 2 z.a_bool z.d_bool ["self"] (spGetI z.C fun l => .bl (decide (49 ∈ bt l))) := by
  refine T.F_bool.ok sc_Pattern_bool (fun vs H Q E h => ?_) (fun cdv A outer s H vs Q E hr h => ?_)
  · obtain ⟨a, l, rfl, _⟩ := h
    rfl
  · obtain ⟨a, l, rfl, ⟨hp, dx, t, h1, h2⟩, ret⟩ := h
    refine ⟨_, (pss_one (ps_ret (pe_cmpR op_in_sign pe_str (pe_fld (pv 0) rfl) rfl))), ?_⟩
    refine ⟨_, rfl, a, z.C, dx, _, _, rfl, h1, T.cls, T.na_bits, lkB, 49, S (bt l), by rw [S_1] <;> rfl, rfl, ?_⟩
    have e : (S (bt l)).cps.toList = bt l := by simp [S]
    rw [e]
    exact ret
theorem ok_standing (T : Txp K mg z) : FnOk P wo K mg base CX0 2 z.a_standing z.d_standing ["self"] (spGetI z.C fun l => .int ((bt l).count 49 : Nat)) := by
  refine T.F_standing.ok sc_Pattern_standing (fun vs H Q E h => ?_) (fun cdv A outer s H vs Q E hr h => ?_)
  · obtain ⟨a, l, rfl, _⟩ := h
    rfl
  · obtain ⟨a, l, rfl, ⟨hp, dx, t, h1, h2⟩, ret⟩ := h
    refine ⟨_, (pss_one (ps_ret (pe_bm PySem.F.plainAttrs_str PySem.F.slot_str_count PySem.F.type_str_count mt_count (pe_fld (pv 0) rfl) (pa_cons pe_str pa_nil)))), ?_⟩
    refine ⟨_, rfl, a, z.C, dx, _, _, rfl, h1, T.cls, T.na_bits, lkB, rfl, _, _, rfl, rfl, ?_⟩
    rw [count_ones]
    exact ret
theorem ok_sizesP (T : Txp K mg z) : FnOk P wo K mg base CX0 2 z.a_sizes z.d_sizes ["self"] (spGetS z.C) := by
  refine T.F_sizes.ok sc_Pattern_sizes (fun vs H Q E h => ?_) (fun cdv A outer s H vs Q E hr h => ?_)
  · obtain ⟨a, l, rfl, _⟩ := h
    rfl
  · obtain ⟨a, l, rfl, ⟨hp, dx, t, h1, h2⟩, ret⟩ := h
    refine ⟨_, (pss_one (ps_ret (pe_fld (pv 0) rfl))), ?_⟩
    exact ⟨_, rfl, a, z.C, dx, _, _, rfl, h1, T.cls, T.na_sizes, lkS, ret t h2⟩
theorem ok_getitem (T : Txp K mg z) : FnOk P wo K mg base (L2.CX P wo) 4 z.a_getitem z.d_getitem ["self", "at"] (spItem K z.C z.cNoBit) := by
  refine T.F_getitem.okX sc_Pattern_getitem (fun vs H Q E h => ?_) (fun cdv A outer s H vs Q E hr h => ?_)
  · obtain ⟨a, l, x, r, rfl, _⟩ := h
    rfl
  · obtain ⟨a, l, x, r, rfl, hP, hw, ret⟩ := h
    obtain ⟨hp, dx, t, h1, h2⟩ := id hP
    have hr2 : Room 3 _ := hr
    have G_is_number : FnOk P wo K mg base CX0 3 z.a_is_number z.d_is_number ["thing", "many"] (spNumber K) := ok_is_number T
    have sz : (S (bt l)).length ≤ sizeLine := by rw [S_ln]; exact Nat.le_trans (bt_len hp) (by decide)
    refine ⟨_, (pss_cons (ps_if (pt_not (pt_val (pe_call G_is_number hr2 rfl T.g_is_number T.k_is_number T.b_is_number .nil pass0 (pa_cons (pv 1) (pa_cons (pe_callB call_len_str (by rfl) T.n_len (by decide +kernel) (pa_cons (pe_fld (pv 0) rfl) pa_nil)) pa_nil)))))
        (pss_one (ps_raise rfl (takes_of rfl rfl rfl rfl) (pmk_own PySem.F.excBase_ValueError T.eNoBit T.xNoBit.g T.xNoBit.kp (raises_own T.xNoBit.xc.sb T.xNoBit.ty) rfl)))
        pss_nil)
      (pss_one (ps_ret (pe_callTy call_int_str (by rfl) T.n_int (by decide +kernel) (pa_cons (pe_ix ix_str (pe_fld (pv 0) rfl) (pv 1) (fun _ _ => rfl)) pa_nil))))), ?_⟩
    refine ⟨_, rfl, _, rfl, a, z.C, dx, _, _, rfl, h1, T.cls, T.na_bits, lkB, _, rfl, sz, x, ((bt l).length : Nat), r, by rw [S_ln] <;> rfl, hw, ?_⟩
    refine ⟨_, rfl, ?_⟩
    cases c : inR ((bt l).length : Nat) r with
    | false =>
      rw [c, if_neg Bool.false_ne_true] at ret
      exact iteT (ret _ (Same.refl _))
    | true =>
      rw [c, if_pos rfl] at ret
      obtain ⟨k, rfl, hk, _⟩ := whole_in hw c
      refine iteF ?_
      have ek : (bt l)[k]? = some (bt l)[k] := List.getElem?_eq_getElem hk
      have hb := hp.bits _ (List.getElem_mem hk)
      have el : (S (bt l)).cps.toList = bt l := by simp [S]
      refine ⟨_, rfl, a, z.C, dx, _, _, rfl, h1, T.cls, T.na_bits, lkB, _, rfl, S (bt l), (k : Int), (bt l)[k], rfl, rfl, sz, by rw [el]; exact atI_nat ek, ?_⟩
      refine ⟨_, ((bt l)[k] - 48 : Nat), rfl, ?_, by show 1 ≤ 640; decide, ret k _ rfl ek _ (Same.refl _)⟩
      rcases hb with e | e <;> rw [e] <;> decide +kernel
theorem ok_contains (T : Txp K mg z) : FnOk P wo K mg base CX0 4 z.a_contains z.d_contains ["self", "x"] (spHas K z.C) := by
  refine T.F_contains.ok sc_Pattern_contains (fun vs H Q E h => ?_) (fun cdv A outer s H vs Q E hr h => ?_)
  · obtain ⟨a, l, x, r, rfl, _⟩ := h
    rfl
  · obtain ⟨a, l, x, r, rfl, hP, hw, ret⟩ := h
    obtain ⟨hp, dx, t, h1, h2⟩ := id hP
    have hr2 : Room 3 _ := hr
    have G_is_number : FnOk P wo K mg base CX0 3 z.a_is_number z.d_is_number ["thing", "many"] (spNumber K) := ok_is_number T
    have sz : (S (bt l)).length ≤ sizeLine := by rw [S_ln]; exact Nat.le_trans (bt_len hp) (by decide)
    refine ⟨_, (pss_one (ps_ret (pe_and (pe_call G_is_number hr2 rfl T.g_is_number T.k_is_number T.b_is_number .nil pass0 (pa_cons (pv 1) (pa_cons (pe_callB call_len_str (by rfl) T.n_len (by decide +kernel) (pa_cons (pe_fld (pv 0) rfl) pa_nil)) pa_nil))) (pe_one (pe_cmpR op_eq (pe_ix ix_str (pe_fld (pv 0) rfl) (pv 1) (fun _ _ => rfl)) pe_str (nomark _)))))), ?_⟩
    refine ⟨_, rfl, _, rfl, a, z.C, dx, _, _, rfl, h1, T.cls, T.na_bits, lkB, _, rfl, sz, x, ((bt l).length : Nat), r, by rw [S_ln] <;> rfl, hw, ?_⟩
    refine ⟨_, rfl, ?_⟩
    cases c : inR ((bt l).length : Nat) r with
    | false =>
      rw [c, if_neg Bool.false_ne_true] at ret
      exact iteF (ret _ (Same.refl _))
    | true =>
      rw [c, if_pos rfl] at ret
      obtain ⟨k, rfl, hk, _⟩ := whole_in hw c
      refine iteT ?_
      have ek : (bt l)[k]? = some (bt l)[k] := List.getElem?_eq_getElem hk
      have el : (S (bt l)).cps.toList = bt l := by simp [S]
      refine ⟨_, rfl, a, z.C, dx, _, _, rfl, h1, T.cls, T.na_bits, lkB, _, rfl, S (bt l), (k : Int), (bt l)[k], rfl, rfl, sz, by rw [el]; exact atI_nat ek, rfl, ?_⟩
      have e : decide (V.str ⟨#[(bt l)[k]]⟩ = V.str "1") = decide ((bt l)[k] = 49) := by
        rw [S_1]
        rw [decide_eq_decide]
        exact ⟨fun q => by simpa using S_eq.mp (show V.str (S [(bt l)[k]]) = V.str (S [49]) from q), fun q => by rw [q] <;> rfl⟩
      rw [e]
      exact ret k _ rfl ek _ (Same.refl _)
end
end Fb
-- bumped
set_option maxRecDepth 100000
set_option maxHeartbeats 4000000
namespace Fb
open PySem PySem.Spec PyProof.Rows L2
open SX (S)
section
variable {P : Program} {wo : World} {K : PySem.W.Frag} {mg : Str → Option Value} {base : Heap} {z : Pz}
theorem ok_can (T : Txp K mg z) : FnOk P wo K mg base CX0 3 z.a_can_be_sizes z.d_can_be_sizes ["sizes"] (spCan K) := by
  refine T.F_can_be_sizes.ok sc_can_be_sizes (fun vs H Q E h => ?_) (fun cdv A outer s H vs Q E hr h => ?_)
  · obtain ⟨t, xs, rs, rfl, _⟩ := h
    rfl
  · obtain ⟨t, xs, rs, rfl, ht, hw, hl, ret⟩ := h
    have hr1 : Room 2 _ := hr
    have G_is_whole : FnOk P wo K mg base CX0 2 z.a_is_whole z.d_is_whole ["thing"] (spWhole K) := ok_is_whole T
    have lr : xs.length = rs.length := hw.length
    obtain ⟨mc, u, cr, cv⟩ := T.vBLOCKS
    obtain ⟨mc', u', cr', cv'⟩ := T.vBITS
    refine ⟨_, (pss_cons (ps_if (pt_not (pt_chain op_le op_le pe_int (pe_callB call_len_seq (by rfl) T.n_len (by decide +kernel) (pa_cons (pv 0) pa_nil)) (ClX.pe_cval (pe_glob (v := .ref z.C) rfl T.g_Pattern rfl))))
        (pss_one (ps_ret pe_bl))
        pss_nil)
      (pss_cons (ps_if (pt_not (pt_val (pe_callB (cr_all rfl) (by rfl) T.n_all (by decide +kernel) (pa_cons (by refine' pe_lc (own := [("size", 1)]) (tt := tYes) rfl sc_can_be_sizes.nd ?hi (blkOk_by (N := ["sizes", "size"]) (sc := defScope s_can_be_sizes) (by first | decide +kernel | kernel_rfl | rfl)) ?hg ?ht ?he (by intro _; rfl); (case hi => exact (pi_tupK (K := K) rfl (pv 0))); (case hg => exact fun _ _ _ _ _ => (pg_name (i := 1) sc_can_be_sizes.nd rfl (Or.inl rfl))); (case ht => exact fun _ _ _ _ _ => pts_nil); (case he => exact fun _ _ _ _ _ => (pe_and (pe_call G_is_whole hr1 rfl T.g_is_whole T.k_is_whole T.b_is_whole .nil pass0 (pa_cons (pv 1) pa_nil)) (pe_one (pe_cmpR op_ge (pv 1) pe_int (nomark _)))))) pa_nil))))
        (pss_one (ps_ret pe_bl))
        pss_nil)
      (pss_one (ps_ret (pe_cmpR op_le (pe_callB (cr_sumT rfl) (by rfl) T.n_sum (by decide +kernel) (pa_cons (pv 0) pa_nil)) (ClX.pe_cval (pe_glob (v := .ref z.C) rfl T.g_Pattern rfl)) (nomark _)))))), ?_⟩
    refine ⟨_, rfl, t, xs, rfl, .inr ht, ?_⟩
    refine ⟨1, (xs.length : Nat), rfl, rfl, _, rfl, ?_⟩
    have tail : decide (1 ≤ (rs.length : Int)) = true → decide ((rs.length : Int) ≤ 3) = true → Q (.bl (szT rs)) = Q (.bl (rs.all whp && decide ((rs.map fun r => r.getD 0).sum ≤ 120))) := fun h1 h2 => by
      unfold szT
      rw [h1, h2, Bool.true_and, Bool.true_and]
    rw [lr]
    by_cases h1 : 1 ≤ (rs.length : Int)
    · rw [decide_eq_true h1]
      refine iteT ⟨z.C, mc, _, u, rfl, cr, cv, _, _, rfl, rfl, _, rfl, ?_⟩
      by_cases h2 : (rs.length : Int) ≤ 3
      · rw [decide_eq_true h2]
        refine iteF ?_
        rw [tail (decide_eq_true h1) (decide_eq_true h2)] at ret
        refine ⟨_, rfl, t, rfl, ⟨_, ht⟩, fun D hD => ?_⟩
        refine lc_outU (xs := xs) (outM fun i => V.bl (whp (rs.getD i none))) hD ht outM_0 (fun i hi => by rw [outM_l]; exact small1 i (by omega)) (fun i x H2 Kc K0 e s2 kc k0 => ?_) (fun H2 s2 e2 => ?_)
        · obtain ⟨r, er, hr⟩ := pairedAt hw e
          have ed : rs.getD i none = r := by rw [List.getD_eq_getElem?_getD, er] <;> rfl
          refine ⟨rfl, yes1 ?_⟩
          refine ⟨_, rfl, x, r, rfl, hr.same s2, _, rfl, ?_⟩
          have k1 := fun y => kc y _ (Same.refl _)
          rw [outM_s, ed] at k1
          rcases hr with ⟨j, rfl, rfl⟩ | ⟨b, rfl, rfl⟩ | ⟨t, _, _, rfl⟩
          · exact iteT ⟨_, rfl, j, 1, rfl, rfl, k1 _ rfl⟩
          · exact iteF (k1 _ rfl)
          · exact iteF (k1 _ rfl)
        · have e3 : outM (fun i => V.bl (whp (rs.getD i none))) xs.length = (rs.map whp).map V.bl := outM_all (by rw [List.length_map, List.length_map, lr]) fun i hi => by
            have : rs[i]? = some rs[i] := List.getElem?_eq_getElem (by omega)
            rw [List.getElem?_map, List.getElem?_map, List.getD_eq_getElem?_getD, this] <;> rfl
          rw [e3] at e2
          refine ⟨D, rs.map whp, rfl, SqL.of e2, ?_⟩
          have e4 : (rs.map whp).all id = rs.all whp := by rw [List.all_map] <;> rfl
          rw [e4]
          refine ⟨_, rfl, ?_⟩
          cases c : rs.all whp with
          | false =>
            rw [c, Bool.false_and] at ret
            exact iteT (ret _ s2)
          | true =>
            rw [c, Bool.true_and] at ret
            refine iteF ?_
            obtain ⟨bs, exs, hb, eb⟩ := whole_p hw c
            subst exs
            refine ⟨_, rfl, t, bs.map fun b : Nat => (b : Int), rfl, by rw [List.map_map]; exact sqT_same s2 ht, ?_⟩
            refine ⟨z.C, mc', _, u', rfl, cr', cv', _, _, rfl, rfl, ?_⟩
            rw [eb] at ret
            exact ret _ s2
      · rw [decide_eq_false h2]
        refine iteT ?_
        have q := ret _ (Same.refl H)
        unfold szT at q
        rw [decide_eq_false h2, Bool.false_and, Bool.and_false] at q
        exact q
    · rw [decide_eq_false h1]
      refine iteF ⟨_, rfl, iteT ?_⟩
      have q := ret _ (Same.refl H)
      unfold szT at q
      rw [decide_eq_false h1, Bool.false_and] at q
      exact q
theorem ok_fallen (T : Txp K mg z) : FnOk P wo K mg base (L2.CX P wo) 6 z.a_fallen z.d_fallen ["self", "bits"] (spFallen K z.C z.cNoBit) := by
  refine T.F_fallen.okX sc_Pattern_fallen (fun vs H Q E h => ?_) (fun cdv A outer s H vs Q E hr h => ?_)
  · obtain ⟨a, l, q, xs, rs, rfl, _⟩ := h
    rfl
  · obtain ⟨a, l, q, xs, rs, rfl, hP, hq, hw, hx, ret⟩ := h
    obtain ⟨hp, dx, t, h1, h2⟩ := id hP
    have hr4 : Room 5 _ := hr
    have hr3 : Room 4 _ := hr.mono (by decide)
    have hr2 : Room 3 _ := hr.mono (by decide)
    have G_need_bits : FnOk P wo K mg base (L2.CX P wo) 4 z.a_need_bits z.d_need_bits ["thing", "many"] (spNeedB K z.cNoBit) := ok_need_bits T
    have G_with_fallen : FnOk P wo K mg base CX0 3 z.a_with_fallen z.d_with_fallen ["text", "bits"] (spWFall K) := ok_with_fallen T
    have G_init : FnOk P wo K mg base CX0 4 z.a_init z.d_init ["self", "text"] (spInit z.C) := ok_init T
    refine ⟨_, (pss_cons (ps_expr (pe_call G_need_bits hr3 rfl T.g_need_bits T.k_need_bits T.b_need_bits .nil (passes_call (takes_of rfl rfl rfl rfl) (fun _ _ _ _ h => h)) (pa_cons (pv 1) (pa_cons (pe_callB call_len_str (by rfl) T.n_len (by decide +kernel) (pa_cons (pe_fld (pv 0) rfl) pa_nil)) pa_nil))))
      (pss_one (ps_ret (pe_make T.mkP G_init hr4 rfl T.g_Pattern T.b_init .nil pass0 (pa_cons (pe_call G_with_fallen hr2 rfl T.g_with_fallen T.k_with_fallen T.b_with_fallen .nil pass0 (pa_cons (pe_fld (pv 0) rfl) (pa_cons (pv 1) pa_nil))) pa_nil))))), ?_⟩
    refine ⟨_, rfl, _, rfl, a, z.C, dx, _, _, rfl, h1, T.cls, T.na_bits, lkB, S (bt l), rfl, by rw [S_ln]; exact Nat.le_trans (bt_len hp) (by decide), q, ((bt l).length : Nat), xs, rs, by rw [S_ln] <;> rfl, hq, hw, hx, ?_⟩
    cases c : rs.all (inR ((bt l).length : Nat)) with
    | false =>
      rw [c, if_neg Bool.false_ne_true] at ret
      rw [if_neg Bool.false_ne_true]
      exact ret
    | true =>
      rw [c, if_pos rfl] at ret
      rw [if_pos rfl]
      intro H1 s1
      obtain ⟨bs, rfl, hb⟩ := wholes_in hw c
      obtain ⟨f1, f2, f3⟩ := isP_fl (bs := bs) (x := 48) hp (.inl rfl) hb
      refine ⟨_, rfl, a, z.C, dx, _, _, rfl, s1 _ _ h1, T.cls, T.na_text, lkT, _, rfl, l, q, bs, rfl, Nat.le_trans hp.len (by decide), SqL.of (s1 _ _ hq), hb, fun H2 s2 => ?_⟩
      refine mk_pat f1 fun p H3 s3 hn hp' => ret bs rfl hb p H3 ((s1.trans s2).trans s3) ((s1.trans s2).free hn) hp'
theorem ok_erased (T : Txp K mg z) : FnOk P wo K mg base (L2.CX P wo) 6 z.a_erased z.d_erased ["self", "block"] (spErased K z.C z.cNoBit) := by
  refine T.F_erased.okX sc_Pattern_erased (fun vs H Q E h => ?_) (fun cdv A outer s H vs Q E hr h => ?_)
  · obtain ⟨a, l, x, r, rfl, _⟩ := h
    rfl
  · obtain ⟨a, l, x, r, rfl, hP, hw, ret⟩ := h
    obtain ⟨hp, dx, t, h1, h2⟩ := id hP
    have hr4 : Room 5 _ := hr
    have hr2 : Room 3 _ := hr.mono (by decide)
    have hr1 : Room 2 _ := hr.mono (by decide)
    have G_is_number : FnOk P wo K mg base CX0 3 z.a_is_number z.d_is_number ["thing", "many"] (spNumber K) := ok_is_number T
    have G_with_erased : FnOk P wo K mg base CX0 2 z.a_with_erased z.d_with_erased ["text", "block"] spWEr := ok_with_erased T
    have G_init : FnOk P wo K mg base CX0 4 z.a_init z.d_init ["self", "text"] (spInit z.C) := ok_init T
    have en : (nums (szs l)).length = (szs l).length := by unfold nums; rw [List.length_map]
    refine ⟨_, (pss_cons (ps_if (pt_not (pt_val (pe_call G_is_number hr2 rfl T.g_is_number T.k_is_number T.b_is_number .nil pass0 (pa_cons (pv 1) (pa_cons (pe_callB call_len_seq (by rfl) T.n_len (by decide +kernel) (pa_cons (pe_fld (pv 0) rfl) pa_nil)) pa_nil)))))
        (pss_one (ps_raise rfl (takes_of rfl rfl rfl rfl) (pmk_own PySem.F.excBase_ValueError T.eNoBit T.xNoBit.g T.xNoBit.kp (raises_own T.xNoBit.xc.sb T.xNoBit.ty) rfl)))
        pss_nil)
      (pss_one (ps_ret (pe_make T.mkP G_init hr4 rfl T.g_Pattern T.b_init .nil pass0 (pa_cons (pe_call G_with_erased hr1 rfl T.g_with_erased T.k_with_erased T.b_with_erased .nil pass0 (pa_cons (pe_fld (pv 0) rfl) (pa_cons (pv 1) pa_nil))) pa_nil))))), ?_⟩
    refine ⟨_, rfl, _, rfl, a, z.C, dx, _, _, rfl, h1, T.cls, T.na_sizes, lkS, t, _, rfl, .inr (SqT.of h2), x, ((szs l).length : Nat), r, by rw [en] <;> rfl, hw, ?_⟩
    refine ⟨_, rfl, ?_⟩
    cases c : inR ((szs l).length : Nat) r with
    | false =>
      rw [c, if_neg Bool.false_ne_true] at ret
      exact iteT (ret _ (Same.refl _))
    | true =>
      rw [c, if_pos rfl] at ret
      obtain ⟨k, rfl, hk, _⟩ := whole_in hw c
      have ek : (szs l)[k]? = some (szs l)[k] := List.getElem?_eq_getElem hk
      have hle : ((szs l).take k).sum + (szs l)[k] ≤ (bt l).length := by
        rw [bt_sum]
        have e := List.take_append_drop k (szs l)
        have e2 : (szs l).drop k = (szs l)[k] :: (szs l).drop (k + 1) := List.drop_eq_getElem_cons hk
        have e3 := congrArg List.sum e
        rw [List.sum_append, e2, List.sum_cons] at e3
        omega
      obtain ⟨f1, f2, f3⟩ := isP_jn (b := upB 49 ((szs l).take k).sum (szs l)[k] (bt l)) hp (upB_bits (.inr rfl) hp.bits) (upB_len hle)
      refine iteF ?_
      refine ⟨_, rfl, a, z.C, dx, _, _, rfl, h1, T.cls, T.na_text, lkT, _, rfl, l, k, _, rfl, Nat.le_trans hp.len (by decide), ek, fun H2 s2 => ?_⟩
      refine mk_pat f1 fun p H3 s3 hn hp' => ret k _ rfl ek p H3 (s2.trans s3) (s2.free hn) hp'
theorem bind_full {kV doc pm cdv ct : Value} {an : Option Addr} : ∀ us rest : List Value, us.length = ["cls"].length → bindArgs (PySem.W.fnOf "full" "Pattern.full" (defArgs s_Pattern_full) (defBody s_Pattern_full) (defScope s_Pattern_full) .none kV doc pm an cdv ct) ⟨us ++ rest, []⟩ = (newTuple rest >>= fun t => pure ((["cls"] : List Str).zip us ++ [(("sizes" : Str), t)])) := by
  intro us rest h
  match us, h, rest with
  | [u], _, [] => rfl
  | [u], _, r :: rest =>
    have e : (decide ((u :: r :: rest).length > 1) && false) = false := by simp
    rfl
theorem ok_full (T : Txp K mg z) : FnR P wo K mg base (L2.CX P wo) 6 z.a_full (fun vs H Q E => ∃ ws rest, vs = ws ++ rest ∧ ws.length = ["cls"].length ∧ rest.length ≤ sizeLine ∧ ∀ p, H p = none → spFull K z.C z.cNoPattern (ws ++ [V.ref p]) (upd H p (.tup rest)) Q E) := by
  obtain ⟨oc, od, kV, doc, pm, an, cdv, ct, osl, ef, lk, hcd⟩ := T.F_full.ex
  rw [ef] at lk
  refine StX.fn_star (N := ["cls", "sizes", "size"]) (ps := ["cls"]) (pv := "sizes") lk hcd sc_Pattern_full StX.cxUp (bind_full) (fun A outer s H vs Q E hr h => ?_)
  obtain ⟨t, xs, rs, rfl, ht, hw, hl, ret⟩ := h
  have hr4 : Room 5 _ := hr
  have hr2 : Room 3 _ := hr.mono (by decide)
  have G_can_be_sizes : FnOk P wo K mg base CX0 3 z.a_can_be_sizes z.d_can_be_sizes ["sizes"] (spCan K) := ok_can T
  have G_init : FnOk P wo K mg base CX0 4 z.a_init z.d_init ["self", "text"] (spInit z.C) := ok_init T
  refine ⟨_, (pss_cons (ps_if (pt_not (pt_val (pe_call G_can_be_sizes hr2 rfl T.g_can_be_sizes T.k_can_be_sizes T.b_can_be_sizes .nil pass0 (pa_cons (pv 1) pa_nil))))
        (pss_one (ps_raise rfl (takes_of rfl rfl rfl rfl) (pmk_oex T.xNoPattern.oc T.iNP T.tNP (ok_npi T) hr2 T.b_npi .nil pass0 rfl T.xNoPattern.g (pa_cons pe_int pa_nil))))
        pss_nil)
      (pss_one (ps_ret (pe_makeL (i := 0) T.mkP (G_init.raw T.b_init .nil) hr4 rfl (Or.inl rfl) pass0 (pa_cons (pe_joinK (K := K) rfl pe_str (pa_cons (by refine' pe_lc (own := [("size", 2)]) (tt := tYes) rfl sc_Pattern_full.nd ?hi (blkOk_by (N := ["cls", "sizes", "size"]) (sc := defScope s_Pattern_full) (by first | decide +kernel | kernel_rfl | rfl)) ?hg ?ht ?he (by intro _; rfl); (case hi => exact (pi_tupK (K := K) rfl (pv 1))); (case hg => exact fun _ _ _ _ _ => (pg_name (i := 2) sc_Pattern_full.nd rfl (Or.inl rfl))); (case ht => exact fun _ _ _ _ _ => pts_nil); (case he => exact fun _ _ _ _ _ => (pe_op op_repS pe_str (pv 2)))) pa_nil)) pa_nil))))), ?_⟩
  refine ⟨_, rfl, t, xs, rs, rfl, SqT.of ht, hw, hl, fun H1 s1 => ⟨_, rfl, ?_⟩⟩
  cases c : szT rs with
  | false =>
    rw [c, if_neg Bool.false_ne_true] at ret
    refine iteT ⟨by show 1 ≤ 1000; decide, fun a ha => ⟨a, _, rfl, upd_same, fun d h1 h2 => ⟨rfl, d, _, upd_same, by rw [upd_ne h2]; exact upd_same, by rw [upd_ne h2] at h1; exact h1, ?_⟩⟩⟩
    have hd : H1 d = none := by rw [upd_ne h2] at h1; exact h1
    refine ret d _ (fun b o eb => ?_) upd_same
    have eb1 := s1 b o eb
    have nbd := ne_of_none eb1 hd
    have nba := ne_of_none eb1 ha
    rw [upd_ne nbd, del_ne nba, upd_ne nba, upd_ne nbd, upd_ne nba]
    exact eb1
  | true =>
    rw [c, if_pos rfl] at ret
    refine iteF ?_
    unfold szT at c
    rw [Bool.and_eq_true, Bool.and_eq_true, Bool.and_eq_true] at c
    obtain ⟨c1, c2, c3, c4⟩ := c
    have c1 := of_decide_eq_true c1
    have c2 := of_decide_eq_true c2
    have c4 := of_decide_eq_true c4
    obtain ⟨ss, rfl, hs, es⟩ := whole_p hw c3
    rw [es, sum_cast] at c4
    have lr := hw.length
    have ln : (nums ss).length = ss.length := by unfold nums; rw [List.length_map]
    have bits : Bits (List.replicate ss.sum 49) := fun x hx => .inr (List.mem_replicate.mp hx).2
    have ne : ss ≠ [] := fun q => by
      have : ss.length = 0 := by rw [q] <;> rfl
      omega
    have ez := jn_sz (ss := ss) bits (by simp) ne
    have et := jn_bt (ss := ss) bits (by simp)
    have hp : IsP (jn ss (List.replicate ss.sum 49)) := ⟨jn_sg bits, by rw [ez]; exact hs, by rw [ez]; omega, by
      show (bt _).length ≤ 120
      rw [et, List.length_replicate]
      omega⟩
    have rep := cut_rep ss ss.sum 49 (Nat.le_refl _)
    refine ⟨rfl, rfl, _, rfl, t, rfl, ⟨_, sqT_same s1 (SqT.of ht)⟩, fun D hD => ?_⟩
    refine lc_outU (xs := nums ss) (outM fun i => V.str (S (List.replicate (ss.getD i 0) 49))) hD (sqT_same s1 (SqT.of ht)) outM_0 (fun i hi => by rw [outM_l]; exact small1 i (by omega)) (fun i x H2 Kc K0 e s2 kc k0 => ?_) (fun H2 s2 e2 => ?_)
    · unfold nums at e
      rw [List.getElem?_map] at e
      cases q : ss[i]? with
      | none => rw [q] at e; cases e
      | some n =>
        rw [q] at e
        cases e
        have ed : ss.getD i 0 = n := by rw [List.getD_eq_getElem?_getD, q] <;> rfl
        have hn : n ≤ ss.sum := le_sum (List.mem_of_getElem? q)
        refine ⟨rfl, yes1 ?_⟩
        refine ⟨_, rfl, 49, n, by rw [S_1] <;> rfl, rfl, by omega, kc _ _ (Same.refl _) ?_⟩
        rw [outM_s, ed]
    · have e3 : outM (fun i => V.str (S (List.replicate (ss.getD i 0) 49))) (nums ss).length = ((cut ss (List.replicate ss.sum 49)).map S).map V.str := by
        rw [rep]
        exact outM_all (by rw [List.length_map, List.length_map, List.length_map, ln]) fun i hi => by
          rw [ln] at hi
          have : ss[i]? = some ss[i] := List.getElem?_eq_getElem hi
          rw [List.getElem?_map, List.getElem?_map, List.getElem?_map, List.getD_eq_getElem?_getD, this] <;> rfl
      rw [e3] at e2
      refine ⟨".", D, _, rfl, rfl, .inl (SqL.of e2), ?_, ?_⟩
      · rw [SX.lens, cut_lens (by simp), List.length_map, cut_len]
        show _ + _ * 1 ≤ _
        omega
      · rw [join_cut]
        refine mk_pat hp fun p H3 s3 hn hp' => ret ss rfl (by omega) (by omega) hs (by omega) p H3 ((s1.trans s2).trans s3) ((s1.trans s2).free hn) hp'
end
end Fb
-- bumped
set_option maxRecDepth 100000
set_option maxHeartbeats 4000000
namespace Fb
open PySem PySem.Spec PyProof.Rows L2
open SX (S)

/-! the written part: the law's own defs -/
structure Lz where
  (a_Lpen a_Ltake a_law : Addr)
  (d_Lpen d_Ltake d_law : FuncData)
  (a_Lsizes : Addr) (d_Lsizes : FuncData)
  (a_Ldrawn : Addr) (d_Ldrawn : FuncData)
  (a_Lcaught : Addr) (d_Lcaught : FuncData)
  (a_Ljoined : Addr) (d_Ljoined : FuncData)
  (a_Ltells : Addr) (d_Ltells : FuncData)
  (a_Lchanged : Addr) (d_Lchanged : FuncData)
  (a_Lrefused : Addr) (d_Lrefused : FuncData)
abbrev s_Lsizes : Stmt := top 27
theorem sc_Lsizes : FnScope ["_law_pen_here", "_law_most", "_law_k"] ["_law_pen_here", "_law_most"] (defScope s_Lsizes) := ⟨rfl, rfl, rfl, by decide +kernel, rfl, by decide +kernel, by decide +kernel⟩
abbrev s_Ldrawn : Stmt := top 28
theorem sc_Ldrawn : FnScope ["_law_pen_here", "_law_sizes_here", "_law_size", "_law_bit"] ["_law_pen_here", "_law_sizes_here"] (defScope s_Ldrawn) := ⟨rfl, rfl, rfl, by decide +kernel, rfl, by decide +kernel, by decide +kernel⟩
abbrev s_Lcaught : Stmt := top 29
theorem sc_Lcaught : FnScope ["_law_ask", "_law_caught_here", "_law_found", "e"] ["_law_ask"] (defScope s_Lcaught) := ⟨rfl, rfl, rfl, by decide +kernel, rfl, by decide +kernel, by decide +kernel⟩
abbrev s_Ljoined : Stmt := top 30
theorem sc_Ljoined : FnScope ["_law_sizes_here", "_law_signs", "_law_found", "_law_first", "_law_size"] ["_law_sizes_here", "_law_signs"] (defScope s_Ljoined) := ⟨rfl, rfl, rfl, by decide +kernel, rfl, by decide +kernel, by decide +kernel⟩
abbrev s_Ltells : Stmt := top 31
theorem sc_Ltells : FnScope ["_law_p", "_law_sizes_here", "_law_signs", "_law_bit"] ["_law_p", "_law_sizes_here", "_law_signs"] (defScope s_Ltells) := ⟨rfl, rfl, rfl, by decide +kernel, rfl, by decide +kernel, by decide +kernel⟩
abbrev s_Lchanged : Stmt := top 32
theorem sc_Lchanged : FnScope ["_law_pen_here", "_law_p", "_law_sizes_here", "_law_signs", "_law_bits", "_law_lower", "_law_bit", "_law_block", "_law_first", "_law_upper", "_law_handed", "_law_k"] ["_law_pen_here", "_law_p", "_law_sizes_here", "_law_signs"] (defScope s_Lchanged) := ⟨rfl, rfl, rfl, by decide +kernel, rfl, by decide +kernel, by decide +kernel⟩
abbrev s_Lrefused : Stmt := top 33
theorem sc_Lrefused : FnScope ["_law_pen_here", "_law_p", "_law_sizes_here", "_law_signs", "_law_block", "_law_odd"] ["_law_pen_here", "_law_p", "_law_sizes_here", "_law_signs"] (defScope s_Lrefused) := ⟨rfl, rfl, rfl, by decide +kernel, rfl, by decide +kernel, by decide +kernel⟩
abbrev s_law : Stmt := top 34
theorem sc_law : FnScope ["_law_script", "_law_pen_here", "_law_turn", "_law_sizes_here", "_law_text", "_law_signs", "_law_p", "_law_full", "_law_odd", "_law_sign"] ["_law_script"] (defScope s_law) := ⟨rfl, rfl, rfl, by decide +kernel, rfl, by decide +kernel, by decide +kernel⟩
structure TxL (K : PySem.W.Frag) (mg : Str → Option Value) (z : Pz) (w : Lz) : Prop extends Txp K mg z where
  pp : TxP mg
  g_Lpen : mg "_law_pen" = some (.ref w.a_Lpen)
  k_Lpen : PySem.W.keepIn K (.ref w.a_Lpen) = true
  F_Lpen : Fun K "_law_pen" "_law_pen" s_Lpen w.a_Lpen w.d_Lpen
  b_Lpen : Binds K w.d_Lpen ["_law_script"] []
  g_Ltake : mg "_law_take" = some (.ref w.a_Ltake)
  k_Ltake : PySem.W.keepIn K (.ref w.a_Ltake) = true
  F_Ltake : Fun K "_law_take" "_law_take" s_Ltake w.a_Ltake w.d_Ltake
  b_Ltake : Binds K w.d_Ltake ["_law_pen_here", "_law_many"] []
  g_Lsizes : mg "_law_sizes" = some (.ref w.a_Lsizes)
  k_Lsizes : PySem.W.keepIn K (.ref w.a_Lsizes) = true
  F_Lsizes : Fun K "_law_sizes" "_law_sizes" s_Lsizes w.a_Lsizes w.d_Lsizes
  b_Lsizes : Binds K w.d_Lsizes ["_law_pen_here", "_law_most"] []
  g_Ldrawn : mg "_law_drawn" = some (.ref w.a_Ldrawn)
  k_Ldrawn : PySem.W.keepIn K (.ref w.a_Ldrawn) = true
  F_Ldrawn : Fun K "_law_drawn" "_law_drawn" s_Ldrawn w.a_Ldrawn w.d_Ldrawn
  b_Ldrawn : Binds K w.d_Ldrawn ["_law_pen_here", "_law_sizes_here"] []
  g_Lcaught : mg "_law_caught" = some (.ref w.a_Lcaught)
  k_Lcaught : PySem.W.keepIn K (.ref w.a_Lcaught) = true
  F_Lcaught : Fun K "_law_caught" "_law_caught" s_Lcaught w.a_Lcaught w.d_Lcaught
  b_Lcaught : Binds K w.d_Lcaught ["_law_ask"] []
  g_Ljoined : mg "_law_joined" = some (.ref w.a_Ljoined)
  k_Ljoined : PySem.W.keepIn K (.ref w.a_Ljoined) = true
  F_Ljoined : Fun K "_law_joined" "_law_joined" s_Ljoined w.a_Ljoined w.d_Ljoined
  b_Ljoined : Binds K w.d_Ljoined ["_law_sizes_here", "_law_signs"] []
  g_Ltells : mg "_law_tells" = some (.ref w.a_Ltells)
  k_Ltells : PySem.W.keepIn K (.ref w.a_Ltells) = true
  F_Ltells : Fun K "_law_tells" "_law_tells" s_Ltells w.a_Ltells w.d_Ltells
  b_Ltells : Binds K w.d_Ltells ["_law_p", "_law_sizes_here", "_law_signs"] []
  g_Lchanged : mg "_law_changed" = some (.ref w.a_Lchanged)
  k_Lchanged : PySem.W.keepIn K (.ref w.a_Lchanged) = true
  F_Lchanged : Fun K "_law_changed" "_law_changed" s_Lchanged w.a_Lchanged w.d_Lchanged
  b_Lchanged : Binds K w.d_Lchanged ["_law_pen_here", "_law_p", "_law_sizes_here", "_law_signs"] []
  g_Lrefused : mg "_law_refused" = some (.ref w.a_Lrefused)
  k_Lrefused : PySem.W.keepIn K (.ref w.a_Lrefused) = true
  b_Lrefused : Binds K w.d_Lrefused ["_law_pen_here", "_law_p", "_law_sizes_here", "_law_signs"] []
  neBN : z.cNoBit ≠ z.cNoPattern
  neFN : z.cNoPattern ≠ z.fe
  neFB : z.cNoBit ≠ z.fe
  xFallenError : mg "FallenError" = some (.ref z.fe)
  clF : (PySem.W.clsIn K z.fe).isSome = true
  tyF : PySem.W.typeIn K (.ref z.fe) = some (.type "type")
  sbF : PySem.W.subIn K (.ref z.fe) (.type "BaseException") = some true
  n_range : mg "range" = none
  n_repr : mg "repr" = none
def spSzs : Sp := fun vs H Q _ => ∃ (p l : Addr) (m n : Nat), vs = [.ref p, .int (m : Nat)] ∧ 0 < m ∧ m ≤ 1000 ∧ n < 900000 ∧ PenL H p l n ∧
  ∀ q ss H', But p H H' → PenL H' p l (n + 4) → H q = none → H' q = some (.lst (nums ss)) → 1 ≤ ss.length → ss.length ≤ 3 → (∀ s ∈ ss, 1 ≤ s ∧ s ≤ m) → Q (.ref q) H'
def spDrawn : Sp := fun vs H Q _ => ∃ (p l q : Addr) (n : Nat) (ss : List Nat), vs = [.ref p, .ref q] ∧ n < 900000 ∧ PenL H p l n ∧ H q = some (.lst (nums ss)) ∧ 1 ≤ ss.length ∧ ss.length ≤ 3 ∧ (∀ s ∈ ss, 1 ≤ s ∧ s ≤ 40) ∧
  ∀ x H', But p H H' → PenL H' p l (n + 120) → Sg x → szs x = ss → Q (.str (S x)) H'

section
variable {P : Program} {wo : World} {K : PySem.W.Frag} {mg : Str → Option Value} {base : Heap} {z : Pz} {w : Lz}
theorem ok_Lsizes (T : TxL K mg z w) : FnOk P wo K mg base CX0 3 w.a_Lsizes w.d_Lsizes ["_law_pen_here", "_law_most"] spSzs := by
  refine T.F_Lsizes.ok sc_Lsizes (fun vs H Q E h => ?_) (fun cdv A outer s H vs Q E hr h => ?_)
  · obtain ⟨p, l, m, n, rfl, _⟩ := h
    rfl
  · obtain ⟨p, l, m, n, rfl, hm0, hm1, hn, hP, ret⟩ := h
    have hr1 : Room 2 _ := hr
    have G_Ltake : FnOk P wo K mg base CX0 2 w.a_Ltake w.d_Ltake ["_law_pen_here", "_law_many"] spTake := ok_take T.F_Ltake T.pp
    refine ⟨_, (pss_one (ps_ret (by refine' pe_lc (own := [("_law_k", 2)]) (tt := tYes) rfl sc_Lsizes.nd ?hi (blkOk_by (N := ["_law_pen_here", "_law_most", "_law_k"]) (sc := defScope s_Lsizes) (by first | decide +kernel | kernel_rfl | rfl)) ?hg ?ht ?he (by intro _; rfl); (case hi => exact (pi_range1 rfl T.n_range (pa_cons (pe_op op_add pe_int (pe_call G_Ltake hr1 rfl T.g_Ltake T.k_Ltake T.b_Ltake .nil pass0 (pa_cons (pv 0) (pa_cons pe_int pa_nil)))) pa_nil))); (case hg => exact fun _ _ _ _ _ => (pg_name (i := 2) sc_Lsizes.nd rfl (Or.inl rfl))); (case ht => exact fun _ _ _ _ _ => pts_nil); (case he => exact fun _ _ _ _ _ => (pe_op op_add pe_int (pe_call G_Ltake hr1 rfl T.g_Ltake T.k_Ltake T.b_Ltake .nil pass0 (pa_cons (pv 0) (pa_cons (pv 1) pa_nil)))))))), ?_⟩
    refine ⟨_, rfl, p, l, 3, n, rfl, by decide, by decide, by omega, hP, fun d H1 hd0 hd1 P1 k1 => ?_⟩
    obtain ⟨d, rfl⟩ : ∃ e : Nat, d = (e : Int) := ⟨d.toNat, by omega⟩
    have B1 : But p H H1 := But.took k1
    refine ⟨1, (d : Int), rfl, rfl, ?_⟩
    refine ⟨1 + (d : Int), rfl, by omega, by omega, fun D hD => ?_⟩
    have eN : (1 + (d : Int)).toNat = 1 + d := by omega
    rw [eN]
    have nDp := P1.nep hD
    have nDl := P1.nel hD
    have HD : H D = none := by
      cases e : H D with
      | none => rfl
      | some o =>
        have := B1 D o (Ne.symm nDp) e
        rw [hD] at this
        cases this
    refine lc_range (fun i H' => ∃ ss : List Nat, ss.length = i ∧ But p H H' ∧ PenL H' p l (n + 1 + i) ∧ H' D = some (.lst (nums ss)) ∧ ∀ s ∈ ss, 1 ≤ s ∧ s ≤ m) ⟨[], rfl, B1.put HD, P1.put nDp nDl, upd_same, fun s hs => by simp at hs⟩ (fun i H2 hi h2 => ?_) (fun H2 h2 => ?_)
    · obtain ⟨ss, e1, B2, P2, hD2, hs⟩ := h2
      refine ⟨rfl, yes1 ?_⟩
      refine ⟨_, rfl, _, rfl, p, l, (m : Int), n + 1 + i, rfl, by omega, by omega, by omega, P2, fun c H3 hc0 hc1 P3 k3 => ?_⟩
      obtain ⟨c, rfl⟩ : ∃ e : Nat, c = (e : Int) := ⟨c.toNat, by omega⟩
      refine ⟨1, (c : Int), rfl, rfl, nums ss, by rw [k3 D (Ne.symm nDp)]; exact hD2, by unfold nums; rw [List.length_map, e1]; exact small1 _ (by omega), ?_⟩
      have e5 : nums ss ++ [V.int (1 + (c : Int))] = nums (ss ++ [1 + c]) := by
        unfold nums
        rw [List.map_append]
        simp
      rw [e5]
      refine ⟨ss ++ [1 + c], by rw [List.length_append, e1] <;> rfl, (B2.trans (But.took k3)).put HD, P3.put nDp nDl, upd_same, fun s h => ?_⟩
      rcases List.mem_append.mp h with h | h
      · exact hs s h
      · have := List.mem_singleton.mp h
        omega
    · obtain ⟨ss, e1, B2, P2, hD2, hs⟩ := h2
      exact ret D ss H2 B2 (P2.mono (by omega)) HD hD2 (by omega) (by omega) hs
theorem ok_Ldrawn (T : TxL K mg z w) : FnOk P wo K mg base CX0 3 w.a_Ldrawn w.d_Ldrawn ["_law_pen_here", "_law_sizes_here"] spDrawn := by
  refine T.F_Ldrawn.ok sc_Ldrawn (fun vs H Q E h => ?_) (fun cdv A outer s H vs Q E hr h => ?_)
  · obtain ⟨p, l, q, n, ss, rfl, _⟩ := h
    rfl
  · obtain ⟨p, l, q, n, ss, rfl, hn, hP, hq, hs1, hs3, hss, ret⟩ := h
    have hr1 : Room 2 _ := hr
    have G_Ltake : FnOk P wo K mg base CX0 2 w.a_Ltake w.d_Ltake ["_law_pen_here", "_law_many"] spTake := ok_take T.F_Ltake T.pp
    refine ⟨_, (pss_one (ps_ret (pe_joinK (K := K) rfl pe_str (pa_cons (by refine' pe_lc (own := [("_law_size", 2)]) (tt := tYes) rfl sc_Ldrawn.nd ?hi (blkOk_by (N := ["_law_pen_here", "_law_sizes_here", "_law_size", "_law_bit"]) (sc := defScope s_Ldrawn) (by first | decide +kernel | kernel_rfl | rfl)) ?hg ?ht ?he (by intro _; rfl); (case hi => exact (pi_list (pv 1))); (case hg => exact fun _ _ _ _ _ => (pg_name (i := 2) sc_Ldrawn.nd rfl (Or.inl rfl))); (case ht => exact fun _ _ _ _ _ => pts_nil); (case he => exact fun _ _ _ _ _ => (pe_joinK (K := K) rfl pe_str (pa_cons (by refine' pe_lc (own := [("_law_bit", 3)]) (tt := tYes) rfl sc_Ldrawn.nd ?hi (blkOk_by (N := ["_law_pen_here", "_law_sizes_here", "_law_size", "_law_bit"]) (by first | decide +kernel | kernel_rfl | rfl)) ?hg ?ht ?he (by intro _; rfl); (case hi => exact (pi_range1 rfl T.n_range (pa_cons (pv 2) pa_nil))); (case hg => exact fun _ _ _ _ _ => (pg_name (i := 3) sc_Ldrawn.nd rfl (Or.inl rfl))); (case ht => exact fun _ _ _ _ _ => pts_nil); (case he => exact fun _ _ _ _ _ => (pe_ix ix_str pe_str (pe_call G_Ltake hr1 rfl T.g_Ltake T.k_Ltake T.b_Ltake .nil pass0 (pa_cons (pv 0) (pa_cons pe_int pa_nil))) (fun _ _ => rfl)))) pa_nil)))) pa_nil)))), ?_⟩
    refine ⟨rfl, ?_⟩
    refine ⟨_, rfl, q, rfl, ⟨_, SqL.of hq⟩, fun D hD => ?_⟩
    have nDp := hP.nep hD
    have nDl := hP.nel hD
    have nqp : q ≠ p := by
      obtain ⟨cs, a, r, f, e, _⟩ := hP
      exact ne_of hq e (fun z => nomatch z)
    have sums : ∀ i, (ss.take i).sum ≤ i * 40 := fun i => by
      induction i with
      | zero => simp
      | succ i ih =>
        cases e : ss[i]? with
        | none => rw [List.take_add_one, e]; simp; omega
        | some s =>
          have := (hss s (List.mem_of_getElem? e)).2
          rw [List.take_add_one, e, List.sum_append]
          simp
          omega
    refine lc_list (K := K) (a := q) (xs := nums ss) (fun i H' => ∃ bs : List (List Nat), bs.map List.length = ss.take i ∧ (∀ b ∈ bs, ∀ c ∈ b, c = 48 ∨ c = 49) ∧ But p H H' ∧ PenL H' p l (n + (ss.take i).sum) ∧ H' D = some (.lst ((bs.map S).map V.str)))
      ⟨[], rfl, (fun b hb => by simp at hb), But.refl.new hD, by simpa using hP.put nDp nDl, upd_same⟩ (fun i H2 _ h2 => ?_) (fun i x H2 e h2 => ?_) (fun H2 h2 => ?_)
    · obtain ⟨bs, _, _, B2, _⟩ := h2
      exact SqL.of (B2 q _ nqp hq)
    · obtain ⟨bs, e1, hb, B2, P2, hD2⟩ := h2
      unfold nums at e
      rw [List.getElem?_map] at e
      cases es : ss[i]? with
      | none => rw [es] at e; cases e
      | some s =>
        rw [es] at e
        cases e
        have hi : i < ss.length := (List.getElem?_eq_some_iff.mp es).1
        have hsb := hss s (List.mem_of_getElem? es)
        have e2 : ss.take (i + 1) = ss.take i ++ [s] := by rw [List.take_add_one, es] <;> rfl
        have sb := sums i
        refine ⟨rfl, yes1 ?_⟩
        refine ⟨rfl, ?_⟩
        refine ⟨_, rfl, (s : Int), rfl, by omega, by omega, fun D2 hD3 => ?_⟩
        have nD2p := P2.nep hD3
        have nD2l := P2.nel hD3
        have nDD : D ≠ D2 := ne_of_none hD2 hD3
        rw [show ((s : Int)).toNat = s from rfl]
        refine lc_range (fun j H' => ∃ b : List Nat, b.length = j ∧ (∀ c ∈ b, c = 48 ∨ c = 49) ∧ But p H2 H' ∧ PenL H' p l (n + (ss.take i).sum + j) ∧ H' D2 = some (.lst ((b.map fun c => S [c]).map V.str))) ⟨[], rfl, (fun c hc => by simp at hc), But.refl.new hD3, P2.put nD2p nD2l, upd_same⟩ (fun j H3 hj h3 => ?_) (fun H3 h3 => ?_)
        · obtain ⟨b, b1, b2, B3, P3, hb3⟩ := h3
          refine ⟨rfl, yes1 ?_⟩
          refine ⟨_, rfl, p, l, 2, n + (ss.take i).sum + j, rfl, by decide, by decide, by omega, P3, fun d H4 hd0 hd1 P4 k4 => ?_⟩
          have hd : d = 0 ∨ d = 1 := by omega
          have fin : ∀ c : Nat, (c = 48 ∨ c = 49) → ∃ b' : List Nat, b'.length = j + 1 ∧ (∀ c ∈ b', c = 48 ∨ c = 49) ∧ But p H2 (upd H4 D2 (.lst ((b.map fun c => S [c]).map V.str ++ [.str (S [c])]))) ∧ PenL (upd H4 D2 (.lst ((b.map fun c => S [c]).map V.str ++ [.str (S [c])]))) p l (n + (ss.take i).sum + (j + 1)) ∧ (upd H4 D2 (.lst ((b.map fun c => S [c]).map V.str ++ [.str (S [c])]))) D2 = some (.lst ((b'.map fun c => S [c]).map V.str)) := fun c hc =>
            ⟨b ++ [c], by rw [List.length_append, b1] <;> rfl, (fun x hx => by rcases List.mem_append.mp hx with h | h; exact b2 x h; exact (List.mem_singleton.mp h) ▸ hc), (B3.trans (But.took k4)).put hD3, (P4.mono (by omega)).put nD2p nD2l, by rw [upd_same, List.map_append, List.map_append] <;> rfl⟩
          have acc : H4 D2 = some (.lst ((b.map fun c => S [c]).map V.str)) := by rw [k4 D2 (Ne.symm nD2p)]; exact hb3
          have len : ((b.map fun c => S [c]).map V.str).length < sizeLine := by rw [List.length_map, List.length_map, b1]; exact small1 _ (by omega)
          rcases hd with rfl | rfl
          · exact ⟨"01", 0, 48, rfl, rfl, by decide, by decide +kernel, _, acc, len, fin 48 (.inl rfl)⟩
          · exact ⟨"01", 1, 49, rfl, rfl, by decide, by decide +kernel, _, acc, len, fin 49 (.inr rfl)⟩
        · obtain ⟨b, b1, b2, B3, P3, hb3⟩ := h3
          refine ⟨"", D2, b.map fun c => S [c], rfl, rfl, .inl (SqL.of hb3), ?_, ?_⟩
          · rw [List.map_map, sum_signs, List.length_map, b1]
            show _ + _ * 0 ≤ _
            omega
          · rw [join_signs]
            refine ⟨_, B3 D _ (Ne.symm nDp) hD2, ?_, ?_⟩
            · have := congrArg List.length e1
              rw [List.length_map, List.length_take] at this
              rw [List.length_map, List.length_map, this]
              exact small1 _ (by omega)
            · refine ⟨bs ++ [b], by rw [List.map_append, e1, e2] <;> simp [b1], fun x hx => ?_, (B2.trans B3).put hD, ?_, by rw [upd_same, List.map_append, List.map_append] <;> rfl⟩
              · rcases List.mem_append.mp hx with h | h
                · exact hb x h
                · exact (List.mem_singleton.mp h) ▸ b2
              · rw [e2, List.sum_append]
                exact (P3.mono (by simp; omega)).put nDp nDl
    · obtain ⟨bs, e1, hb, B2, P2, hD2⟩ := h2
      have en : (nums ss).length = ss.length := by unfold nums; rw [List.length_map]
      rw [en, List.take_length] at e1 P2
      have st := sums ss.length
      rw [List.take_length] at st
      have lb : bs.length = ss.length := by rw [← e1, List.length_map]
      have sl : ((bs.map S).map fun w => w.length).sum = ss.sum := by rw [SX.lens, e1]
      refine ⟨".", D, bs.map S, rfl, rfl, .inl (SqL.of hD2), ?_, ?_⟩
      · rw [sl, List.length_map, lb]
        show _ + _ * 1 ≤ _
        omega
      · have ne : bs ≠ [] := fun e => by rw [e] at lb; simp at lb; omega
        rw [S_d, SX.join_S]
        refine ret _ _ B2 (P2.mono (by omega)) (sg_join hb) ?_
        rw [szs_join ne hb, e1]
end
end Fb
-- bumped
set_option maxRecDepth 100000
set_option maxHeartbeats 4000000
namespace Fb
open PySem PySem.Spec PyProof.Rows L2
open SX (S)
def rSP (C : Addr) (f : List Nat → V) : List V → Hp → VK → Prop := fun xs H Q => ∃ a l, xs = [.ref a] ∧ PtI C H a l ∧ Q (f l) H
section
variable {X : Cx} {z : Pz}
theorem call_strP (T : Txp X.K X.mg z) (hr : Room 4 X.A) : CallR X (.type "str") (rSP z.C fun l => .str (S l)) := fun pins s σ H xs us Q I r h => by
  obtain ⟨a, l, rfl, ha, q⟩ := h
  obtain ⟨hp, dx, t, h1, h2⟩ := id ha
  exact call_strI (E := fun _ _ _ => False) T.m_str T.f_str ((ok_str T).raw T.b_str .nil) hr pass0 pins s σ H [.ref a] us Q I r ⟨a, dx, _, rfl, h1, a, l, rfl, ha, _, rfl, q⟩
theorem call_lenP (T : Txp X.K X.mg z) (hr : Room 3 X.A) : CallR X (.builtin "len") (rSP z.C fun l => .int ((bt l).length : Nat)) := fun pins s σ H xs us Q I r h => by
  obtain ⟨a, l, rfl, ha, q⟩ := h
  obtain ⟨hp, dx, t, h1, h2⟩ := id ha
  exact call_lenI (E := fun _ _ _ => False) T.m_len T.f_len ((ok_len T).raw T.b_len .nil) hr pass0 pins s σ H [.ref a] us Q I r ⟨a, dx, _, rfl, h1, a, l, rfl, ha, _, rfl, by have := bt_len hp; omega, q⟩
theorem call_boolP (T : Txp X.K X.mg z) (hr : Room 4 X.A) : CallR X (.type "bool") (rSP z.C fun l => .bl (decide (49 ∈ bt l))) := fun pins s σ H xs us Q I r h => by
  obtain ⟨a, l, rfl, ha, q⟩ := h
  obtain ⟨hp, dx, t, h1, h2⟩ := id ha
  exact call_boolI (E := fun _ _ _ => False) T.m_bool T.f_bool ((ok_bool T).raw T.b_bool .nil) hr pass0 pins s σ H [.ref a] us Q I r ⟨a, dx, _, rfl, h1, a, l, rfl, ha, _, rfl, q⟩
/-- does this bit stand? -/
def inB (b : List Nat) : Option Int → Bool
  | some i => if 0 ≤ i then decide (b[i.toNat]? = some 49) else false
  | none => false
def rInP (K : PySem.W.Frag) (C : Addr) : R2 := fun x y H Q => ∃ a l r, y = .ref a ∧ PtI C H a l ∧ Wh K H x r ∧ ∀ H', Same H H' → Q (.bl (inB (bt l) r)) H'
theorem op_inP (T : Txp X.K X.mg z) (hr : Room 4 X.A) : OpR X (compareOp .In) (rInP X.K z.C) := fun pins s σ H x y v u Q I rx ry h => by
  obtain ⟨a, l, r, rfl, ha, hw, q⟩ := h
  obtain ⟨hp, dx, t, h1, h2⟩ := id ha
  refine op_inI (E := fun _ _ _ => False) T.m_contains T.f_contains ((ok_contains T).raw T.b_contains .nil) hr pass0 pins s σ H x (.ref a) v u Q I rx ry ⟨a, dx, _, rfl, h1, a, l, x, r, rfl, ha, hw, ?_⟩
  cases c : inR ((bt l).length : Nat) r with
  | true =>
    rw [if_pos rfl]
    obtain ⟨k, rfl, hk, rfl⟩ := whole_in hw c
    intro k' c' e1 e2 H' s'
    have : k' = k := by have := V.int.inj e1; omega
    subst this
    refine ⟨_, rfl, ?_⟩
    have q' := q H' s'
    unfold inB at q'
    dsimp only at q'
    rw [if_pos (by omega)] at q'
    rw [show ((k' : Int)).toNat = k' from rfl, e2] at q'
    rw [if_neg Bool.false_ne_true]
    simpa using q'
  | false =>
    rw [if_neg Bool.false_ne_true]
    intro H' s'
    refine ⟨_, rfl, ?_⟩
    have q' := q H' s'
    rw [if_neg Bool.false_ne_true]
    cases r with
    | none => exact q'
    | some i =>
      unfold inB at q'
      dsimp only at q'
      have c2 : (decide (0 ≤ i) && decide (i < ((bt l).length : Int))) = false := c
      by_cases h0 : 0 ≤ i
      · rw [if_pos h0] at q'
        have h3 : ¬ i < ((bt l).length : Int) := by simpa [h0] using c2
        rw [List.getElem?_eq_none (by omega)] at q'
        simpa using q'
      · rw [if_neg h0] at q'
        exact q'
end
def spJoined (K : PySem.W.Frag) : Sp := fun vs H Q _ => ∃ q t ss b, vs = [.ref q, .ref t] ∧ SqL K H q (nums ss) ∧ SqL K H t (sgV b) ∧ ss.length ≤ 1000 ∧ b.length ≤ 1000 ∧ ss.sum ≤ b.length ∧ ∀ H', Same H H' → Q (.str (S (jn ss b))) H'
def spTells (K : PySem.W.Frag) (C : Addr) : Sp := fun vs H Q _ => ∃ a q t l, vs = [.ref a, .ref q, .ref t] ∧ PtI C H a l ∧ SqL K H q (nums (szs l)) ∧ SqL K H t (sgV (bt l)) ∧ ∀ H', Same H H' → Q (.bl true) H'
section
variable {P : Program} {wo : World} {K : PySem.W.Frag} {mg : Str → Option Value} {base : Heap} {z : Pz} {w : Lz}
theorem ok_Ljoined (T : TxL K mg z w) : FnOk P wo K mg base CX0 2 w.a_Ljoined w.d_Ljoined ["_law_sizes_here", "_law_signs"] (spJoined K) := by
  refine T.F_Ljoined.ok sc_Ljoined (fun vs H Q E h => ?_) (fun cdv A outer s H vs Q E hr h => ?_)
  · obtain ⟨q, t, ss, b, rfl, _⟩ := h
    rfl
  · obtain ⟨q, t, ss, b, rfl, hq, ht, hl, hb, hs, ret⟩ := h
    refine ⟨_, (pss_cons (ps_set (i := 2) sc_Ljoined.nd rfl (Or.inl rfl) (pe_lst pa_nil))
      (pss_cons (ps_set (i := 3) sc_Ljoined.nd rfl (Or.inl rfl) pe_int)
      (pss_cons (ps_for PassesOwn.never rfl (pi_list (pv 0)) (pg_name (i := 4) sc_Ljoined.nd rfl (Or.inl rfl))
        (pss_cons (ps_expr (pe_bm PySem.F.plainAttrs_list PySem.F.slot_list_append PySem.F.type_list_append mt_append (pv 2) (pa_cons (pe_joinK (K := K) rfl pe_str (pa_cons (pe_slice sl_list (pv 1) (po_some (pv 3)) (po_some (pe_op op_add (pv 3) (pv 4)))) pa_nil)) pa_nil)))
        (pss_one (ps_set (i := 3) sc_Ljoined.nd rfl (Or.inl rfl) (pe_op op_add (pv 3) (pv 4))))))
      (pss_one (ps_ret (pe_joinK (K := K) rfl pe_str (pa_cons (pv 2) pa_nil))))))), ?_⟩
    refine ⟨by show 0 ≤ sizeLine; decide, fun p hp => ?_⟩
    have s1 := smN (o := .lst []) (Same.refl H) hp
    refine ⟨_, rfl, q, rfl, ⟨_, s1.seq hq⟩, ?_⟩
    refine for_list (K := K) (a := q) (xs := nums ss) (fun i σ H' => Same H H' ∧ H p = none ∧ (∃ x4, σ = [some (.ref q), some (.ref t), some (.ref p), some (.int ((ss.take i).sum : Nat)), x4]) ∧ H' p = some (.lst ((((cut ss b).take i).map S).map V.str))) ⟨s1, hp, ⟨_, rfl⟩, upd_same⟩ (fun i σ H' _ h => h.1.seq hq) ?_ ?_
    · rintro i x σ H2 e ⟨s2, np, ⟨x4, rfl⟩, hp2⟩
      unfold nums at e
      rw [List.getElem?_map] at e
      cases es : ss[i]? with
      | none => rw [es] at e; cases e
      | some s' =>
        rw [es] at e
        cases e
        have hi : i < ss.length := (List.getElem?_eq_some_iff.mp es).1
        have hle : (ss.take i).sum + s' ≤ b.length := by
          have := take_sum_le ss (i + 1)
          rw [take_sum_s es] at this
          omega
        refine ⟨_, rfl, .inl ⟨rfl, _, SqL.of hp2⟩, ?_⟩
        refine ⟨rfl, _, rfl, _, rfl, _, rfl, _, rfl, _, rfl, _, _, rfl, rfl, _, rfl, t, _, rfl, s2.seq ht, fun r hr => ?_⟩
        rw [cutV_sg hle]
        have s3 := smN (o := .lst (sgV ((b.drop (ss.take i).sum).take s'))) (Same.refl _) hr
        refine ⟨"", r, ((b.drop (ss.take i).sum).take s').map fun c => S [c], rfl, rfl, .inl (SqL.of (by rw [upd_same, sgV_str])), ?_, ?_⟩
        · rw [List.map_map, sum_signs, List.length_map, List.length_take]
          show _ + _ * 0 ≤ _
          omega
        · rw [join_signs]
          refine ⟨p, _, _, rfl, rfl, s3 _ _ hp2, ?_, ?_⟩
          · rw [List.length_map, List.length_map, List.length_take]
            exact small1 _ (by omega)
          · refine ⟨_, rfl, _, rfl, _, _, rfl, rfl, ?_⟩
            refine ⟨fun c o ec => ?_, np, ⟨some (.int (s' : Nat)), ?_⟩, ?_⟩
            · rw [upd_ne (ne_of_none ec np)]
              exact s3 c o (s2 c o ec)
            · rw [take_sum_s es, Int.natCast_add]
              rfl
            · rw [upd_same, List.take_add_one, cut_get es, List.map_append, List.map_append]
              rfl
    · rintro σ H2 ⟨s2, np, ⟨x4, rfl⟩, hp2⟩
      have en : (nums ss).length = (cut ss b).length := by unfold nums; rw [List.length_map, cut_len]
      rw [en, List.take_length] at hp2
      refine ⟨rfl, _, rfl, ".", p, _, rfl, rfl, .inl (SqL.of hp2), ?_, ?_⟩
      · rw [SX.lens, cut_lens hs, List.length_map, cut_len]
        show _ + _ * 1 ≤ _
        omega
      · rw [join_cut]
        exact ret _ s2
theorem ok_Ltells (T : TxL K mg z w) : FnOk P wo K mg base CX0 6 w.a_Ltells w.d_Ltells ["_law_p", "_law_sizes_here", "_law_signs"] (spTells K z.C) := by
  refine T.F_Ltells.ok sc_Ltells (fun vs H Q E h => ?_) (fun cdv A outer s H vs Q E hr h => ?_)
  · obtain ⟨a, q, t, l, rfl, _⟩ := h
    rfl
  · obtain ⟨a, q, t, l, rfl, hP, hq, ht, ret⟩ := h
    obtain ⟨hp, dx, tz, h1, h2⟩ := id hP
    have hr4 : Room 5 _ := hr
    have hr3 : Room 4 _ := hr.mono (by decide)
    have hr2 : Room 3 _ := hr.mono (by decide)
    have hr1 : Room 2 _ := hr.mono (by decide)
    have hu64 : (A.deeper (envOfC "_law_tells" (defScope s_Ltells) s.heap.objs.size w.a_Ltells cdv)).units + 64 < cLine := hr.units
    have G_Ljoined : FnOk P wo K mg base CX0 2 w.a_Ljoined w.d_Ljoined ["_law_sizes_here", "_law_signs"] (spJoined K) := ok_Ljoined T
    have e1 := bt_len hp
    have bs := bt_sum l
    refine ⟨_, (pss_cons (ps_if (PW.pt (pw_or (pt_cmpR (op_neD hu64) (pe_prop (pv 0) T.cls T.ps_sizes (ok_sizesP T.toTxp) hr2 T.b_sizes .nil pass0 rfl) (pe_callTy call_tuple_of (by rfl) T.n_tuple (by decide +kernel) (pa_cons (pv 1) pa_nil)) (nomark _)) (pw_or (pt_cmpR op_ne (pe_prop (pv 0) T.cls T.ps_standing (ok_standing T.toTxp) hr2 T.b_standing .nil pass0 rfl) (pe_bm PySem.F.plainAttrs_list PySem.F.slot_list_count PySem.F.type_list_count mt_lcountS (pv 2) (pa_cons pe_str pa_nil)) (nomark _)) (pw_or1 (pt_cmpR op_ne (pe_callB (call_lenP T.toTxp hr2) (by rfl) T.n_len (by decide +kernel) (pa_cons (pv 0) pa_nil)) (pe_callB call_len_seq (by rfl) T.n_len (by decide +kernel) (pa_cons (pv 2) pa_nil)) (nomark _))))))
        (pss_one (ps_ret pe_bl))
        pss_nil)
      (pss_cons (ps_if (PW.pt (pw_or (pt_cmpR op_ne (pe_callTy (call_boolP T.toTxp hr3) (by rfl) T.n_bool (by decide +kernel) (pa_cons (pv 0) pa_nil)) (pe_cmpR op_in_seq pe_str (pv 2) rfl) (nomark _)) (pw_or1 (pt_cmpR op_ne (pe_callTy (call_strP T.toTxp hr3) (by rfl) T.n_str (by decide +kernel) (pa_cons (pv 0) pa_nil)) (pe_call G_Ljoined hr1 rfl T.g_Ljoined T.k_Ljoined T.b_Ljoined .nil pass0 (pa_cons (pv 1) (pa_cons (pv 2) pa_nil))) (nomark _)))))
        (pss_one (ps_ret pe_bl))
        pss_nil)
      (pss_cons (ps_for PassesOwn.never rfl (pi_range1 rfl T.n_range (pa_cons (pe_callB call_len_seq (by rfl) T.n_len (by decide +kernel) (pa_cons (pv 2) pa_nil)) pa_nil)) (pg_name (i := 3) sc_Ltells.nd rfl (Or.inl rfl))
        (pss_one (ps_if (PW.pt (pw_or (pt_cmpR op_ne (pe_callB SkE.call_repr_int (by rfl) T.n_repr (by decide +kernel) (pa_cons (pe_ixI T.m_getitem T.fi_getitem T.f_getitem ((ok_getitem T.toTxp).raw T.b_getitem .nil) hr4 passL (pv 0) (pv 3)) pa_nil)) (pe_ix ix_list (pv 2) (pv 3) (fun _ _ => rfl)) (nomark _)) (pw_or1 (pt_cmpR op_ne (pe_cmpR (op_inP T.toTxp hr3) (pv 3) (pv 0) rfl) (pe_cmpR op_eq (pe_ix ix_list (pv 2) (pv 3) (fun _ _ => rfl)) pe_str (nomark _)) (nomark _)))))
          (pss_one (ps_ret pe_bl))
          pss_nil)))
      (pss_one (ps_ret pe_bl))))), ?_⟩
    -- sizes, standing, len
    refine ⟨_, rfl, a, dx, _, rfl, h1, a, l, rfl, hP, fun t1 ht1 => ?_⟩
    refine ⟨_, rfl, q, _, rfl, .inl ⟨hq, fun t2 hn2 => ?_⟩⟩
    have s1 := smN (o := .tup (nums (szs l))) (Same.refl H) hn2
    refine ⟨_, _, .tup (SqT.of (s1 _ _ ht1)) (dp_nums _), .tup (SqT.of upd_same) (dp_nums _), shaped_tup (lay_nums _), shaped_tup (lay_nums _), _, rfl, ?_⟩
    rw [eqv_numT, decide_eq_true rfl]
    refine iteF ?_
    refine ⟨_, rfl, a, dx, _, rfl, s1 _ _ h1, a, l, rfl, hP.same s1, ?_⟩
    refine ⟨_, rfl, .inl ⟨rfl, _, s1.seq ht⟩, t, _, _, rfl, by rw [S_1] <;> rfl, by rw [← sgV_str]; exact s1.seq ht, ?_⟩
    rw [count_sg]
    refine ⟨rfl, _, rfl, ?_⟩
    rw [decide_eq_true rfl]
    refine iteF ?_
    refine ⟨_, rfl, a, l, rfl, hP.same s1, ?_⟩
    refine ⟨_, rfl, t, _, rfl, .inl (s1.seq ht), ?_⟩
    refine ⟨rfl, _, rfl, ?_⟩
    rw [show decide (V.int ((bt l).length : Nat) = V.int ((sgV (bt l)).length : Nat)) = true by rw [List.length_map]; exact decide_eq_true rfl]
    refine iteF ?_
    -- truth, text
    refine ⟨_, rfl, a, l, rfl, hP.same s1, ?_⟩
    refine ⟨_, rfl, t, _, rfl, .inl (s1.seq ht), rfl, flat_sgV _, ?_⟩
    rw [S_1, inV_sgV]
    refine ⟨rfl, _, rfl, ?_⟩
    rw [show (decide ((fun l => V.bl (decide (49 ∈ bt l))) l = V.bl (if false = true then !decide (49 ∈ bt l) else decide (49 ∈ bt l)))) = true from decide_eq_true (by rw [if_neg Bool.false_ne_true])]
    refine iteF ?_
    refine ⟨_, rfl, a, l, rfl, hP.same s1, ?_⟩
    refine ⟨_, rfl, _, rfl, q, t, szs l, bt l, rfl, s1.seq hq, s1.seq ht, ?_, by omega, by omega, fun H2 s2 => ?_⟩
    · have := hp.few
      omega
    rw [jn_of]
    refine ⟨rfl, _, rfl, ?_⟩
    rw [decide_eq_true rfl]
    refine iteF ?_
    have s12 := s1.trans s2
    -- the bits
    refine ⟨_, rfl, t, _, rfl, .inl (s12.seq ht), ((bt l).length : Nat), by rw [List.length_map], by omega, by omega, ?_⟩
    rw [show (((bt l).length : Nat) : Int).toNat = (bt l).length from rfl]
    refine for_range (n := (bt l).length) (fun i σ H' => Same H H' ∧ ∃ x3, σ = [some (.ref a), some (.ref q), some (.ref t), x3]) ⟨s12, _, rfl⟩ ?_ ?_
    · rintro i σ H3 hi ⟨s3, x3, rfl⟩
      have ei : (bt l)[i]? = some (bt l)[i] := List.getElem?_eq_getElem hi
      have hb := hp.bits _ (List.getElem_mem hi)
      generalize (bt l)[i] = c at ei hb
      rw [Int.zero_add]
      have at1 : atI (sgV (bt l)) (i : Int) = some (.str (S [c])) := atI_nat (by rw [List.getElem?_map, ei] <;> rfl)
      obtain ⟨_, dx3, tz3, h31, h32⟩ := hP.same s3
      refine ⟨_, rfl, _, rfl, a, dx3, _, rfl, h31, a, l, .int (i : Nat), some (i : Int), rfl, hP.same s3, .inl ⟨_, rfl, rfl⟩, ?_⟩
      rw [show inR ((bt l).length : Nat) (some (i : Int)) = true by show (decide (0 ≤ (i : Int)) && decide ((i : Int) < ((bt l).length : Nat))) = true; rw [decide_eq_true (by omega), decide_eq_true (by omega)] <;> rfl, if_pos rfl]
      intro k' c' ek ec H4 s4
      have : k' = i := by have := V.int.inj ek; omega
      subst this
      rw [ei] at ec
      cases ec
      have s34 := s3.trans s4
      refine ⟨_, rfl, by rcases hb with rfl | rfl <;> decide +kernel, ?_⟩
      refine ⟨_, rfl, _, rfl, t, _, _, _, rfl, rfl, s34.seq ht, at1, rfl, _, rfl, ?_⟩
      have e5 : (Str.ofString (toString ((c - 48 : Nat) : Int))) = S [c] := by rcases hb with rfl | rfl <;> decide +kernel
      rw [e5, decide_eq_true rfl]
      refine iteF ?_
      refine ⟨_, rfl, _, rfl, a, l, some (k' : Int), rfl, hP.same s34, .inl ⟨_, rfl, rfl⟩, fun H5 s5 => ?_⟩
      have s35 := s34.trans s5
      refine ⟨_, rfl, _, rfl, t, _, _, _, rfl, rfl, s35.seq ht, at1, rfl, ?_⟩
      refine ⟨rfl, _, rfl, ?_⟩
      have e6 : V.bl (inB (bt l) (some (k' : Int))) = V.bl (decide (V.str (S [c]) = V.str (S [49]))) := by
        unfold inB
        dsimp only
        rw [if_pos (by omega), show ((k' : Int)).toNat = k' from rfl, ei]
        congr 1
        rw [decide_eq_decide]
        constructor
        · intro q; cases q; rfl
        · intro q; have := S_eq.mp q; simp at this; rw [this]
      rw [e6, decide_eq_true rfl]
      exact iteF ⟨s35, _, rfl⟩
    · rintro σ H3 ⟨s3, x3, rfl⟩
      exact ret _ s3
end
end Fb
-- bumped
set_option maxRecDepth 100000
set_option maxHeartbeats 4000000
namespace Fb
open PySem PySem.Spec PyProof.Rows L2
open SX (S)
theorem PenL.neo {H : Hp} {p l q : Addr} {n : Nat} {o : HO} (h : PenL H p l n) (e : H q = some o) (hn : ∀ kvs, o ≠ .dK kvs) : q ≠ p := fun z => by
  obtain ⟨cs, a, r, f, e2, _⟩ := h
  rw [z, e2] at e
  exact hn _ (Option.some.inj e).symm
theorem PtI.but {C : Addr} {H H' : Hp} {p l a : Addr} {n : Nat} {x : List Nat} (h : PtI C H a x) (hP : PenL H p l n) (b : But p H H') : PtI C H' a x := by
  obtain ⟨hp, dx, t, h1, h2⟩ := h
  exact ⟨hp, dx, t, b _ _ (hP.neo h1 fun _ z => nomatch z) h1, b _ _ (hP.neo h2 fun _ z => nomatch z) h2⟩
theorem ne_ft : (("fallen" : Str) == "_text") = false := by decide +kernel
theorem ne_fb : (("fallen" : Str) == "_bits") = false := by decide +kernel
theorem ne_fs : (("fallen" : Str) == "_sizes") = false := by decide +kernel
theorem ne_et : (("erased" : Str) == "_text") = false := by decide +kernel
theorem ne_eb : (("erased" : Str) == "_bits") = false := by decide +kernel
theorem ne_es : (("erased" : Str) == "_sizes") = false := by decide +kernel
theorem lkF {l : List Nat} {t : Addr} : (ptF l t).lookup ("fallen" : Str) = none := by simp [ptF, List.lookup, ne_ft, ne_fb, ne_fs]
theorem lkE {l : List Nat} {t : Addr} : (ptF l t).lookup ("erased" : Str) = none := by simp [ptF, List.lookup, ne_et, ne_eb, ne_es]
abbrev whs (bs : List Nat) : List (Option Int) := bs.map fun b : Nat => some (b : Int)
theorem wh_nums {K : PySem.W.Frag} {H : Hp} : ∀ bs : List Nat, Paired (Wh K H) (nums bs) (whs bs)
  | [] => .nil
  | b :: bs => .cons (.inl ⟨_, rfl, rfl⟩) (wh_nums bs)
theorem inR_nat {m b : Nat} (h : b < m) : inR (m : Nat) (some (b : Int)) = true := by
  show (decide (0 ≤ (b : Int)) && decide ((b : Int) < (m : Nat))) = true
  rw [decide_eq_true (by omega), decide_eq_true (by omega)]
  rfl
theorem whs_in {m : Nat} : ∀ {bs : List Nat}, (∀ b ∈ bs, b < m) → (whs bs).all (inR (m : Nat)) = true
  | [], _ => rfl
  | b :: bs, h => by
    show (inR (m : Nat) (some (b : Int)) && (whs bs).all (inR (m : Nat))) = true
    rw [whs_in (bs := bs) fun c hc => h c (List.mem_cons_of_mem _ hc), inR_nat (h b List.mem_cons_self)]
    rfl
theorem nums_inj : ∀ {a b : List Nat}, nums a = nums b → a = b
  | [], [], _ => rfl
  | [], _ :: _, h => by simp [nums] at h
  | _ :: _, [], h => by simp [nums] at h
  | x :: a, y :: b, h => by
    have h1 : V.int (x : Nat) = V.int (y : Nat) := (List.cons.inj h).1
    have h2 : nums a = nums b := (List.cons.inj h).2
    have := V.int.inj h1
    rw [nums_inj h2, show x = y by omega]
theorem cutV_nums {ss : List Nat} {k : Nat} (h : k ≤ ss.length) : cutV (nums ss) none (some (k : Int)) = nums (ss.take k) := by
  unfold cutV nums
  rw [HT.sIx_none, HT.sIx_nat, List.length_map, Nat.min_eq_left h, List.drop_zero, Nat.sub_zero, ← List.map_take]
theorem set_sg (b : List Nat) (i c : Nat) : (sgV b).set i (.str (S [c])) = sgV (b.set i c) := by
  unfold sgV
  rw [List.map_set]
def spChanged (K : PySem.W.Frag) (C : Addr) : Sp := fun vs H Q _ => ∃ (p l a q t : Addr) (n : Nat) (x : List Nat), vs = [.ref p, .ref a, .ref q, .ref t] ∧ n < 900000 ∧ PenL H p l n ∧ PtI C H a x ∧ H q = some (.lst (nums (szs x))) ∧ H t = some (.lst (sgV (bt x))) ∧
  ∀ H', But p H H' → PenL H' p l (n + 10) → Q (.bl true) H'
section
variable {P : Program} {wo : World} {K : PySem.W.Frag} {mg : Str → Option Value} {base : Heap} {z : Pz} {w : Lz}
theorem ok_Lchanged (T : TxL K mg z w) : FnOk P wo K mg base CX0 7 w.a_Lchanged w.d_Lchanged ["_law_pen_here", "_law_p", "_law_sizes_here", "_law_signs"] (spChanged K z.C) := by
  refine T.F_Lchanged.ok sc_Lchanged (fun vs H Q E h => ?_) (fun cdv A outer s H vs Q E hr h => ?_)
  · obtain ⟨p, l, a, q, t, n, x, rfl, _⟩ := h
    rfl
  · obtain ⟨p, l, a, q, t, n, x, rfl, hn, hP, hA, hq, ht, ret⟩ := h
    have hp := hA.1
    have hr5 : Room 6 _ := hr
    have hr1 : Room 2 _ := hr.mono (by decide)
    have hu64 : (A.deeper (envOfC "_law_changed" (defScope s_Lchanged) s.heap.objs.size w.a_Lchanged cdv)).units + 64 < cLine := hr.units
    have G_Ltake : FnOk P wo K mg base CX0 2 w.a_Ltake w.d_Ltake ["_law_pen_here", "_law_many"] spTake := ok_take T.F_Ltake T.pp
    have G_Ltells : FnOk P wo K mg base CX0 6 w.a_Ltells w.d_Ltells ["_law_p", "_law_sizes_here", "_law_signs"] (spTells K z.C) := ok_Ltells T
    have b120 := bt_len hp
    have b1 : 1 ≤ (bt x).length := nb_pos hp
    have few := hp.few
    have bsm := bt_sum x
    have z1 : 1 ≤ (szs x).length := (szA_len x 0).1
    have lq : (nums (szs x)).length = (szs x).length := by unfold nums; rw [List.length_map]
    have lt : (sgV (bt x)).length = (bt x).length := by unfold sgV; rw [List.length_map]
    have nqp := hP.neo hq (fun _ z => nomatch z)
    have ntp := hP.neo ht (fun _ z => nomatch z)
    refine ⟨_, (pss_cons (by refine' ps_setLc (own := [("_law_k", 11)]) (tt := tYes) (i := 4) rfl sc_Lchanged.nd rfl rfl (sw_true rfl rfl rfl (by decide +kernel)) ?hi (blkOk_by (N := ["_law_pen_here", "_law_p", "_law_sizes_here", "_law_signs", "_law_bits", "_law_lower", "_law_bit", "_law_block", "_law_first", "_law_upper", "_law_handed", "_law_k"]) (sc := defScope s_Lchanged) (by first | decide +kernel | kernel_rfl | rfl)) ?hg ?ht ?he (by intro _; rfl); (case hi => exact (pi_range1 rfl T.n_range (pa_cons (pe_call G_Ltake hr1 rfl T.g_Ltake T.k_Ltake T.b_Ltake .nil pass0 (pa_cons (pv 0) (pa_cons pe_int pa_nil))) pa_nil))); (case hg => exact fun _ _ _ _ _ => (pg_name (i := 11) sc_Lchanged.nd rfl (Or.inl rfl))); (case ht => exact fun _ _ _ _ _ => pts_nil); (case he => exact fun _ _ _ _ _ => (pe_call G_Ltake hr1 rfl T.g_Ltake T.k_Ltake T.b_Ltake .nil pass0 (pa_cons (pv 0) (pa_cons (pe_callB (call_len_seqK (K := K) rfl) (by rfl) T.n_len (by decide +kernel) (pa_cons (pv 3) pa_nil)) pa_nil)))))
      (pss_cons (ps_set (i := 5) sc_Lchanged.nd rfl (Or.inl rfl) (pe_callTy call_list_of (by rfl) T.n_list (by decide +kernel) (pa_cons (pv 3) pa_nil)))
      (pss_cons (ps_for PassesOwn.never rfl (pi_list (pv 4)) (pg_name (i := 6) sc_Lchanged.nd rfl (Or.inl rfl))
        (pss_one (ps_asg pe_str (pg_sub (pv 5) (pv 6) set_list))))
      (pss_cons (ps_set (i := 7) sc_Lchanged.nd rfl (Or.inl rfl) (pe_call G_Ltake hr1 rfl T.g_Ltake T.k_Ltake T.b_Ltake .nil pass0 (pa_cons (pv 0) (pa_cons (pe_callB call_len_seq (by rfl) T.n_len (by decide +kernel) (pa_cons (pv 2) pa_nil)) pa_nil))))
      (pss_cons (ps_set (i := 8) sc_Lchanged.nd rfl (Or.inl rfl) (pe_callB (cr_sum rfl) (by rfl) T.n_sum (by decide +kernel) (pa_cons (pe_slice sl_list (pv 2) po_none (po_some (pv 7))) pa_nil)))
      (pss_cons (ps_set (i := 9) sc_Lchanged.nd rfl (Or.inl rfl) (pe_callTy call_list_of (by rfl) T.n_list (by decide +kernel) (pa_cons (pv 3) pa_nil)))
      (pss_cons (ps_for PassesOwn.never rfl (pi_range2 rfl T.n_range (pa_cons (pv 8) (pa_cons (pe_op op_add (pv 8) (pe_ix ix_list (pv 2) (pv 7) (fun _ _ => rfl))) pa_nil))) (pg_name (i := 6) sc_Lchanged.nd rfl (Or.inl rfl))
        (pss_one (ps_asg pe_str (pg_sub (pv 9) (pv 6) set_list))))
      (pss_cons (ps_set (i := 10) sc_Lchanged.nd rfl (Or.inl rfl) (pe_callTy call_list_of (by rfl) T.n_list (by decide +kernel) (pa_cons (pv 4) pa_nil)))
      (pss_cons (ps_if (PW.pt (pw_or (pt_not (pt_val (pe_call G_Ltells hr5 rfl T.g_Ltells T.k_Ltells T.b_Ltells .nil pass0 (pa_cons (pe_meth (pv 1) T.cls T.bm_fallen (ok_fallen T.toTxp) hr5 T.b_fallen .nil passL (pa_cons (pv 10) pa_nil)) (pa_cons (pv 2) (pa_cons (pv 5) pa_nil)))))) (pw_or1 (pt_not (pt_val (pe_call G_Ltells hr5 rfl T.g_Ltells T.k_Ltells T.b_Ltells .nil pass0 (pa_cons (pe_meth (pv 1) T.cls T.bm_erased (ok_erased T.toTxp) hr5 T.b_erased .nil passL (pa_cons (pv 7) pa_nil)) (pa_cons (pv 2) (pa_cons (pv 9) pa_nil)))))))))
        (pss_one (ps_ret pe_bl))
        pss_nil)
      (pss_one (ps_ret (pe_and (pe_cmpR (op_eqD hu64) (pv 10) (pv 4) (nomark _)) (pe_one (pe_call G_Ltells hr5 rfl T.g_Ltells T.k_Ltells T.b_Ltells .nil pass0 (pa_cons (pv 1) (pa_cons (pv 2) (pa_cons (pv 3) pa_nil))))))))))))))))), ?_⟩
    -- the bits
    refine ⟨_, rfl, p, l, 6, n, rfl, by decide, by decide, by omega, hP, fun d H1 hd0 hd1 P1 k1 => ?_⟩
    obtain ⟨d, rfl⟩ : ∃ e : Nat, d = (e : Int) := ⟨d.toNat, by omega⟩
    have B1 : But p H H1 := But.took k1
    refine ⟨(d : Int), rfl, by omega, by omega, fun D hD => ?_⟩
    rw [show ((d : Nat) : Int).toNat = d from rfl]
    have nDp := P1.nep hD
    have nDl := P1.nel hD
    have HD : H D = none := by
      cases e : H D with
      | none => rfl
      | some o =>
        have := B1 D o (Ne.symm nDp) e
        rw [hD] at this
        cases this
    refine lc_range (fun i H' => ∃ bs : List Nat, bs.length = i ∧ But p H H' ∧ PenL H' p l (n + 1 + i) ∧ H' D = some (.lst (nums bs)) ∧ ∀ b ∈ bs, b < (bt x).length) ⟨[], rfl, B1.put HD, P1.put nDp nDl, upd_same, fun s hs => by simp at hs⟩ (fun i H2 hi h2 => ?_) (fun H2 h2 => ?_)
    · obtain ⟨bs, e1, B2, P2, hD2, hs⟩ := h2
      refine ⟨rfl, yes1 ?_⟩
      refine ⟨_, rfl, _, rfl, t, _, rfl, .inl (SqL.of (B2 t _ ntp ht)), p, l, ((bt x).length : Nat), n + 1 + i, by rw [lt] <;> rfl, by omega, by omega, by omega, P2, fun c H3 hc0 hc1 P3 k3 => ?_⟩
      obtain ⟨c, rfl⟩ : ∃ e : Nat, c = (e : Int) := ⟨c.toNat, by omega⟩
      refine ⟨nums bs, by rw [k3 D (Ne.symm nDp)]; exact hD2, by unfold nums; rw [List.length_map, e1]; exact small1 _ (by omega), ?_⟩
      have e5 : nums bs ++ [V.int (c : Int)] = nums (bs ++ [c]) := by
        unfold nums
        rw [List.map_append]
        rfl
      rw [e5]
      refine ⟨bs ++ [c], by rw [List.length_append, e1] <;> rfl, (B2.trans (But.took k3)).put HD, P3.put nDp nDl, upd_same, fun s h => ?_⟩
      rcases List.mem_append.mp h with h | h
      · exact hs s h
      · have := List.mem_singleton.mp h
        omega
    obtain ⟨bs, e1, B2, P2, hD2, hb⟩ := h2
    have P2 := P2.mono (show n + 1 + d ≤ n + 7 by omega)
    -- lower
    refine ⟨_, rfl, t, _, rfl, .inl (SqL.of (B2 t _ ntp ht)), fun L hL => ?_⟩
    have nLp := P2.nep hL
    have nLl := P2.nel hL
    have HL : H L = none := by
      cases e : H L with
      | none => rfl
      | some o =>
        have := B2 L o (Ne.symm nLp) e
        rw [hL] at this
        cases this
    have nLD : L ≠ D := fun e => by rw [e, hD2] at hL; cases hL
    refine ⟨_, rfl, D, rfl, ⟨_, SqL.of (by rw [upd_ne (Ne.symm nLD)]; exact hD2)⟩, ?_⟩
    refine for_list (K := K) (a := D) (xs := nums bs) (fun i σ H' => But p H H' ∧ PenL H' p l (n + 7) ∧ H' D = some (.lst (nums bs)) ∧ H' L = some (.lst (sgV (flB 48 (bt x) (bs.take i)))) ∧ ∃ x6 x7 x8 x9 x10 x11, σ = [some (.ref p), some (.ref a), some (.ref q), some (.ref t), some (.ref D), some (.ref L), x6, x7, x8, x9, x10, x11])
      ⟨B2.put HL, P2.put nLp nLl, by rw [upd_ne (Ne.symm nLD)]; exact hD2, upd_same, _, _, _, _, _, _, rfl⟩ (fun i σ H' _ h => SqL.of h.2.2.1) ?_ ?_
    · rintro i y σ H3 e ⟨B3, P3, hD3, hL3, x6, x7, x8, x9, x10, x11, rfl⟩
      unfold nums at e
      rw [List.getElem?_map] at e
      cases eb : bs[i]? with
      | none => rw [eb] at e; cases e
      | some b =>
        rw [eb] at e
        cases e
        have lb := hb b (List.mem_of_getElem? eb)
        refine ⟨_, rfl, _, rfl, L, _, (b : Int), b, rfl, rfl, hL3, ixN_at (by unfold sgV; rw [List.length_map, flB_len]; exact lb), ?_⟩
        refine ⟨B3.put HL, P3.put nLp nLl, by rw [upd_ne (Ne.symm nLD)]; exact hD3, ?_, _, _, _, _, _, _, rfl⟩
        rw [upd_same, S_0, set_sg, take_s eb]
        unfold flB
        rw [List.foldl_append]
        rfl
    rintro σ H3 ⟨B3, P3, hD3, hL3, x6, x7, x8, x9, x10, x11, rfl⟩
    have lbs : (nums bs).length = bs.length := by unfold nums; rw [List.length_map]
    rw [lbs, List.take_length] at hL3
    -- the block
    refine ⟨_, rfl, _, rfl, q, _, rfl, .inl (SqL.of (B3 q _ nqp hq)), p, l, ((szs x).length : Nat), n + 7, by rw [lq] <;> rfl, by omega, by omega, by omega, P3, fun k H4 hk0 hk1 P4 k4 => ?_⟩
    obtain ⟨k, rfl⟩ : ∃ e : Nat, k = (e : Int) := ⟨k.toNat, by omega⟩
    have B4 := B3.trans (But.took k4)
    have hk : k < (szs x).length := by omega
    have hD4 := (k4 D (Ne.symm nDp)).trans hD3
    have hL4 := (k4 L (Ne.symm nLp)).trans hL3
    obtain ⟨s', es⟩ : ∃ s', (szs x)[k]? = some s' := ⟨_, List.getElem?_eq_getElem hk⟩
    have hle : ((szs x).take k).sum + s' ≤ (bt x).length := by
      have := take_sum_le (szs x) (k + 1)
      rw [take_sum_s es] at this
      omega
    refine ⟨_, rfl, _, rfl, (k : Int), rfl, q, _, rfl, SqL.of (B4 q _ nqp hq), fun u hu => ?_⟩
    rw [cutV_nums (by omega)]
    refine ⟨u, ((szs x).take k).map fun b : Nat => (b : Int), rfl, by rw [List.map_map]; exact SqL.of upd_same, ?_⟩
    rw [sum_cast]
    have P5 := P4.new (o := .lst (nums ((szs x).take k))) hu
    have B5 := B4.new (o := .lst (nums ((szs x).take k))) hu
    have s5 := smN (o := .lst (nums ((szs x).take k))) (Same.refl _) hu
    have hD5 := s5 _ _ hD4
    have hL5 := s5 _ _ hL4
    generalize upd H4 u (.lst (nums ((szs x).take k))) = H5 at *
    -- upper
    refine ⟨_, rfl, t, _, rfl, .inl (SqL.of (B5 t _ ntp ht)), fun U hU => ?_⟩
    have nUp := P5.nep hU
    have nUl := P5.nel hU
    have HU : H U = none := by
      cases e : H U with
      | none => rfl
      | some o =>
        have := B5 U o (Ne.symm nUp) e
        rw [hU] at this
        cases this
    have nUD : U ≠ D := fun e => by rw [e, hD5] at hU; cases hU
    have nUL : U ≠ L := fun e => by rw [e, hL5] at hU; cases hU
    have B6 := B5.put (o := .lst (sgV (bt x))) HU
    refine ⟨_, rfl, _, rfl, _, rfl, _, rfl, q, _, _, _, rfl, rfl, SqL.of (B6 q _ nqp hq), atI_nat (j := k) (by unfold nums; rw [List.getElem?_map, es] <;> rfl), _, _, rfl, rfl, _, _, rfl, ⟨by omega, by omega, by omega, by omega⟩, ?_⟩
    rw [show (((((szs x).take k).sum : Nat) : Int) + (s' : Nat) - (((szs x).take k).sum : Nat)).toNat = s' by omega]
    refine for_range (n := s') (fun i σ H' => But p H H' ∧ PenL H' p l (n + 8) ∧ H' D = some (.lst (nums bs)) ∧ H' L = some (.lst (sgV (flB 48 (bt x) bs))) ∧ H' U = some (.lst (sgV ((List.range i).foldl (fun m j => m.set (((szs x).take k).sum + j) 49) (bt x)))) ∧ ∃ x6 x10 x11, σ = [some (.ref p), some (.ref a), some (.ref q), some (.ref t), some (.ref D), some (.ref L), x6, some (.int (k : Nat)), some (.int (((szs x).take k).sum : Nat)), some (.ref U), x10, x11])
      ⟨B6, P5.put nUp nUl, by rw [upd_ne (Ne.symm nUD)]; exact hD5, by rw [upd_ne (Ne.symm nUL)]; exact hL5, upd_same, _, _, _, rfl⟩ ?_ ?_
    · rintro i σ H7 hi ⟨B7, P7, hD7, hL7, hU7, x6, x10, x11, rfl⟩
      have go := upB_go (x := 49) (f := ((szs x).take k).sum) (b := bt x) i (by omega)
      refine ⟨_, rfl, _, rfl, U, _, (((szs x).take k).sum : Nat) + (i : Int), ((szs x).take k).sum + i, rfl, rfl, hU7, by rw [show ((((szs x).take k).sum : Nat) : Int) + (i : Int) = ((((szs x).take k).sum + i : Nat) : Int) by omega]; exact ixN_at (by unfold sgV; rw [List.length_map, go, upB_len (by omega)]; omega), ?_⟩
      refine ⟨B7.put HU, P7.put nUp nUl, by rw [upd_ne (Ne.symm nUD)]; exact hD7, by rw [upd_ne (Ne.symm nUL)]; exact hL7, ?_, _, _, _, rfl⟩
      rw [upd_same, S_1, set_sg, List.range_succ, List.foldl_append]
      rfl
    rintro σ H7 ⟨B7, P7, hD7, hL7, hU7, x6, x10, x11, rfl⟩
    rw [upB_go _ hle] at hU7
    -- handed
    refine ⟨_, rfl, D, _, rfl, .inl (SqL.of hD7), fun h hh => ?_⟩
    have P8 := P7.new (o := .lst (nums bs)) hh
    have B8 := B7.new (o := .lst (nums bs)) hh
    have s8 := smN (o := .lst (nums bs)) (Same.refl _) hh
    have hD8 := s8 _ _ hD7
    have hL8 := s8 _ _ hL7
    have hU8 := s8 _ _ hU7
    have hh8 : (upd H7 h (.lst (nums bs))) h = some (.lst (nums bs)) := upd_same
    generalize upd H7 h (.lst (nums bs)) = H8 at *
    have hA8 := hA.but hP B8
    have hq8 := B8 q _ nqp hq
    have ht8 := B8 t _ ntp ht
    obtain ⟨_, dx8, tz8, h81, h82⟩ := id hA8
    obtain ⟨f1, f2, f3⟩ := isP_fl (bs := bs) (x := 48) hp (.inl rfl) hb
    obtain ⟨g1, g2, g3⟩ := isP_jn (b := upB 49 ((szs x).take k).sum s' (bt x)) hp (upB_bits (.inr rfl) hp.bits) (upB_len hle)
    refine ⟨_, rfl, a, dx8, _, rfl, h81, lkF, _, rfl, a, x, h, nums bs, whs bs, rfl, hA8, hh8, wh_nums bs, by rw [lbs]; omega, ?_⟩
    rw [if_pos (whs_in hb)]
    intro bs' ebs hb' o H9 s9 no ho
    obtain rfl := nums_inj ebs
    refine ⟨_, rfl, _, rfl, o, q, L, _, rfl, ho, by rw [f2]; exact SqL.of (s9 _ _ hq8), by rw [f3]; exact SqL.of (s9 _ _ hL8), fun H10 s10 => ⟨_, rfl, ?_⟩⟩
    have s810 := s9.trans s10
    refine iteF ?_
    obtain ⟨_, dx9, tz9, h91, h92⟩ := id (hA8.same s810)
    refine ⟨_, rfl, a, dx9, _, rfl, h91, lkE, _, rfl, a, x, .int (k : Nat), some (k : Int), rfl, hA8.same s810, .inl ⟨_, rfl, rfl⟩, ?_⟩
    rw [if_pos (inR_nat hk)]
    intro k' s'' ek es' o2 H11 s11 no2 ho2
    have : k' = k := by have := V.int.inj ek; omega
    subst this
    rw [es] at es'
    cases es'
    have s811 := s810.trans s11
    refine ⟨_, rfl, _, rfl, o2, q, U, _, rfl, ho2, by rw [g2]; exact SqL.of (s811 _ _ hq8), by rw [g3]; exact SqL.of (s811 _ _ hU8), fun H12 s12 => ⟨_, rfl, ?_⟩⟩
    have s812 := s811.trans s12
    refine iteF ?_
    refine ⟨_, rfl, _, rfl, _, _, .lst (SqL.of (s812 _ _ hh8)) (dp_nums _), .lst (SqL.of (s812 _ _ hD8)) (dp_nums _), shaped_lst (lay_nums _), shaped_lst (lay_nums _), _, rfl, ?_⟩
    rw [eqv_numL, decide_eq_true rfl]
    refine iteT ?_
    refine ⟨_, rfl, _, rfl, _, rfl, a, q, t, x, rfl, hA8.same s812, SqL.of (s812 _ _ hq8), SqL.of (s812 _ _ ht8), fun H13 s13 => ?_⟩
    exact ret _ (B8.trans (.of (s812.trans s13))) ((P8.same (s812.trans s13)).mono (by omega))
end
end Fb
-- bumped
set_option maxRecDepth 100000
set_option maxHeartbeats 4000000
namespace Fb
open PySem PySem.Spec PyProof.Rows L2
open SX (S)
theorem XF.exm {K : PySem.W.Frag} {mg : Str → Option Value} {fe C : Addr} {x : Str} (T : XF K mg fe x C) (hc : (PySem.W.clsIn K fe).isSome = true) (ht : PySem.W.typeIn K (.ref fe) = some (.type "type")) (hs : PySem.W.subIn K (.ref fe) (.type "BaseException") = some true) : PySem.W.exmOne K (.ref C) (.ref fe) = some true := by
  unfold PySem.W.exmOne
  rw [hs, if_pos (by simp)]
  unfold PySem.W.kitCls
  have e2 : ((PySem.W.clsIn K fe).isSome && PySem.W.typeIn K (.ref fe) == some (.type "type")) = true := by
    rw [hc, ht] <;> rfl
  show (if ((PySem.W.clsIn K fe).isSome && PySem.W.typeIn K (.ref fe) == some (.type "type")) = true then PySem.W.subIn K (.ref C) (.ref fe) else none) = _
  rw [if_pos e2]
  show PySem.W.mroIn K C (.ref fe) = _
  rw [T.mro]
  simp
/-- what the law's own caller makes of a lambda -/
def TTc (z : Pz) : (XK → Hp → VK → Prop) → Hp → VK → Prop := fun tl H Q =>
  tl (fun cls d H' => (cls = .ref z.cNoBit ∧ d = none ∧ ∀ a', H' a' = none → Q (.str "bit") (upd H' a' (ExR cls d a'))) ∨
      ∃ (dd : Addr) (k : Nat), cls = .ref z.cNoPattern ∧ d = some dd ∧ H' dd = some (.xd [("at", .int (k : Nat))]) ∧ ∀ a' t, H' a' = none → (upd H' a' (ExR cls d a')) t = none → Q (.ref t) (upd (upd H' a' (ExR cls d a')) t (.tup [.str "pattern", .int (k : Nat)])))
    H (fun v H1 => ∀ p, H1 p = none → Q (.ref p) (upd H1 p (.lst [v])))
theorem pe_weak {X : Cx} {e : Expr} {te : TE} (h : PE X e te) : PE X e (fun σ H Q => ∃ Q' : VK, te σ H Q' ∧ ∀ v H1, Q' v H1 → Q v H1) :=
  ⟨fun pins s σ H Q I ⟨Q', h1, h2⟩ => wpAny_mono (h.run pins s σ H Q' I h1) (fun u s1 ⟨v, H1, I1, r, q⟩ => ⟨v, H1, I1, r, h2 _ _ q⟩) fun _ _ z => z⟩
section
variable {z : Pz} {w : Lz}
theorem ok_Lcaught {X : Cx} {q : Str} {cdv : Value} (T : TxL X.K X.mg z w) : LamX.GivesTo X ["_law_ask", "_law_caught_here", "_law_found", "e"] "_law_caught" (defScope s_Lcaught) w.a_Lcaught cdv (defBody s_Lcaught) "_law_ask" q (TTc z) := by
  intro f c' s H Q tl act hc h
  refine ⟨_, (pss_cons (ps_set (i := 1) sc_Lcaught.nd rfl (Or.inl rfl) pe_non)
    (pss_cons (ps_set (i := 2) sc_Lcaught.nd rfl (Or.inl rfl) pe_non)
    (pss_cons (ps_try_hold (i := 3) (j := 1) (tb := fun W D σ H => ∃ (Ech : XK) (Q' : VK), (∀ cls d σ' H', Ech cls d H' → W cls d σ' H') ∧ σ[0]? = some (some (.ref f)) ∧ H c' = some (LamX.CodeO c' q) ∧ tl Ech H Q' ∧ ∀ v H1, Q' v H1 → gName 2 v σ H1 D.nx)
      rfl rfl rfl sc_Lcaught.nd rfl rfl rfl rfl ⟨rfl, by decide, .inl T.xFallenError⟩ LamX.takes0 rfl rfl (fun W pn xe tk _ => ?_))
    (pss_len (pss_cons (ps_if (pt_cmpR op_isN (pv 1) pe_non (nomark _)) (pss_one (ps_ret (pe_lst (pa_cons (pv 2) pa_nil)))) pss_nil)
    (pss_cons (ps_if (pt_cmpR op_eq (pe_callB call_isB (by rfl) T.n_isinstance boot_isinstance (pa_cons (pv 1) (pa_cons (pe_glob (v := .ref z.cNoBit) rfl T.xNoBit.g rfl) pa_nil))) (pe_callB call_isB (by rfl) T.n_isinstance boot_isinstance (pa_cons (pv 1) (pa_cons (pe_glob (v := .ref z.cNoPattern) rfl T.xNoPattern.g rfl) pa_nil))) (nomark _))
      (pss_one (ps_ret pe_str)) pss_nil)
    (pss_one (ps_ret (pe_ifExp (pt_val (pe_callB call_isB (by rfl) T.n_isinstance boot_isinstance (pa_cons (pv 1) (pa_cons (pe_glob (v := .ref z.cNoBit) rfl T.xNoBit.g rfl) pa_nil)))) pe_str (pe_tup (pa_cons pe_str (pa_cons (pe_xar (pv 1)) pa_nil)))))))))))), ?_⟩
  · refine ⟨fun pins s' σ H' D I h' => ?_⟩
    obtain ⟨Ech, Q', hW, h1, h2, h3, h4⟩ := h'
    refine PSs.run (pss_one (ps_set (i := 2) sc_Lcaught.nd rfl (Or.inl rfl) (pe_weak (act W pn xe Ech _ _ tk hW)))) pins s' σ H' D I ⟨Q', ⟨h1, h2, h3⟩, h4⟩
  · refine ⟨_, _, fun cls d σ' H' hE => ?_, rfl, hc, h, fun v H1 q _ => ?_⟩
    · have kBB : PySem.W.kitOne X.K (.ref z.cNoBit) (.ref z.cNoBit) = some true := by unfold PySem.W.kitOne; simp
      have kPP : PySem.W.kitOne X.K (.ref z.cNoPattern) (.ref z.cNoPattern) = some true := by unfold PySem.W.kitOne; simp
      have kBP : PySem.W.kitOne X.K (.ref z.cNoBit) (.ref z.cNoPattern) = some false := by rw [T.xNoBit.is T.xNoPattern T.neFN, decide_eq_false T.neBN]
      have kPB : PySem.W.kitOne X.K (.ref z.cNoPattern) (.ref z.cNoBit) = some false := by rw [T.xNoPattern.is T.xNoBit T.neFB, decide_eq_false (Ne.symm T.neBN)]
      have l4 : ∀ {a : Addr}, (((σ'.set 3 (some (.ref a))).set 1 (some (.ref a))).set 3 none).length = 4 → ∃ a0 a1 a2 a3, σ' = [a0, a1, a2, a3] := fun {a} len => by
        rw [List.length_set, List.length_set, List.length_set] at len
        match σ', len with
        | [a0, a1, a2, a3], _ => exact ⟨a0, a1, a2, a3, rfl⟩
      rcases hE with ⟨rfl, rfl, ret⟩ | ⟨dd, k, rfl, rfl, hd, ret⟩
      · refine ⟨true, T.xNoBit.exm T.clF T.tyF T.sbF, fun _ a ha len => ?_, fun z => nomatch z⟩
        obtain ⟨a0, a1, a2, a3, rfl⟩ := l4 len
        have xr : (upd H' a (ExR (.ref z.cNoBit) none a)) a = some (ExR (.ref z.cNoBit) none a) := upd_same
        refine ⟨_, rfl, rfl, _, rfl, ?_⟩
        rw [decide_eq_false (fun z => nomatch z)]
        refine iteF ?_
        refine ⟨_, rfl, a, z.cNoBit, _, _, true, rfl, T.xNoBit.xc, T.xb, .inl xr, .own z.cNoBit, kBB, ?_⟩
        refine ⟨_, rfl, a, z.cNoBit, _, _, false, rfl, T.xNoBit.xc, T.xb, .inl xr, .own z.cNoPattern, kBP, ?_⟩
        refine ⟨rfl, _, rfl, iteF ?_⟩
        refine ⟨_, rfl, a, z.cNoBit, _, _, true, rfl, T.xNoBit.xc, T.xb, .inl xr, .own z.cNoBit, kBB, _, rfl, iteT ?_⟩
        exact ret a ha
      · refine ⟨true, T.xNoPattern.exm T.clF T.tyF T.sbF, fun _ a ha len => ?_, fun z => nomatch z⟩
        obtain ⟨a0, a1, a2, a3, rfl⟩ := l4 len
        have nd : dd ≠ a := ne_of_none hd ha
        have xr : XR (upd H' a (ExR (.ref z.cNoPattern) (some dd) a)) a z.cNoPattern [("at", .int (k : Nat))] := ⟨dd, upd_same, by rw [upd_ne nd]; exact hd⟩
        refine ⟨_, rfl, rfl, _, rfl, ?_⟩
        rw [decide_eq_false (fun z => nomatch z)]
        refine iteF ?_
        refine ⟨_, rfl, a, z.cNoPattern, _, _, false, rfl, T.xNoPattern.xc, T.xb, .inr ⟨_, xr⟩, .own z.cNoBit, kPB, ?_⟩
        refine ⟨_, rfl, a, z.cNoPattern, _, _, true, rfl, T.xNoPattern.xc, T.xb, .inr ⟨_, xr⟩, .own z.cNoPattern, kPP, ?_⟩
        refine ⟨rfl, _, rfl, iteF ?_⟩
        refine ⟨_, rfl, a, z.cNoPattern, _, _, false, rfl, T.xNoPattern.xc, T.xb, .inr ⟨_, xr⟩, .own z.cNoBit, kPB, _, rfl, iteF ?_⟩
        refine ⟨_, rfl, a, z.cNoPattern, _, _, rfl, T.xNoPattern.xc, T.nNP, xr, rfl, ?_⟩
        exact ⟨by show 2 ≤ sizeLine; decide, fun t ht => ret a t ha ht⟩
    · refine ⟨_, rfl, rfl, _, rfl, ?_⟩
      rw [decide_eq_true rfl]
      refine iteT ?_
      exact ⟨_, rfl, by show 1 ≤ sizeLine; decide, fun p hp => q p hp⟩
end
end Fb
-- bumped
set_option maxRecDepth 100000
set_option maxHeartbeats 4000000
namespace Fb
open PySem PySem.Spec PyProof.Rows L2
open SX (S)

/-- all but the pen and the tables stay -/
def ButX (p : Addr) (H H' : Hp) : Prop := ∀ c o, c ≠ p → H c = some o → (∀ ps, o ≠ .tbl ps) → H' c = some o
theorem ButX.of {p : Addr} {H H' : Hp} (b : But p H H') : ButX p H H' := fun c o n e _ => b c o n e
theorem ButX.ext {p : Addr} {H H' : Hp} (b : LamX.ExtN H H') : ButX p H H' := fun c o _ e n => b c o e n
theorem ButX.same {p : Addr} {H H' : Hp} (b : Same H H') : ButX p H H' := fun c o _ e _ => b c o e
theorem ButX.trans {p : Addr} {H H1 H2 : Hp} (a : ButX p H H1) (b : ButX p H1 H2) : ButX p H H2 := fun c o n e t => b c o n (a c o n e t) t
theorem PtI.butX {C : Addr} {H H' : Hp} {p l a : Addr} {n : Nat} {x : List Nat} (h : PtI C H a x) (hP : PenL H p l n) (b : ButX p H H') : PtI C H' a x := by
  obtain ⟨hp, dx, t, h1, h2⟩ := h
  exact ⟨hp, dx, t, b _ _ (hP.neo h1 fun _ z => nomatch z) h1 (fun _ z => nomatch z), b _ _ (hP.neo h2 fun _ z => nomatch z) h2 (fun _ z => nomatch z)⟩
theorem PtI.ext {C : Addr} {H H' : Hp} {a : Addr} {x : List Nat} (h : PtI C H a x) (b : LamX.ExtN H H') : PtI C H' a x := by
  obtain ⟨hp, dx, t, h1, h2⟩ := h
  exact ⟨hp, dx, t, b _ _ h1 (fun _ z => nomatch z), b _ _ h2 (fun _ z => nomatch z)⟩
theorem tabs_but {Tb : List (Addr × Str)} {H H' : Hp} {p l : Addr} {n : Nat} (t : LamX.Tabs Tb H) (hP : PenL H p l n) (b : But p H H') : LamX.Tabs Tb H' := by
  intro x hx
  obtain ⟨cs, a, r, f, e, _⟩ := hP
  obtain ⟨ps, h1, h2, h3⟩ := t x hx
  refine ⟨ps, b _ _ (fun z => ?_) h1, h2, fun pos cv hc => ?_⟩
  · rw [z, e] at h1; cases h1
  · obtain ⟨c, e1, e2⟩ := h3 pos cv hc
    refine ⟨c, e1, b _ _ (fun z => ?_) e2⟩
    rw [z, e] at e2
    unfold LamX.CodeO at e2
    cases e2
theorem tyOf_ext {K : PySem.W.Frag} {H H' : Hp} (s : LamX.ExtN H H') {x : V} {t : Value} (h : TyOf K H x t) : TyOf K H' x t := by
  cases h with
  | non => exact .non
  | bl x => exact .bl x
  | int i => exact .int i
  | str x => exact .str x
  | flt x => exact .flt x
  | lst e => exact .lst (s _ _ e (fun ps q => nomatch q))
  | frz e => exact .frz (s _ _ e (fun ps q => nomatch q))
  | tup e => exact .tup (s _ _ e (fun ps q => nomatch q))
  | dK e => exact .dK (s _ _ e (fun ps q => nomatch q))
  | dT e => exact .dT (s _ _ e (fun ps q => nomatch q))
  | ins e cl ha hn ht hm => exact .ins (s _ _ e (fun ps q => nomatch q)) cl ha hn ht hm
/-- no number below m, by a plain type -/
def OddB (K : PySem.W.Frag) (H : Hp) (v : V) (m : Nat) : Prop := (∃ i : Int, v = .int i ∧ (i < 0 ∨ (m : Int) ≤ i)) ∨ (∃ b, v = .bl b) ∨ ∃ t, TyOf K H v t ∧ PySem.W.kitOne K t (.type "int") = some false
theorem OddB.ext {K : PySem.W.Frag} {H H' : Hp} {v : V} {m : Nat} (s : LamX.ExtN H H') (h : OddB K H v m) : OddB K H' v m := by
  rcases h with h | h | ⟨t, h1, h2⟩
  · exact .inl h
  · exact .inr (.inl h)
  · exact .inr (.inr ⟨t, tyOf_ext s h1, h2⟩)
theorem OddB.wh {K : PySem.W.Frag} {H : Hp} {v : V} {m : Nat} (h : OddB K H v m) : ∃ r, Wh K H v r ∧ inR (m : Nat) r = false := by
  rcases h with ⟨i, rfl, hi⟩ | ⟨b, rfl⟩ | ⟨t, h1, h2⟩
  · refine ⟨some i, .inl ⟨i, rfl, rfl⟩, ?_⟩
    show (decide (0 ≤ i) && decide (i < (m : Nat))) = false
    rcases hi with hi | hi
    · rw [decide_eq_false (by omega)] <;> rfl
    · rw [decide_eq_false (show ¬ i < (m : Nat) by omega), Bool.and_false]
  · exact ⟨none, .inr (.inl ⟨b, rfl, rfl⟩), rfl⟩
  · exact ⟨none, .inr (.inr ⟨t, .base h1, h2, rfl⟩), rfl⟩
theorem inB_none {b : List Nat} {r : Option Int} (h : inR (b.length : Nat) r = false) : inB b r = false := by
  cases r with
  | none => rfl
  | some i =>
    have h2 : (decide (0 ≤ i) && decide (i < (b.length : Nat))) = false := h
    unfold inB
    dsimp only
    by_cases h0 : 0 ≤ i
    · rw [if_pos h0]
      have h3 : ¬ i < (b.length : Nat) := by simpa [h0] using h2
      rw [List.getElem?_eq_none (by omega)]
      simp
    · rw [if_neg h0]
def qRefused : Str := "_law_refused" ++ ".<locals>." ++ "<lambda>"
def spRefused (Tb : List (Addr × Str)) (C : Addr) : Sp := fun vs H Q _ => ∃ (p l a q t : Addr) (n : Nat) (x : List Nat), vs = [.ref p, .ref a, .ref q, .ref t] ∧ n < 900000 ∧ PenL H p l n ∧ PtI C H a x ∧ H q = some (.lst (nums (szs x))) ∧ H t = some (.lst (sgV (bt x))) ∧ LamX.Tabs Tb H ∧
  ∀ H', ButX p H H' → PenL H' p l (n + 4) → LamX.Tabs Tb H' → Q (.bl true) H'
theorem all_odd {m : Nat} {r : Option Int} {bs : List (Option Int)} (h : inR (m : Nat) r = false) : (bs ++ [r]).all (inR (m : Nat)) = false := by
  rw [List.all_append]
  show (_ && (inR (m : Nat) r && true)) = false
  rw [h]
  simp
section
variable {P : Program} {wo : World} {K : PySem.W.Frag} {mg : Str → Option Value} {base : Heap} {z : Pz} {w : Lz}
theorem ok_Lrefused {Tb : List (Addr × Str)} {cR PR : Addr} {oc kV doc pm ct : Value} {od an : Option Addr} {osl : Array (Option Value)} (T : TxL K mg z w)
    (lk : K.lookup w.a_Lrefused = some ⟨oc, od, .func (PySem.W.fnOf "_law_refused" "_law_refused" (defArgs s_Lrefused) (defBody s_Lrefused) (defScope s_Lrefused) .none kV doc pm an (.ref cR) ct), osl⟩) (hcd : PySem.W.codeIn K (.ref cR) "_law_refused" = true)
    (TB : LamX.TabB base mg cR PR) (hmT : (PR, qRefused) ∈ Tb) (hu : ∀ p ∈ Tb, p.1 = PR → p.2 = qRefused) :
    FnOk P wo K mg base CX0 9 w.a_Lrefused (PySem.W.fnOf "_law_refused" "_law_refused" (defArgs s_Lrefused) (defBody s_Lrefused) (defScope s_Lrefused) .none kV doc pm an (.ref cR) ct) ["_law_pen_here", "_law_p", "_law_sizes_here", "_law_signs"] (spRefused Tb z.C) := by
  obtain ⟨ocC, odC, kVC, docC, pmC, anC, cdC, ctC, oslC, efC, lkC, hcC⟩ := T.F_Lcaught.ex
  have bC := T.b_Lcaught
  rw [efC] at lkC bC
  refine okC lk hcd sc_Lrefused (fun {vs H Q E} h => ?_) (fun {A outer s H vs Q E} hr h => ?_)
  · obtain ⟨p, l, a, q, t, n, x, rfl, _⟩ := h
    rfl
  · obtain ⟨p, l, a, q, t, n, x, rfl, hn, hP, hA, hq, ht, hT, ret⟩ := h
    have hp := hA.1
    have hr7 : Room 8 _ := hr
    have hr3 : Room 4 _ := hr.mono (by decide)
    have hr1 : Room 2 _ := hr.mono (by decide)
    have G_Ltake : FnOk P wo K mg base CX0 2 w.a_Ltake w.d_Ltake ["_law_pen_here", "_law_many"] spTake := ok_take T.F_Ltake T.pp
    have few := hp.few
    have b120 := bt_len hp
    have lq : (nums (szs x)).length = (szs x).length := by unfold nums; rw [List.length_map]
    have lt : (sgV (bt x)).length = (bt x).length := by unfold sgV; rw [List.length_map]
    refine ⟨_, (pss_cons (ps_set (i := 5) sc_Lrefused.nd rfl (Or.inr rfl) (pe_ix ix_list (pe_lst (pa_cons (pe_callB call_len_seq (by rfl) T.n_len (by decide +kernel) (pa_cons (pv 3) pa_nil)) (pa_cons (pe_un un_neg pe_int) (pa_cons pe_bl (pa_cons pe_non (pa_cons pe_str (pa_cons (pe_op op_pow pe_int pe_int) (pa_cons (pe_tup (pa_cons pe_int pa_nil)) (pa_cons pe_bl (pa_cons (pe_lst (pa_cons pe_int pa_nil)) (pa_cons pe_dnewK pa_nil))))))))))) (pe_call G_Ltake hr1 rfl T.g_Ltake T.k_Ltake T.b_Ltake .nil pass0 (pa_cons (pv 0) (pa_cons pe_int pa_nil))) (fun _ _ => rfl)))
      (pss_cons (ps_if (PW.pt (pw_or (pt_cmpR (op_inP T.toTxp hr3) (pv 5) (pv 1) rfl) (pw_or1 (pt_cmpR op_ne (LamX.pe_lamcall (T := Tb) (TT := TTc z) (k := 6) rfl T.g_Lcaught T.k_Lcaught lkC hcC bC sc_Lcaught rfl (Or.inl rfl) (ok_Lcaught (cdv := cdC) T) TB rfl hmT hu hr7 (LamX.lamS_by (by first | decide +kernel | kernel_rfl | rfl)) rfl (fun _ _ _ _ _ => rfl) (fun A outer s H E f c' hr => (pe_ixI T.m_getitem T.fi_getitem T.f_getitem ((ok_getitem T.toTxp).raw T.b_getitem .nil) (hr.mono (by decide)) (passes_call (takes_of rfl rfl rfl rfl) (fun _ _ _ _ h => h)) (pv 1) (pv 5)))) pe_str (nomark _)))))
        (pss_one (ps_ret pe_bl))
        pss_nil)
      (pss_cons (ps_if (pt_cmpR op_ne (LamX.pe_lamcall (T := Tb) (TT := TTc z) (k := 6) rfl T.g_Lcaught T.k_Lcaught lkC hcC bC sc_Lcaught rfl (Or.inl rfl) (ok_Lcaught (cdv := cdC) T) TB rfl hmT hu hr7 (LamX.lamS_by (by first | decide +kernel | kernel_rfl | rfl)) rfl (fun _ _ _ _ _ => rfl) (fun A outer s H E f c' hr => (pe_meth (pv 1) T.cls T.bm_fallen (ok_fallen T.toTxp) (hr.mono (by decide)) T.b_fallen .nil (passes_call (takes_of rfl rfl rfl rfl) (fun _ _ _ _ h => h)) (pa_cons (pe_lst (pa_cons pe_int (pa_cons (pv 5) pa_nil))) pa_nil)))) pe_str (nomark _))
        (pss_one (ps_ret pe_bl))
        pss_nil)
      (pss_cons (ps_set (i := 4) sc_Lrefused.nd rfl (Or.inr rfl) (pe_ix ix_list (pe_lst (pa_cons (pe_callB call_len_seq (by rfl) T.n_len (by decide +kernel) (pa_cons (pv 2) pa_nil)) (pa_cons (pe_un un_neg pe_int) (pa_cons pe_bl (pa_cons pe_non (pa_cons pe_str (pa_cons (pe_op op_pow pe_int pe_int) (pa_cons (pe_tup (pa_cons pe_int pa_nil)) (pa_cons pe_bl (pa_cons (pe_lst (pa_cons pe_int pa_nil)) (pa_cons pe_dnewK pa_nil))))))))))) (pe_call G_Ltake hr1 rfl T.g_Ltake T.k_Ltake T.b_Ltake .nil pass0 (pa_cons (pv 0) (pa_cons pe_int pa_nil))) (fun _ _ => rfl)))
      (pss_one (ps_ret (pe_cmpR op_eq (LamX.pe_lamcall (T := Tb) (TT := TTc z) (k := 6) rfl T.g_Lcaught T.k_Lcaught lkC hcC bC sc_Lcaught rfl (Or.inl rfl) (ok_Lcaught (cdv := cdC) T) TB rfl hmT hu hr7 (LamX.lamS_by (by first | decide +kernel | kernel_rfl | rfl)) rfl (fun _ _ _ _ _ => rfl) (fun A outer s H E f c' hr => (pe_meth (pv 1) T.cls T.bm_erased (ok_erased T.toTxp) (hr.mono (by decide)) T.b_erased .nil (passes_call (takes_of rfl rfl rfl rfl) (fun _ _ _ _ h => h)) (pa_cons (pv 4) pa_nil)))) pe_str (nomark _)))))))), ?_⟩
    -- ten odd values, one of them drawn
    refine ⟨_, rfl, t, _, rfl, .inl (SqL.of ht), 1, rfl, 10, 50, rfl, rfl, ⟨by decide, by decide, by decide⟩, by show 1 ≤ sizeLine; decide, fun a1 h1 => ⟨by show 1 ≤ sizeLine; decide, fun a2 h2 => fun a3 h3 => ⟨by show 10 ≤ sizeLine; decide, fun a4 h4 => ?_⟩⟩⟩
    rw [lt]
    have s1 := smN (o := .tup [.int 0]) (Same.refl H) h1
    have m1 : (upd H a1 (.tup [.int 0])) a1 = some (.tup [.int 0]) := upd_same
    generalize upd H a1 (.tup [.int 0]) = G1 at *
    have s2 := smN (o := .lst [.int 0]) (Same.refl _) h2
    have m2 : (upd G1 a2 (.lst [.int 0])) a2 = some (.lst [.int 0]) := upd_same
    generalize upd G1 a2 (.lst [.int 0]) = G2 at *
    have s3 := smN (o := .dK []) (Same.refl _) h3
    have m3 : (upd G2 a3 (.dK [])) a3 = some (.dK []) := upd_same
    generalize upd G2 a3 (.dK []) = G3 at *
    have s4 := smN (o := .lst [.int ((bt x).length : Nat), .int (-1), .bl true, .non, .str "0", .int (10 ^ Int.toNat 50), .ref a1, .bl false, .ref a2, .ref a3]) (Same.refl _) h4
    have m4 : (upd G3 a4 (.lst [.int ((bt x).length : Nat), .int (-1), .bl true, .non, .str "0", .int (10 ^ Int.toNat 50), .ref a1, .bl false, .ref a2, .ref a3])) a4 = some (.lst [.int ((bt x).length : Nat), .int (-1), .bl true, .non, .str "0", .int (10 ^ Int.toNat 50), .ref a1, .bl false, .ref a2, .ref a3]) := upd_same
    generalize upd G3 a4 (.lst [.int ((bt x).length : Nat), .int (-1), .bl true, .non, .str "0", .int (10 ^ Int.toNat 50), .ref a1, .bl false, .ref a2, .ref a3]) = G4 at *
    have n3 : a3 ≠ p := fun e => by
      have Q3 := hP.same (s1.trans s2)
      obtain ⟨cs, a, r, f, e2, _⟩ := Q3
      rw [← e, h3] at e2
      cases e2
    have Q4 := hP.same (((s1.trans s2).trans s3).trans s4)
    have T4 := hT.ext (((s1.trans s2).trans s3).trans s4)
    have m1 := s4 _ _ (s3 _ _ (s2 _ _ m1))
    have m2 := s4 _ _ (s3 _ _ m2)
    have m3 := s4 _ _ m3
    refine ⟨_, rfl, p, l, 10, n, rfl, by decide, by decide, by omega, Q4, fun d5 H5 hd0 hd1 P5 k5 => ?_⟩
    have T5 := tabs_but T4 Q4 (But.took k5)
    have m1 := (k5 a1 (Q4.neo m1 fun _ z => nomatch z)).trans m1
    have m2 := (k5 a2 (Q4.neo m2 fun _ z => nomatch z)).trans m2
    have m3 := (k5 a3 n3).trans m3
    have m4 := (k5 a4 (Q4.neo m4 fun _ z => nomatch z)).trans m4
    have b5 : But p H H5 := (But.of (((s1.trans s2).trans s3).trans s4)).trans (But.took k5)
    obtain ⟨v5, ev, ho5⟩ : ∃ v, atI [V.int ((bt x).length : Nat), .int (-1), .bl true, .non, .str "0", .int (10 ^ Int.toNat 50), .ref a1, .bl false, .ref a2, .ref a3] d5 = some v ∧ OddB K H5 v (bt x).length := by
      have : d5 = 0 ∨ d5 = 1 ∨ d5 = 2 ∨ d5 = 3 ∨ d5 = 4 ∨ d5 = 5 ∨ d5 = 6 ∨ d5 = 7 ∨ d5 = 8 ∨ d5 = 9 := by omega
      rcases this with rfl | rfl | rfl | rfl | rfl | rfl | rfl | rfl | rfl | rfl
      · exact ⟨_, rfl, .inl ⟨_, rfl, .inr (Int.le_refl _)⟩⟩
      · exact ⟨_, rfl, .inl ⟨_, rfl, .inl (by decide)⟩⟩
      · exact ⟨_, rfl, .inr (.inl ⟨_, rfl⟩)⟩
      · exact ⟨_, rfl, .inr (.inr ⟨_, .non, kit_ty (by decide +kernel)⟩)⟩
      · exact ⟨_, rfl, .inr (.inr ⟨_, .str _, kit_ty (by decide +kernel)⟩)⟩
      · exact ⟨_, rfl, .inl ⟨_, rfl, .inr (Int.le_trans (show (((bt x).length : Nat) : Int) ≤ 1000 by omega) (by decide))⟩⟩
      · exact ⟨_, rfl, .inr (.inr ⟨_, .tup m1, kit_ty (by decide +kernel)⟩)⟩
      · exact ⟨_, rfl, .inr (.inl ⟨_, rfl⟩)⟩
      · exact ⟨_, rfl, .inr (.inr ⟨_, .lst m2, kit_ty (by decide +kernel)⟩)⟩
      · exact ⟨_, rfl, .inr (.inr ⟨_, .dK m3, kit_ty (by decide +kernel)⟩)⟩
    refine ⟨a4, _, d5, v5, rfl, rfl, SqL.of m4, ev, ?_⟩
    clear m1 m2 m3 m4 ev s1 s2 s3 s4 h1 h2 h3 h4 n3 Q4 T4
    -- not among the bits
    have hA5 := hA.but hP b5
    obtain ⟨r5, w5, i5⟩ := ho5.wh
    refine ⟨_, rfl, _, rfl, a, x, r5, rfl, hA5, w5, fun H6 s6 => ⟨_, rfl, ?_⟩⟩
    rw [inB_none i5]
    refine iteF ?_
    -- p[odd]
    refine ⟨T5.ext s6, fun H7 x7 T7 => ?_⟩
    have e7 := (LamX.ExtN.of s6).trans x7
    have hA7 := hA5.ext e7
    obtain ⟨r7, w7, i7⟩ := (ho5.ext e7).wh
    obtain ⟨_, dx7, tz7, h71, h72⟩ := id hA7
    refine ⟨_, rfl, _, rfl, a, dx7, _, rfl, h71, a, x, v5, r7, rfl, hA7, w7, ?_⟩
    rw [i7, if_neg Bool.false_ne_true]
    intro H8 s8
    refine .inl ⟨rfl, rfl, fun b8 hb8 => ?_⟩
    refine ⟨rfl, _, rfl, ?_⟩
    rw [show (!decide (V.str "bit" = V.str "bit")) = false by rw [decide_eq_true rfl] <;> rfl]
    refine iteF ?_
    have s9 : Same H7 (upd H8 b8 (ExR (.ref z.cNoBit) none b8)) := smN s8 hb8
    generalize upd H8 b8 (ExR (.ref z.cNoBit) none b8) = H9 at *
    -- p.fallen([0, odd])
    refine ⟨T7.ext s9, fun H10 x10 T10 => ?_⟩
    have e10 := (e7.trans (LamX.ExtN.of s9)).trans x10
    have hA10 := hA5.ext e10
    obtain ⟨_, dx10, tz10, h101, h102⟩ := id hA10
    refine ⟨_, rfl, a, dx10, _, rfl, h101, lkF, _, rfl, by show 2 ≤ sizeLine; decide, fun u hu' => ?_⟩
    have s11 := smN (o := .lst [.int 0, v5]) (Same.refl H10) hu'
    obtain ⟨r11, w11, i11⟩ := (ho5.ext (e10.trans (LamX.ExtN.of s11))).wh
    refine ⟨a, x, u, [.int 0, v5], [some 0, r11], rfl, hA10.same s11, upd_same, .cons (.inl ⟨0, rfl, rfl⟩) (.cons w11 .nil), by show 2 ≤ 1000; decide, ?_⟩
    rw [show ([some 0, r11] : List (Option Int)).all (inR ((bt x).length : Nat)) = false from all_odd (bs := [some 0]) i11, if_neg Bool.false_ne_true]
    intro H12 s12
    refine .inl ⟨rfl, rfl, fun b12 hb12 => ?_⟩
    refine ⟨rfl, _, rfl, ?_⟩
    rw [show (!decide (V.str "bit" = V.str "bit")) = false by rw [decide_eq_true rfl] <;> rfl]
    refine iteF ?_
    have s13 : Same H10 (upd H12 b12 (ExR (.ref z.cNoBit) none b12)) := smN (s11.trans s12) hb12
    generalize upd H12 b12 (ExR (.ref z.cNoBit) none b12) = H13 at *
    have T13 := T10.ext s13
    have e13 := e10.trans (LamX.ExtN.of s13)
    have B13 : ButX p H H13 := (ButX.of b5).trans (ButX.ext e13)
    have P13 := ExtN.pen e13 P5
    have nqp := hP.neo hq (fun _ z => nomatch z)
    have hq13 := B13 q _ nqp hq (fun _ z => nomatch z)
    have hA13 := hA.butX hP B13
    -- ten odd values, one of them drawn
    refine ⟨_, rfl, q, _, rfl, .inl (SqL.of hq13), 1, rfl, 10, 50, rfl, rfl, ⟨by decide, by decide, by decide⟩, by show 1 ≤ sizeLine; decide, fun a1 h1 => ⟨by show 1 ≤ sizeLine; decide, fun a2 h2 => fun a3 h3 => ⟨by show 10 ≤ sizeLine; decide, fun a4 h4 => ?_⟩⟩⟩
    rw [lq]
    have s1 := smN (o := .tup [.int 0]) (Same.refl H13) h1
    have m1 : (upd H13 a1 (.tup [.int 0])) a1 = some (.tup [.int 0]) := upd_same
    generalize upd H13 a1 (.tup [.int 0]) = G1 at *
    have s2 := smN (o := .lst [.int 0]) (Same.refl _) h2
    have m2 : (upd G1 a2 (.lst [.int 0])) a2 = some (.lst [.int 0]) := upd_same
    generalize upd G1 a2 (.lst [.int 0]) = G2 at *
    have s3 := smN (o := .dK []) (Same.refl _) h3
    have m3 : (upd G2 a3 (.dK [])) a3 = some (.dK []) := upd_same
    generalize upd G2 a3 (.dK []) = G3 at *
    have s4 := smN (o := .lst [.int ((szs x).length : Nat), .int (-1), .bl true, .non, .str "0", .int (10 ^ Int.toNat 50), .ref a1, .bl false, .ref a2, .ref a3]) (Same.refl _) h4
    have m4 : (upd G3 a4 (.lst [.int ((szs x).length : Nat), .int (-1), .bl true, .non, .str "0", .int (10 ^ Int.toNat 50), .ref a1, .bl false, .ref a2, .ref a3])) a4 = some (.lst [.int ((szs x).length : Nat), .int (-1), .bl true, .non, .str "0", .int (10 ^ Int.toNat 50), .ref a1, .bl false, .ref a2, .ref a3]) := upd_same
    generalize upd G3 a4 (.lst [.int ((szs x).length : Nat), .int (-1), .bl true, .non, .str "0", .int (10 ^ Int.toNat 50), .ref a1, .bl false, .ref a2, .ref a3]) = G4 at *
    have n3 : a3 ≠ p := fun e => by
      have Q3 := P13.same (s1.trans s2)
      obtain ⟨cs, a, r, f, e2, _⟩ := Q3
      rw [← e, h3] at e2
      cases e2
    have Q4 := P13.same (((s1.trans s2).trans s3).trans s4)
    have T4 := T13.ext (((s1.trans s2).trans s3).trans s4)
    have m1 := s4 _ _ (s3 _ _ (s2 _ _ m1))
    have m2 := s4 _ _ (s3 _ _ m2)
    have m3 := s4 _ _ m3
    refine ⟨_, rfl, p, l, 10, n + 1, rfl, by decide, by decide, by omega, Q4, fun d14 H14 hd0 hd1 P14 k14 => ?_⟩
    have T14 := tabs_but T4 Q4 (But.took k14)
    have m1 := (k14 a1 (Q4.neo m1 fun _ z => nomatch z)).trans m1
    have m2 := (k14 a2 (Q4.neo m2 fun _ z => nomatch z)).trans m2
    have m3 := (k14 a3 n3).trans m3
    have m4 := (k14 a4 (Q4.neo m4 fun _ z => nomatch z)).trans m4
    have b14 : But p H13 H14 := (But.of (((s1.trans s2).trans s3).trans s4)).trans (But.took k14)
    obtain ⟨v14, ev, ho14⟩ : ∃ v, atI [V.int ((szs x).length : Nat), .int (-1), .bl true, .non, .str "0", .int (10 ^ Int.toNat 50), .ref a1, .bl false, .ref a2, .ref a3] d14 = some v ∧ OddB K H14 v (szs x).length := by
      have : d14 = 0 ∨ d14 = 1 ∨ d14 = 2 ∨ d14 = 3 ∨ d14 = 4 ∨ d14 = 5 ∨ d14 = 6 ∨ d14 = 7 ∨ d14 = 8 ∨ d14 = 9 := by omega
      rcases this with rfl | rfl | rfl | rfl | rfl | rfl | rfl | rfl | rfl | rfl
      · exact ⟨_, rfl, .inl ⟨_, rfl, .inr (Int.le_refl _)⟩⟩
      · exact ⟨_, rfl, .inl ⟨_, rfl, .inl (by decide)⟩⟩
      · exact ⟨_, rfl, .inr (.inl ⟨_, rfl⟩)⟩
      · exact ⟨_, rfl, .inr (.inr ⟨_, .non, kit_ty (by decide +kernel)⟩)⟩
      · exact ⟨_, rfl, .inr (.inr ⟨_, .str _, kit_ty (by decide +kernel)⟩)⟩
      · exact ⟨_, rfl, .inl ⟨_, rfl, .inr (Int.le_trans (show (((szs x).length : Nat) : Int) ≤ 1000 by omega) (by decide))⟩⟩
      · exact ⟨_, rfl, .inr (.inr ⟨_, .tup m1, kit_ty (by decide +kernel)⟩)⟩
      · exact ⟨_, rfl, .inr (.inl ⟨_, rfl⟩)⟩
      · exact ⟨_, rfl, .inr (.inr ⟨_, .lst m2, kit_ty (by decide +kernel)⟩)⟩
      · exact ⟨_, rfl, .inr (.inr ⟨_, .dK m3, kit_ty (by decide +kernel)⟩)⟩
    refine ⟨a4, _, d14, v14, rfl, rfl, SqL.of m4, ev, ?_⟩
    clear m1 m2 m3 m4 ev s1 s2 s3 s4 h1 h2 h3 h4 n3 Q4 T4
    -- p.erased(block)
    have hA14 := hA13.but P13 b14
    refine ⟨T14, fun H15 x15 T15 => ?_⟩
    have hA15 := hA14.ext x15
    obtain ⟨r15, w15, i15⟩ := (ho14.ext x15).wh
    obtain ⟨_, dx15, tz15, h151, h152⟩ := id hA15
    refine ⟨_, rfl, a, dx15, _, rfl, h151, lkE, _, rfl, a, x, v14, r15, rfl, hA15, w15, ?_⟩
    rw [i15, if_neg Bool.false_ne_true]
    intro H16 s16
    refine .inl ⟨rfl, rfl, fun b16 hb16 => ?_⟩
    refine ⟨rfl, ?_⟩
    rw [decide_eq_true rfl]
    have s17 : Same H15 (upd H16 b16 (ExR (.ref z.cNoBit) none b16)) := smN s16 hb16
    exact ret _ (B13.trans ((ButX.of b14).trans ((ButX.ext x15).trans (ButX.same s17)))) (((ExtN.pen x15 P14).same s17).mono (by omega)) (T15.ext s17)
end
end Fb
-- bumped
set_option maxRecDepth 100000
set_option maxHeartbeats 4000000
namespace Fb
open PySem PySem.Spec PyProof.Rows L2
open SX (S)
def qLaw : Str := "law" ++ ".<locals>." ++ "<lambda>"
def spLaw (K : PySem.W.Frag) (Tb : List (Addr × Str)) : Sp := fun vs H Q _ => ∃ (a : Addr) (ns : List Int), vs = [.ref a] ∧ SqL K H a (ns.map V.int) ∧ ns.length ≤ 63 ∧ LamX.Tabs Tb H ∧ ∀ H', Q (.bl true) H'
theorem paired_imp {α β : Type} {R R' : α → β → Prop} (f : ∀ a b, R a b → R' a b) : ∀ {x : List α} {y : List β}, Paired R x y → Paired R' x y
  | _, _, .nil => .nil
  | _, _, .cons h t => .cons (f _ _ h) (paired_imp f t)
theorem pat_new {C : Addr} {H1 H' : Hp} {x dx t : Addr} {l : List Nat} (hp : IsP l) (hx : H1 x = none) (hd : H1 dx = none) (keep : ∀ b o, b ≠ x → (upd (upd H1 dx (.own x)) x (.ins C dx [])) b = some o → H' b = some o) (ha : H' x = some (.ins C dx (ptF l t))) (ht : H' t = some (.tup (nums (szs l)))) :
    Same H1 H' ∧ PtI C H' x l := by
  refine ⟨fun b o e => keep b o (ne_of_none e hx) ?_, hp, dx, t, ha, ht⟩
  rw [upd_ne (ne_of_none e hx), upd_ne (ne_of_none e hd)]
  exact e
/-! full -/
abbrev fullP (ss : List Nat) : List Nat := jn ss (List.replicate ss.sum 49)
theorem sz_good {ss : List Nat} (h1 : 1 ≤ ss.length) (h3 : ss.length ≤ 3) (hs : ∀ s ∈ ss, 1 ≤ s) (h : ss.sum ≤ 120) : szT (whs ss) = true := by
  have e1 : (whs ss).length = ss.length := by unfold whs; rw [List.length_map]
  have e2 : (whs ss).all whp = true := by
    unfold whs
    rw [List.all_map, List.all_eq_true]
    intro s m
    have := hs s m
    show decide (1 ≤ (s : Int)) = true
    rw [decide_eq_true (by omega)]
  have e3 : ((whs ss).map fun r => r.getD 0).sum = (ss.sum : Nat) := by
    rw [← sum_cast]
    unfold whs
    rw [List.map_map]
    rfl
  unfold szT
  rw [e1, e2, e3, decide_eq_true (by omega), decide_eq_true (by omega), decide_eq_true (by omega)]
  rfl
theorem full_good {K : PySem.W.Frag} {C cN : Addr} {H : Hp} {Q : VK} {E : XK} {ss : List Nat} (h1 : 1 ≤ ss.length) (h3 : ss.length ≤ 3) (hs : ∀ s ∈ ss, 1 ≤ s) (h : ss.sum ≤ 120)
    (k : ∀ o H', Same H H' → H o = none → PtI C H' o (fullP ss) → Q (.ref o) H') :
    ∃ ws rest, V.ref C :: nums ss = ws ++ rest ∧ ws.length = ["cls"].length ∧ rest.length ≤ sizeLine ∧ ∀ p, H p = none → spFull K C cN (ws ++ [V.ref p]) (upd H p (.tup rest)) Q E := by
  have e1 : (whs ss).length = ss.length := by unfold whs; rw [List.length_map]
  refine ⟨[.ref C], nums ss, rfl, rfl, ?_, fun p hp => ⟨p, nums ss, whs ss, rfl, upd_same, wh_nums ss, by omega, ?_⟩⟩
  · unfold nums
    rw [List.length_map]
    exact Nat.le_trans h3 le3
  · rw [if_pos (sz_good h1 h3 hs h)]
    intro ss' e _ _ _ _ o H' s no ho
    obtain rfl := nums_inj e
    have s0 := smN (o := .tup (nums ss)) (Same.refl H) hp
    exact k o H' (s0.trans s) (s0.free no) ho
theorem full_bad {K : PySem.W.Frag} {C cN : Addr} {H : Hp} {Q : VK} {E : XK} {xs : List V} {rs : List (Option Int)} (hw : Paired (Wh K H) xs rs) (hl : rs.length ≤ 1000) (h : szT rs = false) (k : OutNP cN H E 0) :
    ∃ ws rest, V.ref C :: xs = ws ++ rest ∧ ws.length = ["cls"].length ∧ rest.length ≤ sizeLine ∧ ∀ p, H p = none → spFull K C cN (ws ++ [V.ref p]) (upd H p (.tup rest)) Q E := by
  have lr := hw.length
  refine ⟨[.ref C], xs, rfl, rfl, by rw [lr]; exact Nat.le_trans hl (by decide), fun p hp => ⟨p, xs, rs, rfl, upd_same, ?_, hl, ?_⟩⟩
  · exact paired_imp (fun _ _ w => Wh.same (smN (Same.refl H) hp) w) hw
  · rw [h, if_neg Bool.false_ne_true]
    exact k.later (smN (Same.refl H) hp)
/-- no size of a pattern, by a plain type -/
def OddS (K : PySem.W.Frag) (H : Hp) (v : V) : Prop := (∃ i : Int, v = .int i ∧ (i < 1 ∨ 120 < i)) ∨ (∃ b, v = .bl b) ∨ ∃ t, TyOf K H v t ∧ PySem.W.kitOne K t (.type "int") = some false
theorem OddS.ext {K : PySem.W.Frag} {H H' : Hp} {v : V} (s : LamX.ExtN H H') (h : OddS K H v) : OddS K H' v := by
  rcases h with h | h | ⟨t, h1, h2⟩
  · exact .inl h
  · exact .inr (.inl h)
  · exact .inr (.inr ⟨t, tyOf_ext s h1, h2⟩)
theorem OddS.wh {K : PySem.W.Frag} {H : Hp} {v : V} (h : OddS K H v) : ∃ r, Wh K H v r ∧ szT [r] = false ∧ szT [some 1, r] = false := by
  have nn : szT [none] = false ∧ szT [some 1, none] = false := ⟨by decide, by decide⟩
  rcases h with ⟨i, rfl, hi⟩ | ⟨b, rfl⟩ | ⟨t, h1, h2⟩
  · refine ⟨some i, .inl ⟨i, rfl, rfl⟩, ?_⟩
    have a1 : ([some i] : List (Option Int)).all whp = decide (1 ≤ i) := by simp [whp]
    have a2 : ([some 1, some i] : List (Option Int)).all whp = decide (1 ≤ i) := by simp [whp]
    have m1 : (([some i] : List (Option Int)).map fun r => r.getD 0).sum = i := by simp
    have m2 : (([some 1, some i] : List (Option Int)).map fun r => r.getD 0).sum = 1 + i := by simp
    unfold szT
    rw [a1, a2, m1, m2]
    rcases hi with hi | hi
    · rw [decide_eq_false (show ¬ 1 ≤ i by omega)]
      simp
    · rw [decide_eq_false (show ¬ i ≤ 120 by omega), decide_eq_false (show ¬ 1 + i ≤ 120 by omega)]
      simp
  · exact ⟨none, .inr (.inl ⟨b, rfl, rfl⟩), nn⟩
  · exact ⟨none, .inr (.inr ⟨t, .base h1, h2, rfl⟩), nn⟩
theorem sh_pat0 : SeqAt.shaped (.tuple [.str "pattern", .int 0]) = true := by decide +kernel
theorem ev_pat0 : PyData.eqv (.tuple [.str "pattern", .int 0]) (.tuple [.str "pattern", .int 0]) = true := by simp [PyData.eqv, PyData.eqvAll]
theorem bt_take {x : List Nat} {i c : Nat} (h : x[i]? = some c) : bt (x.take (i + 1)) = if c = 46 then bt (x.take i) else bt (x.take i) ++ [c] := by
  rw [take_s h]
  show List.filter _ _ = _
  rw [List.filter_append]
  by_cases e : c = 46
  · subst e
    simp
  · simp [e]
theorem fullP_ok {x : List Nat} (h : IsP x) : szs (fullP (szs x)) = szs x ∧ bt (fullP (szs x)) = List.replicate (bt x).length 49 := by
  have bits : Bits (List.replicate (szs x).sum 49) := fun c hc => .inr (List.mem_replicate.mp hc).2
  have ne : szs x ≠ [] := fun q => by
    have h2 := (szA_len x 0).1
    unfold szs at q
    rw [q] at h2
    simp at h2
  exact ⟨jn_sz bits (by simp) ne, by rw [jn_bt bits (by simp), bt_sum]⟩
section
variable {P : Program} {wo : World} {K : PySem.W.Frag} {mg : Str → Option Value} {base : Heap} {z : Pz} {w : Lz}
theorem ok_law {Tb : List (Addr × Str)} {cL PL f : Addr} {oc kV doc pm ct : Value} {od an : Option Addr} {osl : Array (Option Value)} (T : TxL K mg z w)
    (lk : K.lookup f = some ⟨oc, od, .func (PySem.W.fnOf "law" "law" (defArgs s_law) (defBody s_law) (defScope s_law) .none kV doc pm an (.ref cL) ct), osl⟩) (hcd : PySem.W.codeIn K (.ref cL) "law" = true)
    (TB : LamX.TabB base mg cL PL) (hmT : (PL, qLaw) ∈ Tb) (hu : ∀ p ∈ Tb, p.1 = PL → p.2 = qLaw) (G_Lrefused : FnOk P wo K mg base CX0 9 w.a_Lrefused w.d_Lrefused ["_law_pen_here", "_law_p", "_law_sizes_here", "_law_signs"] (spRefused Tb z.C)) :
    FnOk P wo K mg base CX0 10 f (PySem.W.fnOf "law" "law" (defArgs s_law) (defBody s_law) (defScope s_law) .none kV doc pm an (.ref cL) ct) ["_law_script"] (spLaw K Tb) := by
  obtain ⟨ocC, odC, kVC, docC, pmC, anC, cdC, ctC, oslC, efC, lkC, hcC⟩ := T.F_Lcaught.ex
  have bC := T.b_Lcaught
  rw [efC] at lkC bC
  refine okC lk hcd sc_law (fun {vs H Q E} h => ?_) (fun {A outer s H vs Q E} hr h => ?_)
  · obtain ⟨a, ns, rfl, _⟩ := h
    rfl
  · obtain ⟨a, ns, rfl, hS, hlen, hT, kk⟩ := h
    have hr8 : Room 9 _ := hr
    have hr7 : Room 8 _ := hr.mono (by decide)
    have hr6 : Room 7 _ := hr.mono (by decide)
    have hr5 : Room 6 _ := hr.mono (by decide)
    have hr4 : Room 5 _ := hr.mono (by decide)
    have hr2 : Room 3 _ := hr.mono (by decide)
    have hr1 : Room 2 _ := hr.mono (by decide)
    have hu64 : (A.deeper (envOfC "law" (defScope s_law) s.heap.objs.size f (.ref cL))).units + 64 < cLine := hr.units
    have G_Lpen : FnOk P wo K mg base CX0 2 w.a_Lpen w.d_Lpen ["_law_script"] (spPen K) := ok_pen T.F_Lpen T.pp
    have G_Ltake : FnOk P wo K mg base CX0 2 w.a_Ltake w.d_Ltake ["_law_pen_here", "_law_many"] spTake := ok_take T.F_Ltake T.pp
    have G_Lsizes : FnOk P wo K mg base CX0 3 w.a_Lsizes w.d_Lsizes ["_law_pen_here", "_law_most"] spSzs := ok_Lsizes T
    have G_Ldrawn : FnOk P wo K mg base CX0 3 w.a_Ldrawn w.d_Ldrawn ["_law_pen_here", "_law_sizes_here"] spDrawn := ok_Ldrawn T
    have G_Ltells : FnOk P wo K mg base CX0 6 w.a_Ltells w.d_Ltells ["_law_p", "_law_sizes_here", "_law_signs"] (spTells K z.C) := ok_Ltells T
    have G_Lchanged : FnOk P wo K mg base CX0 7 w.a_Lchanged w.d_Lchanged ["_law_pen_here", "_law_p", "_law_sizes_here", "_law_signs"] (spChanged K z.C) := ok_Lchanged T
    have G_init : FnOk P wo K mg base CX0 4 z.a_init z.d_init ["self", "text"] (spInit z.C) := ok_init T.toTxp
    refine ⟨_, (pss_cons (ps_set (i := 1) sc_law.nd rfl (Or.inl rfl) (pe_call G_Lpen hr1 rfl T.g_Lpen T.k_Lpen T.b_Lpen .nil pass0 (pa_cons (pv 0) pa_nil)))
      (pss_cons (ps_for PassesOwn.never rfl (pi_range1 rfl T.n_range (pa_cons pe_int pa_nil)) (pg_name (i := 2) sc_law.nd rfl (Or.inl rfl))
        (pss_cons (ps_set (i := 3) sc_law.nd rfl (Or.inl rfl) (pe_call G_Lsizes hr2 rfl T.g_Lsizes T.k_Lsizes T.b_Lsizes .nil pass0 (pa_cons (pv 1) (pa_cons pe_int pa_nil))))
        (pss_cons (ps_set (i := 4) sc_law.nd rfl (Or.inl rfl) (pe_call G_Ldrawn hr2 rfl T.g_Ldrawn T.k_Ldrawn T.b_Ldrawn .nil pass0 (pa_cons (pv 1) (pa_cons (pv 3) pa_nil))))
        (pss_cons (by refine' ps_setLc (own := [("_law_sign", 9)]) (i := 5) rfl sc_law.nd rfl rfl (sw_true rfl rfl rfl (by decide +kernel)) ?hi (blkOk_by (N := ["_law_script", "_law_pen_here", "_law_turn", "_law_sizes_here", "_law_text", "_law_signs", "_law_p", "_law_full", "_law_odd", "_law_sign"]) (sc := defScope s_law) (by first | decide +kernel | kernel_rfl | rfl)) ?hg ?ht ?he (by intro _; rfl); (case hi => exact (pi_str (pv 4))); (case hg => exact fun _ _ _ _ _ => (pg_name (i := 9) sc_law.nd rfl (Or.inl rfl))); (case ht => exact fun _ _ _ _ _ => (pts_one (pt_cmpR op_ne (pv 9) pe_str (nomark _)))); (case he => exact fun _ _ _ _ _ => (pv 9)))
        (pss_cons (ps_set (i := 6) sc_law.nd rfl (Or.inl rfl) (pe_make T.mkP G_init hr4 rfl T.g_Pattern T.b_init .nil pass0 (pa_cons (pv 4) pa_nil)))
        (pss_cons (ps_if (PW.pt (pw_or (pt_not (pt_val (pe_call G_Ltells hr5 rfl T.g_Ltells T.k_Ltells T.b_Ltells .nil pass0 (pa_cons (pv 6) (pa_cons (pv 3) (pa_cons (pv 5) pa_nil)))))) (pw_or1 (pt_not (pt_val (pe_call G_Lchanged hr6 rfl T.g_Lchanged T.k_Lchanged T.b_Lchanged .nil pass0 (pa_cons (pv 1) (pa_cons (pv 6) (pa_cons (pv 3) (pa_cons (pv 5) pa_nil))))))))))
          (pss_one (ps_ret pe_bl))
          pss_nil)
        (pss_cons (ps_if (pt_not (pt_val (pe_call G_Lrefused hr8 rfl T.g_Lrefused T.k_Lrefused T.b_Lrefused .nil pass0 (pa_cons (pv 1) (pa_cons (pv 6) (pa_cons (pv 3) (pa_cons (pv 5) pa_nil)))))))
          (pss_one (ps_ret pe_bl))
          pss_nil)
        (pss_cons (ps_set (i := 7) sc_law.nd rfl (Or.inl rfl) (pe_lst (pa_cons (ClX.pe_cmeth (pe_glob (v := .ref z.C) rfl T.g_Pattern rfl) T.crP T.cm_full (ok_full T.toTxp) hr5 passL (pa_cons (pe_ix ix_list (pv 3) pe_int (fun _ _ => rfl)) pa_nil)) pa_nil)))
        (C8.pss_cut (ps_if (pt_cmpR op_eq (pe_callB call_len_seq (by rfl) T.n_len (by decide +kernel) (pa_cons (pv 3) pa_nil)) pe_int (nomark _))
          (pss_one (ps_set (i := 7) sc_law.nd rfl (Or.inl rfl) (pe_lst (pa_cons (ClX.pe_cmeth (pe_glob (v := .ref z.C) rfl T.g_Pattern rfl) T.crP T.cm_full (ok_full T.toTxp) hr5 passL (pa_cons (pe_ix ix_list (pv 3) pe_int (fun _ _ => rfl)) (pa_cons (pe_ix ix_list (pv 3) pe_int (fun _ _ => rfl)) pa_nil))) pa_nil))))
          pss_nil)
        (C8.pss_cut (ps_if (pt_cmpR op_eq (pe_callB call_len_seq (by rfl) T.n_len (by decide +kernel) (pa_cons (pv 3) pa_nil)) pe_int (nomark _))
          (pss_one (ps_set (i := 7) sc_law.nd rfl (Or.inl rfl) (pe_lst (pa_cons (ClX.pe_cmeth (pe_glob (v := .ref z.C) rfl T.g_Pattern rfl) T.crP T.cm_full (ok_full T.toTxp) hr5 passL (pa_cons (pe_ix ix_list (pv 3) pe_int (fun _ _ => rfl)) (pa_cons (pe_ix ix_list (pv 3) pe_int (fun _ _ => rfl)) (pa_cons (pe_ix ix_list (pv 3) pe_int (fun _ _ => rfl)) pa_nil)))) pa_nil))))
          pss_nil)
        (pss_cons (ps_if (pt_not (pt_val (pe_call G_Ltells hr5 rfl T.g_Ltells T.k_Ltells T.b_Ltells .nil pass0 (pa_cons (pe_ix ix_list (pv 7) pe_int (fun _ _ => rfl)) (pa_cons (pv 3) (pa_cons (pe_op op_rep (pe_lst (pa_cons pe_str pa_nil)) (pe_callB call_len_seq (by rfl) T.n_len (by decide +kernel) (pa_cons (pv 5) pa_nil))) pa_nil))))))
          (pss_one (ps_ret pe_bl))
          pss_nil)
        (pss_cons (ps_set (i := 8) sc_law.nd rfl (Or.inr rfl) (pe_ix ix_list (pe_lst (pa_cons pe_int (pa_cons (pe_un un_neg pe_int) (pa_cons pe_bl (pa_cons pe_non (pa_cons pe_str (pa_cons (pe_op op_pow pe_int pe_int) (pa_cons pe_int (pa_cons (pe_tup (pa_cons pe_int pa_nil)) pa_nil))))))))) (pe_call G_Ltake hr1 rfl T.g_Ltake T.k_Ltake T.b_Ltake .nil pass0 (pa_cons (pv 1) (pa_cons pe_int pa_nil))) (fun _ _ => rfl)))
        (pss_cons (ps_if (pt_cmpR (op_neD hu64) (LamX.pe_lamcall (T := Tb) (TT := TTc z) (k := 6) rfl T.g_Lcaught T.k_Lcaught lkC hcC bC sc_Lcaught rfl (Or.inl rfl) (ok_Lcaught (cdv := cdC) T) TB rfl hmT hu hr7 (LamX.lamS_by (by first | decide +kernel | kernel_rfl | rfl)) rfl (fun _ _ _ _ _ => rfl) (fun A outer s H E f c' hr => (ClX.pe_cmeth (pe_glob (v := .ref z.C) rfl T.g_Pattern rfl) T.crP T.cm_full (ok_full T.toTxp) hr (passes_call (takes_of rfl rfl rfl rfl) (fun _ _ _ _ h => h)) (pa_cons (pv 8) pa_nil)))) (pe_tup (pa_cons pe_str (pa_cons pe_int pa_nil))) (nomark _))
          (pss_one (ps_ret pe_bl))
          pss_nil)
        (pss_one (ps_if (pt_cmpR (op_neD hu64) (LamX.pe_lamcall (T := Tb) (TT := TTc z) (k := 6) rfl T.g_Lcaught T.k_Lcaught lkC hcC bC sc_Lcaught rfl (Or.inl rfl) (ok_Lcaught (cdv := cdC) T) TB rfl hmT hu hr7 (LamX.lamS_by (by first | decide +kernel | kernel_rfl | rfl)) rfl (fun _ _ _ _ _ => rfl) (fun A outer s H E f c' hr => (ClX.pe_cmeth (pe_glob (v := .ref z.C) rfl T.g_Pattern rfl) T.crP T.cm_full (ok_full T.toTxp) hr (passes_call (takes_of rfl rfl rfl rfl) (fun _ _ _ _ h => h)) (pa_cons pe_int (pa_cons (pv 8) pa_nil))))) (pe_tup (pa_cons pe_str (pa_cons pe_int pa_nil))) (nomark _))
          (pss_one (ps_ret pe_bl))
          pss_nil)))))))))))))))
      (pss_cons (ps_if (PW.pt (pw_or (pt_cmpR (op_neD hu64) (LamX.pe_lamcall (T := Tb) (TT := TTc z) (k := 6) rfl T.g_Lcaught T.k_Lcaught lkC hcC bC sc_Lcaught rfl (Or.inl rfl) (ok_Lcaught (cdv := cdC) T) TB rfl hmT hu hr7 (LamX.lamS_by (by first | decide +kernel | kernel_rfl | rfl)) rfl (fun _ _ _ _ _ => rfl) (fun A outer s H E f c' hr => (ClX.pe_cmeth (pe_glob (v := .ref z.C) rfl T.g_Pattern rfl) T.crP T.cm_full (ok_full T.toTxp) hr (passes_call (takes_of rfl rfl rfl rfl) (fun _ _ _ _ h => h)) (pa_cons pe_int (pa_cons pe_int (pa_cons pe_int (pa_cons pe_int pa_nil))))))) (pe_tup (pa_cons pe_str (pa_cons pe_int pa_nil))) (nomark _)) (pw_or1 (pt_cmpR op_ne (pe_callB (call_lenP T.toTxp hr2) (by rfl) T.n_len (by decide +kernel) (pa_cons (ClX.pe_cmeth (pe_glob (v := .ref z.C) rfl T.g_Pattern rfl) T.crP T.cm_full (ok_full T.toTxp) hr5 passL (pa_cons pe_int (pa_cons pe_int pa_nil))) pa_nil)) pe_int (nomark _)))))
        (pss_one (ps_ret pe_bl))
        pss_nil)
      (pss_cons (ps_if (PW.pt (pw_or (pt_cmpR op_ne (ClX.pe_cval (pe_glob (v := .ref z.C) rfl T.g_Pattern rfl)) pe_int (nomark _)) (pw_or1 (pt_cmpR op_ne (ClX.pe_cval (pe_glob (v := .ref z.C) rfl T.g_Pattern rfl)) pe_int (nomark _)))))
        (pss_one (ps_ret pe_bl))
        pss_nil)
      (pss_one (ps_ret (pe_cmpR (op_eqD hu64) (LamX.pe_lamcall (T := Tb) (TT := TTc z) (k := 6) rfl T.g_Lcaught T.k_Lcaught lkC hcC bC sc_Lcaught rfl (Or.inl rfl) (ok_Lcaught (cdv := cdC) T) TB rfl hmT hu hr7 (LamX.lamS_by (by first | decide +kernel | kernel_rfl | rfl)) rfl (fun _ _ _ _ _ => rfl) (fun A outer s H E f c' hr => (ClX.pe_cmeth (pe_glob (v := .ref z.C) rfl T.g_Pattern rfl) T.crP T.cm_full (ok_full T.toTxp) hr (passes_call (takes_of rfl rfl rfl rfl) (fun _ _ _ _ h => h)) (pa_cons pe_int (pa_cons pe_int (pa_cons pe_int pa_nil)))))) (pe_tup (pa_cons pe_str (pa_cons pe_int pa_nil))) (nomark _)))))))), ?_⟩
    refine ⟨_, rfl, a, ns, rfl, hS, hlen, fun p l H1 hp1 hl1 s1 P1 => ?_⟩
    refine ⟨5, rfl, by decide, by decide, for_range (n := 5) (fun i σ H' => PenL H' p l (200 * i) ∧ LamX.Tabs Tb H' ∧ ∃ x2 x3 x4 x5 x6 x7 x8 x9 : Option V, σ = [some (.ref a), some (.ref p), x2, x3, x4, x5, x6, x7, x8, x9])
      ⟨P1, hT.ext s1, none, none, none, none, none, none, none, none, rfl⟩ ?_ ?_⟩
    · rintro i σ H2 hi ⟨P2, T2, x2, x3, x4, x5, x6, x7, x8, x9, rfl⟩
      -- sizes, text
      refine ⟨_, rfl, p, l, 20, 200 * i, rfl, by decide, by decide, by omega, P2, fun q ss H3 B3 P3 hqn hq hl1 hl3 hss => ?_⟩
      have T3 := tabs_but T2 P2 B3
      refine ⟨_, rfl, _, rfl, p, l, q, 200 * i + 4, ss, rfl, by omega, P3, hq, hl1, hl3, fun s hs => ⟨(hss s hs).1, by have := (hss s hs).2; omega⟩, fun x H4 B4 P4 sg sz => ?_⟩
      have T4 := tabs_but T3 P3 B4
      have hq4 := B4 q _ (P3.neo hq fun _ z => nomatch z) hq
      have hpx : IsP x := isP_of (M := 20) sg sz hl3 (fun s hs => ⟨(hss s hs).1, by have := (hss s hs).2; omega⟩) (by decide)
      subst sz
      have lx := hpx.len
      have bx := bt_len hpx
      have bsm := bt_sum x
      -- signs
      refine ⟨_, rfl, S x, rfl, fun D hD => ?_⟩
      refine lc_S (fun i H' => Same H4 H' ∧ H' D = some (.lst (sgV (bt (x.take i))))) ⟨smN (Same.refl _) hD, upd_same⟩ (fun i c H5 hc h5 => ?_) (fun H5 h5 => ?_)
      · obtain ⟨s5, hD5⟩ := h5
        refine ⟨rfl, _, rfl, rfl, _, rfl, ?_⟩
        rw [bt_take hc, S_d]
        by_cases e : c = 46
        · rw [if_pos e, decide_eq_true (by rw [e])]
          exact iteNo ⟨s5, hD5⟩
        · rw [if_neg e, decide_eq_false (fun q => e (by simpa using S_eq.mp q))]
          refine iteT ?_
          refine ⟨_, rfl, _, hD5, ?_, fun b o eb => ?_, ?_⟩
          · unfold sgV
            rw [List.length_map]
            refine small1 _ (Nat.le_trans (List.length_filter_le _ _) ?_)
            rw [List.length_take]
            omega
          · rw [upd_ne (ne_of_none eb hD)]
            exact s5 b o eb
          · rw [upd_same]
            unfold sgV
            rw [List.map_append]
            rfl
      obtain ⟨s5, hD5⟩ := h5
      rw [List.take_length] at hD5
      have P5 := P4.same s5
      have T5 := T4.ext s5
      have hq5 := s5 _ _ hq4
      -- p
      refine ⟨_, rfl, fun o' dxo no ndo neo => ⟨o', dxo, x, rfl, hpx, upd_same, fun tz6 H6 kp6 hi6 ht6 => ⟨rfl, ?_⟩⟩⟩
      obtain ⟨s6, ho⟩ := pat_new hpx no ndo kp6 hi6 ht6
      have P6 := P5.same s6
      have T6 := T5.ext s6
      have hq6 := s6 _ _ hq5
      have hD6 := s6 _ _ hD5
      -- tells, changed
      refine ⟨_, rfl, _, rfl, _, rfl, o', q, D, x, rfl, ho, SqL.of hq6, SqL.of hD6, fun H7 s7 => ⟨_, rfl, iteF ?_⟩⟩
      have P7 := P6.same s7
      have T7 := T6.ext s7
      refine ⟨_, rfl, _, rfl, _, rfl, _, rfl, p, l, o', q, D, 200 * i + 124, x, rfl, by omega, P7, ho.same s7, s7 _ _ hq6, s7 _ _ hD6, fun H8 B8 P8 => ⟨_, rfl, iteF ?_⟩⟩
      have T8 := tabs_but T7 P7 B8
      have nq := P7.neo (s7 _ _ hq6) (fun _ z => nomatch z)
      have nD := P7.neo (s7 _ _ hD6) (fun _ z => nomatch z)
      have hq8 := B8 q _ nq (s7 _ _ hq6)
      have hD8 := B8 D _ nD (s7 _ _ hD6)
      have ho8 := (ho.same s7).but P7 B8
      -- refused
      refine ⟨_, rfl, _, rfl, _, rfl, _, rfl, p, l, o', q, D, 200 * i + 134, x, rfl, by omega, P8, ho8, hq8, hD8, T8, fun H9 B9 P9 T9 => ⟨_, rfl, iteF ?_⟩⟩
      have hq9 := B9 q _ nq hq8 (fun _ z => nomatch z)
      have hD9 := B9 D _ nD hD8 (fun _ z => nomatch z)
      clear B9 ho8 hq8 hD8 B8 P8 T8 P7 T7 hq6 hD6 P6 T6 ho P5 T5 hq5 hD5 s5 s6 s7
      -- full
      have lq : (nums (szs x)).length = (szs x).length := by unfold nums; rw [List.length_map]
      have one : ∀ s ∈ szs x, 1 ≤ s := hpx.one
      have at_ : ∀ (j u : Nat), (szs x)[j]? = some u → atI (nums (szs x)) (j : Int) = some (.int (u : Nat)) := fun j u e => atI_nat (by unfold nums; rw [List.getElem?_map, e] <;> rfl)
      obtain ⟨u0, us, e0⟩ : ∃ u us, szs x = u :: us := by
        cases q : szs x with
        | nil => rw [q] at hl1; simp at hl1
        | cons u us => exact ⟨u, us, rfl⟩
      have g0 := at_ 0 u0 (by rw [e0] <;> rfl)
      have m0 : u0 ∈ szs x := by rw [e0]; exact List.mem_cons_self
      have o0 := one u0 m0
      have l0 := le_sum m0
      refine ⟨rfl, _, rfl, q, _, 0, _, rfl, rfl, SqL.of hq9, g0, full_good (ss := [u0]) (Nat.le_refl 1) (by show 1 ≤ 3; decide) (fun s hs => by rw [List.mem_singleton.mp hs]; exact o0) (by rw [List.sum_cons, List.sum_nil]; omega) fun o1 H10 s10 no1 ho1 => ?_⟩
      refine ⟨by show 1 ≤ sizeLine; decide, fun F hF => ?_⟩
      have s11 := smN (o := .lst [.ref o1]) s10 hF
      have ho11 := ho1.same (smN (o := .lst [.ref o1]) (Same.refl _) hF)
      -- if there are two
      refine ⟨fun σ H' => Same H9 H' ∧ ∃ F o, H' F = some (.lst [.ref o]) ∧ ((szs x).length ≤ 2 → PtI z.C H' o (fullP (szs x))) ∧ ∃ x2 x9 x8, σ = [some (.ref a), some (.ref p), x2, some (.ref q), some (.str (S x)), some (.ref D), some (.ref o'), some (.ref F), x8, x9], ?_, ?_⟩
      · refine ⟨_, rfl, q, _, rfl, .inl (SqL.of (s11 _ _ hq9)), rfl, _, rfl, ?_⟩
        rw [lq]
        refine ite2 (fun h => ?_) (fun h => ?_)
        · have h2 : (szs x).length = 2 := by have := V.int.inj (of_decide_eq_true h); omega
          obtain ⟨u1, e1⟩ : ∃ u1, szs x = [u0, u1] := by
            rw [e0] at h2 ⊢
            match us, h2 with
            | [u1], _ => exact ⟨u1, rfl⟩
          have g1 := at_ 1 u1 (by rw [e1] <;> rfl)
          have m1 : u1 ∈ szs x := by rw [e1]; simp
          have sm : (szs x).sum = u0 + u1 := by rw [e1]; simp
          have o1' := one u1 m1
          refine ⟨rfl, _, rfl, q, _, 0, _, rfl, rfl, SqL.of (s11 _ _ hq9), g0, _, rfl, q, _, 1, _, rfl, rfl, SqL.of (s11 _ _ hq9), g1, full_good (ss := [u0, u1]) (by show 1 ≤ 2; decide) (by show 2 ≤ 3; decide) (fun s hs => one s (by rw [e1]; exact hs)) (by rw [← e1]; omega) fun o2 H12 s12 no2 ho2 => ?_⟩
          refine ⟨by show 1 ≤ sizeLine; decide, fun F2 hF2 => ?_⟩
          exact ⟨smN (s11.trans s12) hF2, F2, o2, upd_same, fun _ => by rw [e1]; exact ho2.same (smN (o := .lst [.ref o2]) (Same.refl _) hF2), _, _, _, rfl⟩
        · have h2 : ¬ (szs x).length = 2 := fun e => h (by rw [e] <;> rfl)
          refine ⟨s11, F, o1, upd_same, fun hl => ?_, _, _, _, rfl⟩
          have : us = [] := by
            rw [e0] at hl h2
            match us, hl, h2 with
            | [], _, _ => rfl
            | [u1], _, h2 => exact absurd rfl h2
          rw [e0, this]
          exact ho11
      -- if there are three
      rintro σ H13 ⟨s13, F3, o3, hF3, ho3, x2', x9', x8', rfl⟩
      refine ⟨fun σ H' => Same H9 H' ∧ ∃ F o, H' F = some (.lst [.ref o]) ∧ PtI z.C H' o (fullP (szs x)) ∧ ∃ x2 x9 x8, σ = [some (.ref a), some (.ref p), x2, some (.ref q), some (.str (S x)), some (.ref D), some (.ref o'), some (.ref F), x8, x9], ?_, ?_⟩
      · refine ⟨_, rfl, q, _, rfl, .inl (SqL.of (s13 _ _ hq9)), rfl, _, rfl, ?_⟩
        rw [lq]
        refine ite2 (fun h => ?_) (fun h => ?_)
        · have h2 : (szs x).length = 3 := by have := V.int.inj (of_decide_eq_true h); omega
          obtain ⟨u1, u2, e1⟩ : ∃ u1 u2, szs x = [u0, u1, u2] := by
            rw [e0] at h2 ⊢
            match us, h2 with
            | [u1, u2], _ => exact ⟨u1, u2, rfl⟩
          have g1 := at_ 1 u1 (by rw [e1] <;> rfl)
          have g2 := at_ 2 u2 (by rw [e1] <;> rfl)
          refine ⟨rfl, _, rfl, q, _, 0, _, rfl, rfl, SqL.of (s13 _ _ hq9), g0, _, rfl, q, _, 1, _, rfl, rfl, SqL.of (s13 _ _ hq9), g1, _, rfl, q, _, 2, _, rfl, rfl, SqL.of (s13 _ _ hq9), g2, full_good (ss := [u0, u1, u2]) (by show 1 ≤ 3; decide) (by show 3 ≤ 3; decide) (fun s hs => one s (by rw [e1]; exact hs)) (by rw [← e1]; omega) fun o2 H12 s12 no2 ho2 => ?_⟩
          refine ⟨by show 1 ≤ sizeLine; decide, fun F2 hF2 => ?_⟩
          exact ⟨smN (s13.trans s12) hF2, F2, o2, upd_same, by rw [e1]; exact ho2.same (smN (o := .lst [.ref o2]) (Same.refl _) hF2), _, _, _, rfl⟩
        · have h2 : ¬ (szs x).length = 3 := fun e => h (by rw [e] <;> rfl)
          exact ⟨s13, F3, o3, hF3, ho3 (by omega), _, _, _, rfl⟩
      -- all stand
      rintro σ H14 ⟨s14, F4, o4, hF4, ho4, x2', x9', x8', rfl⟩
      obtain ⟨f1, f2⟩ := fullP_ok hpx
      have lD : (sgV (bt x)).length = (bt x).length := by unfold sgV; rw [List.length_map]
      refine ⟨_, rfl, F4, _, 0, _, rfl, rfl, SqL.of hF4, rfl, _, rfl, by show 1 ≤ sizeLine; decide, fun W hW => ?_⟩
      have s15 := smN (o := .lst [.str "1"]) (Same.refl H14) hW
      refine ⟨_, rfl, D, _, rfl, .inl (SqL.of (s15 _ _ (s14 _ _ hD9))), W, ((bt x).length : Nat), [.str "1"], rfl, by rw [lD], upd_same, by omega, by omega, ?_, fun W2 hW2 => ?_⟩
      · show 1 * ((bt x).length : Int).toNat ≤ sizeLine
        exact Nat.le_trans (show 1 * ((bt x).length : Int).toNat ≤ 1000 by omega) (by decide)
      have eW : (List.replicate ((bt x).length : Int).toNat [V.str "1"]).flatten = sgV (bt (fullP (szs x))) := by
        rw [f2, S_1, show ((bt x).length : Int).toNat = (bt x).length from rfl]
        unfold sgV
        rw [List.map_replicate]
        generalize (bt x).length = m
        induction m with
        | zero => rfl
        | succ m ih =>
          rw [List.replicate_succ, List.flatten_cons, ih, List.replicate_succ]
          rfl
      rw [eW]
      have s16 := smN (o := .lst (sgV (bt (fullP (szs x))))) s15 hW2
      refine ⟨o4, q, W2, _, rfl, ho4.same s16, by rw [f1]; exact SqL.of (s16 _ _ (s14 _ _ hq9)), SqL.of upd_same, fun H17 s17 => ⟨_, rfl, iteF ?_⟩⟩
      have s917 := (s14.trans s16).trans s17
      have P17 := P9.same s917
      have T17 := T9.ext s917
      clear s13 s14 s15 s16 s17 s917 s11 s10 ho1 ho11 hF ho3 hF3 ho4 hF4 hq9 hD9 P9 T9 hW hW2 no1
      -- sizes of no pattern
      refine ⟨1, rfl, 10, 50, rfl, rfl, ⟨by decide, by decide, by decide⟩, by show 1 ≤ sizeLine; decide, fun a1 h1 => ⟨by show 8 ≤ sizeLine; decide, fun a4 h4 => ?_⟩⟩
      have s1' := smN (o := .tup [.int 1]) (Same.refl H17) h1
      have m1 : (upd H17 a1 (.tup [.int 1])) a1 = some (.tup [.int 1]) := upd_same
      generalize upd H17 a1 (.tup [.int 1]) = G1 at *
      have s4' := smN (o := .lst [.int 0, .int (-1), .bl true, .non, .str "2", .int (10 ^ Int.toNat 50), .int 121, .ref a1]) (Same.refl _) h4
      have m4 : (upd G1 a4 (.lst [.int 0, .int (-1), .bl true, .non, .str "2", .int (10 ^ Int.toNat 50), .int 121, .ref a1])) a4 = some (.lst [.int 0, .int (-1), .bl true, .non, .str "2", .int (10 ^ Int.toNat 50), .int 121, .ref a1]) := upd_same
      generalize upd G1 a4 (.lst [.int 0, .int (-1), .bl true, .non, .str "2", .int (10 ^ Int.toNat 50), .int 121, .ref a1]) = G4 at *
      have Q4 := P17.same (s1'.trans s4')
      have T4' := T17.ext (s1'.trans s4')
      have m1 := s4' _ _ m1
      refine ⟨_, rfl, p, l, 8, 200 * i + 138, rfl, by decide, by decide, by omega, Q4, fun d H18 hd0 hd1 P18 k18 => ?_⟩
      have T18 := tabs_but T4' Q4 (But.took k18)
      have m1 := (k18 a1 (Q4.neo m1 fun _ z => nomatch z)).trans m1
      have m4 := (k18 a4 (Q4.neo m4 fun _ z => nomatch z)).trans m4
      obtain ⟨v, ev, ho⟩ : ∃ v, atI [V.int 0, .int (-1), .bl true, .non, .str "2", .int (10 ^ Int.toNat 50), .int 121, .ref a1] d = some v ∧ OddS K H18 v := by
        have : d = 0 ∨ d = 1 ∨ d = 2 ∨ d = 3 ∨ d = 4 ∨ d = 5 ∨ d = 6 ∨ d = 7 := by omega
        rcases this with rfl | rfl | rfl | rfl | rfl | rfl | rfl | rfl
        · exact ⟨_, rfl, .inl ⟨_, rfl, .inl (by decide)⟩⟩
        · exact ⟨_, rfl, .inl ⟨_, rfl, .inl (by decide)⟩⟩
        · exact ⟨_, rfl, .inr (.inl ⟨_, rfl⟩)⟩
        · exact ⟨_, rfl, .inr (.inr ⟨_, .non, kit_ty (by decide +kernel)⟩)⟩
        · exact ⟨_, rfl, .inr (.inr ⟨_, .str _, kit_ty (by decide +kernel)⟩)⟩
        · exact ⟨_, rfl, .inl ⟨_, rfl, .inr (by decide)⟩⟩
        · exact ⟨_, rfl, .inl ⟨_, rfl, .inr (by decide)⟩⟩
        · exact ⟨_, rfl, .inr (.inr ⟨_, .tup m1, kit_ty (by decide +kernel)⟩)⟩
      refine ⟨a4, _, d, v, rfl, rfl, SqL.of m4, ev, ?_⟩
      clear m1 m4 ev s1' s4' h1 h4 Q4 T4'
      -- one odd size
      refine ⟨T18, fun H19 x19 T19 => ?_⟩
      obtain ⟨r19, w19, i19, _⟩ := (ho.ext x19).wh
      refine ⟨rfl, _, rfl, full_bad (.cons w19 .nil) (by show 1 ≤ 1000; decide) i19 fun dd H20 s20 hd20 => .inr ⟨dd, 0, rfl, rfl, hd20, fun b1 t1 hb1 ht1 => ?_⟩⟩
      refine ⟨by show 2 ≤ sizeLine; decide, fun t2 ht2 => ?_⟩
      have sx1 := smN (o := ExR (.ref z.cNoPattern) (some dd) b1) s20 hb1
      have sx2 := smN (o := .tup [.str "pattern", .int 0]) (Same.refl _) ht1
      have mx1 : (upd (upd H20 b1 (ExR (.ref z.cNoPattern) (some dd) b1)) t1 (.tup [.str "pattern", .int (0 : Nat)])) t1 = some (.tup [.str "pattern", .int 0]) := upd_same
      have sx3 := smN (o := .tup [.str "pattern", .int 0]) (Same.refl _) ht2
      have mx2 := sx3 _ _ mx1
      refine ⟨_, _, .tup (SqT.of mx2) (.cons (.str _) (.cons (.int _) .nil)), .tup (SqT.of upd_same) (.cons (.str _) (.cons (.int _) .nil)), sh_pat0, sh_pat0, _, rfl, ?_⟩
      rw [ev_pat0]
      have s21 := (sx1.trans sx2).trans sx3
      refine iteF ?_
      have T21 := T19.ext s21
      have P21 := (ExtN.pen x19 P18).same s21
      have e21 := x19.trans (LamX.ExtN.of s21)
      -- and behind a right one
      refine ⟨T21, fun H22 x22 T22 => ?_⟩
      obtain ⟨r22, w22, _, i22⟩ := (ho.ext (e21.trans x22)).wh
      refine ⟨rfl, _, rfl, full_bad (rs := [some 1, r22]) (.cons (.inl ⟨1, rfl, rfl⟩) (.cons w22 .nil)) (by show 2 ≤ 1000; decide) i22 fun dd H23 s23 hd23 => .inr ⟨dd, 0, rfl, rfl, hd23, fun b1 t1 hb1 ht1 => ?_⟩⟩
      refine ⟨by show 2 ≤ sizeLine; decide, fun t2 ht2 => ?_⟩
      have sx1 := smN (o := ExR (.ref z.cNoPattern) (some dd) b1) s23 hb1
      have sx2 := smN (o := .tup [.str "pattern", .int 0]) (Same.refl _) ht1
      have mx1 : (upd (upd H23 b1 (ExR (.ref z.cNoPattern) (some dd) b1)) t1 (.tup [.str "pattern", .int (0 : Nat)])) t1 = some (.tup [.str "pattern", .int 0]) := upd_same
      have sx3 := smN (o := .tup [.str "pattern", .int 0]) (Same.refl _) ht2
      have mx2 := sx3 _ _ mx1
      refine ⟨_, _, .tup (SqT.of mx2) (.cons (.str _) (.cons (.int _) .nil)), .tup (SqT.of upd_same) (.cons (.str _) (.cons (.int _) .nil)), sh_pat0, sh_pat0, _, rfl, ?_⟩
      rw [ev_pat0]
      have s24 := (sx1.trans sx2).trans sx3
      refine iteF ?_
      exact ⟨((ExtN.pen x22 P21).same s24).mono (by omega), T22.ext s24, _, _, _, _, _, _, _, _, rfl⟩
    · rintro σ H2 ⟨P2, T2, x2, x3, x4, x5, x6, x7, x8, x9, rfl⟩
      have one4 : ∀ H : Hp, Paired (Wh K H) [V.int 1, .int 1, .int 1, .int 1] [some 1, some 1, some 1, some 1] := fun H => .cons (.inl ⟨_, rfl, rfl⟩) (.cons (.inl ⟨_, rfl, rfl⟩) (.cons (.inl ⟨_, rfl, rfl⟩) (.cons (.inl ⟨_, rfl, rfl⟩) .nil)))
      have big3 : ∀ H : Hp, Paired (Wh K H) [V.int 60, .int 60, .int 1] [some 60, some 60, some 1] := fun H => .cons (.inl ⟨_, rfl, rfl⟩) (.cons (.inl ⟨_, rfl, rfl⟩) (.cons (.inl ⟨_, rfl, rfl⟩) .nil))
      refine ⟨T2, fun H3 x3' T3 => ?_⟩
      refine ⟨rfl, full_bad (one4 H3) (by show 4 ≤ 1000; decide) (by decide) fun dd H4 s4 hd4 => .inr ⟨dd, 0, rfl, rfl, hd4, fun b1 t1 hb1 ht1 => ?_⟩⟩
      refine ⟨by show 2 ≤ sizeLine; decide, fun t2 ht2 => ?_⟩
      have sx1 := smN (o := ExR (.ref z.cNoPattern) (some dd) b1) s4 hb1
      have sx2 := smN (o := .tup [.str "pattern", .int 0]) (Same.refl _) ht1
      have mx1 : (upd (upd H4 b1 (ExR (.ref z.cNoPattern) (some dd) b1)) t1 (.tup [.str "pattern", .int (0 : Nat)])) t1 = some (.tup [.str "pattern", .int 0]) := upd_same
      have sx3 := smN (o := .tup [.str "pattern", .int 0]) (Same.refl _) ht2
      have mx2 := sx3 _ _ mx1
      refine ⟨_, _, .tup (SqT.of mx2) (.cons (.str _) (.cons (.int _) .nil)), .tup (SqT.of upd_same) (.cons (.str _) (.cons (.int _) .nil)), sh_pat0, sh_pat0, _, rfl, ?_⟩
      rw [ev_pat0]
      have s5 := (sx1.trans sx2).trans sx3
      refine iteF ?_
      have T5 := T3.ext s5
      refine ⟨rfl, full_good (ss := [60, 60]) (by decide) (by decide) (fun s hs => by simp at hs; omega) (by decide) fun o H6 s6 no ho => ?_⟩
      refine ⟨o, _, rfl, ho, rfl, _, rfl, ?_⟩
      rw [show (fun l => V.int ((bt l).length : Nat)) (fullP [60, 60]) = V.int 120 by decide +kernel, decide_eq_true rfl]
      refine iteF ?_
      obtain ⟨mc, u, cr, cv⟩ := T.vBLOCKS
      obtain ⟨mc', u', cr', cv'⟩ := T.vBITS
      refine ⟨z.C, mc', _, u', rfl, cr', cv', rfl, _, rfl, ?_⟩
      rw [decide_eq_true rfl]
      refine iteF ?_
      refine ⟨z.C, mc, _, u, rfl, cr, cv, rfl, _, rfl, ?_⟩
      rw [decide_eq_true rfl]
      refine iteF ?_
      refine ⟨T5.ext s6, fun H7 x7' T7 => ?_⟩
      refine ⟨rfl, full_bad (big3 H7) (by show 3 ≤ 1000; decide) (by decide) fun dd H8 s8 hd8 => .inr ⟨dd, 0, rfl, rfl, hd8, fun b1 t1 hb1 ht1 => ?_⟩⟩
      refine ⟨by show 2 ≤ sizeLine; decide, fun t2 ht2 => ?_⟩
      have sx1 := smN (o := ExR (.ref z.cNoPattern) (some dd) b1) s8 hb1
      have sx2 := smN (o := .tup [.str "pattern", .int 0]) (Same.refl _) ht1
      have mx1 : (upd (upd H8 b1 (ExR (.ref z.cNoPattern) (some dd) b1)) t1 (.tup [.str "pattern", .int (0 : Nat)])) t1 = some (.tup [.str "pattern", .int 0]) := upd_same
      have sx3 := smN (o := .tup [.str "pattern", .int 0]) (Same.refl _) ht2
      have mx2 := sx3 _ _ mx1
      refine ⟨_, _, .tup (SqT.of mx2) (.cons (.str _) (.cons (.int _) .nil)), .tup (SqT.of upd_same) (.cons (.str _) (.cons (.int _) .nil)), sh_pat0, sh_pat0, ?_⟩
      rw [ev_pat0]
      have s9 := (sx1.trans sx2).trans sx3
      exact kk _
end
end Fb
-- bumped
set_option maxRecDepth 100000
set_option maxHeartbeats 4000000
namespace Fb
open PySem PySem.Spec PyProof.Rows L2
theorem all_mk {l : PySem.W.OpenLaw} {w : World} {K : PySem.W.Frag} {h : Heap} {mg : Str → Option Value} {fa : Addr} (X : K.In h) (G : h.Ns mainGlobals mg) (hfa : mg "law" = some (.ref fa))
    {C fe cNoPattern cNoBit p_sizes p_standing p_full : Addr} {ocC : Value} {odC : Option Addr} {cdC : PySem.ClassData} {slC : Array (Option Value)} {tB tK : Tok} {restF rest_sizes rest_standing : List Value}
    {cR PR cL PL : Addr} {odR odL : Option Addr} {vsR vsL : Array Value} {slR slL : Array (Option Value)}
    {a_sizes : Addr} {od_sizes an_sizes : Option Addr} {sl_sizes : Array (Option Value)} {oc_sizes kV_sizes dc_sizes pm_sizes cd_sizes ct_sizes : Value}
    {a_standing : Addr} {od_standing an_standing : Option Addr} {sl_standing : Array (Option Value)} {oc_standing kV_standing dc_standing pm_standing cd_standing ct_standing : Value}
    {a_fallen : Addr} {od_fallen an_fallen : Option Addr} {sl_fallen : Array (Option Value)} {oc_fallen kV_fallen dc_fallen pm_fallen cd_fallen ct_fallen : Value}
    {a_erased : Addr} {od_erased an_erased : Option Addr} {sl_erased : Array (Option Value)} {oc_erased kV_erased dc_erased pm_erased cd_erased ct_erased : Value}
    {a_full : Addr} {od_full an_full : Option Addr} {sl_full : Array (Option Value)} {oc_full kV_full dc_full pm_full cd_full ct_full : Value}
    {a_is_whole : Addr} {od_is_whole an_is_whole : Option Addr} {sl_is_whole : Array (Option Value)} {oc_is_whole kV_is_whole dc_is_whole pm_is_whole cd_is_whole ct_is_whole : Value}
    {a_is_number : Addr} {od_is_number an_is_number : Option Addr} {sl_is_number : Array (Option Value)} {oc_is_number kV_is_number dc_is_number pm_is_number cd_is_number ct_is_number : Value}
    {a_has_pattern_form : Addr} {od_has_pattern_form an_has_pattern_form : Option Addr} {sl_has_pattern_form : Array (Option Value)} {oc_has_pattern_form kV_has_pattern_form dc_has_pattern_form pm_has_pattern_form cd_has_pattern_form ct_has_pattern_form : Value}
    {a_first_wrong_sign : Addr} {od_first_wrong_sign an_first_wrong_sign : Option Addr} {sl_first_wrong_sign : Array (Option Value)} {oc_first_wrong_sign kV_first_wrong_sign dc_first_wrong_sign pm_first_wrong_sign cd_first_wrong_sign ct_first_wrong_sign : Value}
    {a_pattern_fault : Addr} {od_pattern_fault an_pattern_fault : Option Addr} {sl_pattern_fault : Array (Option Value)} {oc_pattern_fault kV_pattern_fault dc_pattern_fault pm_pattern_fault cd_pattern_fault ct_pattern_fault : Value}
    {a_need_pattern : Addr} {od_need_pattern an_need_pattern : Option Addr} {sl_need_pattern : Array (Option Value)} {oc_need_pattern kV_need_pattern dc_need_pattern pm_need_pattern cd_need_pattern ct_need_pattern : Value}
    {a_sizes_of : Addr} {od_sizes_of an_sizes_of : Option Addr} {sl_sizes_of : Array (Option Value)} {oc_sizes_of kV_sizes_of dc_sizes_of pm_sizes_of cd_sizes_of ct_sizes_of : Value}
    {a_need_bits : Addr} {od_need_bits an_need_bits : Option Addr} {sl_need_bits : Array (Option Value)} {oc_need_bits kV_need_bits dc_need_bits pm_need_bits cd_need_bits ct_need_bits : Value}
    {a_bits_of : Addr} {od_bits_of an_bits_of : Option Addr} {sl_bits_of : Array (Option Value)} {oc_bits_of kV_bits_of dc_bits_of pm_bits_of cd_bits_of ct_bits_of : Value}
    {a_places_of : Addr} {od_places_of an_places_of : Option Addr} {sl_places_of : Array (Option Value)} {oc_places_of kV_places_of dc_places_of pm_places_of cd_places_of ct_places_of : Value}
    {a_with_fallen : Addr} {od_with_fallen an_with_fallen : Option Addr} {sl_with_fallen : Array (Option Value)} {oc_with_fallen kV_with_fallen dc_with_fallen pm_with_fallen cd_with_fallen ct_with_fallen : Value}
    {a_with_erased : Addr} {od_with_erased an_with_erased : Option Addr} {sl_with_erased : Array (Option Value)} {oc_with_erased kV_with_erased dc_with_erased pm_with_erased cd_with_erased ct_with_erased : Value}
    {a_can_be_sizes : Addr} {od_can_be_sizes an_can_be_sizes : Option Addr} {sl_can_be_sizes : Array (Option Value)} {oc_can_be_sizes kV_can_be_sizes dc_can_be_sizes pm_can_be_sizes cd_can_be_sizes ct_can_be_sizes : Value}
    {a_init : Addr} {od_init an_init : Option Addr} {sl_init : Array (Option Value)} {oc_init kV_init dc_init pm_init cd_init ct_init : Value}
    {a_str : Addr} {od_str an_str : Option Addr} {sl_str : Array (Option Value)} {oc_str kV_str dc_str pm_str cd_str ct_str : Value}
    {a_len : Addr} {od_len an_len : Option Addr} {sl_len : Array (Option Value)} {oc_len kV_len dc_len pm_len cd_len ct_len : Value}
    {a_bool : Addr} {od_bool an_bool : Option Addr} {sl_bool : Array (Option Value)} {oc_bool kV_bool dc_bool pm_bool cd_bool ct_bool : Value}
    {a_getitem : Addr} {od_getitem an_getitem : Option Addr} {sl_getitem : Array (Option Value)} {oc_getitem kV_getitem dc_getitem pm_getitem cd_getitem ct_getitem : Value}
    {a_contains : Addr} {od_contains an_contains : Option Addr} {sl_contains : Array (Option Value)} {oc_contains kV_contains dc_contains pm_contains cd_contains ct_contains : Value}
    {a_Lpen : Addr} {od_Lpen an_Lpen : Option Addr} {sl_Lpen : Array (Option Value)} {oc_Lpen kV_Lpen dc_Lpen pm_Lpen cd_Lpen ct_Lpen : Value}
    {a_Ltake : Addr} {od_Ltake an_Ltake : Option Addr} {sl_Ltake : Array (Option Value)} {oc_Ltake kV_Ltake dc_Ltake pm_Ltake cd_Ltake ct_Ltake : Value}
    {a_Lsizes : Addr} {od_Lsizes an_Lsizes : Option Addr} {sl_Lsizes : Array (Option Value)} {oc_Lsizes kV_Lsizes dc_Lsizes pm_Lsizes cd_Lsizes ct_Lsizes : Value}
    {a_Ldrawn : Addr} {od_Ldrawn an_Ldrawn : Option Addr} {sl_Ldrawn : Array (Option Value)} {oc_Ldrawn kV_Ldrawn dc_Ldrawn pm_Ldrawn cd_Ldrawn ct_Ldrawn : Value}
    {a_Lcaught : Addr} {od_Lcaught an_Lcaught : Option Addr} {sl_Lcaught : Array (Option Value)} {oc_Lcaught kV_Lcaught dc_Lcaught pm_Lcaught cd_Lcaught ct_Lcaught : Value}
    {a_Ljoined : Addr} {od_Ljoined an_Ljoined : Option Addr} {sl_Ljoined : Array (Option Value)} {oc_Ljoined kV_Ljoined dc_Ljoined pm_Ljoined cd_Ljoined ct_Ljoined : Value}
    {a_Ltells : Addr} {od_Ltells an_Ltells : Option Addr} {sl_Ltells : Array (Option Value)} {oc_Ltells kV_Ltells dc_Ltells pm_Ltells cd_Ltells ct_Ltells : Value}
    {a_Lchanged : Addr} {od_Lchanged an_Lchanged : Option Addr} {sl_Lchanged : Array (Option Value)} {oc_Lchanged kV_Lchanged dc_Lchanged pm_Lchanged cd_Lchanged ct_Lchanged : Value}
    {a_Lrefused : Addr} {od_Lrefused an_Lrefused : Option Addr} {sl_Lrefused : Array (Option Value)} {oc_Lrefused kV_Lrefused dc_Lrefused pm_Lrefused ct_Lrefused : Value}
    {a_law : Addr} {od_law an_law : Option Addr} {sl_law : Array (Option Value)} {oc_law kV_law dc_law pm_law ct_law : Value}
    {NxU : Addr} {nmxU qxU : Str} {bsxU : List Value} {snxU : List Str} {subxU : List Value} {abxU : Bool} {colxU : Option Bool} {ddxU : Option Addr} {k0xU k1xU k2xU k3xU k5xU : Option Value}
    {NxN : Addr} {nmxN qxN : Str} {bsxN : List Value} {snxN : List Str} {subxN : List Value} {abxN : Bool} {colxN : Option Bool} {ddxN : Option Addr} {k0xN k1xN k2xN k3xN k5xN : Option Value}
    {a_npi : Addr} {od_npi an_npi : Option Addr} {sl_npi : Array (Option Value)} {oc_npi kV_npi dc_npi pm_npi cd_npi ct_npi : Value}
    (gC : PySem.W.nsIn K mainGlobals "Pattern" = some (some (.ref C)))
    (lC : K.lookup C = some ⟨ocC, odC, .cls cdC, slC⟩)
    (mroC : cdC.mro = [.ref C, .type "object"])
    (pgC : PySem.W.plainGet K C Str.empty = true)
    (hdC : PySem.W.hasDictIn K C = true)
    (poC : PySem.W.plainOver K C = true)
    (saC : PySem.W.findIn K (.ref C) "__setattr__" = some (some (.builtin "object.__setattr__")))
    (mkC : PySem.W.makesIn K C = true)
    (kpC : PySem.W.keepIn K (.ref C) = true)
    (na_text : PySem.W.findIn K (.ref C) "_text" = some none)
    (na_bits : PySem.W.findIn K (.ref C) "_bits" = some none)
    (na_sizes : PySem.W.findIn K (.ref C) "_sizes" = some none)
    (rdC : PySem.W.readsIn K C (.type "type") = true)
    (gaC : PySem.W.specialIn K (.ref C) "__getattribute__" = some (some (.builtin "type.__getattribute__")))
    (vB : PySem.W.findCls K (.ref C) (.type "type") "BITS" = some (.val (.int 120 tB)))
    (vK : PySem.W.findCls K (.ref C) (.type "type") "BLOCKS" = some (.val (.int 3 tK)))
    (caC : PySem.W.findIn K (.ref C) "__class__" = some (some (.builtin "object.__class__")))
    (hn : PySem.W.specialIn K (.builtin "object.__class__") "__get__" = some (some (.builtin "getset_descriptor.__get__")))
    (ht : PySem.W.takesIn K (.builtin "object.__class__") = some true)
    (moC : PySem.W.mroIn K C (.type "object") = some true)
    (tyC : PySem.W.typeIn K (.ref C) = some (.type "type"))
    (at_sizes : PySem.W.findIn K (.ref C) "sizes" = some (some (.ref p_sizes)))
    (get_sizes : PySem.W.specialIn K (.ref p_sizes) "__get__" = some (some (.builtin "property.__get__")))
    (tak_sizes : PySem.W.takesIn K (.ref p_sizes) = some true)
    (rec_sizes : PySem.W.recIn K p_sizes "property" = some (.ref a_sizes :: rest_sizes))
    (l_sizes : K.lookup a_sizes = some ⟨oc_sizes, od_sizes, .func (PySem.W.fnOf "sizes" "Pattern.sizes" (defArgs s_Pattern_sizes) (defBody s_Pattern_sizes) (defScope s_Pattern_sizes) .none kV_sizes dc_sizes pm_sizes an_sizes cd_sizes ct_sizes), sl_sizes⟩)
    (c_sizes : PySem.W.codeIn K cd_sizes "Pattern.sizes" = true)
    (k_sizes : PySem.W.keepIn K (.ref a_sizes) = true)
    (at_standing : PySem.W.findIn K (.ref C) "standing" = some (some (.ref p_standing)))
    (get_standing : PySem.W.specialIn K (.ref p_standing) "__get__" = some (some (.builtin "property.__get__")))
    (tak_standing : PySem.W.takesIn K (.ref p_standing) = some true)
    (rec_standing : PySem.W.recIn K p_standing "property" = some (.ref a_standing :: rest_standing))
    (l_standing : K.lookup a_standing = some ⟨oc_standing, od_standing, .func (PySem.W.fnOf "standing" "Pattern.standing" (defArgs s_Pattern_standing) (defBody s_Pattern_standing) (defScope s_Pattern_standing) .none kV_standing dc_standing pm_standing an_standing cd_standing ct_standing), sl_standing⟩)
    (c_standing : PySem.W.codeIn K cd_standing "Pattern.standing" = true)
    (k_standing : PySem.W.keepIn K (.ref a_standing) = true)
    (at_fallen : PySem.W.findIn K (.ref C) "fallen" = some (some (.ref a_fallen)))
    (fn_fallen : PySem.W.isFn K (.ref a_fallen) = true)
    (l_fallen : K.lookup a_fallen = some ⟨oc_fallen, od_fallen, .func (PySem.W.fnOf "fallen" "Pattern.fallen" (defArgs s_Pattern_fallen) (defBody s_Pattern_fallen) (defScope s_Pattern_fallen) .none kV_fallen dc_fallen pm_fallen an_fallen cd_fallen ct_fallen), sl_fallen⟩)
    (c_fallen : PySem.W.codeIn K cd_fallen "Pattern.fallen" = true)
    (k_fallen : PySem.W.keepIn K (.ref a_fallen) = true)
    (at_erased : PySem.W.findIn K (.ref C) "erased" = some (some (.ref a_erased)))
    (fn_erased : PySem.W.isFn K (.ref a_erased) = true)
    (l_erased : K.lookup a_erased = some ⟨oc_erased, od_erased, .func (PySem.W.fnOf "erased" "Pattern.erased" (defArgs s_Pattern_erased) (defBody s_Pattern_erased) (defScope s_Pattern_erased) .none kV_erased dc_erased pm_erased an_erased cd_erased ct_erased), sl_erased⟩)
    (c_erased : PySem.W.codeIn K cd_erased "Pattern.erased" = true)
    (k_erased : PySem.W.keepIn K (.ref a_erased) = true)
    (atF : PySem.W.findCls K (.ref C) (.type "type") "full" = some (.get (.builtin "classmethod.__get__") (.ref p_full) .none (.ref C)))
    (recF : PySem.W.recIn K p_full "classmethod" = some (.ref a_full :: restF))
    (fiF : PySem.W.fnIn K a_full = true)
    (l_full : K.lookup a_full = some ⟨oc_full, od_full, .func (PySem.W.fnOf "full" "Pattern.full" (defArgs s_Pattern_full) (defBody s_Pattern_full) (defScope s_Pattern_full) .none kV_full dc_full pm_full an_full cd_full ct_full), sl_full⟩)
    (c_full : PySem.W.codeIn K cd_full "Pattern.full" = true)
    (k_full : PySem.W.keepIn K (.ref a_full) = true)
    (g_is_whole : PySem.W.nsIn K mainGlobals "is_whole" = some (some (.ref a_is_whole)))
    (l_is_whole : K.lookup a_is_whole = some ⟨oc_is_whole, od_is_whole, .func (PySem.W.fnOf "is_whole" "is_whole" (defArgs s_is_whole) (defBody s_is_whole) (defScope s_is_whole) .none kV_is_whole dc_is_whole pm_is_whole an_is_whole cd_is_whole ct_is_whole), sl_is_whole⟩)
    (c_is_whole : PySem.W.codeIn K cd_is_whole "is_whole" = true)
    (k_is_whole : PySem.W.keepIn K (.ref a_is_whole) = true)
    (g_is_number : PySem.W.nsIn K mainGlobals "is_number" = some (some (.ref a_is_number)))
    (l_is_number : K.lookup a_is_number = some ⟨oc_is_number, od_is_number, .func (PySem.W.fnOf "is_number" "is_number" (defArgs s_is_number) (defBody s_is_number) (defScope s_is_number) .none kV_is_number dc_is_number pm_is_number an_is_number cd_is_number ct_is_number), sl_is_number⟩)
    (c_is_number : PySem.W.codeIn K cd_is_number "is_number" = true)
    (k_is_number : PySem.W.keepIn K (.ref a_is_number) = true)
    (g_has_pattern_form : PySem.W.nsIn K mainGlobals "has_pattern_form" = some (some (.ref a_has_pattern_form)))
    (l_has_pattern_form : K.lookup a_has_pattern_form = some ⟨oc_has_pattern_form, od_has_pattern_form, .func (PySem.W.fnOf "has_pattern_form" "has_pattern_form" (defArgs s_has_pattern_form) (defBody s_has_pattern_form) (defScope s_has_pattern_form) .none kV_has_pattern_form dc_has_pattern_form pm_has_pattern_form an_has_pattern_form cd_has_pattern_form ct_has_pattern_form), sl_has_pattern_form⟩)
    (c_has_pattern_form : PySem.W.codeIn K cd_has_pattern_form "has_pattern_form" = true)
    (k_has_pattern_form : PySem.W.keepIn K (.ref a_has_pattern_form) = true)
    (g_first_wrong_sign : PySem.W.nsIn K mainGlobals "first_wrong_sign" = some (some (.ref a_first_wrong_sign)))
    (l_first_wrong_sign : K.lookup a_first_wrong_sign = some ⟨oc_first_wrong_sign, od_first_wrong_sign, .func (PySem.W.fnOf "first_wrong_sign" "first_wrong_sign" (defArgs s_first_wrong_sign) (defBody s_first_wrong_sign) (defScope s_first_wrong_sign) .none kV_first_wrong_sign dc_first_wrong_sign pm_first_wrong_sign an_first_wrong_sign cd_first_wrong_sign ct_first_wrong_sign), sl_first_wrong_sign⟩)
    (c_first_wrong_sign : PySem.W.codeIn K cd_first_wrong_sign "first_wrong_sign" = true)
    (k_first_wrong_sign : PySem.W.keepIn K (.ref a_first_wrong_sign) = true)
    (g_pattern_fault : PySem.W.nsIn K mainGlobals "pattern_fault" = some (some (.ref a_pattern_fault)))
    (l_pattern_fault : K.lookup a_pattern_fault = some ⟨oc_pattern_fault, od_pattern_fault, .func (PySem.W.fnOf "pattern_fault" "pattern_fault" (defArgs s_pattern_fault) (defBody s_pattern_fault) (defScope s_pattern_fault) .none kV_pattern_fault dc_pattern_fault pm_pattern_fault an_pattern_fault cd_pattern_fault ct_pattern_fault), sl_pattern_fault⟩)
    (c_pattern_fault : PySem.W.codeIn K cd_pattern_fault "pattern_fault" = true)
    (k_pattern_fault : PySem.W.keepIn K (.ref a_pattern_fault) = true)
    (g_need_pattern : PySem.W.nsIn K mainGlobals "need_pattern" = some (some (.ref a_need_pattern)))
    (l_need_pattern : K.lookup a_need_pattern = some ⟨oc_need_pattern, od_need_pattern, .func (PySem.W.fnOf "need_pattern" "need_pattern" (defArgs s_need_pattern) (defBody s_need_pattern) (defScope s_need_pattern) .none kV_need_pattern dc_need_pattern pm_need_pattern an_need_pattern cd_need_pattern ct_need_pattern), sl_need_pattern⟩)
    (c_need_pattern : PySem.W.codeIn K cd_need_pattern "need_pattern" = true)
    (k_need_pattern : PySem.W.keepIn K (.ref a_need_pattern) = true)
    (g_sizes_of : PySem.W.nsIn K mainGlobals "sizes_of" = some (some (.ref a_sizes_of)))
    (l_sizes_of : K.lookup a_sizes_of = some ⟨oc_sizes_of, od_sizes_of, .func (PySem.W.fnOf "sizes_of" "sizes_of" (defArgs s_sizes_of) (defBody s_sizes_of) (defScope s_sizes_of) .none kV_sizes_of dc_sizes_of pm_sizes_of an_sizes_of cd_sizes_of ct_sizes_of), sl_sizes_of⟩)
    (c_sizes_of : PySem.W.codeIn K cd_sizes_of "sizes_of" = true)
    (k_sizes_of : PySem.W.keepIn K (.ref a_sizes_of) = true)
    (g_need_bits : PySem.W.nsIn K mainGlobals "need_bits" = some (some (.ref a_need_bits)))
    (l_need_bits : K.lookup a_need_bits = some ⟨oc_need_bits, od_need_bits, .func (PySem.W.fnOf "need_bits" "need_bits" (defArgs s_need_bits) (defBody s_need_bits) (defScope s_need_bits) .none kV_need_bits dc_need_bits pm_need_bits an_need_bits cd_need_bits ct_need_bits), sl_need_bits⟩)
    (c_need_bits : PySem.W.codeIn K cd_need_bits "need_bits" = true)
    (k_need_bits : PySem.W.keepIn K (.ref a_need_bits) = true)
    (g_bits_of : PySem.W.nsIn K mainGlobals "bits_of" = some (some (.ref a_bits_of)))
    (l_bits_of : K.lookup a_bits_of = some ⟨oc_bits_of, od_bits_of, .func (PySem.W.fnOf "bits_of" "bits_of" (defArgs s_bits_of) (defBody s_bits_of) (defScope s_bits_of) .none kV_bits_of dc_bits_of pm_bits_of an_bits_of cd_bits_of ct_bits_of), sl_bits_of⟩)
    (c_bits_of : PySem.W.codeIn K cd_bits_of "bits_of" = true)
    (k_bits_of : PySem.W.keepIn K (.ref a_bits_of) = true)
    (g_places_of : PySem.W.nsIn K mainGlobals "places_of" = some (some (.ref a_places_of)))
    (l_places_of : K.lookup a_places_of = some ⟨oc_places_of, od_places_of, .func (PySem.W.fnOf "places_of" "places_of" (defArgs s_places_of) (defBody s_places_of) (defScope s_places_of) .none kV_places_of dc_places_of pm_places_of an_places_of cd_places_of ct_places_of), sl_places_of⟩)
    (c_places_of : PySem.W.codeIn K cd_places_of "places_of" = true)
    (k_places_of : PySem.W.keepIn K (.ref a_places_of) = true)
    (g_with_fallen : PySem.W.nsIn K mainGlobals "with_fallen" = some (some (.ref a_with_fallen)))
    (l_with_fallen : K.lookup a_with_fallen = some ⟨oc_with_fallen, od_with_fallen, .func (PySem.W.fnOf "with_fallen" "with_fallen" (defArgs s_with_fallen) (defBody s_with_fallen) (defScope s_with_fallen) .none kV_with_fallen dc_with_fallen pm_with_fallen an_with_fallen cd_with_fallen ct_with_fallen), sl_with_fallen⟩)
    (c_with_fallen : PySem.W.codeIn K cd_with_fallen "with_fallen" = true)
    (k_with_fallen : PySem.W.keepIn K (.ref a_with_fallen) = true)
    (g_with_erased : PySem.W.nsIn K mainGlobals "with_erased" = some (some (.ref a_with_erased)))
    (l_with_erased : K.lookup a_with_erased = some ⟨oc_with_erased, od_with_erased, .func (PySem.W.fnOf "with_erased" "with_erased" (defArgs s_with_erased) (defBody s_with_erased) (defScope s_with_erased) .none kV_with_erased dc_with_erased pm_with_erased an_with_erased cd_with_erased ct_with_erased), sl_with_erased⟩)
    (c_with_erased : PySem.W.codeIn K cd_with_erased "with_erased" = true)
    (k_with_erased : PySem.W.keepIn K (.ref a_with_erased) = true)
    (g_can_be_sizes : PySem.W.nsIn K mainGlobals "can_be_sizes" = some (some (.ref a_can_be_sizes)))
    (l_can_be_sizes : K.lookup a_can_be_sizes = some ⟨oc_can_be_sizes, od_can_be_sizes, .func (PySem.W.fnOf "can_be_sizes" "can_be_sizes" (defArgs s_can_be_sizes) (defBody s_can_be_sizes) (defScope s_can_be_sizes) .none kV_can_be_sizes dc_can_be_sizes pm_can_be_sizes an_can_be_sizes cd_can_be_sizes ct_can_be_sizes), sl_can_be_sizes⟩)
    (c_can_be_sizes : PySem.W.codeIn K cd_can_be_sizes "can_be_sizes" = true)
    (k_can_be_sizes : PySem.W.keepIn K (.ref a_can_be_sizes) = true)
    (m_init : PySem.W.findIn K (.ref C) "__init__" = some (some (.ref a_init)))
    (f_init : PySem.W.isFn K (.ref a_init) = true)
    (l_init : K.lookup a_init = some ⟨oc_init, od_init, .func (PySem.W.fnOf "__init__" "Pattern.__init__" (defArgs s_Pattern_init) (defBody s_Pattern_init) (defScope s_Pattern_init) .none kV_init dc_init pm_init an_init cd_init ct_init), sl_init⟩)
    (c_init : PySem.W.codeIn K cd_init "Pattern.__init__" = true)
    (k_init : PySem.W.keepIn K (.ref a_init) = true)
    (m_str : PySem.W.findIn K (.ref C) "__str__" = some (some (.ref a_str)))
    (f_str : PySem.W.isFn K (.ref a_str) = true)
    (l_str : K.lookup a_str = some ⟨oc_str, od_str, .func (PySem.W.fnOf "__str__" "Pattern.__str__" (defArgs s_Pattern_str) (defBody s_Pattern_str) (defScope s_Pattern_str) .none kV_str dc_str pm_str an_str cd_str ct_str), sl_str⟩)
    (c_str : PySem.W.codeIn K cd_str "Pattern.__str__" = true)
    (k_str : PySem.W.keepIn K (.ref a_str) = true)
    (m_len : PySem.W.findIn K (.ref C) "__len__" = some (some (.ref a_len)))
    (f_len : PySem.W.isFn K (.ref a_len) = true)
    (l_len : K.lookup a_len = some ⟨oc_len, od_len, .func (PySem.W.fnOf "__len__" "Pattern.__len__" (defArgs s_Pattern_len) (defBody s_Pattern_len) (defScope s_Pattern_len) .none kV_len dc_len pm_len an_len cd_len ct_len), sl_len⟩)
    (c_len : PySem.W.codeIn K cd_len "Pattern.__len__" = true)
    (k_len : PySem.W.keepIn K (.ref a_len) = true)
    (m_bool : PySem.W.findIn K (.ref C) "__bool__" = some (some (.ref a_bool)))
    (f_bool : PySem.W.isFn K (.ref a_bool) = true)
    (l_bool : K.lookup a_bool = some ⟨oc_bool, od_bool, .func (PySem.W.fnOf "__bool__" "Pattern.__bool__" (defArgs s_Pattern_bool) (defBody s_Pattern_bool) (defScope s_Pattern_bool) .none kV_bool dc_bool pm_bool an_bool cd_bool ct_bool), sl_bool⟩)
    (c_bool : PySem.W.codeIn K cd_bool "Pattern.__bool__" = true)
    (k_bool : PySem.W.keepIn K (.ref a_bool) = true)
    (m_getitem : PySem.W.findIn K (.ref C) "__getitem__" = some (some (.ref a_getitem)))
    (f_getitem : PySem.W.isFn K (.ref a_getitem) = true)
    (l_getitem : K.lookup a_getitem = some ⟨oc_getitem, od_getitem, .func (PySem.W.fnOf "__getitem__" "Pattern.__getitem__" (defArgs s_Pattern_getitem) (defBody s_Pattern_getitem) (defScope s_Pattern_getitem) .none kV_getitem dc_getitem pm_getitem an_getitem cd_getitem ct_getitem), sl_getitem⟩)
    (c_getitem : PySem.W.codeIn K cd_getitem "Pattern.__getitem__" = true)
    (k_getitem : PySem.W.keepIn K (.ref a_getitem) = true)
    (m_contains : PySem.W.findIn K (.ref C) "__contains__" = some (some (.ref a_contains)))
    (f_contains : PySem.W.isFn K (.ref a_contains) = true)
    (l_contains : K.lookup a_contains = some ⟨oc_contains, od_contains, .func (PySem.W.fnOf "__contains__" "Pattern.__contains__" (defArgs s_Pattern_contains) (defBody s_Pattern_contains) (defScope s_Pattern_contains) .none kV_contains dc_contains pm_contains an_contains cd_contains ct_contains), sl_contains⟩)
    (c_contains : PySem.W.codeIn K cd_contains "Pattern.__contains__" = true)
    (k_contains : PySem.W.keepIn K (.ref a_contains) = true)
    (fi_getitem : PySem.W.fnIn K a_getitem = true)
    (g_Lpen : PySem.W.nsIn K mainGlobals "_law_pen" = some (some (.ref a_Lpen)))
    (l_Lpen : K.lookup a_Lpen = some ⟨oc_Lpen, od_Lpen, .func (PySem.W.fnOf "_law_pen" "_law_pen" (defArgs s_Lpen) (defBody s_Lpen) (defScope s_Lpen) .none kV_Lpen dc_Lpen pm_Lpen an_Lpen cd_Lpen ct_Lpen), sl_Lpen⟩)
    (c_Lpen : PySem.W.codeIn K cd_Lpen "_law_pen" = true)
    (k_Lpen : PySem.W.keepIn K (.ref a_Lpen) = true)
    (g_Ltake : PySem.W.nsIn K mainGlobals "_law_take" = some (some (.ref a_Ltake)))
    (l_Ltake : K.lookup a_Ltake = some ⟨oc_Ltake, od_Ltake, .func (PySem.W.fnOf "_law_take" "_law_take" (defArgs s_Ltake) (defBody s_Ltake) (defScope s_Ltake) .none kV_Ltake dc_Ltake pm_Ltake an_Ltake cd_Ltake ct_Ltake), sl_Ltake⟩)
    (c_Ltake : PySem.W.codeIn K cd_Ltake "_law_take" = true)
    (k_Ltake : PySem.W.keepIn K (.ref a_Ltake) = true)
    (g_Lsizes : PySem.W.nsIn K mainGlobals "_law_sizes" = some (some (.ref a_Lsizes)))
    (l_Lsizes : K.lookup a_Lsizes = some ⟨oc_Lsizes, od_Lsizes, .func (PySem.W.fnOf "_law_sizes" "_law_sizes" (defArgs s_Lsizes) (defBody s_Lsizes) (defScope s_Lsizes) .none kV_Lsizes dc_Lsizes pm_Lsizes an_Lsizes cd_Lsizes ct_Lsizes), sl_Lsizes⟩)
    (c_Lsizes : PySem.W.codeIn K cd_Lsizes "_law_sizes" = true)
    (k_Lsizes : PySem.W.keepIn K (.ref a_Lsizes) = true)
    (g_Ldrawn : PySem.W.nsIn K mainGlobals "_law_drawn" = some (some (.ref a_Ldrawn)))
    (l_Ldrawn : K.lookup a_Ldrawn = some ⟨oc_Ldrawn, od_Ldrawn, .func (PySem.W.fnOf "_law_drawn" "_law_drawn" (defArgs s_Ldrawn) (defBody s_Ldrawn) (defScope s_Ldrawn) .none kV_Ldrawn dc_Ldrawn pm_Ldrawn an_Ldrawn cd_Ldrawn ct_Ldrawn), sl_Ldrawn⟩)
    (c_Ldrawn : PySem.W.codeIn K cd_Ldrawn "_law_drawn" = true)
    (k_Ldrawn : PySem.W.keepIn K (.ref a_Ldrawn) = true)
    (g_Lcaught : PySem.W.nsIn K mainGlobals "_law_caught" = some (some (.ref a_Lcaught)))
    (l_Lcaught : K.lookup a_Lcaught = some ⟨oc_Lcaught, od_Lcaught, .func (PySem.W.fnOf "_law_caught" "_law_caught" (defArgs s_Lcaught) (defBody s_Lcaught) (defScope s_Lcaught) .none kV_Lcaught dc_Lcaught pm_Lcaught an_Lcaught cd_Lcaught ct_Lcaught), sl_Lcaught⟩)
    (c_Lcaught : PySem.W.codeIn K cd_Lcaught "_law_caught" = true)
    (k_Lcaught : PySem.W.keepIn K (.ref a_Lcaught) = true)
    (g_Ljoined : PySem.W.nsIn K mainGlobals "_law_joined" = some (some (.ref a_Ljoined)))
    (l_Ljoined : K.lookup a_Ljoined = some ⟨oc_Ljoined, od_Ljoined, .func (PySem.W.fnOf "_law_joined" "_law_joined" (defArgs s_Ljoined) (defBody s_Ljoined) (defScope s_Ljoined) .none kV_Ljoined dc_Ljoined pm_Ljoined an_Ljoined cd_Ljoined ct_Ljoined), sl_Ljoined⟩)
    (c_Ljoined : PySem.W.codeIn K cd_Ljoined "_law_joined" = true)
    (k_Ljoined : PySem.W.keepIn K (.ref a_Ljoined) = true)
    (g_Ltells : PySem.W.nsIn K mainGlobals "_law_tells" = some (some (.ref a_Ltells)))
    (l_Ltells : K.lookup a_Ltells = some ⟨oc_Ltells, od_Ltells, .func (PySem.W.fnOf "_law_tells" "_law_tells" (defArgs s_Ltells) (defBody s_Ltells) (defScope s_Ltells) .none kV_Ltells dc_Ltells pm_Ltells an_Ltells cd_Ltells ct_Ltells), sl_Ltells⟩)
    (c_Ltells : PySem.W.codeIn K cd_Ltells "_law_tells" = true)
    (k_Ltells : PySem.W.keepIn K (.ref a_Ltells) = true)
    (g_Lchanged : PySem.W.nsIn K mainGlobals "_law_changed" = some (some (.ref a_Lchanged)))
    (l_Lchanged : K.lookup a_Lchanged = some ⟨oc_Lchanged, od_Lchanged, .func (PySem.W.fnOf "_law_changed" "_law_changed" (defArgs s_Lchanged) (defBody s_Lchanged) (defScope s_Lchanged) .none kV_Lchanged dc_Lchanged pm_Lchanged an_Lchanged cd_Lchanged ct_Lchanged), sl_Lchanged⟩)
    (c_Lchanged : PySem.W.codeIn K cd_Lchanged "_law_changed" = true)
    (k_Lchanged : PySem.W.keepIn K (.ref a_Lchanged) = true)
    (g_Lrefused : PySem.W.nsIn K mainGlobals "_law_refused" = some (some (.ref a_Lrefused)))
    (l_Lrefused : K.lookup a_Lrefused = some ⟨oc_Lrefused, od_Lrefused, .func (PySem.W.fnOf "_law_refused" "_law_refused" (defArgs s_Lrefused) (defBody s_Lrefused) (defScope s_Lrefused) .none kV_Lrefused dc_Lrefused pm_Lrefused an_Lrefused (.ref cR) ct_Lrefused), sl_Lrefused⟩)
    (c_Lrefused : PySem.W.codeIn K (.ref cR) "_law_refused" = true)
    (k_Lrefused : PySem.W.keepIn K (.ref a_Lrefused) = true)
    (g_law : PySem.W.nsIn K mainGlobals "law" = some (some (.ref a_law)))
    (l_law : K.lookup a_law = some ⟨oc_law, od_law, .func (PySem.W.fnOf "law" "law" (defArgs s_law) (defBody s_law) (defScope s_law) .none kV_law dc_law pm_law an_law (.ref cL) ct_law), sl_law⟩)
    (c_law : PySem.W.codeIn K (.ref cL) "law" = true)
    (k_law : PySem.W.keepIn K (.ref a_law) = true)
    (lkR : K.lookup cR = some ⟨.type "code", odR, .fields vsR, slR⟩)
    (elR : (vsR[11]? : Option Value) = some (.ref PR))
    (hdR : PySem.W.codeHdIn K cR PR = true)
    (noR : K.lookup PR = none)
    (tbR : h.get? PR = some { cls := .none, data := .fields #[] })
    (lkL : K.lookup cL = some ⟨.type "code", odL, .fields vsL, slL⟩)
    (elL : (vsL[11]? : Option Value) = some (.ref PL))
    (hdL : PySem.W.codeHdIn K cL PL = true)
    (noL : K.lookup PL = none)
    (tbL : h.get? PL = some { cls := .none, data := .fields #[] })
    (nRL : PR ≠ PL)
    (gF : PySem.W.nsIn K mainGlobals "FallenError" = some (some (.ref fe)))
    (clF : PySem.W.isClsIn K fe = true)
    (tyF : PySem.W.typeIn K (.ref fe) = some (.type "type"))
    (sbF : PySem.W.subIn K (.ref fe) (.type "BaseException") = some true)
    (gU : PySem.W.nsIn K mainGlobals "NoBit" = some (some (.ref cNoBit)))
    (oU : K.lookup cNoBit = some (excClassObj nmxU qxU cNoBit NxU bsxU (bmX fe) true snxU subxU abxU colxU ddxU k0xU k1xU k2xU k3xU k5xU "ValueError.__new__"))
    (kpU : PySem.W.keepIn K (.ref cNoBit) = true)
    (tyU : PySem.W.typeIn K (.ref cNoBit) = some (.type "type"))
    (saU : PySem.W.findIn K (.ref cNoBit) "__setattr__" = some (some (.builtin "object.__setattr__")))
    (gaU : PySem.W.findIn K (.ref cNoBit) "__getattribute__" = some (some (.builtin "BaseException.__getattribute__")))
    (ggU : PySem.W.findIn K (.ref cNoBit) "__getattr__" = some none)
    (caU : PySem.W.findIn K (.ref cNoBit) "__class__" = some (some (.builtin "object.__class__")))
    (gN : PySem.W.nsIn K mainGlobals "NoPattern" = some (some (.ref cNoPattern)))
    (oN : K.lookup cNoPattern = some (excClassObj nmxN qxN cNoPattern NxN bsxN (bmX fe) true snxN subxN abxN colxN ddxN k0xN k1xN k2xN k3xN k5xN "ValueError.__new__"))
    (kpN : PySem.W.keepIn K (.ref cNoPattern) = true)
    (tyN : PySem.W.typeIn K (.ref cNoPattern) = some (.type "type"))
    (saN : PySem.W.findIn K (.ref cNoPattern) "__setattr__" = some (some (.builtin "object.__setattr__")))
    (gaN : PySem.W.findIn K (.ref cNoPattern) "__getattribute__" = some (some (.builtin "BaseException.__getattribute__")))
    (ggN : PySem.W.findIn K (.ref cNoPattern) "__getattr__" = some none)
    (caN : PySem.W.findIn K (.ref cNoPattern) "__class__" = some (some (.builtin "object.__class__")))
    (eU : PySem.W.excIn K cNoBit [.type "ValueError", .type "Exception", .type "BaseException", .type "object"] "ValueError.__new__" = true)
    (neBN : cNoBit ≠ cNoPattern)
    (neFN : cNoPattern ≠ fe)
    (neFB : cNoBit ≠ fe)
    (iNP : PySem.W.findIn K (.ref cNoPattern) "__init__" = some (some (.ref a_npi)))
    (tNP : PySem.W.typeIn K (.ref a_npi) = some (.type "function"))
    (nNP : PySem.W.findIn K (.ref cNoPattern) "at" = some none)
    (l_npi : K.lookup a_npi = some ⟨oc_npi, od_npi, .func (PySem.W.fnOf "__init__" "NoPattern.__init__" (defArgs s_NoPattern_init) (defBody s_NoPattern_init) (defScope s_NoPattern_init) .none kV_npi dc_npi pm_npi an_npi cd_npi ct_npi), sl_npi⟩)
    (c_npi : PySem.W.codeIn K cd_npi "NoPattern.__init__" = true)
    (k_npi : PySem.W.keepIn K (.ref a_npi) = true)
    (b_isinstance : PySem.W.nsIn K mainGlobals "isinstance" = some none)
    (b_str : PySem.W.nsIn K mainGlobals "str" = some none)
    (b_enumerate : PySem.W.nsIn K mainGlobals "enumerate" = some none)
    (b_len : PySem.W.nsIn K mainGlobals "len" = some none)
    (b_tuple : PySem.W.nsIn K mainGlobals "tuple" = some none)
    (b_all : PySem.W.nsIn K mainGlobals "all" = some none)
    (b_int : PySem.W.nsIn K mainGlobals "int" = some none)
    (b_bool : PySem.W.nsIn K mainGlobals "bool" = some none)
    (b_list : PySem.W.nsIn K mainGlobals "list" = some none)
    (b_sum : PySem.W.nsIn K mainGlobals "sum" = some none)
    (b_range : PySem.W.nsIn K mainGlobals "range" = some none)
    (b_repr : PySem.W.nsIn K mainGlobals "repr" = some none)
    (b_abs : PySem.W.nsIn K mainGlobals "abs" = some none)
    : LamX.LawAtS l w K CX0 10 63 "_law_script" mg fa h := by
  have e := hfa.symm.trans (PySem.W.mg_of X G g_law)
  cases e
  have F_sizes := fun_mk (st := s_Pattern_sizes) l_sizes c_sizes k_sizes
  have B_sizes := F_sizes.binds (ps := ["self"]) fun _ _ _ _ _ _ us hl => match us, hl with | [_], _ => rfl
  have F_standing := fun_mk (st := s_Pattern_standing) l_standing c_standing k_standing
  have B_standing := F_standing.binds (ps := ["self"]) fun _ _ _ _ _ _ us hl => match us, hl with | [_], _ => rfl
  have F_fallen := fun_mk (st := s_Pattern_fallen) l_fallen c_fallen k_fallen
  have B_fallen := F_fallen.binds (ps := ["self", "bits"]) fun _ _ _ _ _ _ us hl => match us, hl with | [_, _], _ => rfl
  have F_erased := fun_mk (st := s_Pattern_erased) l_erased c_erased k_erased
  have B_erased := F_erased.binds (ps := ["self", "block"]) fun _ _ _ _ _ _ us hl => match us, hl with | [_, _], _ => rfl
  have F_full := fun_mk (st := s_Pattern_full) l_full c_full k_full
  have F_npi := fun_mk (st := s_NoPattern_init) l_npi c_npi k_npi
  have B_npi := F_npi.binds (ps := ["self", "at"]) fun _ _ _ _ _ _ us hl => match us, hl with | [_, _], _ => rfl
  have F_is_whole := fun_mk (st := s_is_whole) l_is_whole c_is_whole k_is_whole
  have B_is_whole := F_is_whole.binds (ps := ["thing"]) fun _ _ _ _ _ _ us hl => match us, hl with | [_], _ => rfl
  have F_is_number := fun_mk (st := s_is_number) l_is_number c_is_number k_is_number
  have B_is_number := F_is_number.binds (ps := ["thing", "many"]) fun _ _ _ _ _ _ us hl => match us, hl with | [_, _], _ => rfl
  have F_has_pattern_form := fun_mk (st := s_has_pattern_form) l_has_pattern_form c_has_pattern_form k_has_pattern_form
  have B_has_pattern_form := F_has_pattern_form.binds (ps := ["text"]) fun _ _ _ _ _ _ us hl => match us, hl with | [_], _ => rfl
  have F_first_wrong_sign := fun_mk (st := s_first_wrong_sign) l_first_wrong_sign c_first_wrong_sign k_first_wrong_sign
  have B_first_wrong_sign := F_first_wrong_sign.binds (ps := ["thing"]) fun _ _ _ _ _ _ us hl => match us, hl with | [_], _ => rfl
  have F_pattern_fault := fun_mk (st := s_pattern_fault) l_pattern_fault c_pattern_fault k_pattern_fault
  have B_pattern_fault := F_pattern_fault.binds (ps := ["thing"]) fun _ _ _ _ _ _ us hl => match us, hl with | [_], _ => rfl
  have F_need_pattern := fun_mk (st := s_need_pattern) l_need_pattern c_need_pattern k_need_pattern
  have B_need_pattern := F_need_pattern.binds (ps := ["thing"]) fun _ _ _ _ _ _ us hl => match us, hl with | [_], _ => rfl
  have F_sizes_of := fun_mk (st := s_sizes_of) l_sizes_of c_sizes_of k_sizes_of
  have B_sizes_of := F_sizes_of.binds (ps := ["text"]) fun _ _ _ _ _ _ us hl => match us, hl with | [_], _ => rfl
  have F_need_bits := fun_mk (st := s_need_bits) l_need_bits c_need_bits k_need_bits
  have B_need_bits := F_need_bits.binds (ps := ["thing", "many"]) fun _ _ _ _ _ _ us hl => match us, hl with | [_, _], _ => rfl
  have F_bits_of := fun_mk (st := s_bits_of) l_bits_of c_bits_of k_bits_of
  have B_bits_of := F_bits_of.binds (ps := ["text"]) fun _ _ _ _ _ _ us hl => match us, hl with | [_], _ => rfl
  have F_places_of := fun_mk (st := s_places_of) l_places_of c_places_of k_places_of
  have B_places_of := F_places_of.binds (ps := ["text"]) fun _ _ _ _ _ _ us hl => match us, hl with | [_], _ => rfl
  have F_with_fallen := fun_mk (st := s_with_fallen) l_with_fallen c_with_fallen k_with_fallen
  have B_with_fallen := F_with_fallen.binds (ps := ["text", "bits"]) fun _ _ _ _ _ _ us hl => match us, hl with | [_, _], _ => rfl
  have F_with_erased := fun_mk (st := s_with_erased) l_with_erased c_with_erased k_with_erased
  have B_with_erased := F_with_erased.binds (ps := ["text", "block"]) fun _ _ _ _ _ _ us hl => match us, hl with | [_, _], _ => rfl
  have F_can_be_sizes := fun_mk (st := s_can_be_sizes) l_can_be_sizes c_can_be_sizes k_can_be_sizes
  have B_can_be_sizes := F_can_be_sizes.binds (ps := ["sizes"]) fun _ _ _ _ _ _ us hl => match us, hl with | [_], _ => rfl
  have F_init := fun_mk (st := s_Pattern_init) l_init c_init k_init
  have B_init := F_init.binds (ps := ["self", "text"]) fun _ _ _ _ _ _ us hl => match us, hl with | [_, _], _ => rfl
  have F_str := fun_mk (st := s_Pattern_str) l_str c_str k_str
  have B_str := F_str.binds (ps := ["self"]) fun _ _ _ _ _ _ us hl => match us, hl with | [_], _ => rfl
  have F_len := fun_mk (st := s_Pattern_len) l_len c_len k_len
  have B_len := F_len.binds (ps := ["self"]) fun _ _ _ _ _ _ us hl => match us, hl with | [_], _ => rfl
  have F_bool := fun_mk (st := s_Pattern_bool) l_bool c_bool k_bool
  have B_bool := F_bool.binds (ps := ["self"]) fun _ _ _ _ _ _ us hl => match us, hl with | [_], _ => rfl
  have F_getitem := fun_mk (st := s_Pattern_getitem) l_getitem c_getitem k_getitem
  have B_getitem := F_getitem.binds (ps := ["self", "at"]) fun _ _ _ _ _ _ us hl => match us, hl with | [_, _], _ => rfl
  have F_contains := fun_mk (st := s_Pattern_contains) l_contains c_contains k_contains
  have B_contains := F_contains.binds (ps := ["self", "x"]) fun _ _ _ _ _ _ us hl => match us, hl with | [_, _], _ => rfl
  have F_Lpen := fun_mk (st := s_Lpen) l_Lpen c_Lpen k_Lpen
  have B_Lpen := F_Lpen.binds (ps := ["_law_script"]) fun _ _ _ _ _ _ us hl => match us, hl with | [_], _ => rfl
  have F_Ltake := fun_mk (st := s_Ltake) l_Ltake c_Ltake k_Ltake
  have B_Ltake := F_Ltake.binds (ps := ["_law_pen_here", "_law_many"]) fun _ _ _ _ _ _ us hl => match us, hl with | [_, _], _ => rfl
  have F_Lsizes := fun_mk (st := s_Lsizes) l_Lsizes c_Lsizes k_Lsizes
  have B_Lsizes := F_Lsizes.binds (ps := ["_law_pen_here", "_law_most"]) fun _ _ _ _ _ _ us hl => match us, hl with | [_, _], _ => rfl
  have F_Ldrawn := fun_mk (st := s_Ldrawn) l_Ldrawn c_Ldrawn k_Ldrawn
  have B_Ldrawn := F_Ldrawn.binds (ps := ["_law_pen_here", "_law_sizes_here"]) fun _ _ _ _ _ _ us hl => match us, hl with | [_, _], _ => rfl
  have F_Lcaught := fun_mk (st := s_Lcaught) l_Lcaught c_Lcaught k_Lcaught
  have B_Lcaught := F_Lcaught.binds (ps := ["_law_ask"]) fun _ _ _ _ _ _ us hl => match us, hl with | [_], _ => rfl
  have F_Ljoined := fun_mk (st := s_Ljoined) l_Ljoined c_Ljoined k_Ljoined
  have B_Ljoined := F_Ljoined.binds (ps := ["_law_sizes_here", "_law_signs"]) fun _ _ _ _ _ _ us hl => match us, hl with | [_, _], _ => rfl
  have F_Ltells := fun_mk (st := s_Ltells) l_Ltells c_Ltells k_Ltells
  have B_Ltells := F_Ltells.binds (ps := ["_law_p", "_law_sizes_here", "_law_signs"]) fun _ _ _ _ _ _ us hl => match us, hl with | [_, _, _], _ => rfl
  have F_Lchanged := fun_mk (st := s_Lchanged) l_Lchanged c_Lchanged k_Lchanged
  have B_Lchanged := F_Lchanged.binds (ps := ["_law_pen_here", "_law_p", "_law_sizes_here", "_law_signs"]) fun _ _ _ _ _ _ us hl => match us, hl with | [_, _, _, _], _ => rfl
  have F_Lrefused := fun_mk (st := s_Lrefused) l_Lrefused c_Lrefused k_Lrefused
  have B_Lrefused := F_Lrefused.binds (ps := ["_law_pen_here", "_law_p", "_law_sizes_here", "_law_signs"]) fun _ _ _ _ _ _ us hl => match us, hl with | [_, _, _, _], _ => rfl
  have xU : XF K mg fe "NoBit" cNoBit := XF.of X G gU oU kpU tyU saU gaU ggU caU
  have xN : XF K mg fe "NoPattern" cNoPattern := XF.of X G gN oN kpN tyN saN gaN ggN caN
  let z : Pz := { C := C, fe := fe, cNoPattern := cNoPattern, cUnlike := fe, cNoBit := cNoBit, p_sizes := p_sizes, p_standing := p_standing, p_full := p_full, a_npi := a_npi, d_npi := (PySem.W.fnOf "__init__" "NoPattern.__init__" (defArgs s_NoPattern_init) (defBody s_NoPattern_init) (defScope s_NoPattern_init) .none kV_npi dc_npi pm_npi an_npi cd_npi ct_npi), a_sizes := a_sizes, d_sizes := (PySem.W.fnOf "sizes" "Pattern.sizes" (defArgs s_Pattern_sizes) (defBody s_Pattern_sizes) (defScope s_Pattern_sizes) .none kV_sizes dc_sizes pm_sizes an_sizes cd_sizes ct_sizes), a_standing := a_standing, d_standing := (PySem.W.fnOf "standing" "Pattern.standing" (defArgs s_Pattern_standing) (defBody s_Pattern_standing) (defScope s_Pattern_standing) .none kV_standing dc_standing pm_standing an_standing cd_standing ct_standing), a_fallen := a_fallen, d_fallen := (PySem.W.fnOf "fallen" "Pattern.fallen" (defArgs s_Pattern_fallen) (defBody s_Pattern_fallen) (defScope s_Pattern_fallen) .none kV_fallen dc_fallen pm_fallen an_fallen cd_fallen ct_fallen), a_erased := a_erased, d_erased := (PySem.W.fnOf "erased" "Pattern.erased" (defArgs s_Pattern_erased) (defBody s_Pattern_erased) (defScope s_Pattern_erased) .none kV_erased dc_erased pm_erased an_erased cd_erased ct_erased), a_full := a_full, d_full := (PySem.W.fnOf "full" "Pattern.full" (defArgs s_Pattern_full) (defBody s_Pattern_full) (defScope s_Pattern_full) .none kV_full dc_full pm_full an_full cd_full ct_full), a_is_whole := a_is_whole, d_is_whole := (PySem.W.fnOf "is_whole" "is_whole" (defArgs s_is_whole) (defBody s_is_whole) (defScope s_is_whole) .none kV_is_whole dc_is_whole pm_is_whole an_is_whole cd_is_whole ct_is_whole), a_is_number := a_is_number, d_is_number := (PySem.W.fnOf "is_number" "is_number" (defArgs s_is_number) (defBody s_is_number) (defScope s_is_number) .none kV_is_number dc_is_number pm_is_number an_is_number cd_is_number ct_is_number), a_has_pattern_form := a_has_pattern_form, d_has_pattern_form := (PySem.W.fnOf "has_pattern_form" "has_pattern_form" (defArgs s_has_pattern_form) (defBody s_has_pattern_form) (defScope s_has_pattern_form) .none kV_has_pattern_form dc_has_pattern_form pm_has_pattern_form an_has_pattern_form cd_has_pattern_form ct_has_pattern_form), a_first_wrong_sign := a_first_wrong_sign, d_first_wrong_sign := (PySem.W.fnOf "first_wrong_sign" "first_wrong_sign" (defArgs s_first_wrong_sign) (defBody s_first_wrong_sign) (defScope s_first_wrong_sign) .none kV_first_wrong_sign dc_first_wrong_sign pm_first_wrong_sign an_first_wrong_sign cd_first_wrong_sign ct_first_wrong_sign), a_pattern_fault := a_pattern_fault, d_pattern_fault := (PySem.W.fnOf "pattern_fault" "pattern_fault" (defArgs s_pattern_fault) (defBody s_pattern_fault) (defScope s_pattern_fault) .none kV_pattern_fault dc_pattern_fault pm_pattern_fault an_pattern_fault cd_pattern_fault ct_pattern_fault), a_need_pattern := a_need_pattern, d_need_pattern := (PySem.W.fnOf "need_pattern" "need_pattern" (defArgs s_need_pattern) (defBody s_need_pattern) (defScope s_need_pattern) .none kV_need_pattern dc_need_pattern pm_need_pattern an_need_pattern cd_need_pattern ct_need_pattern), a_sizes_of := a_sizes_of, d_sizes_of := (PySem.W.fnOf "sizes_of" "sizes_of" (defArgs s_sizes_of) (defBody s_sizes_of) (defScope s_sizes_of) .none kV_sizes_of dc_sizes_of pm_sizes_of an_sizes_of cd_sizes_of ct_sizes_of), a_need_bits := a_need_bits, d_need_bits := (PySem.W.fnOf "need_bits" "need_bits" (defArgs s_need_bits) (defBody s_need_bits) (defScope s_need_bits) .none kV_need_bits dc_need_bits pm_need_bits an_need_bits cd_need_bits ct_need_bits), a_bits_of := a_bits_of, d_bits_of := (PySem.W.fnOf "bits_of" "bits_of" (defArgs s_bits_of) (defBody s_bits_of) (defScope s_bits_of) .none kV_bits_of dc_bits_of pm_bits_of an_bits_of cd_bits_of ct_bits_of), a_places_of := a_places_of, d_places_of := (PySem.W.fnOf "places_of" "places_of" (defArgs s_places_of) (defBody s_places_of) (defScope s_places_of) .none kV_places_of dc_places_of pm_places_of an_places_of cd_places_of ct_places_of), a_with_fallen := a_with_fallen, d_with_fallen := (PySem.W.fnOf "with_fallen" "with_fallen" (defArgs s_with_fallen) (defBody s_with_fallen) (defScope s_with_fallen) .none kV_with_fallen dc_with_fallen pm_with_fallen an_with_fallen cd_with_fallen ct_with_fallen), a_with_erased := a_with_erased, d_with_erased := (PySem.W.fnOf "with_erased" "with_erased" (defArgs s_with_erased) (defBody s_with_erased) (defScope s_with_erased) .none kV_with_erased dc_with_erased pm_with_erased an_with_erased cd_with_erased ct_with_erased), a_can_be_sizes := a_can_be_sizes, d_can_be_sizes := (PySem.W.fnOf "can_be_sizes" "can_be_sizes" (defArgs s_can_be_sizes) (defBody s_can_be_sizes) (defScope s_can_be_sizes) .none kV_can_be_sizes dc_can_be_sizes pm_can_be_sizes an_can_be_sizes cd_can_be_sizes ct_can_be_sizes), a_init := a_init, d_init := (PySem.W.fnOf "__init__" "Pattern.__init__" (defArgs s_Pattern_init) (defBody s_Pattern_init) (defScope s_Pattern_init) .none kV_init dc_init pm_init an_init cd_init ct_init), a_str := a_str, d_str := (PySem.W.fnOf "__str__" "Pattern.__str__" (defArgs s_Pattern_str) (defBody s_Pattern_str) (defScope s_Pattern_str) .none kV_str dc_str pm_str an_str cd_str ct_str), a_len := a_len, d_len := (PySem.W.fnOf "__len__" "Pattern.__len__" (defArgs s_Pattern_len) (defBody s_Pattern_len) (defScope s_Pattern_len) .none kV_len dc_len pm_len an_len cd_len ct_len), a_bool := a_bool, d_bool := (PySem.W.fnOf "__bool__" "Pattern.__bool__" (defArgs s_Pattern_bool) (defBody s_Pattern_bool) (defScope s_Pattern_bool) .none kV_bool dc_bool pm_bool an_bool cd_bool ct_bool), a_getitem := a_getitem, d_getitem := (PySem.W.fnOf "__getitem__" "Pattern.__getitem__" (defArgs s_Pattern_getitem) (defBody s_Pattern_getitem) (defScope s_Pattern_getitem) .none kV_getitem dc_getitem pm_getitem an_getitem cd_getitem ct_getitem), a_contains := a_contains, d_contains := (PySem.W.fnOf "__contains__" "Pattern.__contains__" (defArgs s_Pattern_contains) (defBody s_Pattern_contains) (defScope s_Pattern_contains) .none kV_contains dc_contains pm_contains an_contains cd_contains ct_contains) }
  let w1 : Lz := { a_Lpen := a_Lpen, d_Lpen := (PySem.W.fnOf "_law_pen" "_law_pen" (defArgs s_Lpen) (defBody s_Lpen) (defScope s_Lpen) .none kV_Lpen dc_Lpen pm_Lpen an_Lpen cd_Lpen ct_Lpen), a_Ltake := a_Ltake, d_Ltake := (PySem.W.fnOf "_law_take" "_law_take" (defArgs s_Ltake) (defBody s_Ltake) (defScope s_Ltake) .none kV_Ltake dc_Ltake pm_Ltake an_Ltake cd_Ltake ct_Ltake), a_Lsizes := a_Lsizes, d_Lsizes := (PySem.W.fnOf "_law_sizes" "_law_sizes" (defArgs s_Lsizes) (defBody s_Lsizes) (defScope s_Lsizes) .none kV_Lsizes dc_Lsizes pm_Lsizes an_Lsizes cd_Lsizes ct_Lsizes), a_Ldrawn := a_Ldrawn, d_Ldrawn := (PySem.W.fnOf "_law_drawn" "_law_drawn" (defArgs s_Ldrawn) (defBody s_Ldrawn) (defScope s_Ldrawn) .none kV_Ldrawn dc_Ldrawn pm_Ldrawn an_Ldrawn cd_Ldrawn ct_Ldrawn), a_Lcaught := a_Lcaught, d_Lcaught := (PySem.W.fnOf "_law_caught" "_law_caught" (defArgs s_Lcaught) (defBody s_Lcaught) (defScope s_Lcaught) .none kV_Lcaught dc_Lcaught pm_Lcaught an_Lcaught cd_Lcaught ct_Lcaught), a_Ljoined := a_Ljoined, d_Ljoined := (PySem.W.fnOf "_law_joined" "_law_joined" (defArgs s_Ljoined) (defBody s_Ljoined) (defScope s_Ljoined) .none kV_Ljoined dc_Ljoined pm_Ljoined an_Ljoined cd_Ljoined ct_Ljoined), a_Ltells := a_Ltells, d_Ltells := (PySem.W.fnOf "_law_tells" "_law_tells" (defArgs s_Ltells) (defBody s_Ltells) (defScope s_Ltells) .none kV_Ltells dc_Ltells pm_Ltells an_Ltells cd_Ltells ct_Ltells), a_Lchanged := a_Lchanged, d_Lchanged := (PySem.W.fnOf "_law_changed" "_law_changed" (defArgs s_Lchanged) (defBody s_Lchanged) (defScope s_Lchanged) .none kV_Lchanged dc_Lchanged pm_Lchanged an_Lchanged cd_Lchanged ct_Lchanged), a_Lrefused := a_Lrefused, d_Lrefused := (PySem.W.fnOf "_law_refused" "_law_refused" (defArgs s_Lrefused) (defBody s_Lrefused) (defScope s_Lrefused) .none kV_Lrefused dc_Lrefused pm_Lrefused an_Lrefused (.ref cR) ct_Lrefused), a_law := fa, d_law := (PySem.W.fnOf "law" "law" (defArgs s_law) (defBody s_law) (defScope s_law) .none kV_law dc_law pm_law an_law (.ref cL) ct_law) }
  have icC : ∃ cd, PySem.W.clsIn K C = some cd ∧ cd.mro = [.ref C, .type "object"] := ⟨cdC, by unfold PySem.W.clsIn; rw [lC], mroC⟩
  have T : TxL K mg z w1 := { g_Pattern := PySem.W.mg_of X G gC, cls := ⟨pgC, hdC, poC, saC⟩, mkP := ⟨mkC, m_init, f_init, kpC⟩, na_text := na_text, na_bits := na_bits, na_sizes := na_sizes, crP := ⟨rdC, gaC⟩, vBITS := ⟨_, _, ⟨rdC, gaC⟩, ⟨vB, ⟨_, rfl⟩⟩⟩, vBLOCKS := ⟨_, _, ⟨rdC, gaC⟩, ⟨vK, ⟨_, rfl⟩⟩⟩, ca := caC, xb := ⟨hn, ht⟩, mo := moC, ic := icC, tyC := tyC, fi_getitem := fi_getitem, ps_sizes := ⟨at_sizes, get_sizes, tak_sizes, ⟨_, rec_sizes⟩⟩, ps_standing := ⟨at_standing, get_standing, tak_standing, ⟨_, rec_standing⟩⟩, bm_fallen := ⟨at_fallen, fn_fallen, k_fallen⟩, bm_erased := ⟨at_erased, fn_erased, k_erased⟩, cm_full := ⟨atF, ⟨_, recF⟩, fiF⟩, F_full := F_full, F_npi := F_npi, b_npi := B_npi, iNP := iNP, tNP := tNP, nNP := nNP, xNoPattern := xN, F_sizes := F_sizes, b_sizes := B_sizes, F_standing := F_standing, b_standing := B_standing, F_fallen := F_fallen, b_fallen := B_fallen, F_erased := F_erased, b_erased := B_erased, g_is_whole := PySem.W.mg_of X G g_is_whole, k_is_whole := k_is_whole, F_is_whole := F_is_whole, b_is_whole := B_is_whole, g_is_number := PySem.W.mg_of X G g_is_number, k_is_number := k_is_number, F_is_number := F_is_number, b_is_number := B_is_number, g_has_pattern_form := PySem.W.mg_of X G g_has_pattern_form, k_has_pattern_form := k_has_pattern_form, F_has_pattern_form := F_has_pattern_form, b_has_pattern_form := B_has_pattern_form, g_first_wrong_sign := PySem.W.mg_of X G g_first_wrong_sign, k_first_wrong_sign := k_first_wrong_sign, F_first_wrong_sign := F_first_wrong_sign, b_first_wrong_sign := B_first_wrong_sign, g_pattern_fault := PySem.W.mg_of X G g_pattern_fault, k_pattern_fault := k_pattern_fault, F_pattern_fault := F_pattern_fault, b_pattern_fault := B_pattern_fault, g_need_pattern := PySem.W.mg_of X G g_need_pattern, k_need_pattern := k_need_pattern, F_need_pattern := F_need_pattern, b_need_pattern := B_need_pattern, g_sizes_of := PySem.W.mg_of X G g_sizes_of, k_sizes_of := k_sizes_of, F_sizes_of := F_sizes_of, b_sizes_of := B_sizes_of, g_need_bits := PySem.W.mg_of X G g_need_bits, k_need_bits := k_need_bits, F_need_bits := F_need_bits, b_need_bits := B_need_bits, g_bits_of := PySem.W.mg_of X G g_bits_of, k_bits_of := k_bits_of, F_bits_of := F_bits_of, b_bits_of := B_bits_of, g_places_of := PySem.W.mg_of X G g_places_of, k_places_of := k_places_of, F_places_of := F_places_of, b_places_of := B_places_of, g_with_fallen := PySem.W.mg_of X G g_with_fallen, k_with_fallen := k_with_fallen, F_with_fallen := F_with_fallen, b_with_fallen := B_with_fallen, g_with_erased := PySem.W.mg_of X G g_with_erased, k_with_erased := k_with_erased, F_with_erased := F_with_erased, b_with_erased := B_with_erased, g_can_be_sizes := PySem.W.mg_of X G g_can_be_sizes, k_can_be_sizes := k_can_be_sizes, F_can_be_sizes := F_can_be_sizes, b_can_be_sizes := B_can_be_sizes, m_init := m_init, f_init := f_init, F_init := F_init, b_init := B_init, m_str := m_str, f_str := f_str, F_str := F_str, b_str := B_str, m_len := m_len, f_len := f_len, F_len := F_len, b_len := B_len, m_bool := m_bool, f_bool := f_bool, F_bool := F_bool, b_bool := B_bool, m_getitem := m_getitem, f_getitem := f_getitem, F_getitem := F_getitem, b_getitem := B_getitem, m_contains := m_contains, f_contains := f_contains, F_contains := F_contains, b_contains := B_contains, xNoBit := xU, eNoBit := eU, neBN := neBN, neFN := neFN, neFB := neFB, xFallenError := PySem.W.mg_of X G gF, clF := clF, tyF := tyF, sbF := sbF, n_isinstance := PySem.W.mg_none_of X G b_isinstance, n_str := PySem.W.mg_none_of X G b_str, n_enumerate := PySem.W.mg_none_of X G b_enumerate, n_len := PySem.W.mg_none_of X G b_len, n_tuple := PySem.W.mg_none_of X G b_tuple, n_all := PySem.W.mg_none_of X G b_all, n_int := PySem.W.mg_none_of X G b_int, n_bool := PySem.W.mg_none_of X G b_bool, n_list := PySem.W.mg_none_of X G b_list, n_sum := PySem.W.mg_none_of X G b_sum, n_range := PySem.W.mg_none_of X G b_range, n_repr := PySem.W.mg_none_of X G b_repr, pp := ⟨PySem.W.mg_none_of X G b_int, PySem.W.mg_none_of X G b_len, PySem.W.mg_none_of X G b_abs, PySem.W.mg_none_of X G b_list⟩, g_Lpen := PySem.W.mg_of X G g_Lpen, k_Lpen := k_Lpen, b_Lpen := B_Lpen, F_Lpen := F_Lpen, g_Ltake := PySem.W.mg_of X G g_Ltake, k_Ltake := k_Ltake, b_Ltake := B_Ltake, F_Ltake := F_Ltake, g_Lsizes := PySem.W.mg_of X G g_Lsizes, k_Lsizes := k_Lsizes, b_Lsizes := B_Lsizes, F_Lsizes := F_Lsizes, g_Ldrawn := PySem.W.mg_of X G g_Ldrawn, k_Ldrawn := k_Ldrawn, b_Ldrawn := B_Ldrawn, F_Ldrawn := F_Ldrawn, g_Lcaught := PySem.W.mg_of X G g_Lcaught, k_Lcaught := k_Lcaught, b_Lcaught := B_Lcaught, F_Lcaught := F_Lcaught, g_Ljoined := PySem.W.mg_of X G g_Ljoined, k_Ljoined := k_Ljoined, b_Ljoined := B_Ljoined, F_Ljoined := F_Ljoined, g_Ltells := PySem.W.mg_of X G g_Ltells, k_Ltells := k_Ltells, b_Ltells := B_Ltells, F_Ltells := F_Ltells, g_Lchanged := PySem.W.mg_of X G g_Lchanged, k_Lchanged := k_Lchanged, b_Lchanged := B_Lchanged, F_Lchanged := F_Lchanged, g_Lrefused := PySem.W.mg_of X G g_Lrefused, k_Lrefused := k_Lrefused, b_Lrefused := B_Lrefused }
  have hR : ∀ p ∈ [(PR, qRefused), (PL, qLaw)], p.1 = PR → p.2 = qRefused := fun p hp e => by
    rcases List.mem_cons.mp hp with q | q
    · rw [q]
    · rw [List.mem_singleton.mp q] at e
      exact absurd e.symm nRL
  have hL : ∀ p ∈ [(PR, qRefused), (PL, qLaw)], p.1 = PL → p.2 = qLaw := fun p hp e => by
    rcases List.mem_cons.mp hp with q | q
    · rw [q] at e
      exact absurd e nRL
    · rw [List.mem_singleton.mp q]
  have two : ∀ {A : Addr × Addr → Prop}, A (cR, PR) → A (cL, PL) → ∀ p ∈ [(cR, PR), (cL, PL)], A p := fun a b p hp => by
    rcases List.mem_cons.mp hp with q | q
    · rw [q]; exact a
    · rw [List.mem_singleton.mp q]; exact b
  refine ⟨(PySem.W.fnOf "law" "law" (defArgs s_law) (defBody s_law) (defScope s_law) .none kV_law dc_law pm_law an_law (.ref cL) ct_law), [(cR, PR), (cL, PL)], spLaw K [(PR, qRefused), (PL, qLaw)], two tbR tbL, two noR noL, two (PySem.W.codeHd_of_K X hdR) (PySem.W.codeHd_of_K X hdL), fun s u => .of_eq rfl, fun H a ns hl _ hH hS => ⟨a, ns, rfl, hS, hl, fun p hp => ?_, fun _ => rfl⟩, fun base _ _ TB => ?_⟩
  · rcases List.mem_cons.mp hp with q | q
    · rw [q]; exact LamX.TabS.nil (hH (cR, PR) List.mem_cons_self)
    · rw [List.mem_singleton.mp q]; exact LamX.TabS.nil (hH (cL, PL) (List.mem_cons_of_mem _ List.mem_cons_self))
  · exact ok_law T l_law c_law (TB (cL, PL) (List.mem_cons_of_mem _ List.mem_cons_self)) (List.mem_cons_of_mem _ List.mem_cons_self) hL
      (ok_Lrefused T l_Lrefused c_Lrefused (TB (cR, PR) List.mem_cons_self) List.mem_cons_self hR)
end Fb
open PySem PySem.W PyProof.Rows
set_option maxRecDepth 100000 in
set_option maxHeartbeats 0 in
theorem PySem.Challenge.cw_fallenbits_k03_what_a_pattern_tells_holds : PySem.Challenge.rw_fallenbits_k03_what_a_pattern_tells.Holds := by
  w_on; o_law; k_head; (case hw => w_witness2)
  k_fill
  refine LamX.walk_ofTs (l := PySem.Challenge.rw_fallenbits_k03_what_a_pattern_tells) (CX := fun _ => L2.CX0) (n := 63) (k := 10) (x := "_law_script") rfl (by decide) rfl ⟨rfl, by decide, by decide⟩ (fun w h Y => PySem.W.km_in_of Y) ?F (fun _ _ _ _ _ z => z)
  case F =>
    intro w mg fa h Y KX G hmg
    refine' Fb.all_mk KX G hmg ?zz_gC ?zz_lC ?zz_mroC ?zz_pgC ?zz_hdC ?zz_poC ?zz_saC ?zz_mkC ?zz_kpC ?zz_na_text ?zz_na_bits ?zz_na_sizes ?zz_rdC ?zz_gaC ?zz_vB ?zz_vK ?zz_caC ?zz_hn ?zz_ht ?zz_moC ?zz_tyC ?zz_at_sizes ?zz_get_sizes ?zz_tak_sizes ?zz_rec_sizes ?zz_l_sizes ?zz_c_sizes ?zz_k_sizes ?zz_at_standing ?zz_get_standing ?zz_tak_standing ?zz_rec_standing ?zz_l_standing ?zz_c_standing ?zz_k_standing ?zz_at_fallen ?zz_fn_fallen ?zz_l_fallen ?zz_c_fallen ?zz_k_fallen ?zz_at_erased ?zz_fn_erased ?zz_l_erased ?zz_c_erased ?zz_k_erased ?zz_atF ?zz_recF ?zz_fiF ?zz_l_full ?zz_c_full ?zz_k_full ?zz_g_is_whole ?zz_l_is_whole ?zz_c_is_whole ?zz_k_is_whole ?zz_g_is_number ?zz_l_is_number ?zz_c_is_number ?zz_k_is_number ?zz_g_has_pattern_form ?zz_l_has_pattern_form ?zz_c_has_pattern_form ?zz_k_has_pattern_form ?zz_g_first_wrong_sign ?zz_l_first_wrong_sign ?zz_c_first_wrong_sign ?zz_k_first_wrong_sign ?zz_g_pattern_fault ?zz_l_pattern_fault ?zz_c_pattern_fault ?zz_k_pattern_fault ?zz_g_need_pattern ?zz_l_need_pattern ?zz_c_need_pattern ?zz_k_need_pattern ?zz_g_sizes_of ?zz_l_sizes_of ?zz_c_sizes_of ?zz_k_sizes_of ?zz_g_need_bits ?zz_l_need_bits ?zz_c_need_bits ?zz_k_need_bits ?zz_g_bits_of ?zz_l_bits_of ?zz_c_bits_of ?zz_k_bits_of ?zz_g_places_of ?zz_l_places_of ?zz_c_places_of ?zz_k_places_of ?zz_g_with_fallen ?zz_l_with_fallen ?zz_c_with_fallen ?zz_k_with_fallen ?zz_g_with_erased ?zz_l_with_erased ?zz_c_with_erased ?zz_k_with_erased ?zz_g_can_be_sizes ?zz_l_can_be_sizes ?zz_c_can_be_sizes ?zz_k_can_be_sizes ?zz_m_init ?zz_f_init ?zz_l_init ?zz_c_init ?zz_k_init ?zz_m_str ?zz_f_str ?zz_l_str ?zz_c_str ?zz_k_str ?zz_m_len ?zz_f_len ?zz_l_len ?zz_c_len ?zz_k_len ?zz_m_bool ?zz_f_bool ?zz_l_bool ?zz_c_bool ?zz_k_bool ?zz_m_getitem ?zz_f_getitem ?zz_l_getitem ?zz_c_getitem ?zz_k_getitem ?zz_m_contains ?zz_f_contains ?zz_l_contains ?zz_c_contains ?zz_k_contains ?zz_fi_getitem ?zz_g_Lpen ?zz_l_Lpen ?zz_c_Lpen ?zz_k_Lpen ?zz_g_Ltake ?zz_l_Ltake ?zz_c_Ltake ?zz_k_Ltake ?zz_g_Lsizes ?zz_l_Lsizes ?zz_c_Lsizes ?zz_k_Lsizes ?zz_g_Ldrawn ?zz_l_Ldrawn ?zz_c_Ldrawn ?zz_k_Ldrawn ?zz_g_Lcaught ?zz_l_Lcaught ?zz_c_Lcaught ?zz_k_Lcaught ?zz_g_Ljoined ?zz_l_Ljoined ?zz_c_Ljoined ?zz_k_Ljoined ?zz_g_Ltells ?zz_l_Ltells ?zz_c_Ltells ?zz_k_Ltells ?zz_g_Lchanged ?zz_l_Lchanged ?zz_c_Lchanged ?zz_k_Lchanged ?zz_g_Lrefused ?zz_l_Lrefused ?zz_c_Lrefused ?zz_k_Lrefused ?zz_g_law ?zz_l_law ?zz_c_law ?zz_k_law ?zz_lkR ?zz_elR ?zz_hdR ?zz_noR ?zz_tbR ?zz_lkL ?zz_elL ?zz_hdL ?zz_noL ?zz_tbL ?zz_nRL ?zz_gF ?zz_clF ?zz_tyF ?zz_sbF ?zz_gU ?zz_oU ?zz_kpU ?zz_tyU ?zz_saU ?zz_gaU ?zz_ggU ?zz_caU ?zz_gN ?zz_oN ?zz_kpN ?zz_tyN ?zz_saN ?zz_gaN ?zz_ggN ?zz_caN ?zz_eU ?zz_neBN ?zz_neFN ?zz_neFB ?zz_iNP ?zz_tNP ?zz_nNP ?zz_l_npi ?zz_c_npi ?zz_k_npi ?zz_b_isinstance ?zz_b_str ?zz_b_enumerate ?zz_b_len ?zz_b_tuple ?zz_b_all ?zz_b_int ?zz_b_bool ?zz_b_list ?zz_b_sum ?zz_b_range ?zz_b_repr ?zz_b_abs
    (case zz_gC => k_is)
    (case zz_lC => k_is)
    (case zz_mroC => rfl)
    (case zz_pgC => k_is)
    (case zz_hdC => k_is)
    (case zz_poC => k_is)
    (case zz_saC => k_is)
    (case zz_mkC => k_is)
    (case zz_kpC => k_is)
    (case zz_na_text => k_is)
    (case zz_na_bits => k_is)
    (case zz_na_sizes => k_is)
    (case zz_rdC => k_is)
    (case zz_gaC => k_is)
    (case zz_vB => k_is)
    (case zz_vK => k_is)
    (case zz_caC => k_is)
    (case zz_hn => k_is)
    (case zz_ht => k_is)
    (case zz_moC => k_is)
    (case zz_tyC => k_is)
    (case zz_at_sizes => k_is)
    (case zz_get_sizes => k_is)
    (case zz_tak_sizes => k_is)
    (case zz_rec_sizes => k_is)
    (case zz_l_sizes => k_is)
    (case zz_c_sizes => k_is)
    (case zz_k_sizes => k_is)
    (case zz_at_standing => k_is)
    (case zz_get_standing => k_is)
    (case zz_tak_standing => k_is)
    (case zz_rec_standing => k_is)
    (case zz_l_standing => k_is)
    (case zz_c_standing => k_is)
    (case zz_k_standing => k_is)
    (case zz_at_fallen => k_is)
    (case zz_fn_fallen => k_is)
    (case zz_l_fallen => k_is)
    (case zz_c_fallen => k_is)
    (case zz_k_fallen => k_is)
    (case zz_at_erased => k_is)
    (case zz_fn_erased => k_is)
    (case zz_l_erased => k_is)
    (case zz_c_erased => k_is)
    (case zz_k_erased => k_is)
    (case zz_atF => k_is)
    (case zz_recF => k_is)
    (case zz_fiF => k_is)
    (case zz_l_full => k_is)
    (case zz_c_full => k_is)
    (case zz_k_full => k_is)
    (case zz_g_is_whole => k_is)
    (case zz_l_is_whole => k_is)
    (case zz_c_is_whole => k_is)
    (case zz_k_is_whole => k_is)
    (case zz_g_is_number => k_is)
    (case zz_l_is_number => k_is)
    (case zz_c_is_number => k_is)
    (case zz_k_is_number => k_is)
    (case zz_g_has_pattern_form => k_is)
    (case zz_l_has_pattern_form => k_is)
    (case zz_c_has_pattern_form => k_is)
    (case zz_k_has_pattern_form => k_is)
    (case zz_g_first_wrong_sign => k_is)
    (case zz_l_first_wrong_sign => k_is)
    (case zz_c_first_wrong_sign => k_is)
    (case zz_k_first_wrong_sign => k_is)
    (case zz_g_pattern_fault => k_is)
    (case zz_l_pattern_fault => k_is)
    (case zz_c_pattern_fault => k_is)
    (case zz_k_pattern_fault => k_is)
    (case zz_g_need_pattern => k_is)
    (case zz_l_need_pattern => k_is)
    (case zz_c_need_pattern => k_is)
    (case zz_k_need_pattern => k_is)
    (case zz_g_sizes_of => k_is)
    (case zz_l_sizes_of => k_is)
    (case zz_c_sizes_of => k_is)
    (case zz_k_sizes_of => k_is)
    (case zz_g_need_bits => k_is)
    (case zz_l_need_bits => k_is)
    (case zz_c_need_bits => k_is)
    (case zz_k_need_bits => k_is)
    (case zz_g_bits_of => k_is)
    (case zz_l_bits_of => k_is)
    (case zz_c_bits_of => k_is)
    (case zz_k_bits_of => k_is)
    (case zz_g_places_of => k_is)
    (case zz_l_places_of => k_is)
    (case zz_c_places_of => k_is)
    (case zz_k_places_of => k_is)
    (case zz_g_with_fallen => k_is)
    (case zz_l_with_fallen => k_is)
    (case zz_c_with_fallen => k_is)
    (case zz_k_with_fallen => k_is)
    (case zz_g_with_erased => k_is)
    (case zz_l_with_erased => k_is)
    (case zz_c_with_erased => k_is)
    (case zz_k_with_erased => k_is)
    (case zz_g_can_be_sizes => k_is)
    (case zz_l_can_be_sizes => k_is)
    (case zz_c_can_be_sizes => k_is)
    (case zz_k_can_be_sizes => k_is)
    (case zz_m_init => k_is)
    (case zz_f_init => k_is)
    (case zz_l_init => k_is)
    (case zz_c_init => k_is)
    (case zz_k_init => k_is)
    (case zz_m_str => k_is)
    (case zz_f_str => k_is)
    (case zz_l_str => k_is)
    (case zz_c_str => k_is)
    (case zz_k_str => k_is)
    (case zz_m_len => k_is)
    (case zz_f_len => k_is)
    (case zz_l_len => k_is)
    (case zz_c_len => k_is)
    (case zz_k_len => k_is)
    (case zz_m_bool => k_is)
    (case zz_f_bool => k_is)
    (case zz_l_bool => k_is)
    (case zz_c_bool => k_is)
    (case zz_k_bool => k_is)
    (case zz_m_getitem => k_is)
    (case zz_f_getitem => k_is)
    (case zz_l_getitem => k_is)
    (case zz_c_getitem => k_is)
    (case zz_k_getitem => k_is)
    (case zz_m_contains => k_is)
    (case zz_f_contains => k_is)
    (case zz_l_contains => k_is)
    (case zz_c_contains => k_is)
    (case zz_k_contains => k_is)
    (case zz_fi_getitem => k_is)
    (case zz_g_Lpen => k_is)
    (case zz_l_Lpen => k_is)
    (case zz_c_Lpen => k_is)
    (case zz_k_Lpen => k_is)
    (case zz_g_Ltake => k_is)
    (case zz_l_Ltake => k_is)
    (case zz_c_Ltake => k_is)
    (case zz_k_Ltake => k_is)
    (case zz_g_Lsizes => k_is)
    (case zz_l_Lsizes => k_is)
    (case zz_c_Lsizes => k_is)
    (case zz_k_Lsizes => k_is)
    (case zz_g_Ldrawn => k_is)
    (case zz_l_Ldrawn => k_is)
    (case zz_c_Ldrawn => k_is)
    (case zz_k_Ldrawn => k_is)
    (case zz_g_Lcaught => k_is)
    (case zz_l_Lcaught => k_is)
    (case zz_c_Lcaught => k_is)
    (case zz_k_Lcaught => k_is)
    (case zz_g_Ljoined => k_is)
    (case zz_l_Ljoined => k_is)
    (case zz_c_Ljoined => k_is)
    (case zz_k_Ljoined => k_is)
    (case zz_g_Ltells => k_is)
    (case zz_l_Ltells => k_is)
    (case zz_c_Ltells => k_is)
    (case zz_k_Ltells => k_is)
    (case zz_g_Lchanged => k_is)
    (case zz_l_Lchanged => k_is)
    (case zz_c_Lchanged => k_is)
    (case zz_k_Lchanged => k_is)
    (case zz_g_Lrefused => k_is)
    (case zz_l_Lrefused => k_is)
    (case zz_c_Lrefused => k_is)
    (case zz_k_Lrefused => k_is)
    (case zz_g_law => k_is)
    (case zz_l_law => k_is)
    (case zz_c_law => k_is)
    (case zz_k_law => k_is)
    (case zz_lkR => k_is)
    (case zz_elR => rfl)
    (case zz_hdR => kernel_rfl)
    (case zz_noR => kernel_rfl)
    (case zz_tbR => exact PySem.W.km_tabs_of Y _ (by k_mem))
    (case zz_lkL => k_is)
    (case zz_elL => rfl)
    (case zz_hdL => kernel_rfl)
    (case zz_noL => kernel_rfl)
    (case zz_tbL => exact PySem.W.km_tabs_of Y _ (by k_mem))
    (case zz_nRL => decide)
    (case zz_gF => k_is)
    (case zz_clF => k_is)
    (case zz_tyF => k_is)
    (case zz_sbF => k_is)
    (case zz_gU => k_is)
    (case zz_oU => k_is)
    (case zz_kpU => k_is)
    (case zz_tyU => k_is)
    (case zz_saU => k_is)
    (case zz_gaU => k_is)
    (case zz_ggU => k_is)
    (case zz_caU => k_is)
    (case zz_gN => k_is)
    (case zz_oN => k_is)
    (case zz_kpN => k_is)
    (case zz_tyN => k_is)
    (case zz_saN => k_is)
    (case zz_gaN => k_is)
    (case zz_ggN => k_is)
    (case zz_caN => k_is)
    (case zz_eU => k_exc)
    (case zz_neBN => decide)
    (case zz_neFN => decide)
    (case zz_neFB => decide)
    (case zz_iNP => k_is)
    (case zz_tNP => k_is)
    (case zz_nNP => k_is)
    (case zz_l_npi => k_is)
    (case zz_c_npi => k_is)
    (case zz_k_npi => k_is)
    (case zz_b_isinstance => k_is)
    (case zz_b_str => k_is)
    (case zz_b_enumerate => k_is)
    (case zz_b_len => k_is)
    (case zz_b_tuple => k_is)
    (case zz_b_all => k_is)
    (case zz_b_int => k_is)
    (case zz_b_bool => k_is)
    (case zz_b_list => k_is)
    (case zz_b_sum => k_is)
    (case zz_b_range => k_is)
    (case zz_b_repr => k_is)
    (case zz_b_abs => k_is)
-- bumped
