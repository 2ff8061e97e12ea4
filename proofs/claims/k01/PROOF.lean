import PyProof.Rows.All
import Wide.All
import OpenK.AllK
import Wide.FinOn
import HandS.ForMost
import HandS.Wide
import HandS.Codes
import HandS.ForExc
import HandS.ExcInit
import HandS.ExcValue
import HandS.ExcIs
import HandS.IsInst
import HandS.SetFor
import KE.KExcIs
import PyProof.ReprReads
import PyProof.Rows.CountFlat
import PyProof.ReprRoads
import PySem.Challenge.RW_fallenbits_k01_errors
set_option Elab.async false
set_option linter.all false
set_option maxRecDepth 100000
set_option maxHeartbeats 4000000
namespace Fb
open PySem PySem.Spec PyProof.Rows L2
def top (i : Nat) : Stmt := PySem.Challenge.pw_fallenbits_k01_errors.main.body.getD i (.Pass ⟨0, 0, 0, 0⟩)
/-! the pen -/
def penK (l : Addr) (a r f : Int) : List (Key × V) := [(.inr "cells", .ref l), (.inr "at", .int a), (.inr "rest", .int r), (.inr "fold", .int f)]
theorem ne1 : ¬ (("cells" : Str) = "rest") := by decide +kernel
theorem ne2 : ¬ (("at" : Str) = "rest") := by decide +kernel
theorem ne3 : ¬ (("cells" : Str) = "at") := by decide +kernel
theorem ne4 : ¬ (("cells" : Str) = "fold") := by decide +kernel
theorem ne5 : ¬ (("at" : Str) = "fold") := by decide +kernel
theorem ne6 : ¬ (("rest" : Str) = "fold") := by decide +kernel
theorem ne7 : ¬ (("rest" : Str) = "at") := by decide +kernel
theorem ne8 : ¬ (("fold" : Str) = "at") := by decide +kernel
theorem ne9 : ¬ (("fold" : Str) = "rest") := by decide +kernel
theorem inr_ne {a b : Str} (h : ¬ a = b) : ¬ ((Sum.inr a : Key) = Sum.inr b) := fun e => h (Sum.inr.inj e)
section
variable {H : Hp} {p l : Addr} {a r f x : Int}
theorem penK_cells : valV (penK l a r f) (.inr "cells") = some (.ref l) := by
  unfold penK; exact valV_pos rfl
theorem penK_at : valV (penK l a r f) (.inr "at") = some (.int a) := by
  unfold penK; rw [valV_neg (inr_ne ne3)]; exact valV_pos rfl
theorem penK_rest : valV (penK l a r f) (.inr "rest") = some (.int r) := by
  unfold penK; rw [valV_neg (inr_ne ne1), valV_neg (inr_ne ne2)]; exact valV_pos rfl
theorem penK_fold : valV (penK l a r f) (.inr "fold") = some (.int f) := by
  unfold penK; rw [valV_neg (inr_ne ne4), valV_neg (inr_ne ne5), valV_neg (inr_ne ne6)]; exact valV_pos rfl
theorem penK_put_at : putK (penK l a r f) (.inr "at") (.int x) = penK l x r f := by
  unfold putK
  rw [valV_any, penK_at, Option.isSome_some, if_pos rfl]
  unfold penK
  simp only [List.map_cons, List.map_nil, if_neg (inr_ne ne3), if_neg (inr_ne ne7), if_neg (inr_ne ne8), if_true]
theorem penK_put_rest : putK (penK l a r f) (.inr "rest") (.int x) = penK l a x f := by
  unfold putK
  rw [valV_any, penK_rest, Option.isSome_some, if_pos rfl]
  unfold penK
  simp only [List.map_cons, List.map_nil, if_neg (inr_ne ne1), if_neg (inr_ne ne2), if_neg (inr_ne ne9), if_true]
theorem g_cells (e : H p = some (.dK (penK l a r f))) : DGet H p (.str "cells") (some (.ref l)) := by
  have h := DGet.k (k := .inr "cells") e
  rw [penK_cells] at h; exact h
theorem g_at (e : H p = some (.dK (penK l a r f))) : DGet H p (.str "at") (some (.int a)) := by
  have h := DGet.k (k := .inr "at") e
  rw [penK_at] at h; exact h
theorem g_rest (e : H p = some (.dK (penK l a r f))) : DGet H p (.str "rest") (some (.int r)) := by
  have h := DGet.k (k := .inr "rest") e
  rw [penK_rest] at h; exact h
theorem g_fold (e : H p = some (.dK (penK l a r f))) : DGet H p (.str "fold") (some (.int f)) := by
  have h := DGet.k (k := .inr "fold") e
  rw [penK_fold] at h; exact h
theorem pen_sz : (penK l a r f).length < sizeLine := by
  show 4 < sizeLine
  rw [sizeLine_eq]; decide
theorem p_at (e : H p = some (.dK (penK l a r f))) : DPut H p (.str "at") (.int x) (upd H p (.dK (penK l x r f))) := by
  have h := DPut.k (k := .inr "at") (v := .int x) e pen_sz
  rw [penK_put_at] at h; exact h
theorem p_rest (e : H p = some (.dK (penK l a r f))) : DPut H p (.str "rest") (.int x) (upd H p (.dK (penK l a x f))) := by
  have h := DPut.k (k := .inr "rest") (v := .int x) e pen_sz
  rw [penK_put_rest] at h; exact h
end
/-- a pen at p that has been asked at most n times -/
def Pen (H : Hp) (p : Addr) (n : Nat) : Prop := ∃ (l : Addr) (cs : List Int) (a r f : Int), H p = some (.dK (penK l a r f)) ∧ H l = some (.lst (cs.map V.int)) ∧ 0 ≤ a ∧ a ≤ n ∧ 0 ≤ r ∧ 0 ≤ f ∧ f < 2147483629
theorem Pen.mono {H : Hp} {p : Addr} {n m : Nat} (h : Pen H p n) (le : n ≤ m) : Pen H p m := by
  obtain ⟨l, cs, a, r, f, h1, h2, h3, h4, h5⟩ := h
  exact ⟨l, cs, a, r, f, h1, h2, h3, by omega, h5⟩
theorem Pen.same {H H' : Hp} {p : Addr} {n : Nat} (h : Pen H p n) (s : Same H H') : Pen H' p n := by
  obtain ⟨l, cs, a, r, f, h1, h2, h3⟩ := h
  exact ⟨l, cs, a, r, f, s _ _ h1, s _ _ h2, h3⟩
def spTake : Sp := fun vs H Q _ => ∃ (p : Addr) (m : Int) (n : Nat), vs = [.ref p, .int m] ∧ 0 < m ∧ m < 1073741824 ∧ n < 1000000 ∧ Pen H p n ∧
  ∀ (d : Int) (H' : Hp), 0 ≤ d → d < m → Pen H' p (n + 1) → (∀ c, c ≠ p → H' c = H c) → Q (.int d) H'
structure TxP (mg : Str → Option Value) : Prop where
  n_int : mg "int" = none
  n_len : mg "len" = none
  n_abs : mg "abs" = none
  n_list : mg "list" = none
abbrev s_Ltake : Stmt := top 23
theorem sc_Ltake : FnScope ["_law_pen_here", "_law_many", "_law_digit", "_law_at", "_law_cell", "_law_great", "_law_mixed"] ["_law_pen_here", "_law_many"] (defScope s_Ltake) := ⟨rfl, rfl, rfl, by decide +kernel, rfl, by decide +kernel, by decide +kernel⟩
section
variable {P : Program} {w : World} {K : PySem.W.Frag} {mg : Str → Option Value} {base : Heap}
theorem ok_take {f : Addr} {fd : FuncData} (F : Fun K "_law_take" "_law_take" s_Ltake f fd) (T : TxP mg) : FnOk P w K mg base CX0 1 f fd ["_law_pen_here", "_law_many"] spTake := by
  refine F.ok sc_Ltake (fun vs H Q E h => ?_) (fun cdv A outer s H vs Q E hr h => ?_)
  · obtain ⟨p, m, n, rfl, _⟩ := h
    rfl
  · obtain ⟨p, m, n, rfl, hm0, hm1, hn, ⟨l, cs, a, r, f, hp, hl, ha0, ha1, hr0, hf0, hf1⟩, k⟩ := h
    have hu := hu_of hr
    have npl : l ≠ p := ne_of hl hp (by intro z; cases z)
    refine ⟨_, (pss_cons (ps_if (pt_cmpR op_gt (pe_dget hu (pv 0) pe_str (fun _ _ => rfl)) pe_int (nomark _))
    (pss_cons (ps_set (i := 2) sc_Ltake.nd rfl (Or.inl rfl) (pe_op op_mod (pe_callTy call_int1 (by rfl) T.n_int (by decide +kernel) (pa_cons (pe_dget hu (pv 0) pe_str (fun _ _ => rfl)) pa_nil)) (pv 1)))
    (pss_cons (ps_dput hu (pv 0) pe_str (pe_op op_fdiv (pe_callTy call_int1 (by rfl) T.n_int (by decide +kernel) (pa_cons (pe_dget hu (pv 0) pe_str (fun _ _ => rfl)) pa_nil)) (pv 1)) rfl)
    (pss_one (ps_ret (pv 2)))))
    pss_nil)
  (pss_cons (ps_set (i := 3) sc_Ltake.nd rfl (Or.inl rfl) (pe_dget hu (pv 0) pe_str (fun _ _ => rfl)))
  (pss_cons (ps_dput hu (pv 0) pe_str (pe_op op_add (pv 3) pe_int) rfl)
  (pss_cons (ps_set (i := 4) sc_Ltake.nd rfl (Or.inl rfl) pe_int)
  (C8.pss_cut (ps_if (pt_cmpR op_lt (pv 3) (pe_callB call_len_seq (by rfl) T.n_len (by decide +kernel) (pa_cons (pe_dget hu (pv 0) pe_str (fun _ _ => rfl)) pa_nil)) (nomark _))
    (pss_one (ps_set (i := 4) sc_Ltake.nd rfl (Or.inl rfl) (pe_ix ix_list (pe_dget hu (pv 0) pe_str (fun _ _ => rfl)) (pv 3) (fun _ _ => rfl))))
    pss_nil)
  (pss_cons (ps_if (pt_cmpR op_ge (pe_callB call_abs (by rfl) T.n_abs (by decide +kernel) (pa_cons (pv 4) pa_nil)) (pe_op op_pow pe_int pe_int) (nomark _))
    (pss_cons (ps_set (i := 5) sc_Ltake.nd rfl (Or.inl rfl) (pe_op op_add (pe_op op_mul pe_int (pe_callB call_abs (by rfl) T.n_abs (by decide +kernel) (pa_cons (pv 4) pa_nil))) (pe_callTy call_int1 (by rfl) T.n_int (by decide +kernel) (pa_cons (pe_cmpR op_lt (pv 4) pe_int (nomark _)) pa_nil))))
    (pss_cons (ps_dput hu (pv 0) pe_str (pe_op op_fdiv (pe_callTy call_int1 (by rfl) T.n_int (by decide +kernel) (pa_cons (pv 5) pa_nil)) (pv 1)) rfl)
    (pss_one (ps_ret (pe_op op_mod (pe_callTy call_int1 (by rfl) T.n_int (by decide +kernel) (pa_cons (pv 5) pa_nil)) (pv 1))))))
    pss_nil)
  (pss_cons (ps_set (i := 6) sc_Ltake.nd rfl (Or.inl rfl) (pe_op op_mod (pe_callTy call_int1 (by rfl) T.n_int (by decide +kernel) (pa_cons (pe_op op_pow (pe_op op_add (pe_op op_add (pe_op op_mod (pe_callTy call_int1 (by rfl) T.n_int (by decide +kernel) (pa_cons (pv 4) pa_nil)) pe_int) (pe_callTy call_int1 (by rfl) T.n_int (by decide +kernel) (pa_cons (pe_dget hu (pv 0) pe_str (fun _ _ => rfl)) pa_nil))) (pe_op op_mul pe_int (pv 3))) pe_int) pa_nil)) pe_int))
  (pss_cons (ps_set (i := 6) sc_Ltake.nd rfl (Or.inl rfl) (pe_op op_mod (pe_callTy call_int1 (by rfl) T.n_int (by decide +kernel) (pa_cons (pe_op op_pow (pe_op op_add (pe_op op_add (pv 6) (pe_op op_mul (pe_op op_mul pe_int (pv 3)) (pv 3))) (pe_op op_fdiv (pe_callTy call_int1 (by rfl) T.n_int (by decide +kernel) (pa_cons (pe_dget hu (pv 0) pe_str (fun _ _ => rfl)) pa_nil)) pe_int)) pe_int) pa_nil)) pe_int))
  (pss_one (ps_ret (pe_op op_mod (pe_callTy call_int1 (by rfl) T.n_int (by decide +kernel) (pa_cons (pe_op op_fdiv (pv 6) pe_int) pa_nil)) (pv 1)))))))))))), ?_⟩
    -- if pen['rest'] > 0
    refine ⟨_, rfl, p, _, rfl, g_rest hp, _, _, rfl, rfl, _, rfl, ?_⟩
    refine ite2 (fun h1 => ?_) (fun h1 => ?_)
    · -- the rest
      refine ⟨_, rfl, p, _, rfl, g_rest hp, .inl ⟨_, rfl, ?_⟩⟩
      refine ⟨_, rfl, _, _, rfl, rfl, hm0, ?_⟩
      refine ⟨_, rfl, p, _, rfl, g_rest hp, .inl ⟨_, rfl, ?_⟩⟩
      refine ⟨_, rfl, _, _, rfl, rfl, ⟨hm0, hm1⟩, ?_⟩
      refine ⟨_, rfl, p, _, rfl, p_rest hp, ?_⟩
      refine ⟨_, rfl, ?_⟩
      refine k _ _ (Int.emod_nonneg _ (by omega)) (Int.emod_lt_of_pos _ hm0) ⟨l, cs, a, r / m, f, upd_same, by rw [upd_ne npl]; exact hl, ha0, by omega, Int.ediv_nonneg hr0 (by omega), hf0, hf1⟩ (fun c hc => upd_ne hc)
    · -- at = pen['at']; pen['at'] = at + 1; cell = 0
      refine ⟨_, rfl, p, _, rfl, g_at hp, ?_⟩
      refine ⟨_, rfl, _, _, rfl, rfl, _, rfl, p, _, rfl, p_at hp, ?_⟩
      have hp' : ∀ {x : Int}, (upd H p (.dK (penK l x r f))) p = some (.dK (penK l x r f)) := upd_same
      have hl' : ∀ {x : Int}, (upd H p (.dK (penK l x r f))) l = some (.lst (cs.map V.int)) := by intro x; rw [upd_ne npl]; exact hl
      refine ⟨fun σ H' => H' = upd H p (.dK (penK l (a + 1) r f)) ∧ ∃ c : Int, σ = [some (.ref p), some (.int m), none, some (.int a), some (.int c), none, none], ?_, ?_⟩
      · -- if at < len(pen['cells'])
        refine ⟨_, rfl, _, rfl, p, _, rfl, g_cells hp', l, _, rfl, .inl (SqL.of hl'), _, _, rfl, rfl, _, rfl, ?_⟩
        refine ite2 (fun h2 => ?_) (fun h2 => ?_)
        · rw [List.length_map] at h2
          have h3 : a < (cs.length : Int) := by simpa using h2
          obtain ⟨j, rfl⟩ : ∃ j : Nat, a = (j : Int) := ⟨a.toNat, by omega⟩
          refine ⟨_, rfl, p, _, rfl, g_cells hp', _, rfl, l, _, _, _, rfl, rfl, SqL.of hl', atI_nat (j := j) (v := V.int (cs[j]'(by omega))) (by rw [List.getElem?_map, List.getElem?_eq_getElem (show j < cs.length by omega)]; rfl), ?_⟩
          exact ⟨rfl, _, rfl⟩
        · exact ⟨rfl, 0, rfl⟩
      · rintro σ _ ⟨rfl, c, rfl⟩
        -- if abs(cell) >= 10 ** 18
        refine ⟨_, rfl, _, rfl, _, _, rfl, rfl, ⟨by decide, by decide, by decide⟩, _, _, rfl, rfl, _, rfl, ?_⟩
        refine ite2 (fun h2 => ?_) (fun h2 => ?_)
        · -- great
          have hg : 0 ≤ 2 * (if c < 0 then -c else c) + (if decide (c < 0) = true then (1 : Int) else 0) := by
            split <;> split <;> omega
          refine ⟨_, rfl, _, rfl, _, _, rfl, rfl, .inl ⟨by decide, by decide⟩, ?_⟩
          refine ⟨_, rfl, _, _, rfl, rfl, .inr ⟨_, rfl, ?_⟩⟩
          refine ⟨_, _, rfl, rfl, ?_⟩
          refine ⟨_, rfl, .inl ⟨_, rfl, ?_⟩⟩
          refine ⟨_, rfl, _, _, rfl, rfl, ⟨hm0, hm1⟩, _, rfl, p, _, rfl, p_rest hp', ?_⟩
          refine ⟨_, rfl, .inl ⟨_, rfl, ?_⟩⟩
          refine ⟨_, rfl, _, _, rfl, rfl, hm0, ?_⟩
          refine k _ _ (Int.emod_nonneg _ (by omega)) (Int.emod_lt_of_pos _ hm0) ⟨l, cs, a + 1, _, f, upd_same, by rw [upd_ne npl]; exact hl', by omega, by omega, Int.ediv_nonneg hg (by omega), hf0, hf1⟩ (fun c hc => by rw [upd_ne hc, upd_ne hc])
        · -- mixed
          refine ⟨_, rfl, .inl ⟨_, rfl, ?_⟩⟩
          refine ⟨_, _, rfl, rfl, (show (0 : Int) < 2147483563 by decide), ?_⟩
          refine ⟨_, rfl, p, _, rfl, g_fold hp', .inl ⟨_, rfl, ?_⟩⟩
          refine ⟨_, _, rfl, rfl, ?_⟩
          refine ⟨_, rfl, _, _, rfl, rfl, .inl ⟨by decide, by decide⟩, ?_⟩
          refine ⟨_, _, rfl, rfl, ?_⟩
          have e1 := Int.emod_nonneg c (show (2147483563 : Int) ≠ 0 by decide)
          have e2 := Int.emod_lt_of_pos c (show (0 : Int) < 2147483563 by decide)
          refine ⟨_, _, rfl, rfl, ⟨by decide, by decide, ?_⟩, ?_⟩
          · have : (c % 2147483563 + f + 70001 * a) < 2 ^ 63 := by omega
            omega
          refine .inl ⟨_, rfl, ?_⟩
          refine ⟨_, _, rfl, rfl, (show (0 : Int) < 2147483647 by decide), ?_⟩
          generalize hx : (c % 2147483563 + f + 70001 * a) ^ (3 : Int).toNat % 2147483647 = x
          have e3 : 0 ≤ x := by rw [← hx]; exact Int.emod_nonneg _ (by decide)
          have e4 : x < 2147483647 := by rw [← hx]; exact Int.emod_lt_of_pos _ (by decide)
          refine ⟨_, rfl, ?_⟩
          refine ⟨_, rfl, _, _, rfl, rfl, .inl ⟨by decide, by decide⟩, ?_⟩
          refine ⟨_, rfl, _, _, rfl, rfl, .inr ⟨by omega, by omega⟩, ?_⟩
          refine ⟨_, _, rfl, rfl, ?_⟩
          refine ⟨_, rfl, p, _, rfl, g_fold hp', .inl ⟨_, rfl, ?_⟩⟩
          refine ⟨_, _, rfl, rfl, ⟨by decide, by decide⟩, ?_⟩
          refine ⟨_, _, rfl, rfl, ?_⟩
          have e5 : 0 ≤ 30011 * a * a := Int.mul_nonneg (by omega) ha0
          have e6 : 30011 * a * a ≤ 30011 * 1000000 * 1000000 := Int.mul_le_mul (by omega) (by omega) ha0 (by decide)
          refine ⟨_, _, rfl, rfl, ⟨by decide, by decide, ?_⟩, ?_⟩
          · generalize 30011 * a * a = z at *
            omega
          refine .inl ⟨_, rfl, ?_⟩
          refine ⟨_, _, rfl, rfl, (show (0 : Int) < 2147483587 by decide), ?_⟩
          refine ⟨_, rfl, _, _, rfl, rfl, ⟨by decide, by decide⟩, .inl ⟨_, rfl, ?_⟩⟩
          refine ⟨_, rfl, _, _, rfl, rfl, hm0, ?_⟩
          refine k _ _ (Int.emod_nonneg _ (by omega)) (Int.emod_lt_of_pos _ hm0) ⟨l, cs, a + 1, r, f, upd_same, hl', by omega, by omega, hr0, hf0, hf1⟩ (fun c hc => upd_ne hc)

/-! the pen's making -/
theorem cut_map (ns : List Int) (lo hi : Option Int) : ∃ ms : List Int, cutV (ns.map V.int) lo hi = ms.map V.int ∧ ms.length ≤ ns.length := by
  unfold cutV
  refine ⟨(ns.drop (HT.sIx (ns.map V.int).length 0 lo)).take (HT.sIx (ns.map V.int).length (ns.map V.int).length hi - HT.sIx (ns.map V.int).length 0 lo), ?_, ?_⟩
  · rw [List.map_take, List.map_drop]
  · rw [List.length_take, List.length_drop]; omega
theorem putK_newS {kvs : List (Key × V)} {x : Str} {v : V} (h : valV kvs (.inr x) = none) : putK kvs (.inr x) v = kvs ++ [(.inr x, v)] := putK_new v h
theorem merge_pen {l : Addr} {a r f : Int} : mergeK [] [(.inr "cells", .ref l), (.inr "at", .int a), (.inr "rest", .int r), (.inr "fold", .int f)] = penK l a r f := by
  unfold mergeK
  simp only [List.foldl_cons, List.foldl_nil]
  rw [putK_newS (x := "cells") valV_nil]
  rw [putK_newS (x := "at") (by rw [List.nil_append, valV_neg (inr_ne ne3)]; exact valV_nil)]
  rw [putK_newS (x := "rest") (by simp only [List.nil_append, List.cons_append]; rw [valV_neg (inr_ne ne1), valV_neg (inr_ne ne2)]; exact valV_nil)]
  rw [putK_newS (x := "fold") (by simp only [List.nil_append, List.cons_append]; rw [valV_neg (inr_ne ne4), valV_neg (inr_ne ne5), valV_neg (inr_ne ne6)]; exact valV_nil)]
  rfl
def spPen (K : PySem.W.Frag) : Sp := fun vs H Q _ => ∃ (a : Addr) (ns : List Int), vs = [.ref a] ∧ SqL K H a (ns.map V.int) ∧ ns.length ≤ 63 ∧
  ∀ (p : Addr) (H' : Hp), H p = none → Same H H' → Pen H' p 0 → Q (.ref p) H'
abbrev s_Lpen : Stmt := top 22
theorem sc_Lpen : FnScope ["_law_script", "_law_fold", "_law_cell"] ["_law_script"] (defScope s_Lpen) := ⟨rfl, rfl, rfl, by decide +kernel, rfl, by decide +kernel, by decide +kernel⟩
theorem smN {H H' : Hp} {p : Addr} {o : HO} (s : Same H H') (h : H' p = none) : Same H (upd H' p o) := fun b u e => by
  rw [upd_ne (ne_of_none (s b u e) h)]
  exact s b u e
theorem ok_pen {f : Addr} {fd : FuncData} (F : Fun K "_law_pen" "_law_pen" s_Lpen f fd) (T : TxP mg) : FnOk P w K mg base CX0 1 f fd ["_law_script"] (spPen K) := by
  refine F.ok sc_Lpen (fun vs H Q E h => ?_) (fun cdv A outer s H vs Q E hr h => ?_)
  · obtain ⟨a, ns, rfl, _⟩ := h
    rfl
  · obtain ⟨a, ns, rfl, hS, hl, k⟩ := h
    refine ⟨_, (pss_cons (ps_set (i := 1) sc_Lpen.nd rfl (Or.inl rfl) pe_int)
  (pss_cons (ps_for PassesOwn.never rfl (pi_list (pe_slice sl_list (pv 0) po_none (po_some pe_int))) (pg_name (i := 2) sc_Lpen.nd rfl (Or.inl rfl))
    (pss_one (ps_set (i := 1) sc_Lpen.nd rfl (Or.inl rfl) (pe_op op_mod (pe_callTy call_int1 (by rfl) T.n_int (by decide +kernel) (pa_cons (pe_op op_add (pe_op op_add (pe_op op_mul (pv 1) pe_int) (pe_op op_mod (pe_callTy call_int1 (by rfl) T.n_int (by decide +kernel) (pa_cons (pv 2) pa_nil)) pe_int)) pe_int) pa_nil)) pe_int))))
  (pss_one (ps_ret (pe_disp (pps_cons pe_str (pe_callTy call_list_of (by rfl) T.n_list (by decide +kernel) (pa_cons (pe_slice sl_list (pv 0) po_none (po_some pe_int)) pa_nil)) (pps_cons pe_str pe_int (pps_cons pe_str pe_int (pps_cons pe_str (pv 1) pps_nil)))) rfl rfl (by decide) (by decide)))))), ?_⟩
    obtain ⟨ms, hms, hml⟩ := cut_map ns none (some 63)
    refine ⟨_, rfl, ?_⟩
    refine ⟨_, rfl, a, _, rfl, hS, fun q hq => ?_⟩
    rw [hms]
    have s1 : Same H (upd H q (.lst (ms.map V.int))) := smN (Same.refl H) hq
    refine ⟨q, rfl, ⟨_, SqL.of upd_same⟩, for_list (K := K) (a := q) (xs := ms.map V.int) (fun i σ H' => H' = upd H q (.lst (ms.map V.int)) ∧ ∃ (f : Int) (v : Option V), 0 ≤ f ∧ f < 2147483629 ∧ σ = [some (.ref a), some (.int f), v])
      ⟨rfl, 97, none, by decide, by decide, rfl⟩ (fun i σ H' _ ⟨e, _⟩ => by rw [e]; exact SqL.of upd_same) ?_ ?_⟩
    · rintro i y σ _ hi ⟨rfl, f, v, hf0, hf1, rfl⟩
      obtain ⟨z, hz, rfl⟩ : ∃ z, ms[i]? = some z ∧ V.int z = y := by
        rw [List.getElem?_map] at hi
        cases e : ms[i]? with
        | none => rw [e] at hi; cases hi
        | some z => rw [e] at hi; exact ⟨z, rfl, Option.some.inj hi⟩
      refine ⟨_, rfl, _, _, rfl, rfl, .inr ⟨by decide, by decide⟩, ?_⟩
      refine ⟨_, rfl, .inl ⟨_, rfl, ?_⟩⟩
      refine ⟨_, _, rfl, rfl, (show (0 : Int) < 2147483629 by decide), ?_⟩
      refine ⟨_, _, rfl, rfl, ?_⟩
      refine ⟨_, _, rfl, rfl, ?_⟩
      refine .inl ⟨_, rfl, ?_⟩
      refine ⟨_, _, rfl, rfl, (show (0 : Int) < 2147483629 by decide), ?_⟩
      exact ⟨rfl, _, _, Int.emod_nonneg _ (by decide), Int.emod_lt_of_pos _ (by decide), rfl⟩
    · rintro σ _ ⟨rfl, f, v, hf0, hf1, rfl⟩
      intro p hp
      have s2 : Same H (upd (upd H q (.lst (ms.map V.int))) p (.dK [])) := smN s1 hp
      refine ⟨_, rfl, ?_⟩
      refine ⟨_, rfl, a, _, rfl, s2.seq hS, fun q2 hq2 => ?_⟩
      rw [hms]
      refine ⟨q2, _, rfl, .inl (SqL.of upd_same), fun l hl => ?_⟩
      refine ⟨_, rfl, ?_⟩
      have nl : l ≠ p := by
        intro e; subst e
        have h : (upd (upd H q (.lst (ms.map V.int))) l (.dK [])) l = some (.dK []) := upd_same
        have h2 := smN (o := .lst (ms.map V.int)) (Same.refl _) hq2 _ _ h
        rw [h2] at hl; cases hl
      have np2 : p ≠ q2 := by
        intro e; subst e; rw [upd_same] at hq2; cases hq2
      refine ⟨by rw [upd_ne nl.symm, upd_ne np2]; exact upd_same, [(.inr "cells", .ref l), (.inr "at", .int 0), (.inr "rest", .int 0), (.inr "fold", .int f)], rfl, (by show 4 ≤ 15; decide), ?_⟩
      rw [merge_pen]
      refine k p _ (Same.free s1 hp) ?_ ⟨l, ms, 0, 0, f, upd_same, by rw [upd_ne nl]; exact upd_same, by decide, by decide, by decide, hf0, hf1⟩
      intro b o e
      have e2 := s2 b o e
      rw [upd_ne (ne_of_none (s1 b o e) hp)]
      rw [upd_ne (ne_of_none (smN (Same.refl _) hq2 b o e2) hl), upd_ne (ne_of_none e2 hq2)]
      exact e2
end
end Fb
set_option maxRecDepth 100000
set_option maxHeartbeats 4000000
namespace Fb
open PySem PySem.Spec PyProof.Rows L2
/-! own exceptions as values -/
/-- C(e, ..), C's own __init__ keeping sp: a new exception, held -/
def tExI (C : Addr) (sp : Sp) (dvs : List V) (ta : TA) : TE := fun σ H Q => ta σ H fun vs H1 => vs.length ≤ 1000 ∧ ∀ a, H1 a = none → sp (.ref a :: (vs ++ dvs)) (upd H1 a (exo a C none)) (fun v H2 => v = .non ∧ Q (.ref a) H2) (fun _ _ _ => False)
section
variable {X : Cx} {e : Expr} {es : List Expr} {ta : TA} {p pos : Pos}
theorem pe_exI {CX : CXT} {x : Str} {C fI : Addr} {k : Nat} {fd : FuncData} {ps : List Str} {sp : Sp} {ds : List Value} {dvs : List V} (T : OexC X.K C) (own : PySem.W.findIn X.K (.ref C) "__init__" = some (some (.ref fI))) (isf : PySem.W.typeIn X.K (.ref fI) = some (.type "function"))
    (G : FnOk X.prog X.w X.K X.mg X.base CX k fI fd ps sp) (room : Room (k + 1) X.A) (bnd : Binds X.K fd ps ds) (dfl : Vals dvs ds) (out : Passes CX X (fun _ _ _ => False)) (gl : Gl X x) (at_ : X.mg x = some (.ref C)) (ha : PA X (e :: es) ta)
    (h1 : (x == ("__debug__" : Str)) = false := by decide) (h2 : starEach (e :: es) X.env = (false, eval e X.env) :: starEach es X.env := by rfl) (h3 : (backTo pos (starEach es X.env)).any (·.1) = false := by rfl) :
    PE X (.Call (.Name x p) (e :: es) [] pos) (tExI C sp dvs ta) := by
  constructor
  intro pins s σ H Q I asked
  obtain ⟨_, _, _, _, bm, _, _, _, _, _, _, _, _, _, _, cls, refs⟩ := T.cls
  apply wpAny_Call_Name_kw
  refine ld_glob I gl at_ ?_ h1
  apply PySem.W.callWith_K (h₀ := X.base) I.ok.mod.kin T.kC ?_ h2 h3
  apply thn (ha.run pos pins s σ H _ I asked)
  rintro us ⟨hp, g, dr, tk, os⟩ ⟨vs, H1, I1, rel, few, next⟩
  refine ⟨I1.kIn, ?_⟩
  show wpAny _ _ (call (.ref C) us) _ _ _
  have above : hp.objs.size ≤ hp.objs.size + 1 := Nat.le_succ _
  have q := next (hp.objs.size + 1) (I1.hok.fresh above)
  have made : ((hp.push (PySem.W.kdv_tup us)).push (PySem.HandSPX.excO C hp.objs.size)).get? (hp.objs.size + 1) = some (PySem.HandSPX.excO C hp.objs.size) := by heap_get
  have I2 := I1.laid (t' := tk) (fun b o z => Heap.get?_push_of_some _ (Heap.get?_push_of_some (PySem.W.kdv_tup us) z)) above (exo_ok (H := upd H1 (hp.objs.size + 1) (exo (hp.objs.size + 1) C none)) (P := X.prog) (w := X.w) made)
  have rel2 : Vals (V.ref (hp.objs.size + 1) :: (vs ++ dvs)) (Value.ref (hp.objs.size + 1) :: (us ++ ds)) := .cons rfl (rel.append dfl)
  have len : (Value.ref (hp.objs.size + 1) :: us ++ ds).length = ps.length := rel2.length.symm.trans (G.len _ _ _ _ q)
  have small : us.length ≤ sizeLine := by
    rw [sizeLine_eq, ← Paired.length rel]
    omega
  apply wpAny_call
  refine PySem.HandSPX.call_own PySem.F.excBase_ValueError (fun Y => PySem.HandSPX.refsVE_contains Y bm refs) (I1.kIn _ _ cls) (PySem.W.looks_findIn I1.kIn own) (fun self => PySem.W.bind_fn I1.kIn self isf) small ?_
  refine codeAny_mono (G.run _ X.stack _ _ ⟨Value.ref (hp.objs.size + 1) :: us, []⟩ _ _ _ (fun _ _ _ => False) (room.make C us []) (I2.env0.make C us []) (bnd _ (Value.ref (hp.objs.size + 1) :: us) I2.kIn len) rel2 q) ?_
  intro r s' z
  cases r with
  | error er => exact out pins σ _ _ er s' I2 z
  | ok fl =>
    cases fl with
    | brk => exact (show False from z).elim
    | cont => exact (show False from z).elim
    | next => exact (show False from z).elim
    | ret u =>
      obtain ⟨v, H', I3, rv, rfl, q3⟩ := I2.after z
      exact ⟨rv, V.ref (hp.objs.size + 1), H', I3, rfl, q3⟩
end
/-- at a an exception of the class at C stands, with its own dict or without -/
def ExAt (H : Hp) (a C : Addr) : Prop := H a = some (ExO (.ref C) a) ∨ ∃ (d : Addr) (fs : List (Str × V)), H a = some (exo a C (some d)) ∧ H d = some (exd d fs)
/-- .. with a field -/
def ExFld (H : Hp) (a C : Addr) (fs : List (Str × V)) : Prop := ∃ d : Addr, H a = some (exo a C (some d)) ∧ H d = some (exd d fs)
theorem ExFld.at {H : Hp} {a C : Addr} {fs : List (Str × V)} (h : ExFld H a C fs) : ExAt H a C := by
  obtain ⟨d, h1, h2⟩ := h
  exact .inr ⟨d, fs, h1, h2⟩
theorem ExFld.same {H H' : Hp} {a C : Addr} {fs : List (Str × V)} (h : ExFld H a C fs) (s : Same H H') : ExFld H' a C fs := by
  obtain ⟨d, h1, h2⟩ := h
  exact ⟨d, s _ _ h1, s _ _ h2⟩
theorem ExAt.same {H H' : Hp} {a C : Addr} (h : ExAt H a C) (s : Same H H') : ExAt H' a C := by
  rcases h with h | ⟨d, fs, h1, h2⟩
  · exact .inl (s _ _ h)
  · exact .inr ⟨d, fs, s _ _ h1, s _ _ h2⟩
/-- what the written part says of an exception class, for isinstance and fields -/
structure XC (K : PySem.W.Frag) (C : Addr) : Prop where
  cl : (PySem.W.clsIn K C).isSome = true
  ga : PySem.W.findIn K (.ref C) "__getattribute__" = some (some (.builtin "BaseException.__getattribute__"))
  gg : PySem.W.findIn K (.ref C) "__getattr__" = some none
  sb : PySem.W.subIn K (.ref C) (.type "BaseException") = some true
  ca : PySem.W.findIn K (.ref C) "__class__" = some (some (.builtin "object.__class__"))
  ob : PySem.W.mroIn K C (.type "object") = some true
  hd : PySem.W.hasDictIn K C = true
structure XB (K : PySem.W.Frag) : Prop where
  hn : PySem.W.specialIn K (.builtin "object.__class__") "__get__" = some (some (.builtin "getset_descriptor.__get__"))
  ht : PySem.W.takesIn K (.builtin "object.__class__") = some true
section
variable {X : Cx} {pins : List (Addr × Obj)} {σ : L2.St} {H : Hp} {s : Shared}
theorem ExAt.inst {a C : Addr} (I : Inv X pins σ H s) (h : ExAt H a C) : ∃ ox od, PySem.W.InstAt s.heap a ox C od := by
  rcases h with h | ⟨d, fs, h1, h2⟩
  · obtain ⟨⟨oe, vs, ho, hz, hd, _⟩, _, _⟩ := I.hok a _ h
    refine ⟨oe, none, ho, hz.1, ?_, ?_⟩
    · unfold PySem.W.notCls; rw [hd] <;> rfl
    · rw [hz.2] <;> trivial
  · obtain ⟨t1, ho⟩ := exo_at I.hok h1
    obtain ⟨mA, ⟨o, es, ep, e1, _⟩, _⟩ := exd_at I.hok h2
    exact ⟨_, some o, ho, rfl, rfl, e1⟩
def rIsX (K : PySem.W.Frag) : List V → Hp → VK → Prop := fun xs H Q => ∃ (a C : Addr) (c : V) (cv : Value) (b : Bool), xs = [.ref a, c] ∧ XC K C ∧ XB K ∧ ExAt H a C ∧ ClsV c cv ∧ PySem.W.kitOne K (.ref C) cv = some b ∧ Q (.bl b) H
theorem call_isX : CallR X (.builtin "isinstance") (rIsX X.K) := by
  intro pins s σ H xs us Q I r h
  obtain ⟨a, C, c, cv, b, rfl, T, B, hE, k, e, q⟩ := h
  obtain ⟨u1, u2, rfl, r1, r2⟩ := vals2 r
  have e2 := k.eq r2
  subst e2
  cases (show u1 = Value.ref a from r1)
  obtain ⟨ox, od, J⟩ := hE.inst I
  exact PySem.W.kia_one (PySem.W.kitx_exc T.cl T.ga T.gg T.sb T.ca B.hn B.ht T.ob) I.kIn J e (fun z => nomatch z) fun tk => ⟨.bl b, H, I.tok tk, rfl, q⟩
/-- e.f of an exception that is held -/
def tXat (K : PySem.W.Frag) (f : Str) (te : TE) : TE := fun σ H Q => te σ H fun x H1 => ∃ (a C : Addr) (fs : List (Str × V)) (v : V), x = .ref a ∧ XC K C ∧ PySem.W.findIn K (.ref C) f = some none ∧ ExFld H1 a C fs ∧ fs.lookup f = some v ∧ Q v H1
theorem pe_xat {e : Expr} {te : TE} {f : Str} {pos : Pos} (he : PE X e te) (hb : attributeBase e f X.env (eval e X.env) = eval e X.env := by rfl) : PE X (.Attribute e f pos) (tXat X.K f te) := by
  refine ⟨fun pins s σ H Q I h => ?_⟩
  refine attr_of hb (thn (he.run pins s σ H _ I h) fun u s1 hh => ?_)
  obtain ⟨x, H1, I1, rx, a, C, fs, v, ex, T, hno, ⟨d, h1, h2⟩, hl, q⟩ := hh
  subst ex
  obtain rfl : u = Value.ref a := rx
  obtain ⟨t1, ho⟩ := exo_at I1.hok h1
  obtain ⟨mA, hns, hr⟩ := exd_at I1.hok h2
  obtain ⟨od, hod, hlk⟩ := lookIn_ns hns
  obtain ⟨u, hu, ru⟩ := RelO.some_of (v := v) (o := mA f) (by rw [← hl]; exact hr f)
  have J : PySem.W.InstAt s1.heap a { cls := .ref C, dict := some d, data := .fields #[.ref t1, .none, .none, .none, .bool false, .none] } C (some od) := ⟨ho, rfl, rfl, hod⟩
  exact HandSPX.exc_get I1.kIn J T.ga T.gg T.sb (PySem.W.findObj_own T.hd hno rfl (by rw [hlk, hu])) (handed_of ru) ⟨v, H1, I1.tok _, ru, q⟩
end
end Fb
set_option maxRecDepth 100000
set_option maxHeartbeats 4000000
namespace Fb
open PySem PySem.Spec PyProof.Rows L2
/-! defs whose promise is asked only where no repr is under way -/
/-- no repr is under way -/
abbrev Q0 (A : Around) : Prop := A.guards = some []
structure FnG (P : Program) (w : World) (K : PySem.W.Frag) (mg : Str → Option Value) (base : Heap) (CX : CXT) (k : Nat) (f : Addr) (fd : FuncData) (ps : List Str) (sp : Sp) : Prop where
  many : ∀ {vs H Q E}, sp vs H Q E → vs.length = ps.length
  go : ∀ {A : Around} {outer : List Env} {s : Shared} {H : Hp} {args : Args} {us : List Value} {vs : List V} {Q : VK} {E : XK}, Q0 A → Room k A → Env0 P w K mg base A outer s H →
    BindsTo s fd args (ps.zip us) → Vals vs us → sp vs H Q E → codeAny (model P w) A (.call (.ref f) args) (CR CX outer P w H s Q E) s
section
variable {P : Program} {w : World} {K : PySem.W.Frag} {mg : Str → Option Value} {base : Heap} {CX : CXT} {k : Nat} {f : Addr} {fd : FuncData} {ps : List Str} {sp : Sp}
theorem FnG.of (F : FnOk P w K mg base CX k f fd ps sp) : FnG P w K mg base CX k f fd ps sp :=
  ⟨fun h => F.len _ _ _ _ h, fun _ hr he hb hv h => F.run _ _ _ _ _ _ _ _ _ hr he hb hv h⟩
theorem q0_deeper {A : Around} {env : Env} (h : Q0 A) : Q0 (A.deeper env) := by
  first
    | exact h
    | (obtain ⟨hd, d, fr, gs, u⟩ := A; simp_all [Around.deeper, pushGuards])
end
/-- the rule for a def, its body told where no repr is under way -/
theorem Fun.okG {P : Program} {w : World} {K : PySem.W.Frag} {mg : Str → Option Value} {base : Heap} {CX : CXT} {x qual : Str} {st : Stmt} {f : Addr} {fd : FuncData} {N ps : List Str} {k : Nat} {sp : Sp} (F : Fun K x qual st f fd) (S : FnScope N ps (defScope st))
    (len : ∀ {vs H Q E}, sp vs H Q E → vs.length = ps.length)
    (body : ∀ {cdv : Value} {A : Around} {outer : List Env} {s : Shared} {H : Hp} {vs : List V} {Q : VK} {E : XK}, Q0 (A.deeper (envOfC qual (defScope st) s.heap.objs.size f cdv)) → Room k (A.deeper (envOfC qual (defScope st) s.heap.objs.size f cdv)) → sp vs H Q E →
      ∃ t, PSs (cxOf CX P w K mg base N qual (defScope st) f cdv A outer s H E) (defBody st) t ∧ t { nx := fun _ H' => Q .non H', rt := Q } (start N vs) H) : FnG P w K mg base CX (k + 1) f fd ps sp := by
  obtain ⟨oc, od, kV, doc, pm, an, cdv, ct, osl, rfl, lk, hcd⟩ := F.ex
  refine ⟨len, ?_⟩
  intro A outer s H args us vs Q E hg room env bnd rel asked
  have stays : ∀ b o, base.get? b = some o → s.heap.get? b = some o := fun b o z => (env.bs b o z).1
  have kin : K.In s.heap := env.mod.kin.keeps stays
  have kinds : ∀ y ∈ ps.zip us, (defScope st).names.lookup y.1 = some .local ∨ ((defScope st).names.lookup y.1 = some .cell ∧ ((cellsFrom (s.heap.objs.size + 1) (defScope st).names []).lookup y.1).isSome = true) := by
    rintro ⟨n, v⟩ hy
    rcases S.par n (List.of_mem_zip hy).1 with z | z
    · exact Or.inl z
    · exact Or.inr ⟨z, PySem.W.cellsFrom_some _ _ _ (Or.inl z)⟩
  refine codeAny_call_function room.depth (kin _ _ lk) rfl S.co S.gen rfl (PySem.W.codeRec_of kin hcd) (bnd _ _ _ _ (wpAny_newFunctionEnv_cells S.kind kinds ?_))
  rintro _ rfl s1 born
  refine ⟨(env.mod.nolimit.keeps stays).keeps born.toInCall.keep, codeAny_func ?_⟩
  obtain ⟨t, ht, asked2⟩ := body (outer := outer) (s := s) (q0_deeper hg) (room.deeper _) asked
  have I := inv_start (CX := CX) (E := E) S room.hd env (len asked) rel born
  refine wpAny_mono (ht.run [] s1 _ H _ I asked2) ?_ (fun _ _ z => z)
  intro fl s' z
  cases fl with
  | brk =>
    obtain ⟨_, _, _, q⟩ := z
    exact (show False from q).elim
  | cont =>
    obtain ⟨_, _, _, q⟩ := z
    exact (show False from q).elim
  | next =>
    obtain ⟨σ', H', J, q⟩ := z
    exact ⟨.non, H', J.os, J.bare, J.base, J.hok, rfl, q⟩
  | ret u =>
    obtain ⟨v, σ', H', J, rv, q⟩ := z
    exact ⟨v, H', J.os, J.bare, J.base, J.hok, rv, q⟩
/-- .. that lets no exception out -/
theorem Fun.okG0 {P : Program} {w : World} {K : PySem.W.Frag} {mg : Str → Option Value} {base : Heap} {x qual : Str} {st : Stmt} {f : Addr} {fd : FuncData} {N ps : List Str} {k : Nat} {sp : Sp} (F : Fun K x qual st f fd) (S : FnScope N ps (defScope st))
    (len : ∀ {vs H Q E}, sp vs H Q E → vs.length = ps.length)
    (body : ∀ {cdv : Value} {A : Around} {outer : List Env} {s : Shared} {H : Hp} {vs : List V} {Q : VK} {E : XK}, Q0 (A.deeper (envOfC qual (defScope st) s.heap.objs.size f cdv)) → Room k (A.deeper (envOfC qual (defScope st) s.heap.objs.size f cdv)) → sp vs H Q E →
      ∃ t, PSs (cxOf CX0 P w K mg base N qual (defScope st) f cdv A outer s H E).nox (defBody st) t ∧ t { nx := fun _ H' => Q .non H', rt := Q } (start N vs) H) : FnG P w K mg base CX0 (k + 1) f fd ps sp :=
  Fun.okG F S len fun hg hr h => by
    obtain ⟨t, a, b⟩ := body hg hr h
    exact ⟨t, a.nox, b⟩
section
variable {X : Cx} {CX : CXT} {k : Nat} {f : Addr} {fd : FuncData} {ps : List Str} {sp : Sp} {dvs : List V} {ds : List Value} {E : XK} {x : Str} {p pos : Pos} {e : Expr} {es : List Expr} {t : TA}
/-- f(e, ..), no repr under way -/
theorem pe_callG (hq : Q0 X.A) (F : FnG X.prog X.w X.K X.mg X.base CX k f fd ps sp) (hr : Room k X.A) (hg : Gl X x) (hm : X.mg x = some (.ref f)) (hk : PySem.W.keepIn X.K (.ref f) = true) (hb : Binds X.K fd ps ds) (hd : Vals dvs ds) (hx : Passes CX X E)
    (ha : PA X (e :: es) t) (hdb : (x == ("__debug__" : Str)) = false := by decide) (he : starEach (e :: es) X.env = (false, eval e X.env) :: starEach es X.env := by rfl) (hpl : (backTo pos (starEach es X.env)).any (·.1) = false := by rfl) :
    PE X (.Call (.Name x p) (e :: es) [] pos) (tCall sp dvs E t) := by
  constructor
  intro pins s σ H Q I h
  apply wpAny_Call_Name_kw
  refine ld_glob I hg hm ?_ hdb
  apply PySem.W.callWith_K (h₀ := X.base) I.ok.mod.kin hk ?_ he hpl
  apply thn (ha.run pos pins s σ H _ I h)
  rintro us s1 ⟨vs, H1, I1, rel, asked⟩
  have rel2 : Vals (vs ++ dvs) (us ++ ds) := rel.append hd
  have hl : (us ++ ds).length = ps.length := rel2.length.symm.trans (F.many asked)
  refine ⟨I1.kIn, wpAny_call (codeAny_mono (F.go hq hr I1.env0 (hb s1 us I1.kIn hl) rel2 asked) ?_)⟩
  intro r s' z
  cases r with
  | error er => exact hx pins σ _ _ er s' I1 z
  | ok fl =>
    cases fl with
    | ret u => exact I1.after z
    | brk => exact (show False from z).elim
    | cont => exact (show False from z).elim
    | next => exact (show False from z).elim
end
/-! the law's own call -/
section
variable {P : Program} {w : World} {K : PySem.W.Frag} {mg mb : Str → Option Value} {CX : CXT} {k : Nat} {fa a : Addr} {fd : FuncData} {x : Str} {sp : Sp} {s₁ : Shared} {vs : List Value} {ns : List Int}
/-- what the law's def is asked from outside, H telling of nothing but the script -/
theorem law_core (kin : K.In s₁.heap) (hns : s₁.heap.Ns mainGlobals mg) (hb : s₁.heap.Ns builtinsNs mb) (hbb : ∀ x : Str, x ≠ "__name__" → mb x = bootBuiltins x) (hlim : s₁.heap.NoLimit) (hg : s₁.gens = #[])
    (ha : s₁.heap.get? a = some { cls := .type "list", data := .seq vs.toArray }) (room : Room k callerA)
    (F : ∀ base : Heap, K.In base → base.Ns mainGlobals mg → FnG P w K mg base CX k fa fd [x] sp) (bnd : ∀ (s : Shared) (u : Value), BindsTo s fd ⟨[u], []⟩ [(x, u)])
    (hCX : ∀ H e s', CX [] H s₁ (fun _ _ _ => False) e s' → False) {H : Hp} (only : Only H) (asked : sp [.ref a] H (fun v _ => v = .bl true) fun _ _ _ => False) (hok : HOk P w H s₁.heap)
    (hA : ∀ {b u}, H b = some u → b = a) (hK : ∀ {u}, H a = some u → K.lookup a = none) :
    codeAny (model P w) callerA (.call (.ref fa) ⟨[.ref a], []⟩) (fun r s' => r = .ok (.ret (.bool true)) ∧ OldK s₁.heap s'.heap ∧ s'.os = s₁.os ∧ AllBare s'.gens) s₁ := by
  have seen : ∀ {b : Addr} {o : Obj}, s₁.heap.get? b = some o → (∀ u, H b = some u → False) → (hidT s₁.heap H).get? b = some o := fun {b o} z n =>
    hidT_get z (by cases q : H b with | none => rfl | some u => exact (n u q).elim)
  have seenNs : ∀ {b : Addr} {m : Str → Option Value}, s₁.heap.Ns b m → (hidT s₁.heap H).Ns b m := by
    rintro b m ⟨o, es, ep, z, d, r⟩
    refine ⟨o, es, ep, seen z fun u q => ?_, d, r⟩
    have e := hA q
    subst e
    rw [ha] at z
    cases z
    exact nomatch d
  have kin2 : K.In (hidT s₁.heap H) := fun b o z => seen (kin b o z) fun u q => by
    have e := hA q
    subst e
    rw [hK q] at z
    cases z
  obtain ⟨mc, l1, l2⟩ := hlim
  have e0 : Env0 P w K mg (hidT s₁.heap H) callerA [] s₁ H := ⟨rfl, ⟨kin2, seenNs hns, ⟨mb, seenNs hb, hbb⟩, ⟨mc, seenNs l1, l2⟩⟩, fun b o z => of_hidT z, Nat.le_of_eq (hidT_size _ _), trivial, (fun b z => nomatch z), hok, .of_eq hg⟩
  refine codeAny_mono ((F _ kin2 (seenNs hns)).go (show Q0 callerA from rfl) room e0 (us := [.ref a]) (vs := [.ref a]) (bnd s₁ (.ref a)) (.cons rfl .nil) asked) ?_
  intro r s' z
  cases r with
  | error e => exact (hCX H e s' z).elim
  | ok fl =>
    cases fl with
    | brk => exact (show False from z).elim
    | cont => exact (show False from z).elim
    | next => exact (show False from z).elim
    | ret u =>
      obtain ⟨v, H', os, bare, un, hok', rv, rfl⟩ := z
      cases (show u = Value.bool true from rv)
      refine ⟨rfl, OldK.of_keep fun b o z => ?_, os, bare⟩
      rcases only b with n | ⟨ob, xs, n⟩
      · exact un.keep b o z n (fun q => nomatch q) (fun q => nomatch q)
      · obtain ⟨z1, _⟩ := hok b _ n
        obtain ⟨z2, _⟩ := hok' b _ (un.frzs b ob _ n)
        rw [z2, ← z1, z]
theorem law_callG (kin : K.In s₁.heap) (hns : s₁.heap.Ns mainGlobals mg) (hb : s₁.heap.Ns builtinsNs mb) (hbb : ∀ x : Str, x ≠ "__name__" → mb x = bootBuiltins x) (hlim : s₁.heap.NoLimit) (hg : s₁.gens = #[])
    (ha : s₁.heap.get? a = some { cls := .type "list", data := .seq vs.toArray }) (hi : IntsAre vs ns) (hl : ns.length ≤ sizeLine) (room : Room k callerA)
    (F : ∀ base : Heap, K.In base → base.Ns mainGlobals mg → FnG P w K mg base CX k fa fd [x] sp) (bnd : ∀ (s : Shared) (u : Value), BindsTo s fd ⟨[u], []⟩ [(x, u)])
    (hsp : ∀ H : Hp, Only H → SqL K H a (ns.map V.int) → sp [.ref a] H (fun v _ => v = .bl true) fun _ _ _ => False)
    (hCX : ∀ H e s', CX [] H s₁ (fun _ _ _ => False) e s' → False) :
    codeAny (model P w) callerA (.call (.ref fa) ⟨[.ref a], []⟩) (fun r s' => r = .ok (.ret (.bool true)) ∧ OldK s₁.heap s'.heap ∧ s'.os = s₁.os ∧ AllBare s'.gens) s₁ := by
  have rel : Vals (ns.map V.int) vs := vals_ints hi
  cases hk : K.lookup a with
  | some o =>
    have z := kin a o hk
    rw [ha] at z
    cases z
    have only : Only (fun _ => none) := fun _ => Or.inl rfl
    refine law_core kin hns hb hbb hlim hg ha room F bnd hCX only (hsp _ only (Or.inr ⟨_, vs.toArray, _, hk, rfl, rfl, rfl, ?_, ?_⟩)) ?_ ?_ ?_
    · rw [List.size_toArray, hi.length]
      exact hl
    · simpa using rel
    · exact fun b u z => nomatch z
    · exact fun z => nomatch z
    · exact fun z => nomatch z
  | none =>
    let H0 : Hp := fun b => if b = a then some (.frz { cls := .type "list", data := .seq vs.toArray } (.lst (ns.map V.int))) else none
    have at0 : H0 a = some (.frz { cls := .type "list", data := .seq vs.toArray } (.lst (ns.map V.int))) := if_pos rfl
    have off : ∀ {b u}, H0 b = some u → b = a := fun {b u} z => by
      by_cases e : b = a
      · exact e
      · have z2 : H0 b = none := if_neg e
        rw [z2] at z
        cases z
    have only : Only H0 := fun b => by
      by_cases e : b = a
      · rw [e]
        exact Or.inr ⟨_, _, at0⟩
      · exact Or.inl (if_neg e)
    refine law_core kin hns hb hbb hlim hg ha room F bnd hCX only (hsp _ only (Or.inl (Or.inr ⟨_, at0⟩))) (fun b u z => ?_) off (fun _ => hk)
    have e := off z
    subst e
    rw [at0] at z
    cases z
    exact ⟨ha, by rw [List.length_map]; exact hl, vs, _, rel, ha⟩
end
/-- the goal that k_head leaves, from the law's promise over FnG -/
theorem walk_ofG {l : PySem.W.OpenLaw} {n k : Nat} {q : Program} {loose : List Str} {XP : (Str → Option Value) → Heap → Prop} {YP : World → Heap → Prop} {d : DefRec} {K : Params → PySem.W.Frag} {CX : World → CXT} {sp : World → Sp} {x : Str}
    (hn : l.most = some n) (hn2 : n ≤ sizeLine) (hdf : d.params.defaults = []) (hr : Room k callerA) (hY : ∀ (w : World) (h : Heap), YP w h → (K w.params).In h)
    (F : ∀ (w : World) (mg : Str → Option Value) (fa : Addr) (h : Heap), (K w.params).In h → h.Ns mainGlobals mg → mg d.name = some (.ref fa) →
      ∃ fd : FuncData, (∀ (s : Shared) (u : Value), BindsTo s fd ⟨[u], []⟩ [(x, u)]) ∧ ∀ base : Heap, (K w.params).In base → base.Ns mainGlobals mg → FnG l.prog w (K w.params) mg base (CX w) k fa fd [x] (sp w))
    (hsp : ∀ (w : World) (H : Hp) (a : Addr) (ns : List Int), ns.length ≤ n → Only H → SqL (K w.params) H a (ns.map V.int) → sp w [.ref a] H (fun v _ => v = .bl true) fun _ _ _ => False)
    (hCX : ∀ (w : World) (H : Hp) (s : Shared) (e : Value) (s' : Shared), CX w [] H s (fun _ _ _ => False) e s' → False) : PySem.W.WalkO q loose XP YP l.row.toRowW d [] (fun f vs => PySem.call f vs) := by
  apply Att.attach_call hn hdf
  intro w s₀ s₁ mg mb fa o pm cd doc a vs ns G Y _ _ _ hmg hobj hints hlen hg
  obtain ⟨fd, bnd, hF⟩ := F w mg fa _ (hY w _ Y) G.T.g hmg
  exact law_callG (hY w _ Y) G.T.g G.T.b G.T.builtins G.T.nolimit hg hobj hints (Nat.le_trans hlen hn2) hr hF bnd (fun H only hS => hsp w H a ns hlen only hS) (fun H e s' => hCX w H s₁ e s')
/-! repr of data; how often a truth value stands in a list -/
section
variable {X : Cx}
def rRepr (K : PySem.W.Frag) : List V → Hp → VK → Prop := fun xs H Q => ∃ (x : V) (d : PyData), xs = [x] ∧ Dp K H x d ∧ d.showable = true ∧ d.hasDict = false ∧ d.depth ≤ 60 ∧ d.shown.length ≤ sizeLine ∧ Q (.str d.shown) H
theorem call_repr (hq : Q0 X.A) (hu : X.A.units + 64 < cLine) : CallR X (.builtin "repr") (rRepr X.K) := by
  intro pins s σ H xs us Q I r h
  obtain ⟨x, d, rfl, hd, hs, hnd, hdep, hsz, q⟩ := h
  obtain ⟨u, rfl, ru⟩ := vals1 r
  have done : ∀ (h' : Heap) (t tk : Tok), (∀ b o, s.heap.get? b = some o → h'.get? b = some o) → EP X pins σ Q (.str d.shown t) { s with heap := h', toks := tk } :=
    fun h' t tk k => ⟨.str d.shown, H, I.kept k, ⟨t, rfl⟩, q⟩
  cases hd with
  | non =>
    cases (show u = Value.none from ru)
    exact PySem.P.repr_of_none (done s.heap _ _ fun _ _ z => z)
  | bl b =>
    cases (show u = Value.bool b from ru)
    have e : PyData.shown (.bool b) = (if b then "True" else "False" : Str) := by simp only [PyData.shown]
    rw [e] at done
    exact PySem.P.repr_of_bool (by cases b <;> exact done s.heap _ _ fun _ _ z => z)
  | int i =>
    obtain ⟨t, rfl⟩ := (show ∃ t, u = Value.int i t from ru)
    have e : PyData.shown (.int i) = toString i := by simp only [PyData.shown]
    rw [e] at done
    exact PySem.P.repr_of_int (by simpa [PyData.showable] using hs) (done s.heap _ _ fun _ _ z => z)
  | str y =>
    obtain ⟨t, rfl⟩ := (show ∃ t, u = Value.str y t from ru)
    have e : PyData.shown (.str y) = reprText y := by simp only [PyData.shown]
    rw [e] at done hsz
    exact PySem.P.repr_of_str (done s.heap _ _ fun _ _ z => z) hsz
  | @lst a ys ds h1 h2 =>
    obtain ⟨as, rd⟩ := Dp.reads I (.list ds) _ u (.lst h1 h2) ru
    cases (show u = Value.ref a from ru)
    exact PySem.repr_of_reads' rd hs (PyData.noDict_hsm hnd) hq (by omega) (fun _ _ z => z) (fun h' t tk k => done h' t tk k) hsz
  | @tup a ys ds h1 h2 =>
    obtain ⟨as, rd⟩ := Dp.reads I (.tuple ds) _ u (.tup h1 h2) ru
    cases (show u = Value.ref a from ru)
    exact PySem.repr_of_reads' rd hs (PyData.noDict_hsm hnd) hq (by omega) (fun _ _ z => z) (fun h' t tk k => done h' t tk k) hsz
theorem dp_bools {K : PySem.W.Frag} {H : Hp} : ∀ bs : List Bool, DpAll K H (bs.map V.bl) (bs.map PyData.bool)
  | [] => .nil
  | b :: bs => .cons (.bl b) (dp_bools bs)
theorem countIn_bools (k : Bool) : ∀ bs : List Bool, countIn (.bool k) (bs.map PyData.bool) = ((bs.count k : Nat) : Int)
  | [] => by simp [countIn]
  | b :: bs => by
    rw [List.map_cons, countIn, countIn_bools k bs, List.count_cons]
    simp only [same]
    cases b <;> cases k <;> simp <;> omega
def rCntB (K : PySem.W.Frag) : V → List V → Hp → VK → Prop := fun x xs H Q => ∃ (p : Addr) (bs : List Bool) (k : Bool), x = .ref p ∧ xs = [.bl k] ∧ SqL K H p (bs.map V.bl) ∧ Q (.int (bs.count k : Nat)) H
theorem mt_lcountB : MtR X "list.count" (rCntB X.K) := by
  intro pins s σ H x xs v us Q I rx rxs h
  obtain ⟨p, bs, k, rfl, rfl, hs, q⟩ := h
  cases rx
  obtain ⟨u, rfl, ru⟩ := rxs.one
  cases (show u = Value.bool k from ru)
  obtain ⟨its, rv, ⟨ob, n, ho, hc, _, hdat⟩, _⟩ := I.list hs
  obtain ⟨as, rd⟩ := Dp.readsAll I _ _ its (dp_bools bs) rv
  have all : (bs.map PyData.bool).all Shape.bool.has = true := by
    rw [List.all_eq_true]
    intro d hd
    obtain ⟨b, _, rfl⟩ := List.mem_map.mp hd
    rfl
  refine count_list_bools (vs := its) ⟨ob, ho, hc, n, hdat⟩ rd all ?_
  rw [countIn_bools]
  exact ⟨.int (bs.count k : Nat), H, I.tok _, ⟨_, rfl⟩, q⟩
end
end Fb
set_option maxRecDepth 100000
set_option maxHeartbeats 4000000
namespace Fb
open PySem PySem.Spec PyProof.Rows L2
/-! the classes, by number -/
structure Cz where
  (c0 c1 c2 c3 c4 c5 c6 c7 c8 c9 c10 c11 c12 c13 c14 c15 c16 c17 c18 fe : Addr)
def Cz.l (z : Cz) : List Addr := [z.c0, z.c1, z.c2, z.c3, z.c4, z.c5, z.c6, z.c7, z.c8, z.c9, z.c10, z.c11, z.c12, z.c13, z.c14, z.c15, z.c16, z.c17, z.c18]
/-- the __init__s -/
structure Iz where
  (f0 f6 f7 f8 f10 f13 f15 f16 f17 : Addr)
  (d0 d6 d7 d8 d10 d13 d15 d16 d17 : FuncData)
abbrev bmX (fe : Addr) : List Value := [.ref fe, .type "ValueError", .type "Exception", .type "BaseException", .type "object"]
/-- what the written part says of an own error class under FallenError -/
structure XF (K : PySem.W.Frag) (mg : Str → Option Value) (fe : Addr) (x : Str) (C : Addr) : Prop where
  g : mg x = some (.ref C)
  ob : ∃ nm q N bs sn sub ab col dd k0 k1 k2 k3 k5, K.lookup C = some (excClassObj nm q C N bs (bmX fe) true sn sub ab col dd k0 k1 k2 k3 k5 "ValueError.__new__")
  kp : PySem.W.keepIn K (.ref C) = true
  ty : PySem.W.typeIn K (.ref C) = some (.type "type")
  sa : PySem.W.findIn K (.ref C) "__setattr__" = some (some (.builtin "object.__setattr__"))
  ga : PySem.W.findIn K (.ref C) "__getattribute__" = some (some (.builtin "BaseException.__getattribute__"))
  gg : PySem.W.findIn K (.ref C) "__getattr__" = some none
  ca : PySem.W.findIn K (.ref C) "__class__" = some (some (.builtin "object.__class__"))
section
variable {K : PySem.W.Frag} {mg : Str → Option Value} {fe C : Addr} {x : Str}
theorem XF.cls (T : XF K mg fe x C) : ∃ cd, PySem.W.clsIn K C = some cd ∧ cd.mro = .ref C :: bmX fe ∧ cd.hasDict = true := by
  obtain ⟨nm, q, N, bs, sn, sub, ab, col, dd, k0, k1, k2, k3, k5, h⟩ := T.ob
  exact ⟨{ name := nm, bases := bs, mro := .ref C :: bmX fe, ns := N, qualname := q, hasDict := true, slotNames := sn, subclasses := sub, abstract := ab, collection := col, hasDel := false }, by unfold PySem.W.clsIn; rw [h] <;> rfl, rfl, rfl⟩
theorem XF.mro (T : XF K mg fe x C) (b : Value) : PySem.W.mroIn K C b = some ((Value.ref C :: bmX fe).contains b) := by
  obtain ⟨cd, h1, h2, _⟩ := T.cls
  unfold PySem.W.mroIn
  rw [h1, Option.bind_some, h2] <;> rfl
theorem XF.xc (T : XF K mg fe x C) : XC K C := by
  obtain ⟨cd, h1, h2, h3⟩ := T.cls
  refine ⟨by rw [h1]; rfl, T.ga, T.gg, ?_, T.ca, ?_, by unfold PySem.W.hasDictIn; rw [h1] <;> exact h3⟩
  · show PySem.W.mroIn K C _ = _
    rw [T.mro] <;> simp
  · rw [T.mro] <;> simp
theorem XF.oc (T : XF K mg fe x C) : OexC K C := by
  obtain ⟨nm, q, N, bs, sn, sub, ab, col, dd, k0, k1, k2, k3, k5, h⟩ := T.ob
  exact ⟨⟨nm, q, N, bs, bmX fe, sn, sub, ab, col, dd, k0, k1, k2, k3, k5, h, by rfl⟩, T.sa, T.xc.sb, T.ty, T.kp⟩
/-- isinstance(e, D), e of the class at C, D at another address that is a class too -/
theorem XF.is {D : Addr} {y : Str} (T : XF K mg fe x C) (U : XF K mg fe y D) (hf : D ≠ fe) : PySem.W.kitOne K (.ref C) (.ref D) = some (decide (C = D)) := by
  unfold PySem.W.kitOne
  by_cases e : C = D
  · subst e
    simp
  · have e1 : (Value.ref C == Value.ref D) = false := beq_eq_false_iff_ne.mpr fun z => e (Value.ref.inj z)
    rw [e1, if_neg Bool.false_ne_true, decide_eq_false e]
    unfold PySem.W.kitCls
    have e2 : ((PySem.W.clsIn K D).isSome && PySem.W.typeIn K (.ref D) == some (.type "type")) = true := by
      rw [U.xc.cl, U.ty] <;> rfl
    show (if ((PySem.W.clsIn K D).isSome && PySem.W.typeIn K (.ref D) == some (.type "type")) = true then PySem.W.subIn K (.ref C) (.ref D) else none) = _
    rw [if_pos e2]
    show PySem.W.mroIn K C (.ref D) = _
    rw [T.mro]
    have e3 : (Value.ref D == Value.ref C) = false := beq_eq_false_iff_ne.mpr fun z => e (Value.ref.inj z).symm
    have e4 : (Value.ref D == Value.ref fe) = false := beq_eq_false_iff_ne.mpr fun z => hf (Value.ref.inj z)
    have e5 : ∀ T : String, (Value.ref D == Value.type T) = false := fun T => rfl
    simp [List.contains, List.elem, e3, e4, e5]
theorem XF.isF (T : XF K mg fe x C) (hc : (PySem.W.clsIn K fe).isSome = true) (ht : PySem.W.typeIn K (.ref fe) = some (.type "type")) : PySem.W.kitOne K (.ref C) (.ref fe) = some true := by
  unfold PySem.W.kitOne
  by_cases e : C = fe
  · subst e
    simp
  · have e1 : (Value.ref C == Value.ref fe) = false := beq_eq_false_iff_ne.mpr fun z => e (Value.ref.inj z)
    rw [e1, if_neg Bool.false_ne_true]
    have e2 : ((PySem.W.clsIn K fe).isSome && PySem.W.typeIn K (.ref fe) == some (.type "type")) = true := by
      rw [hc, ht] <;> rfl
    show (if ((PySem.W.clsIn K fe).isSome && PySem.W.typeIn K (.ref fe) == some (.type "type")) = true then PySem.W.subIn K (.ref C) (.ref fe) else none) = _
    rw [if_pos e2]
    show PySem.W.mroIn K C (.ref fe) = _
    rw [T.mro]
    simp
theorem XF.isV (T : XF K mg fe x C) : PySem.W.kitOne K (.ref C) (.type "ValueError") = some true := by
  unfold PySem.W.kitOne
  have e1 : (Value.ref C == Value.type "ValueError") = false := by rfl
  rw [e1, if_neg Bool.false_ne_true]
  show (if PySem.W.kitMeta "ValueError" = true then PySem.W.subIn K (.ref C) (.type "ValueError") else none) = _
  rw [if_pos (by decide +kernel)]
  show PySem.W.mroIn K C _ = _
  rw [T.mro]
  simp
end
abbrev s_i0 : Stmt := inClass (top 2) 0
abbrev s_i6 : Stmt := inClass (top 8) 0
abbrev s_i7 : Stmt := inClass (top 9) 0
abbrev s_i8 : Stmt := inClass (top 10) 0
abbrev s_i10 : Stmt := inClass (top 12) 0
abbrev s_i13 : Stmt := inClass (top 15) 0
abbrev s_i15 : Stmt := inClass (top 17) 0
abbrev s_i16 : Stmt := inClass (top 18) 0
abbrev s_i17 : Stmt := inClass (top 19) 0
structure Txt (K : PySem.W.Frag) (mg : Str → Option Value) (z : Cz) (w : Iz) : Prop where
  x0 : XF K mg z.fe "NoPattern" z.c0
  x1 : XF K mg z.fe "Unlike" z.c1
  x2 : XF K mg z.fe "NoBit" z.c2
  x3 : XF K mg z.fe "NoWrite" z.c3
  x4 : XF K mg z.fe "Rise" z.c4
  x5 : XF K mg z.fe "NotInBox" z.c5
  x6 : XF K mg z.fe "Cut" z.c6
  x7 : XF K mg z.fe "NoStore" z.c7
  x8 : XF K mg z.fe "NoDriver" z.c8
  x9 : XF K mg z.fe "NoState" z.c9
  x10 : XF K mg z.fe "NoEvent" z.c10
  x11 : XF K mg z.fe "NoOrder" z.c11
  x12 : XF K mg z.fe "TooMany" z.c12
  x13 : XF K mg z.fe "NoField" z.c13
  x14 : XF K mg z.fe "NoRoom" z.c14
  x15 : XF K mg z.fe "Stranded" z.c15
  x16 : XF K mg z.fe "Foreign" z.c16
  x17 : XF K mg z.fe "NoText" z.c17
  x18 : XF K mg z.fe "NoRow" z.c18
  e1 : PySem.W.excIn K z.c1 [.type "ValueError", .type "Exception", .type "BaseException", .type "object"] "ValueError.__new__" = true
  e2 : PySem.W.excIn K z.c2 [.type "ValueError", .type "Exception", .type "BaseException", .type "object"] "ValueError.__new__" = true
  e3 : PySem.W.excIn K z.c3 [.type "ValueError", .type "Exception", .type "BaseException", .type "object"] "ValueError.__new__" = true
  e4 : PySem.W.excIn K z.c4 [.type "ValueError", .type "Exception", .type "BaseException", .type "object"] "ValueError.__new__" = true
  e5 : PySem.W.excIn K z.c5 [.type "ValueError", .type "Exception", .type "BaseException", .type "object"] "ValueError.__new__" = true
  e9 : PySem.W.excIn K z.c9 [.type "ValueError", .type "Exception", .type "BaseException", .type "object"] "ValueError.__new__" = true
  e11 : PySem.W.excIn K z.c11 [.type "ValueError", .type "Exception", .type "BaseException", .type "object"] "ValueError.__new__" = true
  e12 : PySem.W.excIn K z.c12 [.type "ValueError", .type "Exception", .type "BaseException", .type "object"] "ValueError.__new__" = true
  e14 : PySem.W.excIn K z.c14 [.type "ValueError", .type "Exception", .type "BaseException", .type "object"] "ValueError.__new__" = true
  e18 : PySem.W.excIn K z.c18 [.type "ValueError", .type "Exception", .type "BaseException", .type "object"] "ValueError.__new__" = true
  i0 : PySem.W.findIn K (.ref z.c0) "__init__" = some (some (.ref w.f0))
  t0 : PySem.W.typeIn K (.ref w.f0) = some (.type "function")
  u0 : Fun K "__init__" "NoPattern.__init__" s_i0 w.f0 w.d0
  b0 : Binds K w.d0 ["self", "at"] []
  n0_at : PySem.W.findIn K (.ref z.c0) "at" = some none
  i6 : PySem.W.findIn K (.ref z.c6) "__init__" = some (some (.ref w.f6))
  t6 : PySem.W.typeIn K (.ref w.f6) = some (.type "function")
  u6 : Fun K "__init__" "Cut.__init__" s_i6 w.f6 w.d6
  b6 : Binds K w.d6 ["self", "found"] []
  n6_found : PySem.W.findIn K (.ref z.c6) "found" = some none
  i7 : PySem.W.findIn K (.ref z.c7) "__init__" = some (some (.ref w.f7))
  t7 : PySem.W.typeIn K (.ref w.f7) = some (.type "function")
  u7 : Fun K "__init__" "NoStore.__init__" s_i7 w.f7 w.d7
  b7 : Binds K w.d7 ["self", "part", "at"] []
  n7_part : PySem.W.findIn K (.ref z.c7) "part" = some none
  n7_at : PySem.W.findIn K (.ref z.c7) "at" = some none
  i8 : PySem.W.findIn K (.ref z.c8) "__init__" = some (some (.ref w.f8))
  t8 : PySem.W.typeIn K (.ref w.f8) = some (.type "function")
  u8 : Fun K "__init__" "NoDriver.__init__" s_i8 w.f8 w.d8
  b8 : Binds K w.d8 ["self", "at"] []
  n8_at : PySem.W.findIn K (.ref z.c8) "at" = some none
  i10 : PySem.W.findIn K (.ref z.c10) "__init__" = some (some (.ref w.f10))
  t10 : PySem.W.typeIn K (.ref w.f10) = some (.type "function")
  u10 : Fun K "__init__" "NoEvent.__init__" s_i10 w.f10 w.d10
  b10 : Binds K w.d10 ["self", "at"] []
  n10_at : PySem.W.findIn K (.ref z.c10) "at" = some none
  i13 : PySem.W.findIn K (.ref z.c13) "__init__" = some (some (.ref w.f13))
  t13 : PySem.W.typeIn K (.ref w.f13) = some (.type "function")
  u13 : Fun K "__init__" "NoField.__init__" s_i13 w.f13 w.d13
  b13 : Binds K w.d13 ["self", "part"] []
  n13_part : PySem.W.findIn K (.ref z.c13) "part" = some none
  i15 : PySem.W.findIn K (.ref z.c15) "__init__" = some (some (.ref w.f15))
  t15 : PySem.W.typeIn K (.ref w.f15) = some (.type "function")
  u15 : Fun K "__init__" "Stranded.__init__" s_i15 w.f15 w.d15
  b15 : Binds K w.d15 ["self", "found"] []
  n15_found : PySem.W.findIn K (.ref z.c15) "found" = some none
  i16 : PySem.W.findIn K (.ref z.c16) "__init__" = some (some (.ref w.f16))
  t16 : PySem.W.typeIn K (.ref w.f16) = some (.type "function")
  u16 : Fun K "__init__" "Foreign.__init__" s_i16 w.f16 w.d16
  b16 : Binds K w.d16 ["self", "found"] []
  n16_found : PySem.W.findIn K (.ref z.c16) "found" = some none
  i17 : PySem.W.findIn K (.ref z.c17) "__init__" = some (some (.ref w.f17))
  t17 : PySem.W.typeIn K (.ref w.f17) = some (.type "function")
  u17 : Fun K "__init__" "NoText.__init__" s_i17 w.f17 w.d17
  b17 : Binds K w.d17 ["self", "line"] []
  n17_line : PySem.W.findIn K (.ref z.c17) "line" = some none
  gF : mg "FallenError" = some (.ref z.fe)
  clF : (PySem.W.clsIn K z.fe).isSome = true
  tyF : PySem.W.typeIn K (.ref z.fe) = some (.type "type")
  xb : XB K
  nd : (z.fe :: z.l).Nodup
  n_len : mg "len" = none
  n_isinstance : mg "isinstance" = none
  n_repr : mg "repr" = none
  n_range : mg "range" = none
  n_ValueError : mg "ValueError" = none
/-! the __init__s -/
/-- one field -/
def spI1 (C : Addr) (f : Str) : Sp := fun vs H Q _ => ∃ (a : Addr) (v : V), vs = [.ref a, v] ∧ H a = some (exo a C none) ∧ ∀ d, H d = none → d ≠ a → Q .non (upd (upd H d (exd d [(f, v)])) a (exo a C (some d)))
def spI2 (C : Addr) (f g : Str) : Sp := fun vs H Q _ => ∃ (a : Addr) (v u : V), vs = [.ref a, v, u] ∧ H a = some (exo a C none) ∧ ∀ d H', H d = none → d ≠ a → Same H H' ∨ True → H' = upd (upd (upd H d (exd d [(f, v)])) a (exo a C (some d))) d (exd d [(g, u), (f, v)]) → Q .non H'
section
variable {P : Program} {wo : World} {K : PySem.W.Frag} {mg : Str → Option Value} {base : Heap} {z : Cz} {w : Iz}
theorem sc_i0 : FnScope ["self", "at"] ["self", "at"] (defScope s_i0) := ⟨rfl, rfl, rfl, by decide +kernel, rfl, by decide +kernel, by decide +kernel⟩
theorem ok_i0 (T : Txt K mg z w) : FnOk P wo K mg base CX0 1 w.f0 w.d0 ["self", "at"] (spI1 z.c0 "at") := by
  refine T.u0.ok sc_i0 (fun vs H Q E h => ?_) (fun cdv A outer s H vs Q E hr h => ?_)
  · obtain ⟨a, v, rfl, _⟩ := h
    rfl
  · obtain ⟨a, v, rfl, ha, k⟩ := h
    exact ⟨_, pss_one (ps_ost (pv 0) (pv 1)), _, rfl, _, rfl, a, z.c0, rfl, T.x0.oc, T.n0_at, .inl ⟨ha, fun d h1 h2 => k d h1 h2⟩⟩
theorem sc_i6 : FnScope ["self", "found"] ["self", "found"] (defScope s_i6) := ⟨rfl, rfl, rfl, by decide +kernel, rfl, by decide +kernel, by decide +kernel⟩
theorem ok_i6 (T : Txt K mg z w) : FnOk P wo K mg base CX0 1 w.f6 w.d6 ["self", "found"] (spI1 z.c6 "found") := by
  refine T.u6.ok sc_i6 (fun vs H Q E h => ?_) (fun cdv A outer s H vs Q E hr h => ?_)
  · obtain ⟨a, v, rfl, _⟩ := h
    rfl
  · obtain ⟨a, v, rfl, ha, k⟩ := h
    exact ⟨_, pss_one (ps_ost (pv 0) (pv 1)), _, rfl, _, rfl, a, z.c6, rfl, T.x6.oc, T.n6_found, .inl ⟨ha, fun d h1 h2 => k d h1 h2⟩⟩
theorem sc_i7 : FnScope ["self", "part", "at"] ["self", "part", "at"] (defScope s_i7) := ⟨rfl, rfl, rfl, by decide +kernel, rfl, by decide +kernel, by decide +kernel⟩
theorem ok_i7 (T : Txt K mg z w) : FnOk P wo K mg base CX0 1 w.f7 w.d7 ["self", "part", "at"] (spI2 z.c7 "part" "at") := by
  refine T.u7.ok sc_i7 (fun vs H Q E h => ?_) (fun cdv A outer s H vs Q E hr h => ?_)
  · obtain ⟨a, v, u, rfl, _⟩ := h
    rfl
  · obtain ⟨a, v, u, rfl, ha, k⟩ := h
    refine ⟨_, pss_cons (ps_ost (pv 0) (pv 1)) (pss_one (ps_ost (pv 0) (pv 2))), _, rfl, _, rfl, a, z.c7, rfl, T.x7.oc, T.n7_part, .inl ⟨ha, fun d h1 h2 => ?_⟩⟩
    refine ⟨_, rfl, _, rfl, a, z.c7, rfl, T.x7.oc, T.n7_at, .inr ⟨d, _, upd_same, by rw [upd_ne h2]; exact upd_same, (by show 1 ≤ 900; decide), ?_⟩⟩
    exact k d _ h1 h2 (.inr trivial) rfl
theorem sc_i8 : FnScope ["self", "at"] ["self", "at"] (defScope s_i8) := ⟨rfl, rfl, rfl, by decide +kernel, rfl, by decide +kernel, by decide +kernel⟩
theorem ok_i8 (T : Txt K mg z w) : FnOk P wo K mg base CX0 1 w.f8 w.d8 ["self", "at"] (spI1 z.c8 "at") := by
  refine T.u8.ok sc_i8 (fun vs H Q E h => ?_) (fun cdv A outer s H vs Q E hr h => ?_)
  · obtain ⟨a, v, rfl, _⟩ := h
    rfl
  · obtain ⟨a, v, rfl, ha, k⟩ := h
    exact ⟨_, pss_one (ps_ost (pv 0) (pv 1)), _, rfl, _, rfl, a, z.c8, rfl, T.x8.oc, T.n8_at, .inl ⟨ha, fun d h1 h2 => k d h1 h2⟩⟩
theorem sc_i10 : FnScope ["self", "at"] ["self", "at"] (defScope s_i10) := ⟨rfl, rfl, rfl, by decide +kernel, rfl, by decide +kernel, by decide +kernel⟩
theorem ok_i10 (T : Txt K mg z w) : FnOk P wo K mg base CX0 1 w.f10 w.d10 ["self", "at"] (spI1 z.c10 "at") := by
  refine T.u10.ok sc_i10 (fun vs H Q E h => ?_) (fun cdv A outer s H vs Q E hr h => ?_)
  · obtain ⟨a, v, rfl, _⟩ := h
    rfl
  · obtain ⟨a, v, rfl, ha, k⟩ := h
    exact ⟨_, pss_one (ps_ost (pv 0) (pv 1)), _, rfl, _, rfl, a, z.c10, rfl, T.x10.oc, T.n10_at, .inl ⟨ha, fun d h1 h2 => k d h1 h2⟩⟩
theorem sc_i13 : FnScope ["self", "part"] ["self", "part"] (defScope s_i13) := ⟨rfl, rfl, rfl, by decide +kernel, rfl, by decide +kernel, by decide +kernel⟩
theorem ok_i13 (T : Txt K mg z w) : FnOk P wo K mg base CX0 1 w.f13 w.d13 ["self", "part"] (spI1 z.c13 "part") := by
  refine T.u13.ok sc_i13 (fun vs H Q E h => ?_) (fun cdv A outer s H vs Q E hr h => ?_)
  · obtain ⟨a, v, rfl, _⟩ := h
    rfl
  · obtain ⟨a, v, rfl, ha, k⟩ := h
    exact ⟨_, pss_one (ps_ost (pv 0) (pv 1)), _, rfl, _, rfl, a, z.c13, rfl, T.x13.oc, T.n13_part, .inl ⟨ha, fun d h1 h2 => k d h1 h2⟩⟩
theorem sc_i15 : FnScope ["self", "found"] ["self", "found"] (defScope s_i15) := ⟨rfl, rfl, rfl, by decide +kernel, rfl, by decide +kernel, by decide +kernel⟩
theorem ok_i15 (T : Txt K mg z w) : FnOk P wo K mg base CX0 1 w.f15 w.d15 ["self", "found"] (spI1 z.c15 "found") := by
  refine T.u15.ok sc_i15 (fun vs H Q E h => ?_) (fun cdv A outer s H vs Q E hr h => ?_)
  · obtain ⟨a, v, rfl, _⟩ := h
    rfl
  · obtain ⟨a, v, rfl, ha, k⟩ := h
    exact ⟨_, pss_one (ps_ost (pv 0) (pv 1)), _, rfl, _, rfl, a, z.c15, rfl, T.x15.oc, T.n15_found, .inl ⟨ha, fun d h1 h2 => k d h1 h2⟩⟩
theorem sc_i16 : FnScope ["self", "found"] ["self", "found"] (defScope s_i16) := ⟨rfl, rfl, rfl, by decide +kernel, rfl, by decide +kernel, by decide +kernel⟩
theorem ok_i16 (T : Txt K mg z w) : FnOk P wo K mg base CX0 1 w.f16 w.d16 ["self", "found"] (spI1 z.c16 "found") := by
  refine T.u16.ok sc_i16 (fun vs H Q E h => ?_) (fun cdv A outer s H vs Q E hr h => ?_)
  · obtain ⟨a, v, rfl, _⟩ := h
    rfl
  · obtain ⟨a, v, rfl, ha, k⟩ := h
    exact ⟨_, pss_one (ps_ost (pv 0) (pv 1)), _, rfl, _, rfl, a, z.c16, rfl, T.x16.oc, T.n16_found, .inl ⟨ha, fun d h1 h2 => k d h1 h2⟩⟩
theorem sc_i17 : FnScope ["self", "line"] ["self", "line"] (defScope s_i17) := ⟨rfl, rfl, rfl, by decide +kernel, rfl, by decide +kernel, by decide +kernel⟩
theorem ok_i17 (T : Txt K mg z w) : FnOk P wo K mg base CX0 1 w.f17 w.d17 ["self", "line"] (spI1 z.c17 "line") := by
  refine T.u17.ok sc_i17 (fun vs H Q E h => ?_) (fun cdv A outer s H vs Q E hr h => ?_)
  · obtain ⟨a, v, rfl, _⟩ := h
    rfl
  · obtain ⟨a, v, rfl, ha, k⟩ := h
    exact ⟨_, pss_one (ps_ost (pv 0) (pv 1)), _, rfl, _, rfl, a, z.c17, rfl, T.x17.oc, T.n17_line, .inl ⟨ha, fun d h1 h2 => k d h1 h2⟩⟩
end
/-! a reading opened from outside -/
theorem q_seq {t1 t2 : TS} {D : Ends} {σ : L2.St} {H : Hp} (h : t1 { D with nx := t2 D } σ H) : tSeq t1 t2 D σ H := h
theorem q_asg {te : TE} {g : TG} {D : Ends} {σ : L2.St} {H : Hp} (h : te σ H fun v H1 => g v σ H1 D.nx) : tAsg te g D σ H := h
theorem q_lst {ta : TA} {σ : L2.St} {H : Hp} {Q : VK} (h : ta σ H fun vs H1 => vs.length ≤ sizeLine ∧ ∀ p, H1 p = none → Q (.ref p) (upd H1 p (.lst vs))) : tLst ta σ H Q := h
/-! exceptions as they are made in a row -/
def ExW (H : Hp) (a C : Addr) (fs : List (Str × V)) : Prop := ExAt H a C ∧ (fs ≠ [] → ExFld H a C fs)
theorem ExW.same {H H' : Hp} {a C : Addr} {fs : List (Str × V)} (h : ExW H a C fs) (s : Same H H') : ExW H' a C fs := ⟨h.1.same s, fun n => (h.2 n).same s⟩
/-- evaluates to a new exception of C with these fields; what was tracked stays -/
def Mk1 (te : TE) (σ : L2.St) (C : Addr) (fs : List (Str × V)) : Prop := ∀ (H : Hp) (Q : VK), (∀ a H', Same H H' → ExW H' a C fs → Q (.ref a) H') → te σ H Q
def MkL (ta : TA) (σ : L2.St) (ss : List (Addr × List (Str × V))) : Prop := ∀ (H : Hp) (Q : List V → Hp → Prop),
  (∀ (as : List Addr) H', Same H H' → Paired (fun a s => ExW H' a s.1 s.2) as ss → Q (as.map V.ref) H') → ta σ H Q
theorem paired_same {H H' : Hp} (s : Same H H') {as : List Addr} {ss : List (Addr × List (Str × V))} (h : Paired (fun a s => ExW H a s.1 s.2) as ss) : Paired (fun a s => ExW H' a s.1 s.2) as ss :=
  Paired.mapP h fun _ _ z => z.same s
theorem paired_app {α β : Type} {R : α → β → Prop} : ∀ {a b : List α} {c d : List β}, Paired R a c → Paired R b d → Paired R (a ++ b) (c ++ d)
  | _, _, _, _, .nil, h => h
  | _, _, _, _, .cons r t, h => .cons r (paired_app t h)
theorem paired_at {α β : Type} {R : α → β → Prop} : ∀ {a : List α} {c : List β} {i : Nat} {y : β}, Paired R a c → c[i]? = some y → ∃ x, a[i]? = some x ∧ R x y
  | _, _, _, _, .nil, e => by simp at e
  | _, _, 0, _, .cons r _, e => by simp at e; subst e; exact ⟨_, rfl, r⟩
  | _, _, i + 1, _, .cons _ t, e => by
    obtain ⟨x, h1, h2⟩ := paired_at (i := i) t (by simpa using e)
    exact ⟨x, by simpa using h1, h2⟩
theorem paired_len {α β : Type} {R : α → β → Prop} : ∀ {a : List α} {c : List β}, Paired R a c → a.length = c.length
  | _, _, .nil => rfl
  | _, _, .cons _ t => by rw [List.length_cons, List.length_cons, paired_len t]
section
variable {σ : L2.St} {C : Addr} {te : TE} {ta : TA} {fs : List (Str × V)} {ss : List (Addr × List (Str × V))} {v u x : V} {i j : Nat} {f g : Str}
theorem mkl_nil : MkL tNil σ [] := fun H Q k => k [] H (Same.refl H) .nil
theorem mkl_cons (h1 : Mk1 te σ C fs) (h2 : MkL ta σ ss) : MkL (tCons te ta) σ ((C, fs) :: ss) := fun H Q k =>
  h1 H _ fun a H1 s1 e1 => h2 H1 _ fun as H2 s2 e2 => k (a :: as) H2 (s1.trans s2) (.cons (e1.same s2) e2)
theorem mk0 : Mk1 (fun σ H Q => tC x σ H fun _ H1 => ∀ a, H1 a = none → Q (.ref a) (upd H1 a (ExO (.ref C) a))) σ C [] := fun H Q k =>
  fun a ha => k a _ (smN (Same.refl H) ha) ⟨.inl upd_same, fun n => (n rfl).elim⟩
theorem mk1 (h : σ[i]? = some (some v)) : Mk1 (tExI C (spI1 C f) [] (tCons (tVar i) tNil)) σ C [(f, v)] := fun H Q k => by
  refine ⟨v, h, (by show 1 ≤ 1000; decide), fun a ha => ⟨a, v, rfl, upd_same, fun d h1 h2 => ⟨rfl, ?_⟩⟩⟩
  have hd : H d = none := by rw [upd_ne h2] at h1; exact h1
  have q : ExFld (upd (upd (upd H a (exo a C none)) d (exd d [(f, v)])) a (exo a C (some d))) a C [(f, v)] := ⟨d, upd_same, by rw [upd_ne h2]; exact upd_same⟩
  refine k a _ ?_ ⟨q.at, fun _ => q⟩
  intro b o e
  rw [upd_ne (ne_of_none e ha), upd_ne (ne_of_none e hd), upd_ne (ne_of_none e ha)]
  exact e
theorem mk2 (h : σ[i]? = some (some v)) (h' : σ[j]? = some (some u)) : Mk1 (tExI C (spI2 C f g) [] (tCons (tVar i) (tCons (tVar j) tNil))) σ C [(g, u), (f, v)] := fun H Q k => by
  refine ⟨v, h, u, h', (by show 2 ≤ 1000; decide), fun a ha => ⟨a, v, u, rfl, upd_same, fun d H' h1 h2 _ eH => ⟨rfl, ?_⟩⟩⟩
  subst eH
  have hd : H d = none := by rw [upd_ne h2] at h1; exact h1
  have q : ExFld (upd (upd (upd (upd H a (exo a C none)) d (exd d [(f, v)])) a (exo a C (some d))) d (exd d [(g, u), (f, v)])) a C [(g, u), (f, v)] := ⟨d, by rw [upd_ne h2.symm]; exact upd_same, upd_same⟩
  refine k a _ ?_ ⟨q.at, fun _ => q⟩
  intro b o e
  rw [upd_ne (ne_of_none e hd), upd_ne (ne_of_none e ha), upd_ne (ne_of_none e hd), upd_ne (ne_of_none e ha)]
  exact e
end
/-- all nineteen, with their fields -/
def specs (z : Cz) (v u : V) : List (Addr × List (Str × V)) := [(z.c0, [("at", v)]), (z.c1, []), (z.c2, []), (z.c3, []), (z.c4, []), (z.c5, []), (z.c6, [("found", v)]), (z.c7, [("at", u), ("part", v)]), (z.c8, [("at", v)]), (z.c9, []), (z.c10, [("at", v)]), (z.c11, []), (z.c12, []), (z.c13, [("part", v)]), (z.c14, []), (z.c15, [("found", v)]), (z.c16, [("found", v)]), (z.c17, [("line", v)]), (z.c18, [])]
def spMade (z : Cz) : Sp := fun vs H Q _ => ∃ v u : V, vs = [v, u] ∧ ∀ (p : Addr) (as : List Addr) (H' : Hp), Same H H' → H' p = some (.lst (as.map V.ref)) → Paired (fun a s => ExW H' a s.1 s.2) as (specs z v u) → Q (.ref p) H'
abbrev s_Lmade : Stmt := top 25
theorem sc_Lmade : FnScope ["_law_one", "_law_two", "_law_plain"] ["_law_one", "_law_two"] (defScope s_Lmade) := ⟨rfl, rfl, rfl, by decide +kernel, rfl, by decide +kernel, by decide +kernel⟩
section
variable {P : Program} {wo : World} {K : PySem.W.Frag} {mg : Str → Option Value} {base : Heap} {z : Cz} {w : Iz}
theorem ok_made {f : Addr} {fd : FuncData} (F : Fun K "_law_made" "_law_made" s_Lmade f fd) (T : Txt K mg z w) : FnOk P wo K mg base CX0 3 f fd ["_law_one", "_law_two"] (spMade z) := by
  refine F.ok sc_Lmade (fun vs H Q E h => ?_) (fun cdv A outer s H vs Q E hr h => ?_)
  · obtain ⟨v, u, rfl, _⟩ := h
    rfl
  · obtain ⟨v, u, rfl, k⟩ := h
    have hr1 : Room (1 + 1) _ := hr
    refine ⟨_, (pss_cons (ps_set (i := 2) sc_Lmade.nd rfl (Or.inl rfl) (pe_lst (pa_cons (pe_exI T.x0.oc T.i0 T.t0 (ok_i0 T) hr1 T.b0 .nil pass0 rfl T.x0.g (pa_cons (pv 0) pa_nil)) (pa_cons (pe_exc1 PySem.F.excBase_ValueError T.e1 T.x1.g T.x1.kp rfl pe_str) (pa_cons (pe_exc1 PySem.F.excBase_ValueError T.e2 T.x2.g T.x2.kp rfl pe_str) (pa_cons (pe_exc1 PySem.F.excBase_ValueError T.e3 T.x3.g T.x3.kp rfl pe_str) (pa_cons (pe_exc1 PySem.F.excBase_ValueError T.e4 T.x4.g T.x4.kp rfl pe_str) (pa_cons (pe_exc1 PySem.F.excBase_ValueError T.e5 T.x5.g T.x5.kp rfl pe_str) (pa_cons (pe_exI T.x6.oc T.i6 T.t6 (ok_i6 T) hr1 T.b6 .nil pass0 rfl T.x6.g (pa_cons (pv 0) pa_nil)) pa_nil)))))))))
      (pss_cons (ps_set (i := 2) sc_Lmade.nd rfl (Or.inl rfl) (pe_op op_cat (pv 2) (pe_lst (pa_cons (pe_exI T.x7.oc T.i7 T.t7 (ok_i7 T) hr1 T.b7 .nil pass0 rfl T.x7.g (pa_cons (pv 0) (pa_cons (pv 1) pa_nil))) (pa_cons (pe_exI T.x8.oc T.i8 T.t8 (ok_i8 T) hr1 T.b8 .nil pass0 rfl T.x8.g (pa_cons (pv 0) pa_nil)) (pa_cons (pe_exc1 PySem.F.excBase_ValueError T.e9 T.x9.g T.x9.kp rfl pe_str) (pa_cons (pe_exI T.x10.oc T.i10 T.t10 (ok_i10 T) hr1 T.b10 .nil pass0 rfl T.x10.g (pa_cons (pv 0) pa_nil)) (pa_cons (pe_exc1 PySem.F.excBase_ValueError T.e11 T.x11.g T.x11.kp rfl pe_str) (pa_cons (pe_exc1 PySem.F.excBase_ValueError T.e12 T.x12.g T.x12.kp rfl pe_str) pa_nil)))))))))
      (pss_one (ps_ret (pe_op op_cat (pv 2) (pe_lst (pa_cons (pe_exI T.x13.oc T.i13 T.t13 (ok_i13 T) hr1 T.b13 .nil pass0 rfl T.x13.g (pa_cons (pv 0) pa_nil)) (pa_cons (pe_exc1 PySem.F.excBase_ValueError T.e14 T.x14.g T.x14.kp rfl pe_str) (pa_cons (pe_exI T.x15.oc T.i15 T.t15 (ok_i15 T) hr1 T.b15 .nil pass0 rfl T.x15.g (pa_cons (pv 0) pa_nil)) (pa_cons (pe_exI T.x16.oc T.i16 T.t16 (ok_i16 T) hr1 T.b16 .nil pass0 rfl T.x16.g (pa_cons (pv 0) pa_nil)) (pa_cons (pe_exI T.x17.oc T.i17 T.t17 (ok_i17 T) hr1 T.b17 .nil pass0 rfl T.x17.g (pa_cons (pv 0) pa_nil)) (pa_cons (pe_exc1 PySem.F.excBase_ValueError T.e18 T.x18.g T.x18.kp rfl pe_str) pa_nil)))))))))))), ?_⟩
    refine q_seq (q_asg (q_lst ((mkl_cons (mk1 (σ := [some v, some u, none]) (i := 0) (v := v) rfl) (mkl_cons mk0 (mkl_cons mk0 (mkl_cons mk0 (mkl_cons mk0 (mkl_cons mk0 (mkl_cons (mk1 (σ := [some v, some u, none]) (i := 0) (v := v) rfl) mkl_nil))))))) H _ fun as H1 s1 p1 => ?_)))
    refine ⟨by rw [List.length_map, paired_len p1, sizeLine_eq]; simp, fun q1 hq1 => ?_⟩
    have s1' := smN (o := .lst (as.map V.ref)) s1 hq1
    have p1' := paired_same (smN (o := .lst (as.map V.ref)) (Same.refl _) hq1) p1
    refine ⟨_, rfl, ?_⟩
    refine q_lst ((mkl_cons (mk2 (σ := [some v, some u, some (.ref q1)]) (i := 0) (j := 1) (v := v) (u := u) rfl rfl) (mkl_cons (mk1 (σ := [some v, some u, some (.ref q1)]) (i := 0) (v := v) rfl) (mkl_cons mk0 (mkl_cons (mk1 (σ := [some v, some u, some (.ref q1)]) (i := 0) (v := v) rfl) (mkl_cons mk0 (mkl_cons mk0 mkl_nil)))))) _ _ fun bs H2 s2 p2 => ?_)
    refine ⟨by rw [List.length_map, paired_len p2, sizeLine_eq]; simp, fun q2 hq2 => ?_⟩
    have t2 := smN (o := .lst (bs.map V.ref)) (Same.refl _) hq2
    have l1 : (upd H2 q2 (.lst (bs.map V.ref))) q1 = some (.lst (as.map V.ref)) := t2 _ _ (s2 _ _ upd_same)
    refine ⟨q1, q2, _, _, rfl, rfl, l1, upd_same, by rw [List.length_map, List.length_map, paired_len p1, paired_len p2, sizeLine_eq]; simp, fun q3 hq3 => ?_⟩
    have t3 := smN (o := .lst (as.map V.ref ++ bs.map V.ref)) (Same.refl _) hq3
    refine ⟨_, rfl, ?_⟩
    refine q_lst ((mkl_cons (mk1 (σ := [some v, some u, some (.ref q3)]) (i := 0) (v := v) rfl) (mkl_cons mk0 (mkl_cons (mk1 (σ := [some v, some u, some (.ref q3)]) (i := 0) (v := v) rfl) (mkl_cons (mk1 (σ := [some v, some u, some (.ref q3)]) (i := 0) (v := v) rfl) (mkl_cons (mk1 (σ := [some v, some u, some (.ref q3)]) (i := 0) (v := v) rfl) (mkl_cons mk0 mkl_nil)))))) _ _ fun cs H3 s3 p3 => ?_)
    refine ⟨by rw [List.length_map, paired_len p3, sizeLine_eq]; simp, fun q4 hq4 => ?_⟩
    have t4 := smN (o := .lst (cs.map V.ref)) (Same.refl _) hq4
    have l3 : (upd H3 q4 (.lst (cs.map V.ref))) q3 = some (.lst (as.map V.ref ++ bs.map V.ref)) := t4 _ _ (s3 _ _ upd_same)
    refine ⟨q3, q4, _, _, rfl, rfl, l3, upd_same, by rw [List.length_append, List.length_map, List.length_map, List.length_map, paired_len p1, paired_len p2, paired_len p3, sizeLine_eq]; simp, fun q5 hq5 => ?_⟩
    have t5 := smN (o := .lst (as.map V.ref ++ bs.map V.ref ++ cs.map V.ref)) (Same.refl _) hq5
    have a2 := ((s2.trans t2).trans t3)
    have a3 := (s3.trans t4).trans t5
    refine k q5 (as ++ bs ++ cs) _ ((s1'.trans a2).trans a3) (by rw [List.map_append, List.map_append]; exact upd_same) ?_
    exact paired_app (paired_app (paired_same (a2.trans a3) p1') (paired_same ((t2.trans t3).trans a3) p2)) (paired_same (t4.trans t5) p3)
end
end Fb
set_option maxRecDepth 100000
set_option maxHeartbeats 4000000
namespace Fb
open PySem PySem.Spec PyProof.Rows L2
/-- answers, one by one, that change nothing -/
def BlL (ta : TA) (σ : L2.St) (H : Hp) (bs : List Bool) : Prop := ∀ (H1 : Hp) (Q : List V → Hp → Prop), Same H H1 → Q (bs.map V.bl) H1 → ta σ H1 Q
theorem bl_nil {σ : L2.St} {H : Hp} : BlL tNil σ H [] := fun H1 Q _ q => q
theorem bl_is {K : PySem.W.Frag} {mg : Str → Option Value} {fe C D : Addr} {x y : Str} {ta : TA} {σ : L2.St} {H : Hp} {bs : List Bool} {a : Addr} {i : Nat} (h : σ[i]? = some (some (.ref a))) (T : XF K mg fe x C) (B : XB K) (U : XF K mg fe y D) (n : D ≠ fe) (e : ExAt H a C) (r : BlL ta σ H bs) :
    BlL (tCons (tCB (rIsX K) (tCons (tVar i) (tCons (tC (.ref D)) tNil))) ta) σ H (decide (C = D) :: bs) := fun H1 Q s q =>
  ⟨_, h, a, C, .ref D, .ref D, _, rfl, T.xc, B, e.same s, .own D, T.is U n, r H1 _ s q⟩
def spKinds (K : PySem.W.Frag) (mg : Str → Option Value) (z : Cz) : Sp := fun vs H Q _ => ∃ (a C : Addr) (x : Str), vs = [.ref a] ∧ XF K mg z.fe x C ∧ ExAt H a C ∧
  ∀ (p : Addr) (H' : Hp), Same H H' → H' p = some (.lst ((z.l.map fun D => decide (C = D)).map V.bl)) → Q (.ref p) H'
abbrev s_Lkinds : Stmt := top 24
theorem sc_Lkinds : FnScope ["_law_error", "_law_found"] ["_law_error"] (defScope s_Lkinds) := ⟨rfl, rfl, rfl, by decide +kernel, rfl, by decide +kernel, by decide +kernel⟩
section
variable {P : Program} {wo : World} {K : PySem.W.Frag} {mg : Str → Option Value} {base : Heap} {z : Cz} {w : Iz}
theorem Txt.ne0 (T : Txt K mg z w) : z.c0 ≠ z.fe := fun e => by have h := T.nd; simp [Cz.l, e] at h
theorem Txt.ne1 (T : Txt K mg z w) : z.c1 ≠ z.fe := fun e => by have h := T.nd; simp [Cz.l, e] at h
theorem Txt.ne2 (T : Txt K mg z w) : z.c2 ≠ z.fe := fun e => by have h := T.nd; simp [Cz.l, e] at h
theorem Txt.ne3 (T : Txt K mg z w) : z.c3 ≠ z.fe := fun e => by have h := T.nd; simp [Cz.l, e] at h
theorem Txt.ne4 (T : Txt K mg z w) : z.c4 ≠ z.fe := fun e => by have h := T.nd; simp [Cz.l, e] at h
theorem Txt.ne5 (T : Txt K mg z w) : z.c5 ≠ z.fe := fun e => by have h := T.nd; simp [Cz.l, e] at h
theorem Txt.ne6 (T : Txt K mg z w) : z.c6 ≠ z.fe := fun e => by have h := T.nd; simp [Cz.l, e] at h
theorem Txt.ne7 (T : Txt K mg z w) : z.c7 ≠ z.fe := fun e => by have h := T.nd; simp [Cz.l, e] at h
theorem Txt.ne8 (T : Txt K mg z w) : z.c8 ≠ z.fe := fun e => by have h := T.nd; simp [Cz.l, e] at h
theorem Txt.ne9 (T : Txt K mg z w) : z.c9 ≠ z.fe := fun e => by have h := T.nd; simp [Cz.l, e] at h
theorem Txt.ne10 (T : Txt K mg z w) : z.c10 ≠ z.fe := fun e => by have h := T.nd; simp [Cz.l, e] at h
theorem Txt.ne11 (T : Txt K mg z w) : z.c11 ≠ z.fe := fun e => by have h := T.nd; simp [Cz.l, e] at h
theorem Txt.ne12 (T : Txt K mg z w) : z.c12 ≠ z.fe := fun e => by have h := T.nd; simp [Cz.l, e] at h
theorem Txt.ne13 (T : Txt K mg z w) : z.c13 ≠ z.fe := fun e => by have h := T.nd; simp [Cz.l, e] at h
theorem Txt.ne14 (T : Txt K mg z w) : z.c14 ≠ z.fe := fun e => by have h := T.nd; simp [Cz.l, e] at h
theorem Txt.ne15 (T : Txt K mg z w) : z.c15 ≠ z.fe := fun e => by have h := T.nd; simp [Cz.l, e] at h
theorem Txt.ne16 (T : Txt K mg z w) : z.c16 ≠ z.fe := fun e => by have h := T.nd; simp [Cz.l, e] at h
theorem Txt.ne17 (T : Txt K mg z w) : z.c17 ≠ z.fe := fun e => by have h := T.nd; simp [Cz.l, e] at h
theorem Txt.ne18 (T : Txt K mg z w) : z.c18 ≠ z.fe := fun e => by have h := T.nd; simp [Cz.l, e] at h
theorem ok_kinds {f : Addr} {fd : FuncData} (F : Fun K "_law_kinds" "_law_kinds" s_Lkinds f fd) (T : Txt K mg z w) : FnOk P wo K mg base CX0 1 f fd ["_law_error"] (spKinds K mg z) := by
  refine F.ok sc_Lkinds (fun vs H Q E h => ?_) (fun cdv A outer s H vs Q E hr h => ?_)
  · obtain ⟨a, C, x, rfl, _⟩ := h
    rfl
  · obtain ⟨a, C, x, rfl, hx, he, k⟩ := h
    refine ⟨_, (pss_cons (ps_set (i := 1) sc_Lkinds.nd rfl (Or.inl rfl) (pe_lst (pa_cons (pe_callB call_isX (by rfl) T.n_isinstance PyProof.Rows.boot_isinstance (pa_cons (pv 0) (pa_cons (pe_glob (v := .ref z.c0) rfl T.x0.g rfl) pa_nil))) (pa_cons (pe_callB call_isX (by rfl) T.n_isinstance PyProof.Rows.boot_isinstance (pa_cons (pv 0) (pa_cons (pe_glob (v := .ref z.c1) rfl T.x1.g rfl) pa_nil))) (pa_cons (pe_callB call_isX (by rfl) T.n_isinstance PyProof.Rows.boot_isinstance (pa_cons (pv 0) (pa_cons (pe_glob (v := .ref z.c2) rfl T.x2.g rfl) pa_nil))) pa_nil)))))
      (pss_cons (ps_set (i := 1) sc_Lkinds.nd rfl (Or.inl rfl) (pe_op op_cat (pv 1) (pe_lst (pa_cons (pe_callB call_isX (by rfl) T.n_isinstance PyProof.Rows.boot_isinstance (pa_cons (pv 0) (pa_cons (pe_glob (v := .ref z.c3) rfl T.x3.g rfl) pa_nil))) (pa_cons (pe_callB call_isX (by rfl) T.n_isinstance PyProof.Rows.boot_isinstance (pa_cons (pv 0) (pa_cons (pe_glob (v := .ref z.c4) rfl T.x4.g rfl) pa_nil))) (pa_cons (pe_callB call_isX (by rfl) T.n_isinstance PyProof.Rows.boot_isinstance (pa_cons (pv 0) (pa_cons (pe_glob (v := .ref z.c5) rfl T.x5.g rfl) pa_nil))) pa_nil))))))
      (pss_cons (ps_set (i := 1) sc_Lkinds.nd rfl (Or.inl rfl) (pe_op op_cat (pv 1) (pe_lst (pa_cons (pe_callB call_isX (by rfl) T.n_isinstance PyProof.Rows.boot_isinstance (pa_cons (pv 0) (pa_cons (pe_glob (v := .ref z.c6) rfl T.x6.g rfl) pa_nil))) (pa_cons (pe_callB call_isX (by rfl) T.n_isinstance PyProof.Rows.boot_isinstance (pa_cons (pv 0) (pa_cons (pe_glob (v := .ref z.c7) rfl T.x7.g rfl) pa_nil))) (pa_cons (pe_callB call_isX (by rfl) T.n_isinstance PyProof.Rows.boot_isinstance (pa_cons (pv 0) (pa_cons (pe_glob (v := .ref z.c8) rfl T.x8.g rfl) pa_nil))) pa_nil))))))
      (pss_cons (ps_set (i := 1) sc_Lkinds.nd rfl (Or.inl rfl) (pe_op op_cat (pv 1) (pe_lst (pa_cons (pe_callB call_isX (by rfl) T.n_isinstance PyProof.Rows.boot_isinstance (pa_cons (pv 0) (pa_cons (pe_glob (v := .ref z.c9) rfl T.x9.g rfl) pa_nil))) (pa_cons (pe_callB call_isX (by rfl) T.n_isinstance PyProof.Rows.boot_isinstance (pa_cons (pv 0) (pa_cons (pe_glob (v := .ref z.c10) rfl T.x10.g rfl) pa_nil))) (pa_cons (pe_callB call_isX (by rfl) T.n_isinstance PyProof.Rows.boot_isinstance (pa_cons (pv 0) (pa_cons (pe_glob (v := .ref z.c11) rfl T.x11.g rfl) pa_nil))) pa_nil))))))
      (pss_cons (ps_set (i := 1) sc_Lkinds.nd rfl (Or.inl rfl) (pe_op op_cat (pv 1) (pe_lst (pa_cons (pe_callB call_isX (by rfl) T.n_isinstance PyProof.Rows.boot_isinstance (pa_cons (pv 0) (pa_cons (pe_glob (v := .ref z.c12) rfl T.x12.g rfl) pa_nil))) (pa_cons (pe_callB call_isX (by rfl) T.n_isinstance PyProof.Rows.boot_isinstance (pa_cons (pv 0) (pa_cons (pe_glob (v := .ref z.c13) rfl T.x13.g rfl) pa_nil))) (pa_cons (pe_callB call_isX (by rfl) T.n_isinstance PyProof.Rows.boot_isinstance (pa_cons (pv 0) (pa_cons (pe_glob (v := .ref z.c14) rfl T.x14.g rfl) pa_nil))) pa_nil))))))
      (pss_cons (ps_set (i := 1) sc_Lkinds.nd rfl (Or.inl rfl) (pe_op op_cat (pv 1) (pe_lst (pa_cons (pe_callB call_isX (by rfl) T.n_isinstance PyProof.Rows.boot_isinstance (pa_cons (pv 0) (pa_cons (pe_glob (v := .ref z.c15) rfl T.x15.g rfl) pa_nil))) (pa_cons (pe_callB call_isX (by rfl) T.n_isinstance PyProof.Rows.boot_isinstance (pa_cons (pv 0) (pa_cons (pe_glob (v := .ref z.c16) rfl T.x16.g rfl) pa_nil))) (pa_cons (pe_callB call_isX (by rfl) T.n_isinstance PyProof.Rows.boot_isinstance (pa_cons (pv 0) (pa_cons (pe_glob (v := .ref z.c17) rfl T.x17.g rfl) pa_nil))) pa_nil))))))
      (pss_one (ps_ret (pe_op op_cat (pv 1) (pe_lst (pa_cons (pe_callB call_isX (by rfl) T.n_isinstance PyProof.Rows.boot_isinstance (pa_cons (pv 0) (pa_cons (pe_glob (v := .ref z.c18) rfl T.x18.g rfl) pa_nil))) pa_nil))))))))))), ?_⟩
    refine q_seq (q_asg (q_lst ((bl_is (σ := [some (.ref a), none]) (i := 0) rfl hx T.xb T.x0 T.ne0 he (bl_is (σ := [some (.ref a), none]) (i := 0) rfl hx T.xb T.x1 T.ne1 he (bl_is (σ := [some (.ref a), none]) (i := 0) rfl hx T.xb T.x2 T.ne2 he bl_nil))) _ _ (Same.refl H) ⟨by rw [List.length_map, sizeLine_eq]; simp, fun p0 h0 => ?_⟩)))
    have s0 := smN (o := .lst ([decide (C = z.c0), decide (C = z.c1), decide (C = z.c2)].map V.bl)) (Same.refl H) h0
    refine ⟨_, rfl, ?_⟩
    refine q_lst ((bl_is (σ := [some (.ref a), some (.ref p0)]) (i := 0) rfl hx T.xb T.x3 T.ne3 (he.same s0) (bl_is (σ := [some (.ref a), some (.ref p0)]) (i := 0) rfl hx T.xb T.x4 T.ne4 (he.same s0) (bl_is (σ := [some (.ref a), some (.ref p0)]) (i := 0) rfl hx T.xb T.x5 T.ne5 (he.same s0) bl_nil))) _ _ (Same.refl _) ⟨by rw [List.length_map, sizeLine_eq]; simp, fun q1 g1 => ?_⟩)
    have t1 := smN (o := .lst ([decide (C = z.c3), decide (C = z.c4), decide (C = z.c5)].map V.bl)) (Same.refl _) g1
    refine ⟨p0, q1, ([decide (C = z.c0), decide (C = z.c1), decide (C = z.c2)].map V.bl), ([decide (C = z.c3), decide (C = z.c4), decide (C = z.c5)].map V.bl), rfl, rfl, t1 _ _ upd_same, upd_same, by rw [List.length_map, List.length_map, sizeLine_eq]; simp, fun p1 h1 => ?_⟩
    have e1 := smN (o := .lst ([decide (C = z.c0), decide (C = z.c1), decide (C = z.c2), decide (C = z.c3), decide (C = z.c4), decide (C = z.c5)].map V.bl)) (Same.refl _) h1
    have s1 := (s0.trans t1).trans e1
    refine ⟨_, rfl, ?_⟩
    refine q_lst ((bl_is (σ := [some (.ref a), some (.ref p1)]) (i := 0) rfl hx T.xb T.x6 T.ne6 (he.same s1) (bl_is (σ := [some (.ref a), some (.ref p1)]) (i := 0) rfl hx T.xb T.x7 T.ne7 (he.same s1) (bl_is (σ := [some (.ref a), some (.ref p1)]) (i := 0) rfl hx T.xb T.x8 T.ne8 (he.same s1) bl_nil))) _ _ (Same.refl _) ⟨by rw [List.length_map, sizeLine_eq]; simp, fun q2 g2 => ?_⟩)
    have t2 := smN (o := .lst ([decide (C = z.c6), decide (C = z.c7), decide (C = z.c8)].map V.bl)) (Same.refl _) g2
    refine ⟨p1, q2, ([decide (C = z.c0), decide (C = z.c1), decide (C = z.c2), decide (C = z.c3), decide (C = z.c4), decide (C = z.c5)].map V.bl), ([decide (C = z.c6), decide (C = z.c7), decide (C = z.c8)].map V.bl), rfl, rfl, t2 _ _ upd_same, upd_same, by rw [List.length_map, List.length_map, sizeLine_eq]; simp, fun p2 h2 => ?_⟩
    have e2 := smN (o := .lst ([decide (C = z.c0), decide (C = z.c1), decide (C = z.c2), decide (C = z.c3), decide (C = z.c4), decide (C = z.c5), decide (C = z.c6), decide (C = z.c7), decide (C = z.c8)].map V.bl)) (Same.refl _) h2
    have s2 := (s1.trans t2).trans e2
    refine ⟨_, rfl, ?_⟩
    refine q_lst ((bl_is (σ := [some (.ref a), some (.ref p2)]) (i := 0) rfl hx T.xb T.x9 T.ne9 (he.same s2) (bl_is (σ := [some (.ref a), some (.ref p2)]) (i := 0) rfl hx T.xb T.x10 T.ne10 (he.same s2) (bl_is (σ := [some (.ref a), some (.ref p2)]) (i := 0) rfl hx T.xb T.x11 T.ne11 (he.same s2) bl_nil))) _ _ (Same.refl _) ⟨by rw [List.length_map, sizeLine_eq]; simp, fun q3 g3 => ?_⟩)
    have t3 := smN (o := .lst ([decide (C = z.c9), decide (C = z.c10), decide (C = z.c11)].map V.bl)) (Same.refl _) g3
    refine ⟨p2, q3, ([decide (C = z.c0), decide (C = z.c1), decide (C = z.c2), decide (C = z.c3), decide (C = z.c4), decide (C = z.c5), decide (C = z.c6), decide (C = z.c7), decide (C = z.c8)].map V.bl), ([decide (C = z.c9), decide (C = z.c10), decide (C = z.c11)].map V.bl), rfl, rfl, t3 _ _ upd_same, upd_same, by rw [List.length_map, List.length_map, sizeLine_eq]; simp, fun p3 h3 => ?_⟩
    have e3 := smN (o := .lst ([decide (C = z.c0), decide (C = z.c1), decide (C = z.c2), decide (C = z.c3), decide (C = z.c4), decide (C = z.c5), decide (C = z.c6), decide (C = z.c7), decide (C = z.c8), decide (C = z.c9), decide (C = z.c10), decide (C = z.c11)].map V.bl)) (Same.refl _) h3
    have s3 := (s2.trans t3).trans e3
    refine ⟨_, rfl, ?_⟩
    refine q_lst ((bl_is (σ := [some (.ref a), some (.ref p3)]) (i := 0) rfl hx T.xb T.x12 T.ne12 (he.same s3) (bl_is (σ := [some (.ref a), some (.ref p3)]) (i := 0) rfl hx T.xb T.x13 T.ne13 (he.same s3) (bl_is (σ := [some (.ref a), some (.ref p3)]) (i := 0) rfl hx T.xb T.x14 T.ne14 (he.same s3) bl_nil))) _ _ (Same.refl _) ⟨by rw [List.length_map, sizeLine_eq]; simp, fun q4 g4 => ?_⟩)
    have t4 := smN (o := .lst ([decide (C = z.c12), decide (C = z.c13), decide (C = z.c14)].map V.bl)) (Same.refl _) g4
    refine ⟨p3, q4, ([decide (C = z.c0), decide (C = z.c1), decide (C = z.c2), decide (C = z.c3), decide (C = z.c4), decide (C = z.c5), decide (C = z.c6), decide (C = z.c7), decide (C = z.c8), decide (C = z.c9), decide (C = z.c10), decide (C = z.c11)].map V.bl), ([decide (C = z.c12), decide (C = z.c13), decide (C = z.c14)].map V.bl), rfl, rfl, t4 _ _ upd_same, upd_same, by rw [List.length_map, List.length_map, sizeLine_eq]; simp, fun p4 h4 => ?_⟩
    have e4 := smN (o := .lst ([decide (C = z.c0), decide (C = z.c1), decide (C = z.c2), decide (C = z.c3), decide (C = z.c4), decide (C = z.c5), decide (C = z.c6), decide (C = z.c7), decide (C = z.c8), decide (C = z.c9), decide (C = z.c10), decide (C = z.c11), decide (C = z.c12), decide (C = z.c13), decide (C = z.c14)].map V.bl)) (Same.refl _) h4
    have s4 := (s3.trans t4).trans e4
    refine ⟨_, rfl, ?_⟩
    refine q_lst ((bl_is (σ := [some (.ref a), some (.ref p4)]) (i := 0) rfl hx T.xb T.x15 T.ne15 (he.same s4) (bl_is (σ := [some (.ref a), some (.ref p4)]) (i := 0) rfl hx T.xb T.x16 T.ne16 (he.same s4) (bl_is (σ := [some (.ref a), some (.ref p4)]) (i := 0) rfl hx T.xb T.x17 T.ne17 (he.same s4) bl_nil))) _ _ (Same.refl _) ⟨by rw [List.length_map, sizeLine_eq]; simp, fun q5 g5 => ?_⟩)
    have t5 := smN (o := .lst ([decide (C = z.c15), decide (C = z.c16), decide (C = z.c17)].map V.bl)) (Same.refl _) g5
    refine ⟨p4, q5, ([decide (C = z.c0), decide (C = z.c1), decide (C = z.c2), decide (C = z.c3), decide (C = z.c4), decide (C = z.c5), decide (C = z.c6), decide (C = z.c7), decide (C = z.c8), decide (C = z.c9), decide (C = z.c10), decide (C = z.c11), decide (C = z.c12), decide (C = z.c13), decide (C = z.c14)].map V.bl), ([decide (C = z.c15), decide (C = z.c16), decide (C = z.c17)].map V.bl), rfl, rfl, t5 _ _ upd_same, upd_same, by rw [List.length_map, List.length_map, sizeLine_eq]; simp, fun p5 h5 => ?_⟩
    have e5 := smN (o := .lst ([decide (C = z.c0), decide (C = z.c1), decide (C = z.c2), decide (C = z.c3), decide (C = z.c4), decide (C = z.c5), decide (C = z.c6), decide (C = z.c7), decide (C = z.c8), decide (C = z.c9), decide (C = z.c10), decide (C = z.c11), decide (C = z.c12), decide (C = z.c13), decide (C = z.c14), decide (C = z.c15), decide (C = z.c16), decide (C = z.c17)].map V.bl)) (Same.refl _) h5
    have s5 := (s4.trans t5).trans e5
    refine ⟨_, rfl, ?_⟩
    refine q_lst ((bl_is (σ := [some (.ref a), some (.ref p5)]) (i := 0) rfl hx T.xb T.x18 T.ne18 (he.same s5) bl_nil) _ _ (Same.refl _) ⟨by rw [List.length_map, sizeLine_eq]; simp, fun q6 g6 => ?_⟩)
    have t6 := smN (o := .lst ([decide (C = z.c18)].map V.bl)) (Same.refl _) g6
    refine ⟨p5, q6, ([decide (C = z.c0), decide (C = z.c1), decide (C = z.c2), decide (C = z.c3), decide (C = z.c4), decide (C = z.c5), decide (C = z.c6), decide (C = z.c7), decide (C = z.c8), decide (C = z.c9), decide (C = z.c10), decide (C = z.c11), decide (C = z.c12), decide (C = z.c13), decide (C = z.c14), decide (C = z.c15), decide (C = z.c16), decide (C = z.c17)].map V.bl), ([decide (C = z.c18)].map V.bl), rfl, rfl, t6 _ _ upd_same, upd_same, by rw [List.length_map, List.length_map, sizeLine_eq]; simp, fun p6 h6 => ?_⟩
    have e6 := smN (o := .lst ([decide (C = z.c0), decide (C = z.c1), decide (C = z.c2), decide (C = z.c3), decide (C = z.c4), decide (C = z.c5), decide (C = z.c6), decide (C = z.c7), decide (C = z.c8), decide (C = z.c9), decide (C = z.c10), decide (C = z.c11), decide (C = z.c12), decide (C = z.c13), decide (C = z.c14), decide (C = z.c15), decide (C = z.c16), decide (C = z.c17), decide (C = z.c18)].map V.bl)) (Same.refl _) h6
    have s6 := (s5.trans t6).trans e6
    exact k p6 _ s6 upd_same

end
def VlL (ta : TA) (σ : L2.St) (H : Hp) (vs : List V) : Prop := ∀ (H1 : Hp) (Q : List V → Hp → Prop), Same H H1 → Q vs H1 → ta σ H1 Q
theorem vl_nil {σ : L2.St} {H : Hp} : VlL tNil σ H [] := fun H1 Q _ q => q
theorem vl_cons {K : PySem.W.Frag} {f : Str} {ta : TA} {σ : L2.St} {H : Hp} {m C : Addr} {as : List Addr} {ss : List (Addr × List (Str × V))} {j i : Nat} {fs : List (Str × V)} {v : V} {vs : List V} (h : σ[i]? = some (some (.ref m))) (hm : H m = some (.lst (as.map V.ref)))
    (hp : Paired (fun a s => ExW H a s.1 s.2) as ss) (hs : ss[j]? = some (C, fs)) (xc : XC K C) (no : PySem.W.findIn K (.ref C) f = some none) (ne : fs ≠ []) (lk : fs.lookup f = some v) (r : VlL ta σ H vs) :
    VlL (tCons (tXat K f (tOp (rIxL K) (tVar i) (tC (.int (j : Nat))))) ta) σ H (v :: vs) := fun H1 Q s q => by
  obtain ⟨a, ha, _, hf⟩ := paired_at hp hs
  refine ⟨_, h, m, _, _, _, rfl, rfl, SqL.of (s _ _ hm), atI_nat (j := j) (v := V.ref a) (by rw [List.getElem?_map, ha]; rfl), a, C, fs, v, rfl, xc, no, (hf ne).same s, lk, r H1 _ s q⟩
theorem lk1 {f : Str} {v : V} {fs : List (Str × V)} : ((f, v) :: fs).lookup f = some v := by simp [List.lookup]
theorem lk2 {v u : V} : ([("at", u), ("part", v)] : List (Str × V)).lookup ("part" : Str) = some v := by
  rw [lookup_put, if_neg (by decide +kernel)]
  exact lk1
def spFields (z : Cz) : Sp := fun vs H Q _ => ∃ (m : Addr) (as : List Addr) (v u : V), vs = [.ref m] ∧ H m = some (.lst (as.map V.ref)) ∧ Paired (fun a s => ExW H a s.1 s.2) as (specs z v u) ∧
  ∀ (p t : Addr) (H' : Hp), Same H H' → H' t = some (.tup [.ref p, u]) → H' p = some (.lst (List.replicate 9 v)) → Q (.ref t) H'
abbrev s_Lfields : Stmt := top 26
theorem sc_Lfields : FnScope ["_law_made_here", "_law_found"] ["_law_made_here"] (defScope s_Lfields) := ⟨rfl, rfl, rfl, by decide +kernel, rfl, by decide +kernel, by decide +kernel⟩
section
variable {P : Program} {wo : World} {K : PySem.W.Frag} {mg : Str → Option Value} {base : Heap} {z : Cz} {w : Iz}
theorem ok_fields {f : Addr} {fd : FuncData} (F : Fun K "_law_fields" "_law_fields" s_Lfields f fd) (T : Txt K mg z w) : FnOk P wo K mg base CX0 1 f fd ["_law_made_here"] (spFields z) := by
  refine F.ok sc_Lfields (fun vs H Q E h => ?_) (fun cdv A outer s H vs Q E hr h => ?_)
  · obtain ⟨m, as, v, u, rfl, _⟩ := h
    rfl
  · obtain ⟨m, as, v, u, rfl, hm, hp, k⟩ := h
    refine ⟨_, (pss_cons (ps_set (i := 1) sc_Lfields.nd rfl (Or.inl rfl) (pe_lst (pa_cons (pe_xat (pe_ix ix_list (pv 0) pe_int (fun _ _ => rfl))) (pa_cons (pe_xat (pe_ix ix_list (pv 0) pe_int (fun _ _ => rfl))) (pa_cons (pe_xat (pe_ix ix_list (pv 0) pe_int (fun _ _ => rfl))) (pa_cons (pe_xat (pe_ix ix_list (pv 0) pe_int (fun _ _ => rfl))) (pa_cons (pe_xat (pe_ix ix_list (pv 0) pe_int (fun _ _ => rfl))) (pa_cons (pe_xat (pe_ix ix_list (pv 0) pe_int (fun _ _ => rfl))) pa_nil))))))))
      (pss_one (ps_ret (pe_tup (pa_cons (pe_op op_cat (pv 1) (pe_lst (pa_cons (pe_xat (pe_ix ix_list (pv 0) pe_int (fun _ _ => rfl))) (pa_cons (pe_xat (pe_ix ix_list (pv 0) pe_int (fun _ _ => rfl))) (pa_cons (pe_xat (pe_ix ix_list (pv 0) pe_int (fun _ _ => rfl))) pa_nil))))) (pa_cons (pe_xat (pe_ix ix_list (pv 0) pe_int (fun _ _ => rfl))) pa_nil)))))), ?_⟩
    have A1 := ((vl_cons (i := 0) rfl hm (hp) (j := 0) rfl T.x0.xc T.n0_at (by simp) lk1 (vl_cons (i := 0) rfl hm (hp) (j := 6) rfl T.x6.xc T.n6_found (by simp) lk1 (vl_cons (i := 0) rfl hm (hp) (j := 7) rfl T.x7.xc T.n7_part (by simp) lk2 (vl_cons (i := 0) rfl hm (hp) (j := 8) rfl T.x8.xc T.n8_at (by simp) lk1 (vl_cons (i := 0) rfl hm (hp) (j := 10) rfl T.x10.xc T.n10_at (by simp) lk1 (vl_cons (i := 0) rfl hm (hp) (j := 13) rfl T.x13.xc T.n13_part (by simp) lk1 vl_nil)))))) : VlL _ [some (.ref m), none] H (List.replicate 6 v))
    refine q_seq (q_asg (q_lst (A1 _ _ (Same.refl H) ⟨by rw [sizeLine_eq]; simp, fun p1 h1 => ?_⟩)))
    have s1 := smN (o := .lst (List.replicate 6 v)) (Same.refl H) h1
    have A2 := ((vl_cons (i := 0) rfl hm (hp) (j := 15) rfl T.x15.xc T.n15_found (by simp) lk1 (vl_cons (i := 0) rfl hm (hp) (j := 16) rfl T.x16.xc T.n16_found (by simp) lk1 (vl_cons (i := 0) rfl hm (hp) (j := 17) rfl T.x17.xc T.n17_line (by simp) lk1 vl_nil))) : VlL _ [some (.ref m), some (.ref p1)] H (List.replicate 3 v))
    refine ⟨_, rfl, ?_⟩
    refine q_lst (A2 _ _ s1 ⟨by rw [sizeLine_eq]; simp, fun p2 h2 => ?_⟩)
    have s2 := smN (o := .lst (List.replicate 3 v)) (Same.refl _) h2
    refine ⟨p1, p2, _, _, rfl, rfl, s2 _ _ upd_same, upd_same, by rw [sizeLine_eq]; simp, fun p3 h3 => ?_⟩
    have s3 := smN (o := .lst (List.replicate 6 v ++ List.replicate 3 v)) (Same.refl _) h3
    have A3 := ((vl_cons (i := 0) rfl hm (hp) (j := 7) rfl T.x7.xc T.n7_at (by simp) lk1 vl_nil) : VlL _ [some (.ref m), some (.ref p1)] H [u])
    refine A3 _ _ ((s1.trans s2).trans s3) ⟨by show 2 ≤ sizeLine; rw [sizeLine_eq]; decide, fun p4 h4 => ?_⟩
    have s4 := smN (o := .tup [.ref p3, u]) (Same.refl _) h4
    exact k p3 p4 _ (((s1.trans s2).trans s3).trans s4) upd_same (s4 _ _ upd_same)
end
end Fb
set_option maxRecDepth 100000
set_option maxHeartbeats 4000000
namespace Fb
open PySem PySem.Spec PyProof.Rows L2
/-! the menu -/
def menuV (t : Addr) : List V := [.non, .int 0, .str "10.1", .str "rules", .ref t, .int (10 ^ (50 : Int).toNat), .str "", .bl true]
def menuD : List PyData := [.none, .int 0, .str "10.1", .str "rules", .tuple [.int 1, .str "a"], .int (10 ^ (50 : Int).toNat), .str "", .bool true]
/-- shown without ado -/
def okD (d : PyData) : Bool := d.showable && !d.hasDict && decide (d.depth ≤ 60) && decide (d.shown.length ≤ 16777216)
theorem okD_all : menuD.all (fun d => okD d && okD (.list (List.replicate 9 d))) = true := by decide +kernel
structure Shw (e : PyData) : Prop where
  s : e.showable = true
  h : e.hasDict = false
  d : e.depth ≤ 60
  z : e.shown.length ≤ sizeLine
theorem shw_of {d : PyData} (h : okD d = true) : Shw d := by
  unfold okD at h
  simp only [Bool.and_eq_true, Bool.not_eq_true', decide_eq_true_eq] at h
  exact ⟨h.1.1.1, h.1.1.2, h.1.2, by rw [sizeLine_eq]; exact h.2⟩
theorem menu_at {K : PySem.W.Frag} {H : Hp} {t : Addr} (ht : H t = some (.tup [.int 1, .str "a"])) {k : Nat} (hk : k < 8) : ∃ v d, (menuV t)[k]? = some v ∧ Dp K H v d ∧ Shw d ∧ Shw (.list (List.replicate 9 d)) := by
  have key : ∀ {v : V} {d : PyData}, (menuV t)[k]? = some v → menuD[k]? = some d → Dp K H v d → ∃ v d, (menuV t)[k]? = some v ∧ Dp K H v d ∧ Shw d ∧ Shw (.list (List.replicate 9 d)) := fun {v d} h1 h2 h3 => by
    have h := List.all_eq_true.mp okD_all d (List.mem_of_getElem? h2)
    rw [Bool.and_eq_true] at h
    exact ⟨v, d, h1, h3, shw_of h.1, shw_of h.2⟩
  match k, hk with
  | 0, _ => exact key rfl rfl .non
  | 1, _ => exact key rfl rfl (.int _)
  | 2, _ => exact key rfl rfl (.str _)
  | 3, _ => exact key rfl rfl (.str _)
  | 4, _ => exact key rfl rfl (.tup (SqT.of ht) (.cons (.int _) (.cons (.str _) .nil)))
  | 5, _ => exact key rfl rfl (.int _)
  | 6, _ => exact key rfl rfl (.str _)
  | 7, _ => exact key rfl rfl (.bl _)
theorem dp_rep {K : PySem.W.Frag} {H : Hp} {v : V} {d : PyData} (h : Dp K H v d) : ∀ n, DpAll K H (List.replicate n v) (List.replicate n d)
  | 0 => .nil
  | n + 1 => .cons h (dp_rep h n)
mutual
theorem dp_same {K : PySem.W.Frag} {H H' : Hp} (s : Same H H') : ∀ (d : PyData) {v : V}, Dp K H v d → Dp K H' v d
  | _, _, .non => .non
  | _, _, .bl b => .bl b
  | _, _, .int i => .int i
  | _, _, .str x => .str x
  | .list ds, _, .lst h a => .lst (s.seq h) (dp_sameAll s ds a)
  | .tuple ds, _, .tup h a => .tup (by
      rcases h with (h | ⟨o, h⟩) | h
      · exact .inl (.inl (s _ _ h))
      · exact .inl (.inr ⟨o, s _ _ h⟩)
      · exact .inr h) (dp_sameAll s ds a)
theorem dp_sameAll {K : PySem.W.Frag} {H H' : Hp} (s : Same H H') : ∀ (ds : List PyData) {vs : List V}, DpAll K H vs ds → DpAll K H' vs ds
  | _, _, .nil => .nil
  | d :: ds, _, .cons h t => .cons (dp_same s d h) (dp_sameAll s ds t)
end
/-! which class stands at a place -/
theorem at_k {K : PySem.W.Frag} {mg : Str → Option Value} {z : Cz} {w : Iz} (T : Txt K mg z w) (v u : V) {k : Nat} (hk : k < 19) : ∃ C x fs, (specs z v u)[k]? = some (C, fs) ∧ z.l[k]? = some C ∧ XF K mg z.fe x C := by
  match k, hk with
  | 0, _ => exact ⟨_, _, _, rfl, rfl, T.x0⟩
  | 1, _ => exact ⟨_, _, _, rfl, rfl, T.x1⟩
  | 2, _ => exact ⟨_, _, _, rfl, rfl, T.x2⟩
  | 3, _ => exact ⟨_, _, _, rfl, rfl, T.x3⟩
  | 4, _ => exact ⟨_, _, _, rfl, rfl, T.x4⟩
  | 5, _ => exact ⟨_, _, _, rfl, rfl, T.x5⟩
  | 6, _ => exact ⟨_, _, _, rfl, rfl, T.x6⟩
  | 7, _ => exact ⟨_, _, _, rfl, rfl, T.x7⟩
  | 8, _ => exact ⟨_, _, _, rfl, rfl, T.x8⟩
  | 9, _ => exact ⟨_, _, _, rfl, rfl, T.x9⟩
  | 10, _ => exact ⟨_, _, _, rfl, rfl, T.x10⟩
  | 11, _ => exact ⟨_, _, _, rfl, rfl, T.x11⟩
  | 12, _ => exact ⟨_, _, _, rfl, rfl, T.x12⟩
  | 13, _ => exact ⟨_, _, _, rfl, rfl, T.x13⟩
  | 14, _ => exact ⟨_, _, _, rfl, rfl, T.x14⟩
  | 15, _ => exact ⟨_, _, _, rfl, rfl, T.x15⟩
  | 16, _ => exact ⟨_, _, _, rfl, rfl, T.x16⟩
  | 17, _ => exact ⟨_, _, _, rfl, rfl, T.x17⟩
  | 18, _ => exact ⟨_, _, _, rfl, rfl, T.x18⟩
  | k + 19, h => exact absurd h (by omega)
theorem count_at {α : Type} [DecidableEq α] : ∀ {l : List α} {k : Nat} {c : α}, l.Nodup → l[k]? = some c → (l.map fun d => decide (c = d)).count true = 1
  | [], _, _, _, e => by simp at e
  | x :: l, 0, c, nd, e => by
    have e' : x = c := by simpa using e
    subst e'
    have h : ∀ d ∈ l, ¬ x = d := fun d hd q => (List.nodup_cons.mp nd).1 (by rw [q]; exact hd)
    have z : (l.map fun d => decide (x = d)).count true = 0 := List.count_eq_zero.mpr fun q => by
      obtain ⟨d, hd, q⟩ := List.mem_map.mp q
      exact h d hd (of_decide_eq_true q)
    rw [List.map_cons, List.count_cons, z]
    simp
  | x :: l, k + 1, c, nd, e => by
    have e' : l[k]? = some c := by simpa using e
    have ne : ¬ c = x := fun q => (List.nodup_cons.mp nd).1 (by rw [← q]; exact List.mem_of_getElem? e')
    rw [List.map_cons, List.count_cons, count_at (List.nodup_cons.mp nd).2 e', decide_eq_false ne]
    simp
/-! the law -/
structure Lz where
  (pen take kinds made fields : Addr)
  (dpen dtake dkinds dmade dfields : FuncData)
structure TxL (K : PySem.W.Frag) (mg : Str → Option Value) (z : Cz) (w : Iz) (l : Lz) : Prop extends Txt K mg z w where
  pp : TxP mg
  g_Lpen : mg "_law_pen" = some (.ref l.pen)
  k_Lpen : PySem.W.keepIn K (.ref l.pen) = true
  F_Lpen : Fun K "_law_pen" "_law_pen" s_Lpen l.pen l.dpen
  b_Lpen : Binds K l.dpen ["_law_script"] []
  g_Ltake : mg "_law_take" = some (.ref l.take)
  k_Ltake : PySem.W.keepIn K (.ref l.take) = true
  F_Ltake : Fun K "_law_take" "_law_take" s_Ltake l.take l.dtake
  b_Ltake : Binds K l.dtake ["_law_pen_here", "_law_many"] []
  g_Lkinds : mg "_law_kinds" = some (.ref l.kinds)
  k_Lkinds : PySem.W.keepIn K (.ref l.kinds) = true
  F_Lkinds : Fun K "_law_kinds" "_law_kinds" s_Lkinds l.kinds l.dkinds
  b_Lkinds : Binds K l.dkinds ["_law_error"] []
  g_Lmade : mg "_law_made" = some (.ref l.made)
  k_Lmade : PySem.W.keepIn K (.ref l.made) = true
  F_Lmade : Fun K "_law_made" "_law_made" s_Lmade l.made l.dmade
  b_Lmade : Binds K l.dmade ["_law_one", "_law_two"] []
  g_Lfields : mg "_law_fields" = some (.ref l.fields)
  k_Lfields : PySem.W.keepIn K (.ref l.fields) = true
  F_Lfields : Fun K "_law_fields" "_law_fields" s_Lfields l.fields l.dfields
  b_Lfields : Binds K l.dfields ["_law_made_here"] []
def spLaw (K : PySem.W.Frag) : Sp := fun vs H Q _ => ∃ (a : Addr) (ns : List Int), vs = [.ref a] ∧ SqL K H a (ns.map V.int) ∧ ns.length ≤ 63 ∧ ∀ H', Q (.bl true) H'
abbrev s_law : Stmt := top 27
theorem sc_law : FnScope ["_law_script", "_law_pen_here", "_law_values", "_law_turn", "_law_one", "_law_two", "_law_made_here", "_law_k", "_law_kinds_here", "_law_first", "_law_last"] ["_law_script"] (defScope s_law) := ⟨rfl, rfl, rfl, by decide +kernel, rfl, by decide +kernel, by decide +kernel⟩
/-- what holds between two turns -/
structure LawI (H : Hp) (p q t : Addr) (n : Nat) : Prop where
  pen : Pen H p n
  lst : H q = some (.lst (menuV t))
  tup : H t = some (.tup [.int 1, .str "a"])
theorem LawI.same {H H' : Hp} {p q t : Addr} {n : Nat} (h : LawI H p q t n) (s : Same H H') : LawI H' p q t n := ⟨h.pen.same s, s _ _ h.lst, s _ _ h.tup⟩
theorem LawI.took {H H' : Hp} {p q t : Addr} {n : Nat} (h : LawI H p q t n) (hp : Pen H' p (n + 1)) (k : ∀ c, c ≠ p → H' c = H c) : LawI H' p q t (n + 1) := by
  obtain ⟨l, cs, a, r, f, e, _⟩ := h.pen
  have nq : q ≠ p := ne_of h.lst e (fun z => nomatch z)
  have nt : t ≠ p := ne_of h.tup e (fun z => nomatch z)
  exact ⟨hp, by rw [k q nq]; exact h.lst, by rw [k t nt]; exact h.tup⟩
section
variable {P : Program} {wo : World} {K : PySem.W.Frag} {mg : Str → Option Value} {base : Heap} {z : Cz} {w : Iz} {l : Lz}
theorem ok_law {f : Addr} {fd : FuncData} (F : Fun K "law" "law" s_law f fd) (T : TxL K mg z w l) : FnG P wo K mg base CX0 4 f fd ["_law_script"] (spLaw K) := by
  refine Fun.okG0 F sc_law (fun {vs H Q E} h => ?_) (fun {cdv A outer s H vs Q E} hq hr h => ?_)
  · obtain ⟨a, ns, rfl, _⟩ := h
    rfl
  · obtain ⟨a, ns, rfl, hS, hlen, k⟩ := h
    have hr3 : Room 3 _ := hr
    have hr1 : Room 1 _ := hr.mono (by decide)
    have hu64 : (A.deeper (envOfC "law" (defScope s_law) s.heap.objs.size f cdv)).units + 64 < cLine := by have := hr.un; omega
    have G_Lpen : FnOk P wo K mg base CX0 1 l.pen l.dpen ["_law_script"] (spPen K) := ok_pen T.F_Lpen T.pp
    have G_Ltake : FnOk P wo K mg base CX0 1 l.take l.dtake ["_law_pen_here", "_law_many"] spTake := ok_take T.F_Ltake T.pp
    have G_Lkinds : FnOk P wo K mg base CX0 1 l.kinds l.dkinds ["_law_error"] (spKinds K mg z) := ok_kinds T.F_Lkinds T.toTxt
    have G_Lmade : FnOk P wo K mg base CX0 3 l.made l.dmade ["_law_one", "_law_two"] (spMade z) := ok_made T.F_Lmade T.toTxt
    have G_Lfields : FnOk P wo K mg base CX0 1 l.fields l.dfields ["_law_made_here"] (spFields z) := ok_fields T.F_Lfields T.toTxt
    refine ⟨_, (pss_cons (ps_set (i := 1) sc_law.nd rfl (Or.inl rfl) (pe_call G_Lpen hr1 rfl T.g_Lpen T.k_Lpen T.b_Lpen .nil pass0 (pa_cons (pv 0) pa_nil)))
      (pss_cons (ps_set (i := 2) sc_law.nd rfl (Or.inl rfl) (pe_lst (pa_cons pe_non (pa_cons pe_int (pa_cons pe_str (pa_cons pe_str (pa_cons (pe_tup (pa_cons pe_int (pa_cons pe_str pa_nil))) (pa_cons (pe_op op_pow pe_int pe_int) (pa_cons pe_str (pa_cons pe_bl pa_nil))))))))))
      (pss_cons (ps_for PassesOwn.never rfl (pi_range1 rfl T.n_range (pa_cons pe_int pa_nil)) (pg_name (i := 3) sc_law.nd rfl (Or.inl rfl))
        (pss_cons (ps_set (i := 4) sc_law.nd rfl (Or.inl rfl) (pe_ix ix_list (pv 2) (pe_call G_Ltake hr1 rfl T.g_Ltake T.k_Ltake T.b_Ltake .nil pass0 (pa_cons (pv 1) (pa_cons pe_int pa_nil))) (fun _ _ => rfl)))
        (pss_cons (ps_set (i := 5) sc_law.nd rfl (Or.inl rfl) (pe_ix ix_list (pv 2) (pe_call G_Ltake hr1 rfl T.g_Ltake T.k_Ltake T.b_Ltake .nil pass0 (pa_cons (pv 1) (pa_cons pe_int pa_nil))) (fun _ _ => rfl)))
        (pss_cons (ps_set (i := 6) sc_law.nd rfl (Or.inl rfl) (pe_call G_Lmade hr3 rfl T.g_Lmade T.k_Lmade T.b_Lmade .nil pass0 (pa_cons (pv 4) (pa_cons (pv 5) pa_nil))))
        (pss_cons (ps_for PassesOwn.never rfl (pi_range1 rfl T.n_range (pa_cons (pe_callB call_len_seq (by rfl) T.n_len (by decide +kernel) (pa_cons (pv 6) pa_nil)) pa_nil)) (pg_name (i := 7) sc_law.nd rfl (Or.inl rfl))
          (pss_cons (ps_set (i := 8) sc_law.nd rfl (Or.inl rfl) (pe_call G_Lkinds hr1 rfl T.g_Lkinds T.k_Lkinds T.b_Lkinds .nil pass0 (pa_cons (pe_ix ix_list (pv 6) (pv 7) (fun _ _ => rfl)) pa_nil)))
          (pss_cons (ps_if (PW.pt (pw_or (pt_not (pt_val (pe_callB call_isX (by rfl) T.n_isinstance PyProof.Rows.boot_isinstance (pa_cons (pe_ix ix_list (pv 6) (pv 7) (fun _ _ => rfl)) (pa_cons (pe_glob (v := .ref z.fe) rfl T.gF rfl) pa_nil))))) (pw_or1 (pt_not (pt_val (pe_callB call_isX (by rfl) T.n_isinstance PyProof.Rows.boot_isinstance (pa_cons (pe_ix ix_list (pv 6) (pv 7) (fun _ _ => rfl)) (pa_cons (pe_bltn (v := .ty "ValueError") rfl T.n_ValueError (by decide +kernel) rfl) pa_nil))))))))
            (pss_one (ps_ret pe_bl))
            pss_nil)
          (pss_one (ps_if (PW.pt (pw_or (pt_cmpR op_ne (pe_bm PySem.F.plainAttrs_list PySem.F.slot_list_count PySem.F.type_list_count mt_lcountB (pv 8) (pa_cons pe_bl pa_nil)) pe_int (nomark _)) (pw_or1 (pt_not (pt_val (pe_ix ix_list (pv 8) (pv 7) (fun _ _ => rfl)))))))
            (pss_one (ps_ret pe_bl))
            pss_nil)))))
        (pss_cons (ps_asg (pe_call G_Lfields hr1 rfl T.g_Lfields T.k_Lfields T.b_Lfields .nil pass0 (pa_cons (pv 6) pa_nil)) (pg_tup rfl (pgs_cons (pg_name (i := 9) sc_law.nd rfl (Or.inl rfl)) (pgs_cons (pg_name (i := 10) sc_law.nd rfl (Or.inl rfl)) pgs_nil))))
        (pss_one (ps_if (PW.pt (pw_or (pt_cmpR op_ne (pe_callB (call_repr hq hu64) (by rfl) T.n_repr PyProof.Rows.boot_repr (pa_cons (pv 9) pa_nil)) (pe_callB (call_repr hq hu64) (by rfl) T.n_repr PyProof.Rows.boot_repr (pa_cons (pe_op op_rep (pe_lst (pa_cons (pv 4) pa_nil)) pe_int) pa_nil)) (nomark _)) (pw_or1 (pt_cmpR op_ne (pe_callB (call_repr hq hu64) (by rfl) T.n_repr PyProof.Rows.boot_repr (pa_cons (pv 10) pa_nil)) (pe_callB (call_repr hq hu64) (by rfl) T.n_repr PyProof.Rows.boot_repr (pa_cons (pv 5) pa_nil)) (nomark _)))))
          (pss_one (ps_ret pe_bl))
          pss_nil))))))))
      (pss_one (ps_ret pe_bl))))), ?_⟩
    -- the pen, the menu
    refine ⟨_, rfl, a, ns, rfl, hS, hlen, fun p H1 hp1 s1 P1 => ?_⟩
    refine ⟨by show 2 ≤ sizeLine; rw [sizeLine_eq]; decide, fun t ht => ?_⟩
    refine ⟨_, _, rfl, rfl, ⟨by decide, by decide, by decide⟩, ?_⟩
    refine ⟨by show 8 ≤ sizeLine; rw [sizeLine_eq]; decide, fun q hq2 => ?_⟩
    have I0 : LawI (upd (upd H1 t (.tup [.int 1, .str "a"])) q (.lst (menuV t))) p q t 0 := ⟨P1.same (smN (smN (Same.refl _) ht) hq2), upd_same, smN (Same.refl _) hq2 _ _ upd_same⟩
    -- four turns
    refine ⟨4, rfl, by decide, by decide, for_range (n := 4) (fun i σ H' => LawI H' p q t (2 * i) ∧ ∃ x3 x4 x5 x6 x7 x8 x9 x10 : Option V, σ = [some (.ref a), some (.ref p), some (.ref q), x3, x4, x5, x6, x7, x8, x9, x10])
      ⟨I0, none, none, none, none, none, none, none, none, rfl⟩ ?_ (fun σ H' _ => k H')⟩
    rintro i σ H2 hi ⟨I2, x3, x4, x5, x6, x7, x8, x9, x10, rfl⟩
    -- one, two
    refine ⟨_, rfl, _, rfl, p, 8, 2 * i, rfl, by decide, by decide, by omega, I2.pen, fun d1 H3 d1a d1b P3 k3 => ?_⟩
    have I3 := I2.took P3 k3
    obtain ⟨j1, rfl⟩ : ∃ j : Nat, d1 = (j : Int) := ⟨d1.toNat, by omega⟩
    obtain ⟨v, _, ev, _, _, _⟩ := menu_at (K := K) I3.tup (k := j1) (by omega)
    refine ⟨q, _, _, v, rfl, rfl, SqL.of I3.lst, atI_nat (j := j1) ev, ?_⟩
    refine ⟨_, rfl, _, rfl, p, 8, 2 * i + 1, rfl, by decide, by decide, by omega, I3.pen, fun d2 H4 d2a d2b P4 k4 => ?_⟩
    have I4 := I3.took P4 k4
    obtain ⟨j2, rfl⟩ : ∃ j : Nat, d2 = (j : Int) := ⟨d2.toNat, by omega⟩
    obtain ⟨u, du, eu, Du, Su, Lu⟩ := menu_at (K := K) I4.tup (k := j2) (by omega)
    obtain ⟨v', dv, ev', Dv, Sv, Lv⟩ := menu_at (K := K) I4.tup (k := j1) (by omega)
    obtain rfl : v' = v := Option.some.inj (ev'.symm.trans ev)
    refine ⟨q, _, _, u, rfl, rfl, SqL.of I4.lst, atI_nat (j := j2) eu, ?_⟩
    -- made
    refine ⟨_, rfl, _, rfl, _, _, rfl, fun m as H5 s5 hm hp => ?_⟩
    have I5 := I4.same s5
    have las : as.length = 19 := paired_len hp
    refine ⟨_, rfl, m, _, rfl, .inl (SqL.of hm), ?_⟩
    rw [List.length_map, las]
    refine ⟨19, rfl, by decide, by decide, for_range (n := 19) (fun i σ H' => Same H5 H' ∧ ∃ x3 x7 x8 x9 x10 : Option V, σ = [some (.ref a), some (.ref p), some (.ref q), x3, some v', some u, some (.ref m), x7, x8, x9, x10])
      ⟨Same.refl _, _, _, _, _, _, rfl⟩ ?_ ?_⟩
    · rintro i2 σ H6 hi2 ⟨s6, y3, y7, y8, y9, y10, rfl⟩
      obtain ⟨C, x, fs, e1, e2, XT⟩ := at_k T.toTxt v' u hi2
      obtain ⟨ea, e3, EX⟩ := paired_at hp e1
      have am : atI (as.map V.ref) (0 + (i2 : Int)) = some (.ref ea) := by
        rw [Int.zero_add]
        exact atI_nat (j := i2) (by rw [List.getElem?_map, e3]; rfl)
      refine ⟨_, rfl, _, rfl, m, _, _, _, rfl, rfl, SqL.of (s6 _ _ hm), am, ea, C, x, rfl, XT, (EX.same s6).1, fun pk H7 s7 l7 => ?_⟩
      have s67 := s6.trans s7
      -- the bases
      refine ⟨_, rfl, _, rfl, m, _, _, _, rfl, rfl, SqL.of (s67 _ _ hm), am, ea, C, .ref z.fe, .ref z.fe, true, rfl, XT.xc, T.xb, (EX.same s67).1, .own _, XT.isF T.clF T.tyF, _, rfl, ?_⟩
      refine iteF ?_
      refine ⟨_, rfl, _, rfl, m, _, _, _, rfl, rfl, SqL.of (s67 _ _ hm), am, ea, C, .ty "ValueError", .type "ValueError", true, rfl, XT.xc, T.xb, (EX.same s67).1, .ty _, XT.isV, _, rfl, ?_⟩
      refine iteF ?_
      -- the kinds
      have nd : z.l.Nodup := (List.nodup_cons.mp T.nd).2
      refine ⟨_, rfl, .inl ⟨rfl, _, SqL.of l7⟩, pk, _, true, rfl, rfl, SqL.of l7, ?_⟩
      rw [count_at nd e2]
      refine ⟨rfl, _, rfl, ?_⟩
      refine iteF ?_
      have ak : atI ((z.l.map fun D => decide (C = D)).map V.bl) (0 + (i2 : Int)) = some (.bl true) := by
        rw [Int.zero_add]
        exact atI_nat (j := i2) (by rw [List.getElem?_map, List.getElem?_map, e2]; simp)
      refine ⟨_, rfl, _, rfl, pk, _, _, _, rfl, rfl, SqL.of l7, ak, _, rfl, ?_⟩
      refine iteF ?_
      exact ⟨s67, _, _, _, _, _, rfl⟩
    · rintro σ H6 ⟨s6, y3, y7, y8, y9, y10, rfl⟩
      -- the fields
      refine ⟨_, rfl, m, as, v', u, rfl, s6 _ _ hm, paired_same s6 hp, fun p1 t1 H7 s7 ht1 hp1 => ?_⟩
      refine ⟨t1, _, rfl, SqT.of ht1, rfl, ?_⟩
      have s67 := s6.trans s7
      have I7 := I5.same s67
      have D7 := dp_same (s5.trans s67) _ Dv
      have U7 := dp_same (s5.trans s67) _ Du
      have r9 : (List.replicate (9 : Int).toNat [v']).flatten = List.replicate 9 v' := rfl
      have reads : ∀ {H' : Hp} {q9 : Addr}, Same H7 H' → H' q9 = some (.lst (List.replicate 9 v')) → Dp K H' (.ref q9) (.list (List.replicate 9 dv)) := fun s e => .lst (SqL.of e) (dp_rep (dp_same s _ D7) 9)
      -- first, last; repr(first)
      refine ⟨_, _, rfl, ?_⟩
      refine ⟨_, _, rfl, ?_⟩
      refine ⟨rfl, ?_⟩
      refine ⟨_, rfl, _, _, rfl, reads (Same.refl _) hp1, Lv.s, Lv.h, Lv.d, Lv.z, ?_⟩
      -- repr([one] * 9)
      refine ⟨_, rfl, by show 1 ≤ sizeLine; rw [sizeLine_eq]; decide, fun q8 h8 => ?_⟩
      refine ⟨q8, 9, [v'], rfl, rfl, upd_same, by decide, by decide, by show 1 * 9 ≤ sizeLine; rw [sizeLine_eq]; decide, fun q9 h9 => ?_⟩
      rw [r9]
      have s9 := (smN (o := .lst [v']) (Same.refl H7) h8).trans (smN (o := .lst (List.replicate 9 v')) (Same.refl _) h9)
      refine ⟨_, _, rfl, reads s9 upd_same, Lv.s, Lv.h, Lv.d, Lv.z, rfl, ?_⟩
      refine ⟨_, rfl, ?_⟩
      rw [decide_eq_true rfl]
      refine iteF ?_
      -- repr(last), repr(two)
      refine ⟨_, rfl, _, _, rfl, dp_same s9 _ U7, Su.s, Su.h, Su.d, Su.z, ?_⟩
      refine ⟨_, rfl, _, _, rfl, dp_same s9 _ U7, Su.s, Su.h, Su.d, Su.z, rfl, ?_⟩
      refine ⟨_, rfl, ?_⟩
      rw [decide_eq_true rfl]
      refine iteF ?_
      exact ⟨I7.same s9, _, _, _, _, _, _, _, _, rfl⟩
end
end Fb
set_option maxRecDepth 100000
set_option maxHeartbeats 4000000
namespace Fb
open PySem PySem.Spec PyProof.Rows L2
theorem XF.of {K : PySem.W.Frag} {h : Heap} {mg : Str → Option Value} {fe C N : Addr} {x nm q : Str} {bs : List Value} {sn : List Str} {sub : List Value} {ab : Bool} {col : Option Bool} {dd : Option Addr} {k0 k1 k2 k3 k5 : Option Value} (X : K.In h) (G : h.Ns mainGlobals mg)
    (g : PySem.W.nsIn K mainGlobals x = some (some (.ref C))) (ob : K.lookup C = some (excClassObj nm q C N bs (bmX fe) true sn sub ab col dd k0 k1 k2 k3 k5 "ValueError.__new__")) (kp : PySem.W.keepIn K (.ref C) = true) (ty : PySem.W.typeIn K (.ref C) = some (.type "type"))
    (sa : PySem.W.findIn K (.ref C) "__setattr__" = some (some (.builtin "object.__setattr__"))) (ga : PySem.W.findIn K (.ref C) "__getattribute__" = some (some (.builtin "BaseException.__getattribute__"))) (gg : PySem.W.findIn K (.ref C) "__getattr__" = some none)
    (ca : PySem.W.findIn K (.ref C) "__class__" = some (some (.builtin "object.__class__"))) : XF K mg fe x C :=
  ⟨PySem.W.mg_of X G g, ⟨nm, q, N, bs, sn, sub, ab, col, dd, k0, k1, k2, k3, k5, ob⟩, kp, ty, sa, ga, gg, ca⟩
theorem all_mk {l : PySem.W.OpenLaw} {w : World} {K : PySem.W.Frag} {h : Heap} {mg : Str → Option Value} {fa : Addr} (X : K.In h) (G : h.Ns mainGlobals mg) (hfa : mg "law" = some (.ref fa))
    {c0 c1 c2 c3 c4 c5 c6 c7 c8 c9 c10 c11 c12 c13 c14 c15 c16 c17 c18 fe : Addr}
    {N0 : Addr} {nm0 q0 : Str} {bs0 : List Value} {sn0 : List Str} {sub0 : List Value} {ab0 : Bool} {col0 : Option Bool} {dd0 : Option Addr} {k0_0 k1_0 k2_0 k3_0 k5_0 : Option Value}
    {f0 : Addr} {od0 an0 : Option Addr} {sl0 : Array (Option Value)} {oc0 kV0 dc0 pm0 cd0 ct0 : Value}
    {N1 : Addr} {nm1 q1 : Str} {bs1 : List Value} {sn1 : List Str} {sub1 : List Value} {ab1 : Bool} {col1 : Option Bool} {dd1 : Option Addr} {k0_1 k1_1 k2_1 k3_1 k5_1 : Option Value}
    {N2 : Addr} {nm2 q2 : Str} {bs2 : List Value} {sn2 : List Str} {sub2 : List Value} {ab2 : Bool} {col2 : Option Bool} {dd2 : Option Addr} {k0_2 k1_2 k2_2 k3_2 k5_2 : Option Value}
    {N3 : Addr} {nm3 q3 : Str} {bs3 : List Value} {sn3 : List Str} {sub3 : List Value} {ab3 : Bool} {col3 : Option Bool} {dd3 : Option Addr} {k0_3 k1_3 k2_3 k3_3 k5_3 : Option Value}
    {N4 : Addr} {nm4 q4 : Str} {bs4 : List Value} {sn4 : List Str} {sub4 : List Value} {ab4 : Bool} {col4 : Option Bool} {dd4 : Option Addr} {k0_4 k1_4 k2_4 k3_4 k5_4 : Option Value}
    {N5 : Addr} {nm5 q5 : Str} {bs5 : List Value} {sn5 : List Str} {sub5 : List Value} {ab5 : Bool} {col5 : Option Bool} {dd5 : Option Addr} {k0_5 k1_5 k2_5 k3_5 k5_5 : Option Value}
    {N6 : Addr} {nm6 q6 : Str} {bs6 : List Value} {sn6 : List Str} {sub6 : List Value} {ab6 : Bool} {col6 : Option Bool} {dd6 : Option Addr} {k0_6 k1_6 k2_6 k3_6 k5_6 : Option Value}
    {f6 : Addr} {od6 an6 : Option Addr} {sl6 : Array (Option Value)} {oc6 kV6 dc6 pm6 cd6 ct6 : Value}
    {N7 : Addr} {nm7 q7 : Str} {bs7 : List Value} {sn7 : List Str} {sub7 : List Value} {ab7 : Bool} {col7 : Option Bool} {dd7 : Option Addr} {k0_7 k1_7 k2_7 k3_7 k5_7 : Option Value}
    {f7 : Addr} {od7 an7 : Option Addr} {sl7 : Array (Option Value)} {oc7 kV7 dc7 pm7 cd7 ct7 : Value}
    {N8 : Addr} {nm8 q8 : Str} {bs8 : List Value} {sn8 : List Str} {sub8 : List Value} {ab8 : Bool} {col8 : Option Bool} {dd8 : Option Addr} {k0_8 k1_8 k2_8 k3_8 k5_8 : Option Value}
    {f8 : Addr} {od8 an8 : Option Addr} {sl8 : Array (Option Value)} {oc8 kV8 dc8 pm8 cd8 ct8 : Value}
    {N9 : Addr} {nm9 q9 : Str} {bs9 : List Value} {sn9 : List Str} {sub9 : List Value} {ab9 : Bool} {col9 : Option Bool} {dd9 : Option Addr} {k0_9 k1_9 k2_9 k3_9 k5_9 : Option Value}
    {N10 : Addr} {nm10 q10 : Str} {bs10 : List Value} {sn10 : List Str} {sub10 : List Value} {ab10 : Bool} {col10 : Option Bool} {dd10 : Option Addr} {k0_10 k1_10 k2_10 k3_10 k5_10 : Option Value}
    {f10 : Addr} {od10 an10 : Option Addr} {sl10 : Array (Option Value)} {oc10 kV10 dc10 pm10 cd10 ct10 : Value}
    {N11 : Addr} {nm11 q11 : Str} {bs11 : List Value} {sn11 : List Str} {sub11 : List Value} {ab11 : Bool} {col11 : Option Bool} {dd11 : Option Addr} {k0_11 k1_11 k2_11 k3_11 k5_11 : Option Value}
    {N12 : Addr} {nm12 q12 : Str} {bs12 : List Value} {sn12 : List Str} {sub12 : List Value} {ab12 : Bool} {col12 : Option Bool} {dd12 : Option Addr} {k0_12 k1_12 k2_12 k3_12 k5_12 : Option Value}
    {N13 : Addr} {nm13 q13 : Str} {bs13 : List Value} {sn13 : List Str} {sub13 : List Value} {ab13 : Bool} {col13 : Option Bool} {dd13 : Option Addr} {k0_13 k1_13 k2_13 k3_13 k5_13 : Option Value}
    {f13 : Addr} {od13 an13 : Option Addr} {sl13 : Array (Option Value)} {oc13 kV13 dc13 pm13 cd13 ct13 : Value}
    {N14 : Addr} {nm14 q14 : Str} {bs14 : List Value} {sn14 : List Str} {sub14 : List Value} {ab14 : Bool} {col14 : Option Bool} {dd14 : Option Addr} {k0_14 k1_14 k2_14 k3_14 k5_14 : Option Value}
    {N15 : Addr} {nm15 q15 : Str} {bs15 : List Value} {sn15 : List Str} {sub15 : List Value} {ab15 : Bool} {col15 : Option Bool} {dd15 : Option Addr} {k0_15 k1_15 k2_15 k3_15 k5_15 : Option Value}
    {f15 : Addr} {od15 an15 : Option Addr} {sl15 : Array (Option Value)} {oc15 kV15 dc15 pm15 cd15 ct15 : Value}
    {N16 : Addr} {nm16 q16 : Str} {bs16 : List Value} {sn16 : List Str} {sub16 : List Value} {ab16 : Bool} {col16 : Option Bool} {dd16 : Option Addr} {k0_16 k1_16 k2_16 k3_16 k5_16 : Option Value}
    {f16 : Addr} {od16 an16 : Option Addr} {sl16 : Array (Option Value)} {oc16 kV16 dc16 pm16 cd16 ct16 : Value}
    {N17 : Addr} {nm17 q17 : Str} {bs17 : List Value} {sn17 : List Str} {sub17 : List Value} {ab17 : Bool} {col17 : Option Bool} {dd17 : Option Addr} {k0_17 k1_17 k2_17 k3_17 k5_17 : Option Value}
    {f17 : Addr} {od17 an17 : Option Addr} {sl17 : Array (Option Value)} {oc17 kV17 dc17 pm17 cd17 ct17 : Value}
    {N18 : Addr} {nm18 q18 : Str} {bs18 : List Value} {sn18 : List Str} {sub18 : List Value} {ab18 : Bool} {col18 : Option Bool} {dd18 : Option Addr} {k0_18 k1_18 k2_18 k3_18 k5_18 : Option Value}
    {a_pen : Addr} {od_pen an_pen : Option Addr} {sl_pen : Array (Option Value)} {oc_pen kV_pen dc_pen pm_pen cd_pen ct_pen : Value}
    {a_take : Addr} {od_take an_take : Option Addr} {sl_take : Array (Option Value)} {oc_take kV_take dc_take pm_take cd_take ct_take : Value}
    {a_kinds : Addr} {od_kinds an_kinds : Option Addr} {sl_kinds : Array (Option Value)} {oc_kinds kV_kinds dc_kinds pm_kinds cd_kinds ct_kinds : Value}
    {a_made : Addr} {od_made an_made : Option Addr} {sl_made : Array (Option Value)} {oc_made kV_made dc_made pm_made cd_made ct_made : Value}
    {a_fields : Addr} {od_fields an_fields : Option Addr} {sl_fields : Array (Option Value)} {oc_fields kV_fields dc_fields pm_fields cd_fields ct_fields : Value}
    {a_law : Addr} {od_law an_law : Option Addr} {sl_law : Array (Option Value)} {oc_law kV_law dc_law pm_law cd_law ct_law : Value}
    (gF : PySem.W.nsIn K mainGlobals "FallenError" = some (some (.ref fe)))
    (g0 : PySem.W.nsIn K mainGlobals "NoPattern" = some (some (.ref c0)))
    (o0 : K.lookup c0 = some (excClassObj nm0 q0 c0 N0 bs0 (bmX fe) true sn0 sub0 ab0 col0 dd0 k0_0 k1_0 k2_0 k3_0 k5_0 "ValueError.__new__"))
    (kp0 : PySem.W.keepIn K (.ref c0) = true)
    (ty0 : PySem.W.typeIn K (.ref c0) = some (.type "type"))
    (sa0 : PySem.W.findIn K (.ref c0) "__setattr__" = some (some (.builtin "object.__setattr__")))
    (ga0 : PySem.W.findIn K (.ref c0) "__getattribute__" = some (some (.builtin "BaseException.__getattribute__")))
    (gg0 : PySem.W.findIn K (.ref c0) "__getattr__" = some none)
    (ca0 : PySem.W.findIn K (.ref c0) "__class__" = some (some (.builtin "object.__class__")))
    (i0 : PySem.W.findIn K (.ref c0) "__init__" = some (some (.ref f0)))
    (t0 : PySem.W.typeIn K (.ref f0) = some (.type "function"))
    (l0 : K.lookup f0 = some ⟨oc0, od0, .func (PySem.W.fnOf "__init__" "NoPattern.__init__" (defArgs s_i0) (defBody s_i0) (defScope s_i0) .none kV0 dc0 pm0 an0 cd0 ct0), sl0⟩)
    (cd0h : PySem.W.codeIn K cd0 "NoPattern.__init__" = true)
    (kf0 : PySem.W.keepIn K (.ref f0) = true)
    (n0_at : PySem.W.findIn K (.ref c0) "at" = some none)
    (g1 : PySem.W.nsIn K mainGlobals "Unlike" = some (some (.ref c1)))
    (o1 : K.lookup c1 = some (excClassObj nm1 q1 c1 N1 bs1 (bmX fe) true sn1 sub1 ab1 col1 dd1 k0_1 k1_1 k2_1 k3_1 k5_1 "ValueError.__new__"))
    (kp1 : PySem.W.keepIn K (.ref c1) = true)
    (ty1 : PySem.W.typeIn K (.ref c1) = some (.type "type"))
    (sa1 : PySem.W.findIn K (.ref c1) "__setattr__" = some (some (.builtin "object.__setattr__")))
    (ga1 : PySem.W.findIn K (.ref c1) "__getattribute__" = some (some (.builtin "BaseException.__getattribute__")))
    (gg1 : PySem.W.findIn K (.ref c1) "__getattr__" = some none)
    (ca1 : PySem.W.findIn K (.ref c1) "__class__" = some (some (.builtin "object.__class__")))
    (e1 : PySem.W.excIn K c1 [.type "ValueError", .type "Exception", .type "BaseException", .type "object"] "ValueError.__new__" = true)
    (g2 : PySem.W.nsIn K mainGlobals "NoBit" = some (some (.ref c2)))
    (o2 : K.lookup c2 = some (excClassObj nm2 q2 c2 N2 bs2 (bmX fe) true sn2 sub2 ab2 col2 dd2 k0_2 k1_2 k2_2 k3_2 k5_2 "ValueError.__new__"))
    (kp2 : PySem.W.keepIn K (.ref c2) = true)
    (ty2 : PySem.W.typeIn K (.ref c2) = some (.type "type"))
    (sa2 : PySem.W.findIn K (.ref c2) "__setattr__" = some (some (.builtin "object.__setattr__")))
    (ga2 : PySem.W.findIn K (.ref c2) "__getattribute__" = some (some (.builtin "BaseException.__getattribute__")))
    (gg2 : PySem.W.findIn K (.ref c2) "__getattr__" = some none)
    (ca2 : PySem.W.findIn K (.ref c2) "__class__" = some (some (.builtin "object.__class__")))
    (e2 : PySem.W.excIn K c2 [.type "ValueError", .type "Exception", .type "BaseException", .type "object"] "ValueError.__new__" = true)
    (g3 : PySem.W.nsIn K mainGlobals "NoWrite" = some (some (.ref c3)))
    (o3 : K.lookup c3 = some (excClassObj nm3 q3 c3 N3 bs3 (bmX fe) true sn3 sub3 ab3 col3 dd3 k0_3 k1_3 k2_3 k3_3 k5_3 "ValueError.__new__"))
    (kp3 : PySem.W.keepIn K (.ref c3) = true)
    (ty3 : PySem.W.typeIn K (.ref c3) = some (.type "type"))
    (sa3 : PySem.W.findIn K (.ref c3) "__setattr__" = some (some (.builtin "object.__setattr__")))
    (ga3 : PySem.W.findIn K (.ref c3) "__getattribute__" = some (some (.builtin "BaseException.__getattribute__")))
    (gg3 : PySem.W.findIn K (.ref c3) "__getattr__" = some none)
    (ca3 : PySem.W.findIn K (.ref c3) "__class__" = some (some (.builtin "object.__class__")))
    (e3 : PySem.W.excIn K c3 [.type "ValueError", .type "Exception", .type "BaseException", .type "object"] "ValueError.__new__" = true)
    (g4 : PySem.W.nsIn K mainGlobals "Rise" = some (some (.ref c4)))
    (o4 : K.lookup c4 = some (excClassObj nm4 q4 c4 N4 bs4 (bmX fe) true sn4 sub4 ab4 col4 dd4 k0_4 k1_4 k2_4 k3_4 k5_4 "ValueError.__new__"))
    (kp4 : PySem.W.keepIn K (.ref c4) = true)
    (ty4 : PySem.W.typeIn K (.ref c4) = some (.type "type"))
    (sa4 : PySem.W.findIn K (.ref c4) "__setattr__" = some (some (.builtin "object.__setattr__")))
    (ga4 : PySem.W.findIn K (.ref c4) "__getattribute__" = some (some (.builtin "BaseException.__getattribute__")))
    (gg4 : PySem.W.findIn K (.ref c4) "__getattr__" = some none)
    (ca4 : PySem.W.findIn K (.ref c4) "__class__" = some (some (.builtin "object.__class__")))
    (e4 : PySem.W.excIn K c4 [.type "ValueError", .type "Exception", .type "BaseException", .type "object"] "ValueError.__new__" = true)
    (g5 : PySem.W.nsIn K mainGlobals "NotInBox" = some (some (.ref c5)))
    (o5 : K.lookup c5 = some (excClassObj nm5 q5 c5 N5 bs5 (bmX fe) true sn5 sub5 ab5 col5 dd5 k0_5 k1_5 k2_5 k3_5 k5_5 "ValueError.__new__"))
    (kp5 : PySem.W.keepIn K (.ref c5) = true)
    (ty5 : PySem.W.typeIn K (.ref c5) = some (.type "type"))
    (sa5 : PySem.W.findIn K (.ref c5) "__setattr__" = some (some (.builtin "object.__setattr__")))
    (ga5 : PySem.W.findIn K (.ref c5) "__getattribute__" = some (some (.builtin "BaseException.__getattribute__")))
    (gg5 : PySem.W.findIn K (.ref c5) "__getattr__" = some none)
    (ca5 : PySem.W.findIn K (.ref c5) "__class__" = some (some (.builtin "object.__class__")))
    (e5 : PySem.W.excIn K c5 [.type "ValueError", .type "Exception", .type "BaseException", .type "object"] "ValueError.__new__" = true)
    (g6 : PySem.W.nsIn K mainGlobals "Cut" = some (some (.ref c6)))
    (o6 : K.lookup c6 = some (excClassObj nm6 q6 c6 N6 bs6 (bmX fe) true sn6 sub6 ab6 col6 dd6 k0_6 k1_6 k2_6 k3_6 k5_6 "ValueError.__new__"))
    (kp6 : PySem.W.keepIn K (.ref c6) = true)
    (ty6 : PySem.W.typeIn K (.ref c6) = some (.type "type"))
    (sa6 : PySem.W.findIn K (.ref c6) "__setattr__" = some (some (.builtin "object.__setattr__")))
    (ga6 : PySem.W.findIn K (.ref c6) "__getattribute__" = some (some (.builtin "BaseException.__getattribute__")))
    (gg6 : PySem.W.findIn K (.ref c6) "__getattr__" = some none)
    (ca6 : PySem.W.findIn K (.ref c6) "__class__" = some (some (.builtin "object.__class__")))
    (i6 : PySem.W.findIn K (.ref c6) "__init__" = some (some (.ref f6)))
    (t6 : PySem.W.typeIn K (.ref f6) = some (.type "function"))
    (l6 : K.lookup f6 = some ⟨oc6, od6, .func (PySem.W.fnOf "__init__" "Cut.__init__" (defArgs s_i6) (defBody s_i6) (defScope s_i6) .none kV6 dc6 pm6 an6 cd6 ct6), sl6⟩)
    (cd6h : PySem.W.codeIn K cd6 "Cut.__init__" = true)
    (kf6 : PySem.W.keepIn K (.ref f6) = true)
    (n6_found : PySem.W.findIn K (.ref c6) "found" = some none)
    (g7 : PySem.W.nsIn K mainGlobals "NoStore" = some (some (.ref c7)))
    (o7 : K.lookup c7 = some (excClassObj nm7 q7 c7 N7 bs7 (bmX fe) true sn7 sub7 ab7 col7 dd7 k0_7 k1_7 k2_7 k3_7 k5_7 "ValueError.__new__"))
    (kp7 : PySem.W.keepIn K (.ref c7) = true)
    (ty7 : PySem.W.typeIn K (.ref c7) = some (.type "type"))
    (sa7 : PySem.W.findIn K (.ref c7) "__setattr__" = some (some (.builtin "object.__setattr__")))
    (ga7 : PySem.W.findIn K (.ref c7) "__getattribute__" = some (some (.builtin "BaseException.__getattribute__")))
    (gg7 : PySem.W.findIn K (.ref c7) "__getattr__" = some none)
    (ca7 : PySem.W.findIn K (.ref c7) "__class__" = some (some (.builtin "object.__class__")))
    (i7 : PySem.W.findIn K (.ref c7) "__init__" = some (some (.ref f7)))
    (t7 : PySem.W.typeIn K (.ref f7) = some (.type "function"))
    (l7 : K.lookup f7 = some ⟨oc7, od7, .func (PySem.W.fnOf "__init__" "NoStore.__init__" (defArgs s_i7) (defBody s_i7) (defScope s_i7) .none kV7 dc7 pm7 an7 cd7 ct7), sl7⟩)
    (cd7h : PySem.W.codeIn K cd7 "NoStore.__init__" = true)
    (kf7 : PySem.W.keepIn K (.ref f7) = true)
    (n7_part : PySem.W.findIn K (.ref c7) "part" = some none)
    (n7_at : PySem.W.findIn K (.ref c7) "at" = some none)
    (g8 : PySem.W.nsIn K mainGlobals "NoDriver" = some (some (.ref c8)))
    (o8 : K.lookup c8 = some (excClassObj nm8 q8 c8 N8 bs8 (bmX fe) true sn8 sub8 ab8 col8 dd8 k0_8 k1_8 k2_8 k3_8 k5_8 "ValueError.__new__"))
    (kp8 : PySem.W.keepIn K (.ref c8) = true)
    (ty8 : PySem.W.typeIn K (.ref c8) = some (.type "type"))
    (sa8 : PySem.W.findIn K (.ref c8) "__setattr__" = some (some (.builtin "object.__setattr__")))
    (ga8 : PySem.W.findIn K (.ref c8) "__getattribute__" = some (some (.builtin "BaseException.__getattribute__")))
    (gg8 : PySem.W.findIn K (.ref c8) "__getattr__" = some none)
    (ca8 : PySem.W.findIn K (.ref c8) "__class__" = some (some (.builtin "object.__class__")))
    (i8 : PySem.W.findIn K (.ref c8) "__init__" = some (some (.ref f8)))
    (t8 : PySem.W.typeIn K (.ref f8) = some (.type "function"))
    (l8 : K.lookup f8 = some ⟨oc8, od8, .func (PySem.W.fnOf "__init__" "NoDriver.__init__" (defArgs s_i8) (defBody s_i8) (defScope s_i8) .none kV8 dc8 pm8 an8 cd8 ct8), sl8⟩)
    (cd8h : PySem.W.codeIn K cd8 "NoDriver.__init__" = true)
    (kf8 : PySem.W.keepIn K (.ref f8) = true)
    (n8_at : PySem.W.findIn K (.ref c8) "at" = some none)
    (g9 : PySem.W.nsIn K mainGlobals "NoState" = some (some (.ref c9)))
    (o9 : K.lookup c9 = some (excClassObj nm9 q9 c9 N9 bs9 (bmX fe) true sn9 sub9 ab9 col9 dd9 k0_9 k1_9 k2_9 k3_9 k5_9 "ValueError.__new__"))
    (kp9 : PySem.W.keepIn K (.ref c9) = true)
    (ty9 : PySem.W.typeIn K (.ref c9) = some (.type "type"))
    (sa9 : PySem.W.findIn K (.ref c9) "__setattr__" = some (some (.builtin "object.__setattr__")))
    (ga9 : PySem.W.findIn K (.ref c9) "__getattribute__" = some (some (.builtin "BaseException.__getattribute__")))
    (gg9 : PySem.W.findIn K (.ref c9) "__getattr__" = some none)
    (ca9 : PySem.W.findIn K (.ref c9) "__class__" = some (some (.builtin "object.__class__")))
    (e9 : PySem.W.excIn K c9 [.type "ValueError", .type "Exception", .type "BaseException", .type "object"] "ValueError.__new__" = true)
    (g10 : PySem.W.nsIn K mainGlobals "NoEvent" = some (some (.ref c10)))
    (o10 : K.lookup c10 = some (excClassObj nm10 q10 c10 N10 bs10 (bmX fe) true sn10 sub10 ab10 col10 dd10 k0_10 k1_10 k2_10 k3_10 k5_10 "ValueError.__new__"))
    (kp10 : PySem.W.keepIn K (.ref c10) = true)
    (ty10 : PySem.W.typeIn K (.ref c10) = some (.type "type"))
    (sa10 : PySem.W.findIn K (.ref c10) "__setattr__" = some (some (.builtin "object.__setattr__")))
    (ga10 : PySem.W.findIn K (.ref c10) "__getattribute__" = some (some (.builtin "BaseException.__getattribute__")))
    (gg10 : PySem.W.findIn K (.ref c10) "__getattr__" = some none)
    (ca10 : PySem.W.findIn K (.ref c10) "__class__" = some (some (.builtin "object.__class__")))
    (i10 : PySem.W.findIn K (.ref c10) "__init__" = some (some (.ref f10)))
    (t10 : PySem.W.typeIn K (.ref f10) = some (.type "function"))
    (l10 : K.lookup f10 = some ⟨oc10, od10, .func (PySem.W.fnOf "__init__" "NoEvent.__init__" (defArgs s_i10) (defBody s_i10) (defScope s_i10) .none kV10 dc10 pm10 an10 cd10 ct10), sl10⟩)
    (cd10h : PySem.W.codeIn K cd10 "NoEvent.__init__" = true)
    (kf10 : PySem.W.keepIn K (.ref f10) = true)
    (n10_at : PySem.W.findIn K (.ref c10) "at" = some none)
    (g11 : PySem.W.nsIn K mainGlobals "NoOrder" = some (some (.ref c11)))
    (o11 : K.lookup c11 = some (excClassObj nm11 q11 c11 N11 bs11 (bmX fe) true sn11 sub11 ab11 col11 dd11 k0_11 k1_11 k2_11 k3_11 k5_11 "ValueError.__new__"))
    (kp11 : PySem.W.keepIn K (.ref c11) = true)
    (ty11 : PySem.W.typeIn K (.ref c11) = some (.type "type"))
    (sa11 : PySem.W.findIn K (.ref c11) "__setattr__" = some (some (.builtin "object.__setattr__")))
    (ga11 : PySem.W.findIn K (.ref c11) "__getattribute__" = some (some (.builtin "BaseException.__getattribute__")))
    (gg11 : PySem.W.findIn K (.ref c11) "__getattr__" = some none)
    (ca11 : PySem.W.findIn K (.ref c11) "__class__" = some (some (.builtin "object.__class__")))
    (e11 : PySem.W.excIn K c11 [.type "ValueError", .type "Exception", .type "BaseException", .type "object"] "ValueError.__new__" = true)
    (g12 : PySem.W.nsIn K mainGlobals "TooMany" = some (some (.ref c12)))
    (o12 : K.lookup c12 = some (excClassObj nm12 q12 c12 N12 bs12 (bmX fe) true sn12 sub12 ab12 col12 dd12 k0_12 k1_12 k2_12 k3_12 k5_12 "ValueError.__new__"))
    (kp12 : PySem.W.keepIn K (.ref c12) = true)
    (ty12 : PySem.W.typeIn K (.ref c12) = some (.type "type"))
    (sa12 : PySem.W.findIn K (.ref c12) "__setattr__" = some (some (.builtin "object.__setattr__")))
    (ga12 : PySem.W.findIn K (.ref c12) "__getattribute__" = some (some (.builtin "BaseException.__getattribute__")))
    (gg12 : PySem.W.findIn K (.ref c12) "__getattr__" = some none)
    (ca12 : PySem.W.findIn K (.ref c12) "__class__" = some (some (.builtin "object.__class__")))
    (e12 : PySem.W.excIn K c12 [.type "ValueError", .type "Exception", .type "BaseException", .type "object"] "ValueError.__new__" = true)
    (g13 : PySem.W.nsIn K mainGlobals "NoField" = some (some (.ref c13)))
    (o13 : K.lookup c13 = some (excClassObj nm13 q13 c13 N13 bs13 (bmX fe) true sn13 sub13 ab13 col13 dd13 k0_13 k1_13 k2_13 k3_13 k5_13 "ValueError.__new__"))
    (kp13 : PySem.W.keepIn K (.ref c13) = true)
    (ty13 : PySem.W.typeIn K (.ref c13) = some (.type "type"))
    (sa13 : PySem.W.findIn K (.ref c13) "__setattr__" = some (some (.builtin "object.__setattr__")))
    (ga13 : PySem.W.findIn K (.ref c13) "__getattribute__" = some (some (.builtin "BaseException.__getattribute__")))
    (gg13 : PySem.W.findIn K (.ref c13) "__getattr__" = some none)
    (ca13 : PySem.W.findIn K (.ref c13) "__class__" = some (some (.builtin "object.__class__")))
    (i13 : PySem.W.findIn K (.ref c13) "__init__" = some (some (.ref f13)))
    (t13 : PySem.W.typeIn K (.ref f13) = some (.type "function"))
    (l13 : K.lookup f13 = some ⟨oc13, od13, .func (PySem.W.fnOf "__init__" "NoField.__init__" (defArgs s_i13) (defBody s_i13) (defScope s_i13) .none kV13 dc13 pm13 an13 cd13 ct13), sl13⟩)
    (cd13h : PySem.W.codeIn K cd13 "NoField.__init__" = true)
    (kf13 : PySem.W.keepIn K (.ref f13) = true)
    (n13_part : PySem.W.findIn K (.ref c13) "part" = some none)
    (g14 : PySem.W.nsIn K mainGlobals "NoRoom" = some (some (.ref c14)))
    (o14 : K.lookup c14 = some (excClassObj nm14 q14 c14 N14 bs14 (bmX fe) true sn14 sub14 ab14 col14 dd14 k0_14 k1_14 k2_14 k3_14 k5_14 "ValueError.__new__"))
    (kp14 : PySem.W.keepIn K (.ref c14) = true)
    (ty14 : PySem.W.typeIn K (.ref c14) = some (.type "type"))
    (sa14 : PySem.W.findIn K (.ref c14) "__setattr__" = some (some (.builtin "object.__setattr__")))
    (ga14 : PySem.W.findIn K (.ref c14) "__getattribute__" = some (some (.builtin "BaseException.__getattribute__")))
    (gg14 : PySem.W.findIn K (.ref c14) "__getattr__" = some none)
    (ca14 : PySem.W.findIn K (.ref c14) "__class__" = some (some (.builtin "object.__class__")))
    (e14 : PySem.W.excIn K c14 [.type "ValueError", .type "Exception", .type "BaseException", .type "object"] "ValueError.__new__" = true)
    (g15 : PySem.W.nsIn K mainGlobals "Stranded" = some (some (.ref c15)))
    (o15 : K.lookup c15 = some (excClassObj nm15 q15 c15 N15 bs15 (bmX fe) true sn15 sub15 ab15 col15 dd15 k0_15 k1_15 k2_15 k3_15 k5_15 "ValueError.__new__"))
    (kp15 : PySem.W.keepIn K (.ref c15) = true)
    (ty15 : PySem.W.typeIn K (.ref c15) = some (.type "type"))
    (sa15 : PySem.W.findIn K (.ref c15) "__setattr__" = some (some (.builtin "object.__setattr__")))
    (ga15 : PySem.W.findIn K (.ref c15) "__getattribute__" = some (some (.builtin "BaseException.__getattribute__")))
    (gg15 : PySem.W.findIn K (.ref c15) "__getattr__" = some none)
    (ca15 : PySem.W.findIn K (.ref c15) "__class__" = some (some (.builtin "object.__class__")))
    (i15 : PySem.W.findIn K (.ref c15) "__init__" = some (some (.ref f15)))
    (t15 : PySem.W.typeIn K (.ref f15) = some (.type "function"))
    (l15 : K.lookup f15 = some ⟨oc15, od15, .func (PySem.W.fnOf "__init__" "Stranded.__init__" (defArgs s_i15) (defBody s_i15) (defScope s_i15) .none kV15 dc15 pm15 an15 cd15 ct15), sl15⟩)
    (cd15h : PySem.W.codeIn K cd15 "Stranded.__init__" = true)
    (kf15 : PySem.W.keepIn K (.ref f15) = true)
    (n15_found : PySem.W.findIn K (.ref c15) "found" = some none)
    (g16 : PySem.W.nsIn K mainGlobals "Foreign" = some (some (.ref c16)))
    (o16 : K.lookup c16 = some (excClassObj nm16 q16 c16 N16 bs16 (bmX fe) true sn16 sub16 ab16 col16 dd16 k0_16 k1_16 k2_16 k3_16 k5_16 "ValueError.__new__"))
    (kp16 : PySem.W.keepIn K (.ref c16) = true)
    (ty16 : PySem.W.typeIn K (.ref c16) = some (.type "type"))
    (sa16 : PySem.W.findIn K (.ref c16) "__setattr__" = some (some (.builtin "object.__setattr__")))
    (ga16 : PySem.W.findIn K (.ref c16) "__getattribute__" = some (some (.builtin "BaseException.__getattribute__")))
    (gg16 : PySem.W.findIn K (.ref c16) "__getattr__" = some none)
    (ca16 : PySem.W.findIn K (.ref c16) "__class__" = some (some (.builtin "object.__class__")))
    (i16 : PySem.W.findIn K (.ref c16) "__init__" = some (some (.ref f16)))
    (t16 : PySem.W.typeIn K (.ref f16) = some (.type "function"))
    (l16 : K.lookup f16 = some ⟨oc16, od16, .func (PySem.W.fnOf "__init__" "Foreign.__init__" (defArgs s_i16) (defBody s_i16) (defScope s_i16) .none kV16 dc16 pm16 an16 cd16 ct16), sl16⟩)
    (cd16h : PySem.W.codeIn K cd16 "Foreign.__init__" = true)
    (kf16 : PySem.W.keepIn K (.ref f16) = true)
    (n16_found : PySem.W.findIn K (.ref c16) "found" = some none)
    (g17 : PySem.W.nsIn K mainGlobals "NoText" = some (some (.ref c17)))
    (o17 : K.lookup c17 = some (excClassObj nm17 q17 c17 N17 bs17 (bmX fe) true sn17 sub17 ab17 col17 dd17 k0_17 k1_17 k2_17 k3_17 k5_17 "ValueError.__new__"))
    (kp17 : PySem.W.keepIn K (.ref c17) = true)
    (ty17 : PySem.W.typeIn K (.ref c17) = some (.type "type"))
    (sa17 : PySem.W.findIn K (.ref c17) "__setattr__" = some (some (.builtin "object.__setattr__")))
    (ga17 : PySem.W.findIn K (.ref c17) "__getattribute__" = some (some (.builtin "BaseException.__getattribute__")))
    (gg17 : PySem.W.findIn K (.ref c17) "__getattr__" = some none)
    (ca17 : PySem.W.findIn K (.ref c17) "__class__" = some (some (.builtin "object.__class__")))
    (i17 : PySem.W.findIn K (.ref c17) "__init__" = some (some (.ref f17)))
    (t17 : PySem.W.typeIn K (.ref f17) = some (.type "function"))
    (l17 : K.lookup f17 = some ⟨oc17, od17, .func (PySem.W.fnOf "__init__" "NoText.__init__" (defArgs s_i17) (defBody s_i17) (defScope s_i17) .none kV17 dc17 pm17 an17 cd17 ct17), sl17⟩)
    (cd17h : PySem.W.codeIn K cd17 "NoText.__init__" = true)
    (kf17 : PySem.W.keepIn K (.ref f17) = true)
    (n17_line : PySem.W.findIn K (.ref c17) "line" = some none)
    (g18 : PySem.W.nsIn K mainGlobals "NoRow" = some (some (.ref c18)))
    (o18 : K.lookup c18 = some (excClassObj nm18 q18 c18 N18 bs18 (bmX fe) true sn18 sub18 ab18 col18 dd18 k0_18 k1_18 k2_18 k3_18 k5_18 "ValueError.__new__"))
    (kp18 : PySem.W.keepIn K (.ref c18) = true)
    (ty18 : PySem.W.typeIn K (.ref c18) = some (.type "type"))
    (sa18 : PySem.W.findIn K (.ref c18) "__setattr__" = some (some (.builtin "object.__setattr__")))
    (ga18 : PySem.W.findIn K (.ref c18) "__getattribute__" = some (some (.builtin "BaseException.__getattribute__")))
    (gg18 : PySem.W.findIn K (.ref c18) "__getattr__" = some none)
    (ca18 : PySem.W.findIn K (.ref c18) "__class__" = some (some (.builtin "object.__class__")))
    (e18 : PySem.W.excIn K c18 [.type "ValueError", .type "Exception", .type "BaseException", .type "object"] "ValueError.__new__" = true)
    (clF : PySem.W.isClsIn K fe = true)
    (tyF : PySem.W.typeIn K (.ref fe) = some (.type "type"))
    (hn : PySem.W.specialIn K (.builtin "object.__class__") "__get__" = some (some (.builtin "getset_descriptor.__get__")))
    (ht : PySem.W.takesIn K (.builtin "object.__class__") = some true)
    (g_pen : PySem.W.nsIn K mainGlobals "_law_pen" = some (some (.ref a_pen)))
    (l_pen : K.lookup a_pen = some ⟨oc_pen, od_pen, .func (PySem.W.fnOf "_law_pen" "_law_pen" (defArgs s_Lpen) (defBody s_Lpen) (defScope s_Lpen) .none kV_pen dc_pen pm_pen an_pen cd_pen ct_pen), sl_pen⟩)
    (c_pen : PySem.W.codeIn K cd_pen "_law_pen" = true)
    (k_pen : PySem.W.keepIn K (.ref a_pen) = true)
    (g_take : PySem.W.nsIn K mainGlobals "_law_take" = some (some (.ref a_take)))
    (l_take : K.lookup a_take = some ⟨oc_take, od_take, .func (PySem.W.fnOf "_law_take" "_law_take" (defArgs s_Ltake) (defBody s_Ltake) (defScope s_Ltake) .none kV_take dc_take pm_take an_take cd_take ct_take), sl_take⟩)
    (c_take : PySem.W.codeIn K cd_take "_law_take" = true)
    (k_take : PySem.W.keepIn K (.ref a_take) = true)
    (g_kinds : PySem.W.nsIn K mainGlobals "_law_kinds" = some (some (.ref a_kinds)))
    (l_kinds : K.lookup a_kinds = some ⟨oc_kinds, od_kinds, .func (PySem.W.fnOf "_law_kinds" "_law_kinds" (defArgs s_Lkinds) (defBody s_Lkinds) (defScope s_Lkinds) .none kV_kinds dc_kinds pm_kinds an_kinds cd_kinds ct_kinds), sl_kinds⟩)
    (c_kinds : PySem.W.codeIn K cd_kinds "_law_kinds" = true)
    (k_kinds : PySem.W.keepIn K (.ref a_kinds) = true)
    (g_made : PySem.W.nsIn K mainGlobals "_law_made" = some (some (.ref a_made)))
    (l_made : K.lookup a_made = some ⟨oc_made, od_made, .func (PySem.W.fnOf "_law_made" "_law_made" (defArgs s_Lmade) (defBody s_Lmade) (defScope s_Lmade) .none kV_made dc_made pm_made an_made cd_made ct_made), sl_made⟩)
    (c_made : PySem.W.codeIn K cd_made "_law_made" = true)
    (k_made : PySem.W.keepIn K (.ref a_made) = true)
    (g_fields : PySem.W.nsIn K mainGlobals "_law_fields" = some (some (.ref a_fields)))
    (l_fields : K.lookup a_fields = some ⟨oc_fields, od_fields, .func (PySem.W.fnOf "_law_fields" "_law_fields" (defArgs s_Lfields) (defBody s_Lfields) (defScope s_Lfields) .none kV_fields dc_fields pm_fields an_fields cd_fields ct_fields), sl_fields⟩)
    (c_fields : PySem.W.codeIn K cd_fields "_law_fields" = true)
    (k_fields : PySem.W.keepIn K (.ref a_fields) = true)
    (g_law : PySem.W.nsIn K mainGlobals "law" = some (some (.ref a_law)))
    (l_law : K.lookup a_law = some ⟨oc_law, od_law, .func (PySem.W.fnOf "law" "law" (defArgs s_law) (defBody s_law) (defScope s_law) .none kV_law dc_law pm_law an_law cd_law ct_law), sl_law⟩)
    (c_law : PySem.W.codeIn K cd_law "law" = true)
    (k_law : PySem.W.keepIn K (.ref a_law) = true)
    (b_int : PySem.W.nsIn K mainGlobals "int" = some none)
    (b_len : PySem.W.nsIn K mainGlobals "len" = some none)
    (b_abs : PySem.W.nsIn K mainGlobals "abs" = some none)
    (b_list : PySem.W.nsIn K mainGlobals "list" = some none)
    (b_isinstance : PySem.W.nsIn K mainGlobals "isinstance" = some none)
    (b_repr : PySem.W.nsIn K mainGlobals "repr" = some none)
    (b_range : PySem.W.nsIn K mainGlobals "range" = some none)
    (b_ValueError : PySem.W.nsIn K mainGlobals "ValueError" = some none)
    (nd : ([fe, c0, c1, c2, c3, c4, c5, c6, c7, c8, c9, c10, c11, c12, c13, c14, c15, c16, c17, c18] : List Addr).Nodup)
    : ∃ fd : FuncData, (∀ (s : Shared) (v : Value), BindsTo s fd ⟨[v], []⟩ [("_law_script", v)]) ∧ ∀ base : Heap, K.In base → base.Ns mainGlobals mg → FnG l.prog w K mg base CX0 4 fa fd ["_law_script"] (spLaw K) := by
  have e := hfa.symm.trans (PySem.W.mg_of X G g_law)
  cases e
  have x0 : XF K mg fe "NoPattern" c0 := XF.of X G g0 o0 kp0 ty0 sa0 ga0 gg0 ca0
  have x1 : XF K mg fe "Unlike" c1 := XF.of X G g1 o1 kp1 ty1 sa1 ga1 gg1 ca1
  have x2 : XF K mg fe "NoBit" c2 := XF.of X G g2 o2 kp2 ty2 sa2 ga2 gg2 ca2
  have x3 : XF K mg fe "NoWrite" c3 := XF.of X G g3 o3 kp3 ty3 sa3 ga3 gg3 ca3
  have x4 : XF K mg fe "Rise" c4 := XF.of X G g4 o4 kp4 ty4 sa4 ga4 gg4 ca4
  have x5 : XF K mg fe "NotInBox" c5 := XF.of X G g5 o5 kp5 ty5 sa5 ga5 gg5 ca5
  have x6 : XF K mg fe "Cut" c6 := XF.of X G g6 o6 kp6 ty6 sa6 ga6 gg6 ca6
  have x7 : XF K mg fe "NoStore" c7 := XF.of X G g7 o7 kp7 ty7 sa7 ga7 gg7 ca7
  have x8 : XF K mg fe "NoDriver" c8 := XF.of X G g8 o8 kp8 ty8 sa8 ga8 gg8 ca8
  have x9 : XF K mg fe "NoState" c9 := XF.of X G g9 o9 kp9 ty9 sa9 ga9 gg9 ca9
  have x10 : XF K mg fe "NoEvent" c10 := XF.of X G g10 o10 kp10 ty10 sa10 ga10 gg10 ca10
  have x11 : XF K mg fe "NoOrder" c11 := XF.of X G g11 o11 kp11 ty11 sa11 ga11 gg11 ca11
  have x12 : XF K mg fe "TooMany" c12 := XF.of X G g12 o12 kp12 ty12 sa12 ga12 gg12 ca12
  have x13 : XF K mg fe "NoField" c13 := XF.of X G g13 o13 kp13 ty13 sa13 ga13 gg13 ca13
  have x14 : XF K mg fe "NoRoom" c14 := XF.of X G g14 o14 kp14 ty14 sa14 ga14 gg14 ca14
  have x15 : XF K mg fe "Stranded" c15 := XF.of X G g15 o15 kp15 ty15 sa15 ga15 gg15 ca15
  have x16 : XF K mg fe "Foreign" c16 := XF.of X G g16 o16 kp16 ty16 sa16 ga16 gg16 ca16
  have x17 : XF K mg fe "NoText" c17 := XF.of X G g17 o17 kp17 ty17 sa17 ga17 gg17 ca17
  have x18 : XF K mg fe "NoRow" c18 := XF.of X G g18 o18 kp18 ty18 sa18 ga18 gg18 ca18
  have u0 := fun_mk (st := s_i0) l0 cd0h kf0
  have bb0 := u0.binds (ps := ["self", "at"]) fun _ _ _ _ _ _ us hl => match us, hl with | [_, _], _ => rfl
  have u6 := fun_mk (st := s_i6) l6 cd6h kf6
  have bb6 := u6.binds (ps := ["self", "found"]) fun _ _ _ _ _ _ us hl => match us, hl with | [_, _], _ => rfl
  have u7 := fun_mk (st := s_i7) l7 cd7h kf7
  have bb7 := u7.binds (ps := ["self", "part", "at"]) fun _ _ _ _ _ _ us hl => match us, hl with | [_, _, _], _ => rfl
  have u8 := fun_mk (st := s_i8) l8 cd8h kf8
  have bb8 := u8.binds (ps := ["self", "at"]) fun _ _ _ _ _ _ us hl => match us, hl with | [_, _], _ => rfl
  have u10 := fun_mk (st := s_i10) l10 cd10h kf10
  have bb10 := u10.binds (ps := ["self", "at"]) fun _ _ _ _ _ _ us hl => match us, hl with | [_, _], _ => rfl
  have u13 := fun_mk (st := s_i13) l13 cd13h kf13
  have bb13 := u13.binds (ps := ["self", "part"]) fun _ _ _ _ _ _ us hl => match us, hl with | [_, _], _ => rfl
  have u15 := fun_mk (st := s_i15) l15 cd15h kf15
  have bb15 := u15.binds (ps := ["self", "found"]) fun _ _ _ _ _ _ us hl => match us, hl with | [_, _], _ => rfl
  have u16 := fun_mk (st := s_i16) l16 cd16h kf16
  have bb16 := u16.binds (ps := ["self", "found"]) fun _ _ _ _ _ _ us hl => match us, hl with | [_, _], _ => rfl
  have u17 := fun_mk (st := s_i17) l17 cd17h kf17
  have bb17 := u17.binds (ps := ["self", "line"]) fun _ _ _ _ _ _ us hl => match us, hl with | [_, _], _ => rfl
  have F_pen := fun_mk (st := s_Lpen) l_pen c_pen k_pen
  have B_pen := F_pen.binds (ps := ["_law_script"]) fun _ _ _ _ _ _ us hl => match us, hl with | [_], _ => rfl
  have F_take := fun_mk (st := s_Ltake) l_take c_take k_take
  have B_take := F_take.binds (ps := ["_law_pen_here", "_law_many"]) fun _ _ _ _ _ _ us hl => match us, hl with | [_, _], _ => rfl
  have F_kinds := fun_mk (st := s_Lkinds) l_kinds c_kinds k_kinds
  have B_kinds := F_kinds.binds (ps := ["_law_error"]) fun _ _ _ _ _ _ us hl => match us, hl with | [_], _ => rfl
  have F_made := fun_mk (st := s_Lmade) l_made c_made k_made
  have B_made := F_made.binds (ps := ["_law_one", "_law_two"]) fun _ _ _ _ _ _ us hl => match us, hl with | [_, _], _ => rfl
  have F_fields := fun_mk (st := s_Lfields) l_fields c_fields k_fields
  have B_fields := F_fields.binds (ps := ["_law_made_here"]) fun _ _ _ _ _ _ us hl => match us, hl with | [_], _ => rfl
  have F_law := fun_mk (st := s_law) l_law c_law k_law
  let z : Cz := ⟨c0, c1, c2, c3, c4, c5, c6, c7, c8, c9, c10, c11, c12, c13, c14, c15, c16, c17, c18, fe⟩
  let w1 : Iz := ⟨f0, f6, f7, f8, f10, f13, f15, f16, f17, (PySem.W.fnOf "__init__" "NoPattern.__init__" (defArgs s_i0) (defBody s_i0) (defScope s_i0) .none kV0 dc0 pm0 an0 cd0 ct0), (PySem.W.fnOf "__init__" "Cut.__init__" (defArgs s_i6) (defBody s_i6) (defScope s_i6) .none kV6 dc6 pm6 an6 cd6 ct6), (PySem.W.fnOf "__init__" "NoStore.__init__" (defArgs s_i7) (defBody s_i7) (defScope s_i7) .none kV7 dc7 pm7 an7 cd7 ct7), (PySem.W.fnOf "__init__" "NoDriver.__init__" (defArgs s_i8) (defBody s_i8) (defScope s_i8) .none kV8 dc8 pm8 an8 cd8 ct8), (PySem.W.fnOf "__init__" "NoEvent.__init__" (defArgs s_i10) (defBody s_i10) (defScope s_i10) .none kV10 dc10 pm10 an10 cd10 ct10), (PySem.W.fnOf "__init__" "NoField.__init__" (defArgs s_i13) (defBody s_i13) (defScope s_i13) .none kV13 dc13 pm13 an13 cd13 ct13), (PySem.W.fnOf "__init__" "Stranded.__init__" (defArgs s_i15) (defBody s_i15) (defScope s_i15) .none kV15 dc15 pm15 an15 cd15 ct15), (PySem.W.fnOf "__init__" "Foreign.__init__" (defArgs s_i16) (defBody s_i16) (defScope s_i16) .none kV16 dc16 pm16 an16 cd16 ct16), (PySem.W.fnOf "__init__" "NoText.__init__" (defArgs s_i17) (defBody s_i17) (defScope s_i17) .none kV17 dc17 pm17 an17 cd17 ct17)⟩
  let ll : Lz := ⟨a_pen, a_take, a_kinds, a_made, a_fields, (PySem.W.fnOf "_law_pen" "_law_pen" (defArgs s_Lpen) (defBody s_Lpen) (defScope s_Lpen) .none kV_pen dc_pen pm_pen an_pen cd_pen ct_pen), (PySem.W.fnOf "_law_take" "_law_take" (defArgs s_Ltake) (defBody s_Ltake) (defScope s_Ltake) .none kV_take dc_take pm_take an_take cd_take ct_take), (PySem.W.fnOf "_law_kinds" "_law_kinds" (defArgs s_Lkinds) (defBody s_Lkinds) (defScope s_Lkinds) .none kV_kinds dc_kinds pm_kinds an_kinds cd_kinds ct_kinds), (PySem.W.fnOf "_law_made" "_law_made" (defArgs s_Lmade) (defBody s_Lmade) (defScope s_Lmade) .none kV_made dc_made pm_made an_made cd_made ct_made), (PySem.W.fnOf "_law_fields" "_law_fields" (defArgs s_Lfields) (defBody s_Lfields) (defScope s_Lfields) .none kV_fields dc_fields pm_fields an_fields cd_fields ct_fields)⟩
  have T : TxL K mg z w1 ll := { x0 := x0, x1 := x1, x2 := x2, x3 := x3, x4 := x4, x5 := x5, x6 := x6, x7 := x7, x8 := x8, x9 := x9, x10 := x10, x11 := x11, x12 := x12, x13 := x13, x14 := x14, x15 := x15, x16 := x16, x17 := x17, x18 := x18, e1 := e1, e2 := e2, e3 := e3, e4 := e4, e5 := e5, e9 := e9, e11 := e11, e12 := e12, e14 := e14, e18 := e18, i0 := i0, t0 := t0, u0 := u0, b0 := bb0, n0_at := n0_at, i6 := i6, t6 := t6, u6 := u6, b6 := bb6, n6_found := n6_found, i7 := i7, t7 := t7, u7 := u7, b7 := bb7, n7_part := n7_part, n7_at := n7_at, i8 := i8, t8 := t8, u8 := u8, b8 := bb8, n8_at := n8_at, i10 := i10, t10 := t10, u10 := u10, b10 := bb10, n10_at := n10_at, i13 := i13, t13 := t13, u13 := u13, b13 := bb13, n13_part := n13_part, i15 := i15, t15 := t15, u15 := u15, b15 := bb15, n15_found := n15_found, i16 := i16, t16 := t16, u16 := u16, b16 := bb16, n16_found := n16_found, i17 := i17, t17 := t17, u17 := u17, b17 := bb17, n17_line := n17_line, gF := PySem.W.mg_of X G gF, clF := clF, tyF := tyF, xb := ⟨hn, ht⟩, nd := nd, n_len := PySem.W.mg_none_of X G b_len, n_isinstance := PySem.W.mg_none_of X G b_isinstance, n_repr := PySem.W.mg_none_of X G b_repr, n_range := PySem.W.mg_none_of X G b_range, n_ValueError := PySem.W.mg_none_of X G b_ValueError, pp := ⟨PySem.W.mg_none_of X G b_int, PySem.W.mg_none_of X G b_len, PySem.W.mg_none_of X G b_abs, PySem.W.mg_none_of X G b_list⟩, g_Lpen := PySem.W.mg_of X G g_pen, k_Lpen := k_pen, F_Lpen := F_pen, b_Lpen := B_pen, g_Ltake := PySem.W.mg_of X G g_take, k_Ltake := k_take, F_Ltake := F_take, b_Ltake := B_take, g_Lkinds := PySem.W.mg_of X G g_kinds, k_Lkinds := k_kinds, F_Lkinds := F_kinds, b_Lkinds := B_kinds, g_Lmade := PySem.W.mg_of X G g_made, k_Lmade := k_made, F_Lmade := F_made, b_Lmade := B_made, g_Lfields := PySem.W.mg_of X G g_fields, k_Lfields := k_fields, F_Lfields := F_fields, b_Lfields := B_fields }
  exact ⟨PySem.W.fnOf "law" "law" (defArgs s_law) (defBody s_law) (defScope s_law) .none kV_law dc_law pm_law an_law cd_law ct_law, fun s v => .of_eq rfl, fun base _ _ => ok_law F_law T⟩
theorem walk {l : PySem.W.OpenLaw} {q : Program} {loose : List Str} {XP : (Str → Option Value) → Heap → Prop} {YP : World → Heap → Prop} {d : DefRec} {K : Params → PySem.W.Frag} (hn : l.most = some 63) (hdf : d.params.defaults = []) (hY : ∀ (w : World) (h : Heap), YP w h → (K w.params).In h)
    (F : ∀ (w : World) (mg : Str → Option Value) (fa : Addr) (h : Heap), (K w.params).In h → h.Ns mainGlobals mg → mg d.name = some (.ref fa) →
      ∃ fd : FuncData, (∀ (s : Shared) (u : Value), BindsTo s fd ⟨[u], []⟩ [("_law_script", u)]) ∧ ∀ base : Heap, (K w.params).In base → base.Ns mainGlobals mg → FnG l.prog w (K w.params) mg base CX0 4 fa fd ["_law_script"] (spLaw (K w.params))) :
    PySem.W.WalkO q loose XP YP l.row.toRowW d [] (fun f vs => PySem.call f vs) :=
  walk_ofG (n := 63) (k := 4) (x := "_law_script") (CX := fun _ => CX0) (sp := fun w => spLaw (K w.params)) hn (by decide) hdf ⟨rfl, by decide, by decide⟩ hY F (fun _ _ a ns hl _ hS => ⟨a, ns, rfl, hS, hl, fun _ => rfl⟩) fun _ _ _ _ _ z => z
end Fb
open PySem PySem.W PyProof.Rows
set_option maxRecDepth 100000 in
set_option maxHeartbeats 0 in
theorem PySem.Challenge.cw_fallenbits_k01_errors_holds : PySem.Challenge.rw_fallenbits_k01_errors.Holds := by
  w_on; o_law; k_head; (case hw => w_witness2)
  k_fill
  refine Fb.walk (l := PySem.Challenge.rw_fallenbits_k01_errors) rfl rfl (fun w h Y => PySem.W.kIn_of Y) ?F
  case F =>
    intro w mg fa h KX G hmg
    refine' Fb.all_mk KX G hmg ?zz_gF ?zz_g0 ?zz_o0 ?zz_kp0 ?zz_ty0 ?zz_sa0 ?zz_ga0 ?zz_gg0 ?zz_ca0 ?zz_i0 ?zz_t0 ?zz_l0 ?zz_cd0h ?zz_kf0 ?zz_n0_at ?zz_g1 ?zz_o1 ?zz_kp1 ?zz_ty1 ?zz_sa1 ?zz_ga1 ?zz_gg1 ?zz_ca1 ?zz_e1 ?zz_g2 ?zz_o2 ?zz_kp2 ?zz_ty2 ?zz_sa2 ?zz_ga2 ?zz_gg2 ?zz_ca2 ?zz_e2 ?zz_g3 ?zz_o3 ?zz_kp3 ?zz_ty3 ?zz_sa3 ?zz_ga3 ?zz_gg3 ?zz_ca3 ?zz_e3 ?zz_g4 ?zz_o4 ?zz_kp4 ?zz_ty4 ?zz_sa4 ?zz_ga4 ?zz_gg4 ?zz_ca4 ?zz_e4 ?zz_g5 ?zz_o5 ?zz_kp5 ?zz_ty5 ?zz_sa5 ?zz_ga5 ?zz_gg5 ?zz_ca5 ?zz_e5 ?zz_g6 ?zz_o6 ?zz_kp6 ?zz_ty6 ?zz_sa6 ?zz_ga6 ?zz_gg6 ?zz_ca6 ?zz_i6 ?zz_t6 ?zz_l6 ?zz_cd6h ?zz_kf6 ?zz_n6_found ?zz_g7 ?zz_o7 ?zz_kp7 ?zz_ty7 ?zz_sa7 ?zz_ga7 ?zz_gg7 ?zz_ca7 ?zz_i7 ?zz_t7 ?zz_l7 ?zz_cd7h ?zz_kf7 ?zz_n7_part ?zz_n7_at ?zz_g8 ?zz_o8 ?zz_kp8 ?zz_ty8 ?zz_sa8 ?zz_ga8 ?zz_gg8 ?zz_ca8 ?zz_i8 ?zz_t8 ?zz_l8 ?zz_cd8h ?zz_kf8 ?zz_n8_at ?zz_g9 ?zz_o9 ?zz_kp9 ?zz_ty9 ?zz_sa9 ?zz_ga9 ?zz_gg9 ?zz_ca9 ?zz_e9 ?zz_g10 ?zz_o10 ?zz_kp10 ?zz_ty10 ?zz_sa10 ?zz_ga10 ?zz_gg10 ?zz_ca10 ?zz_i10 ?zz_t10 ?zz_l10 ?zz_cd10h ?zz_kf10 ?zz_n10_at ?zz_g11 ?zz_o11 ?zz_kp11 ?zz_ty11 ?zz_sa11 ?zz_ga11 ?zz_gg11 ?zz_ca11 ?zz_e11 ?zz_g12 ?zz_o12 ?zz_kp12 ?zz_ty12 ?zz_sa12 ?zz_ga12 ?zz_gg12 ?zz_ca12 ?zz_e12 ?zz_g13 ?zz_o13 ?zz_kp13 ?zz_ty13 ?zz_sa13 ?zz_ga13 ?zz_gg13 ?zz_ca13 ?zz_i13 ?zz_t13 ?zz_l13 ?zz_cd13h ?zz_kf13 ?zz_n13_part ?zz_g14 ?zz_o14 ?zz_kp14 ?zz_ty14 ?zz_sa14 ?zz_ga14 ?zz_gg14 ?zz_ca14 ?zz_e14 ?zz_g15 ?zz_o15 ?zz_kp15 ?zz_ty15 ?zz_sa15 ?zz_ga15 ?zz_gg15 ?zz_ca15 ?zz_i15 ?zz_t15 ?zz_l15 ?zz_cd15h ?zz_kf15 ?zz_n15_found ?zz_g16 ?zz_o16 ?zz_kp16 ?zz_ty16 ?zz_sa16 ?zz_ga16 ?zz_gg16 ?zz_ca16 ?zz_i16 ?zz_t16 ?zz_l16 ?zz_cd16h ?zz_kf16 ?zz_n16_found ?zz_g17 ?zz_o17 ?zz_kp17 ?zz_ty17 ?zz_sa17 ?zz_ga17 ?zz_gg17 ?zz_ca17 ?zz_i17 ?zz_t17 ?zz_l17 ?zz_cd17h ?zz_kf17 ?zz_n17_line ?zz_g18 ?zz_o18 ?zz_kp18 ?zz_ty18 ?zz_sa18 ?zz_ga18 ?zz_gg18 ?zz_ca18 ?zz_e18 ?zz_clF ?zz_tyF ?zz_hn ?zz_ht ?zz_g_pen ?zz_l_pen ?zz_c_pen ?zz_k_pen ?zz_g_take ?zz_l_take ?zz_c_take ?zz_k_take ?zz_g_kinds ?zz_l_kinds ?zz_c_kinds ?zz_k_kinds ?zz_g_made ?zz_l_made ?zz_c_made ?zz_k_made ?zz_g_fields ?zz_l_fields ?zz_c_fields ?zz_k_fields ?zz_g_law ?zz_l_law ?zz_c_law ?zz_k_law ?zz_b_int ?zz_b_len ?zz_b_abs ?zz_b_list ?zz_b_isinstance ?zz_b_repr ?zz_b_range ?zz_b_ValueError ?zz_nd
    (case zz_gF => k_is)
    (case zz_g0 => k_is)
    (case zz_o0 => k_is)
    (case zz_kp0 => k_is)
    (case zz_ty0 => k_is)
    (case zz_sa0 => k_is)
    (case zz_ga0 => k_is)
    (case zz_gg0 => k_is)
    (case zz_ca0 => k_is)
    (case zz_i0 => k_is)
    (case zz_t0 => k_is)
    (case zz_l0 => k_is)
    (case zz_cd0h => k_is)
    (case zz_kf0 => k_is)
    (case zz_n0_at => k_is)
    (case zz_g1 => k_is)
    (case zz_o1 => k_is)
    (case zz_kp1 => k_is)
    (case zz_ty1 => k_is)
    (case zz_sa1 => k_is)
    (case zz_ga1 => k_is)
    (case zz_gg1 => k_is)
    (case zz_ca1 => k_is)
    (case zz_e1 => k_exc)
    (case zz_g2 => k_is)
    (case zz_o2 => k_is)
    (case zz_kp2 => k_is)
    (case zz_ty2 => k_is)
    (case zz_sa2 => k_is)
    (case zz_ga2 => k_is)
    (case zz_gg2 => k_is)
    (case zz_ca2 => k_is)
    (case zz_e2 => k_exc)
    (case zz_g3 => k_is)
    (case zz_o3 => k_is)
    (case zz_kp3 => k_is)
    (case zz_ty3 => k_is)
    (case zz_sa3 => k_is)
    (case zz_ga3 => k_is)
    (case zz_gg3 => k_is)
    (case zz_ca3 => k_is)
    (case zz_e3 => k_exc)
    (case zz_g4 => k_is)
    (case zz_o4 => k_is)
    (case zz_kp4 => k_is)
    (case zz_ty4 => k_is)
    (case zz_sa4 => k_is)
    (case zz_ga4 => k_is)
    (case zz_gg4 => k_is)
    (case zz_ca4 => k_is)
    (case zz_e4 => k_exc)
    (case zz_g5 => k_is)
    (case zz_o5 => k_is)
    (case zz_kp5 => k_is)
    (case zz_ty5 => k_is)
    (case zz_sa5 => k_is)
    (case zz_ga5 => k_is)
    (case zz_gg5 => k_is)
    (case zz_ca5 => k_is)
    (case zz_e5 => k_exc)
    (case zz_g6 => k_is)
    (case zz_o6 => k_is)
    (case zz_kp6 => k_is)
    (case zz_ty6 => k_is)
    (case zz_sa6 => k_is)
    (case zz_ga6 => k_is)
    (case zz_gg6 => k_is)
    (case zz_ca6 => k_is)
    (case zz_i6 => k_is)
    (case zz_t6 => k_is)
    (case zz_l6 => k_is)
    (case zz_cd6h => k_is)
    (case zz_kf6 => k_is)
    (case zz_n6_found => k_is)
    (case zz_g7 => k_is)
    (case zz_o7 => k_is)
    (case zz_kp7 => k_is)
    (case zz_ty7 => k_is)
    (case zz_sa7 => k_is)
    (case zz_ga7 => k_is)
    (case zz_gg7 => k_is)
    (case zz_ca7 => k_is)
    (case zz_i7 => k_is)
    (case zz_t7 => k_is)
    (case zz_l7 => k_is)
    (case zz_cd7h => k_is)
    (case zz_kf7 => k_is)
    (case zz_n7_part => k_is)
    (case zz_n7_at => k_is)
    (case zz_g8 => k_is)
    (case zz_o8 => k_is)
    (case zz_kp8 => k_is)
    (case zz_ty8 => k_is)
    (case zz_sa8 => k_is)
    (case zz_ga8 => k_is)
    (case zz_gg8 => k_is)
    (case zz_ca8 => k_is)
    (case zz_i8 => k_is)
    (case zz_t8 => k_is)
    (case zz_l8 => k_is)
    (case zz_cd8h => k_is)
    (case zz_kf8 => k_is)
    (case zz_n8_at => k_is)
    (case zz_g9 => k_is)
    (case zz_o9 => k_is)
    (case zz_kp9 => k_is)
    (case zz_ty9 => k_is)
    (case zz_sa9 => k_is)
    (case zz_ga9 => k_is)
    (case zz_gg9 => k_is)
    (case zz_ca9 => k_is)
    (case zz_e9 => k_exc)
    (case zz_g10 => k_is)
    (case zz_o10 => k_is)
    (case zz_kp10 => k_is)
    (case zz_ty10 => k_is)
    (case zz_sa10 => k_is)
    (case zz_ga10 => k_is)
    (case zz_gg10 => k_is)
    (case zz_ca10 => k_is)
    (case zz_i10 => k_is)
    (case zz_t10 => k_is)
    (case zz_l10 => k_is)
    (case zz_cd10h => k_is)
    (case zz_kf10 => k_is)
    (case zz_n10_at => k_is)
    (case zz_g11 => k_is)
    (case zz_o11 => k_is)
    (case zz_kp11 => k_is)
    (case zz_ty11 => k_is)
    (case zz_sa11 => k_is)
    (case zz_ga11 => k_is)
    (case zz_gg11 => k_is)
    (case zz_ca11 => k_is)
    (case zz_e11 => k_exc)
    (case zz_g12 => k_is)
    (case zz_o12 => k_is)
    (case zz_kp12 => k_is)
    (case zz_ty12 => k_is)
    (case zz_sa12 => k_is)
    (case zz_ga12 => k_is)
    (case zz_gg12 => k_is)
    (case zz_ca12 => k_is)
    (case zz_e12 => k_exc)
    (case zz_g13 => k_is)
    (case zz_o13 => k_is)
    (case zz_kp13 => k_is)
    (case zz_ty13 => k_is)
    (case zz_sa13 => k_is)
    (case zz_ga13 => k_is)
    (case zz_gg13 => k_is)
    (case zz_ca13 => k_is)
    (case zz_i13 => k_is)
    (case zz_t13 => k_is)
    (case zz_l13 => k_is)
    (case zz_cd13h => k_is)
    (case zz_kf13 => k_is)
    (case zz_n13_part => k_is)
    (case zz_g14 => k_is)
    (case zz_o14 => k_is)
    (case zz_kp14 => k_is)
    (case zz_ty14 => k_is)
    (case zz_sa14 => k_is)
    (case zz_ga14 => k_is)
    (case zz_gg14 => k_is)
    (case zz_ca14 => k_is)
    (case zz_e14 => k_exc)
    (case zz_g15 => k_is)
    (case zz_o15 => k_is)
    (case zz_kp15 => k_is)
    (case zz_ty15 => k_is)
    (case zz_sa15 => k_is)
    (case zz_ga15 => k_is)
    (case zz_gg15 => k_is)
    (case zz_ca15 => k_is)
    (case zz_i15 => k_is)
    (case zz_t15 => k_is)
    (case zz_l15 => k_is)
    (case zz_cd15h => k_is)
    (case zz_kf15 => k_is)
    (case zz_n15_found => k_is)
    (case zz_g16 => k_is)
    (case zz_o16 => k_is)
    (case zz_kp16 => k_is)
    (case zz_ty16 => k_is)
    (case zz_sa16 => k_is)
    (case zz_ga16 => k_is)
    (case zz_gg16 => k_is)
    (case zz_ca16 => k_is)
    (case zz_i16 => k_is)
    (case zz_t16 => k_is)
    (case zz_l16 => k_is)
    (case zz_cd16h => k_is)
    (case zz_kf16 => k_is)
    (case zz_n16_found => k_is)
    (case zz_g17 => k_is)
    (case zz_o17 => k_is)
    (case zz_kp17 => k_is)
    (case zz_ty17 => k_is)
    (case zz_sa17 => k_is)
    (case zz_ga17 => k_is)
    (case zz_gg17 => k_is)
    (case zz_ca17 => k_is)
    (case zz_i17 => k_is)
    (case zz_t17 => k_is)
    (case zz_l17 => k_is)
    (case zz_cd17h => k_is)
    (case zz_kf17 => k_is)
    (case zz_n17_line => k_is)
    (case zz_g18 => k_is)
    (case zz_o18 => k_is)
    (case zz_kp18 => k_is)
    (case zz_ty18 => k_is)
    (case zz_sa18 => k_is)
    (case zz_ga18 => k_is)
    (case zz_gg18 => k_is)
    (case zz_ca18 => k_is)
    (case zz_e18 => k_exc)
    (case zz_clF => k_is)
    (case zz_tyF => k_is)
    (case zz_hn => k_is)
    (case zz_ht => k_is)
    (case zz_g_pen => k_is)
    (case zz_l_pen => k_is)
    (case zz_c_pen => k_is)
    (case zz_k_pen => k_is)
    (case zz_g_take => k_is)
    (case zz_l_take => k_is)
    (case zz_c_take => k_is)
    (case zz_k_take => k_is)
    (case zz_g_kinds => k_is)
    (case zz_l_kinds => k_is)
    (case zz_c_kinds => k_is)
    (case zz_k_kinds => k_is)
    (case zz_g_made => k_is)
    (case zz_l_made => k_is)
    (case zz_c_made => k_is)
    (case zz_k_made => k_is)
    (case zz_g_fields => k_is)
    (case zz_l_fields => k_is)
    (case zz_c_fields => k_is)
    (case zz_k_fields => k_is)
    (case zz_g_law => k_is)
    (case zz_l_law => k_is)
    (case zz_c_law => k_is)
    (case zz_k_law => k_is)
    (case zz_b_int => k_is)
    (case zz_b_len => k_is)
    (case zz_b_abs => k_is)
    (case zz_b_list => k_is)
    (case zz_b_isinstance => k_is)
    (case zz_b_repr => k_is)
    (case zz_b_range => k_is)
    (case zz_b_ValueError => k_is)
    (case zz_nd => decide)
