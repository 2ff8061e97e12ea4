import PyProof.Rows.All
import Wide.All
import OpenK.AllK
import Wide.FinOn
import HandS.ForMost
import HandS.ForExc
import PyProof.ReprReads
import PyProof.ReprRoads
import PyProof.Rows.CountFlat
import HandS.EndTab
import HandS.Wide
import HandS.Codes
import HandS.ExcInit
import HandS.ExcValue
import HandS.ExcIs
import HandS.IsInst
import HandS.SetFor
import KE.KExcIs
import KE.GoesEnum
import KE.GoesZip
import KE.GoesMore
import HandS.SlotsOwn
import HandS.Property
import HandS.ClsMeth
import KE.KCallOwn
import HandS.Replace
import HandS.ReplaceDef
import HandS.ReplaceLit
import HandS.WordsExc
import HandS.ReplaceList
import HandS.Lambda
import PyProof.StrOps2
import PyProof.WalkInts
import PyProof.FString5
import HandS.Star
import KE.KTupSum
import PyProof.Rows.StrCountLaw
import HandS.Base
import HandS.Call
import PyProof.ToksMono
import HandS.List
import HandS.Conv
import HandS.SetTxt0
import HandS.Strs
import PyProof.Rows.SortShellAny
import HandS.Set
import HandS.ExcOwn
import HandS.Zip
import HandS.Walk
import HandS.TryOnly
import KE.KUnpackStar
import PyProof.MakeMany
import HandS.DictComp
import HandS.RaiseMore
import HandS.StrMore
import HandS.Small
import HandS.Deep
import KE.OsRunLaw
import KE.KNestM
import PySem.Challenge.RW_fallenbits_k82_texts_of_drivers_and_stor
set_option Elab.async false
set_option linter.all false
set_option maxRecDepth 100000
set_option maxHeartbeats 4000000
namespace Fb
open PySem PySem.Spec PyProof.Rows L2
/-! defs whose promise is asked only where no repr is under way -/
/-- no repr is under way -/
abbrev Q0 (A : Around) : Prop := A.guards = some []
structure FnG (P : Program) (w : World) (K : PySem.W.Frag) (mg : Str → Option Value) (base : Heap) (CX : CXT) (k : Nat) (f : Addr) (fd : FuncData) (ps : List Str) (sp : Sp) : Prop where
  many : ∀ {vs H Q E}, sp vs H Q E → vs.length = ps.length
  go : ∀ {A : Around} {outer : List Env} {s : Shared} {H : Hp} {args : Args} {us : List Value} {vs : List V} {Q : VK} {E : XK}, Q0 A → Room k A → Env0 P w K mg base A outer s H →
    BindsTo s fd args (ps.zip us) → Vals vs us → sp vs H Q E → codeAny (model P w) A (.call (.ref f) args) (CR CX outer P w H s Q E) s
section
variable {P : Program} {w : World} {K : PySem.W.Frag} {mg : Str → Option Value} {base : Heap} {CX : CXT} {k : Nat} {f : Addr} {fd : FuncData} {ps : List Str} {sp : Sp}
theorem FnG.of (F : FnOk P w K mg base CX k f fd ps sp) : FnG P w K mg base CX k f fd ps sp :=
  ⟨fun h => F.len _ _ _ _ h, fun _ hr he hb hv h => F.run _ _ _ _ _ _ _ _ _ hr he hb hv h⟩
theorem q0_deeper {A : Around} {env : Env} (h : Q0 A) : Q0 (A.deeper env) := by
  first
    | exact h
    | (obtain ⟨hd, d, fr, gs, u⟩ := A; simp_all [Around.deeper, pushGuards])
end
/-- the rule for a def, its body told where no repr is under way -/
theorem Fun.okG {P : Program} {w : World} {K : PySem.W.Frag} {mg : Str → Option Value} {base : Heap} {CX : CXT} {x qual : Str} {st : Stmt} {f : Addr} {fd : FuncData} {N ps : List Str} {k : Nat} {sp : Sp} (F : Fun K x qual st f fd) (S : FnScope N ps (defScope st))
    (len : ∀ {vs H Q E}, sp vs H Q E → vs.length = ps.length)
    (body : ∀ {cdv : Value} {A : Around} {outer : List Env} {s : Shared} {H : Hp} {vs : List V} {Q : VK} {E : XK}, Q0 (A.deeper (envOfC qual (defScope st) s.heap.objs.size f cdv)) → Room k (A.deeper (envOfC qual (defScope st) s.heap.objs.size f cdv)) → sp vs H Q E →
      ∃ t, PSs (cxOf CX P w K mg base N qual (defScope st) f cdv A outer s H E) (defBody st) t ∧ t { nx := fun _ H' => Q .non H', rt := Q } (start N vs) H) : FnG P w K mg base CX (k + 1) f fd ps sp := by
  obtain ⟨oc, od, kV, doc, pm, an, cdv, ct, osl, rfl, lk, hcd⟩ := F.ex
  refine ⟨len, ?_⟩
  intro A outer s H args us vs Q E hg room env bnd rel asked
  have stays : ∀ b o, base.get? b = some o → s.heap.get? b = some o := fun b o z => (env.bs b o z).1
  have kin : K.In s.heap := env.mod.kin.keeps stays
  have kinds : ∀ y ∈ ps.zip us, (defScope st).names.lookup y.1 = some .local ∨ ((defScope st).names.lookup y.1 = some .cell ∧ ((cellsFrom (s.heap.objs.size + 1) (defScope st).names []).lookup y.1).isSome = true) := by
    rintro ⟨n, v⟩ hy
    rcases S.par n (List.of_mem_zip hy).1 with z | z
    · exact Or.inl z
    · exact Or.inr ⟨z, PySem.W.cellsFrom_some _ _ _ (Or.inl z)⟩
  refine codeAny_call_function room.depth (kin _ _ lk) rfl S.co S.gen rfl (PySem.W.codeRec_of kin hcd) (bnd _ _ _ _ (wpAny_newFunctionEnv_cells S.kind kinds ?_))
  rintro _ rfl s1 born
  refine ⟨(env.mod.nolimit.keeps stays).keeps born.toInCall.keep, codeAny_func ?_⟩
  obtain ⟨t, ht, asked2⟩ := body (outer := outer) (s := s) (q0_deeper hg) (room.deeper _) asked
  have I := inv_start (CX := CX) (E := E) S room.hd env (len asked) rel born
  refine wpAny_mono (ht.run [] s1 _ H _ I asked2) ?_ (fun _ _ z => z)
  intro fl s' z
  cases fl with
  | brk =>
    obtain ⟨_, _, _, q⟩ := z
    exact (show False from q).elim
  | cont =>
    obtain ⟨_, _, _, q⟩ := z
    exact (show False from q).elim
  | next =>
    obtain ⟨σ', H', J, q⟩ := z
    exact ⟨.non, H', J.os, J.bare, J.base, J.hok, rfl, q⟩
  | ret u =>
    obtain ⟨v, σ', H', J, rv, q⟩ := z
    exact ⟨v, H', J.os, J.bare, J.base, J.hok, rv, q⟩
/-- .. that lets no exception out -/
theorem Fun.okG0 {P : Program} {w : World} {K : PySem.W.Frag} {mg : Str → Option Value} {base : Heap} {x qual : Str} {st : Stmt} {f : Addr} {fd : FuncData} {N ps : List Str} {k : Nat} {sp : Sp} (F : Fun K x qual st f fd) (S : FnScope N ps (defScope st))
    (len : ∀ {vs H Q E}, sp vs H Q E → vs.length = ps.length)
    (body : ∀ {cdv : Value} {A : Around} {outer : List Env} {s : Shared} {H : Hp} {vs : List V} {Q : VK} {E : XK}, Q0 (A.deeper (envOfC qual (defScope st) s.heap.objs.size f cdv)) → Room k (A.deeper (envOfC qual (defScope st) s.heap.objs.size f cdv)) → sp vs H Q E →
      ∃ t, PSs (cxOf CX0 P w K mg base N qual (defScope st) f cdv A outer s H E).nox (defBody st) t ∧ t { nx := fun _ H' => Q .non H', rt := Q } (start N vs) H) : FnG P w K mg base CX0 (k + 1) f fd ps sp :=
  Fun.okG F S len fun hg hr h => by
    obtain ⟨t, a, b⟩ := body hg hr h
    exact ⟨t, a.nox, b⟩
section
variable {X : Cx} {CX : CXT} {k : Nat} {f : Addr} {fd : FuncData} {ps : List Str} {sp : Sp} {dvs : List V} {ds : List Value} {E : XK} {x : Str} {p pos : Pos} {e : Expr} {es : List Expr} {t : TA}
/-- f(e, ..), no repr under way -/
theorem pe_callG (hq : Q0 X.A) (F : FnG X.prog X.w X.K X.mg X.base CX k f fd ps sp) (hr : Room k X.A) (hg : Gl X x) (hm : X.mg x = some (.ref f)) (hk : PySem.W.keepIn X.K (.ref f) = true) (hb : Binds X.K fd ps ds) (hd : Vals dvs ds) (hx : Passes CX X E)
    (ha : PA X (e :: es) t) (hdb : (x == ("__debug__" : Str)) = false := by decide) (he : starEach (e :: es) X.env = (false, eval e X.env) :: starEach es X.env := by rfl) (hpl : (backTo pos (starEach es X.env)).any (·.1) = false := by rfl) :
    PE X (.Call (.Name x p) (e :: es) [] pos) (tCall sp dvs E t) := by
  constructor
  intro pins s σ H Q I h
  apply wpAny_Call_Name_kw
  refine ld_glob I hg hm ?_ hdb
  apply PySem.W.callWith_K (h₀ := X.base) I.ok.mod.kin hk ?_ he hpl
  apply thn (ha.run pos pins s σ H _ I h)
  rintro us s1 ⟨vs, H1, I1, rel, asked⟩
  have rel2 : Vals (vs ++ dvs) (us ++ ds) := rel.append hd
  have hl : (us ++ ds).length = ps.length := rel2.length.symm.trans (F.many asked)
  refine ⟨I1.kIn, wpAny_call (codeAny_mono (F.go hq hr I1.env0 (hb s1 us I1.kIn hl) rel2 asked) ?_)⟩
  intro r s' z
  cases r with
  | error er => exact hx pins σ _ _ er s' I1 z
  | ok fl =>
    cases fl with
    | ret u => exact I1.after z
    | brk => exact (show False from z).elim
    | cont => exact (show False from z).elim
    | next => exact (show False from z).elim
end
/-! the law's own call -/
section
variable {P : Program} {w : World} {K : PySem.W.Frag} {mg mb : Str → Option Value} {CX : CXT} {k : Nat} {fa a : Addr} {fd : FuncData} {x : Str} {sp : Sp} {s₁ : Shared} {vs : List Value} {ns : List Int}
/-- what the law's def is asked from outside, H telling of nothing but the script -/
theorem law_core (kin : K.In s₁.heap) (hns : s₁.heap.Ns mainGlobals mg) (hb : s₁.heap.Ns builtinsNs mb) (hbb : ∀ x : Str, x ≠ "__name__" → mb x = bootBuiltins x) (hlim : s₁.heap.NoLimit) (hg : s₁.gens = #[])
    (ha : s₁.heap.get? a = some { cls := .type "list", data := .seq vs.toArray }) (room : Room k callerA)
    (F : ∀ base : Heap, K.In base → base.Ns mainGlobals mg → FnG P w K mg base CX k fa fd [x] sp) (bnd : ∀ (s : Shared) (u : Value), BindsTo s fd ⟨[u], []⟩ [(x, u)])
    (hCX : ∀ H e s', CX [] H s₁ (fun _ _ _ => False) e s' → False) {H : Hp} (only : Only H) (asked : sp [.ref a] H (fun v _ => v = .bl true) fun _ _ _ => False) (hok : HOk P w H s₁.heap)
    (hA : ∀ {b u}, H b = some u → b = a) (hK : ∀ {u}, H a = some u → K.lookup a = none) :
    codeAny (model P w) callerA (.call (.ref fa) ⟨[.ref a], []⟩) (fun r s' => r = .ok (.ret (.bool true)) ∧ OldK s₁.heap s'.heap ∧ s'.os = s₁.os ∧ AllBare s'.gens) s₁ := by
  have seen : ∀ {b : Addr} {o : Obj}, s₁.heap.get? b = some o → (∀ u, H b = some u → False) → (hidT s₁.heap H).get? b = some o := fun {b o} z n =>
    hidT_get z (by cases q : H b with | none => rfl | some u => exact (n u q).elim)
  have seenNs : ∀ {b : Addr} {m : Str → Option Value}, s₁.heap.Ns b m → (hidT s₁.heap H).Ns b m := by
    rintro b m ⟨o, es, ep, z, d, r⟩
    refine ⟨o, es, ep, seen z fun u q => ?_, d, r⟩
    have e := hA q
    subst e
    rw [ha] at z
    cases z
    exact nomatch d
  have kin2 : K.In (hidT s₁.heap H) := fun b o z => seen (kin b o z) fun u q => by
    have e := hA q
    subst e
    rw [hK q] at z
    cases z
  obtain ⟨mc, l1, l2⟩ := hlim
  have e0 : Env0 P w K mg (hidT s₁.heap H) callerA [] s₁ H := ⟨rfl, ⟨kin2, seenNs hns, ⟨mb, seenNs hb, hbb⟩, ⟨mc, seenNs l1, l2⟩⟩, fun b o z => of_hidT z, Nat.le_of_eq (hidT_size _ _), trivial, (fun b z => nomatch z), hok, .of_eq hg⟩
  refine codeAny_mono ((F _ kin2 (seenNs hns)).go (show Q0 callerA from rfl) room e0 (us := [.ref a]) (vs := [.ref a]) (bnd s₁ (.ref a)) (.cons rfl .nil) asked) ?_
  intro r s' z
  cases r with
  | error e => exact (hCX H e s' z).elim
  | ok fl =>
    cases fl with
    | brk => exact (show False from z).elim
    | cont => exact (show False from z).elim
    | next => exact (show False from z).elim
    | ret u =>
      obtain ⟨v, H', os, bare, un, hok', rv, rfl⟩ := z
      cases (show u = Value.bool true from rv)
      refine ⟨rfl, OldK.of_keep fun b o z => ?_, os, bare⟩
      rcases only b with n | ⟨ob, xs, n⟩
      · exact un.keep b o z n (fun q => nomatch q) (fun q => nomatch q)
      · obtain ⟨z1, _⟩ := hok b _ n
        obtain ⟨z2, _⟩ := hok' b _ (un.frzs b ob _ n)
        rw [z2, ← z1, z]
theorem law_callG (kin : K.In s₁.heap) (hns : s₁.heap.Ns mainGlobals mg) (hb : s₁.heap.Ns builtinsNs mb) (hbb : ∀ x : Str, x ≠ "__name__" → mb x = bootBuiltins x) (hlim : s₁.heap.NoLimit) (hg : s₁.gens = #[])
    (ha : s₁.heap.get? a = some { cls := .type "list", data := .seq vs.toArray }) (hi : IntsAre vs ns) (hl : ns.length ≤ sizeLine) (room : Room k callerA)
    (F : ∀ base : Heap, K.In base → base.Ns mainGlobals mg → FnG P w K mg base CX k fa fd [x] sp) (bnd : ∀ (s : Shared) (u : Value), BindsTo s fd ⟨[u], []⟩ [(x, u)])
    (hsp : ∀ H : Hp, Only H → SqL K H a (ns.map V.int) → sp [.ref a] H (fun v _ => v = .bl true) fun _ _ _ => False)
    (hCX : ∀ H e s', CX [] H s₁ (fun _ _ _ => False) e s' → False) :
    codeAny (model P w) callerA (.call (.ref fa) ⟨[.ref a], []⟩) (fun r s' => r = .ok (.ret (.bool true)) ∧ OldK s₁.heap s'.heap ∧ s'.os = s₁.os ∧ AllBare s'.gens) s₁ := by
  have rel : Vals (ns.map V.int) vs := vals_ints hi
  cases hk : K.lookup a with
  | some o =>
    have z := kin a o hk
    rw [ha] at z
    cases z
    have only : Only (fun _ => none) := fun _ => Or.inl rfl
    refine law_core kin hns hb hbb hlim hg ha room F bnd hCX only (hsp _ only (Or.inr ⟨_, vs.toArray, _, hk, rfl, rfl, rfl, ?_, ?_⟩)) ?_ ?_ ?_
    · rw [List.size_toArray, hi.length]
      exact hl
    · simpa using rel
    · exact fun b u z => nomatch z
    · exact fun z => nomatch z
    · exact fun z => nomatch z
  | none =>
    let H0 : Hp := fun b => if b = a then some (.frz { cls := .type "list", data := .seq vs.toArray } (.lst (ns.map V.int))) else none
    have at0 : H0 a = some (.frz { cls := .type "list", data := .seq vs.toArray } (.lst (ns.map V.int))) := if_pos rfl
    have off : ∀ {b u}, H0 b = some u → b = a := fun {b u} z => by
      by_cases e : b = a
      · exact e
      · have z2 : H0 b = none := if_neg e
        rw [z2] at z
        cases z
    have only : Only H0 := fun b => by
      by_cases e : b = a
      · rw [e]
        exact Or.inr ⟨_, _, at0⟩
      · exact Or.inl (if_neg e)
    refine law_core kin hns hb hbb hlim hg ha room F bnd hCX only (hsp _ only (Or.inl (Or.inr ⟨_, at0⟩))) (fun b u z => ?_) off (fun _ => hk)
    have e := off z
    subst e
    rw [at0] at z
    cases z
    exact ⟨ha, by rw [List.length_map]; exact hl, vs, _, rel, ha⟩
end
/-- the goal that k_head leaves, from the law's promise over FnG -/
theorem walk_ofG {l : PySem.W.OpenLaw} {n k : Nat} {q : Program} {loose : List Str} {XP : (Str → Option Value) → Heap → Prop} {YP : World → Heap → Prop} {d : DefRec} {K : Params → PySem.W.Frag} {CX : World → CXT} {sp : World → Sp} {x : Str}
    (hn : l.most = some n) (hn2 : n ≤ sizeLine) (hdf : d.params.defaults = []) (hr : Room k callerA) (hY : ∀ (w : World) (h : Heap), YP w h → (K w.params).In h)
    (F : ∀ (w : World) (mg : Str → Option Value) (fa : Addr) (h : Heap), (K w.params).In h → h.Ns mainGlobals mg → mg d.name = some (.ref fa) →
      ∃ fd : FuncData, (∀ (s : Shared) (u : Value), BindsTo s fd ⟨[u], []⟩ [(x, u)]) ∧ ∀ base : Heap, (K w.params).In base → base.Ns mainGlobals mg → FnG l.prog w (K w.params) mg base (CX w) k fa fd [x] (sp w))
    (hsp : ∀ (w : World) (H : Hp) (a : Addr) (ns : List Int), ns.length ≤ n → Only H → SqL (K w.params) H a (ns.map V.int) → sp w [.ref a] H (fun v _ => v = .bl true) fun _ _ _ => False)
    (hCX : ∀ (w : World) (H : Hp) (s : Shared) (e : Value) (s' : Shared), CX w [] H s (fun _ _ _ => False) e s' → False) : PySem.W.WalkO q loose XP YP l.row.toRowW d [] (fun f vs => PySem.call f vs) := by
  apply Att.attach_call hn hdf
  intro w s₀ s₁ mg mb fa o pm cd doc a vs ns G Y _ _ _ hmg hobj hints hlen hg
  obtain ⟨fd, bnd, hF⟩ := F w mg fa _ (hY w _ Y) G.T.g hmg
  exact law_callG (hY w _ Y) G.T.g G.T.b G.T.builtins G.T.nolimit hg hobj hints (Nat.le_trans hlen hn2) hr hF bnd (fun H only hS => hsp w H a ns hlen only hS) (fun H e s' => hCX w H s₁ e s')
/-! repr of data; how often a truth value stands in a list -/
section
variable {X : Cx}
def rRepr (K : PySem.W.Frag) : List V → Hp → VK → Prop := fun xs H Q => ∃ (x : V) (d : PyData), xs = [x] ∧ Dp K H x d ∧ d.showable = true ∧ d.hasDict = false ∧ d.depth ≤ 60 ∧ d.shown.length ≤ sizeLine ∧ Q (.str d.shown) H
theorem call_repr (hq : Q0 X.A) (hu : X.A.units + 64 < cLine) : CallR X (.builtin "repr") (rRepr X.K) := by
  intro pins s σ H xs us Q I r h
  obtain ⟨x, d, rfl, hd, hs, hnd, hdep, hsz, q⟩ := h
  obtain ⟨u, rfl, ru⟩ := vals1 r
  have done : ∀ (h' : Heap) (t tk : Tok), (∀ b o, s.heap.get? b = some o → h'.get? b = some o) → EP X pins σ Q (.str d.shown t) { s with heap := h', toks := tk } :=
    fun h' t tk k => ⟨.str d.shown, H, I.kept k, ⟨t, rfl⟩, q⟩
  cases hd with
  | non =>
    cases (show u = Value.none from ru)
    exact PySem.P.repr_of_none (done s.heap _ _ fun _ _ z => z)
  | bl b =>
    cases (show u = Value.bool b from ru)
    have e : PyData.shown (.bool b) = (if b then "True" else "False" : Str) := by simp only [PyData.shown]
    rw [e] at done
    exact PySem.P.repr_of_bool (by cases b <;> exact done s.heap _ _ fun _ _ z => z)
  | int i =>
    obtain ⟨t, rfl⟩ := (show ∃ t, u = Value.int i t from ru)
    have e : PyData.shown (.int i) = toString i := by simp only [PyData.shown]
    rw [e] at done
    exact PySem.P.repr_of_int (by simpa [PyData.showable] using hs) (done s.heap _ _ fun _ _ z => z)
  | str y =>
    obtain ⟨t, rfl⟩ := (show ∃ t, u = Value.str y t from ru)
    have e : PyData.shown (.str y) = reprText y := by simp only [PyData.shown]
    rw [e] at done hsz
    exact PySem.P.repr_of_str (done s.heap _ _ fun _ _ z => z) hsz
  | @lst a ys ds h1 h2 =>
    obtain ⟨as, rd⟩ := Dp.reads I (.list ds) _ u (.lst h1 h2) ru
    cases (show u = Value.ref a from ru)
    exact PySem.repr_of_reads' rd hs (PyData.noDict_hsm hnd) hq (by omega) (fun _ _ z => z) (fun h' t tk k => done h' t tk k) hsz
  | @tup a ys ds h1 h2 =>
    obtain ⟨as, rd⟩ := Dp.reads I (.tuple ds) _ u (.tup h1 h2) ru
    cases (show u = Value.ref a from ru)
    exact PySem.repr_of_reads' rd hs (PyData.noDict_hsm hnd) hq (by omega) (fun _ _ z => z) (fun h' t tk k => done h' t tk k) hsz
theorem dp_bools {K : PySem.W.Frag} {H : Hp} : ∀ bs : List Bool, DpAll K H (bs.map V.bl) (bs.map PyData.bool)
  | [] => .nil
  | b :: bs => .cons (.bl b) (dp_bools bs)
theorem countIn_bools (k : Bool) : ∀ bs : List Bool, countIn (.bool k) (bs.map PyData.bool) = ((bs.count k : Nat) : Int)
  | [] => by simp [countIn]
  | b :: bs => by
    rw [List.map_cons, countIn, countIn_bools k bs, List.count_cons]
    simp only [same]
    cases b <;> cases k <;> simp <;> omega
def rCntB (K : PySem.W.Frag) : V → List V → Hp → VK → Prop := fun x xs H Q => ∃ (p : Addr) (bs : List Bool) (k : Bool), x = .ref p ∧ xs = [.bl k] ∧ SqL K H p (bs.map V.bl) ∧ Q (.int (bs.count k : Nat)) H
theorem mt_lcountB : MtR X "list.count" (rCntB X.K) := by
  intro pins s σ H x xs v us Q I rx rxs h
  obtain ⟨p, bs, k, rfl, rfl, hs, q⟩ := h
  cases rx
  obtain ⟨u, rfl, ru⟩ := rxs.one
  cases (show u = Value.bool k from ru)
  obtain ⟨its, rv, ⟨ob, n, ho, hc, _, hdat⟩, _⟩ := I.list hs
  obtain ⟨as, rd⟩ := Dp.readsAll I _ _ its (dp_bools bs) rv
  have all : (bs.map PyData.bool).all Shape.bool.has = true := by
    rw [List.all_eq_true]
    intro d hd
    obtain ⟨b, _, rfl⟩ := List.mem_map.mp hd
    rfl
  refine count_list_bools (vs := its) ⟨ob, ho, hc, n, hdat⟩ rd all ?_
  rw [countIn_bools]
  exact ⟨.int (bs.count k : Nat), H, I.tok _, ⟨_, rfl⟩, q⟩
end
end Fb
set_option maxRecDepth 100000
set_option maxHeartbeats 4000000
/-! the end of a law that is asked only where no repr is under way, with tables of code objects -/
namespace Fb
open PySem PySem.Spec PyProof.Rows L2
section
variable {P : Program} {w : World} {K : PySem.W.Frag} {mg mb : Str → Option Value} {CX : CXT} {k : Nat} {fa a : Addr} {cs : List (Addr × Addr)} {fd : FuncData} {x : Str} {sp : Sp} {s₁ : Shared} {vs : List Value} {ns : List Int}
theorem law_coreT (kin : K.In s₁.heap) (hns : s₁.heap.Ns mainGlobals mg) (hb : s₁.heap.Ns builtinsNs mb) (hbb : ∀ x : Str, x ≠ "__name__" → mb x = bootBuiltins x) (hlim : s₁.heap.NoLimit) (hg : s₁.gens = #[])
    (tabs : ∀ q ∈ cs, s₁.heap.get? q.2 = some { cls := .none, data := .fields #[] }) (out : ∀ q ∈ cs, K.lookup q.2 = none) (heads : ∀ q ∈ cs, PySem.W.CodeHd s₁.heap q.1 q.2)
    (hbm : ∃ (bm : Addr) (ob : Obj), mg "__builtins__" = some (.ref bm) ∧ bm ≠ builtinsNs ∧ s₁.heap.get? bm = some ob ∧ ob.cls = .type "module" ∧ ob.dict = some builtinsNs ∧ ob.data = .plain)
    (ha : s₁.heap.get? a = some { cls := .type "list", data := .seq vs.toArray }) (room : Room k callerA)
    (F : ∀ base : Heap, K.In base → base.Ns mainGlobals mg → (∀ q ∈ cs, LamX.TabB base mg q.1 q.2) → FnG P w K mg base CX k fa fd [x] sp) (bnd : ∀ (s : Shared) (u : Value), BindsTo s fd ⟨[u], []⟩ [(x, u)])
    (hCX : ∀ H e s', CX [] H s₁ (fun _ _ _ => False) e s' → False) {H : Hp} (tb : ∀ q ∈ cs, H q.2 = some (.tbl #[])) (only : ∀ b, H b = none ∨ b ∈ cs.map (·.2) ∨ ∃ o xs, H b = some (.frz o (.lst xs)))
    (asked : sp [.ref a] H (fun v _ => v = .bl true) fun _ _ _ => False) (hok : HOk P w H s₁.heap) (hA : ∀ {b u}, H b = some u → b = a ∨ b ∈ cs.map (·.2)) (hK : ∀ {u}, H a = some u → K.lookup a = none) :
    codeAny (model P w) callerA (.call (.ref fa) ⟨[.ref a], []⟩) (fun r s' => r = .ok (.ret (.bool true)) ∧ OldK s₁.heap s'.heap ∧ s'.os = s₁.os ∧ AllBare s'.gens) s₁ := by
  have tab : ∀ {b : Addr}, b ∈ cs.map (·.2) → s₁.heap.get? b = some { cls := .none, data := .fields #[] } := fun {b} m => by
    obtain ⟨q, hq, rfl⟩ := List.mem_map.mp m
    exact tabs q hq
  have seen : ∀ {b : Addr} {o : Obj}, s₁.heap.get? b = some o → (∀ u, H b = some u → False) → (hidT s₁.heap H).get? b = some o := fun {b o} z n =>
    hidT_get z (by cases q : H b with | none => rfl | some u => exact (n u q).elim)
  have off : ∀ {b : Addr} {o : Obj}, s₁.heap.get? b = some o → (∀ ws n, o.data = .seq ws n → False) → (o.data = .fields #[] → False) → ∀ u, H b = some u → False := fun {b o} z n1 n2 u q => by
    rcases hA q with e | e
    · subst e
      rw [ha] at z
      cases z
      exact n1 _ _ rfl
    · rw [tab e] at z
      cases z
      exact n2 rfl
  have seenNs : ∀ {b : Addr} {m : Str → Option Value}, s₁.heap.Ns b m → (hidT s₁.heap H).Ns b m := by
    rintro b m ⟨o, es, ep, z, d, r⟩
    exact ⟨o, es, ep, seen z (off z (fun ws n q => by rw [d] at q; cases q) fun q => by rw [d] at q; cases q), d, r⟩
  have kin2 : K.In (hidT s₁.heap H) := fun b o z => seen (kin b o z) fun u q => by
    rcases hA q with e | e
    · subst e
      rw [hK q] at z
      cases z
    · obtain ⟨t, ht, rfl⟩ := List.mem_map.mp e
      rw [out t ht] at z
      cases z
  have TB : ∀ q ∈ cs, LamX.TabB (hidT s₁.heap H) mg q.1 q.2 := fun q hq => by
    obtain ⟨o, us, file, tf, flags, tg, inF, text, tt, z, c1, c2, c3, rest⟩ := heads q hq
    obtain ⟨bm, ob, m1, m2, m3, m4, m5, m6⟩ := hbm
    obtain ⟨og, eg, pg, zg, dg, _⟩ := id hns
    refine ⟨⟨o, us, file, tf, flags, tg, inF, text, tt, seen z (off z (fun ws n y => by rw [c2] at y; cases y) fun y => by rw [c2] at y; cases y; simp at c3), c1, c2, c3, rest⟩, ⟨bm, ob, m1, m2, fun y => ?_, fun y => ?_, seen m3 (off m3 (fun ws n y => by rw [m6] at y; cases y) fun y => by rw [m6] at y; cases y), m4, m5, m6⟩, fun y => ?_⟩
    · rw [y, zg] at m3
      cases m3
      rw [dg] at m6
      cases m6
    · rw [y, tabs q hq] at m3
      cases m3
      cases m6
    · rw [y, tabs q hq] at zg
      cases zg
      cases dg
  obtain ⟨mc, l1, l2⟩ := hlim
  have e0 : Env0 P w K mg (hidT s₁.heap H) callerA [] s₁ H := ⟨rfl, ⟨kin2, seenNs hns, ⟨mb, seenNs hb, hbb⟩, ⟨mc, seenNs l1, l2⟩⟩, fun b o z => of_hidT z, Nat.le_of_eq (hidT_size _ _), trivial, (fun b z => nomatch z), hok, .of_eq hg⟩
  refine codeAny_mono ((F _ kin2 (seenNs hns) TB).go (show Q0 callerA from rfl) room e0 (us := [.ref a]) (vs := [.ref a]) (bnd s₁ (.ref a)) (.cons rfl .nil) asked) ?_
  intro r s' z
  cases r with
  | error e => exact (hCX H e s' z).elim
  | ok fl =>
    cases fl with
    | brk => exact (show False from z).elim
    | cont => exact (show False from z).elim
    | next => exact (show False from z).elim
    | ret u =>
      obtain ⟨v, H', os, bare, un, hok', rv, rfl⟩ := z
      cases (show u = Value.bool true from rv)
      have stay : ∀ {b : Addr} {o : Obj}, b ∉ cs.map (·.2) → s₁.heap.get? b = some o → s'.heap.get? b = some o := fun {b o} nb z => by
        rcases only b with n | n | ⟨ob, xs, n⟩
        · exact un.keep b o z n (fun q => nomatch q) (fun q => nomatch q)
        · exact absurd n nb
        · obtain ⟨z1, _⟩ := hok b _ n
          obtain ⟨z2, _⟩ := hok' b _ (un.frzs b ob _ n)
          rw [z2, ← z1, z]
      have grew : ∀ q ∈ cs, ∃ more : Array Value, s'.heap.get? q.2 = some { cls := .none, data := .fields more } := fun q hq => by
        obtain ⟨more, y⟩ := un.tbls q.2 #[] (tb q hq)
        exact ⟨_, hok' q.2 _ y⟩
      refine ⟨rfl, ⟨fun b o z => ?_, fun b o z => ?_⟩, os, bare⟩
      · by_cases m : b ∈ cs.map (·.2)
        · obtain ⟨q, hq, rfl⟩ := List.mem_map.mp m
          obtain ⟨more, y⟩ := grew q hq
          rw [tabs q hq] at z
          cases z
          exact Or.inr (Or.inl ⟨((heads q hq).tab (tabs q hq)).isCodeTable, rfl, #[], more, rfl, by rw [Array.empty_append]; exact y⟩)
        · exact Or.inl (stay m z)
      · by_cases m : b ∈ cs.map (·.2)
        · obtain ⟨q, hq, rfl⟩ := List.mem_map.mp m
          obtain ⟨more, y⟩ := grew q hq
          exact ⟨_, y⟩
        · exact ⟨o, stay m z⟩
theorem law_callGT (kin : K.In s₁.heap) (hns : s₁.heap.Ns mainGlobals mg) (hb : s₁.heap.Ns builtinsNs mb) (hbb : ∀ x : Str, x ≠ "__name__" → mb x = bootBuiltins x) (hlim : s₁.heap.NoLimit) (hg : s₁.gens = #[])
    (tabs : ∀ q ∈ cs, s₁.heap.get? q.2 = some { cls := .none, data := .fields #[] }) (out : ∀ q ∈ cs, K.lookup q.2 = none) (heads : ∀ q ∈ cs, PySem.W.CodeHd s₁.heap q.1 q.2)
    (hbm : ∃ (bm : Addr) (ob : Obj), mg "__builtins__" = some (.ref bm) ∧ bm ≠ builtinsNs ∧ s₁.heap.get? bm = some ob ∧ ob.cls = .type "module" ∧ ob.dict = some builtinsNs ∧ ob.data = .plain)
    (ha : s₁.heap.get? a = some { cls := .type "list", data := .seq vs.toArray }) (hi : IntsAre vs ns) (hl : ns.length ≤ sizeLine) (room : Room k callerA)
    (F : ∀ base : Heap, K.In base → base.Ns mainGlobals mg → (∀ q ∈ cs, LamX.TabB base mg q.1 q.2) → FnG P w K mg base CX k fa fd [x] sp) (bnd : ∀ (s : Shared) (u : Value), BindsTo s fd ⟨[u], []⟩ [(x, u)])
    (ask : ∀ H : Hp, (∀ q ∈ cs, H q.2 = some (.tbl #[])) → SqL K H a (ns.map V.int) → sp [.ref a] H (fun v _ => v = .bl true) fun _ _ _ => False) (hCX : ∀ H e s', CX [] H s₁ (fun _ _ _ => False) e s' → False) :
    codeAny (model P w) callerA (.call (.ref fa) ⟨[.ref a], []⟩) (fun r s' => r = .ok (.ret (.bool true)) ∧ OldK s₁.heap s'.heap ∧ s'.os = s₁.os ∧ AllBare s'.gens) s₁ := by
  have rel : Vals (ns.map V.int) vs := vals_ints hi
  have tab : ∀ {b : Addr}, b ∈ cs.map (·.2) → s₁.heap.get? b = some { cls := .none, data := .fields #[] } := fun {b} m => by
    obtain ⟨q, hq, rfl⟩ := List.mem_map.mp m
    exact tabs q hq
  have na : a ∉ cs.map (·.2) := fun m => by
    have z := tab m
    rw [ha] at z
    cases z
  have isIn : ∀ {q : Addr × Addr}, q ∈ cs → q.2 ∈ cs.map (·.2) := fun {q} hq => List.mem_map.mpr ⟨q, hq, rfl⟩
  cases hk : K.lookup a with
  | some o =>
    have z := kin a o hk
    rw [ha] at z
    cases z
    let H0 : Hp := fun b => if b ∈ cs.map (·.2) then some (.tbl #[]) else none
    have on : ∀ {b : Addr}, b ∈ cs.map (·.2) → H0 b = some (.tbl #[]) := fun m => if_pos m
    have no : ∀ {b : Addr}, b ∉ cs.map (·.2) → H0 b = none := fun m => if_neg m
    have inv : ∀ {b u}, H0 b = some u → b ∈ cs.map (·.2) ∧ u = .tbl #[] := fun {b u} y => by
      by_cases m : b ∈ cs.map (·.2)
      · rw [on m] at y; cases y; exact ⟨m, rfl⟩
      · rw [no m] at y; cases y
    refine law_coreT (H := H0) kin hns hb hbb hlim hg tabs out heads hbm ha room F bnd hCX (fun q hq => on (isIn hq)) (fun b => ?_) (ask _ (fun q hq => on (isIn hq)) (Or.inr ⟨_, vs.toArray, _, hk, rfl, rfl, rfl, ?_, ?_⟩)) (fun b u y => ?_) (fun y => Or.inr (inv y).1) (fun y => absurd (inv y).1 na)
    · by_cases m : b ∈ cs.map (·.2)
      · exact Or.inr (Or.inl m)
      · exact Or.inl (no m)
    · rw [List.size_toArray, hi.length]
      exact hl
    · simpa using rel
    · obtain ⟨m, rfl⟩ := inv y
      exact tab m
  | none =>
    let H0 : Hp := fun b => if b = a then some (.frz { cls := .type "list", data := .seq vs.toArray } (.lst (ns.map V.int))) else if b ∈ cs.map (·.2) then some (.tbl #[]) else none
    have at0 : H0 a = some (.frz { cls := .type "list", data := .seq vs.toArray } (.lst (ns.map V.int))) := if_pos rfl
    have on : ∀ {b : Addr}, b ∈ cs.map (·.2) → H0 b = some (.tbl #[]) := fun {b} m => by
      have nb : ¬ b = a := fun z => na (z ▸ m)
      show (if b = a then _ else if b ∈ cs.map (·.2) then _ else _) = _
      rw [if_neg nb, if_pos m]
    have no : ∀ {b : Addr}, ¬ b = a → b ∉ cs.map (·.2) → H0 b = none := fun {b} nb m => by
      show (if b = a then _ else if b ∈ cs.map (·.2) then _ else _) = _
      rw [if_neg nb, if_neg m]
    refine law_coreT (H := H0) kin hns hb hbb hlim hg tabs out heads hbm ha room F bnd hCX (fun q hq => on (isIn hq)) (fun b => ?_) (ask _ (fun q hq => on (isIn hq)) (Or.inl (Or.inr ⟨_, at0⟩))) (fun b u y => ?_) (fun {b u} y => ?_) (fun _ => hk)
    · by_cases e : b = a
      · rw [e]
        exact Or.inr (Or.inr ⟨_, _, at0⟩)
      · by_cases m : b ∈ cs.map (·.2)
        · exact Or.inr (Or.inl m)
        · exact Or.inl (no e m)
    · by_cases e : b = a
      · subst e
        rw [at0] at y
        cases y
        exact ⟨ha, by rw [List.length_map]; exact hl, vs, _, rel, ha⟩
      · by_cases m : b ∈ cs.map (·.2)
        · rw [on m] at y
          cases y
          exact tab m
        · rw [no e m] at y
          cases y
    · by_cases e : b = a
      · exact Or.inl e
      · by_cases m : b ∈ cs.map (·.2)
        · exact Or.inr m
        · rw [no e m] at y
          cases y
end
/-- what the end wants of a law: its def, its code objects with their tables, its promise -/
def LawG (l : PySem.W.OpenLaw) (w : World) (K : PySem.W.Frag) (CX : CXT) (k n : Nat) (x : Str) (mg : Str → Option Value) (fa : Addr) (h : Heap) : Prop :=
  ∃ (fd : FuncData) (cs : List (Addr × Addr)) (sp : Sp), (∀ q ∈ cs, h.get? q.2 = some { cls := .none, data := .fields #[] }) ∧ (∀ q ∈ cs, K.lookup q.2 = none) ∧ (∀ q ∈ cs, PySem.W.CodeHd h q.1 q.2) ∧ (∀ (s : Shared) (u : Value), BindsTo s fd ⟨[u], []⟩ [(x, u)]) ∧
    (∀ (H : Hp) (a : Addr) (ns : List Int), ns.length ≤ n → (∀ q ∈ cs, H q.2 = some (.tbl #[])) → SqL K H a (ns.map V.int) → sp [.ref a] H (fun v _ => v = .bl true) fun _ _ _ => False) ∧
    ∀ base : Heap, K.In base → base.Ns mainGlobals mg → (∀ q ∈ cs, LamX.TabB base mg q.1 q.2) → FnG l.prog w K mg base CX k fa fd [x] sp
theorem walk_ofTG {l : PySem.W.OpenLaw} {n k : Nat} {q : Program} {loose : List Str} {XP : (Str → Option Value) → Heap → Prop} {YP : World → Heap → Prop} {d : DefRec} {K : Params → PySem.W.Frag} {CX : World → CXT} {x : Str}
    (hn : l.most = some n) (hn2 : n ≤ sizeLine) (hdf : d.params.defaults = []) (hr : Room k callerA) (hY : ∀ (w : World) (h : Heap), YP w h → (K w.params).In h)
    (F : ∀ (w : World) (mg : Str → Option Value) (fa : Addr) (h : Heap), YP w h → (K w.params).In h → h.Ns mainGlobals mg → mg d.name = some (.ref fa) → LawG l w (K w.params) (CX w) k n x mg fa h)
    (hCX : ∀ (w : World) (H : Hp) (s : Shared) (e : Value) (s' : Shared), CX w [] H s (fun _ _ _ => False) e s' → False) : PySem.W.WalkO q loose XP YP l.row.toRowW d [] (fun f vs => PySem.call f vs) := by
  apply Att.attach_callB hn hdf
  intro w s₀ s₁ mg mb fa o pm cd doc a vs ns G Y _ _ _ hmg hobj hints hlen _ hg
  obtain ⟨fd, cs, sp, tabs, out, heads, bnd, ask, hF⟩ := F w mg fa _ Y (hY w _ Y) G.T.g hmg
  exact law_callGT (hY w _ Y) G.T.g G.T.b G.T.builtins G.T.nolimit hg tabs out heads G.T.bmain hobj hints (Nat.le_trans hlen hn2) hr hF bnd (fun H tb hS => ask H a ns hlen tb hS) fun H e s' => hCX w H s₁ e s'
end Fb
set_option maxRecDepth 100000
set_option maxHeartbeats 4000000
namespace Fb
open PySem PySem.Spec PyProof.Rows L2
/-! the pen -/
def penK (l : Addr) (a r f : Int) : List (Key × V) := [(.inr "cells", .ref l), (.inr "at", .int a), (.inr "rest", .int r), (.inr "fold", .int f)]
theorem ne1 : ¬ (("cells" : Str) = "rest") := by decide +kernel
theorem ne2 : ¬ (("at" : Str) = "rest") := by decide +kernel
theorem ne3 : ¬ (("cells" : Str) = "at") := by decide +kernel
theorem ne4 : ¬ (("cells" : Str) = "fold") := by decide +kernel
theorem ne5 : ¬ (("at" : Str) = "fold") := by decide +kernel
theorem ne6 : ¬ (("rest" : Str) = "fold") := by decide +kernel
theorem ne7 : ¬ (("rest" : Str) = "at") := by decide +kernel
theorem ne8 : ¬ (("fold" : Str) = "at") := by decide +kernel
theorem ne9 : ¬ (("fold" : Str) = "rest") := by decide +kernel
theorem inr_ne {a b : Str} (h : ¬ a = b) : ¬ ((Sum.inr a : Key) = Sum.inr b) := fun e => h (Sum.inr.inj e)
section
variable {H : Hp} {p l : Addr} {a r f x : Int}
theorem penK_cells : valV (penK l a r f) (.inr "cells") = some (.ref l) := by
  unfold penK; exact valV_pos rfl
theorem penK_at : valV (penK l a r f) (.inr "at") = some (.int a) := by
  unfold penK; rw [valV_neg (inr_ne ne3)]; exact valV_pos rfl
theorem penK_rest : valV (penK l a r f) (.inr "rest") = some (.int r) := by
  unfold penK; rw [valV_neg (inr_ne ne1), valV_neg (inr_ne ne2)]; exact valV_pos rfl
theorem penK_fold : valV (penK l a r f) (.inr "fold") = some (.int f) := by
  unfold penK; rw [valV_neg (inr_ne ne4), valV_neg (inr_ne ne5), valV_neg (inr_ne ne6)]; exact valV_pos rfl
theorem penK_put_at : putK (penK l a r f) (.inr "at") (.int x) = penK l x r f := by
  unfold putK
  rw [valV_any, penK_at, Option.isSome_some, if_pos rfl]
  unfold penK
  simp only [List.map_cons, List.map_nil, if_neg (inr_ne ne3), if_neg (inr_ne ne7), if_neg (inr_ne ne8), if_true]
theorem penK_put_rest : putK (penK l a r f) (.inr "rest") (.int x) = penK l a x f := by
  unfold putK
  rw [valV_any, penK_rest, Option.isSome_some, if_pos rfl]
  unfold penK
  simp only [List.map_cons, List.map_nil, if_neg (inr_ne ne1), if_neg (inr_ne ne2), if_neg (inr_ne ne9), if_true]
theorem g_cells (e : H p = some (.dK (penK l a r f))) : DGet H p (.str "cells") (some (.ref l)) := by
  have h := DGet.k (k := .inr "cells") e
  rw [penK_cells] at h; exact h
theorem g_at (e : H p = some (.dK (penK l a r f))) : DGet H p (.str "at") (some (.int a)) := by
  have h := DGet.k (k := .inr "at") e
  rw [penK_at] at h; exact h
theorem g_rest (e : H p = some (.dK (penK l a r f))) : DGet H p (.str "rest") (some (.int r)) := by
  have h := DGet.k (k := .inr "rest") e
  rw [penK_rest] at h; exact h
theorem g_fold (e : H p = some (.dK (penK l a r f))) : DGet H p (.str "fold") (some (.int f)) := by
  have h := DGet.k (k := .inr "fold") e
  rw [penK_fold] at h; exact h
theorem pen_sz : (penK l a r f).length < sizeLine := by
  show 4 < sizeLine
  rw [sizeLine_eq]; decide
theorem p_at (e : H p = some (.dK (penK l a r f))) : DPut H p (.str "at") (.int x) (upd H p (.dK (penK l x r f))) := by
  have h := DPut.k (k := .inr "at") (v := .int x) e pen_sz
  rw [penK_put_at] at h; exact h
theorem p_rest (e : H p = some (.dK (penK l a r f))) : DPut H p (.str "rest") (.int x) (upd H p (.dK (penK l a x f))) := by
  have h := DPut.k (k := .inr "rest") (v := .int x) e pen_sz
  rw [penK_put_rest] at h; exact h
end
/-- a pen at p, its cells at l, that has been asked at most n times -/
def PenL (H : Hp) (p l : Addr) (n : Nat) : Prop := ∃ (cs : List Int) (a r f : Int), H p = some (.dK (penK l a r f)) ∧ H l = some (.lst (cs.map V.int)) ∧ 0 ≤ a ∧ a ≤ n ∧ 0 ≤ r ∧ 0 ≤ f ∧ f < 2147483629
theorem PenL.mono {H : Hp} {p l : Addr} {n m : Nat} (h : PenL H p l n) (le : n ≤ m) : PenL H p l m := by
  obtain ⟨cs, a, r, f, h1, h2, h3, h4, h5⟩ := h
  exact ⟨cs, a, r, f, h1, h2, h3, by omega, h5⟩
theorem PenL.same {H H' : Hp} {p l : Addr} {n : Nat} (h : PenL H p l n) (s : Same H H') : PenL H' p l n := by
  obtain ⟨cs, a, r, f, h1, h2, h3⟩ := h
  exact ⟨cs, a, r, f, s _ _ h1, s _ _ h2, h3⟩
def spTake : Sp := fun vs H Q _ => ∃ (p l : Addr) (m : Int) (n : Nat), vs = [.ref p, .int m] ∧ 0 < m ∧ m < 1073741824 ∧ n < 1000000 ∧ PenL H p l n ∧
  ∀ (d : Int) (H' : Hp), 0 ≤ d → d < m → PenL H' p l (n + 1) → (∀ c, c ≠ p → H' c = H c) → Q (.int d) H'
structure TxP (mg : Str → Option Value) : Prop where
  n_int : mg "int" = none
  n_len : mg "len" = none
  n_abs : mg "abs" = none
  n_list : mg "list" = none
section
variable {P : Program} {w : World} {K : PySem.W.Frag} {mg : Str → Option Value} {base : Heap}
/-! the pen's making -/
theorem cut_map (ns : List Int) (lo hi : Option Int) : ∃ ms : List Int, cutV (ns.map V.int) lo hi = ms.map V.int ∧ ms.length ≤ ns.length := by
  unfold cutV
  refine ⟨(ns.drop (HT.sIx (ns.map V.int).length 0 lo)).take (HT.sIx (ns.map V.int).length (ns.map V.int).length hi - HT.sIx (ns.map V.int).length 0 lo), ?_, ?_⟩
  · rw [List.map_take, List.map_drop]
  · rw [List.length_take, List.length_drop]; omega
theorem putK_newS {kvs : List (Key × V)} {x : Str} {v : V} (h : valV kvs (.inr x) = none) : putK kvs (.inr x) v = kvs ++ [(.inr x, v)] := putK_new v h
theorem merge_pen {l : Addr} {a r f : Int} : mergeK [] [(.inr "cells", .ref l), (.inr "at", .int a), (.inr "rest", .int r), (.inr "fold", .int f)] = penK l a r f := by
  unfold mergeK
  simp only [List.foldl_cons, List.foldl_nil]
  rw [putK_newS (x := "cells") valV_nil]
  rw [putK_newS (x := "at") (by rw [List.nil_append, valV_neg (inr_ne ne3)]; exact valV_nil)]
  rw [putK_newS (x := "rest") (by simp only [List.nil_append, List.cons_append]; rw [valV_neg (inr_ne ne1), valV_neg (inr_ne ne2)]; exact valV_nil)]
  rw [putK_newS (x := "fold") (by simp only [List.nil_append, List.cons_append]; rw [valV_neg (inr_ne ne4), valV_neg (inr_ne ne5), valV_neg (inr_ne ne6)]; exact valV_nil)]
  rfl
def spPen (K : PySem.W.Frag) : Sp := fun vs H Q _ => ∃ (a : Addr) (ns : List Int), vs = [.ref a] ∧ SqL K H a (ns.map V.int) ∧ ns.length ≤ 63 ∧
  ∀ (p l : Addr) (H' : Hp), H p = none → H l = none → Same H H' → PenL H' p l 0 → Q (.ref p) H'
theorem smN {H H' : Hp} {p : Addr} {o : HO} (s : Same H H') (h : H' p = none) : Same H (upd H' p o) := fun b u e => by
  rw [upd_ne (ne_of_none (s b u e) h)]
  exact s b u e
end
end Fb
set_option maxRecDepth 100000
set_option maxHeartbeats 4000000
namespace Fb
open PySem PySem.Spec PyProof.Rows L2
/-! own exceptions as values -/
/-- C(e, ..), C's own __init__ keeping sp: a new exception, held -/
def tExI (C : Addr) (sp : Sp) (dvs : List V) (ta : TA) : TE := fun σ H Q => ta σ H fun vs H1 => vs.length ≤ 1000 ∧ ∀ a, H1 a = none → sp (.ref a :: (vs ++ dvs)) (upd H1 a (exo a C none)) (fun v H2 => v = .non ∧ Q (.ref a) H2) (fun _ _ _ => False)
section
variable {X : Cx} {e : Expr} {es : List Expr} {ta : TA} {p pos : Pos}
theorem pe_exI {CX : CXT} {x : Str} {C fI : Addr} {k : Nat} {fd : FuncData} {ps : List Str} {sp : Sp} {ds : List Value} {dvs : List V} (T : OexC X.K C) (own : PySem.W.findIn X.K (.ref C) "__init__" = some (some (.ref fI))) (isf : PySem.W.typeIn X.K (.ref fI) = some (.type "function"))
    (G : FnOk X.prog X.w X.K X.mg X.base CX k fI fd ps sp) (room : Room (k + 1) X.A) (bnd : Binds X.K fd ps ds) (dfl : Vals dvs ds) (out : Passes CX X (fun _ _ _ => False)) (gl : Gl X x) (at_ : X.mg x = some (.ref C)) (ha : PA X (e :: es) ta)
    (h1 : (x == ("__debug__" : Str)) = false := by decide) (h2 : starEach (e :: es) X.env = (false, eval e X.env) :: starEach es X.env := by rfl) (h3 : (backTo pos (starEach es X.env)).any (·.1) = false := by rfl) :
    PE X (.Call (.Name x p) (e :: es) [] pos) (tExI C sp dvs ta) := by
  constructor
  intro pins s σ H Q I asked
  obtain ⟨_, _, _, _, bm, _, _, _, _, _, _, _, _, _, _, cls, refs⟩ := T.cls
  apply wpAny_Call_Name_kw
  refine ld_glob I gl at_ ?_ h1
  apply PySem.W.callWith_K (h₀ := X.base) I.ok.mod.kin T.kC ?_ h2 h3
  apply thn (ha.run pos pins s σ H _ I asked)
  rintro us ⟨hp, g, dr, tk, os⟩ ⟨vs, H1, I1, rel, few, next⟩
  refine ⟨I1.kIn, ?_⟩
  show wpAny _ _ (call (.ref C) us) _ _ _
  have above : hp.objs.size ≤ hp.objs.size + 1 := Nat.le_succ _
  have q := next (hp.objs.size + 1) (I1.hok.fresh above)
  have made : ((hp.push (PySem.W.kdv_tup us)).push (PySem.HandSPX.excO C hp.objs.size)).get? (hp.objs.size + 1) = some (PySem.HandSPX.excO C hp.objs.size) := by heap_get
  have I2 := I1.laid (t' := tk) (fun b o z => Heap.get?_push_of_some _ (Heap.get?_push_of_some (PySem.W.kdv_tup us) z)) above (exo_ok (H := upd H1 (hp.objs.size + 1) (exo (hp.objs.size + 1) C none)) (P := X.prog) (w := X.w) made)
  have rel2 : Vals (V.ref (hp.objs.size + 1) :: (vs ++ dvs)) (Value.ref (hp.objs.size + 1) :: (us ++ ds)) := .cons rfl (rel.append dfl)
  have len : (Value.ref (hp.objs.size + 1) :: us ++ ds).length = ps.length := rel2.length.symm.trans (G.len _ _ _ _ q)
  have small : us.length ≤ sizeLine := by
    rw [sizeLine_eq, ← Paired.length rel]
    omega
  apply wpAny_call
  refine PySem.HandSPX.call_own PySem.F.excBase_ValueError (fun Y => PySem.HandSPX.refsVE_contains Y bm refs) (I1.kIn _ _ cls) (PySem.W.looks_findIn I1.kIn own) (fun self => PySem.W.bind_fn I1.kIn self isf) small ?_
  refine codeAny_mono (G.run _ X.stack _ _ ⟨Value.ref (hp.objs.size + 1) :: us, []⟩ _ _ _ (fun _ _ _ => False) (room.make C us []) (I2.env0.make C us []) (bnd _ (Value.ref (hp.objs.size + 1) :: us) I2.kIn len) rel2 q) ?_
  intro r s' z
  cases r with
  | error er => exact out pins σ _ _ er s' I2 z
  | ok fl =>
    cases fl with
    | brk => exact (show False from z).elim
    | cont => exact (show False from z).elim
    | next => exact (show False from z).elim
    | ret u =>
      obtain ⟨v, H', I3, rv, rfl, q3⟩ := I2.after z
      exact ⟨rv, V.ref (hp.objs.size + 1), H', I3, rfl, q3⟩
end
/-- at a an exception of the class at C stands, with its own dict or without -/
def ExAt (H : Hp) (a C : Addr) : Prop := H a = some (ExO (.ref C) a) ∨ ∃ (d : Addr) (fs : List (Str × V)), H a = some (exo a C (some d)) ∧ H d = some (exd d fs)
/-- .. with a field -/
def ExFld (H : Hp) (a C : Addr) (fs : List (Str × V)) : Prop := ∃ d : Addr, H a = some (exo a C (some d)) ∧ H d = some (exd d fs)
theorem ExFld.at {H : Hp} {a C : Addr} {fs : List (Str × V)} (h : ExFld H a C fs) : ExAt H a C := by
  obtain ⟨d, h1, h2⟩ := h
  exact .inr ⟨d, fs, h1, h2⟩
theorem ExFld.same {H H' : Hp} {a C : Addr} {fs : List (Str × V)} (h : ExFld H a C fs) (s : Same H H') : ExFld H' a C fs := by
  obtain ⟨d, h1, h2⟩ := h
  exact ⟨d, s _ _ h1, s _ _ h2⟩
theorem ExAt.same {H H' : Hp} {a C : Addr} (h : ExAt H a C) (s : Same H H') : ExAt H' a C := by
  rcases h with h | ⟨d, fs, h1, h2⟩
  · exact .inl (s _ _ h)
  · exact .inr ⟨d, fs, s _ _ h1, s _ _ h2⟩
/-- what the written part says of an exception class, for isinstance and fields -/
structure XC (K : PySem.W.Frag) (C : Addr) : Prop where
  cl : (PySem.W.clsIn K C).isSome = true
  ga : PySem.W.findIn K (.ref C) "__getattribute__" = some (some (.builtin "BaseException.__getattribute__"))
  gg : PySem.W.findIn K (.ref C) "__getattr__" = some none
  sb : PySem.W.subIn K (.ref C) (.type "BaseException") = some true
  ca : PySem.W.findIn K (.ref C) "__class__" = some (some (.builtin "object.__class__"))
  ob : PySem.W.mroIn K C (.type "object") = some true
  hd : PySem.W.hasDictIn K C = true
structure XB (K : PySem.W.Frag) : Prop where
  hn : PySem.W.specialIn K (.builtin "object.__class__") "__get__" = some (some (.builtin "getset_descriptor.__get__"))
  ht : PySem.W.takesIn K (.builtin "object.__class__") = some true
section
variable {X : Cx} {pins : List (Addr × Obj)} {σ : L2.St} {H : Hp} {s : Shared}
theorem ExAt.inst {a C : Addr} (I : Inv X pins σ H s) (h : ExAt H a C) : ∃ ox od, PySem.W.InstAt s.heap a ox C od := by
  rcases h with h | ⟨d, fs, h1, h2⟩
  · obtain ⟨⟨oe, vs, ho, hz, hd, _⟩, _, _⟩ := I.hok a _ h
    refine ⟨oe, none, ho, hz.1, ?_, ?_⟩
    · unfold PySem.W.notCls; rw [hd] <;> rfl
    · rw [hz.2] <;> trivial
  · obtain ⟨t1, ho⟩ := exo_at I.hok h1
    obtain ⟨mA, ⟨o, es, ep, e1, _⟩, _⟩ := exd_at I.hok h2
    exact ⟨_, some o, ho, rfl, rfl, e1⟩
def rIsX (K : PySem.W.Frag) : List V → Hp → VK → Prop := fun xs H Q => ∃ (a C : Addr) (c : V) (cv : Value) (b : Bool), xs = [.ref a, c] ∧ XC K C ∧ XB K ∧ ExAt H a C ∧ ClsV c cv ∧ PySem.W.kitOne K (.ref C) cv = some b ∧ Q (.bl b) H
theorem call_isX : CallR X (.builtin "isinstance") (rIsX X.K) := by
  intro pins s σ H xs us Q I r h
  obtain ⟨a, C, c, cv, b, rfl, T, B, hE, k, e, q⟩ := h
  obtain ⟨u1, u2, rfl, r1, r2⟩ := vals2 r
  have e2 := k.eq r2
  subst e2
  cases (show u1 = Value.ref a from r1)
  obtain ⟨ox, od, J⟩ := hE.inst I
  exact PySem.W.kia_one (PySem.W.kitx_exc T.cl T.ga T.gg T.sb T.ca B.hn B.ht T.ob) I.kIn J e (fun z => nomatch z) fun tk => ⟨.bl b, H, I.tok tk, rfl, q⟩
/-- e.f of an exception that is held -/
def tXat (K : PySem.W.Frag) (f : Str) (te : TE) : TE := fun σ H Q => te σ H fun x H1 => ∃ (a C : Addr) (fs : List (Str × V)) (v : V), x = .ref a ∧ XC K C ∧ PySem.W.findIn K (.ref C) f = some none ∧ ExFld H1 a C fs ∧ fs.lookup f = some v ∧ Q v H1
theorem pe_xat {e : Expr} {te : TE} {f : Str} {pos : Pos} (he : PE X e te) (hb : attributeBase e f X.env (eval e X.env) = eval e X.env := by rfl) : PE X (.Attribute e f pos) (tXat X.K f te) := by
  refine ⟨fun pins s σ H Q I h => ?_⟩
  refine attr_of hb (thn (he.run pins s σ H _ I h) fun u s1 hh => ?_)
  obtain ⟨x, H1, I1, rx, a, C, fs, v, ex, T, hno, ⟨d, h1, h2⟩, hl, q⟩ := hh
  subst ex
  obtain rfl : u = Value.ref a := rx
  obtain ⟨t1, ho⟩ := exo_at I1.hok h1
  obtain ⟨mA, hns, hr⟩ := exd_at I1.hok h2
  obtain ⟨od, hod, hlk⟩ := lookIn_ns hns
  obtain ⟨u, hu, ru⟩ := RelO.some_of (v := v) (o := mA f) (by rw [← hl]; exact hr f)
  have J : PySem.W.InstAt s1.heap a { cls := .ref C, dict := some d, data := .fields #[.ref t1, .none, .none, .none, .bool false, .none] } C (some od) := ⟨ho, rfl, rfl, hod⟩
  exact HandSPX.exc_get I1.kIn J T.ga T.gg T.sb (PySem.W.findObj_own T.hd hno rfl (by rw [hlk, hu])) (handed_of ru) ⟨v, H1, I1.tok _, ru, q⟩
end
end Fb
set_option maxRecDepth 100000
set_option maxHeartbeats 4000000
namespace Fb
open PySem PySem.Spec PyProof.Rows L2
/-! an exception that was caught and is kept: try: .. except X as e: y = e -/
/-- at a: an exception of the class cls, its own dict at d -/
def ExR (cls : Value) (d : Option Addr) (a : Addr) : HO := .ext fun h => ∃ (oe : Obj) (vs : Array Value), h.get? a = some oe ∧ oe.cls = cls ∧ oe.dict = d ∧ oe.data = .fields vs
section
variable {X : Cx} {pins : List (Addr × Obj)} {σ : L2.St} {H : Hp} {s : Shared}
/-- an object of ours that nothing tells of is taken up -/
theorem adopt {a : Addr} {oe : Obj} {vs : Array Value} {cls : Value} {d : Option Addr} (I : Inv X ((a, oe) :: pins) σ H s) (new : ∀ o, X.s_0.heap.get? a = some o → False) (np : ∀ p ∈ X.pn ++ pins, p.1 ≠ a) (z : Zc cls d oe) (dat : oe.data = .fields vs) : Inv X pins σ (upd H a (ExR cls d a)) s := by
  obtain ⟨he, hn, hL, hF, _⟩ := I.pin (a, oe) (List.mem_append_right _ List.mem_cons_self)
  have old : ∀ {b : Addr} {o : HO}, H b = some o → upd H a (ExR cls d a) b = some o := fun {b o} q => (upd_ne (ne_of_none q hn)).trans q
  have off : ∀ {b : Addr}, b ≠ a → H b = none → upd H a (ExR cls d a) b = none := fun q n => (upd_ne q).trans n
  have nc : ∀ {x : Str} {c : Addr}, X.env.cells.lookup x = some c → c ≠ a := by
    intro x c e q
    obtain ⟨v, o, ho, hd⟩ := I.cell x c e
    subst q
    have he' : s.heap.get? c = some oe := he
    rw [ho] at he'
    cases he'
    rw [dat] at hd
    cases hd
  have n0 : ∀ {b : Addr} {o : Obj}, X.s_0.heap.get? b = some o → b ≠ a := fun {b o} q e => new o (by rw [← e]; exact q)
  constructor
  · exact I.ok
  · exact I.os
  · exact I.bare
  · constructor
    · exact I.base.keep
    · exact I.base.slot
    · exact fun b o q n x => off (n0 q) (I.base.free b o q n x)
    · exact I.base.there
    · exact fun b xs q => old (I.base.tups b xs q)
    · exact fun b o u q => old (I.base.frzs b o u q)
    · intro b ps q
      obtain ⟨more, e⟩ := I.base.tbls b ps q
      exact ⟨more, old e⟩
  · exact I.loc
  · exact I.cell
  · exact off (Ne.symm hL) I.free
  · exact fun x c e => off (nc e) (I.freeC x c e)
  · intro p hp
    have hp' : p ∈ X.pn ++ (a, oe) :: pins := by
      rcases List.mem_append.mp hp with h | h
      · exact List.mem_append_left _ h
      · exact List.mem_append_right _ (List.mem_cons_of_mem _ h)
    obtain ⟨h1, h2, h3, h4, h5⟩ := I.pin p hp'
    exact ⟨h1, off (np p hp) h2, h3, h4, h5⟩
  · intro b o q
    by_cases e : b = a
    · subst e
      rw [upd_same] at q
      cases q
      exact ⟨⟨oe, vs, he, z.1, z.2, dat⟩, ⟨oe, he⟩, fun h1 h2 ⟨o', v', q, r⟩ k => ⟨o', v', k _ q, r⟩⟩
    · rw [upd_ne e] at q
      exact (I.hok b o q).stay (fun c u _ r => r) (fun c r => old r) (fun c xs r => old r)
  · exact I.len
end
/-- what the clause does: y holds the exception, its own name goes -/
def wHold (K : PySem.W.Frag) (c : Value) (i j : Nat) (Wout : WX) (D : Ends) : WX := fun cls d σ H =>
  ∃ b, PySem.W.exmOne K cls c = some b ∧ (b = true → ∀ a, H a = none → D.nx (((σ.set i (some (.ref a))).set j (some (.ref a))).set i none) (upd H a (ExR cls d a))) ∧ (b = false → Wout cls d σ H)
section
variable {X : Cx} {x n y : Str} {c : Value} {i j : Nat} {body : List Stmt} {np pos pos' p1 p2 p3 : Pos} {tb : WX → TS} {Wout : WX}
theorem ps_try_hold (hs : X.stack = X.env :: X.outer) (hf : X.env.frame = some X.env.locals) (hex : X.ex = []) (hN : X.N.Nodup) (hi : X.N[i]? = some n) (hj : X.N[j]? = some y) (hln : X.env.kindOf n = some .local) (hly : X.env.scope.names.lookup y = some .local) (hc : Names X x c) (tk : Takes X Wout)
    (hdn : (n == ("__debug__" : Str)) = false) (hcn : (n == ("__classdict__" : Str)) = false)
    (hb : ∀ (W : WX) (pn : List (Addr × Obj)) (xe : Value → Shared → Prop), Takes (X.tr pn xe) W → PassesOwn (model X.prog X.w) X.A X.env xe → PSs (X.tr pn xe) body (tb W)) :
    PS X (.Try body [.ExceptHandler (some (.Name x np)) (some n) [.Assign [.Name y p1] (.Name n p2) p3] pos'] [] [] pos) (fun D σ H => tb (wHold X.K c i j Wout D) D σ H) := by
  constructor
  intro pins s σ H D I asked
  have ok := I.ok
  have frames : X.A.frames = some (X.env :: X.outer) := by rw [ok.frames, hs]
  apply wpAny_Try_except
  let clauses : List ExceptHandler := [.ExceptHandler (some (.Name x np)) (some n) [.Assign [.Name y p1] (.Name n p2) p3] pos']
  let behind : Value → Shared → Prop := fun e s₁ => wpAny (model X.prog X.w) X.A (noteFrame e X.env) (fun _ s₂ => wpAny (model X.prog X.w) X.A (setFlight e none) (fun _ s₃ => wpAny (model X.prog X.w) X.A (handleBy e X.env clauses) (SP X pins D) X.xe s₃) X.xe s₂) X.xe s₁
  have caught : Takes (X.tr (X.pn ++ pins) behind) (wHold X.K c i j Wout D) := by
    rintro u s' ⟨a, B, sI, pins', σ', H', cls, d, rfl, J', ground, up, sky, na, os, ag, b, eb, yes, no⟩
    have J : Inv X pins σ' H' sI := J'.ofTry ok
    have Ba : B.get? a = none := by
      rcases sky with h | h | h
      · exact h.2.1
      · exact h.2.1
      · exact h.2.1
    have sky' : Sky B (X.env :: X.outer) a (Zc cls d) X.env.locals s'.heap := by rw [← hs]; exact sky
    show wpAny (model X.prog X.w) X.A (noteFrame (.ref a) X.env) _ _ _
    refine Sky.land Zc.steady frames hf sky' fun h3 fl3 up3 => ?_
    have J3 : Inv X pins σ' H' { s' with heap := h3 } := J.landed ground fl3.1 (up.trans up3) os ag
    obtain ⟨oe3, vs3, he3, hz3, hd3⟩ := fl3.there
    have nofr : a ∉ frs (X.env :: X.outer) := by
      intro hm
      obtain ⟨_, o', e', hnf⟩ := fl3.2.2.1.mem hm
      rw [he3] at e'
      cases e'
      exact hnf _ hd3
    have nL : a ≠ X.env.locals := fun q => nofr (List.mem_filterMap.mpr ⟨X.env, List.mem_cons_self, by rw [hf, q]⟩)
    have nF : a ∉ X.fs := by
      intro hm
      obtain ⟨e, he, q⟩ := List.mem_filterMap.mp hm
      exact nofr (List.mem_filterMap.mpr ⟨e, List.mem_cons_of_mem _ he, q⟩)
    have inI : ∀ {o : Obj}, sI.heap.get? a = some o → False := fun {o} q => by
      have z := ground a o q (by rw [hs]; exact nofr)
      rw [Ba] at z
      cases z
    have new : ∀ o, X.s_0.heap.get? a = some o → False := fun o q => by
      obtain ⟨o', q'⟩ := J.base.there a o q (by rw [hex]; exact fun z => nomatch z)
      exact inI q'
    have others : ∀ p ∈ X.pn ++ pins, p.1 ≠ a := fun p hp q => by
      have z := (J.pin p hp).1
      rw [q] at z
      exact inI z
    have S3 := J3.suite he3 hd3 na nL nF
    refine wpAny_handleBy_cons (codeAny_handlers_test ?_) (fun q => by cases q)
    have LT1 : PySem.W.Looks (model X.prog X.w) h3 (typeOf (.ref a)) cls := fun A Q E s k q => wpAny_typeOf_ref (k _ _ he3) (by rw [hz3.1]; exact q)
    have LT2 := PySem.W.exm_one (M := model X.prog X.w) J3.kIn LT1 eb
    have name : ∀ {Q : Value → Shared → Prop} {E : Value → Shared → Prop}, Q c { s' with heap := h3 } → wpAny (model X.prog X.w) (X.A.mark (some (.ref a))) (eval (.Name x np) X.env) Q E { s' with heap := h3 } := by
      intro Q E q
      obtain ⟨g1, g2, g3 | ⟨g3, g4, g5⟩⟩ := hc
      · exact ld_glob (X := X.suite a ((a, oe3) :: (X.pn ++ pins))) S3 g1 g3 q g2
      · exact ld_blt (X := X.suite a ((a, oe3) :: (X.pn ++ pins))) S3 g1 g3 g4 q g5 g2
    refine name (LT2.here ?_)
    cases b with
    | true =>
      refine codeAny_handlers_suite_as (HandSPX.lands_againZ fl3 fun h4 fl4 up4 => ?_)
      have J4 : Inv X pins σ' H' { s' with heap := h4 } := J.landed ground fl4.1 ((up.trans up3).trans up4) os ag
      obtain ⟨oe4, vs4, he4, hz4, hd4⟩ := fl4.there
      have S4 := J4.suite he4 hd4 na nL nF
      refine store_ok (X := X.suite a ((a, oe4) :: (X.pn ++ pins))) (v := .ref a) S4 hN hi (Or.inl hln) rfl (fun s5 S5 => ?_) (Or.inr hln)
      have rd : PE (X.suite a ((a, oe4) :: (X.pn ++ pins))) (.Name n p2) (tVar i) := pe_var hi (Or.inl hln) hdn hcn
      have st : PSs (X.suite a ((a, oe4) :: (X.pn ++ pins))) [.Assign [.Name y p1] (.Name n p2) p3] (tAsg (tVar i) (gName j)) := pss_one (ps_set hN hj (Or.inl hly) rd (by rfl) (Or.inr hly))
      have li : i < σ'.length := by
        rw [J.len]
        exact (List.getElem?_eq_some_iff.mp hi).1
      refine wpAny_mono (st.run [] s5 _ H' { nx := fun σ6 H6 => σ6 = (σ'.set i (some (.ref a))).set j (some (.ref a)) ∧ H6 = H', rt := fun _ _ => False, bk := fun _ _ => False, ct := fun _ _ => False } S5 ⟨_, List.getElem?_set_self li, rfl, rfl⟩) ?_ (fun _ _ z => (show False from z).elim)
      intro f s6 z
      have J6 : ∀ {σ6 : L2.St} {H6 : Hp}, Inv (X.suite a ((a, oe4) :: (X.pn ++ pins))) [] σ6 H6 s6 → Inv X ((a, oe4) :: pins) σ6 H6 s6 := fun {σ6 H6} I6 =>
        ⟨ok, I6.os, I6.bare, I6.base, I6.loc, I6.cell, I6.free, I6.freeC, fun p hp => I6.pin p (by
          rw [List.append_nil]
          rcases List.mem_append.mp hp with h | h
          · exact List.mem_cons_of_mem _ (List.mem_append_left _ h)
          · rcases List.mem_cons.mp h with h | h
            · rw [h]; exact List.mem_cons_self
            · exact List.mem_cons_of_mem _ (List.mem_append_right _ h)), I6.hok, I6.len⟩
      cases f with
      | next =>
        obtain ⟨σ6, H6, S6, rfl, rfl⟩ := z
        refine gone_ok (J6 S6) hN hi hln fun s7 J7 => ?_
        exact ⟨_, _, adopt J7 new others hz4 hd4, yes rfl a na⟩
      | brk =>
        obtain ⟨_, _, _, q⟩ := z
        exact (show False from q).elim
      | cont =>
        obtain ⟨_, _, _, q⟩ := z
        exact (show False from q).elim
      | ret u =>
        obtain ⟨_, _, _, _, _, q⟩ := z
        exact (show False from q).elim
    | false =>
      show wpAny _ X.A (handleBy (.ref a) X.env []) _ _ _
      apply wpAny_handleBy_nil
      obtain ⟨_, _, _, oe, vs, T, oT, ts', he, hz, hd, h1, hr⟩ := id fl3
      have up_ : wpAny (model X.prog X.w) X.A (setFlight (.ref a) X.env.frame) (fun _ s4 => wpAny (model X.prog X.w) X.A (throw (.ref a) : Sem Flow) (SP X pins D) X.xe s4) X.xe { s' with heap := h3 } := by
        rw [hf]
        refine HandSPX.setFlight_upZ fl3 fun h4 hh4 up4 => wpAny_throw (tk _ _ ?_)
        exact ⟨a, B, sI, pins, σ', H', cls, d, rfl, J, ground, (up.trans up3).trans up4, Or.inr (Or.inr (by rw [hs]; exact hh4)), na, os, ag, no rfl⟩
      unfold PySem.passOn
      refine wpAny_bind (wpAny_field he hd h1 ?_)
      rw [if_neg (show ¬ ((Value.ref T == Value.none) = true) from by simp)]
      first
        | exact wpAny_bind (wpAny_pure (wpAny_bind up_))
        | exact wpAny_bind up_
  refine wpAny_mono ((hb _ _ behind caught PassesOwn.looking).run [] s σ H D (I.toTry _) asked) ?_ (fun e s1 he => he)
  intro f s1 z
  cases f with
  | next =>
    obtain ⟨σ', H', J', q⟩ := z
    exact wpAny_execs_nil ⟨σ', H', J'.ofTry ok, q⟩
  | brk =>
    obtain ⟨σ', H', J', q⟩ := z
    exact ⟨σ', H', J'.ofTry ok, q⟩
  | cont =>
    obtain ⟨σ', H', J', q⟩ := z
    exact ⟨σ', H', J'.ofTry ok, q⟩
  | ret u =>
    obtain ⟨v, σ', H', J', r, q⟩ := z
    exact ⟨v, σ', H', J'.ofTry ok, r, q⟩
end
end Fb
set_option maxRecDepth 100000
set_option maxHeartbeats 4000000
namespace Fb
open PySem PySem.Spec PyProof.Rows L2
/-! walks that yield new tuples of what is known beforehand: enumerate(text), zip(text, text), zip of three -/
def ItT (vals : Nat → List V) (n : Nat) : It := ⟨fun i _ => i < n, fun i H v H' => ∃ T, v = .ref T ∧ H T = none ∧ H' = upd H T (.tup (vals i)), fun i _ => i = n⟩
theorem turn_T {P : Program} {w : World} {K : PySem.W.Frag} {elts : List Expr} {kk : Nat} {tpos : Pos} {it : Addr} {fp wr : List Addr} {n : Nat} {Pt : Nat → Array Value → Prop} {St : Nat → Heap → Prop} {Mid : Nat → Addr → Heap → Prop} {vals : Nat → List V}
    (W : ∀ A : Around, A.handled = none → WalksT P w A it fp wr n Pt St Mid) (mem : it ∈ fp) (obj : ∀ i h, St i h → ∀ b ∈ fp, ∃ o, h.get? b = some o ∧ ∀ v, o.data ≠ .cell v)
    (tell : ∀ i a, Pt i a → Vals (vals i) a.toList) (few : ∀ i, (vals i).length ≤ sizeLine)
    (self : ∀ (A : Around) (i : Nat) (s : Shared) (Q : Value → Shared → Prop) (E : Value → Shared → Prop), St i s.heap → Q (.ref it) s → wpAny (model P w) A (pyIter (.ref it)) Q E s) : Turn P w K (.Tuple elts kk tpos) (ItT vals n) fp it St where
  mem := mem
  obj := obj
  keep := fun i h h' st k => (W {} rfl).frame i h h' st k
  item := by
    rintro X rfl rfl rfl calm i pins s σ H E I apart st go
    have w := W X.A (I.ok.hd calm)
    refine w.item i s _ _ go st fun T a h' tk pt young isT mid keep => ⟨_, rfl, w.go elts kk tpos i T _ _ _ mid fun h'' st' keep2 => ?_⟩
    obtain ⟨o, ho, hc, m, hd⟩ := isT
    have ho2 : h''.get? T = some o := keep2 T o (w.apart i T _ mid) ho
    have J : Inv X pins σ (upd H T (.tup (vals i))) { s with heap := h'', toks := tk } := by
      refine I.turnedNew (ch := wr) (fun b u hb q => keep2 b u hb (keep b u hb q)) (fun b hb => apart b (w.sub b hb)) young ⟨few i, a.toList, tell i a pt, o, ho2, hc, m, ?_⟩
      rw [hd]
    refine ⟨.ref T, _, J, rfl, ⟨T, rfl, I.hok.fresh young, rfl⟩, st', fun b hb => ?_⟩
    obtain ⟨ob, hb2, _⟩ := obj i _ st b hb
    rw [upd_ne (Nat.ne_of_lt (Nat.lt_of_lt_of_le (Heap.lt_size hb2) young))]
    exact (apart b hb).1
  done := by
    rintro X rfl rfl rfl calm i pins s σ H E I apart st stop
    have w := W X.A (I.ok.hd calm)
    cases (show i = n from stop)
    exact w.done s _ _ st fun h' tk keep => ⟨rfl, I.turnedL (ch := wr) keep fun b hb => apart b (w.sub b hb)⟩
  self := self
/-- the sign of a text at a place -/
def sgn (x : Str) (i : Nat) : Str := ⟨#[x.cps.getD i 0]⟩
theorem sgn_at {x : Str} {i c : Nat} (h : x.cps[i]? = some c) : (⟨#[c]⟩ : Str) = sgn x i := by
  unfold sgn
  rw [Array.getD_eq_getD_getElem?, h] <;> rfl
abbrev PTx (x : Str) : Nat → Value → Prop := fun i v => ∃ c u, x.cps[i]? = some c ∧ v = .str ⟨#[c]⟩ u
theorem draws_text {prog : Program} {w : World} {A : Around} (hh : A.handled = none) (it : Addr) (x : Str) (t : Tok) : Draws prog w A it [it] x.cps.size (PTx x) (fun i h => h.IsStrIter it (strIterType x) x t i) := by
  unfold strIterType
  cases h : x.cps.all (· < 128)
  · exact Draws.strWide hh it x t
  · exact Draws.strAscii hh it x t
theorem text_begun {x : Str} {t : Tok} {h : Heap} {it : Addr} (e : h.get? it = some { cls := .type (strIterType x), data := .fields #[.str x t, .int 0 0] }) : h.IsStrIter it (strIterType x) x t 0 := ⟨_, e, rfl, rfl⟩
theorem text_cell {ty : String} {x : Str} {t : Tok} {i : Nat} {h : Heap} {it : Addr} (e : h.IsStrIter it ty x t i) : ∃ o, h.get? it = some o ∧ ∀ v, o.data ≠ .cell v := by
  obtain ⟨o, e1, _, e2⟩ := e
  exact ⟨o, e1, fun v z => by rw [e2] at z; cases z⟩
theorem rel_sgn {x : Str} {i : Nat} {v : Value} (h : PTx x i v) : RelV (.str (sgn x i)) v := by
  obtain ⟨c, u, e, rfl⟩ := h
  rw [← sgn_at e]
  exact ⟨u, rfl⟩
section
variable {X : Cx} {elts : List Expr} {kk : Nat} {tpos p pos : Pos} {e e1 e2 e3 : Expr} {ta : TA}
def iEnumS (ta : TA) : TI := fun σ H R => ta σ H fun vs H1 => ∃ x : Str, vs = [.str x] ∧ R (ItT (fun i => [.int (i : Nat), .str (sgn x i)]) x.cps.size) H1
theorem pi_enumS (hg : Gl X "enumerate") (hm : X.mg "enumerate" = none) (ha : PA X [e] ta) (hs : starEach [e] X.env = [(false, eval e X.env)] := by rfl) :
    PI X (.Tuple elts kk tpos) (.Call (.Name "enumerate" p) [e] [] pos) (iEnumS ta) := by
  constructor
  intro pins s σ H R I h
  refine Call_ (ld_blt I hg hm boot_enumerate (callWith_type1 ?_ hs rfl))
  apply thn (ha.run pos pins s σ H _ I h)
  rintro us s1 ⟨vs, H1, I1, rel, x, rfl, q⟩
  obtain ⟨u, rfl, ru⟩ := vals1 rel
  obtain ⟨t, rfl⟩ := (show ∃ t, u = Value.str x t from ru)
  apply call_enumerate_str
  intro h' he hit hsz keep
  apply wpAny_pyIter_enum he
  have I2 : Inv X pins σ H1 { s1 with heap := h' } := I1.kept (t' := s1.toks) keep
  have ne : s1.heap.objs.size + 1 ≠ s1.heap.objs.size := Nat.succ_ne_self _
  refine ⟨s1.heap.objs.size + 1, [s1.heap.objs.size + 1, s1.heap.objs.size], _, _, H1, rfl, I2,
    turn_T (fun A hh => WalksT.enumerateD (draws_text (A := A.in1) hh s1.heap.objs.size x t) (s1.heap.objs.size + 1) ne (fun z => ne (by simpa using z)) (by simp)) (by simp) ?_ ?_ (fun i => by show 2 ≤ sizeLine; decide) (fun A i s Q E st q => wpAny_pyIter_enum st.1.choose_spec q), ⟨⟨.none, he⟩, hit⟩, ?_, q⟩
  · rintro i h ⟨⟨old, h1⟩, h2⟩ b hb
    have hb' : b = s1.heap.objs.size + 1 ∨ b = s1.heap.objs.size := by simpa using hb
    rcases hb' with rfl | rfl
    · exact ⟨_, h1, fun v z => nomatch z⟩
    · exact text_cell h2
  · rintro i a ⟨t2, v, hv, rfl⟩
    exact .cons ⟨t2, rfl⟩ (.cons (rel_sgn hv) .nil)
  · intro b hb
    have hb' : b = s1.heap.objs.size + 1 ∨ b = s1.heap.objs.size := by simpa using hb
    have le : s1.heap.objs.size ≤ b := by rcases hb' with rfl | rfl <;> omega
    exact I1.fpOk le (I1.hok.fresh le)
def iZipS2 (ta : TA) : TI := fun σ H R => ta σ H fun vs H1 => ∃ x y : Str, vs = [.str x, .str y] ∧ R (ItT (fun i => [.str (sgn x i), .str (sgn y i)]) (min x.cps.size y.cps.size)) H1
theorem pi_zipS2 (hg : Gl X "zip") (hm : X.mg "zip" = none) (ha : PA X [e1, e2] ta) (hs : starEach [e1, e2] X.env = (false, eval e1 X.env) :: starEach [e2] X.env := by rfl) (hp : (backTo pos (starEach [e2] X.env)).any (·.1) = false := by rfl) :
    PI X (.Tuple elts kk tpos) (.Call (.Name "zip" p) [e1, e2] [] pos) (iZipS2 ta) := by
  constructor
  intro pins s σ H R I h
  refine Call_ (ld_blt I hg hm PyProof.Rows.boot_zip (callWith_type1 ?_ hs hp))
  apply thn (ha.run pos pins s σ H _ I h)
  rintro us s1 ⟨vs, H1, I1, rel, x, y, rfl, q⟩
  obtain ⟨u1, u2, rfl, r1, r2⟩ := vals2 rel
  obtain ⟨t1, rfl⟩ := (show ∃ t, u1 = Value.str x t from r1)
  obtain ⟨t2, rfl⟩ := (show ∃ t, u2 = Value.str y t from r2)
  apply zip_begins2 (begins_text x t1) (begins_text y t2) trivial trivial
  intro h' hz hTI hTO g1 g2 hsz keep
  apply wpAny_pyIter_zip hz
  have I2 : Inv X pins σ H1 { s1 with heap := h' } := I1.kept (t' := s1.toks) keep
  have S := zip_sep2 (N := s1.heap.objs.size) (fp1 := []) (fp2 := []) (fun b z => nomatch z) (fun b z => nomatch z)
  have five : ∀ {b : Addr}, b ∈ (s1.heap.objs.size + 4) :: (s1.heap.objs.size + 2) :: (s1.heap.objs.size + 3) :: ([s1.heap.objs.size] ++ [s1.heap.objs.size + 1]) → b = s1.heap.objs.size + 4 ∨ b = s1.heap.objs.size + 2 ∨ b = s1.heap.objs.size + 3 ∨ b = s1.heap.objs.size ∨ b = s1.heap.objs.size + 1 := fun z => by simpa using z
  refine ⟨s1.heap.objs.size + 4, _, _, _, H1, rfl, I2, turn_T (fun A hh => WalksT.zipD2 S (draws_text (A := A.in1) hh _ x t1) (draws_text (A := A.in1) hh _ y t2)) (by simp) ?_ ?_ (fun i => by show 2 ≤ sizeLine; decide) (fun A i s Q E st q => wpAny_pyIter_zip st.1 q),
    ⟨hz, hTI, ⟨_, _, hTO⟩, text_begun g1, text_begun g2⟩, ?_, q⟩
  · rintro i h ⟨h1, h2, ⟨_, _, h3⟩, h4, h5⟩ b hb
    rcases five hb with rfl | rfl | rfl | rfl | rfl
    · exact ⟨_, h1, fun v z => nomatch z⟩
    · exact ⟨_, h2, fun v z => nomatch z⟩
    · exact ⟨_, h3, fun v z => nomatch z⟩
    · exact text_cell h4
    · exact text_cell h5
  · rintro i a ⟨v1, v2, hv1, hv2, rfl⟩
    exact .cons (rel_sgn hv1) (.cons (rel_sgn hv2) .nil)
  · intro b hb
    have le : s1.heap.objs.size ≤ b := by rcases five hb with rfl | rfl | rfl | rfl | rfl <;> omega
    exact I1.fpOk le (I1.hok.fresh le)
def iZipS3 (ta : TA) : TI := fun σ H R => ta σ H fun vs H1 => ∃ x y z : Str, vs = [.str x, .str y, .str z] ∧ R (ItT (fun i => [.str (sgn x i), .str (sgn y i), .str (sgn z i)]) (min (min x.cps.size y.cps.size) z.cps.size)) H1
theorem pi_zipS3 (hg : Gl X "zip") (hm : X.mg "zip" = none) (ha : PA X [e1, e2, e3] ta) (hs : starEach [e1, e2, e3] X.env = (false, eval e1 X.env) :: starEach [e2, e3] X.env := by rfl) (hp : (backTo pos (starEach [e2, e3] X.env)).any (·.1) = false := by rfl) :
    PI X (.Tuple elts kk tpos) (.Call (.Name "zip" p) [e1, e2, e3] [] pos) (iZipS3 ta) := by
  constructor
  intro pins s σ H R I h
  refine Call_ (ld_blt I hg hm PyProof.Rows.boot_zip (callWith_type1 ?_ hs hp))
  apply thn (ha.run pos pins s σ H _ I h)
  rintro us s1 ⟨vs, H1, I1, rel, x, y, z, rfl, q⟩
  cases rel with
  | cons r1 rr =>
    rename_i u1 us
    obtain ⟨u2, u3, rfl, r2, r3⟩ := vals2 rr
    obtain ⟨t1, rfl⟩ := (show ∃ t, u1 = Value.str x t from r1)
    obtain ⟨t2, rfl⟩ := (show ∃ t, u2 = Value.str y t from r2)
    obtain ⟨t3, rfl⟩ := (show ∃ t, u3 = Value.str z t from r3)
    apply zip_begins3 (begins_text x t1) (begins_text y t2) (begins_text z t3) trivial trivial trivial
    intro h' hz hTI hTO g1 g2 g3 hsz keep
    apply wpAny_pyIter_zip hz
    have I2 : Inv X pins σ H1 { s1 with heap := h' } := I1.kept (t' := s1.toks) keep
    have S := zip_sep3 (N := s1.heap.objs.size) (fp1 := []) (fp2 := []) (fp3 := []) (fun b z => nomatch z) (fun b z => nomatch z) (fun b z => nomatch z)
    have six : ∀ {b : Addr}, b ∈ (s1.heap.objs.size + 5) :: (s1.heap.objs.size + 3) :: (s1.heap.objs.size + 4) :: ([s1.heap.objs.size] ++ [s1.heap.objs.size + 1] ++ [s1.heap.objs.size + 2]) → b = s1.heap.objs.size + 5 ∨ b = s1.heap.objs.size + 3 ∨ b = s1.heap.objs.size + 4 ∨ b = s1.heap.objs.size ∨ b = s1.heap.objs.size + 1 ∨ b = s1.heap.objs.size + 2 := fun z => by simpa using z
    refine ⟨s1.heap.objs.size + 5, _, _, _, H1, rfl, I2, turn_T (fun A hh => WalksT.zipD3 S (draws_text (A := A.in1) hh _ x t1) (draws_text (A := A.in1) hh _ y t2) (draws_text (A := A.in1) hh _ z t3)) (by simp) ?_ ?_ (fun i => by show 3 ≤ sizeLine; decide) (fun A i s Q E st q => wpAny_pyIter_zip st.1 q),
      ⟨hz, hTI, ⟨_, _, _, hTO⟩, text_begun g1, text_begun g2, text_begun g3⟩, ?_, q⟩
    · rintro i h ⟨h1, h2, ⟨_, _, _, h3⟩, h4, h5, h6⟩ b hb
      rcases six hb with rfl | rfl | rfl | rfl | rfl | rfl
      · exact ⟨_, h1, fun v z => nomatch z⟩
      · exact ⟨_, h2, fun v z => nomatch z⟩
      · exact ⟨_, h3, fun v z => nomatch z⟩
      · exact text_cell h4
      · exact text_cell h5
      · exact text_cell h6
    · rintro i a ⟨v1, v2, v3, hv1, hv2, hv3, rfl⟩
      exact .cons (rel_sgn hv1) (.cons (rel_sgn hv2) (.cons (rel_sgn hv3) .nil))
    · intro b hb
      have le : s1.heap.objs.size ≤ b := by rcases six hb with rfl | rfl | rfl | rfl | rfl | rfl <;> omega
      exact I1.fpOk le (I1.hok.fresh le)
end
/-! loops and comprehensions over such a walk -/
theorem for_T {vals : Nat → List V} {n : Nat} {g : TG} {tb : TS} {D : Ends} {σ : L2.St} {H : Hp} (Pv : Nat → L2.St → Hp → Prop) (h0 : Pv 0 σ H)
    (hs : ∀ i T σ H, i < n → Pv i σ H → H T = none → g (.ref T) σ (upd H T (.tup (vals i))) fun σ2 H2 => tb { D with nx := Pv (i + 1), ct := Pv (i + 1), bk := D.nx } σ2 H2) (hd : ∀ σ H, Pv n σ H → D.nx σ H) :
    ∃ W : Nat → Nat → L2.St → Hp → Prop, (∃ m, W 0 m σ H) ∧ ∀ i m σ H, W i m σ H →
      ((ItT vals n).stop i H ∧ D.nx σ H) ∨ ((ItT vals n).go i H ∧ ∃ N : L2.St → Hp → Prop, (∀ σ' H', N σ' H' → ∃ m', m' < m ∧ W (i + 1) m' σ' H') ∧ ∀ x H', (ItT vals n).yld i H x H' → g x σ H' fun σ2 H2 => tb { D with nx := N, ct := N, bk := D.nx } σ2 H2) := by
  refine ⟨fun i m σ H => i + m = n ∧ Pv i σ H, ⟨n, by omega, h0⟩, fun i m σ H ⟨hm, p⟩ => ?_⟩
  by_cases lt : i < n
  · refine Or.inr ⟨lt, Pv (i + 1), fun σ' H' p' => ⟨m - 1, by omega, by omega, p'⟩, ?_⟩
    rintro x H' ⟨T, rfl, hT, rfl⟩
    exact hs i T σ H lt p hT
  · obtain rfl : i = n := by omega
    exact Or.inl ⟨rfl, hd σ H p⟩
theorem lc_T {vals : Nat → List V} {n : Nat} {g : TG} {tt : TT} {te : TE} {vs : List Nat} {σ : L2.St} {H1 : Hp} {D : Addr} {Qd : Hp → Prop} (Pv : Nat → Hp → Prop) (h0 : Pv 0 (upd H1 D (.lst [])))
    (hs : ∀ i T H, i < n → Pv i H → H T = none → g (.ref T) (wipe σ vs) (upd H T (.tup (vals i))) fun σ2 H2 => wipe σ2 vs = wipe σ vs ∧ tt σ2 H2 fun b H3 =>
      if b = true then te σ2 H3 fun y H4 => ∃ acc, H4 D = some (.lst acc) ∧ acc.length < sizeLine ∧ Pv (i + 1) (upd H4 D (.lst (acc ++ [y]))) else Pv (i + 1) H3) (hd : ∀ H, Pv n H → Qd H) :
    ∃ W : Nat → Nat → Hp → Prop, (∃ m, W 0 m (upd H1 D (.lst []))) ∧ ∀ i m H, W i m H →
      ((ItT vals n).stop i H ∧ Qd H) ∨ ((ItT vals n).go i H ∧ ∃ Nx : Hp → Prop, (∀ H', Nx H' → ∃ m', m' < m ∧ W (i + 1) m' H') ∧ ∀ x H', (ItT vals n).yld i H x H' → g x (wipe σ vs) H' fun σ2 H2 => wipe σ2 vs = wipe σ vs ∧ tt σ2 H2 fun b H3 =>
        if b = true then te σ2 H3 fun y H4 => ∃ acc, H4 D = some (.lst acc) ∧ acc.length < sizeLine ∧ Nx (upd H4 D (.lst (acc ++ [y]))) else Nx H3) := by
  refine ⟨fun i m H => i + m = n ∧ Pv i H, ⟨n, by omega, h0⟩, fun i m H ⟨hm, p⟩ => ?_⟩
  by_cases lt : i < n
  · refine Or.inr ⟨lt, Pv (i + 1), fun H' p' => ⟨m - 1, by omega, by omega, p'⟩, ?_⟩
    rintro x H' ⟨T, rfl, hT, rfl⟩
    exact hs i T H lt p hT
  · obtain rfl : i = n := by omega
    exact Or.inl ⟨rfl, hd H p⟩
end Fb
set_option maxRecDepth 100000
set_option maxHeartbeats 4000000
namespace Fb
open PySem PySem.Spec PyProof.Rows L2
/-! what own classes say of operators: instances with a dict -/
/-- what never comes to pass needs no reading -/
theorem ps_no {X : Cx} {st : Stmt} : PS X st (fun _ _ _ => False) := ⟨fun _ _ _ _ _ _ h => h.elim⟩
theorem pss_no {X : Cx} {sts : List Stmt} : PSs X sts (fun _ _ _ => False) := ⟨fun _ _ _ _ _ _ h => h.elim⟩
theorem pe_no {X : Cx} {e : Expr} : PE X e (fun _ _ _ => False) := ⟨fun _ _ _ _ _ _ h => h.elim⟩
section
variable {X : Cx} {CX : CXT} {pins : List (Addr × Obj)} {σ : L2.St} {H : Hp} {s : Shared} {a C dx g : Addr} {fs : List (Str × V)} {n : Nat} {sp : Sp} {E : XK}
theorem ins_at (I : Inv X pins σ H s) (e : H a = some (.ins C dx fs)) : ∃ od, PySem.W.InstAt s.heap a (PySem.W.instObj C dx) C (some od) := by
  obtain ⟨mA, O, _⟩ := ins_get I.hok e
  obtain ⟨od, J, _⟩ := O.look
  exact ⟨od, J⟩
/-- the type of what may stand on the right -/
inductive RTy (H : Hp) : V → Value → Prop where
  | non : RTy H .non (.type "NoneType")
  | str (x : Str) : RTy H (.str x) (.type "str")
  | ins {b C' dy : Addr} {gs : List (Str × V)} (e : H b = some (.ins C' dy gs)) : RTy H (.ref b) (.ref C')
theorem RTy.looks {y : V} {t u : Value} (I : Inv X pins σ H s) (r : RTy H y t) (ry : RelV y u) : PySem.W.Looks (model X.prog X.w) s.heap (typeOf u) t := by
  cases r with
  | non =>
    cases (show u = Value.none from ry)
    exact fun A Q E s k q => wpAny_typeOf (show s.TypeIs .none "NoneType" from rfl) q
  | str x =>
    obtain ⟨t, rfl⟩ := (show ∃ t, u = Value.str x t from ry)
    exact fun A Q E s k q => wpAny_typeOf (show s.TypeIs (.str x t) "str" from rfl) q
  | ins e =>
    cases (show u = Value.ref _ from ry)
    obtain ⟨od, J⟩ := ins_at I e
    exact J.type
theorem first_str {K : PySem.W.Frag} {C : Addr} : PySem.W.notFirst K C (.type "str") = true := by
  have e : fastBuiltinMro "str" = some [.type "str", .type "object"] := by decide +kernel
  have h : PySem.W.subIn K (.type "str") (.ref C) = some false := by
    show (fastBuiltinMro "str").map (·.contains (.ref C)) = some false
    rw [e]
    first
      | rfl
      | simp
  unfold PySem.W.notFirst
  rw [h]
  simp
theorem first_non {K : PySem.W.Frag} {C : Addr} : PySem.W.notFirst K C (.type "NoneType") = true := by
  unfold PySem.W.notFirst
  rw [HN.sub_none]
  simp
theorem first_self {K : PySem.W.Frag} {C : Addr} : PySem.W.notFirst K C (.ref C) = true := by
  unfold PySem.W.notFirst
  simp
/-- x op y by the def of x's class -/
def rCmpI (K : PySem.W.Frag) (C : Addr) (sp : Sp) (E : XK) : R2 := fun x y H Q => ∃ a dx fs t, x = .ref a ∧ H a = some (.ins C dx fs) ∧ RTy H y t ∧ PySem.W.notFirst K C t = true ∧ sp [x, y] H Q E
theorem op_cmpI {op : CmpOp} (hop : ∀ a b, compareOp op a b = richCompare op a b) (hs : PySem.W.findIn X.K (.ref C) (cmpInfo op).2.1 = some (some (.ref g))) (hf : PySem.W.isFn X.K (.ref g) = true) (F : FnR X.prog X.w X.K X.mg X.base CX n g sp)
    (hr : Room n X.A) (hx : Passes CX X E) : OpR X (compareOp op) (rCmpI X.K C sp E) := by
  intro pins s σ H x y v u Q I rx ry h
  obtain ⟨a, dx, fs, t, rfl, ha, hb, hn, q⟩ := h
  cases (show v = Value.ref a from rx)
  obtain ⟨od, J⟩ := ins_at I ha
  obtain ⟨m, hF⟩ := I.fr
  rw [hop]
  refine PySem.W.cmp_K (op := op) (tb := t) hr.units0 hF I.ok.mod.kin J (hb.looks I ry) hn hs hf ?_
  refine wpAny_mono (wpAny_call (run_fnR (us := [.ref a, u]) (vs := [.ref a, y]) F hr hx I (.cons rfl (.cons ry .nil)) q)) (fun w s' z => ?_) fun _ _ x => x
  obtain ⟨z', H', I', rz, qz⟩ := z
  exact SlX.cmpback rz ⟨z', H', I', rz, qz⟩
/-- two instances of C -/
def rBinI (C : Addr) (sp : Sp) (E : XK) : R2 := fun x y H Q => ∃ a dx fs b dy gs, x = .ref a ∧ H a = some (.ins C dx fs) ∧ y = .ref b ∧ H b = some (.ins C dy gs) ∧ sp [x, y] H Q E
theorem op_binI {op : Operator} (hc : PySem.W.selfFirst X.K C = true) (hs : PySem.W.findIn X.K (.ref C) (PySem.dunder op.info.2) = some (some (.ref g))) (hf : PySem.W.isFn X.K (.ref g) = true) (F : FnR X.prog X.w X.K X.mg X.base CX n g sp)
    (hr : Room n X.A) (hx : Passes CX X E) : OpR X (binaryOp op) (rBinI C sp E) := by
  intro pins s σ H x y v u Q I rx ry h
  obtain ⟨a, dx, fs, b, dy, gs, rfl, ha, rfl, hb, q⟩ := h
  cases (show v = Value.ref a from rx)
  cases (show u = Value.ref b from ry)
  obtain ⟨od, J⟩ := ins_at I ha
  obtain ⟨od', J'⟩ := ins_at I hb
  obtain ⟨m, hF⟩ := I.fr
  refine PySem.W.binop_K (op := op) hF I.ok.mod.kin J J'.type hc hs hf ?_
  refine wpAny_mono (wpAny_call (run_fnR (us := [.ref a, .ref b]) (vs := [.ref a, .ref b]) F hr hx I (.cons rfl (.cons rfl .nil)) q)) (fun w s' z => ?_) fun _ _ x => x
  obtain ⟨z', H', I', rz, qz⟩ := z
  exact SlX.cmpback rz ⟨z', H', I', rz, qz⟩
/-! str(x), len(x) -/
theorem relv_str {v : Value} {y : Str} (r : RelV (.str y) v) : ∃ t, v = .str y t := r
def rStrI (C : Addr) (sp : Sp) (E : XK) : List V → Hp → VK → Prop := fun xs H Q => ∃ a dx fs, xs = [.ref a] ∧ H a = some (.ins C dx fs) ∧ sp [.ref a] H (fun z H' => ∃ y, z = .str y ∧ Q (.str y) H') E
theorem call_strI (hs : PySem.W.findIn X.K (.ref C) "__str__" = some (some (.ref g))) (hf : PySem.W.isFn X.K (.ref g) = true) (F : FnR X.prog X.w X.K X.mg X.base CX n g sp) (hr : Room (n + 2) X.A) (hx : Passes CX X E) : CallR X (.type "str") (rStrI C sp E) := by
  intro pins s σ H xs us Q I r h
  obtain ⟨a, dx, fs, rfl, ha, q⟩ := h
  obtain ⟨u, rfl, ru⟩ := r.one
  cases (show u = Value.ref a from ru)
  obtain ⟨od, J⟩ := ins_at I ha
  have hr2 : Room n X.A.in1.in1 := (show Room (n + 1) X.A.in1 from Room.in1 hr).in1
  refine PySem.W.kso_call hr2.units0 I.kIn J hs hf (wpAny_mono (wpAny_call (SlX.run_at (us := [.ref a]) (ws := [.ref a]) F hr2 I.env0.in1.in1 hx I (.cons rfl .nil) q)) (fun w s' z => ?_) fun _ _ x => x)
  obtain ⟨z', H', I', rz, y, ey, qz⟩ := z
  subst ey
  obtain ⟨t, e⟩ := relv_str rz
  cases e
  exact ⟨.str y, H', I', ⟨t, rfl⟩, qz⟩
def rLenI (C : Addr) (sp : Sp) (E : XK) : List V → Hp → VK → Prop := fun xs H Q => ∃ a dx fs, xs = [.ref a] ∧ H a = some (.ins C dx fs) ∧ sp [.ref a] H (fun z H' => ∃ i : Nat, z = .int i ∧ (i : Int) < 2 ^ 63 ∧ Q (.int i) H') E
theorem call_lenI (hs : PySem.W.findIn X.K (.ref C) "__len__" = some (some (.ref g))) (hf : PySem.W.isFn X.K (.ref g) = true) (F : FnR X.prog X.w X.K X.mg X.base CX n g sp) (hr : Room (n + 1) X.A) (hx : Passes CX X E) : CallR X (.builtin "len") (rLenI C sp E) := by
  intro pins s σ H xs us Q I r h
  obtain ⟨a, dx, fs, rfl, ha, q⟩ := h
  obtain ⟨u, rfl, ru⟩ := r.one
  cases (show u = Value.ref a from ru)
  obtain ⟨od, J⟩ := ins_at I ha
  have hr2 : Room n X.A.in1 := Room.in1 hr
  obtain ⟨m, hF⟩ := I.fr
  refine PySem.W.len_K hF I.ok.mod.kin J hs hf (wpAny_mono (wpAny_call (SlX.run_at (us := [.ref a]) (ws := [.ref a]) F hr2 I.env0.in1 hx I (.cons rfl .nil) q)) (fun w s' z => ?_) fun _ _ x => x)
  obtain ⟨z', H', I', rz, i, ei, lt, qz⟩ := z
  subst ei
  obtain ⟨t, e⟩ := (show ∃ t, w = Value.int i t from rz)
  cases e
  exact ⟨⟨by omega, lt⟩, .int i, H', I'.tok _, ⟨_, rfl⟩, qz⟩
end
/-! !=, by the own == -/
section
variable {M : Model} {prog : Program} {w : World} {A : Around} {E : Value → Shared → Prop} {s : Shared} {K : PySem.W.Frag} {x C f : Addr} {ox : Obj} {od : Option Obj} {y : Value}
theorem objNe_K {Q : Fin → Shared → Prop} (hu : A.units < cLine) (X : K.In s.heap) (I : PySem.W.InstAt s.heap x ox C od) (hs : PySem.W.findIn K (.ref C) "__eq__" = some (some (.ref f))) (hf : PySem.W.isFn K (.ref f) = true)
    (hcall : wpAny (model prog w) A (call (.ref f) [.ref x, y]) (fun v s' => ∃ b, v = .bool b ∧ Q (.done (.ret (.bool (!b)))) s') E s) :
    wpAny (model prog w) A (Builtin.«object.__ne__» ⟨[.ref x, y], []⟩) Q E s := by
  unfold Builtin.«object.__ne__»
  repeat (first
    | with_reducible refine wpAny_cRoomFor hu ?_
    | (refine wpAny_bind (m := callSpecialIfBound? (.ref x) (Str.ofString "__eq__") [y])
        (PySem.W.ifBound_K X I hs hf (wpAny_mono hcall (fun r s' hr => by
          obtain ⟨b, rfl, hq⟩ := hr
          repeat (first | exact hq | exact wpAny_pure hq | exact wpAny_truthy_bool hq | (refine wpAny_bind (m := truthy (.bool _)) (wpAny_truthy_bool ?_)) | wp_step)) fun _ _ e => e)))
    | wp_step)
theorem ifBound_objNe {args : List Value} {Q : Option Value → Shared → Prop} (X : K.In s.heap) (I : PySem.W.InstAt s.heap x ox C od) (hs : PySem.W.findIn K (.ref C) "__ne__" = some (some (.builtin "object.__ne__")))
    (h : wpAny M A (call (.builtin "object.__ne__") (.ref x :: args)) (fun v => Q (some v)) E s) : wpAny M A (callSpecialIfBound? (.ref x) "__ne__" args) Q E s := by
  simp only [callSpecialIfBound?, bindSpecialIfBound?]
  refine wpAny_holding (wpAny_bind (wpAny_bind (wpAny_bind (I.type.here ((PySem.W.looks_findIn X hs).here ?_)))))
  refine wpAny_bind (wpAny_askSetting (wpAny_ite ?_))
  have fin : wpAny M A (call (.builtin "object.__ne__") ([.ref x] ++ args) >>= fun v => pure (some v)) Q E s := wpAny_bind (wpAny_mono h (fun v s' h' => wpAny_pure h') fun _ _ h' => h')
  split
  · exact wpAny_bind (wpAny_of_eq (F.cmp_object.ne.bind _) (wpAny_pure (by exact fin)))
  · exact wpAny_tryCatch (wpAny_bind (wpAny_of_eq (F.cmp_object.ne.bind _) (wpAny_pure (by exact fin))))
theorem ne_K {Q : Value → Shared → Prop} {tb : Value} (hu : A.units + 1 < cLine) (X : K.In s.heap) (I : PySem.W.InstAt s.heap x ox C od) (hb : PySem.W.Looks (model prog w) s.heap (typeOf y) (.ref C)) (hm : PySem.W.mroIn K C (.type "object") = some true)
    (hn : PySem.W.findIn K (.ref C) "__ne__" = some (some (.builtin "object.__ne__"))) (hs : PySem.W.findIn K (.ref C) "__eq__" = some (some (.ref f))) (hf : PySem.W.isFn K (.ref f) = true)
    (hcall : wpAny (model prog w) A.in1 (call (.ref f) [.ref x, y]) (fun v s' => ∃ b, v = .bool b ∧ Q (.bool (!b)) s') E s) : wpAny (model prog w) A (richCompare .NotEq (.ref x) y) Q E s := by
  have one : wpAny (model prog w) A (tryCompare (.ref x) "__ne__" y) (fun r s' => ∃ b : Bool, r = some (.bool (!b)) ∧ Q (.bool (!b)) s') E s := by
    unfold tryCompare
    refine wpAny_bind (ifBound_objNe X I hn (wpAny_call (codeAny_call_builtin F.cmp_object.ne.plain F.cmpEntry_ne (PySem.W.check_slot F.cmpKind_ne F.cmpSplit_ne (I.type.andThen (PySem.W.looks_mroIn X hm)) (F.cmpArgs_ne _ _)
      (objNe_K (A := A.in1) (show A.in1.units < cLine from hu) X I hs hf (wpAny_mono hcall (fun v s' hv => ?_) fun _ _ e => e))))))
    obtain ⟨b, rfl, hq⟩ := hv
    first | exact ⟨b, rfl, wpAny_pure ⟨b, rfl, hq⟩⟩ | exact ⟨b, rfl, wpAny_pure (wpAny_pure ⟨b, rfl, hq⟩)⟩
  simp only [richCompare, cmpInfo_NotEq, oneThing_ref]
  refine wpAny_holding (wpAny_bind (wpAny_cRoomFor (Nat.lt_of_succ_lt hu) ?_))
  refine wpAny_bind (I.type.here (wpAny_bind (hb.here ?_)))
  rw [show (Value.ref C != Value.ref C) = false from by simp]
  simp only [Bool.false_eq_true, if_false]
  refine wpAny_bind (wpAny_pure ?_)
  simp only [Bool.false_eq_true, if_false]
  refine wpAny_bind (m := tryCompare (.ref x) _ y) (wpAny_mono one (fun r s' z => ?_) fun _ _ e => e)
  obtain ⟨b, rfl, hq⟩ := z
  first | exact wpAny_pure hq | exact wpAny_pure (wpAny_pure hq)
end
section
variable {X : Cx} {CX : CXT} {C g : Addr} {n : Nat} {sp : Sp} {E : XK}
def rNeI (C : Addr) (sp : Sp) (E : XK) : R2 := fun x y H Q => ∃ a dx fs b dy gs, x = .ref a ∧ H a = some (.ins C dx fs) ∧ y = .ref b ∧ H b = some (.ins C dy gs) ∧ sp [x, y] H (fun v H' => ∃ k, v = .bl k ∧ Q (.bl (!k)) H') E
theorem op_neI (hn : PySem.W.findIn X.K (.ref C) "__ne__" = some (some (.builtin "object.__ne__"))) (hm : PySem.W.mroIn X.K C (.type "object") = some true) (hs : PySem.W.findIn X.K (.ref C) "__eq__" = some (some (.ref g))) (hf : PySem.W.isFn X.K (.ref g) = true)
    (F : FnR X.prog X.w X.K X.mg X.base CX n g sp) (hr : Room (n + 1) X.A) (hx : Passes CX X E) : OpR X (compareOp .NotEq) (rNeI C sp E) := by
  intro pins s σ H x y v u Q I rx ry h
  obtain ⟨a, dx, fs, b, dy, gs, rfl, ha, rfl, hb, q⟩ := h
  cases (show v = Value.ref a from rx)
  cases (show u = Value.ref b from ry)
  obtain ⟨od, J⟩ := ins_at I ha
  obtain ⟨od', J'⟩ := ins_at I hb
  have hu : X.A.units + 1 < cLine := by have := hr.un; omega
  unfold compareOp
  refine ne_K (tb := .none) hu I.kIn J J'.type hm hn hs hf ?_
  refine wpAny_mono (wpAny_call (SlX.run_at (us := [.ref a, .ref b]) (ws := [.ref a, .ref b]) F hr.in1 I.env0.in1 hx I (.cons rfl (.cons rfl .nil)) q)) (fun w s' z => ?_) fun _ _ x => x
  obtain ⟨z', H', I', rz, k, ek, qz⟩ := z
  subst ek
  cases (show w = Value.bool k from rz)
  exact ⟨k, rfl, .bl (!k), H', I', rfl, qz⟩
end
/-! x op= y, no own in-place def -/
section
variable {prog : Program} {w : World} {A : Around} {E : Value → Shared → Prop} {s : Shared} {K : PySem.W.Frag} {x C L f : Addr} {h₀ : Heap} {m : Str → Option Value} {ox : Obj} {od : Option Obj}
theorem noFill {M : Model} {h : Heap} {nm : String} {cd : PySem.ClassData} (X : K.In h) (hc : PySem.W.clsIn K C = some cd) (hm : cd.mro = [.ref C, .type "object"]) (hs : PySem.W.findIn K (.ref C) (PySem.dunderI nm) = some none) (ho : typeLookup (.type "object") (PySem.dunderI nm) = pure none) :
    PySem.W.Looks M h (fillsInplaceSlot (.ref C) nm false) false := by
  intro A Q E s k q
  unfold fillsInplaceSlot
  refine wpAny_bind ((PySem.W.looks_clsIn X hc).andThen (f := fun cd => pure cd.mro) .now A _ E s k ?_)
  rw [hm, List.anyM_cons]
  refine wpAny_bind (wpAny_bind (PySem.W.looks_findIn X hs A _ E s k ?_))
  dsimp only
  refine wpAny_pure ?_
  simp only [Bool.false_eq_true, if_false]
  rw [List.anyM_cons]
  refine wpAny_bind (wpAny_bind (wpAny_of_eq ho ?_))
  dsimp only
  refine wpAny_pure ?_
  simp only [Bool.false_eq_true, if_false]
  rw [List.anyM_nil]
  exact wpAny_pure q
theorem ibinop_K {op : Operator} {b : Value} {Q : Value → Shared → Prop} {cd : PySem.ClassData} (hop : (op == .Add) = false) (F : Fr h₀ L s.heap m) (X₀ : K.In h₀) (I : PySem.W.InstAt s.heap x ox C od) (hb : PySem.W.Looks (model prog w) s.heap (typeOf b) (.ref C)) (hc : PySem.W.clsIn K C = some cd) (hm : cd.mro = [.ref C, .type "object"])
    (hi : PySem.W.findIn K (.ref C) (PySem.dunderI op.info.2) = some none) (ho : typeLookup (.type "object") (PySem.dunderI op.info.2) = pure none)
    (hs : PySem.W.findIn K (.ref C) (PySem.dunder op.info.2) = some (some (.ref f))) (hf : PySem.W.isFn K (.ref f) = true)
    (h : wpAny (model prog w) A (call (.ref f) [.ref x, b]) (PySem.W.CmpBack Q) E s) : wpAny (model prog w) A (inplaceOp op (.ref x) b) Q E s := by
  have X := X₀.keeps F.keep
  unfold inplaceOp
  refine wpAny_holding (wpAny_bind (I.type.here ?_))
  rw [hop]
  refine wpAny_bind ((noFill X hc hm hi ho).here ?_)
  simp only [Bool.false_eq_true, if_false]
  refine wpAny_bind ?_
  unfold binaryOp1
  refine wpAny_bind (I.type.here (wpAny_bind (hb.here (wpAny_bind ((PySem.W.fills_K X hc hm hs).here ?_)))))
  simp only [beq_self_eq_true, if_true]
  refine wpAny_bind (wpAny_pure ?_)
  simp only [Bool.and_false, Bool.false_eq_true, if_false, Bool.false_and]
  refine wpAny_bind (wpAny_pure ?_)
  simp only [Bool.false_eq_true, if_false]
  refine wpAny_bind (m := tryMethod (.ref x) _ b) ?_
  unfold tryMethod
  refine wpAny_bind (PySem.W.special_fn X I hs (beq_iff_eq.mp hf) (wpAny_mono h (fun v s' hv => ?_) fun _ _ e => e))
  cases v <;> first | exact hv.elim | exact wpAny_pure (wpAny_pure (wpAny_pure hv))
end
section
variable {X : Cx} {CX : CXT} {C g : Addr} {n : Nat} {sp : Sp} {E : XK}
theorem iop_binI {op : Operator} (hop : (op == .Add) = false) (hc : ∃ cd, PySem.W.clsIn X.K C = some cd ∧ cd.mro = [.ref C, .type "object"]) (hi : PySem.W.findIn X.K (.ref C) (PySem.dunderI op.info.2) = some none) (ho : typeLookup (.type "object") (PySem.dunderI op.info.2) = pure none)
    (hs : PySem.W.findIn X.K (.ref C) (PySem.dunder op.info.2) = some (some (.ref g))) (hf : PySem.W.isFn X.K (.ref g) = true) (F : FnR X.prog X.w X.K X.mg X.base CX n g sp)
    (hr : Room n X.A) (hx : Passes CX X E) : OpR X (inplaceOp op) (rBinI C sp E) := by
  intro pins s σ H x y v u Q I rx ry h
  obtain ⟨a, dx, fs, b, dy, gs, rfl, ha, rfl, hb, q⟩ := h
  cases (show v = Value.ref a from rx)
  cases (show u = Value.ref b from ry)
  obtain ⟨od, J⟩ := ins_at I ha
  obtain ⟨od', J'⟩ := ins_at I hb
  obtain ⟨m, hF⟩ := I.fr
  obtain ⟨cd, c1, c2⟩ := hc
  refine ibinop_K (op := op) hop hF I.ok.mod.kin J J'.type c1 c2 hi ho hs hf ?_
  refine wpAny_mono (wpAny_call (run_fnR (us := [.ref a, .ref b]) (vs := [.ref a, .ref b]) F hr hx I (.cons rfl (.cons rfl .nil)) q)) (fun w s' z => ?_) fun _ _ x => x
  obtain ⟨z', H', I', rz, qz⟩ := z
  exact SlX.cmpback rz ⟨z', H', I', rz, qz⟩
end
/-! tokens -/
/-- an expression that gives one out -/
def PEK (X : Cx) (e : Expr) (t : TE) : Prop :=
  ∀ (pins : List (Addr × Obj)) (s : Shared) (σ : L2.St) (H : Hp) (Q : VK), Inv X pins σ H s → t σ H Q → wpAny (model X.prog X.w) X.A (eval e X.env) (fun v s' => 1 ≤ s'.toks ∧ EP X pins σ Q v s') X.xe s
section
variable {X : Cx} {a e : Expr} {es : List Expr} {ta te : TE} {t : TA} {pos cp : Pos} {x : Str} {j : Nat}
theorem pek_op {op : Operator} {r : R2} (ho : OpR X (binaryOp op) r) (ha : PE X a ta) : PEK X (.BinOp a op (.Constant (.str x) j cp) pos) (tOp r ta (tC (.str x))) := by
  intro pins s σ H Q I h
  refine wpAny_BinOp (thn (ha.run pins s σ H _ I h) fun v s1 ⟨z, H1, I1, r1, q1⟩ => ?_)
  refine Calls.Constant_str ?_
  exact wpAny_mono (PySem.wpAny_toks_of (n := 1) (by show 1 ≤ s1.toks + 1; omega) (ho pins _ σ H1 z (.str x) v _ Q (I1.tok _) r1 ⟨_, rfl⟩ q1)) (fun _ _ z => z) fun _ _ z => z.2
theorem PAT.of (h : PA X es t) : PAT X es t := fun pos pins s σ H Q _ I q => h.run pos pins s σ H Q I q
theorem pa_consK (ha : PEK X e te) (hr : PAT X es t) (hs : starEach (e :: es) X.env = (false, eval e X.env) :: starEach es X.env := by rfl) : PA X (e :: es) (tCons te t) := by
  refine ⟨fun pos pins s σ H Q I h => ?_⟩
  rw [hs]
  show wpAny _ _ (spliced ((false, eval e X.env) :: backTo pos (starEach es X.env))) _ _ s
  refine Calls.spliced_cons (thn (ha pins s σ H _ I h) fun u s1 ⟨ht, x, H1, I1, r1, q1⟩ => ?_)
  exact thn (hr pos pins s1 σ H1 _ ht I1 q1) fun us s2 ⟨xs, H2, I2, r2, q2⟩ => ⟨x :: xs, H2, I2, .cons r1 r2, q2⟩
theorem pat_cons (ha : PET X e te) (hr : PAT X es t) (hs : starEach (e :: es) X.env = (false, eval e X.env) :: starEach es X.env := by rfl) : PAT X (e :: es) (tCons te t) := by
  intro pos pins s σ H Q h0 I h
  rw [hs]
  show wpAny _ _ (spliced ((false, eval e X.env) :: backTo pos (starEach es X.env))) _ _ s
  refine Calls.spliced_cons (wpAny_mono (PySem.wpAny_toks (ha pins s σ H _ h0 I h)) (fun u s1 q => ?_) fun _ _ z => z.2)
  obtain ⟨hk, x, H1, I1, r1, q1⟩ := q
  exact thn (hr pos pins s1 σ H1 _ (Nat.le_trans h0 hk) I1 q1) fun us s2 ⟨xs, H2, I2, r2, q2⟩ => ⟨x :: xs, H2, I2, .cons r1 r2, q2⟩
end
/-- a def of at least one parameter: a token is out when its body begins -/
theorem Fun.okT {P : Program} {w : World} {K : PySem.W.Frag} {mg : Str → Option Value} {base : Heap} {x qual : Str} {st : Stmt} {f : Addr} {fd : FuncData} {N ps : List Str} {k : Nat} {sp : Sp} (F : Fun K x qual st f fd) (S : FnScope N ps (defScope st))
    (hnc : ∀ y ∈ (defScope st).names, y.2 ≠ .cell) (hps : 1 ≤ ps.length) (len : ∀ vs H Q E, sp vs H Q E → vs.length = ps.length)
    (hbody : ∀ (cdv : Value) (A : Around) (outer : List Env) (s : Shared) (H : Hp) (vs : List V) (Q : VK) (E : XK), Room k (A.deeper (envOfC qual (defScope st) s.heap.objs.size f cdv)) → sp vs H Q E →
      ∃ t, PSsT (cxOf CX0 P w K mg base N qual (defScope st) f cdv A outer s H E) (defBody st) t ∧ t { nx := fun _ H' => Q .non H', rt := Q } (start N vs) H) : FnOk P w K mg base CX0 (k + 1) f fd ps sp := by
  obtain ⟨oc, od, kV, doc, pm, an, cdv, ct, osl, rfl, lk, hcd⟩ := F.ex
  exact fn_ofT lk hcd S hnc hps len fun A outer s H vs Q E hr hsp => hbody cdv A outer s H vs Q E hr hsp
/-! a static method, called off the class -/
structure SMet (K : PySem.W.Frag) (C : Addr) (mc : Value) (m : Str) (p g : Addr) : Prop where
  at_ : PySem.W.findCls K (.ref C) mc m = some (.get (.builtin "staticmethod.__get__") (.ref p) .none (.ref C))
  rc : ∃ rest, PySem.W.recIn K p "staticmethod" = some (.ref g :: rest)
  kp : PySem.W.keepIn K (.ref g) = true
def tSMeth (C : Addr) (sp : Sp) (E : XK) (ta : TE) (t : TA) : TE := fun σ H Q => ta σ H fun x H1 => x = .ref C ∧ t σ H1 fun vs H2 => sp vs H2 Q E
section
variable {X : Cx} {CX : CXT} {k : Nat} {C p g : Addr} {mc : Value} {sp : Sp} {E : XK} {o e : Expr} {es : List Expr} {m : Str} {pos apos : Pos} {ta : TE} {t : TA} {pl : Sem Bool}
theorem pe_smeth (he : PE X o ta) (r : ClX.CRead X.K C mc) (c : SMet X.K C mc m p g) (F : FnR X.prog X.w X.K X.mg X.base CX k g sp) (hr : Room k X.A) (hx : Passes CX X E) (ha : PA X (e :: es) t)
    (h1 : starEach (e :: es) X.env = (false, eval e X.env) :: starEach es X.env := by rfl) (h2 : (backTo pos (starEach es X.env)).any (·.1) = false := by rfl)
    (h3 : eval (.Call (.Attribute o m apos) (e :: es) [] pos) X.env = (do
      let ov ← eval o X.env
      standAt apos.atName
      let (f, first) ← holding [ov] (getMethod ov m pl)
      callWith pos f first (backTo pos (starEach (e :: es) X.env)) (backToKw pos (keywordEach [] X.env))) := by rfl) :
    PE X (.Call (.Attribute o m apos) (e :: es) [] pos) (tSMeth C sp E ta t) := by
  constructor
  intro pins s σ H Q I asked
  obtain ⟨rest, rec_⟩ := c.rc
  apply PySem.W.methodCall_KW (pl := pl) ?_ h3
  apply thn (he.run pins s σ H _ I asked)
  rintro u s1 ⟨x, H1, I1, rx, ex, q⟩
  subst ex
  cases (show u = Value.ref C from rx)
  apply PySem.W.method_cls I1.kIn r.ga
  apply PySem.W.cls_bind I1.kIn r.rd c.at_
  apply wpAny_call
  apply PySem.W.sm_get (s := { s1 with toks := s1.toks + 1 }) I1.kIn rec_
  apply PySem.W.handed_on rfl
  have I2 : Inv X pins σ H1 { s1 with toks := s1.toks + 1 } := I1.tok _
  apply PySem.W.callWith_K (h₀ := X.base) I2.ok.mod.kin c.kp ?_ h1 h2
  apply thn (ha.run pos pins _ σ H1 _ I2 q)
  rintro us s3 ⟨vs, H3, I3, rv, q3⟩
  exact ⟨I3.kIn, wpAny_call (run_fnR (us := us) (vs := vs) F hr hx I3 rv q3)⟩
end
end Fb
set_option maxRecDepth 100000
set_option maxHeartbeats 4000000
namespace Fb
open PySem PySem.Spec PyProof.Rows L2
open SX (S)
/-! patterns as lists of signs: 48, 49, 46 -/
/-- how many leading signs begin some pattern; none for a pattern -/
def pfa : List Nat → Nat → Nat → Nat → Nat → Option Nat
  | [], at_, _, _, size => if size = 0 then some at_ else none
  | c :: cs, at_, bits, blocks, size =>
    if ¬(c = 48 ∨ c = 49 ∨ c = 46) ∨ bits = 120 then some at_
    else if c = 46 then (if size = 0 ∨ blocks = 3 then some at_ else pfa cs (at_ + 1) bits (blocks + 1) 0)
    else pfa cs (at_ + 1) (bits + 1) blocks (size + 1)
def pf (l : List Nat) : Option Nat := pfa l 0 0 1 0
/-- the sizes of the parts between dots -/
def szA : Nat → List Nat → List Nat
  | n, [] => [n]
  | n, c :: cs => if c = 46 then n :: szA 0 cs else szA (n + 1) cs
def szs (l : List Nat) : List Nat := szA 0 l
theorem spl_len : ∀ (l acc : List Nat), (TL.spl [46] 0 acc l).map List.length = szA acc.length l
  | [], acc => by rw [TL.spl_nil]; rfl
  | c :: l, acc => by
    by_cases h : c = 46
    · subst h
      have hp : TL.pre [46] (46 :: l) = true := TL.pre_self [46] l
      rw [TL.spl_hit hp]
      show acc.length :: (TL.spl [46] 0 [] l).map List.length = szA acc.length (46 :: l)
      rw [spl_len l []]
      rfl
    · have hp : TL.pre [46] (c :: l) = false := TL.pre_of_head _ _ fun e => h e
      rw [TL.spl_miss hp, spl_len l (acc ++ [c])]
      show szA (acc ++ [c]).length l = if c = 46 then _ else szA (acc.length + 1) l
      rw [if_neg h, List.length_append]
      rfl
theorem split_lens (l : List Nat) : (Txt.split (S l) ".").map (fun z => z.length) = szs l := by
  have e : ((".":Str)) = S [46] := by decide +kernel
  rw [e, SX.split_S (by simp) (by decide), List.map_map]
  have h := spl_len l []
  show _ = szA 0 l
  rw [← (show ([] : List Nat).length = 0 from rfl), ← h]
  refine List.map_congr_left fun x _ => ?_
  show (S x).length = x.length
  exact SX.S_len x
theorem szA_len : ∀ (l : List Nat) (n : Nat), 1 ≤ (szA n l).length ∧ (szA n l).length ≤ l.length + 1
  | [], n => by simp [szA]
  | c :: l, n => by
    unfold szA
    by_cases h : c = 46
    · rw [if_pos h]
      have := szA_len l 0
      simp only [List.length_cons]
      omega
    · rw [if_neg h]
      have := szA_len l (n + 1)
      simp only [List.length_cons]
      omega
/-- signs of a pattern -/
def Sg (l : List Nat) : Prop := ∀ c ∈ l, c = 48 ∨ c = 49 ∨ c = 46
def nb (l : List Nat) : Nat := (l.filter (fun c => c != 46)).length
theorem szA_sum : ∀ (l : List Nat) (n : Nat), (szA n l).sum = n + nb l
  | [], n => by simp [szA, nb]
  | c :: l, n => by
    unfold szA nb
    by_cases h : c = 46
    · subst h
      rw [if_pos rfl, List.sum_cons, szA_sum l 0]
      simp [nb]
    · rw [if_neg h, szA_sum l (n + 1), List.filter_cons_of_pos (by simpa using h), List.length_cons]
      unfold nb
      omega
theorem pfa_good : ∀ (l : List Nat) (a bits blocks size : Nat), Sg l → (∀ n ∈ szA size l, 1 ≤ n) → blocks + (szA size l).length ≤ 4 → bits + nb l ≤ 120 → pfa l a bits blocks size = none
  | [], a, bits, blocks, size, _, h2, _, _ => by
    have : 1 ≤ size := h2 size (by simp [szA])
    unfold pfa
    rw [if_neg (by omega)]
  | c :: l, a, bits, blocks, size, h1, h2, h3, h4 => by
    have hc := h1 c List.mem_cons_self
    have h1' : Sg l := fun d hd => h1 d (List.mem_cons_of_mem _ hd)
    unfold pfa
    by_cases h : c = 46
    · subst h
      have e : szA size (46 :: l) = size :: szA 0 l := by
        show (if 46 = 46 then _ else _) = _
        rw [if_pos rfl]
      rw [e] at h2 h3
      have hs : 1 ≤ size := h2 size List.mem_cons_self
      have hl := szA_len l 0
      have sm := szA_sum l 0
      have pos : 1 ≤ (szA 0 l).sum := by
        cases q : szA 0 l with
        | nil => rw [q] at hl; simp at hl
        | cons x r =>
          have := h2 x (by rw [q]; simp)
          rw [List.sum_cons]
          omega
      have en : nb (46 :: l) = nb l := by simp [nb]
      rw [en] at h4
      rw [List.length_cons] at h3
      rw [if_neg (by omega), if_pos rfl, if_neg (by omega)]
      exact pfa_good l _ _ _ _ h1' (fun n hn => h2 n (List.mem_cons_of_mem _ hn)) (by omega) (by omega)
    · have e : szA size (c :: l) = szA (size + 1) l := by
        show (if c = 46 then _ else _) = _
        rw [if_neg h]
      rw [e] at h2 h3
      have en : nb (c :: l) = nb l + 1 := by
        unfold nb
        rw [List.filter_cons_of_pos (by simpa using h), List.length_cons]
      rw [en] at h4
      rw [if_neg (by omega), if_neg h]
      exact pfa_good l _ _ _ _ h1' h2 h3 (by omega)
/-- a pattern -/
structure IsP (l : List Nat) : Prop where
  sg : Sg l
  one : ∀ n ∈ szs l, 1 ≤ n
  few : (szs l).length ≤ 3
  sum : nb l ≤ 120
theorem IsP.pf {l : List Nat} (h : IsP l) : pf l = none := pfa_good l 0 0 1 0 h.sg h.one (by have := h.few; unfold szs at this; omega) (by have := h.sum; omega)
theorem len_nb : ∀ (l : List Nat) (n : Nat), l.length + 1 = nb l + (szA n l).length
  | [], n => by simp [nb, szA]
  | c :: l, n => by
    unfold szA nb
    by_cases h : c = 46
    · subst h
      rw [if_pos rfl, List.length_cons, List.length_cons, len_nb l 0]
      simp [nb]
      omega
    · rw [if_neg h, List.length_cons, len_nb l (n + 1), List.filter_cons_of_pos (by simpa using h), List.length_cons]
      unfold nb
      omega
theorem IsP.len {l : List Nat} (h : IsP l) : l.length ≤ 122 := by
  have h1 := len_nb l 0
  have h2 := h.few
  have h3 := h.sum
  unfold szs at h2
  omega
/-! two patterns of equal sizes -/
def AlS (a b : Nat) : Prop := (a = 46 ∧ b = 46) ∨ ((a = 48 ∨ a = 49) ∧ (b = 48 ∨ b = 49))
abbrev Al (l m : List Nat) : Prop := Paired AlS l m
theorem Al.szA : ∀ {l m : List Nat}, Al l m → ∀ n, Fb.szA n l = Fb.szA n m
  | _, _, .nil, n => rfl
  | a :: l, b :: m, .cons r t, n => by
    show (if a = 46 then _ else _) = (if b = 46 then _ else _)
    rcases r with ⟨rfl, rfl⟩ | ⟨h1, h2⟩
    · rw [if_pos rfl, if_pos rfl, Al.szA t 0]
    · rw [if_neg (by omega), if_neg (by omega), Al.szA t (n + 1)]
theorem Al.szs {l m : List Nat} (h : Al l m) : Fb.szs l = Fb.szs m := h.szA 0
theorem Al.nb {l m : List Nat} (h : Al l m) : Fb.nb l = Fb.nb m := by
  have h1 := szA_sum l 0
  have h2 := szA_sum m 0
  rw [h.szA 0] at h1
  omega
theorem Al.len : ∀ {l m : List Nat}, Al l m → l.length = m.length
  | _, _, .nil => rfl
  | _, _, .cons _ t => by rw [List.length_cons, List.length_cons, Al.len t]
theorem Al.sg : ∀ {l m : List Nat}, Al l m → Sg m
  | _, _, .nil => fun c hc => by simp at hc
  | _, _, .cons r t => fun c hc => by
    rcases List.mem_cons.mp hc with e | e
    · subst e
      rcases r with ⟨_, h⟩ | ⟨_, h⟩ <;> omega
    · exact Al.sg t c e
theorem Al.symm : ∀ {l m : List Nat}, Al l m → Al m l
  | _, _, .nil => .nil
  | _, _, .cons r t => .cons (by rcases r with ⟨h1, h2⟩ | ⟨h1, h2⟩; exact .inl ⟨h2, h1⟩; exact .inr ⟨h2, h1⟩) (Al.symm t)
theorem Al.refl : ∀ {l : List Nat}, Sg l → Al l l
  | [], _ => .nil
  | c :: l, h => .cons (by rcases h c List.mem_cons_self with e | e | e; exact .inr ⟨.inl e, .inl e⟩; exact .inr ⟨.inr e, .inr e⟩; exact .inl ⟨e, e⟩) (Al.refl fun d hd => h d (List.mem_cons_of_mem _ hd))
theorem Al.trans : ∀ {l m k : List Nat}, Al l m → Al m k → Al l k
  | _, _, _, .nil, .nil => .nil
  | _, _, _, .cons r t, .cons r' t' => .cons (by rcases r with ⟨h1, h2⟩ | ⟨h1, h2⟩ <;> rcases r' with ⟨h3, h4⟩ | ⟨h3, h4⟩; exact .inl ⟨h1, h4⟩; omega; omega; exact .inr ⟨h1, h4⟩) (Al.trans t t')
theorem Al.isP {l m : List Nat} (h : Al l m) (p : IsP l) : IsP m :=
  ⟨h.sg, by rw [← h.szs]; exact p.one, by rw [← h.szs]; exact p.few, by rw [← h.nb]; exact p.sum⟩
/-- sign by sign -/
def zw (f : Nat → Nat → Nat) (l m : List Nat) : List Nat := List.zipWith f l m
theorem Al.zw {f : Nat → Nat → Nat} (hf : ∀ a b, AlS a b → AlS a (f a b)) : ∀ {l m : List Nat}, Al l m → Al l (zw f l m)
  | _, _, .nil => .nil
  | _, _, .cons r t => .cons (hf _ _ r) (Al.zw hf t)
def fAnd (a b : Nat) : Nat := if a = b then a else 48
def fOr (a b : Nat) : Nat := if a = b then a else 49
def fXor (a b : Nat) : Nat := if a ≠ b then 49 else if a = 46 then 46 else 48
theorem al_and (a b : Nat) (h : AlS a b) : AlS a (fAnd a b) := by
  unfold AlS fAnd at *
  by_cases e : a = b
  · subst e; rw [if_pos rfl]; omega
  · rw [if_neg e]; omega
theorem al_or (a b : Nat) (h : AlS a b) : AlS a (fOr a b) := by
  unfold AlS fOr at *
  by_cases e : a = b
  · subst e; rw [if_pos rfl]; omega
  · rw [if_neg e]; omega
theorem al_xor (a b : Nat) (h : AlS a b) : AlS a (fXor a b) := by
  unfold AlS fXor at *
  by_cases e : a = b
  · subst e; rw [if_neg (by simp)]; by_cases q : a = 46
    · rw [if_pos q]; omega
    · rw [if_neg q]; omega
  · rw [if_pos e]; omega
/-- each sign of the one is at most the other's -/
def below (l m : List Nat) : Bool := (List.zipWith (fun a b => decide (a ≤ b)) l m).all id
theorem szA_head : ∀ (l : List Nat) (n : Nat), ∃ h r, szA n l = h :: r ∧ n ≤ h
  | [], n => ⟨n, [], rfl, Nat.le_refl _⟩
  | c :: l, n => by
    unfold szA
    by_cases h : c = 46
    · rw [if_pos h]
      exact ⟨n, _, rfl, Nat.le_refl _⟩
    · rw [if_neg h]
      obtain ⟨x, r, e, hx⟩ := szA_head l (n + 1)
      exact ⟨x, r, e, by omega⟩
theorem al_of : ∀ {l m : List Nat}, Sg l → Sg m → ∀ n, szA n l = szA n m → Al l m
  | [], [], _, _, _, _ => .nil
  | [], c :: m, _, _, n, e => by
    exfalso
    unfold szA at e
    by_cases h : c = 46
    · rw [if_pos h] at e
      have := szA_len m 0
      simp at e
      rw [e] at this
      simp at this
    · rw [if_neg h] at e
      obtain ⟨x, r, e2, hx⟩ := szA_head m (n + 1)
      rw [e2] at e
      simp at e
      omega
  | c :: l, [], _, _, n, e => by
    exfalso
    unfold szA at e
    by_cases h : c = 46
    · rw [if_pos h] at e
      have := szA_len l 0
      simp at e
      rw [e] at this
      simp at this
    · rw [if_neg h] at e
      obtain ⟨x, r, e2, hx⟩ := szA_head l (n + 1)
      rw [e2] at e
      simp at e
      omega
  | c :: l, d :: m, hl, hm, n, e => by
    have h1 : Sg l := fun x hx => hl x (List.mem_cons_of_mem _ hx)
    have h2 : Sg m := fun x hx => hm x (List.mem_cons_of_mem _ hx)
    have hc := hl c List.mem_cons_self
    have hd := hm d List.mem_cons_self
    unfold szA at e
    by_cases h : c = 46
    · by_cases h' : d = 46
      · rw [if_pos h, if_pos h'] at e
        exact .cons (.inl ⟨h, h'⟩) (al_of h1 h2 0 (List.cons.inj e).2)
      · exfalso
        rw [if_pos h, if_neg h'] at e
        obtain ⟨x, r, e2, hx⟩ := szA_head m (n + 1)
        rw [e2] at e
        have := (List.cons.inj e).1
        omega
    · by_cases h' : d = 46
      · exfalso
        rw [if_neg h, if_pos h'] at e
        obtain ⟨x, r, e2, hx⟩ := szA_head l (n + 1)
        rw [e2] at e
        have := (List.cons.inj e).1
        omega
      · rw [if_neg h, if_neg h'] at e
        exact .cons (.inr ⟨by omega, by omega⟩) (al_of h1 h2 (n + 1) e)
/-! places -/
theorem S_sgn {l : List Nat} {i c : Nat} (h : l[i]? = some c) : (⟨#[(S l).cps.getD i 0]⟩ : Str) = S [c] := by
  have e : (S l).cps.getD i 0 = c := by
    show l.toArray.getD i 0 = c
    rw [Array.getD_eq_getD_getElem?]
    simp [h]
  rw [e]
theorem join_empty : ∀ xs : List Nat, TL.joinL [] (xs.map fun c => [c]) = xs
  | [] => rfl
  | [a] => rfl
  | a :: b :: r => by
    have h := join_empty (b :: r)
    show [a] ++ [] ++ TL.joinL [] ((b :: r).map fun c => [c]) = _
    rw [h]
    rfl
theorem join_signs (xs : List Nat) : Txt.join "" (xs.map fun c => S [c]) = S xs := by
  have e : (("" : Str)) = S [] := by decide +kernel
  have h := SX.join_S [] (xs.map fun c => [c])
  rw [e]
  rw [List.map_map] at h
  rw [join_empty] at h
  exact h
theorem repl_dots : ∀ l : List Nat, StrLaws.replL [46] [] l = l.filter (fun c => c != 46)
  | [] => StrLaws.replL_nil
  | c :: l => by
    by_cases h : c = 46
    · subst h
      rw [StrLaws.replL_hit (by simp) (by simp), List.filter_cons_of_neg (by simp)]
      exact repl_dots l
    · rw [StrLaws.replL_miss (by simpa using h), List.filter_cons_of_pos (by simpa using h), repl_dots l]
theorem replace_dots (l : List Nat) : Txt.replace (S l) "." "" = S (l.filter (fun c => c != 46)) := by
  have e1 : ((".":Str)) = S [46] := by decide +kernel
  have e2 : (("" : Str)) = S [] := by decide +kernel
  rw [e1, e2]
  refine TL.ext_tl ?_
  have h := StrLaws.replace_list (x := S l) (y := S [46]) (z := S []) (by decide)
  exact h.trans (repl_dots l)
/-! the other way -/
theorem pfa_conv : ∀ (l : List Nat) (a bits blocks size : Nat), blocks ≤ 3 → bits ≤ 120 → pfa l a bits blocks size = none → Sg l ∧ (∀ n ∈ szA size l, 1 ≤ n) ∧ blocks + (szA size l).length ≤ 4 ∧ bits + nb l ≤ 120
  | [], a, bits, blocks, size, hb, hc, h => by
    unfold pfa at h
    by_cases e : size = 0
    · rw [if_pos e] at h; cases h
    · refine ⟨fun c hc => by simp at hc, fun n hn => ?_, by simp [szA]; omega, by simp [nb]; omega⟩
      have : n = size := by simpa [szA] using hn
      omega
  | c :: l, a, bits, blocks, size, hb, hc, h => by
    unfold pfa at h
    by_cases e : ¬(c = 48 ∨ c = 49 ∨ c = 46) ∨ bits = 120
    · rw [if_pos e] at h; cases h
    · rw [if_neg e] at h
      have e1 : c = 48 ∨ c = 49 ∨ c = 46 := by
        by_cases q : c = 48 ∨ c = 49 ∨ c = 46
        · exact q
        · exact absurd (.inl q) e
      have e2 : ¬ bits = 120 := fun q => e (.inr q)
      have sg : ∀ {l : List Nat}, Sg l → Sg (c :: l) := fun h d hd => by
        rcases List.mem_cons.mp hd with q | q
        · rw [q]; exact e1
        · exact h d q
      by_cases d : c = 46
      · rw [if_pos d] at h
        by_cases f : size = 0 ∨ blocks = 3
        · rw [if_pos f] at h; cases h
        · rw [if_neg f] at h
          obtain ⟨h1, h2, h3, h4⟩ := pfa_conv l _ _ _ _ (by omega) (by omega) h
          have es : szA size (c :: l) = size :: szA 0 l := by
            show (if c = 46 then _ else _) = _
            rw [if_pos d]
          have en : nb (c :: l) = nb l := by subst d; simp [nb]
          rw [es, en]
          refine ⟨sg h1, fun n hn => ?_, by rw [List.length_cons]; omega, h4⟩
          rcases List.mem_cons.mp hn with q | q
          · omega
          · exact h2 n q
      · rw [if_neg d] at h
        obtain ⟨h1, h2, h3, h4⟩ := pfa_conv l _ _ _ _ (by omega) (by omega) h
        have es : szA size (c :: l) = szA (size + 1) l := by
          show (if c = 46 then _ else _) = _
          rw [if_neg d]
        have en : nb (c :: l) = nb l + 1 := by
          unfold nb
          rw [List.filter_cons_of_pos (by simpa using d), List.length_cons]
        rw [es, en]
        exact ⟨sg h1, h2, h3, by omega⟩
theorem isP_pf {l : List Nat} (h : Fb.pf l = none) : IsP l := by
  obtain ⟨h1, h2, h3, h4⟩ := pfa_conv l 0 0 1 0 (by decide) (by decide) h
  exact ⟨h1, h2, by unfold szs; omega, by omega⟩
end Fb
set_option maxRecDepth 100000
set_option maxHeartbeats 4000000
namespace Fb
open PySem PySem.Spec PyProof.Rows L2
/-! the document's own error classes -/
abbrev bmX (fe : Addr) : List Value := [.ref fe, .type "ValueError", .type "Exception", .type "BaseException", .type "object"]
/-- what the written part says of an own error class under FallenError -/
structure XF (K : PySem.W.Frag) (mg : Str → Option Value) (fe : Addr) (x : Str) (C : Addr) : Prop where
  g : mg x = some (.ref C)
  ob : ∃ nm q N bs sn sub ab col dd k0 k1 k2 k3 k5, K.lookup C = some (excClassObj nm q C N bs (bmX fe) true sn sub ab col dd k0 k1 k2 k3 k5 "ValueError.__new__")
  kp : PySem.W.keepIn K (.ref C) = true
  ty : PySem.W.typeIn K (.ref C) = some (.type "type")
  sa : PySem.W.findIn K (.ref C) "__setattr__" = some (some (.builtin "object.__setattr__"))
  ga : PySem.W.findIn K (.ref C) "__getattribute__" = some (some (.builtin "BaseException.__getattribute__"))
  gg : PySem.W.findIn K (.ref C) "__getattr__" = some none
  ca : PySem.W.findIn K (.ref C) "__class__" = some (some (.builtin "object.__class__"))
section
variable {K : PySem.W.Frag} {mg : Str → Option Value} {fe C : Addr} {x : Str}
theorem XF.cls (T : XF K mg fe x C) : ∃ cd, PySem.W.clsIn K C = some cd ∧ cd.mro = .ref C :: bmX fe ∧ cd.hasDict = true := by
  obtain ⟨nm, q, N, bs, sn, sub, ab, col, dd, k0, k1, k2, k3, k5, h⟩ := T.ob
  exact ⟨{ name := nm, bases := bs, mro := .ref C :: bmX fe, ns := N, qualname := q, hasDict := true, slotNames := sn, subclasses := sub, abstract := ab, collection := col, hasDel := false }, by unfold PySem.W.clsIn; rw [h] <;> rfl, rfl, rfl⟩
theorem XF.mro (T : XF K mg fe x C) (b : Value) : PySem.W.mroIn K C b = some ((Value.ref C :: bmX fe).contains b) := by
  obtain ⟨cd, h1, h2, _⟩ := T.cls
  unfold PySem.W.mroIn
  rw [h1, Option.bind_some, h2] <;> rfl
theorem XF.xc (T : XF K mg fe x C) : XC K C := by
  obtain ⟨cd, h1, h2, h3⟩ := T.cls
  refine ⟨by rw [h1]; rfl, T.ga, T.gg, ?_, T.ca, ?_, by unfold PySem.W.hasDictIn; rw [h1] <;> exact h3⟩
  · show PySem.W.mroIn K C _ = _
    rw [T.mro] <;> simp
  · rw [T.mro] <;> simp
theorem XF.oc (T : XF K mg fe x C) : OexC K C := by
  obtain ⟨nm, q, N, bs, sn, sub, ab, col, dd, k0, k1, k2, k3, k5, h⟩ := T.ob
  exact ⟨⟨nm, q, N, bs, bmX fe, sn, sub, ab, col, dd, k0, k1, k2, k3, k5, h, by rfl⟩, T.sa, T.xc.sb, T.ty, T.kp⟩
/-- isinstance(e, D), e of the class at C, D at another address that is a class too -/
theorem XF.is {D : Addr} {y : Str} (T : XF K mg fe x C) (U : XF K mg fe y D) (hf : D ≠ fe) : PySem.W.kitOne K (.ref C) (.ref D) = some (decide (C = D)) := by
  unfold PySem.W.kitOne
  by_cases e : C = D
  · subst e
    simp
  · have e1 : (Value.ref C == Value.ref D) = false := beq_eq_false_iff_ne.mpr fun z => e (Value.ref.inj z)
    rw [e1, if_neg Bool.false_ne_true, decide_eq_false e]
    unfold PySem.W.kitCls
    have e2 : ((PySem.W.clsIn K D).isSome && PySem.W.typeIn K (.ref D) == some (.type "type")) = true := by
      rw [U.xc.cl, U.ty] <;> rfl
    show (if ((PySem.W.clsIn K D).isSome && PySem.W.typeIn K (.ref D) == some (.type "type")) = true then PySem.W.subIn K (.ref C) (.ref D) else none) = _
    rw [if_pos e2]
    show PySem.W.mroIn K C (.ref D) = _
    rw [T.mro]
    have e3 : (Value.ref D == Value.ref C) = false := beq_eq_false_iff_ne.mpr fun z => e (Value.ref.inj z).symm
    have e4 : (Value.ref D == Value.ref fe) = false := beq_eq_false_iff_ne.mpr fun z => hf (Value.ref.inj z)
    have e5 : ∀ T : String, (Value.ref D == Value.type T) = false := fun T => rfl
    simp [List.contains, List.elem, e3, e4, e5]
theorem XF.isF (T : XF K mg fe x C) (hc : (PySem.W.clsIn K fe).isSome = true) (ht : PySem.W.typeIn K (.ref fe) = some (.type "type")) : PySem.W.kitOne K (.ref C) (.ref fe) = some true := by
  unfold PySem.W.kitOne
  by_cases e : C = fe
  · subst e
    simp
  · have e1 : (Value.ref C == Value.ref fe) = false := beq_eq_false_iff_ne.mpr fun z => e (Value.ref.inj z)
    rw [e1, if_neg Bool.false_ne_true]
    have e2 : ((PySem.W.clsIn K fe).isSome && PySem.W.typeIn K (.ref fe) == some (.type "type")) = true := by
      rw [hc, ht] <;> rfl
    show (if ((PySem.W.clsIn K fe).isSome && PySem.W.typeIn K (.ref fe) == some (.type "type")) = true then PySem.W.subIn K (.ref C) (.ref fe) else none) = _
    rw [if_pos e2]
    show PySem.W.mroIn K C (.ref fe) = _
    rw [T.mro]
    simp
theorem XF.isV (T : XF K mg fe x C) : PySem.W.kitOne K (.ref C) (.type "ValueError") = some true := by
  unfold PySem.W.kitOne
  have e1 : (Value.ref C == Value.type "ValueError") = false := by rfl
  rw [e1, if_neg Bool.false_ne_true]
  show (if PySem.W.kitMeta "ValueError" = true then PySem.W.subIn K (.ref C) (.type "ValueError") else none) = _
  rw [if_pos (by decide +kernel)]
  show PySem.W.mroIn K C _ = _
  rw [T.mro]
  simp
end
theorem XF.of {K : PySem.W.Frag} {h : Heap} {mg : Str → Option Value} {fe C N : Addr} {x nm q : Str} {bs : List Value} {sn : List Str} {sub : List Value} {ab : Bool} {col : Option Bool} {dd : Option Addr} {k0 k1 k2 k3 k5 : Option Value} (X : K.In h) (G : h.Ns mainGlobals mg)
    (g : PySem.W.nsIn K mainGlobals x = some (some (.ref C))) (ob : K.lookup C = some (excClassObj nm q C N bs (bmX fe) true sn sub ab col dd k0 k1 k2 k3 k5 "ValueError.__new__")) (kp : PySem.W.keepIn K (.ref C) = true) (ty : PySem.W.typeIn K (.ref C) = some (.type "type"))
    (sa : PySem.W.findIn K (.ref C) "__setattr__" = some (some (.builtin "object.__setattr__"))) (ga : PySem.W.findIn K (.ref C) "__getattribute__" = some (some (.builtin "BaseException.__getattribute__"))) (gg : PySem.W.findIn K (.ref C) "__getattr__" = some none)
    (ca : PySem.W.findIn K (.ref C) "__class__" = some (some (.builtin "object.__class__"))) : XF K mg fe x C :=
  ⟨PySem.W.mg_of X G g, ⟨nm, q, N, bs, sn, sub, ab, col, dd, k0, k1, k2, k3, k5, ob⟩, kp, ty, sa, ga, gg, ca⟩
/-! isinstance of an exception that was caught and is kept -/
section
variable {X : Cx} {pins : List (Addr × Obj)} {σ : L2.St} {H : Hp} {s : Shared}
theorem exr_inst {a C : Addr} (I : Inv X pins σ H s) (h : H a = some (ExR (.ref C) none a)) : ∃ ox, PySem.W.InstAt s.heap a ox C none := by
  obtain ⟨⟨oe, vs, ho, h1, h2, h3⟩, _, _⟩ := I.hok a _ h
  refine ⟨oe, ho, h1, ?_, ?_⟩
  · unfold PySem.W.notCls; rw [h3] <;> rfl
  · rw [h2] <;> trivial
def rIsR (K : PySem.W.Frag) : List V → Hp → VK → Prop := fun xs H Q => ∃ (a C : Addr) (c : V) (cv : Value) (b : Bool), xs = [.ref a, c] ∧ XC K C ∧ XB K ∧ H a = some (ExR (.ref C) none a) ∧ ClsV c cv ∧ PySem.W.kitOne K (.ref C) cv = some b ∧ Q (.bl b) H
theorem call_isR : CallR X (.builtin "isinstance") (rIsR X.K) := by
  intro pins s σ H xs us Q I r h
  obtain ⟨a, C, c, cv, b, rfl, T, B, hE, k, e, q⟩ := h
  obtain ⟨u1, u2, rfl, r1, r2⟩ := vals2 r
  have e2 := k.eq r2
  subst e2
  cases (show u1 = Value.ref a from r1)
  obtain ⟨ox, J⟩ := exr_inst I hE
  exact PySem.W.kia_one (PySem.W.kitx_exc T.cl T.ga T.gg T.sb T.ca B.hn B.ht T.ob) I.kIn J e (fun z => nomatch z) fun tk => ⟨.bl b, H, I.tok tk, rfl, q⟩
end
/-- an own __init__ of one field -/
def spI1 (C : Addr) (f : Str) : Sp := fun vs H Q _ => ∃ (a : Addr) (v : V), vs = [.ref a, v] ∧ H a = some (exo a C none) ∧ ∀ d, H d = none → d ≠ a → Q .non (upd (upd H d (exd d [(f, v)])) a (exo a C (some d)))
end Fb
set_option maxRecDepth 100000
set_option maxHeartbeats 4000000
namespace Fb
open PySem PySem.Spec PyProof.Rows L2
/-! list comprehensions that leave what was: the list so far is told by a function of the turn -/
section
variable {g : TG} {tt : TT} {te : TE} {vs : List Nat} {σ : L2.St} {H1 : Hp} {D : Addr} {Qd : Hp → Prop} (out : Nat → List V)
def OutI (H1 : Hp) (D : Addr) (o : List V) (H : Hp) : Prop := Same H1 H ∧ H D = some (.lst o)
theorem OutI.start {H1 : Hp} {D : Addr} (hD : H1 D = none) : OutI H1 D [] (upd H1 D (.lst [])) := ⟨smN (Same.refl _) hD, upd_same⟩
theorem OutI.put {H1 H H4 : Hp} {D : Addr} {o : List V} {y : V} (hD : H1 D = none) (h : OutI H1 D o H) (s : Same H H4) : OutI H1 D (o ++ [y]) (upd H4 D (.lst (o ++ [y]))) :=
  ⟨fun b u e => by rw [upd_ne (ne_of_none e hD)]; exact s _ _ (h.1 _ _ e), upd_same⟩
theorem OutI.stay {H1 H H4 : Hp} {D : Addr} {o : List V} (h : OutI H1 D o H) (s : Same H H4) : OutI H1 D o H4 := ⟨h.1.trans s, s _ _ h.2⟩
theorem lc_outL {K : PySem.W.Frag} {a : Addr} {xs : List V} (hD : H1 D = none) (hl : SqL K H1 a xs) (o0 : out 0 = []) (ol : ∀ i, i < xs.length → (out i).length < sizeLine)
    (hs : ∀ i x H (Kc : V → Hp → Prop) (K0 : Hp → Prop), xs[i]? = some x → Same H1 H → (∀ y H4, Same H H4 → out (i + 1) = out i ++ [y] → Kc y H4) → (∀ H4, Same H H4 → out (i + 1) = out i → K0 H4) →
      g x (wipe σ vs) H fun σ2 H2 => wipe σ2 vs = wipe σ vs ∧ tt σ2 H2 fun b H3 => if b = true then te σ2 H3 Kc else K0 H3)
    (hd : ∀ H, Same H1 H → H D = some (.lst (out xs.length)) → Qd H) :
    ∃ W : Nat → Nat → Hp → Prop, (∃ m, W 0 m (upd H1 D (.lst []))) ∧ ∀ i m H, W i m H →
      ((Itl K a).stop i H ∧ Qd H) ∨ ((Itl K a).go i H ∧ ∃ Nx : Hp → Prop, (∀ H', Nx H' → ∃ m', m' < m ∧ W (i + 1) m' H') ∧ ∀ x H', (Itl K a).yld i H x H' → g x (wipe σ vs) H' fun σ2 H2 => wipe σ2 vs = wipe σ vs ∧ tt σ2 H2 fun b H3 =>
        if b = true then te σ2 H3 fun y H4 => ∃ acc, H4 D = some (.lst acc) ∧ acc.length < sizeLine ∧ Nx (upd H4 D (.lst (acc ++ [y]))) else Nx H3) := by
  refine lc_list (xs := xs) (fun i H => OutI H1 D (out i) H) (by rw [o0]; exact OutI.start hD) (fun i H _ h => h.1.seq hl) (fun i x H e h => ?_) (fun H h => hd H h.1 h.2)
  have lt : i < xs.length := (List.getElem?_eq_some_iff.mp e).1
  exact hs i x H _ _ e h.1 (fun y H4 s q => ⟨out i, (h.stay s).2, ol i lt, by rw [q]; exact h.put hD s⟩) (fun H4 s q => by rw [q]; exact h.stay s)
theorem lc_outT {vals : Nat → List V} {n : Nat} (hD : H1 D = none) (o0 : out 0 = []) (ol : ∀ i, i < n → (out i).length < sizeLine)
    (hs : ∀ i T H (Kc : V → Hp → Prop) (K0 : Hp → Prop), i < n → Same H1 H → H T = some (.tup (vals i)) → (∀ y H4, Same H H4 → out (i + 1) = out i ++ [y] → Kc y H4) → (∀ H4, Same H H4 → out (i + 1) = out i → K0 H4) →
      g (.ref T) (wipe σ vs) H fun σ2 H2 => wipe σ2 vs = wipe σ vs ∧ tt σ2 H2 fun b H3 => if b = true then te σ2 H3 Kc else K0 H3)
    (hd : ∀ H, Same H1 H → H D = some (.lst (out n)) → Qd H) :
    ∃ W : Nat → Nat → Hp → Prop, (∃ m, W 0 m (upd H1 D (.lst []))) ∧ ∀ i m H, W i m H →
      ((ItT vals n).stop i H ∧ Qd H) ∨ ((ItT vals n).go i H ∧ ∃ Nx : Hp → Prop, (∀ H', Nx H' → ∃ m', m' < m ∧ W (i + 1) m' H') ∧ ∀ x H', (ItT vals n).yld i H x H' → g x (wipe σ vs) H' fun σ2 H2 => wipe σ2 vs = wipe σ vs ∧ tt σ2 H2 fun b H3 =>
        if b = true then te σ2 H3 fun y H4 => ∃ acc, H4 D = some (.lst acc) ∧ acc.length < sizeLine ∧ Nx (upd H4 D (.lst (acc ++ [y]))) else Nx H3) := by
  refine lc_T (fun i H => OutI H1 D (out i) H) (by rw [o0]; exact OutI.start hD) (fun i T H lt h hT => ?_) (fun H h => hd H h.1 h.2)
  have s0 : Same H (upd H T (.tup (vals i))) := smN (Same.refl _) hT
  exact hs i T _ _ _ lt (h.1.trans s0) upd_same (fun y H4 s q => ⟨out i, (h.stay (s0.trans s)).2, ol i lt, by rw [q]; exact h.put hD (s0.trans s)⟩) (fun H4 s q => by rw [q]; exact h.stay (s0.trans s))
theorem lc_outR {lo : Int} {n : Nat} (hD : H1 D = none) (o0 : out 0 = []) (ol : ∀ i, i < n → (out i).length < sizeLine)
    (hs : ∀ i H (Kc : V → Hp → Prop) (K0 : Hp → Prop), i < n → Same H1 H → (∀ y H4, Same H H4 → out (i + 1) = out i ++ [y] → Kc y H4) → (∀ H4, Same H H4 → out (i + 1) = out i → K0 H4) →
      g (.int (lo + i)) (wipe σ vs) H fun σ2 H2 => wipe σ2 vs = wipe σ vs ∧ tt σ2 H2 fun b H3 => if b = true then te σ2 H3 Kc else K0 H3)
    (hd : ∀ H, Same H1 H → H D = some (.lst (out n)) → Qd H) :
    ∃ W : Nat → Nat → Hp → Prop, (∃ m, W 0 m (upd H1 D (.lst []))) ∧ ∀ i m H, W i m H →
      ((Itr lo n).stop i H ∧ Qd H) ∨ ((Itr lo n).go i H ∧ ∃ Nx : Hp → Prop, (∀ H', Nx H' → ∃ m', m' < m ∧ W (i + 1) m' H') ∧ ∀ x H', (Itr lo n).yld i H x H' → g x (wipe σ vs) H' fun σ2 H2 => wipe σ2 vs = wipe σ vs ∧ tt σ2 H2 fun b H3 =>
        if b = true then te σ2 H3 fun y H4 => ∃ acc, H4 D = some (.lst acc) ∧ acc.length < sizeLine ∧ Nx (upd H4 D (.lst (acc ++ [y]))) else Nx H3) := by
  refine lc_range (fun i H => OutI H1 D (out i) H) (by rw [o0]; exact OutI.start hD) (fun i H lt h => ?_) (fun H h => hd H h.1 h.2)
  exact hs i H _ _ lt h.1 (fun y H4 s q => ⟨out i, (h.stay s).2, ol i lt, by rw [q]; exact h.put hD s⟩) (fun H4 s q => by rw [q]; exact h.stay s)
end
theorem iteNo {A B : Prop} (h : B) : if false = true then A else B := by
  rw [if_neg Bool.false_ne_true]
  exact h
theorem yes1 {A B : Hp → Prop} {σ : L2.St} {H : Hp} (h : A H) : tYes σ H (fun b H3 => if b = true then A H3 else B H3) := by
  show (if true = true then A H else B H)
  rw [if_pos rfl]
  exact h
/-- the list so far, item by item -/
def outM (f : Nat → V) (i : Nat) : List V := (List.range i).map f
theorem outM_0 {f : Nat → V} : outM f 0 = [] := rfl
theorem outM_s {f : Nat → V} {i : Nat} : outM f (i + 1) = outM f i ++ [f i] := by unfold outM; rw [List.range_succ, List.map_append]; rfl
theorem outM_l {f : Nat → V} {i : Nat} : (outM f i).length = i := by unfold outM; simp
/-- .. of those that are kept -/
def outF (p : Nat → Bool) (f : Nat → V) (i : Nat) : List V := ((List.range i).filter p).map f
theorem outF_0 {p : Nat → Bool} {f : Nat → V} : outF p f 0 = [] := rfl
theorem outF_t {p : Nat → Bool} {f : Nat → V} {i : Nat} (h : p i = true) : outF p f (i + 1) = outF p f i ++ [f i] := by unfold outF; rw [List.range_succ, List.filter_append, List.map_append]; simp [h]
theorem outF_f {p : Nat → Bool} {f : Nat → V} {i : Nat} (h : p i = false) : outF p f (i + 1) = outF p f i := by unfold outF; rw [List.range_succ, List.filter_append, List.map_append]; simp [h]
theorem outF_l {p : Nat → Bool} {f : Nat → V} {i : Nat} : (outF p f i).length ≤ i := by
  unfold outF
  rw [List.length_map]
  exact Nat.le_trans (List.length_filter_le _ _) (by simp)
end Fb
set_option maxRecDepth 100000
set_option maxHeartbeats 4000000
namespace Fb
open PySem PySem.Spec PyProof.Rows L2
/-! flat data -/
def numD (ns : List Nat) : List PyData := ns.map fun n => .int (n : Nat)
def nums (ns : List Nat) : List V := ns.map fun n => V.int (n : Nat)
def boolD (bs : List Bool) : List PyData := bs.map .bool
def bools (bs : List Bool) : List V := bs.map V.bl
section
variable {K : PySem.W.Frag} {H : Hp}
theorem dp_nums : ∀ ns : List Nat, DpAll K H (nums ns) (numD ns)
  | [] => .nil
  | n :: ns => .cons (.int _) (dp_nums ns)
theorem dp_bls : ∀ bs : List Bool, DpAll K H (bools bs) (boolD bs)
  | [] => .nil
  | b :: bs => .cons (.bl b) (dp_bls bs)
end
theorem lay_nums : ∀ ns : List Nat, PyData.canLayAll0 (numD ns) = true ∧ PyData.depthAll (numD ns) = 0
  | [] => ⟨rfl, rfl⟩
  | n :: ns => by
    obtain ⟨h1, h2⟩ := lay_nums ns
    unfold numD at *
    rw [List.map_cons]
    constructor
    · rw [PyData.canLayAll0, h1] <;> rfl
    · rw [PyData.depthAll, h2] <;> rfl
theorem lay_bools : ∀ ns : List Bool, PyData.canLayAll0 (boolD ns) = true ∧ PyData.depthAll (boolD ns) = 0
  | [] => ⟨rfl, rfl⟩
  | n :: ns => by
    obtain ⟨h1, h2⟩ := lay_bools ns
    unfold boolD at *
    rw [List.map_cons]
    constructor
    · rw [PyData.canLayAll0, h1] <;> rfl
    · rw [PyData.depthAll, h2] <;> rfl
theorem shaped_tup {ds : List PyData} (h : PyData.canLayAll0 ds = true ∧ PyData.depthAll ds = 0) : SeqAt.shaped (.tuple ds) = true := by
  unfold SeqAt.shaped
  rw [PyData.canLay0, PyData.depth, h.1, h.2]
  rfl
theorem shaped_lst {ds : List PyData} (h : PyData.canLayAll0 ds = true ∧ PyData.depthAll ds = 0) : SeqAt.shaped (.list ds) = true := by
  unfold SeqAt.shaped
  rw [PyData.canLay0, PyData.depth, h.1, h.2]
  rfl
theorem eqv_nums : ∀ ns ms : List Nat, PyData.eqvAll (numD ns) (numD ms) = decide (ns = ms)
  | [], [] => by simp [numD, PyData.eqvAll]
  | [], _ :: _ => by simp [numD, PyData.eqvAll]
  | _ :: _, [] => by simp [numD, PyData.eqvAll]
  | n :: ns, m :: ms => by
    have h := eqv_nums ns ms
    unfold numD at *
    rw [List.map_cons, List.map_cons, PyData.eqvAll, h, PyData.eqv]
    by_cases e : n = m
    · subst e
      simp
    · have e2 : ¬ ((n : Int) = (m : Int)) := by omega
      simp [e, e2]
theorem eqv_numT (ns ms : List Nat) : PyData.eqv (.tuple (numD ns)) (.tuple (numD ms)) = decide (ns = ms) := by rw [PyData.eqv, eqv_nums]
theorem eqv_numL (ns ms : List Nat) : PyData.eqv (.list (numD ns)) (.list (numD ms)) = decide (ns = ms) := by rw [PyData.eqv, eqv_nums]
mutual
theorem dp_same {K : PySem.W.Frag} {H H' : Hp} (s : Same H H') : ∀ (d : PyData) {v : V}, Dp K H v d → Dp K H' v d
  | _, _, .non => .non
  | _, _, .bl b => .bl b
  | _, _, .int i => .int i
  | _, _, .str x => .str x
  | .list ds, _, .lst h a => .lst (s.seq h) (dp_sameAll s ds a)
  | .tuple ds, _, .tup h a => .tup (by
      rcases h with (h | ⟨o, h⟩) | h
      · exact .inl (.inl (s _ _ h))
      · exact .inl (.inr ⟨o, s _ _ h⟩)
      · exact .inr h) (dp_sameAll s ds a)
theorem dp_sameAll {K : PySem.W.Frag} {H H' : Hp} (s : Same H H') : ∀ (ds : List PyData) {vs : List V}, DpAll K H vs ds → DpAll K H' vs ds
  | _, _, .nil => .nil
  | d :: ds, _, .cons h t => .cons (dp_same s d h) (dp_sameAll s ds t)
end
theorem sqT_same {K : PySem.W.Frag} {H H' : Hp} (s : Same H H') {a : Addr} {xs : List V} (h : SqT K H a xs) : SqT K H' a xs := by
  rcases h with (h | ⟨o, h⟩) | h
  · exact .inl (.inl (s _ _ h))
  · exact .inl (.inr ⟨o, s _ _ h⟩)
  · exact .inr h
theorem outM_all {ys : List V} {f : Nat → V} {n : Nat} (hn : n = ys.length) (h : ∀ i, i < n → ys[i]? = some (f i)) : outM f n = ys := by
  subst hn
  unfold outM
  refine List.ext_getElem? fun i => ?_
  by_cases hi : i < ys.length
  · rw [List.getElem?_map, List.getElem?_range hi, h i hi] <;> rfl
  · rw [List.getElem?_eq_none (by simpa using hi), List.getElem?_eq_none (by omega)]
/-- one sign is at most another -/
theorem sign_lt (a b : Nat) : (([b] : List Nat) < [a]) ↔ b < a := by
  rw [List.cons_lt_cons_iff]
  simp
theorem sign_le (a b : Nat) : (!decide (([b] : List Nat) < [a])) = decide (a ≤ b) := by
  by_cases h : b < a
  · rw [decide_eq_true ((sign_lt a b).mpr h), decide_eq_false (by omega)] <;> rfl
  · rw [decide_eq_false (fun z => h ((sign_lt a b).mp z)), decide_eq_true (by omega)] <;> rfl
/-! within a comprehension: readings that name the written part by itself -/
section
variable {X : Cx} {o e : Expr} {es : List Expr} {to : TE} {t : TA} {apos cpos : Pos} {K : PySem.W.Frag}
def rJn (K : PySem.W.Frag) : V → List V → Hp → VK → Prop := fun x xs H Q => ∃ a p, ∃ ys : List Str, x = .str a ∧ xs = [.ref p] ∧ (SqL K H p (ys.map V.str) ∨ SqT K H p (ys.map V.str)) ∧
    (ys.map (·.length)).sum + ys.length * a.length ≤ 16777216 ∧ Q (.str (Txt.join a ys)) H
theorem pe_joinK (hK : X.K = K) (ho : PE X o to) (ha : PA X (e :: es) t)
    (hbase : attributeBase o "join" X.env (eval o X.env) = eval o X.env := by rfl)
    (hfew : ((backTo cpos (starEach (e :: es) X.env)).all (fun x => !x.1) && (backToKw cpos (keywordEach [] X.env)).all (fun x => x.1.isSome)
      && decide ((e :: es).length + ([] : List Keyword).length + (if ([] : List Keyword).isEmpty then 0 else 1) < 30)) = true := by rfl)
    (hline : (apos.endLine == cpos.line) = true := by rfl) (hs : starEach (e :: es) X.env = (false, eval e X.env) :: starEach es X.env := by rfl) (hplain : (backTo cpos (starEach es X.env)).any (·.1) = false := by rfl) :
    PE X (.Call (.Attribute o "join" apos) (e :: es) [] cpos) (tBM K "str" (rJn K) to t) := by
  subst hK
  exact pe_bm PySem.F.plainAttrs_str PySem.F.slot_str_join PySem.F.type_str_join mt_join ho ha hbase hfew hline hs hplain
end
end Fb
set_option maxRecDepth 100000
set_option maxHeartbeats 4000000
namespace Fb
open PySem PySem.Spec PyProof.Rows L2
open SX (S)
/-! what the laws' own drawing defs need -/
/-- all but p is as it was -/
def But (p : Addr) (H H' : Hp) : Prop := ∀ c o, c ≠ p → H c = some o → H' c = some o
section
variable {H H1 H2 : Hp} {p : Addr}
theorem But.refl : But p H H := fun _ _ _ h => h
theorem But.trans (a : But p H H1) (b : But p H1 H2) : But p H H2 := fun c o n h => b c o n (a c o n h)
theorem But.of (s : Same H H1) : But p H H1 := fun c o _ h => s c o h
theorem But.took (k : ∀ c, c ≠ p → H1 c = H c) : But p H H1 := fun c o n h => by rw [k c n]; exact h
theorem But.new {q : Addr} {o : HO} (b : But p H H1) (h : H1 q = none) : But p H (upd H1 q o) := fun c u n e => by
  have e1 := b c u n e
  rw [upd_ne (ne_of_none e1 h)]
  exact e1
/-- a list that is not tracked at the start is stored to -/
theorem But.put {q : Addr} {o : HO} (b : But p H H1) (h : H q = none) : But p H (upd H1 q o) := fun c u n e => by
  rw [upd_ne (ne_of_none e h)]
  exact b c u n e
theorem PenL.new {l : Addr} {n : Nat} {q : Addr} {o : HO} (h : PenL H p l n) (hq : H q = none) : PenL (upd H q o) p l n := h.same (smN (Same.refl _) hq)
theorem PenL.put {l : Addr} {n : Nat} {q : Addr} {o : HO} (h : PenL H p l n) (n1 : p ≠ q) (n2 : l ≠ q) : PenL (upd H q o) p l n := by
  obtain ⟨cs, a, r, f, e, e2, h3⟩ := h
  exact ⟨cs, a, r, f, by rw [upd_ne n1]; exact e, by rw [upd_ne n2]; exact e2, h3⟩
theorem PenL.nep {l : Addr} {n : Nat} {q : Addr} (h : PenL H p l n) (hq : H q = none) : p ≠ q := by
  obtain ⟨cs, a, r, f, e, e2, h3⟩ := h
  exact ne_of_none e hq
theorem PenL.nel {l : Addr} {n : Nat} {q : Addr} (h : PenL H p l n) (hq : H q = none) : l ≠ q := by
  obtain ⟨cs, a, r, f, e, e2, h3⟩ := h
  exact ne_of_none e2 hq
end
/-! a walk over a text -/
theorem for_S {l : List Nat} {g : TG} {tb : TS} {D : Ends} {σ : L2.St} {H : Hp} (Pv : Nat → L2.St → Hp → Prop) (h0 : Pv 0 σ H)
    (hs : ∀ i c σ H, l[i]? = some c → Pv i σ H → g (.str (S [c])) σ H fun σ2 H2 => tb { D with nx := Pv (i + 1), ct := Pv (i + 1), bk := D.nx } σ2 H2) (hd : ∀ σ H, Pv l.length σ H → D.nx σ H) :
    ∃ W : Nat → Nat → L2.St → Hp → Prop, (∃ m, W 0 m σ H) ∧ ∀ i m σ H, W i m σ H →
      ((Its (S l)).stop i H ∧ D.nx σ H) ∨ ((Its (S l)).go i H ∧ ∃ N : L2.St → Hp → Prop, (∀ σ' H', N σ' H' → ∃ m', m' < m ∧ W (i + 1) m' σ' H') ∧ ∀ x H', (Its (S l)).yld i H x H' → g x σ H' fun σ2 H2 => tb { D with nx := N, ct := N, bk := D.nx } σ2 H2) := by
  have hz : (S l).cps.size = l.length := by simp [S]
  refine ⟨fun i m σ H => i + m = l.length ∧ Pv i σ H, ⟨l.length, by omega, h0⟩, fun i m σ H ⟨hm, p⟩ => ?_⟩
  by_cases lt : i < l.length
  · refine Or.inr ⟨by show i < (S l).cps.size; omega, Pv (i + 1), fun σ' H' p' => ⟨m - 1, by omega, by omega, p'⟩, ?_⟩
    rintro x H' ⟨eH, c, hc, rfl⟩
    subst eH
    have e : l[i]? = some c := by simpa [S] using hc
    exact hs i c σ _ e p
  · obtain rfl : i = l.length := by omega
    exact Or.inl ⟨by show (S l).cps.size ≤ _; omega, hd σ H p⟩
/-! mathematics of drawn patterns -/
theorem Al.snoc : ∀ {l m : List Nat} {a b : Nat}, Al l m → AlS a b → Al (l ++ [a]) (m ++ [b])
  | _, _, _, _, .nil, r => .cons r .nil
  | _, _, _, _, .cons r t, q => .cons r (Al.snoc t q)
theorem take_s {l : List Nat} {i c : Nat} (h : l[i]? = some c) : l.take (i + 1) = l.take i ++ [c] := by
  rw [List.take_add_one, h] <;> rfl
theorem Al.at : ∀ {l m : List Nat} {i a : Nat}, Al l m → l[i]? = some a → ∃ b, m[i]? = some b ∧ AlS a b
  | _, _, _, _, .nil, e => by simp at e
  | _, _, 0, _, .cons r _, e => by simp at e; subst e; exact ⟨_, rfl, r⟩
  | _, _, i + 1, _, .cons _ t, e => by
    obtain ⟨b, h1, h2⟩ := Al.at (i := i) t (by simpa using e)
    exact ⟨b, by simpa using h1, h2⟩
theorem zw_take {f : Nat → Nat → Nat} {l m : List Nat} {i a b : Nat} (h1 : l[i]? = some a) (h2 : m[i]? = some b) : zw f (l.take (i + 1)) (m.take (i + 1)) = zw f (l.take i) (m.take i) ++ [f a b] := by
  rw [take_s h1, take_s h2]
  unfold zw
  have hl : i < l.length := (List.getElem?_eq_some_iff.mp h1).1
  have hm : i < m.length := (List.getElem?_eq_some_iff.mp h2).1
  rw [List.zipWith_append (by rw [List.length_take, List.length_take]; omega)]
  rfl
theorem sg_join : ∀ {bs : List (List Nat)}, (∀ b ∈ bs, ∀ c ∈ b, c = 48 ∨ c = 49) → Sg (TL.joinL [46] bs)
  | [], _ => fun c hc => by simp [TL.joinL] at hc
  | [b], h => fun c hc => by
    have := h b (by simp) c (by simpa [TL.joinL] using hc)
    omega
  | b :: d :: r, h => fun c hc => by
    have hc' : c ∈ b ++ ([46] ++ TL.joinL [46] (d :: r)) := hc
    rw [List.mem_append, List.mem_append] at hc'
    rcases hc' with q | q | q
    · have := h b List.mem_cons_self c q
      omega
    · have := List.mem_singleton.mp q
      omega
    · exact sg_join (fun x hx => h x (List.mem_cons_of_mem _ hx)) c q
theorem szs_join {bs : List (List Nat)} (hne : bs ≠ []) (h : ∀ b ∈ bs, ∀ c ∈ b, c = 48 ∨ c = 49) : szs (TL.joinL [46] bs) = bs.map List.length := by
  have e := spl_len (TL.joinL [46] bs) []
  rw [SX.spl_join hne (fun p hp hm => by have := h p hp 46 hm; omega)] at e
  exact e.symm
theorem isP_of {l ss : List Nat} {M : Nat} (hs : Sg l) (hz : szs l = ss) (h3 : ss.length ≤ 3) (h1 : ∀ s ∈ ss, 1 ≤ s ∧ s ≤ M) (hM : M ≤ 40) : IsP l := by
  refine ⟨hs, by rw [hz]; exact fun n hn => (h1 n hn).1, by rw [hz]; exact h3, ?_⟩
  have e := szA_sum l 0
  have e2 : (szA 0 l) = ss := hz
  rw [e2] at e
  have : ss.sum ≤ ss.length * M := by
    clear e e2 hz h3
    induction ss with
    | nil => simp
    | cons s ss ih =>
      have := ih fun x hx => h1 x (List.mem_cons_of_mem _ hx)
      have h2 := (h1 s List.mem_cons_self).2
      rw [List.sum_cons, List.length_cons, Nat.succ_mul]
      omega
  have h5 : ss.length * M ≤ 3 * 40 := Nat.mul_le_mul h3 hM
  omega
/-- no bit stands in the one and has fallen in the other -/
def upP (l m : List Nat) (k : Nat) : Bool := decide (l.getD k 0 = 49) && decide (m.getD k 0 = 48)
theorem below_nil : ∀ {l m : List Nat}, Al l m → below l m = decide ((List.range l.length).filter (upP l m) = [])
  | [], [], .nil => rfl
  | a :: l, b :: m, .cons r t => by
    have ih := below_nil t
    have e1 : below (a :: l) (b :: m) = (decide (a ≤ b) && below l m) := rfl
    have e2 : (List.range (a :: l).length).filter (upP (a :: l) (b :: m)) = (if upP (a :: l) (b :: m) 0 = true then [0] else []) ++ ((List.range l.length).filter (upP l m)).map (· + 1) := by
      rw [List.length_cons, List.range_succ_eq_map, List.filter_cons]
      have : (List.map Nat.succ (List.range l.length)).filter (upP (a :: l) (b :: m)) = ((List.range l.length).filter (upP l m)).map (· + 1) := by
        rw [List.filter_map]
        have hf : (upP (a :: l) (b :: m) ∘ Nat.succ) = upP l m := by
          funext k
          simp [upP]
        rw [hf]
      split <;> simp [this]
    rw [e1, ih, e2]
    have u : upP (a :: l) (b :: m) 0 = (decide (a = 49) && decide (b = 48)) := by simp [upP]
    rw [u]
    by_cases h : a ≤ b
    · have : (decide (a = 49) && decide (b = 48)) = false := by
        by_cases q : a = 49
        · have : ¬ b = 48 := by omega
          simp [this]
        · simp [q]
      rw [this]
      simp [h]
    · have : (decide (a = 49) && decide (b = 48)) = true := by
        have h1 : a = 49 ∧ b = 48 := by unfold AlS at r; omega
        simp [h1.1, h1.2]
      rw [this]
      simp [h]
/-- the sign where so many of the two stand -/
def fC (cs : List Nat) (a b : Nat) : Nat := if a = 46 then 46 else if (if a = 49 then 1 else 0) + (if b = 49 then 1 else 0) ∈ cs then 49 else 48
theorem zw_congr {f g : Nat → Nat → Nat} (h : ∀ a b, AlS a b → f a b = g a b) : ∀ {l m : List Nat}, Al l m → zw f l m = zw g l m
  | _, _, .nil => rfl
  | _, _, .cons r t => by
    show f _ _ :: zw f _ _ = g _ _ :: zw g _ _
    rw [h _ _ r, zw_congr h t]
theorem fC_and (a b : Nat) (h : AlS a b) : fC [2] a b = fAnd a b := by
  unfold fC fAnd
  rcases h with ⟨rfl, rfl⟩ | ⟨h1, h2⟩
  · rfl
  · rcases h1 with rfl | rfl <;> rcases h2 with rfl | rfl <;> decide
theorem fC_or (a b : Nat) (h : AlS a b) : fC [1, 2] a b = fOr a b := by
  unfold fC fOr
  rcases h with ⟨rfl, rfl⟩ | ⟨h1, h2⟩
  · rfl
  · rcases h1 with rfl | rfl <;> rcases h2 with rfl | rfl <;> decide
theorem fC_xor (a b : Nat) (h : AlS a b) : fC [1] a b = fXor a b := by
  unfold fC fXor
  rcases h with ⟨rfl, rfl⟩ | ⟨h1, h2⟩
  · rfl
  · rcases h1 with rfl | rfl <;> rcases h2 with rfl | rfl <;> decide
theorem inV_nums (j : Nat) : ∀ cs : List Nat, inV (.int (j : Nat)) (nums cs) = decide (j ∈ cs)
  | [] => by simp [inV, nums]
  | c :: cs => by
    have ih := inV_nums j cs
    unfold inV nums at *
    rw [List.map_cons, List.any_cons, ih]
    show ((c : Int) == (j : Int) || _) = _
    by_cases h : j = c
    · subst h; simp
    · have h2 : ¬ ((c : Int) = (j : Int)) := by omega
      have h3 : ((c : Int) == (j : Int)) = false := by simpa using h2
      rw [h3]
      simp [h]
theorem flat_nums : ∀ cs : List Nat, (nums cs).all flatV = true
  | [] => rfl
  | c :: cs => by
    unfold nums
    rw [List.map_cons, List.all_cons]
    exact flat_nums cs
theorem sum_signs (xs : List Nat) : (xs.map ((fun w : Str => w.length) ∘ fun c => S [c])).sum = xs.length := by
  induction xs with
  | nil => rfl
  | cons c xs ih => rw [List.map_cons, List.sum_cons, ih, List.length_cons, Nat.add_comm]; rfl
theorem zw_and_or : ∀ {l m : List Nat}, Al l m → zw fOr (zw fAnd l m) l = l
  | _, _, .nil => rfl
  | a :: l, b :: m, .cons r t => by
    show fOr (fAnd a b) a :: zw fOr (zw fAnd l m) l = a :: l
    rw [zw_and_or t]
    have e : fOr (fAnd a b) a = a := by
      unfold fOr fAnd
      rcases r with ⟨rfl, rfl⟩ | ⟨h1, h2⟩
      · rfl
      · rcases h1 with rfl | rfl <;> rcases h2 with rfl | rfl <;> decide
    rw [e]
/-! patterns of other sizes -/
def filt (l : List Nat) : List Nat := l.filter (fun c => c != 46)
theorem filt_sg {l : List Nat} (h : Sg l) : ∀ c ∈ filt l, c = 48 ∨ c = 49 := fun c hc => by
  unfold filt at hc
  rw [List.mem_filter] at hc
  have := h c hc.1
  have h2 : ¬ c = 46 := by simpa using hc.2
  omega
theorem filt_len (l : List Nat) : (filt l).length = nb l := rfl
theorem szA_plain : ∀ (f : List Nat) (n : Nat), (∀ c ∈ f, c = 48 ∨ c = 49) → szA n f = [n + f.length]
  | [], n, _ => rfl
  | c :: f, n, h => by
    have hc := h c List.mem_cons_self
    unfold szA
    rw [if_neg (by omega), szA_plain f (n + 1) (fun d hd => h d (List.mem_cons_of_mem _ hd)), List.length_cons]
    congr 1
    omega
theorem szA_cut : ∀ (f r : List Nat) (n : Nat), (∀ c ∈ f, c = 48 ∨ c = 49) → szA n (f ++ 46 :: r) = (n + f.length) :: szA 0 r
  | [], r, n, _ => by
    show (if 46 = 46 then _ else _) = _
    rw [if_pos rfl]
    rfl
  | c :: f, r, n, h => by
    have hc := h c List.mem_cons_self
    show (if c = 46 then _ else szA (n + 1) (f ++ 46 :: r)) = _
    rw [if_neg (by omega), szA_cut f r (n + 1) (fun d hd => h d (List.mem_cons_of_mem _ hd)), List.length_cons]
    congr 1
    omega
theorem szA_more : ∀ (l : List Nat) (n : Nat), (szA n (l ++ [49])).length = (szA n l).length ∧ ((∀ s ∈ szA n l, 1 ≤ s) → ∀ s ∈ szA n (l ++ [49]), 1 ≤ s)
  | [], n => by
    refine ⟨rfl, fun _ s hs => ?_⟩
    have : s = n + 1 := by simpa [szA] using hs
    omega
  | c :: l, n => by
    by_cases h : c = 46
    · have e1 : szA n (c :: (l ++ [49])) = n :: szA 0 (l ++ [49]) := by show (if c = 46 then _ else _) = _; rw [if_pos h]
      have e2 : szA n (c :: l) = n :: szA 0 l := by show (if c = 46 then _ else _) = _; rw [if_pos h]
      obtain ⟨h1, h2⟩ := szA_more l 0
      rw [List.cons_append, e1, e2]
      refine ⟨by rw [List.length_cons, List.length_cons, h1], fun hh s hs => ?_⟩
      rcases List.mem_cons.mp hs with e | e
      · exact hh s (e ▸ List.mem_cons_self)
      · exact h2 (fun t ht => hh t (List.mem_cons_of_mem _ ht)) s e
    · have e1 : szA n (c :: (l ++ [49])) = szA (n + 1) (l ++ [49]) := by show (if c = 46 then _ else _) = _; rw [if_neg h]
      have e2 : szA n (c :: l) = szA (n + 1) l := by show (if c = 46 then _ else _) = _; rw [if_neg h]
      rw [List.cons_append, e1, e2]
      exact szA_more l (n + 1)
theorem nb_pos {x : List Nat} (h : IsP x) : 1 ≤ nb x := by
  have e := szA_sum x 0
  obtain ⟨a, r, e2, _⟩ := szA_head x 0
  have := h.one a (by unfold szs; rw [e2]; exact List.mem_cons_self)
  rw [e2, List.sum_cons] at e
  omega
theorem isP_far1 {x : List Nat} (h : IsP x) (hn : nb x ≤ 100) : IsP (x ++ [49]) := by
  obtain ⟨h1, h2⟩ := szA_more x 0
  refine ⟨fun c hc => ?_, h2 h.one, by have := h.few; unfold szs at *; omega, ?_⟩
  · rcases List.mem_append.mp hc with e | e
    · exact h.sg c e
    · have := List.mem_singleton.mp e
      omega
  · unfold nb
    rw [List.filter_append, List.length_append]
    unfold nb at hn
    simp
    omega
theorem isP_far2 {x : List Nat} (h : IsP x) (hn : nb x ≤ 100) : IsP (filt x ++ [46, 49]) := by
  have p := nb_pos h
  have hs := filt_sg h.sg
  have e : szs (filt x ++ [46, 49]) = [nb x, 1] := by
    show szA 0 (filt x ++ 46 :: [49]) = _
    rw [szA_cut _ _ _ hs, Nat.zero_add, filt_len]
    rfl
  refine ⟨fun c hc => ?_, by rw [e]; intro n hn; simp at hn; omega, by rw [e]; simp, ?_⟩
  · rcases List.mem_append.mp hc with q | q
    · have := hs c q
      omega
    · simp at q
      omega
  · have s := szA_sum (filt x ++ [46, 49]) 0
    have e2 : szA 0 (filt x ++ [46, 49]) = [nb x, 1] := e
    rw [e2] at s
    simp at s
    omega
theorem isP_far3 {x : List Nat} (h : IsP x) : IsP ([49, 46] ++ filt (x.take 20)) := by
  have hsg : Sg (x.take 20) := fun c hc => h.sg c (List.mem_of_mem_take hc)
  have hs := filt_sg hsg
  have e : szs ([49, 46] ++ filt (x.take 20)) = [1, (filt (x.take 20)).length] := by
    show szA 0 ([49] ++ 46 :: filt (x.take 20)) = _
    rw [szA_cut [49] _ _ (by simp), szA_plain _ _ hs, Nat.zero_add, Nat.zero_add]
    rfl
  have le : (filt (x.take 20)).length ≤ 20 := by
    unfold filt
    have := List.length_filter_le (fun c => c != 46) (x.take 20)
    have h2 : (x.take 20).length ≤ 20 := by rw [List.length_take]; omega
    omega
  have pos : 1 ≤ (filt (x.take 20)).length := by
    cases x with
    | nil => have := nb_pos h; simp [nb] at this
    | cons c r =>
      have hc : ¬ c = 46 := fun q => by
        have := h.one 0 (by
          unfold szs
          show 0 ∈ (if c = 46 then _ else _)
          rw [if_pos q]
          exact List.mem_cons_self)
        omega
      unfold filt
      rw [List.take_succ_cons, List.filter_cons_of_pos (by simpa using hc), List.length_cons]
      omega
  refine ⟨fun c hc => ?_, by rw [e]; intro n hn; simp at hn; omega, by rw [e]; simp, ?_⟩
  · rcases List.mem_append.mp hc with q | q
    · simp at q
      omega
    · have := hs c q
      omega
  · have s := szA_sum ([49, 46] ++ filt (x.take 20)) 0
    have e2 : szA 0 ([49, 46] ++ filt (x.take 20)) = [1, (filt (x.take 20)).length] := e
    rw [e2, List.sum_cons, List.sum_cons, List.sum_nil] at s
    omega
theorem isP_many : IsP (List.replicate 100 49) ∧ szs (List.replicate 100 49) = [100] := by
  have e : szs (List.replicate 100 49) = [100] := by decide +kernel
  refine ⟨⟨fun c hc => .inr (.inl (List.eq_of_mem_replicate hc)), by rw [e]; decide, by rw [e]; decide, by decide +kernel⟩, e⟩
theorem nb_of {x ss : List Nat} {M : Nat} (hz : szs x = ss) (h3 : ss.length ≤ 3) (h1 : ∀ s ∈ ss, s ≤ M) : nb x ≤ 3 * M := by
  have e := szA_sum x 0
  have e2 : szA 0 x = ss := hz
  rw [e2] at e
  have : ss.sum ≤ ss.length * M := by
    clear e e2 hz h3
    induction ss with
    | nil => simp
    | cons s ss ih =>
      have := ih fun x hx => h1 x (List.mem_cons_of_mem _ hx)
      have h2 := h1 s List.mem_cons_self
      rw [List.sum_cons, List.length_cons, Nat.succ_mul]
      omega
  have h5 : ss.length * M ≤ 3 * M := Nat.mul_le_mul_right _ h3
  omega
theorem cut20 (x : List Nat) : cutS (S x) none (some 20) = S (x.take 20) := by
  unfold cutS
  have e : (S x).cps.toList = x := rfl
  have e2 : (S x).length = x.length := SX.S_len x
  rw [e, e2]
  show S _ = S _
  congr 1
  show (x.drop 0).take (min 20 x.length - 0) = x.take 20
  rw [List.drop_zero, Nat.sub_zero]
  by_cases h : x.length ≤ 20
  · rw [List.take_of_length_le (show x.length ≤ min 20 x.length by omega), List.take_of_length_le h]
  · rw [show min 20 x.length = 20 by omega]
end Fb
set_option maxRecDepth 100000
set_option maxHeartbeats 4000000
namespace Fb
open PySem PySem.Spec PyProof.Rows L2
/-! [.. for x in a list for y in a tuple] -/
theorem pi_tupK {X : Cx} {tg l : Expr} {tl : TE} {K : PySem.W.Frag} (hK : X.K = K) (hl : PE X l tl) : PI X tg l (iTup K tl) := by
  subst hK
  exact pi_tup hl
section
variable {K : PySem.W.Frag} {a b D : Addr} {xs ys : List V} {σ : L2.St} {H1 : Hp} {te : TE} {vs vs1 : List Nat} {i1 j1 s1 : Nat} {Qd : Hp → Prop}
theorem lc2_names (Pv : Nat → Nat → Hp → Prop) (h0 : Pv 0 0 (upd H1 D (.lst []))) (hl : ∀ i j H, Pv i j H → SqL K H a xs ∧ SqT K H b ys)
    (hs1 : ∀ x, ((wipe σ vs).set i1 (some x))[s1]? = some (some (.ref b))) (hw : ∀ x, wipe ((wipe σ vs).set i1 (some x)) vs = wipe σ vs)
    (hw1 : ∀ x y, wipe ((wipe ((wipe σ vs).set i1 (some x)) vs1).set j1 (some y)) vs1 = wipe ((wipe σ vs).set i1 (some x)) vs1)
    (step : ∀ i j x y H, xs[i]? = some x → ys[j]? = some y → Pv i j H → te ((wipe ((wipe σ vs).set i1 (some x)) vs1).set j1 (some y)) H fun v H7 => ∃ acc, H7 D = some (.lst acc) ∧ acc.length < sizeLine ∧ Pv i (j + 1) (upd H7 D (.lst (acc ++ [v]))))
    (next : ∀ i H, i < xs.length → Pv i ys.length H → Pv (i + 1) 0 H) (hd : ∀ H, Pv xs.length 0 H → Qd H) :
    ∃ W : Nat → Nat → Hp → Prop, (∃ m, W 0 m (upd H1 D (.lst []))) ∧ ∀ i m H, W i m H →
      ((Itl K a).stop i H ∧ Qd H) ∨ ((Itl K a).go i H ∧ ∃ Nx : Hp → Prop, (∀ H', Nx H' → ∃ m', m' < m ∧ W (i + 1) m' H') ∧ ∀ x H', (Itl K a).yld i H x H' → gName i1 x (wipe σ vs) H' fun σ2 H2 => wipe σ2 vs = wipe σ vs ∧ tYes σ2 H2 fun bb H3 =>
        if bb = true then iTup K (tVar s1) σ2 H3 fun J1 H4 => ∃ W1 : Nat → Nat → Hp → Prop, (∃ m, W1 0 m H4) ∧ ∀ j k H, W1 j k H →
          (J1.stop j H ∧ Nx H) ∨ (J1.go j H ∧ ∃ Nx1 : Hp → Prop, (∀ H', Nx1 H' → ∃ k', k' < k ∧ W1 (j + 1) k' H') ∧ ∀ x H', J1.yld j H x H' → gName j1 x (wipe σ2 vs1) H' fun σ3 H5 => wipe σ3 vs1 = wipe σ2 vs1 ∧ tYes σ3 H5 fun bb H6 =>
            if bb = true then te σ3 H6 fun y H7 => ∃ acc, H7 D = some (.lst acc) ∧ acc.length < sizeLine ∧ Nx1 (upd H7 D (.lst (acc ++ [y]))) else Nx1 H6)
        else Nx H3) := by
  refine ⟨fun i m H => i + m = xs.length ∧ Pv i 0 H, ⟨xs.length, by omega, h0⟩, fun i m H ⟨hm, p⟩ => ?_⟩
  obtain ⟨q1, q2⟩ := hl i 0 H p
  by_cases lt : i < xs.length
  · have ex : xs[i]? = some xs[i] := List.getElem?_eq_getElem lt
    refine Or.inr ⟨⟨xs, xs[i], q1, ex⟩, Pv (i + 1) 0, fun H' p' => ⟨m - 1, by omega, by omega, p'⟩, ?_⟩
    rintro x H' ⟨eH, y⟩
    subst eH
    have e := y xs q1
    refine ⟨hw x, yes1 ?_⟩
    refine ⟨.ref b, hs1 x, b, rfl, ⟨ys, q2⟩, ?_⟩
    refine ⟨fun j k H => j + k = ys.length ∧ Pv i j H, ⟨ys.length, by omega, p⟩, fun j k H ⟨hk, p⟩ => ?_⟩
    obtain ⟨r1, r2⟩ := hl i j H p
    by_cases lt2 : j < ys.length
    · have ey : ys[j]? = some ys[j] := List.getElem?_eq_getElem lt2
      refine Or.inr ⟨⟨ys, ys[j], r2, ey⟩, Pv i (j + 1), fun H' p' => ⟨k - 1, by omega, by omega, p'⟩, ?_⟩
      rintro y2 H' ⟨eH, y'⟩
      subst eH
      have e2 := y' ys r2
      exact ⟨hw1 x y2, yes1 (step i j x y2 _ e e2 p)⟩
    · obtain rfl : j = ys.length := by omega
      exact Or.inl ⟨⟨ys, r2, Nat.le_refl _⟩, next i H lt p⟩
  · obtain rfl : i = xs.length := by omega
    exact Or.inl ⟨⟨xs, q1, Nat.le_refl _⟩, hd H p⟩
end
/-! a value's fault, as a pattern -/
theorem tyOf_same {K : PySem.W.Frag} {H H' : Hp} (s : Same H H') {x : V} {t : Value} (h : TyOf K H x t) : TyOf K H' x t := by
  cases h with
  | non => exact .non
  | bl x => exact .bl x
  | int i => exact .int i
  | str x => exact .str x
  | flt x => exact .flt x
  | lst e => exact .lst (s _ _ e)
  | frz e => exact .frz (s _ _ e)
  | tup e => exact .tup (s _ _ e)
  | dK e => exact .dK (s _ _ e)
  | dT e => exact .dT (s _ _ e)
  | ins e cl ha hn ht hm => exact .ins (s _ _ e) cl ha hn ht hm
theorem tyX_same {K : PySem.W.Frag} {H H' : Hp} (s : Same H H') {x : V} {t : Value} (h : TyX K H x t) : TyX K H' x t := by
  cases h with
  | base h => exact .base (tyOf_same s h)
  | byt b => exact .byt b
  | set e => exact .set (s _ _ e)
  | kList e c => exact .kList e c
  | kTuple e c => exact .kTuple e c
  | kDict e c => exact .kDict e c
  | fTuple e => exact .fTuple (s _ _ e)
  | fDict e => exact .fDict (s _ _ e)
end Fb
set_option maxRecDepth 100000
set_option maxHeartbeats 4000000
namespace Fb
open PySem PySem.Spec PyProof.Rows L2
/-! caught exceptions that are kept, with their fields; lambdas that are handed on -/
/-- at a: an exception of the class at C that was caught; its fields -/
def XR (H : Hp) (a C : Addr) (fs : List (Str × V)) : Prop := ∃ d, H a = some (ExR (.ref C) (some d) a) ∧ H d = some (.xd fs)
section
variable {X : Cx} {pins : List (Addr × Obj)} {σ : L2.St} {H : Hp} {s : Shared}
theorem XR.inst {a C : Addr} {fs : List (Str × V)} (I : Inv X pins σ H s) (h : XR H a C fs) : ∃ ox od, PySem.W.InstAt s.heap a ox C (some od) ∧ ∀ f, RelO (fs.lookup f) ((PySem.W.lookIn f od).getD none) ∧ ∃ r, PySem.W.lookIn f od = some r := by
  obtain ⟨d, h1, h2⟩ := h
  obtain ⟨⟨oe, vs, ho, z1, z2, z3⟩, _, _⟩ := I.hok a _ h1
  have hx : ObjOk X.prog X.w H s.heap d (.xd fs) := I.hok d _ h2
  obtain ⟨mA, hns, hr⟩ := hx
  obtain ⟨od, hod, hl⟩ := lookIn_ns hns
  refine ⟨oe, od, ⟨ho, z1, ?_, ?_⟩, fun f => ⟨?_, _, hl f⟩⟩
  · unfold PySem.W.notCls; rw [z3] <;> rfl
  · rw [z2]
    exact hod
  · rw [hl f]
    exact hr f
def rIsQ (K : PySem.W.Frag) : List V → Hp → VK → Prop := fun xs H Q => ∃ (a C : Addr) (fs : List (Str × V)) (c : V) (cv : Value) (b : Bool), xs = [.ref a, c] ∧ XC K C ∧ XB K ∧ XR H a C fs ∧ ClsV c cv ∧ PySem.W.kitOne K (.ref C) cv = some b ∧ Q (.bl b) H
theorem call_isQ : CallR X (.builtin "isinstance") (rIsQ X.K) := by
  intro pins s σ H xs us Q I r h
  obtain ⟨a, C, fs, c, cv, b, rfl, T, B, hE, k, e, q⟩ := h
  obtain ⟨u1, u2, rfl, r1, r2⟩ := vals2 r
  have e2 := k.eq r2
  subst e2
  cases (show u1 = Value.ref a from r1)
  obtain ⟨ox, od, J, _⟩ := hE.inst I
  exact PySem.W.kia_one (PySem.W.kitx_exc T.cl T.ga T.gg T.sb T.ca B.hn B.ht T.ob) I.kIn J e (fun z => nomatch z) fun tk => ⟨.bl b, H, I.tok tk, rfl, q⟩
/-- e.f, e such an exception -/
def tXar (K : PySem.W.Frag) (f : Str) (te : TE) : TE := fun σ H Q => te σ H fun x H1 => ∃ (a C : Addr) (fs : List (Str × V)) (v : V), x = .ref a ∧ XC K C ∧ PySem.W.findIn K (.ref C) f = some none ∧ XR H1 a C fs ∧ fs.lookup f = some v ∧ Q v H1
theorem pe_xar {e : Expr} {te : TE} {f : Str} {pos : Pos} (he : PE X e te) (hb : attributeBase e f X.env (eval e X.env) = eval e X.env := by rfl) : PE X (.Attribute e f pos) (tXar X.K f te) := by
  refine ⟨fun pins s σ H Q I h => ?_⟩
  refine attr_of hb (thn (he.run pins s σ H _ I h) fun u s1 hh => ?_)
  obtain ⟨x, H1, I1, rx, a, C, fs, v, ex, T, hno, hx, hl, q⟩ := hh
  subst ex
  obtain rfl : u = Value.ref a := rx
  obtain ⟨ox, od, J, hr⟩ := hx.inst I1
  obtain ⟨r1, r, e1⟩ := hr f
  rw [e1, hl] at r1
  obtain ⟨u, hu, ru⟩ := RelO.some_of (v := v) (o := r) r1
  exact HandSPX.exc_get I1.kIn J T.ga T.gg T.sb (PySem.W.findObj_own T.hd hno rfl (by rw [e1, hu])) (handed_of ru) ⟨v, H1, I1.tok _, ru, q⟩
end
/-- behind a statement the slots are as many as before -/
theorem pss_len {X : Cx} {sts : List Stmt} {t : TS} (h : PSs X sts t) : PSs X sts (fun D σ H => σ.length = X.N.length → t D σ H) :=
  ⟨fun pins s σ H D I q => h.run pins s σ H D I (q I.len)⟩
/-- a def by its body, its code object named -/
theorem okC {P : Program} {w : World} {K : PySem.W.Frag} {mg : Str → Option Value} {base : Heap} {x qual : Str} {st : Stmt} {f c : Addr} {oc : Value} {od an : Option Addr} {osl : Array (Option Value)} {kV doc pm ct : Value} {N ps : List Str} {k : Nat} {sp : Sp}
    (lk : K.lookup f = some ⟨oc, od, .func (PySem.W.fnOf x qual (defArgs st) (defBody st) (defScope st) .none kV doc pm an (.ref c) ct), osl⟩) (hcd : PySem.W.codeIn K (.ref c) qual = true) (S : FnScope N ps (defScope st))
    (len : ∀ {vs H Q E}, sp vs H Q E → vs.length = ps.length)
    (body : ∀ {A : Around} {outer : List Env} {s : Shared} {H : Hp} {vs : List V} {Q : VK} {E : XK}, Room k (A.deeper (envOfC qual (defScope st) s.heap.objs.size f (.ref c))) → sp vs H Q E →
      ∃ t, PSs (cxOf CX0 P w K mg base N qual (defScope st) f (.ref c) A outer s H E).nox (defBody st) t ∧ t { nx := fun _ H' => Q .non H', rt := Q } (start N vs) H) :
    FnOk P w K mg base CX0 (k + 1) f (PySem.W.fnOf x qual (defArgs st) (defBody st) (defScope st) .none kV doc pm an (.ref c) ct) ps sp := by
  refine fn_of lk hcd S (fun _ _ _ _ h => len h) fun A outer s H vs Q E hr h => ?_
  obtain ⟨t, h1, h2⟩ := body (outer := outer) hr h
  exact ⟨t, h1.nox, h2⟩
/-! what stays when tables grow -/
theorem ExtN.pen {H H' : Hp} {p l : Addr} {n : Nat} (e : LamX.ExtN H H') (h : PenL H p l n) : PenL H' p l n := by
  obtain ⟨cs, a, r, f, h1, h2, h3⟩ := h
  exact ⟨cs, a, r, f, e _ _ h1 (fun ps q => nomatch q), e _ _ h2 (fun ps q => nomatch q), h3⟩
end Fb
set_option maxRecDepth 100000
set_option maxHeartbeats 4000000
namespace Fb
open PySem PySem.Spec PyProof.Rows L2
/-! max and min of two texts -/
section
variable {prog : Program} {w : World} {A : Around}
theorem strs_gt {P : Nat → Value → Prop} (val : Nat → Str) (hval : ∀ i v, P i v → ∃ t, v = .str (val i) t) :
    CmpOf prog w A .Gt P (fun i j => decide ((val j).cps.toList < (val i).cps.toList)) := fun i j vi vj s Q E hi hj h => by
  obtain ⟨t, rfl⟩ := hval i vi hi
  obtain ⟨u, rfl⟩ := hval j vj hj
  have q := PySem.P.gt_str (x := val i) (y := val j) (t := t) (u := u) (A := A) (E := E) (prog := prog) (w := w) (s := s) (Q := Q) h
  unfold compareOp at q
  exact q
theorem strs_lt {P : Nat → Value → Prop} (val : Nat → Str) (hval : ∀ i v, P i v → ∃ t, v = .str (val i) t) :
    CmpOf prog w A .Lt P (fun i j => decide ((val i).cps.toList < (val j).cps.toList)) := fun i j vi vj s Q E hi hj h => by
  obtain ⟨t, rfl⟩ := hval i vi hi
  obtain ⟨u, rfl⟩ := hval j vj hj
  have q := PySem.P.lt_str (x := val i) (y := val j) (t := t) (u := u) (A := A) (E := E) (prog := prog) (w := w) (s := s) (Q := Q) h
  unfold compareOp at q
  exact q
variable {E : Value → Shared → Prop} {s : Shared}
def two (a b : Str) (i : Nat) : Str := if i = 0 then a else b
theorem two_at {a b : Str} {t u : Tok} (i : Nat) (v : Value) (h : (#[Value.str a t, Value.str b u])[i]? = some v) : ∃ t, v = .str (two a b i) t := by
  match i, h with
  | 0, h => exact ⟨t, by simpa [two] using h.symm⟩
  | 1, h => exact ⟨u, by simpa [two] using h.symm⟩
  | i + 2, h => simp at h
theorem two_walk {a b : Str} {t u : Tok} {h' : Heap} (hsz : (s.heap.push { cls := .type "tuple", data := .seq #[.str a t, .str b u] }).objs.size = s.heap.objs.size + 1)
    (hk : ∀ c o, c ∉ [s.heap.objs.size + 1] → ((s.heap.push { cls := .type "tuple", data := .seq #[.str a t, .str b u] }).push { cls := .type "tuple_iterator", data := .fields #[.ref s.heap.objs.size, .int 0 0] }).get? c = some o → h'.get? c = some o) :
    ∀ c o, s.heap.get? c = some o → h'.get? c = some o := fun c o e => by
  refine hk c o (fun hm => ?_) (Heap.get?_push_of_some _ (Heap.get?_push_of_some _ e))
  rcases List.mem_cons.mp hm with e1 | hm
  · have := Heap.lt_size e; rw [e1] at this; exact Nat.lt_irrefl _ (Nat.lt_of_succ_lt this)
  · cases hm
theorem max_two_strs {a b : Str} {t u : Tok} {Q : Value → Shared → Prop} (hh : A.handled = none)
    (h : ∀ h' tk, (∀ c o, s.heap.get? c = some o → h'.get? c = some o) → Q (if a.cps.toList < b.cps.toList then .str b u else .str a t) { s with heap := h', toks := tk }) :
    wpAny (model prog w) A (call (.builtin "max") [.str a t, .str b u]) Q E s := by
  have hT : (s.heap.push { cls := .type "tuple", data := .seq #[.str a t, .str b u] }).IsTuple s.heap.objs.size #[.str a t, .str b u] := ⟨_, Heap.get?_push_size _ rfl, rfl, 0, rfl⟩
  refine call_max_two (wpAny_pyIter_tuple hT ?_)
  have hsz : (s.heap.push { cls := .type "tuple", data := .seq #[.str a t, .str b u] }).objs.size = s.heap.objs.size + 1 := Heap.size_push ..
  refine ⟨_, [_, s.heap.objs.size], [_], _, _, _, _, rfl, Walks.tuple (A := A.in1) hh _ s.heap.objs.size (by rw [hsz]; exact Nat.ne_of_lt (Nat.lt_succ_self _)) #[.str a t, .str b u],
    ⟨⟨_, Heap.get?_push_size _ rfl, rfl, rfl⟩, hT.push _⟩, fun c hc => ?_, by simp, strs_gt (two a b) two_at, fun v h' tk hP hk => ?_⟩
  · show c < ((s.heap.push _).push _).objs.size
    rw [Heap.size_push, hsz]
    rcases List.mem_cons.mp hc with rfl | hc
    · rw [hsz]; exact Nat.lt_succ_self _
    · rcases List.mem_cons.mp hc with rfl | hc
      · exact Nat.lt_succ_of_lt (Nat.lt_succ_self _)
      · cases hc
  · have hold : ∀ c o, s.heap.get? c = some o → h'.get? c = some o := fun c o e => by
      refine hk c o (fun hm => ?_) (Heap.get?_push_of_some _ (Heap.get?_push_of_some _ e))
      rcases List.mem_cons.mp hm with e1 | hm
      · have := Heap.lt_size e; rw [e1, hsz] at this; exact Nat.lt_irrefl _ (Nat.lt_of_succ_lt this)
      · cases hm
    have := h h' tk hold
    have hv : v = if a.cps.toList < b.cps.toList then Value.str b u else Value.str a t := by
      have hP' : (#[Value.str a t, Value.str b u])[argBest (fun i j => decide ((two a b j).cps.toList < (two a b i).cps.toList)) 1]? = some v := hP
      by_cases hba : a.cps.toList < b.cps.toList
      · have e : argBest (fun i j => decide ((two a b j).cps.toList < (two a b i).cps.toList)) 1 = 1 := by simp [argBest, two, hba]
        rw [e] at hP'
        simpa [hba] using hP'.symm
      · have e : argBest (fun i j => decide ((two a b j).cps.toList < (two a b i).cps.toList)) 1 = 0 := by simp [argBest, two, hba]
        rw [e] at hP'
        simpa [hba] using hP'.symm
    rw [hv]; exact this
theorem min_two_strs {a b : Str} {t u : Tok} {Q : Value → Shared → Prop} (hh : A.handled = none)
    (h : ∀ h' tk, (∀ c o, s.heap.get? c = some o → h'.get? c = some o) → Q (if b.cps.toList < a.cps.toList then .str b u else .str a t) { s with heap := h', toks := tk }) :
    wpAny (model prog w) A (call (.builtin "min") [.str a t, .str b u]) Q E s := by
  have hT : (s.heap.push { cls := .type "tuple", data := .seq #[.str a t, .str b u] }).IsTuple s.heap.objs.size #[.str a t, .str b u] := ⟨_, Heap.get?_push_size _ rfl, rfl, 0, rfl⟩
  refine call_min_two (wpAny_pyIter_tuple hT ?_)
  have hsz : (s.heap.push { cls := .type "tuple", data := .seq #[.str a t, .str b u] }).objs.size = s.heap.objs.size + 1 := Heap.size_push ..
  refine ⟨_, [_, s.heap.objs.size], [_], _, _, _, _, rfl, Walks.tuple (A := A.in1) hh _ s.heap.objs.size (by rw [hsz]; exact Nat.ne_of_lt (Nat.lt_succ_self _)) #[.str a t, .str b u],
    ⟨⟨_, Heap.get?_push_size _ rfl, rfl, rfl⟩, hT.push _⟩, fun c hc => ?_, by simp, strs_lt (two a b) two_at, fun v h' tk hP hk => ?_⟩
  · show c < ((s.heap.push _).push _).objs.size
    rw [Heap.size_push, hsz]
    rcases List.mem_cons.mp hc with rfl | hc
    · rw [hsz]; exact Nat.lt_succ_self _
    · rcases List.mem_cons.mp hc with rfl | hc
      · exact Nat.lt_succ_of_lt (Nat.lt_succ_self _)
      · cases hc
  · have hold : ∀ c o, s.heap.get? c = some o → h'.get? c = some o := fun c o e => by
      refine hk c o (fun hm => ?_) (Heap.get?_push_of_some _ (Heap.get?_push_of_some _ e))
      rcases List.mem_cons.mp hm with e1 | hm
      · have := Heap.lt_size e; rw [e1, hsz] at this; exact Nat.lt_irrefl _ (Nat.lt_of_succ_lt this)
      · cases hm
    have := h h' tk hold
    have hv : v = if b.cps.toList < a.cps.toList then Value.str b u else Value.str a t := by
      have hP' : (#[Value.str a t, Value.str b u])[argBest (fun i j => decide ((two a b i).cps.toList < (two a b j).cps.toList)) 1]? = some v := hP
      by_cases hba : b.cps.toList < a.cps.toList
      · have e : argBest (fun i j => decide ((two a b i).cps.toList < (two a b j).cps.toList)) 1 = 1 := by simp [argBest, two, hba]
        rw [e] at hP'
        simpa [hba] using hP'.symm
      · have e : argBest (fun i j => decide ((two a b i).cps.toList < (two a b j).cps.toList)) 1 = 0 := by simp [argBest, two, hba]
        rw [e] at hP'
        simpa [hba] using hP'.symm
    rw [hv]; exact this
end
section
variable {X : Cx}
theorem call_maxS (hc : X.calm = true) : CallR X (.builtin "max") (fun xs H Q => ∃ i j : Str, xs = [.str i, .str j] ∧ Q (.str (if i.cps.toList < j.cps.toList then j else i)) H) := by
  intro pins s σ H xs us Q I r h
  obtain ⟨i, j, rfl, q⟩ := h
  obtain ⟨u, w', rfl, ⟨t, rfl⟩, ⟨t', rfl⟩⟩ := vals2 r
  refine max_two_strs (I.ok.hd hc) fun h' tk k => ⟨_, H, I.kept k, ?_, q⟩
  by_cases hj : i.cps.toList < j.cps.toList
  · rw [if_pos hj, if_pos hj]; exact ⟨_, rfl⟩
  · rw [if_neg hj, if_neg hj]; exact ⟨_, rfl⟩
theorem call_minS (hc : X.calm = true) : CallR X (.builtin "min") (fun xs H Q => ∃ i j : Str, xs = [.str i, .str j] ∧ Q (.str (if j.cps.toList < i.cps.toList then j else i)) H) := by
  intro pins s σ H xs us Q I r h
  obtain ⟨i, j, rfl, q⟩ := h
  obtain ⟨u, w', rfl, ⟨t, rfl⟩, ⟨t', rfl⟩⟩ := vals2 r
  refine min_two_strs (I.ok.hd hc) fun h' tk k => ⟨_, H, I.kept k, ?_, q⟩
  by_cases hj : j.cps.toList < i.cps.toList
  · rw [if_pos hj, if_pos hj]; exact ⟨_, rfl⟩
  · rw [if_neg hj, if_neg hj]; exact ⟨_, rfl⟩
end
/-! a sign, so often -/
theorem fold_sign (c : Nat) : ∀ (k : Nat) (acc : Array Nat), (List.replicate k (#[c] : Array Nat)).foldl (· ++ ·) acc = acc ++ (List.replicate k c).toArray
  | 0, acc => by simp
  | k + 1, acc => by
    rw [List.replicate_succ, List.foldl_cons, fold_sign c k, List.replicate_succ]
    apply Array.toList_inj.mp
    simp
theorem op_repS {X : Cx} : OpR X (binaryOp .Mult) (fun x y H Q => ∃ (c k : Nat), x = .str (SX.S [c]) ∧ y = .int (k : Nat) ∧ k ≤ 100000 ∧ Q (.str (SX.S (List.replicate k c))) H) := by
  intro pins s σ H x y v u Q I rx ry h
  obtain ⟨c, k, rfl, rfl, hk, q⟩ := h
  obtain ⟨t, rfl⟩ := rx
  obtain ⟨t', rfl⟩ := ry
  have l1 : (SX.S [c]).length = 1 := rfl
  refine PySem.P.mul_str ?_ ?_ ?_ ?_
  · rw [decide_eq_false (by omega), decide_eq_false (by omega)] <;> rfl
  · intro h1 h2
    rw [l1]
    have hk1 : 1 ≤ k := by omega
    intro h3
    have h5 : (1 : Int) ≤ (2 ^ 63 - 1) / (k : Int) := Int.le_ediv_of_mul_le (by omega) (by omega)
    omega
  · intro _ _
    rw [l1]
    exact decide_eq_false (by show ¬ (1 * ((k : Int)).toNat > sizeLine); rw [sizeLine_eq, show ((k : Int)).toNat = k from rfl]; omega)
  · by_cases h0 : (k : Int) < 1
    · rw [if_pos h0]
      have e : k = 0 := by omega
      subst e
      exact ⟨by decide, .str _, H, I.tok _, ⟨_, rfl⟩, q⟩
    · rw [if_neg h0]
      by_cases h1 : k = 1
      · subst h1
        rw [if_pos (by rfl)]
        exact ⟨.str _, H, I, ⟨_, rfl⟩, q⟩
      · have e1 : (((k : Int) == 1) || (SX.S [c]).length == 0) = false := by
          rw [l1]
          simp
          omega
        rw [if_neg (by rw [e1]; exact Bool.false_ne_true)]
        have e2 : (List.replicate ((k : Int)).toNat (SX.S [c]).cps).foldl (· ++ ·) #[] = (List.replicate k c).toArray := by
          have := fold_sign c k #[]
          rw [show ((k : Int)).toNat = k from rfl]
          show (List.replicate k (#[c] : Array Nat)).foldl (· ++ ·) #[] = _
          rw [this]
          simp
        rw [e2]
        refine ⟨?_, .str _, H, I.tok _, ⟨_, rfl⟩, q⟩
        show (SX.S (List.replicate k c)).length ≤ sizeLine
        rw [SX.S_len, List.length_replicate, sizeLine_eq]
        omega
end Fb
set_option maxRecDepth 100000
set_option maxHeartbeats 4000000
namespace Fb
open PySem PySem.Spec PyProof.Rows L2
open SX (S)
/-! the bits of a pattern, and where they stand -/
/-- signs without the dots -/
abbrev bt (l : List Nat) : List Nat := l.filter (fun c => c != 46)
def plc (l : List Nat) : List Nat := (List.range l.length).filter (fun i => l.getD i 0 != 46)
theorem plc_nil : plc [] = [] := rfl
theorem plc_dot (l : List Nat) : plc (46 :: l) = (plc l).map (· + 1) := by
  unfold plc
  rw [List.length_cons, List.range_succ_eq_map, List.filter_cons_of_neg (by simp), List.filter_map]
  rfl
theorem plc_bit {c : Nat} (l : List Nat) (h : c ≠ 46) : plc (c :: l) = 0 :: (plc l).map (· + 1) := by
  unfold plc
  rw [List.length_cons, List.range_succ_eq_map, List.filter_cons_of_pos (by simpa using h), List.filter_map]
  rfl
theorem plc_len : ∀ l : List Nat, (plc l).length = (bt l).length
  | [] => rfl
  | c :: l => by
    by_cases h : c = 46
    · subst h
      rw [plc_dot, List.length_map, plc_len l]
      simp
    · rw [plc_bit l h, List.length_cons, List.length_map, plc_len l]
      simp [h]
theorem plc_lt {l : List Nat} {i : Nat} (h : i ∈ plc l) : i < l.length := by
  unfold plc at h
  exact List.mem_range.mp (List.mem_filter.mp h).1
theorem plc_set : ∀ {l : List Nat} {b x : Nat}, x ≠ 46 → b < (bt l).length →
    bt (l.set ((plc l).getD b 0) x) = (bt l).set b x ∧ plc (l.set ((plc l).getD b 0) x) = plc l ∧ (∀ n, szA n (l.set ((plc l).getD b 0) x) = szA n l)
  | [], b, x, _, h => by simp at h
  | c :: l, b, x, hx, h => by
    by_cases e : c = 46
    · subst e
      have hb : b < (bt l).length := by simpa using h
      obtain ⟨h1, h2, h3⟩ := plc_set (l := l) hx hb
      have hb2 : b < (plc l).length := by rw [plc_len]; exact hb
      have g : (plc (46 :: l)).getD b 0 = (plc l).getD b 0 + 1 := by
        rw [plc_dot, List.getD_eq_getElem?_getD, List.getElem?_map, List.getElem?_eq_getElem hb2, List.getD_eq_getElem?_getD, List.getElem?_eq_getElem hb2]
        rfl
      rw [g, List.set_cons_succ]
      refine ⟨?_, ?_, fun n => ?_⟩
      · have : bt (46 :: l.set ((plc l).getD b 0) x) = bt (l.set ((plc l).getD b 0) x) := by simp
        rw [this, h1]
        simp
      · rw [plc_dot, plc_dot, h2]
      · show n :: szA 0 _ = n :: szA 0 _
        rw [h3]
    · cases b with
      | zero =>
        have g : (plc (c :: l)).getD 0 0 = 0 := by rw [plc_bit l e] <;> rfl
        rw [g, List.set_cons_zero]
        refine ⟨by simp [e, hx], by rw [plc_bit l e, plc_bit l hx], fun n => ?_⟩
        show (if x = 46 then _ else szA (n + 1) l) = (if c = 46 then _ else szA (n + 1) l)
        rw [if_neg hx, if_neg e]
      | succ b =>
        have hb : b < (bt l).length := by
          have : (bt (c :: l)).length = (bt l).length + 1 := by simp [e]
          omega
        obtain ⟨h1, h2, h3⟩ := plc_set (l := l) hx hb
        have hb2 : b < (plc l).length := by rw [plc_len]; exact hb
        have g : (plc (c :: l)).getD (b + 1) 0 = (plc l).getD b 0 + 1 := by
          rw [plc_bit l e, List.getD_eq_getElem?_getD, List.getElem?_cons_succ, List.getElem?_map, List.getElem?_eq_getElem hb2, List.getD_eq_getElem?_getD, List.getElem?_eq_getElem hb2]
          rfl
        rw [g, List.set_cons_succ]
        refine ⟨?_, ?_, fun n => ?_⟩
        · have e1 : bt (c :: l.set ((plc l).getD b 0) x) = c :: bt (l.set ((plc l).getD b 0) x) := by simp [e]
          have e2 : bt (c :: l) = c :: bt l := by simp [e]
          rw [e1, h1, e2, List.set_cons_succ]
        · rw [plc_bit _ e, plc_bit _ e, h2]
        · show (if c = 46 then _ else szA (n + 1) _) = (if c = 46 then _ else szA (n + 1) l)
          rw [if_neg e, if_neg e, h3]
theorem sg_set {l : List Nat} {i x : Nat} (h : Sg l) (hx : x = 48 ∨ x = 49 ∨ x = 46) : Sg (l.set i x) := fun c hc => by
  rcases List.mem_or_eq_of_mem_set hc with q | q
  · exact h c q
  · rw [q]; exact hx
/-- bits set to x, one behind the other -/
def fl (x : Nat) (l bs : List Nat) : List Nat := bs.foldl (fun m b => m.set ((plc l).getD b 0) x) l
def flB (x : Nat) (b bs : List Nat) : List Nat := bs.foldl (fun m i => m.set i x) b
theorem flB_len (x : Nat) : ∀ (bs b : List Nat), (flB x b bs).length = b.length
  | [], b => rfl
  | i :: bs, b => by
    show (flB x (b.set i x) bs).length = _
    rw [flB_len x bs, List.length_set]
theorem fl_go {x : Nat} (hx : x = 48 ∨ x = 49) : ∀ {bs m p : List Nat}, plc m = p → (∀ b ∈ bs, b < (bt m).length) →
    bt (bs.foldl (fun m b => m.set (p.getD b 0) x) m) = flB x (bt m) bs ∧ szs (bs.foldl (fun m b => m.set (p.getD b 0) x) m) = szs m ∧ (Sg m → Sg (bs.foldl (fun m b => m.set (p.getD b 0) x) m))
      ∧ (bs.foldl (fun m b => m.set (p.getD b 0) x) m).length = m.length
  | [], m, p, _, _ => ⟨rfl, rfl, fun h => h, rfl⟩
  | b :: bs, m, p, hp, h => by
    subst hp
    have x46 : x ≠ 46 := by omega
    obtain ⟨h1, h2, h3⟩ := plc_set (l := m) (b := b) x46 (h b List.mem_cons_self)
    have hb : ∀ c ∈ bs, c < (bt (m.set ((plc m).getD b 0) x)).length := fun c hc => by
      rw [h1, List.length_set]
      exact h c (List.mem_cons_of_mem _ hc)
    obtain ⟨g1, g2, g3, g4⟩ := fl_go hx (bs := bs) h2 hb
    rw [List.foldl_cons]
    refine ⟨?_, ?_, fun q => g3 (sg_set q (by omega)), by rw [g4, List.length_set]⟩
    · rw [g1, h1]
      rfl
    · rw [g2]
      exact h3 0
theorem fl_ok {x : Nat} {l bs : List Nat} (hx : x = 48 ∨ x = 49) (h : ∀ b ∈ bs, b < (bt l).length) : bt (fl x l bs) = flB x (bt l) bs ∧ szs (fl x l bs) = szs l ∧ (Sg l → Sg (fl x l bs)) ∧ (fl x l bs).length = l.length := fl_go hx rfl h
/-! a pattern by its sizes and its bits -/
def cut : List Nat → List Nat → List (List Nat)
  | [], _ => []
  | s :: ss, b => b.take s :: cut ss (b.drop s)
def jn (ss b : List Nat) : List Nat := TL.joinL [46] (cut ss b)
theorem cut_len : ∀ (ss b : List Nat), (cut ss b).length = ss.length
  | [], b => rfl
  | s :: ss, b => by
    show (cut ss _).length + 1 = _
    rw [cut_len ss]
    rfl
theorem cut_lens : ∀ {ss b : List Nat}, ss.sum ≤ b.length → (cut ss b).map List.length = ss
  | [], b, _ => rfl
  | s :: ss, b, h => by
    rw [List.sum_cons] at h
    show (b.take s).length :: (cut ss (b.drop s)).map List.length = _
    rw [cut_lens (by rw [List.length_drop]; omega), List.length_take]
    congr 1
    omega
theorem cut_mem : ∀ {ss b p : List Nat} {c : Nat}, p ∈ cut ss b → c ∈ p → c ∈ b
  | [], b, p, c, h, _ => by simp [cut] at h
  | s :: ss, b, p, c, h, hc => by
    rcases List.mem_cons.mp h with q | q
    · subst q
      exact List.mem_of_mem_take hc
    · exact List.mem_of_mem_drop (cut_mem q hc)
theorem cut_flat : ∀ {ss b : List Nat}, ss.sum = b.length → (cut ss b).flatten = b
  | [], b, h => by
    have : b = [] := List.length_eq_zero_iff.mp (by simpa using h.symm)
    rw [this]
    rfl
  | s :: ss, b, h => by
    rw [List.sum_cons] at h
    show (b.take s ++ (cut ss (b.drop s)).flatten) = b
    rw [cut_flat (by rw [List.length_drop]; omega), List.take_append_drop]
theorem bt_plain : ∀ {b : List Nat}, (∀ c ∈ b, c = 48 ∨ c = 49) → bt b = b := fun {b} h =>
  List.filter_eq_self.mpr fun c hc => by
    have := h c hc
    simp
    omega
theorem bt_join : ∀ {bs : List (List Nat)}, (∀ b ∈ bs, ∀ c ∈ b, c = 48 ∨ c = 49) → bt (TL.joinL [46] bs) = bs.flatten
  | [], _ => rfl
  | [b], h => by
    show bt b = [b].flatten
    rw [bt_plain (h b List.mem_cons_self)]
    simp
  | b :: d :: r, h => by
    have ih := bt_join (bs := d :: r) fun x hx => h x (List.mem_cons_of_mem _ hx)
    have e : TL.joinL [46] (b :: d :: r) = b ++ ([46] ++ TL.joinL [46] (d :: r)) := rfl
    rw [e, List.flatten_cons, ← ih]
    show List.filter _ (b ++ ([46] ++ _)) = _
    rw [List.filter_append, List.filter_append]
    have q := bt_plain (h b List.mem_cons_self)
    show bt b ++ ([] ++ _) = _
    rw [q]
    rfl
def Bits (b : List Nat) : Prop := ∀ c ∈ b, c = 48 ∨ c = 49
theorem Bits.bt {l : List Nat} (h : Sg l) : Bits (Fb.bt l) := fun c hc => by
  have h1 := List.mem_filter.mp hc
  have h2 := h c h1.1
  have h3 : ¬ c = 46 := by simpa using h1.2
  omega
theorem jn_sg {ss b : List Nat} (h : Bits b) : Sg (jn ss b) := sg_join fun p hp c hc => h c (cut_mem hp hc)
theorem jn_sz {ss b : List Nat} (h : Bits b) (hs : ss.sum ≤ b.length) (ne : ss ≠ []) : szs (jn ss b) = ss := by
  unfold jn
  rw [szs_join (fun e => ne (by have := congrArg List.length e; rw [cut_len] at this; exact List.length_eq_zero_iff.mp this)) (fun p hp c hc => h c (cut_mem hp hc)), cut_lens hs]
theorem jn_bt {ss b : List Nat} (h : Bits b) (hs : ss.sum = b.length) : bt (jn ss b) = b := by
  unfold jn
  rw [bt_join (fun p hp c hc => h c (cut_mem hp hc)), cut_flat hs]
theorem jn_go : ∀ (l : List Nat) (n : Nat) (pre : List Nat), pre.length = n → jn (szA n l) (pre ++ bt l) = pre ++ l
  | [], n, pre, h => by
    show TL.joinL [46] [(pre ++ []).take n] = pre ++ []
    rw [List.append_nil, ← h, List.take_length]
    rfl
  | c :: l, n, pre, h => by
    by_cases e : c = 46
    · subst e
      have ih := jn_go l 0 [] rfl
      have es : szA n (46 :: l) = n :: szA 0 l := rfl
      have eb : bt (46 :: l) = bt l := by simp
      rw [es, eb]
      unfold jn at *
      show TL.joinL [46] ((pre ++ bt l).take n :: cut (szA 0 l) ((pre ++ bt l).drop n)) = _
      rw [← h, List.take_left', List.drop_left']
      · rw [List.nil_append] at ih
        cases q : cut (szA 0 l) (bt l) with
        | nil =>
          have h1 := congrArg List.length q
          rw [cut_len] at h1
          have h2 := (szA_len l 0).1
          simp at h1
          rw [h1] at h2
          simp at h2
        | cons d r =>
          rw [q] at ih
          have e2 : TL.joinL [46] (pre :: d :: r) = pre ++ ([46] ++ TL.joinL [46] (d :: r)) := rfl
          rw [e2, ih]
          rfl
      · rfl
      · rfl
    · have ih := jn_go l (n + 1) (pre ++ [c]) (by rw [List.length_append, h] <;> rfl)
      have es : szA n (c :: l) = szA (n + 1) l := by
        show (if c = 46 then _ else _) = _
        rw [if_neg e]
      have eb : bt (c :: l) = c :: bt l := by simp [e]
      rw [es, eb]
      rw [List.append_assoc, List.append_assoc] at ih
      exact ih
theorem jn_of (l : List Nat) : jn (szs l) (bt l) = l := by
  have h := jn_go l 0 [] rfl
  exact h
/-- two patterns of the same sizes and bits are the same -/
theorem pat_ext {l m : List Nat} (h1 : szs l = szs m) (h2 : bt l = bt m) : l = m := by
  rw [← jn_of l, ← jn_of m, h1, h2]
theorem IsP.bits {l : List Nat} (h : IsP l) : Bits (bt l) := Bits.bt h.sg
theorem bt_sum (l : List Nat) : (bt l).length = (szs l).sum := by
  have h := szA_sum l 0
  rw [Nat.zero_add] at h
  exact h.symm
theorem isP_jn {l b : List Nat} (h : IsP l) (hb : Bits b) (hl : b.length = (bt l).length) : IsP (jn (szs l) b) ∧ szs (jn (szs l) b) = szs l ∧ bt (jn (szs l) b) = b := by
  have e := bt_sum l
  have ne : szs l ≠ [] := fun q => by
    have h2 := (szA_len l 0).1
    unfold szs at q
    rw [q] at h2
    simp at h2
  have z := jn_sz (ss := szs l) hb (by omega) ne
  have t := jn_bt (ss := szs l) hb (by omega)
  refine ⟨⟨jn_sg hb, by rw [z]; exact h.one, by rw [z]; exact h.few, ?_⟩, z, t⟩
  show (bt (jn (szs l) b)).length ≤ 120
  rw [t, hl]
  exact h.sum
theorem isP_fl {l bs : List Nat} {x : Nat} (h : IsP l) (hx : x = 48 ∨ x = 49) (hb : ∀ b ∈ bs, b < (bt l).length) : IsP (fl x l bs) ∧ szs (fl x l bs) = szs l ∧ bt (fl x l bs) = flB x (bt l) bs := by
  obtain ⟨h1, h2, h3, h4⟩ := fl_ok (l := l) hx hb
  refine ⟨⟨h3 h.sg, by rw [h2]; exact h.one, by rw [h2]; exact h.few, ?_⟩, h2, h1⟩
  show (bt _).length ≤ 120
  rw [h1, flB_len]
  exact h.sum
theorem flB_bits {x : Nat} (hx : x = 48 ∨ x = 49) : ∀ {bs b : List Nat}, Bits b → Bits (flB x b bs)
  | [], b, h => h
  | i :: bs, b, h => flB_bits hx (bs := bs) (b := b.set i x) fun c hc => by
    rcases List.mem_or_eq_of_mem_set hc with q | q
    · exact h c q
    · rw [q]; exact hx
theorem le_sum : ∀ {l : List Nat} {n : Nat}, n ∈ l → n ≤ l.sum
  | [], n, h => by simp at h
  | a :: l, n, h => by
    rw [List.sum_cons]
    rcases List.mem_cons.mp h with q | q
    · omega
    · have := le_sum q
      omega
/-! a block set -/
def upB (x f s : Nat) (b : List Nat) : List Nat := b.take f ++ List.replicate s x ++ b.drop (f + s)
theorem upB_go {x f : Nat} {b : List Nat} : ∀ s, f + s ≤ b.length → (List.range s).foldl (fun m j => m.set (f + j) x) b = upB x f s b
  | 0, h => by
    unfold upB
    simp
  | s + 1, h => by
    rw [List.range_succ, List.foldl_append, upB_go s (by omega), List.foldl_cons, List.foldl_nil]
    unfold upB
    have e : b.drop (f + s) = b[f + s]'(by omega) :: b.drop (f + s + 1) := List.drop_eq_getElem_cons (by omega)
    have l1 : (b.take f ++ List.replicate s x).length = f + s := by
      rw [List.length_append, List.length_take, List.length_replicate]
      omega
    rw [List.set_append_right _ _ (by omega), l1, Nat.sub_self, e, List.set_cons_zero, List.replicate_succ', ← Nat.add_assoc]
    simp
theorem upB_len {x f s : Nat} {b : List Nat} (h : f + s ≤ b.length) : (upB x f s b).length = b.length := by
  unfold upB
  rw [List.length_append, List.length_append, List.length_take, List.length_replicate, List.length_drop]
  omega
theorem upB_bits {x f s : Nat} {b : List Nat} (hx : x = 48 ∨ x = 49) (h : Bits b) : Bits (upB x f s b) := fun c hc => by
  unfold upB at hc
  rcases List.mem_append.mp hc with q | q
  · rcases List.mem_append.mp q with r | r
    · exact h c (List.mem_of_mem_take r)
    · rw [(List.mem_replicate.mp r).2]; exact hx
  · exact h c (List.mem_of_mem_drop q)
theorem cut_set {x : Nat} : ∀ {ss : List Nat} {b : List Nat} {k s : Nat}, ss[k]? = some s → ss.sum ≤ b.length → (cut ss b).set k (List.replicate s x) = cut ss (upB x (ss.take k).sum s b)
  | [], b, k, s, h, _ => by simp at h
  | t :: ss, b, 0, s, h, hl => by
    rw [List.sum_cons] at hl
    have e : t = s := by simpa using h
    subst e
    show List.replicate t x :: cut ss (b.drop t) = (upB x 0 t b).take t :: cut ss ((upB x 0 t b).drop t)
    unfold upB
    rw [List.take_zero, List.nil_append, Nat.zero_add, List.take_left' (by simp), List.drop_left' (by simp)]
  | t :: ss, b, k + 1, s, h, hl => by
    rw [List.sum_cons] at hl
    have h' : ss[k]? = some s := by simpa using h
    have ih := cut_set (x := x) (b := b.drop t) h' (by rw [List.length_drop]; omega)
    have hk : (ss.take k).sum + s ≤ ss.sum := by
      have e := List.take_append_drop k ss
      have e2 : ss.drop k = s :: ss.drop (k + 1) := by
        have hk := (List.getElem?_eq_some_iff.mp h').1
        rw [List.drop_eq_getElem_cons hk]
        congr 1
        exact (List.getElem?_eq_some_iff.mp h').2
      have e3 := congrArg List.sum e
      rw [List.sum_append, e2, List.sum_cons] at e3
      omega
    show b.take t :: (cut ss (b.drop t)).set k _ = (upB x (t + (ss.take k).sum) s b).take t :: cut ss ((upB x (t + (ss.take k).sum) s b).drop t)
    rw [ih]
    have lt : (b.take t).length = t := by rw [List.length_take]; omega
    have e : upB x (t + (ss.take k).sum) s b = b.take t ++ upB x (ss.take k).sum s (b.drop t) := by
      unfold upB
      rw [List.take_add, List.drop_drop, Nat.add_assoc]
      simp
    rw [e, List.take_left' lt, List.drop_left' lt]
/-- the parts of a pattern -/
theorem spl_cut (l : List Nat) : ∀ acc, TL.spl [46] 0 acc l = cut (szA acc.length l) (acc ++ bt l) := by
  induction l with
  | nil =>
    intro acc
    rw [TL.spl_nil]
    show [acc] = [(acc ++ []).take acc.length]
    rw [List.append_nil, List.take_length]
  | cons c l ih =>
    intro acc
    by_cases e : c = 46
    · subst e
      have hp : TL.pre [46] (46 :: l) = true := TL.pre_self [46] l
      rw [TL.spl_hit hp]
      have eb : bt (46 :: l) = bt l := by simp
      rw [eb]
      show acc :: TL.spl [46] 0 [] l = (acc ++ bt l).take acc.length :: cut (szA 0 l) ((acc ++ bt l).drop acc.length)
      rw [List.take_left' rfl, List.drop_left' rfl, ih []]
      rfl
    · have hp : TL.pre [46] (c :: l) = false := TL.pre_of_head _ _ fun q => e q
      rw [TL.spl_miss hp, ih (acc ++ [c])]
      have eb : bt (c :: l) = c :: bt l := by simp [e]
      have es : szA acc.length (c :: l) = szA (acc.length + 1) l := by
        show (if c = 46 then _ else _) = _
        rw [if_neg e]
      rw [eb, es, List.length_append, List.append_assoc]
      rfl
theorem split_cut (l : List Nat) : Txt.split (S l) "." = (cut (szs l) (bt l)).map S := by
  have e : ((".":Str)) = S [46] := by decide +kernel
  rw [e, SX.split_S (by simp) (by decide), spl_cut l []]
  rfl
theorem join_cut (bs : List (List Nat)) : Txt.join "." (bs.map S) = S (TL.joinL [46] bs) := by
  have e : ((".":Str)) = S [46] := by decide +kernel
  rw [e]
  exact SX.join_S [46] bs
theorem cut_rep : ∀ (ss : List Nat) (N x : Nat), ss.sum ≤ N → cut ss (List.replicate N x) = ss.map fun s => List.replicate s x
  | [], N, x, h => rfl
  | s :: ss, N, x, h => by
    rw [List.sum_cons] at h
    show (List.replicate N x).take s :: cut ss ((List.replicate N x).drop s) = _
    rw [List.take_replicate, List.drop_replicate, cut_rep ss (N - s) x (by omega), Nat.min_eq_left (by omega)]
    rfl
end Fb
set_option maxRecDepth 100000
set_option maxHeartbeats 4000000
namespace Fb
open PySem PySem.Spec PyProof.Rows L2
theorem ixN_at {n j : Nat} (hj : j < n) : ixN n (j : Int) = some j := by
  unfold ixN
  rw [if_pos (by omega), if_pos (by omega)]
  simp
theorem countIn_signs (c : Nat) : ∀ l : List Nat, countIn (.str ⟨#[c]⟩) (l.map fun n => PyData.str ⟨#[n]⟩) = ((l.count c : Nat) : Int)
  | [] => by simp [countIn]
  | n :: l => by
    rw [List.map_cons, countIn, countIn_signs c l, List.count_cons]
    by_cases h : n = c
    · subst h
      simp [same]
      omega
    · have e : same (PyData.str ⟨#[n]⟩) (.str ⟨#[c]⟩) = false := by
        simp [same]
        exact h
      rw [e]
      simp [h]
theorem count_ones (b : List Nat) : Txt.count (SX.S b) "1" = ((b.count 49 : Nat) : Int) := by
  have e : (("1" : Str)) = ⟨#[49]⟩ := by decide +kernel
  rw [e, count_is, show (SX.S b).cps.toList = b by simp [SX.S], countIn_signs]
/-! sum of a tuple; a class held by a local name; comprehensions over tuples -/
section
variable {X : Cx}
def rSumT (K : PySem.W.Frag) : List V → Hp → VK → Prop := fun vs H Q => ∃ (a : Addr) (ns : List Int), vs = [V.ref a] ∧ SqT K H a (ns.map V.int) ∧ Q (.int ns.sum) H
theorem cr_sumT (hc : X.calm = true) : CallR X (.builtin "sum") (rSumT X.K) := by
  intro pins s σ H vs us Q I r h
  obtain ⟨a, ns, rfl, hs, q⟩ := h
  obtain ⟨its, rv, hl, _⟩ := I.tuple hs
  rw [Vals.ref1 r]
  have hi := rv.ints
  obtain ⟨xs, e⟩ := hi.allInts.items
  have hn : numsOf (intItems xs).toList = ns := by rw [← e]; exact hi.numsOf
  rw [nums_intItems] at hn
  rw [e] at hl
  refine PySem.W.ktm_sumG (I.ok.hd hc) hl fun h' tk t' hk => ?_
  rw [preSum_eq, List.take_of_length_le (by simp), hn]
  exact ⟨.int _, H, I.kept hk, ⟨_, rfl⟩, q⟩
/-- C(..), C held by the i-th slot -/
def tMakeL (i : Nat) (C : Addr) (sp : Sp) (E : XK) (t : TA) : TE := fun σ H Q => σ[i]? = some (some (.ref C)) ∧ t σ H fun vs H1 => ∀ x dx, H1 x = none → H1 dx = none → dx ≠ x → sp (.ref x :: vs) (upd (upd H1 dx (.own x)) x (.ins C dx [])) (fun v H2 => v = .non ∧ Q (.ref x) H2) E
theorem pe_makeL {CX : CXT} {k i : Nat} {f C : Addr} {sp : Sp} {E : XK} {x : Str} {p pos : Pos} {e : Expr} {es : List Expr} {t : TA} (M : Mk X.K C f) (F : FnR X.prog X.w X.K X.mg X.base CX k f sp) (hr : Room (k + 1) X.A) (hN : X.N[i]? = some x) (hv : Vis X.env.scope x) (hx : Passes CX X E) (ha : PA X (e :: es) t) (hdb : (x == ("__debug__" : Str)) = false := by decide)
    (hcd : (x == ("__classdict__" : Str)) = false := by decide) (he : starEach (e :: es) X.env = (false, eval e X.env) :: starEach es X.env := by rfl) (hpl : (backTo pos (starEach es X.env)).any (·.1) = false := by rfl) : PE X (.Call (.Name x p) (e :: es) [] pos) (tMakeL i C sp E t) := by
  refine ⟨fun pins s σ H Q I h => ?_⟩
  obtain ⟨hs, ht⟩ := h
  refine wpAny_Call_Name_kw (thn ((pe_var (pos := p) hN hv hdb hcd).run pins s σ H (fun v H1 => v = .ref C ∧ H1 = H) I ⟨.ref C, hs, rfl, rfl⟩) fun u s1 ⟨v, H1, I1, r1, q1⟩ => ?_)
  obtain ⟨rfl, rfl⟩ := q1
  cases r1
  refine PySem.W.callWith_K (h₀ := X.base) I.ok.mod.kin M.kp (thn (ha.run pos pins s1 σ _ _ I1 ht) fun us s2 ⟨vs, H2, I2, r, q⟩ => ⟨I2.kIn, ?_⟩) he hpl
  exact StX.run_makeR M F hr hx I2 r q
end
section
variable {g : TG} {tt : TT} {te : TE} {vs : List Nat} {σ : L2.St} {H1 : Hp} {D : Addr} {Qd : Hp → Prop} (out : Nat → List V)
theorem lc_outU {K : PySem.W.Frag} {a : Addr} {xs : List V} (hD : H1 D = none) (hl : SqT K H1 a xs) (o0 : out 0 = []) (ol : ∀ i, i < xs.length → (out i).length < sizeLine)
    (hs : ∀ i x H (Kc : V → Hp → Prop) (K0 : Hp → Prop), xs[i]? = some x → Same H1 H → (∀ y H4, Same H H4 → out (i + 1) = out i ++ [y] → Kc y H4) → (∀ H4, Same H H4 → out (i + 1) = out i → K0 H4) →
      g x (wipe σ vs) H fun σ2 H2 => wipe σ2 vs = wipe σ vs ∧ tt σ2 H2 fun b H3 => if b = true then te σ2 H3 Kc else K0 H3)
    (hd : ∀ H, Same H1 H → H D = some (.lst (out xs.length)) → Qd H) :
    ∃ W : Nat → Nat → Hp → Prop, (∃ m, W 0 m (upd H1 D (.lst []))) ∧ ∀ i m H, W i m H →
      ((Itt K a).stop i H ∧ Qd H) ∨ ((Itt K a).go i H ∧ ∃ Nx : Hp → Prop, (∀ H', Nx H' → ∃ m', m' < m ∧ W (i + 1) m' H') ∧ ∀ x H', (Itt K a).yld i H x H' → g x (wipe σ vs) H' fun σ2 H2 => wipe σ2 vs = wipe σ vs ∧ tt σ2 H2 fun b H3 =>
        if b = true then te σ2 H3 fun y H4 => ∃ acc, H4 D = some (.lst acc) ∧ acc.length < sizeLine ∧ Nx (upd H4 D (.lst (acc ++ [y]))) else Nx H3) := by
  refine lc_tup (xs := xs) (fun i H => OutI H1 D (out i) H) (by rw [o0]; exact OutI.start hD) (fun i H _ h => sqT_same h.1 hl) (fun i x H e h => ?_) (fun H h => hd H h.1 h.2)
  have lt : i < xs.length := (List.getElem?_eq_some_iff.mp e).1
  exact hs i x H _ _ e h.1 (fun y H4 s q => ⟨out i, (h.stay s).2, ol i lt, by rw [q]; exact h.put hD s⟩) (fun H4 s q => by rw [q]; exact h.stay s)
end
end Fb
set_option maxRecDepth 100000
set_option maxHeartbeats 4000000
namespace Fb
open PySem PySem.Spec PyProof.Rows L2
open SX (S)
/-! lists of single signs -/
abbrev sgV (b : List Nat) : List V := b.map fun c => V.str (S [c])
theorem sgV_str (b : List Nat) : sgV b = (b.map fun c => S [c]).map V.str := by rw [List.map_map] <;> rfl
theorem countIn_strs (k : Str) : ∀ ys : List Str, countIn (.str k) (ys.map PyData.str) = ((ys.count k : Nat) : Int)
  | [] => by simp [countIn]
  | y :: ys => by
    rw [List.map_cons, countIn, countIn_strs k ys, List.count_cons]
    by_cases h : y = k
    · subst h
      simp [same]
      omega
    · have e : same (PyData.str y) (.str k) = false := by
        simp [same]
        exact h
      rw [e]
      simp [h]
section
variable {X : Cx}
def rCntS (K : PySem.W.Frag) : V → List V → Hp → VK → Prop := fun x xs H Q => ∃ (p : Addr) (ys : List Str) (k : Str), x = .ref p ∧ xs = [.str k] ∧ SqL K H p (ys.map V.str) ∧ Q (.int (ys.count k : Nat)) H
theorem mt_lcountS : MtR X "list.count" (rCntS X.K) := by
  intro pins s σ H x xs v us Q I rx rxs h
  obtain ⟨p, ys, k, rfl, rfl, hs, q⟩ := h
  cases rx
  obtain ⟨u, rfl, t, rfl⟩ := rxs.one
  obtain ⟨its, rv, ⟨ob, n, ho, hc, _, hdat⟩, _⟩ := I.list hs
  refine count_list_strs (vs := its) ⟨ob, ho, hc, n, hdat⟩ rv.strs ?_
  rw [countIn_strs]
  exact ⟨.int (ys.count k : Nat), H, I.tok _, ⟨_, rfl⟩, q⟩
end
theorem call_len_seqK {X : Cx} {K : PySem.W.Frag} (hK : X.K = K) : CallR X (.builtin "len") (fun xs H Q => ∃ p ys, xs = [.ref p] ∧ (SqL K H p ys ∨ SqT K H p ys) ∧ Q (.int ys.length) H) := by
  subst hK
  exact call_len_seq
theorem count_sg (b : List Nat) (c : Nat) : (b.map fun c => S [c]).count (S [c]) = b.count c := by
  induction b with
  | nil => rfl
  | cons a b ih =>
    rw [List.map_cons, List.count_cons, List.count_cons, ih, SX.S_beq_eq]
    by_cases h : a = c
    · subst h; simp
    · simp [h]
theorem inV_sgV (c : Nat) (b : List Nat) : inV (.str (S [c])) (sgV b) = decide (c ∈ b) := by
  induction b with
  | nil => rfl
  | cons a b ih =>
    have e : inV (.str (S [c])) (sgV (a :: b)) = (eqV (V.str (S [a])) (V.str (S [c])) || inV (.str (S [c])) (sgV b)) := rfl
    rw [e, ih]
    have e2 : eqV (V.str (S [a])) (V.str (S [c])) = decide (a = c) := by
      show (S [a] == S [c]) = _
      rw [SX.S_beq_eq]
      by_cases h : a = c
      · subst h; simp
      · simp [h]
    rw [e2]
    by_cases h : a = c
    · subst h; simp
    · have : ¬ c = a := fun q => h q.symm
      simp [h, this]
theorem flat_sgV : ∀ b : List Nat, (sgV b).all flatV = true
  | [] => rfl
  | c :: b => by
    show (flatV (V.str (S [c])) && (sgV b).all flatV) = true
    rw [flat_sgV b]
    rfl
theorem cut_get : ∀ {ss b : List Nat} {i s : Nat}, ss[i]? = some s → (cut ss b)[i]? = some ((b.drop (ss.take i).sum).take s)
  | [], b, i, s, h => by simp at h
  | t :: ss, b, 0, s, h => by
    have e : t = s := by simpa using h
    subst e
    rfl
  | t :: ss, b, i + 1, s, h => by
    have h' : ss[i]? = some s := by simpa using h
    show (cut ss (b.drop t))[i]? = some ((b.drop (t + (ss.take i).sum)).take s)
    rw [cut_get h', List.drop_drop]
theorem take_sum_s {ss : List Nat} {i s : Nat} (h : ss[i]? = some s) : (ss.take (i + 1)).sum = (ss.take i).sum + s := by
  rw [List.take_add_one, h, List.sum_append]
  simp
theorem take_sum_le (ss : List Nat) (i : Nat) : (ss.take i).sum ≤ ss.sum := by
  have e := congrArg List.sum (List.take_append_drop i ss)
  rw [List.sum_append] at e
  omega
theorem cutV_sg {b : List Nat} {f s : Nat} (h : f + s ≤ b.length) : cutV (sgV b) (some (f : Int)) (some ((f : Int) + (s : Int))) = sgV ((b.drop f).take s) := by
  unfold cutV
  have e : ((f : Int) + (s : Int)) = ((f + s : Nat) : Int) := by omega
  rw [e, HT.sIx_nat, HT.sIx_nat, List.length_map, Nat.min_eq_left h, Nat.min_eq_left (show f ≤ b.length by omega), Nat.add_sub_cancel_left, ← List.map_drop, ← List.map_take]
/-- a comprehension over a text -/
theorem lc_S {l : List Nat} {g : TG} {tt : TT} {te : TE} {vs : List Nat} {σ : L2.St} {H1 : Hp} {D : Addr} {Qd : Hp → Prop} (Pv : Nat → Hp → Prop) (h0 : Pv 0 (upd H1 D (.lst [])))
    (hs : ∀ i c H, l[i]? = some c → Pv i H → g (.str (S [c])) (wipe σ vs) H fun σ2 H2 => wipe σ2 vs = wipe σ vs ∧ tt σ2 H2 fun b H3 =>
      if b = true then te σ2 H3 fun y H4 => ∃ acc, H4 D = some (.lst acc) ∧ acc.length < sizeLine ∧ Pv (i + 1) (upd H4 D (.lst (acc ++ [y]))) else Pv (i + 1) H3) (hd : ∀ H, Pv l.length H → Qd H) :
    ∃ W : Nat → Nat → Hp → Prop, (∃ m, W 0 m (upd H1 D (.lst []))) ∧ ∀ i m H, W i m H →
      ((Its (S l)).stop i H ∧ Qd H) ∨ ((Its (S l)).go i H ∧ ∃ Nx : Hp → Prop, (∀ H', Nx H' → ∃ m', m' < m ∧ W (i + 1) m' H') ∧ ∀ x H', (Its (S l)).yld i H x H' → g x (wipe σ vs) H' fun σ2 H2 => wipe σ2 vs = wipe σ vs ∧ tt σ2 H2 fun b H3 =>
        if b = true then te σ2 H3 fun y H4 => ∃ acc, H4 D = some (.lst acc) ∧ acc.length < sizeLine ∧ Nx (upd H4 D (.lst (acc ++ [y]))) else Nx H3) := by
  have hz : (S l).cps.size = l.length := by simp [S]
  refine ⟨fun i m H => i + m = l.length ∧ Pv i H, ⟨l.length, by omega, h0⟩, fun i m H ⟨hm, p⟩ => ?_⟩
  by_cases lt : i < l.length
  · refine Or.inr ⟨by show i < (S l).cps.size; omega, Pv (i + 1), fun H' p' => ⟨m - 1, by omega, by omega, p'⟩, ?_⟩
    rintro x H' ⟨eH, c, hc, rfl⟩
    subst eH
    have e : l[i]? = some c := by simpa [S] using hc
    exact hs i c _ e p
  · obtain rfl : i = l.length := by omega
    exact Or.inl ⟨by show (S l).cps.size ≤ _; omega, hd H p⟩
/-! an exception that was caught and is kept, with fields or without -/
section
variable {X : Cx}
def rIsB (K : PySem.W.Frag) : List V → Hp → VK → Prop := fun xs H Q => ∃ (a C : Addr) (c : V) (cv : Value) (b : Bool), xs = [.ref a, c] ∧ XC K C ∧ XB K ∧ (H a = some (ExR (.ref C) none a) ∨ ∃ fs, XR H a C fs) ∧ ClsV c cv ∧ PySem.W.kitOne K (.ref C) cv = some b ∧ Q (.bl b) H
theorem call_isB : CallR X (.builtin "isinstance") (rIsB X.K) := by
  intro pins s σ H xs us Q I r h
  obtain ⟨a, C, c, cv, b, e, T, B, hE | ⟨fs, hE⟩, k, e2, q⟩ := h
  · exact call_isR pins s σ H xs us Q I r ⟨a, C, c, cv, b, e, T, B, hE, k, e2, q⟩
  · exact call_isQ pins s σ H xs us Q I r ⟨a, C, fs, c, cv, b, e, T, B, hE, k, e2, q⟩
end
end Fb
set_option maxRecDepth 100000
set_option maxHeartbeats 4000000
/-! a loop over range of a written number: within its body a token is out; calls and stores whose parts want one -/
namespace Fb
open PySem PySem.Spec PyProof.Rows L2
/-- what is walked, a token out behind it -/
def PIs (X : Cx) (tg iter : Expr) (wi : TI) : Prop :=
  ∀ (pins : List (Addr × Obj)) (s : Shared) (σ : L2.St) (H : Hp) (R : It → Hp → Prop), Inv X pins σ H s → wi σ H R →
    wpAny (model X.prog X.w) X.A (eval iter X.env) (fun v s1 => 1 ≤ s1.toks ∧ wpAny (model X.prog X.w) X.A (pyIter v) (PIE X pins σ tg R) X.xe s1) X.xe s
section
variable {X : Cx} {tg : Expr} {p c pos : Pos} {k : Int} {j : Nat}
theorem pis_range1 (hg : Gl X "range") (hm : X.mg "range" = none) : PIs X tg (.Call (.Name "range" p) [.Constant (.int k) j c] [] pos) (iRng1 (tCons (tC (.int k)) tNil)) := by
  intro pins s σ H R I h
  refine Call_ (ld_blt I hg hm boot_range (PyProof.Rows.callWith_type1 ?_ rfl rfl))
  show wpAny _ _ (spliced ((false, eval (.Constant (.int k) j c) X.env) :: backTo pos (starEach [] X.env))) _ _ s
  refine Calls.spliced_cons (wpAny_Constant_int (Calls.spliced_nil ?_))
  obtain ⟨i, e, q1, q2, q⟩ := h
  have e1 : k = i := by
    have := (List.cons.inj e).1
    exact V.int.inj this
  subst e1
  exact wpAny_mono (PySem.wpAny_toks_of (n := 1) (by show 1 ≤ s.toks + 1; omega) (call_range_1 (range_it (tg := tg) (R := R) (I.tok (s.toks + 1)) (by omega) (by omega) q1 q2 (by simpa using q)))) (fun _ _ z => z) fun _ _ z => z.2
theorem ps_forT {iter : Expr} {body : List Stmt} {wi : TI} {g : TG} {tb : TS} {pos : Pos} (hp : PassesOwn (model X.prog X.w) X.A X.env X.xe) (hc : X.calm = true) (hi : PIs X tg iter wi) (hg : PG X tg g) (hb : PSsT X body tb)
    (hs : ∀ x, foldedSetIterable iter X.env x = pure x := by intro _; rfl) : PS X (.For tg iter body [] pos) (tFor wi g tb) := by
  refine ⟨fun pins s σ H D I h => ?_⟩
  refine wpAny_For (thn (hi pins s σ H _ I h) fun v s1 ⟨t1, h1⟩ => wpAny_mono (PySem.wpAny_toks_of t1 h1) (fun itv s2 h2 => ?_) fun _ _ z => z.2) hs
  obtain ⟨t2, it, fp, tn, J, H2, e, I2, T, st2, f2, W, ⟨m0, w0⟩, turn⟩ := h2
  subst e
  have stat : ∀ {H' : Hp}, (∀ b ∈ fp, H' b = none) → ∀ b ∈ fp, FpOk X pins H' b := fun hn b hb => ⟨hn b hb, (f2 b hb).2⟩
  refine codeAny_forLoop_any (fun n s' => 1 ≤ s'.toks ∧ ∃ i σ' H', Inv X pins σ' H' s' ∧ tn i s'.heap ∧ (∀ b ∈ fp, H' b = none) ∧ W i n σ' H') ?_ m0 ⟨t2, 0, σ, H2, I2, st2, fun b hb => (f2 b hb).1, w0⟩
  rintro n s3 ⟨t3, i, σ3, H3, I3, st3, fr3, w3⟩
  rcases turn i n σ3 H3 w3 with ⟨stop, qn⟩ | ⟨go, N, hN, step⟩
  · refine wpAny_passesOwn hp (thn (T.done X rfl rfl rfl hc i pins s3 σ3 H3 X.xe I3 (stat fr3) st3 stop) fun r s4 ⟨hr, I4⟩ => ?_)
    subst hr
    exact wpAny_execs_nil ⟨σ3, H3, I4, qn⟩
  · refine wpAny_passesOwn hp (wpAny_mono (PySem.wpAny_toks_of t3 (T.item X rfl rfl rfl hc i pins s3 σ3 H3 X.xe I3 (stat fr3) st3 go)) (fun r s4 ⟨t4, u, hr, h4⟩ => ?_) fun _ _ z => z.2)
    subst hr
    refine wpAny_passesOwn hp (wpAny_mono (PySem.wpAny_toks_of t4 h4) (fun _ s5 ⟨t5, x, H5, I5, r5, y5, st5, fr5⟩ => ?_) fun _ _ z => z.2)
    have I5' := I5.pinned (stat fr5) (T.obj _ _ st5)
    refine wpAny_passesOwn hp (wpAny_mono (PySem.wpAny_toks_of t5 (hg.run _ s5 σ3 H5 x u _ I5' r5 (step x H5 y5))) (fun _ s6 ⟨t6, σ6, H6, I6, q6⟩ => ?_) fun _ _ z => z.2)
    refine wpAny_passesOwn hp (wpAny_mono (PySem.wpAny_toks_of t6 (hb _ s6 σ6 H6 _ t6 I6 q6)) (fun f s7 ⟨t7, q7⟩ => ?_) fun _ _ z => z.2)
    have again : ∀ {σ7 : L2.St} {H7 : Hp}, Inv X (pins ++ pinsAt fp s5.heap) σ7 H7 s7 → N σ7 H7 → ∃ m, m < n ∧ 1 ≤ s7.toks ∧ ∃ i σ' H', Inv X pins σ' H' s7 ∧ tn i s7.heap ∧ (∀ b ∈ fp, H' b = none) ∧ W i m σ' H' := fun {σ7 H7} I7 n7 => by
      obtain ⟨m', hm, w7⟩ := hN σ7 H7 n7
      refine ⟨m', hm, t7, i + 1, σ7, H7, I7.unpinned, T.keep _ _ _ st5 fun b hb o e => (I7.pin (b, o) (List.mem_append_right _ (List.mem_append_right _ (mem_pinsAt hb e)))).1, fun b hb => ?_, w7⟩
      obtain ⟨o, e, d⟩ := T.obj _ _ st5 b hb
      exact (I7.pin (b, o) (List.mem_append_right _ (List.mem_append_right _ (mem_pinsAt hb e)))).2.1
    cases f with
    | next => obtain ⟨σ7, H7, I7, n7⟩ := q7; exact again I7 n7
    | cont => obtain ⟨σ7, H7, I7, n7⟩ := q7; exact again I7 n7
    | brk => obtain ⟨σ7, H7, I7, q7⟩ := q7; exact ⟨σ7, H7, I7.unpinned, q7⟩
    | ret v => obtain ⟨x7, σ7, H7, I7, r7, q7⟩ := q7; exact ⟨x7, σ7, H7, I7.unpinned, r7, q7⟩
end
section
variable {X : Cx} {CX : CXT} {k : Nat} {f : Addr} {fd : FuncData} {ps : List Str} {sp : Sp} {ds : List Value} {dvs : List V} {E : XK} {x : Str} {p pos : Pos} {e : Expr} {es : List Expr} {t : TA}
theorem pet_call (F : FnOk X.prog X.w X.K X.mg X.base CX k f fd ps sp) (hr : Room k X.A) (hg : Gl X x) (hm : X.mg x = some (.ref f)) (hk : PySem.W.keepIn X.K (.ref f) = true) (hb : Binds X.K fd ps ds) (hd : Vals dvs ds) (hx : Passes CX X E)
    (ha : L2.PAT X (e :: es) t) (hdb : (x == ("__debug__" : Str)) = false := by decide) (he : starEach (e :: es) X.env = (false, eval e X.env) :: starEach es X.env := by rfl) (hpl : (backTo pos (starEach es X.env)).any (·.1) = false := by rfl) :
    L2.PET X (.Call (.Name x p) (e :: es) [] pos) (tCall sp dvs E t) := by
  intro pins s σ H Q h0 I h
  refine wpAny_Call_Name_kw (ld_glob I hg hm ?_ hdb)
  refine PySem.W.callWith_K (h₀ := X.base) I.ok.mod.kin hk (thn (ha pos pins s σ H _ h0 I h) fun us s1 ⟨vs, H1, I1, r, q⟩ => ⟨I1.kIn, ?_⟩) he hpl
  exact run_fn F hr hb hd hx I1 r q
theorem pst_set {i : Nat} {te : TE} {pos' : Pos} (hN : X.N.Nodup) (hi : X.N[i]? = some x) (hx : Loc X.env.scope x) (he : L2.PET X e te) (hs : swapsWith e (some (.Name x pos')) pos.line X.env = pure false := by rfl) (hf : X.fn x = true ∨ X.env.scope.names.lookup x = some .local := by first | exact .inl rfl | exact .inr rfl | assumption) :
    PST X (.Assign [.Name x pos'] e pos) (tAsg te (gName i)) := by
  intro pins s σ H D h0 I h
  refine wpAny_Assign_Name (thn (he pins s σ H _ h0 I h) fun v s1 ⟨y, H1, I1, r1, q1⟩ => ?_) hs
  exact store_ok I1 hN hi hx r1 (fun s2 I2 => ⟨_, H1, I2, q1⟩) hf
end
/-! in and not in, within a comprehension: the fragment named -/
theorem op_inK {X : Cx} {K : PySem.W.Frag} (hK : X.K = K) : OpR X (compareOp .In) (rIn K false) := by
  subst hK
  exact op_in_seq
theorem op_notInK {X : Cx} {K : PySem.W.Frag} (hK : X.K = K) : OpR X (compareOp .NotIn) (rIn K true) := by
  subst hK
  exact op_notIn_seq
end Fb
set_option maxRecDepth 100000
set_option maxHeartbeats 4000000
/-! comprehensions over two ranges; lists of whole numbers of any size as data -/
namespace Fb
open PySem PySem.Spec PyProof.Rows L2
section
variable {D : Addr} {σ : L2.St} {H1 : Hp} {wi1 : TI} {te : TE} {vs vs1 : List Nat} {i1 j1 : Nat} {Qd : Hp → Prop} {n m : Nat}
theorem lc2_ranges (Pv : Nat → Nat → Hp → Prop) (h0 : Pv 0 0 (upd H1 D (.lst [])))
    (hin : ∀ (x : V) (H : Hp) (R : It → Hp → Prop), R (Itr 0 m) H → wi1 ((wipe σ vs).set i1 (some x)) H R) (hw : ∀ x, wipe ((wipe σ vs).set i1 (some x)) vs = wipe σ vs)
    (hw1 : ∀ x y, wipe ((wipe ((wipe σ vs).set i1 (some x)) vs1).set j1 (some y)) vs1 = wipe ((wipe σ vs).set i1 (some x)) vs1)
    (step : ∀ (i j : Nat) (H : Hp), i < n → j < m → Pv i j H → te ((wipe ((wipe σ vs).set i1 (some (.int (0 + (i : Int))))) vs1).set j1 (some (.int (0 + (j : Int))))) H fun v H7 => ∃ acc, H7 D = some (.lst acc) ∧ acc.length < sizeLine ∧ Pv i (j + 1) (upd H7 D (.lst (acc ++ [v]))))
    (next : ∀ i H, i < n → Pv i m H → Pv (i + 1) 0 H) (hd : ∀ H, Pv n 0 H → Qd H) :
    ∃ W : Nat → Nat → Hp → Prop, (∃ m, W 0 m (upd H1 D (.lst []))) ∧ ∀ i m H, W i m H →
      ((Itr 0 n).stop i H ∧ Qd H) ∨ ((Itr 0 n).go i H ∧ ∃ Nx : Hp → Prop, (∀ H', Nx H' → ∃ m', m' < m ∧ W (i + 1) m' H') ∧ ∀ x H', (Itr 0 n).yld i H x H' → gName i1 x (wipe σ vs) H' fun σ2 H2 => wipe σ2 vs = wipe σ vs ∧ tYes σ2 H2 fun bb H3 =>
        if bb = true then wi1 σ2 H3 fun J1 H4 => ∃ W1 : Nat → Nat → Hp → Prop, (∃ m, W1 0 m H4) ∧ ∀ j k H, W1 j k H →
          (J1.stop j H ∧ Nx H) ∨ (J1.go j H ∧ ∃ Nx1 : Hp → Prop, (∀ H', Nx1 H' → ∃ k', k' < k ∧ W1 (j + 1) k' H') ∧ ∀ x H', J1.yld j H x H' → gName j1 x (wipe σ2 vs1) H' fun σ3 H5 => wipe σ3 vs1 = wipe σ2 vs1 ∧ tYes σ3 H5 fun bb H6 =>
            if bb = true then te σ3 H6 fun y H7 => ∃ acc, H7 D = some (.lst acc) ∧ acc.length < sizeLine ∧ Nx1 (upd H7 D (.lst (acc ++ [y]))) else Nx1 H6)
        else Nx H3) := by
  refine ⟨fun i k H => i + k = n ∧ Pv i 0 H, ⟨n, by omega, h0⟩, fun i k H ⟨hm, p⟩ => ?_⟩
  by_cases lt : i < n
  · refine Or.inr ⟨lt, Pv (i + 1) 0, fun H' p' => ⟨k - 1, by omega, by omega, p'⟩, ?_⟩
    intro x H' y
    obtain ⟨e, y⟩ := y
    subst e y
    refine ⟨hw _, yes1 ?_⟩
    refine hin _ _ _ ?_
    refine ⟨fun j k H => j + k = m ∧ Pv i j H, ⟨m, by omega, p⟩, fun j k H ⟨hk, p⟩ => ?_⟩
    by_cases lt2 : j < m
    · refine Or.inr ⟨lt2, Pv i (j + 1), fun H' p' => ⟨k - 1, by omega, by omega, p'⟩, ?_⟩
      intro x2 H' y2
      obtain ⟨e2, y2⟩ := y2
      subst e2 y2
      exact ⟨hw1 _ _, yes1 (step i j _ lt lt2 p)⟩
    · obtain rfl : j = m := by omega
      exact Or.inl ⟨Nat.le_refl _, next i H lt p⟩
  · obtain rfl : i = n := by omega
    exact Or.inl ⟨Nat.le_refl _, hd H p⟩
end
/-! numbers of any size -/
def intD (ns : List Int) : List PyData := ns.map .int
theorem dp_ints {K : PySem.W.Frag} {H : Hp} : ∀ ns : List Int, DpAll K H (ns.map V.int) (intD ns)
  | [] => .nil
  | n :: ns => .cons (.int _) (dp_ints ns)
theorem lay_ints : ∀ ns : List Int, PyData.canLayAll0 (intD ns) = true ∧ PyData.depthAll (intD ns) = 0
  | [] => ⟨rfl, rfl⟩
  | n :: ns => by
    obtain ⟨h1, h2⟩ := lay_ints ns
    unfold intD at *
    rw [List.map_cons]
    constructor
    · rw [PyData.canLayAll0, h1] <;> rfl
    · rw [PyData.depthAll, h2] <;> rfl
theorem eqv_ints_nil : ∀ ns : List Int, PyData.eqv (.list (intD ns)) (.list []) = decide (ns = [])
  | [] => by simp [intD, PyData.eqv, PyData.eqvAll]
  | n :: ns => by simp [intD, PyData.eqv, PyData.eqvAll]
end Fb
set_option maxRecDepth 100000
set_option maxHeartbeats 4000000
namespace Fb
open PySem PySem.Spec PyProof.Rows L2
/-! x in o, x not in o, o[i] by the defs of o's class: instances with a dict -/
section
variable {X : Cx} {CX : CXT} {pins : List (Addr × Obj)} {σ : L2.St} {H : Hp} {s : Shared} {a C dx g : Addr} {fs : List (Str × V)} {n : Nat} {sp : Sp} {E : XK}
def rInI (C : Addr) (sp : Sp) (E : XK) (neg : Bool) : R2 := fun x y H Q => ∃ b dx fs, y = .ref b ∧ H b = some (.ins C dx fs) ∧ sp [y, x] H (fun z H' => ∃ c, z = .bl c ∧ Q (.bl (if neg then !c else c)) H') E
theorem op_inI (hs : PySem.W.findIn X.K (.ref C) "__contains__" = some (some (.ref g))) (hf : PySem.W.isFn X.K (.ref g) = true) (F : FnR X.prog X.w X.K X.mg X.base CX n g sp) (hr : Room n X.A) (hx : Passes CX X E) : OpR X (compareOp .In) (rInI C sp E false) := by
  intro pins s σ H x y v u Q I rx ry h
  obtain ⟨b, dx, fs, rfl, hb, q⟩ := h
  cases (show u = Value.ref b from ry)
  obtain ⟨od, J⟩ := ins_at I hb
  obtain ⟨m, hF⟩ := I.fr
  refine PySem.W.in_K hF I.ok.mod.kin J hs hf ?_
  refine wpAny_mono (wpAny_call (run_fnR (us := [.ref b, v]) (vs := [.ref b, x]) F hr hx I (.cons rfl (.cons rx .nil)) q)) (fun w s' z => ?_) fun _ _ x => x
  obtain ⟨z', H', I', rz, c, ec, qz⟩ := z
  subst ec
  cases (show w = Value.bool c from rz)
  exact wpAny_pure ⟨.bl c, H', I', rfl, qz⟩
theorem op_notInI (hs : PySem.W.findIn X.K (.ref C) "__contains__" = some (some (.ref g))) (hf : PySem.W.isFn X.K (.ref g) = true) (F : FnR X.prog X.w X.K X.mg X.base CX n g sp) (hr : Room n X.A) (hx : Passes CX X E) : OpR X (compareOp .NotIn) (rInI C sp E true) := by
  intro pins s σ H x y v u Q I rx ry h
  obtain ⟨b, dx, fs, rfl, hb, q⟩ := h
  cases (show u = Value.ref b from ry)
  obtain ⟨od, J⟩ := ins_at I hb
  obtain ⟨m, hF⟩ := I.fr
  refine PySem.W.notIn_K hF I.ok.mod.kin J hs hf ?_
  refine wpAny_mono (wpAny_call (run_fnR (us := [.ref b, v]) (vs := [.ref b, x]) F hr hx I (.cons rfl (.cons rx .nil)) q)) (fun w s' z => ?_) fun _ _ x => x
  obtain ⟨z', H', I', rz, c, ec, qz⟩ := z
  subst ec
  cases (show w = Value.bool c from rz)
  exact wpAny_pure ⟨.bl (!c), H', I', rfl, qz⟩
def tIxI (C : Addr) (sp : Sp) (E : XK) (ta tb : TE) : TE := fun σ H Q => ta σ H fun x H1 => tb σ H1 fun y H2 => ∃ a dx fs, x = .ref a ∧ H2 a = some (.ins C dx fs) ∧ sp [x, y] H2 Q E
theorem pe_ixI {o i : Expr} {ta tb : TE} {pos : Pos} (hs : PySem.W.findIn X.K (.ref C) "__getitem__" = some (some (.ref g))) (hf : PySem.W.fnIn X.K g = true) (hfn : PySem.W.isFn X.K (.ref g) = true) (F : FnR X.prog X.w X.K X.mg X.base CX n g sp) (hr : Room (n + 1) X.A) (hx : Passes CX X E)
    (ha : PE X o ta) (hb : PE X i tb) (hsl : ∀ (x : Addr) (v : Value), subscripted i true (.ref x) v = runValue (.builtin "lifetime.subscript" ⟨[.ref x, v], []⟩) := by intro _ _; with_unfolding_all rfl) : PE X (.Subscript o i pos) (tIxI C sp E ta tb) := by
  refine ⟨fun pins s σ H Q I h => ?_⟩
  refine Subscript_ (binT ha hb I h fun v u s2 x y H2 I2 rx ry q => ?_)
  obtain ⟨a, dx, fs, rfl, e, q⟩ := q
  cases (show v = Value.ref a from rx)
  obtain ⟨od, J⟩ := ins_at I2 e
  obtain ⟨m, hF⟩ := I2.fr
  have hr2 : Room n X.A.in1 := Room.in1 hr
  exact PySem.W.sub_K hF I2.ok.mod.kin J hs hf hfn (wpAny_call (SlX.run_at (us := [.ref a, u]) (ws := [.ref a, y]) F hr2 I2.env0.in1 hx I2 (.cons rfl (.cons ry .nil)) q)) (hsl _ _)
end
/-! bool(x), list(a text) -/
theorem bool_own {prog : Program} {w : World} {A : Around} {E : Value → Shared → Prop} {s : Shared} {K : PySem.W.Frag} {x C L f : Addr} {h₀ : Heap} {m : Str → Option Value} {ox : Obj} {od : Option Obj} {Q : Value → Shared → Prop} (F : Fr h₀ L s.heap m) (X₀ : K.In h₀) (I : PySem.W.InstAt s.heap x ox C od) (hs : PySem.W.findIn K (.ref C) "__bool__" = some (some (.ref f))) (hf : PySem.W.isFn K (.ref f) = true)
    (h : wpAny (model prog w) A.in1.in1 (call (.ref f) [.ref x]) (PySem.W.BoolBack fun b s₁ => Q (.bool b) s₁) E s) : wpAny (model prog w) A (call (.type "bool") [.ref x]) Q E s := by
  refine callType_codes (T := "bool") (Bi := Builtin.«object.__init__») (Q₁ := fun r s₁ => ∃ b, r = Value.bool b ∧ Q r s₁) PySem.F.called_bool (PySem.F.typeCall_bool_1 _) PySem.F.entry_object_init ?_ ?_
  · refine codeAny_of_tree ?_
    show wpAny _ A.in1.in1 (do checkBuiltinCall "bool.__new__" ⟨[.type "bool", .ref x], []⟩; again (.builtin "bool.__new__" ⟨[.type "bool", .ref x], []⟩)) _ _ s
    refine wpAny_bind (wpAny_of_eq (PySem.F.newCall_bool_1 _) (wpAny_pure ⟨plainId_quiet (by decide +kernel) _, codeAny_builtin PySem.F.entry_bool_new ?_⟩))
    rw [Around.under_plainId (by decide +kernel) _]
    unfold Builtin.«bool.__new__»
    refine wpAny_bind (wpAny_of_eq (a := true) (by rfl) ?_)
    refine PySem.W.KFB.if_not rfl ?_
    refine wpAny_bind (wpAny_of_eq (a := true) PySem.F.conv_sub_bool ?_)
    refine PySem.W.KFB.if_not rfl ?_
    refine wpAny_bind (wpAny_pure ?_)
    refine wpAny_bind (PySem.W.truthy_K F X₀ I hs hf (wpAny_mono h (fun r s₁ hr => ?_) fun _ _ y => y))
    cases r <;> first | exact hr.elim | skip
    exact wpAny_pure ⟨_, rfl, hr⟩
  · rintro obj s₁ ⟨b, rfl, hq⟩
    exact ⟨rfl, PySem.F.args_object_init_2 _ _, object_init_meets PySem.F.called_bool.init.lookup PySem.F.called_bool.made (by decide) prog w A.in1 _ s₁ ⟨rfl, rfl, hq⟩⟩
section
variable {X : Cx} {CX : CXT} {pins : List (Addr × Obj)} {σ : L2.St} {H : Hp} {s : Shared} {a C dx g : Addr} {fs : List (Str × V)} {n : Nat} {sp : Sp} {E : XK}
def rBoolI (C : Addr) (sp : Sp) (E : XK) : List V → Hp → VK → Prop := fun xs H Q => ∃ a dx fs, xs = [.ref a] ∧ H a = some (.ins C dx fs) ∧ sp [.ref a] H (fun z H' => ∃ b, z = .bl b ∧ Q (.bl b) H') E
theorem call_boolI (hs : PySem.W.findIn X.K (.ref C) "__bool__" = some (some (.ref g))) (hf : PySem.W.isFn X.K (.ref g) = true) (F : FnR X.prog X.w X.K X.mg X.base CX n g sp) (hr : Room (n + 2) X.A) (hx : Passes CX X E) : CallR X (.type "bool") (rBoolI C sp E) := by
  intro pins s σ H xs us Q I r h
  obtain ⟨a, dx, fs, rfl, ha, q⟩ := h
  obtain ⟨u, rfl, ru⟩ := r.one
  cases (show u = Value.ref a from ru)
  obtain ⟨od, J⟩ := ins_at I ha
  have hr2 : Room n X.A.in1.in1 := (show Room (n + 1) X.A.in1 from Room.in1 hr).in1
  obtain ⟨m, hF⟩ := I.fr
  refine bool_own hF I.ok.mod.kin J hs hf (wpAny_mono (wpAny_call (SlX.run_at (us := [.ref a]) (ws := [.ref a]) F hr2 I.env0.in1.in1 hx I (.cons rfl .nil) q)) (fun w s' z => ?_) fun _ _ x => x)
  obtain ⟨z', H', I', rz, b, eb, qz⟩ := z
  subst eb
  cases (show w = Value.bool b from rz)
  exact ⟨.bl b, H', I', rfl, qz⟩
theorem vals_signs {l : List Nat} {us : List Value} (hl : us.length = l.length) (hu : ∀ (j : Nat) (v : Value), us[j]? = some v → ∃ (c : Nat) (t : Tok), l[j]? = some c ∧ v = Value.str ⟨#[c]⟩ t) : Vals (l.map fun c => V.str (SX.S [c])) us := by
  have e : (l.map fun c => V.str (SX.S [c])) = (List.range us.length).map fun j => V.str (SX.S [l.getD j 0]) := by
    refine List.ext_getElem? fun j => ?_
    rw [List.getElem?_map, List.getElem?_map]
    by_cases h : j < l.length
    · rw [List.getElem?_range (by omega), List.getElem?_eq_getElem h]
      show some (V.str (SX.S [l[j]])) = some (V.str (SX.S [l.getD j 0]))
      rw [List.getD_eq_getElem?_getD, List.getElem?_eq_getElem h] <;> rfl
    · rw [List.getElem?_eq_none (by omega), List.getElem?_eq_none (by simp; omega)] <;> rfl
  rw [e]
  refine vals_of_get us _ fun j u hj => ?_
  obtain ⟨c, t, hc, rfl⟩ := hu j u hj
  rw [List.getD_eq_getElem?_getD, hc]
  exact ⟨t, rfl⟩
def rListS : List V → Hp → VK → Prop := fun xs H Q => ∃ l : List Nat, xs = [.str (SX.S l)] ∧ l.length ≤ sizeLine ∧ ∀ p, H p = none → Q (.ref p) (upd H p (.lst (l.map fun c => V.str (SX.S [c]))))
theorem call_listS (hc : X.calm = true) : CallR X (.type "list") rListS := by
  intro pins s σ H xs us Q I r h
  obtain ⟨l, rfl, hl, q⟩ := h
  obtain ⟨u, rfl, t, rfl⟩ := vals1 r
  have sz : (SX.S l).cps.size = l.length := by simp [SX.S]
  refine call_list_str (I.ok.hd hc) (SX.S l) t (hn := by rw [sz]; exact hl) fun h' tk acc c' hk e' hi => ?_
  refine ⟨.ref s.heap.objs.size, upd H s.heap.objs.size (.lst (l.map fun c => V.str (SX.S [c]))), I.laid hk (Nat.le_refl _) (show ObjOk X.prog X.w _ _ _ (.lst (l.map fun c => V.str (SX.S [c]))) from ⟨?_, acc.toList, c', ?_, ?_⟩), rfl, q _ (I.hok.fresh (Nat.le_refl _))⟩
  · rw [List.length_map]; exact hl
  · refine vals_signs (by rw [Array.length_toList, hi.1, sz]) fun j v hj => ?_
    obtain ⟨c, u, h1, h2⟩ := hi.2 j v (by rw [← hj, Array.getElem?_toList])
    exact ⟨c, u, by simpa [SX.S] using h1, h2⟩
  · rw [Array.toArray_toList]; exact e'
end
end Fb
set_option maxRecDepth 100000
set_option maxHeartbeats 4000000
namespace Fb
open PySem PySem.Spec L2
/-! sets of texts: made of a list of texts, sorted -/
/-- at a: a set of the texts l, whose table can be walked -/
def TxSet (P : Program) (w : World) (h : Heap) (a : Addr) (l : List Str) : Prop := ∃ D : Froz.SD,
  h.get? a = some (Froz.sObj "set" D) ∧ Froz.TxOk P w D l ∧ l.Nodup ∧ (D.1.toList.map fun e => PyProof.Rows.strOf e.2).Perm l ∧ (∀ e ∈ D.1.toList, ∃ x t, e.2 = Value.str x t) ∧ Ris D.2.2.place.toList ∧ (w.params.followText "set-order" = true ∨ D.2.2.led = true)
section
variable {P : Program} {w : World} {A : Around} {E : Value → Shared → Prop} {s : Shared} {a : Addr} {l : List Str}
theorem TxSet.at {h h' : Heap} (R : TxSet P w h a l) (k : ∀ o, h.get? a = some o → h'.get? a = some o) : TxSet P w h' a l := by
  obtain ⟨D, e, r⟩ := R
  exact ⟨D, k _ e, r⟩
theorem TxSet.fresh {h : Heap} (e : h.get? a = some { cls := .type "set", dict := none, data := .set #[] 0 (.fresh 0 0 (!w.params.followText "set-order")) }) : TxSet P w h a [] := by
  refine ⟨(#[], 0, .fresh 0 0 (!w.params.followText "set-order")), e, Froz.TxOk.nil (by rfl), List.nodup_nil, .nil, fun e he => by simp at he, List.Pairwise.nil, ?_⟩
  cases q : w.params.followText "set-order"
  · exact .inr rfl
  · exact .inl rfl
theorem tail_more {ep : Nat} {es : Array (Int × Value)} {t : SetTable} {b : Bool} (hr : Ris t.place.toList) :
    (Froz.tailTx ep es t b).1.toList.Perm es.toList ∧ Ris (Froz.tailTx ep es t b).2.2.place.toList ∧ (Froz.tailTx ep es t b).2.2.led = t.led := by
  unfold Froz.tailTx
  by_cases c : (!b && t.tooFull) = true
  · rw [if_pos c]
    exact ⟨relayAll_perm _ _ _, relayAll_ris _ _ _, relayAll_led _ _ _⟩
  · rw [if_neg c]
    exact ⟨.refl _, hr, rfl⟩
theorem add_more {D : Froz.SD} {h : Int} {v : Value} (hr : Ris D.2.2.place.toList) :
    (Froz.addTx h v D).1.toList.Perm ((h, v) :: D.1.toList) ∧ Ris (Froz.addTx h v D).2.2.place.toList ∧ (Froz.addTx h v D).2.2.led = D.2.2.led := by
  obtain ⟨es, ep, t⟩ := D
  have p := layNew_perm t es h v
  have r := layNew_ris t es h v hr
  have g := layNew_led t es h v
  rw [Array.toList_push] at p
  have q := p.trans (List.perm_append_singleton _ _)
  unfold Froz.addTx
  dsimp only
  split
  · obtain ⟨h1, h2, h3⟩ := tail_more (ep := ep) (es := (layNew t es h v).1) (t := { (layNew t es h v).2.1 with plain := false }) (b := (layNew t es h v).2.2.1) r
    exact ⟨h1.trans q, h2, h3.trans g⟩
  · obtain ⟨h1, h2, h3⟩ := tail_more (ep := ep) (es := (layNew t es h v).1) (t := (layNew t es h v).2.1) (b := (layNew t es h v).2.2.1) r
    exact ⟨h1.trans q, h2, h3.trans g⟩
/-- a text is put in -/
theorem tx_put {k : Str} {u : Tok} {Q : Bool → Shared → Prop} (R : TxSet P w s.heap a l) (room : l.length + 1 < scanBound)
    (q : ∀ h', (∀ b, b ≠ a → h'.get? b = s.heap.get? b) → h'.objs.size = s.heap.objs.size → TxSet P w h' a (if k ∈ l then l else k :: l) → Q (!decide (k ∈ l)) { s with heap := h' }) :
    wpAny (model P w) A (setAddHashed a (.str k u) (hashStr w k)) Q E s := by
  obtain ⟨D, ho, F, nd, pm, gs, hr, hl⟩ := R
  by_cases hk : k ∈ l
  · have key : (PySem.strKind P w).is k (.str k u) = true := Froz.is_str k u
    obtain ⟨es, ep, t⟩ := D
    have hd : (Froz.sObj "set" (es, ep, t)).data = .set es ep t := rfl
    have el : ElemsOf (PySem.strKind P w) es.toList := F.el
    have small : es.size < scanBound := by have : es.size = l.length := F.sz; omega
    have done := q s.heap (fun _ _ => rfl) rfl ⟨(es, ep, t), ho, by rw [if_pos hk]; exact F, by rw [if_pos hk]; exact nd, by rw [if_pos hk]; exact pm, gs, hr, hl⟩
    rw [decide_eq_true hk] at done
    obtain ⟨e, he, hz⟩ := (F.mem k).mp hk
    cases c : List.findIdx? (fun e => (PySem.strKind P w).is k e.2) es.toList with
    | none =>
      have := List.findIdx?_eq_none_iff.mp c e he
      rw [hz] at this
      cases this
    | some j =>
      unfold setAddHashed setAddHashedIn
      refine wpAny_holding (wpAny_bind (wpAny_setState_of ho hd F.fit ?_))
      dsimp only
      rw [byScan_of (knd := PySem.strKind P w) rfl small el, if_pos rfl]
      unfold setAddByScan
      refine wpAny_bind (wpAny_bind (wpAny_rule (wpAny_bind (wpAny_setScan_of (knd := PySem.strKind P w) (k := k) key ho hd F.fit el ?_))))
      rw [c]
      exact wpAny_pure (wpAny_pure done)
  · refine Froz.add_x ho F hk room ?_
    obtain ⟨m1, m2, m3⟩ := add_more (D := D) (h := hashStr w k) (v := .str k u) hr
    have hlt : a < s.heap.objs.size := Heap.lt_size ho
    have done := q (s.heap.update a fun _ => Froz.sObj "set" (Froz.addTx (hashStr w k) (.str k u) D)) (fun b hb => Heap.get?_update_other _ _ (Ne.symm hb)) (Heap.size_update ..) ⟨_, Froz.get_upd _ ho rfl, by rw [if_neg hk]; exact Froz.add_ok u F, by rw [if_neg hk]; exact List.nodup_cons.mpr ⟨hk, nd⟩, ?_, fun e he => ?_, m2, by rw [m3]; exact hl⟩
    · rw [decide_eq_false hk] at done
      exact done
    · rw [if_neg hk]
      refine (m1.map _).trans ?_
      exact pm.cons k
    · rcases List.mem_cons.mp (m1.mem_iff.mp he) with z | z
      · rw [z]; exact ⟨k, u, rfl⟩
      · exact gs e z
/-- texts put in one behind another -/
theorem tx_loop {I : Addr} {fp wr : List Addr} {G : Array GenState → Array GenState → Prop} {n : Nat} {Pv : Nat → Value → Prop} {St : Nat → Shared → Prop} {R : Result → Shared → Prop} (W : WalksS P w A.in1 I fp wr G n Pv St) (T : Addr) (off : T ∉ fp) (ys : List Str)
    (hn : n = ys.length) (room : ys.length + 1 < scanBound) (val : ∀ i v, Pv i v → ∃ k t, ys[i]? = some k ∧ v = .str k t) : ∀ (m i : Nat) (s : Shared), n - i = m → i ≤ n → St i s → (∃ l, l.length ≤ i ∧ (∀ y, y ∈ l ↔ y ∈ ys.take i) ∧ TxSet P w s.heap T l) →
      (∀ s' l, Moved (T :: wr) G s s' → l.length ≤ n → (∀ y, y ∈ l ↔ y ∈ ys) → TxSet P w s'.heap T l → R (.ok (.ret .none)) s') → codeAny (model P w) A (.builtin "set.update.loop" ⟨[.ref T, .ref I], []⟩) R s := by
  have offw : T ∉ wr := fun z => off (W.sub _ z)
  have more : ∀ b ∈ wr, b ∈ T :: wr := fun b z => List.mem_cons_of_mem _ z
  intro m
  induction m with
  | zero =>
    rintro i s e le st ⟨l, hl, mem, R1⟩ fin
    obtain rfl : i = n := by omega
    refine codeAny_builtin PyProof.Rows.F.entry_set_update_loop ?_
    rw [Around.under_plainId PyProof.Rows.F.plain_set_update_loop _]
    show wpAny _ A.in1 (pyNext (.ref I) >>= _) _ _ s
    refine wpAny_bind (W.done s _ _ st fun s' mv => ?_)
    show wpAny _ A.in1 (ret Value.none) _ _ s'
    refine wpAny_pure (fin s' l (mv.mono more) hl (fun y => ?_) (R1.at fun o z => mv.heap T o offw z))
    rw [mem y, List.take_of_length_le (by omega)]
  | succ m ih =>
    rintro i s e le st ⟨l, hl, mem, R1⟩ fin
    have lt : i < n := by omega
    refine codeAny_builtin PyProof.Rows.F.entry_set_update_loop ?_
    rw [Around.under_plainId PyProof.Rows.F.plain_set_update_loop _]
    show wpAny _ A.in1 (pyNext (.ref I) >>= _) _ _ s
    refine wpAny_bind (W.item i s _ _ lt st fun v s' hv st' mv => ?_)
    obtain ⟨y, t, hy, rfl⟩ := val i v hv
    have R2 : TxSet P w s'.heap T l := R1.at fun o z => mv.heap T o offw z
    show wpAny _ A.in1 (holding [Value.str y t] (setAdd T (.str y t)) >>= _) _ _ s'
    refine wpAny_bind (wpAny_holding ?_)
    unfold setAdd
    refine wpAny_holding ?_
    refine wpAny_bind ((PySem.strKind P w).pyHash (k := y) (Froz.is_str y t) ?_)
    refine tx_put (s := { s' with toks := s'.toks + 1 }) R2 (by omega) fun h' oth sz R3 => ?_
    have len : (if y ∈ l then l else y :: l).length ≤ i + 1 := by
      split
      · omega
      · rw [List.length_cons]; omega
    have mem3 : ∀ z, z ∈ (if y ∈ l then l else y :: l) ↔ z ∈ ys.take (i + 1) := fun z => by
      rw [List.take_add_one, hy, List.mem_append, ← mem z]
      by_cases c : y ∈ l
      · rw [if_pos c]
        constructor
        · exact .inl
        · rintro (q | q)
          · exact q
          · have : z = y := by simpa using q
            rw [this]; exact c
      · rw [if_neg c, List.mem_cons]
        constructor
        · rintro (q | q)
          · exact .inr (by rw [q]; simp)
          · exact .inl q
        · rintro (q | q)
          · exact .inr q
          · exact .inl (by simpa using q)
    refine wpAny_pure ⟨plainId_quiet PyProof.Rows.F.plain_set_update_loop _, ih (i + 1) _ (by omega) lt (W.frame _ s' _ _ st' (Nat.le_succ _) fun b hb o z => ?_) ⟨_, len, mem3, R3⟩ fun s2 l2 mv2 le2 mem2 R4 => ?_⟩
    · rw [oth b fun q : b = T => off (by rw [← q]; exact hb)]
      exact z
    · refine fin s2 l2 (Moved.trans W.gtrans ((mv.mono more).then_heap (Nat.le_succ _) fun b o hb z => ?_) mv2) le2 mem2 R4
      rw [oth b fun q : b = T => hb (by rw [q]; exact List.mem_cons_self)]
      exact z
end
section
open PyProof.Rows
variable {P : Program} {w : World} {A : Around} {E : Value → Shared → Prop} {s : Shared}
theorem txt_get : ∀ {us : List Value} {ys : List Str} {i : Nat} {v : Value}, StrsAre us ys → us[i]? = some v → ∃ k t, ys[i]? = some k ∧ v = .str k t
  | _, _, i, v, .nil, h => by simp at h
  | _, _, 0, v, .cons y t r, h => by
    have e : Value.str y t = v := by simpa using h
    exact ⟨y, t, rfl, e.symm⟩
  | _, _, i + 1, v, .cons y t r, h => by
    obtain ⟨k, t', h1, h2⟩ := txt_get (i := i) r (by simpa using h)
    exact ⟨k, t', by simpa using h1, h2⟩
abbrev blankS (w : World) : Obj := { cls := .type "set", dict := none, data := .set #[] 0 (.fresh 0 0 (!w.params.followText "set-order")) }
/-- set(l), l a list of texts -/
theorem tx_make {l : Addr} {its : Array Value} {ys : List Str} {Q : Value → Shared → Prop} (calm : A.handled = none) (hl : s.heap.IsList l its) (hy : StrsAre its.toList ys) (room : ys.length + 1 < scanBound)
    (q : ∀ h' tk l', (∀ b o, s.heap.get? b = some o → h'.get? b = some o) → l'.length ≤ ys.length → (∀ y, y ∈ l' ↔ y ∈ ys) → TxSet P w h' s.heap.objs.size l' → Q (.ref s.heap.objs.size) { s with heap := h', toks := tk }) : wpAny (model P w) A (call (.type "set") [.ref l]) Q E s := by
  have many : ys.length = its.size := by rw [← StrsAre.len_eq hy, Array.length_toList]
  obtain ⟨c, tl, hmro⟩ := F.called_set.mro
  have made := F.called_set.made
  have sub := F.called_set.sub
  refine wpAny_call (codeAny_of_tree ?_)
  show wpAny _ _ (callAny (.type "set") _) _ _ _
  refine wpAny_pure ⟨Code.quiet_builtin _ (by decide +kernel), codeAny_builtin F.entry_type_call ?_⟩
  rw [Around.under_plain (weight_type_call_type "set" [.ref l] []) rfl]
  have g1 := F.called_set.notType
  have g2 := F.called_set.canCreate
  have g3 := F.typeCall_set_1 (.ref l)
  repeat (any_goals (first | assumption | wp_step))
  refine codeAny_mono (code_set_led1 (.ref l) (E := E) (Q₁ := fun ob s1 => ob = .ref s.heap.objs.size ∧ s1 = { s with heap := s.heap.push (blankS w) }) ⟨rfl, rfl⟩) fun r s1 hr => ?_
  cases r with
  | error e => exact hr
  | ok fl =>
    cases fl with
    | next => exact hr.elim
    | brk => exact hr.elim
    | cont => exact hr.elim
    | ret ob =>
      obtain ⟨rfl, rfl⟩ := hr
      have at0 : (s.heap.push (blankS w)).get? s.heap.objs.size = some (blankS w) := Heap.get?_push_size _ rfl
      have ty : Shared.TypeIs { s with heap := s.heap.push (blankS w) } (.ref s.heap.objs.size) "set" := ⟨_, at0, rfl⟩
      have g4 := F.called_set.init.lookup
      have g5 := F.called_set.init.bind (.ref s.heap.objs.size)
      repeat (any_goals (first | assumption | wp_step))
      refine codeAny_mono (codeAny_call_builtin (R := wants (fun r s2 => r = .none ∧ ∃ h' tk l', s2 = { s with heap := h', toks := tk } ∧ (∀ b o, s.heap.get? b = some o → h'.get? b = some o) ∧ l'.length ≤ ys.length ∧ (∀ y, y ∈ l' ↔ y ∈ ys) ∧ TxSet P w h' s.heap.objs.size l') E)
        F.called_set.init.plain F.entry_set_init (check_set_init_1 ty ?_)) fun r2 s2 hr2 => ?_
      · obtain ⟨⟨oc, od, oda, osl⟩, ol, oc', k, od'⟩ := hl
        simp only at oc' od'
        subst oc' od'
        have ol' := Heap.get?_push_of_some (blankS w) ol
        have g6 := F.sub_list_set
        have g7 := F.sub_list_frozenset
        have g8 : (Value.type "list" == Value.type "dict") = false := by decide
        have li : (s.heap.push (blankS w)).IsList l its := ⟨_, ol', rfl, k, rfl⟩
        unfold Builtin.«set.__init__» noKeywords Builtin.Frozenset.updateFrom
        generalize hPI : pyIter = PI
        wp_walk
        subst hPI
        refine wpAny_pyIter_list li (wpAny_bind (wpAny_runValue ?_))
        have ltl : l < s.heap.objs.size := Heap.lt_size ol
        have sz1 : (s.heap.push (blankS w)).objs.size = s.heap.objs.size + 1 := Heap.size_push ..
        have nl : l ≠ (s.heap.push (blankS w)).objs.size := by rw [sz1]; exact Nat.ne_of_lt (Nat.lt_succ_of_lt ltl)
        have off : s.heap.objs.size ∉ [(s.heap.push (blankS w)).objs.size, l] := by
          rw [sz1]
          intro z
          rcases List.mem_cons.mp z with z | z
          · exact Nat.ne_of_lt (Nat.lt_succ_self _) z
          · exact Nat.ne_of_gt ltl (List.mem_singleton.mp z)
        have val : ∀ (i : Nat) (v : Value), its[i]? = some v → ∃ k t, ys[i]? = some k ∧ v = .str k t := fun i v hv => by
          have hi : i < ys.length := by rw [many]; exact (Array.getElem?_eq_some_iff.mp hv).1
          exact txt_get hy (by rw [Array.getElem?_toList]; exact hv)
        refine tx_loop (P := P) ((Walks.list (by simp [calm]) _ l nl its).toS) s.heap.objs.size off ys many.symm room val (its.size - 0) 0 _ (by omega) (Nat.zero_le _) ⟨⟨_, Heap.get?_push_size _ rfl, rfl, rfl⟩, li.push _⟩ ⟨[], Nat.le_refl 0, fun y => by simp, TxSet.fresh (Heap.get?_push_of_some _ at0)⟩ fun s' l' mv le mem R => ?_
        obtain ⟨h', g', d', tk', os'⟩ := s'
        obtain rfl : g' = s.gens := mv.gens
        obtain rfl : d' = s.drawn := mv.drawn
        obtain rfl : os' = s.os := mv.os
        show wpAny _ _ _ _ _ _
        refine wpAny_pure ?_
        show wpAny _ _ (ret Value.none) _ _ _
        refine wpAny_pure ⟨rfl, h', tk', l', rfl, fun b o z => ?_, by rw [many]; exact le, mem, R⟩
        have ltb := Heap.lt_size z
        refine mv.heap b o ?_ (Heap.get?_push_of_some _ (Heap.get?_push_of_some _ z))
        rw [sz1]
        intro z
        rcases List.mem_cons.mp z with z | z
        · exact Nat.ne_of_lt ltb z
        · exact Nat.ne_of_lt (Nat.lt_succ_of_lt ltb) (List.mem_singleton.mp z)
      · cases r2 with
        | error e => exact hr2
        | ok fl2 =>
          cases fl2 with
          | next => exact hr2.elim
          | brk => exact hr2.elim
          | cont => exact hr2.elim
          | ret r =>
            obtain ⟨rfl, h', tk, l', rfl, kp, le, mem, R⟩ := hr2
            repeat (any_goals (first | assumption | wp_step))
            exact q _ _ _ kp le mem R
end
end Fb
set_option maxRecDepth 100000
set_option maxHeartbeats 4000000
namespace Fb
open PySem PySem.Spec PyProof.Rows L2
/-! a set of texts, sorted; the rules by values -/
section
variable {P : Program} {w : World} {A : Around} {E : Value → Shared → Prop} {s : Shared} {a : Addr} {l : List Str}
theorem strs_of : ∀ vs : List Value, (∀ v ∈ vs, ∃ x t, v = Value.str x t) → StrsAre vs (vs.map strOf)
  | [], _ => .nil
  | v :: vs, h => by
    obtain ⟨x, t, rfl⟩ := h v List.mem_cons_self
    exact .cons x t (strs_of vs fun u hu => h u (List.mem_cons_of_mem _ hu))
theorem tx_sorted {Q : Value → Shared → Prop} (R : TxSet P w s.heap a l) (calm : A.handled = none) (room : l.length < scanBound)
    (q : ∀ s' p (out : Array Value) (c : Nat) (ys : List Str), (∀ b o, s.heap.get? b = some o → s'.heap.get? b = some o) → s'.gens = s.gens → s'.os = s.os → s.heap.objs.size ≤ p → s'.heap.get? p = some (seqObj "list" out c) → StrsAre out.toList ys → ys.Perm l → sortedS ys = true → Q (.ref p) s') :
    wpAny (model P w) A (call (.builtin "sorted") [.ref a]) Q E s := by
  obtain ⟨⟨es, ep, t⟩, ho, F, nd, pm, gs, hr, hl⟩ := R
  have small : es.size < scanBound := by have : es.size = l.length := F.sz; omega
  refine Calls.call_function_entry kind_sorted plain_sorted entry_sorted (args_sorted1 _) ?_
  unfold Builtin.«sorted»
  refine wpAny_bind (m := checkCount "sorted" 1 1 _) (wpAny_pure (wpAny_bind (collect_set (A := A.in1) (es := es) (ep := ep) (t := t) calm ⟨_, ho, rfl, rfl⟩ F.fit small hr hl fun s1 vs kp sz1 g1 o1 pv => ?_)))
  have texts := strs_of vs fun v hv => by
    obtain ⟨e, he, z⟩ := List.mem_map.mp (pv.mem_iff.mp hv)
    obtain ⟨x, u, h⟩ := gs e he
    exact ⟨x, u, by rw [← z]; exact h⟩
  have pl : (vs.map strOf).Perm l := by
    have z := pv.map strOf
    rw [List.map_map] at z
    exact z.trans pm
  have few : vs.length ≤ sizeLine := by
    have z : vs.length = es.size := by rw [pv.length_eq, List.length_map, Array.length_toList]
    rw [z]
    exact fits_of_scanBound small
  refine wpAny_bind (wpAny_newList ?_ few)
  have at1 : (s1.heap.push (seqObj "list" vs.toArray 0)).get? s1.heap.objs.size = some (seqObj "list" vs.toArray 0) := Heap.get?_push_size _ rfl
  refine wpAny_bind (wpAny_holding (wpAny_call_entry slot_list_sort ⟨_, at1, rfl⟩ entry_list_sort (list_sort_treeKAny strKind_oneLt at1 texts.keysOf (fun v1 v2 rest e => ?_) few fun st hp hs => ⟨_, rfl, ?_⟩) (args_list_sort _)))
  · rw [e] at texts
    exact keyKind_strs texts
  · obtain ⟨ys, h1, h2, h3⟩ := sorted_out_str texts hp hs
    obtain ⟨c, hc⟩ := sortedHeap_at (vs := vs) (out := (arrOf st).map (·.2)) at1
    refine wpAny_pure ⟨_, rfl, q _ s1.heap.objs.size _ c ys (fun b o z => ?_) g1 o1 sz1 hc h1 (h2.trans pl) h3⟩
    have z1 := kp b o z
    have lt := Heap.lt_size z1
    show (sortedHeap (s1.heap.push (seqObj "list" vs.toArray 0)) s1.heap.objs.size vs _).get? b = some o
    rw [sortedHeap_old (Nat.ne_of_lt lt) (by rw [size_push']; exact Nat.lt_succ_of_lt lt)]
    exact Heap.get?_push_of_some _ z1
end
theorem vals_txt : ∀ {us : List Value} {ys : List Str}, StrsAre us ys → Vals (ys.map V.str) us
  | _, _, .nil => .nil
  | _, _, .cons y t r => .cons ⟨t, rfl⟩ (vals_txt r)
/-- at a: a set of the texts l -/
def SetTx (P : Program) (w : World) (a : Addr) (l : List Str) : HO := .ext fun h => TxSet P w h a l
section
variable {X : Cx}
def rSetL (K : PySem.W.Frag) (P : Program) (w : World) : List V → Hp → VK → Prop := fun xs H Q => ∃ (p : Addr) (ys : List Str), xs = [.ref p] ∧ SqL K H p (ys.map V.str) ∧ ys.length ≤ 2000 ∧
  ∀ (a : Addr) (l : List Str), (∀ y, y ∈ l ↔ y ∈ ys) → l.Nodup → l.length ≤ ys.length → H a = none → Q (.ref a) (upd H a (SetTx P w a l))
theorem TxSet.nodup {P : Program} {w : World} {h : Heap} {a : Addr} {l : List Str} (R : TxSet P w h a l) : l.Nodup := by
  obtain ⟨D, _, _, nd, _⟩ := R
  exact nd
theorem call_setL (hc : X.calm = true) : CallR X (.type "set") (rSetL X.K X.prog X.w) := by
  intro pins s σ H xs us Q I r h
  obtain ⟨p, ys, rfl, hs, few, q⟩ := h
  obtain ⟨its, rv, ⟨ob, n, ho, hcl, hdi, hdat⟩, hl⟩ := I.list hs
  rw [Vals.ref1 r]
  refine tx_make (I.ok.hd hc) ⟨ob, ho, hcl, n, hdat⟩ (by simpa using rv.strs) (by unfold scanBound; omega) fun h' tk l' kp le mem R => ?_
  have nd := R.nodup
  exact ⟨.ref s.heap.objs.size, upd H s.heap.objs.size (SetTx X.prog X.w s.heap.objs.size l'), I.laid kp (Nat.le_refl _) ⟨R, by obtain ⟨D, e, _⟩ := R; exact ⟨_, e⟩, fun h1 h2 R k => R.at k⟩, rfl, q _ l' mem nd le (I.hok.fresh (Nat.le_refl _))⟩
def rSortT (P : Program) (w : World) : List V → Hp → VK → Prop := fun xs H Q => ∃ (a : Addr) (l : List Str), xs = [.ref a] ∧ H a = some (SetTx P w a l) ∧ l.length ≤ 2000 ∧
  ∀ (p : Addr) (ys : List Str), ys.Perm l → sortedS ys = true → H p = none → Q (.ref p) (upd H p (.lst (ys.map V.str)))
theorem call_sortT (hc : X.calm = true) : CallR X (.builtin "sorted") (rSortT X.prog X.w) := by
  intro pins s σ H xs us Q I r h
  obtain ⟨a, l, rfl, ha, few, q⟩ := h
  rw [Vals.ref1 r]
  have R : TxSet X.prog X.w s.heap a l := (I.hok a _ ha).1
  refine tx_sorted R (I.ok.hd hc) (by unfold scanBound; omega) fun s' p out c ys kp g1 o1 sz hp st pm so => ?_
  have new : H p = none := I.hok.fresh sz
  have len : (ys.map V.str).length ≤ sizeLine := by rw [List.length_map, pm.length_eq, sizeLine_eq]; omega
  have J : Inv X pins σ (upd H p (.lst (ys.map V.str))) ⟨s'.heap, s'.gens, s'.drawn, s'.toks, s.os⟩ := I.call (ch := []) (Un.laid kp sz new) (I.hok.laid kp sz ⟨len, out.toList, c, vals_txt st, hp⟩) (by rw [g1]; exact I.bare) (fun _ z => nomatch z)
  have e : s' = ⟨s'.heap, s'.gens, s'.drawn, s'.toks, s.os⟩ := by
    rw [← o1]
  rw [e]
  exact ⟨.ref p, _, J, rfl, q p ys pm so new⟩
end
end Fb
set_option maxRecDepth 100000
set_option maxHeartbeats 4000000
namespace Fb
open PySem PySem.Spec PyProof.Rows L2
open Sem (wp)
/-! enumerate(zip(text, text)), whose inner tuples stay out: the zip makes a new one each time -/
def ZF (h : Heap) (z TI TO : Addr) (v : Value) (f : Bool) : Prop := h.get? z = some { cls := .type "zip", dict := none, data := .fields #[v, .bool f, .bool false, .ref TI, .ref TO], slots := #[] }
def HV (v : Value) : Prop := v = .none ∨ ∃ T : Addr, v = rawInt T
section
variable {prog : Program} {w : World} {A : Around} {E : Value → Shared → Prop} {s : Shared} {z TI TO i1 i2 : Addr} {fp1 fp2 : List Addr} {n1 n2 i : Nat} {P1 P2 : Nat → Value → Prop} {St1 St2 : Nat → Heap → Prop} {a1 a2 v : Value} {f : Bool}
theorem free_any {Q : Bool → Shared → Prop} (hz : ZF s.heap z TI TO v f) (hv : HV v) (q1 : Q true s) (q0 : ∀ h', ZF h' z TI TO v true → Heap.SameBut z s.heap h' → Q false { s with heap := h' }) :
    wpAny (model prog w) A (Builtin.SmallTypes.ownedTupleIsFree (.ref z)) Q E s := by
  unfold Builtin.SmallTypes.ownedTupleIsFree
  rcases hv with rfl | ⟨T, rfl⟩
  · exact wpAny_bind (wpAny_field hz rfl (x := .none) rfl (wpAny_pure q1))
  refine wpAny_bind (wpAny_field hz rfl (x := rawInt T) rfl ?_)
  show wpAny _ _ (loadIfAlive ((T : Int).toNat) >>= fun r => _) _ _ _; rw [Int.toNat_natCast]
  refine wpAny_bind (fun _ _ _ => ?_)
  show wpAny _ _ (_ : Sem Bool) Q E s
  cases hT : s.heap.get? T with
  | none => simp only [Option.isNone_none, if_true]; exact wpAny_pure q1
  | some oT =>
    simp only [Option.isNone_some, Bool.false_eq_true, if_false]
    refine wpAny_bind (wpAny_field hz rfl (x := .bool f) rfl ?_)
    cases f
    · rw [if_pos (show (Value.bool false != Value.bool true) = true by rfl)]
      exact wpAny_bind (wpAny_setField_rec hz (by simp) fun g hg sg => wpAny_pure (q0 g hg sg))
    · rw [if_neg (show ¬ (Value.bool true != Value.bool true) = true by exact Bool.false_ne_true)]
      exact wpAny_pure (q0 _ hz (Heap.SameBut.refl _ _))
theorem ZF.put {h h' : Heap} {x : Addr} (e : ZF h z TI TO v f) (sb : Heap.SameBut x h h') (ne : z ≠ x) : ZF h' z TI TO v f := sb.extBut _ _ ne e
theorem zipN_item {Q : Value → Shared → Prop} (S : ZipSep2 z TI TO i1 i2 fp1 fp2) (D1 : Draws prog w A i1 fp1 n1 P1 St1) (D2 : Draws prog w A i2 fp2 n2 P2 St2)
    (hz : ZF s.heap z TI TO v f) (hv : HV v) (hTI : IsTupOf2 s.heap TI (.ref i1) (.ref i2)) (hTO : IsTupOf2 s.heap TO a1 a2) (st1 : St1 i s.heap) (st2 : St2 i s.heap) (lt1 : i < n1) (lt2 : i < n2)
    (k : ∀ x1 x2 h' tk v' f' b1 b2, P1 i x1 → P2 i x2 → HV v' → ZF h' z TI TO v' f' → IsTupOf2 h' TO b1 b2 → St1 (i + 1) h' → St2 (i + 1) h' → IsTupOf2 h' s.heap.objs.size x1 x2 → h'.objs.size = s.heap.objs.size + 1 →
      (∀ c o, c ≠ z → c ≠ TO → c ≠ i1 → c ≠ i2 → s.heap.get? c = some o → h'.get? c = some o) → Q (.ref s.heap.objs.size) { s with heap := h', toks := tk }) :
    wpAny (model prog w) A (Builtin.«zip.__next__» ⟨[.ref z], []⟩) (fun fin s' => ∃ v, fin = .done (.ret v) ∧ Q v s') E s := by
  obtain ⟨hp, g, d, t0, os⟩ := s
  show wpAny _ _ (field (.ref z) 2 >>= fun r => _) _ _ _; refine wpAny_bind (wpAny_field hz rfl (x := .bool false) rfl ?_)
  show wpAny _ _ (field (.ref z) 3 >>= fun r => _) _ _ _; refine wpAny_bind (wpAny_field hz rfl (x := .ref TI) rfl ?_)
  refine wpAny_bind (wpAny_seqItems hTI rfl ?_)
  show wpAny _ _ (Builtin.SmallTypes.ownedTupleIsFree (.ref z) >>= fun r => _) _ _ _
  refine wpAny_bind (free_any hz hv ?_ fun g0 zz0 s0 => ?_)
  · -- the tuple is free: it is filled again, a copy is given
    simp only [if_true]
    refine wpAny_bind (wpAny_rule (wpAny_bind (wpAny_field hz rfl (x := .ref TO) rfl ?_)))
    refine wpAny_bind (wpAny_setField_rec hz (by simp) fun g0 zz0 s0 => ?_)
    replace zz0 : ZF g0 z TI TO .ellipsis f := zz0; replace s0 : Heap.SameBut z hp g0 := s0
    refine wpAny_bind ?_; simp only [List.zipIdx_cons, List.zipIdx_nil, List.forIn_cons, List.forIn_nil]
    refine wpAny_bind (wpAny_bind (wpAny_onRaise ?_))
    show wpAny _ _ (Builtin.SmallTypes.nextOf (.ref i1) >>= fun r => _) _ _ ⟨g0, g, d, t0, os⟩
    refine wpAny_bind (D1.item i _ _ _ lt1 (D1.over st1 s0 S.zf1) fun x1 p1 t1 e1 y1 r1 => wpAny_pure ?_)
    replace r1 : Heap.SameBut i1 g0 p1 := r1
    have U1 : IsTupOf2 p1 TO a1 a2 := r1.extBut _ _ S.Ti1 (s0.extBut _ _ S.TOz hTO)
    refine wpAny_bind (wpAny_seqItems (s := ⟨p1, g, d, t1, os⟩) U1 rfl (wpAny_bind (updateSeq_IsTupOf2 (s := ⟨p1, g, d, t1, os⟩) U1 fun g1 V1 s1 => ?_)))
    replace V1 : IsTupOf2 g1 TO x1 a2 := V1; replace s1 : Heap.SameBut TO p1 g1 := s1
    refine wpAny_bind (wpAny_letGo (wpAny_pure (wpAny_bind (wpAny_bind (wpAny_onRaise ?_)))))
    show wpAny _ _ (Builtin.SmallTypes.nextOf (.ref i2) >>= fun r => _) _ _ ⟨g1, g, d, t1, os⟩
    refine wpAny_bind (D2.item i _ _ _ lt2 (D2.over (D2.over (D2.over st2 s0 S.zf2) r1 S.sep1_2) s1 S.Tf2) fun x2 p2 t2 e2 y2 r2 => wpAny_pure ?_)
    replace r2 : Heap.SameBut i2 g1 p2 := r2
    have U2 : IsTupOf2 p2 TO x1 a2 := r2.extBut _ _ S.Ti2 V1
    refine wpAny_bind (wpAny_seqItems (s := ⟨p2, g, d, t2, os⟩) U2 rfl (wpAny_bind (updateSeq_IsTupOf2 (s := ⟨p2, g, d, t2, os⟩) U2 fun g2 V2 s2 => ?_)))
    replace V2 : IsTupOf2 g2 TO x1 x2 := V2; replace s2 : Heap.SameBut TO p2 g2 := s2
    refine wpAny_bind (wpAny_letGo (wpAny_pure (wpAny_pure (wpAny_bind (wpAny_seqItems (s := ⟨g2, g, d, t2, os⟩) V2 rfl (wpAny_bind (wpAny_newTuple ?_)))))))
    have sz : g2.objs.size = hp.objs.size := by rw [s2.1, r2.1, s1.1, r1.1, s0.1]
    have Z2 : ZF g2 z TI TO .ellipsis f := (((zz0.put r1 S.zi1).put s1 S.TOz.symm).put r2 S.zi2).put s2 S.TOz.symm
    have all : ∀ c o, c ≠ z → c ≠ TO → c ≠ i1 → c ≠ i2 → hp.get? c = some o → g2.get? c = some o := fun c o cz cT c1 c2 e => s2.extBut _ _ cT (r2.extBut _ _ c2 (s1.extBut _ _ cT (r1.extBut _ _ c1 (s0.extBut _ _ cz e))))
    have j1 : St1 (i + 1) g2 := D1.over (D1.over (D1.over y1 s1 S.Tf1) r2 S.sep2_1) s2 S.Tf1
    have j2 : St2 (i + 1) g2 := D2.over y2 s2 S.Tf2
    have zlt : z < g2.objs.size := Heap.lt_size Z2
    show wpAny _ _ (Builtin.SmallTypes.ownedTupleHandOut (.ref z) (.ref g2.objs.size) >>= fun r => _) _ _ ⟨g2.push { cls := .type "tuple", data := .seq #[x1, x2] }, g, d, t2, os⟩
    refine wpAny_bind ?_; unfold Builtin.SmallTypes.ownedTupleHandOut
    have Z3 : ZF (g2.push { cls := .type "tuple", data := .seq #[x1, x2] }) z TI TO .ellipsis f := Heap.get?_push_of_some _ Z2
    refine wpAny_bind (wpAny_setField_rec Z3 (by simp) fun g4 Z4 s4 => ?_)
    replace Z4 : ZF g4 z TI TO (rawInt g2.objs.size) f := Z4
    refine wpAny_setField_rec Z4 (by simp) fun g5 Z5 s5 => ?_
    replace Z5 : ZF g5 z TI TO (rawInt g2.objs.size) false := Z5
    replace s4 : Heap.SameBut z (g2.push { cls := .type "tuple", data := .seq #[x1, x2] }) g4 := s4; replace s5 : Heap.SameBut z g4 g5 := s5
    have up : ∀ c o, c ≠ z → g2.get? c = some o → g5.get? c = some o := fun c o c1 e => s5.extBut _ _ c1 (s4.extBut _ _ c1 (Heap.get?_push_of_some _ e))
    have T5 : IsTupOf2 g5 g2.objs.size x1 x2 := s5.extBut _ _ (Nat.ne_of_gt zlt) (s4.extBut _ _ (Nat.ne_of_gt zlt) (Heap.get?_push_size _ rfl))
    have z5 : g5.objs.size = g2.objs.size + 1 := by rw [s5.1, s4.1, Heap.size_push]
    rw [sz] at T5 z5
    refine wpAny_pure ⟨_, rfl, ?_⟩
    show Q (.ref g2.objs.size) ⟨g5, g, d, t2, os⟩; rw [sz]
    exact k x1 x2 g5 t2 _ _ _ _ e1 e2 (.inr ⟨_, rfl⟩) Z5 (up _ _ S.TOz V2) (D1.frame _ _ _ j1 fun b hb o e => up b o (fun q => S.zf1 (q ▸ hb)) e) (D2.frame _ _ _ j2 fun b hb o e => up b o (fun q => S.zf2 (q ▸ hb)) e) T5 z5 fun c o cz cT c1 c2 e => up c o cz (all c o cz cT c1 c2 e)
  · -- it is still out: a new one
    replace s0 : Heap.SameBut z hp g0 := s0
    simp only [Bool.false_eq_true, if_false]
    refine wpAny_bind ?_; rw [← Array.forIn_toList]; simp only [List.forIn_cons, List.forIn_nil]
    refine wpAny_bind (wpAny_bind (wpAny_holding ?_))
    show wpAny _ _ (Builtin.SmallTypes.nextOf (.ref i1) >>= fun r => _) _ _ ⟨g0, g, d, t0, os⟩
    refine wpAny_bind (D1.item i _ _ _ lt1 (D1.over st1 s0 S.zf1) fun x1 p1 t1 e1 y1 r1 => wpAny_pure (wpAny_pure ?_))
    replace r1 : Heap.SameBut i1 g0 p1 := r1
    refine wpAny_bind (wpAny_bind (wpAny_holding ?_))
    show wpAny _ _ (Builtin.SmallTypes.nextOf (.ref i2) >>= fun r => _) _ _ ⟨p1, g, d, t1, os⟩
    refine wpAny_bind (D2.item i _ _ _ lt2 (D2.over (D2.over st2 s0 S.zf2) r1 S.sep1_2) fun x2 p2 t2 e2 y2 r2 => wpAny_pure (wpAny_pure (wpAny_pure ?_)))
    replace r2 : Heap.SameBut i2 p1 p2 := r2
    show wpAny _ _ (newTuple [x1, x2] >>= fun r => _) _ _ ⟨p2, g, d, t2, os⟩; refine wpAny_bind (wpAny_newTuple ?_)
    have sz : p2.objs.size = hp.objs.size := by rw [r2.1, r1.1, s0.1]
    have Z2 : ZF p2 z TI TO v true := (zz0.put r1 S.zi1).put r2 S.zi2
    have all : ∀ c o, c ≠ z → c ≠ i1 → c ≠ i2 → hp.get? c = some o → p2.get? c = some o := fun c o cz c1 c2 e => r2.extBut _ _ c2 (r1.extBut _ _ c1 (s0.extBut _ _ cz e))
    have up : ∀ c o, p2.get? c = some o → (p2.push { cls := .type "tuple", data := .seq #[x1, x2] }).get? c = some o := fun c o e => Heap.get?_push_of_some _ e
    have T5 : IsTupOf2 (p2.push { cls := .type "tuple", data := .seq #[x1, x2] }) p2.objs.size x1 x2 := Heap.get?_push_size _ rfl
    have z5 : (p2.push { cls := .type "tuple", data := .seq #[x1, x2] }).objs.size = p2.objs.size + 1 := Heap.size_push ..
    refine wpAny_pure ⟨_, rfl, ?_⟩
    show Q (.ref p2.objs.size) ⟨_, g, d, t2, os⟩; rw [sz] at T5 z5 ⊢
    exact k x1 x2 _ t2 _ _ _ _ e1 e2 hv (up _ _ Z2) (up _ _ (all _ _ S.TOz S.Ti1 S.Ti2 hTO)) (D1.frame _ _ _ (D1.over y1 r2 S.sep2_1) fun b hb o e => up b o e) (D2.frame _ _ _ y2 fun b hb o e => up b o e) T5 z5 fun c o cz cT c1 c2 e => up c o (all c o cz c1 c2 e)
theorem zipN_end {Q : Fin → Shared → Prop} (S : ZipSep2 z TI TO i1 i2 fp1 fp2) (D1 : Draws prog w A i1 fp1 n1 P1 St1) (D2 : Draws prog w A i2 fp2 n2 P2 St2)
    (hz : ZF s.heap z TI TO v f) (hv : HV v) (hTI : IsTupOf2 s.heap TI (.ref i1) (.ref i2)) (hTO : IsTupOf2 s.heap TO a1 a2) (st1 : St1 i s.heap) (st2 : St2 i s.heap) (le1 : i ≤ n1) (le2 : i ≤ n2) (hend : i = n1 ∨ i = n2)
    (k : ∀ h' tk e, (∀ c o, c ≠ z → c ≠ TO → c ≠ i1 → c ≠ i2 → s.heap.get? c = some o → h'.get? c = some o) → (∃ o, h'.get? e = some o ∧ o.cls = .type "StopIteration") → E (.ref e) { s with heap := h', toks := tk }) :
    wpAny (model prog w) A (Builtin.«zip.__next__» ⟨[.ref z], []⟩) Q E s := by
  obtain ⟨hp, g, d, t0, os⟩ := s
  show wpAny _ _ (field (.ref z) 2 >>= fun r => _) _ _ _; refine wpAny_bind (wpAny_field hz rfl (x := .bool false) rfl ?_)
  show wpAny _ _ (field (.ref z) 3 >>= fun r => _) _ _ _; refine wpAny_bind (wpAny_field hz rfl (x := .ref TI) rfl ?_)
  refine wpAny_bind (wpAny_seqItems hTI rfl ?_)
  show wpAny _ _ (Builtin.SmallTypes.ownedTupleIsFree (.ref z) >>= fun r => _) _ _ _
  refine wpAny_bind (free_any hz hv ?_ fun g0 zz0 s0 => ?_)
  · simp only [if_true]
    refine wpAny_bind (wpAny_rule (wpAny_bind (wpAny_field hz rfl (x := .ref TO) rfl ?_)))
    refine wpAny_bind (wpAny_setField_rec hz (by simp) fun g0 zz0 s0 => ?_)
    replace zz0 : ZF g0 z TI TO .ellipsis f := zz0; replace s0 : Heap.SameBut z hp g0 := s0
    refine wpAny_bind ?_; simp only [List.zipIdx_cons, List.zipIdx_nil, List.forIn_cons, List.forIn_nil]
    refine wpAny_bind (wpAny_bind (wpAny_onRaise ?_))
    show wpAny _ _ (Builtin.SmallTypes.nextOf (.ref i1) >>= fun r => _) _ _ ⟨g0, g, d, t0, os⟩
    by_cases lt1 : i < n1
    · refine wpAny_bind (D1.item i _ _ _ lt1 (D1.over st1 s0 S.zf1) fun x1 p1 t1 e1 y1 r1 => wpAny_pure ?_)
      replace r1 : Heap.SameBut i1 g0 p1 := r1
      have U1 : IsTupOf2 p1 TO a1 a2 := r1.extBut _ _ S.Ti1 (s0.extBut _ _ S.TOz hTO)
      refine wpAny_bind (wpAny_seqItems (s := ⟨p1, g, d, t1, os⟩) U1 rfl (wpAny_bind (updateSeq_IsTupOf2 (s := ⟨p1, g, d, t1, os⟩) U1 fun g1 V1 s1 => ?_)))
      replace s1 : Heap.SameBut TO p1 g1 := s1
      refine wpAny_bind (wpAny_letGo (wpAny_pure (wpAny_bind (wpAny_bind (wpAny_onRaise ?_)))))
      show wpAny _ _ (Builtin.SmallTypes.nextOf (.ref i2) >>= fun r => _) _ _ ⟨g1, g, d, t1, os⟩
      obtain rfl : i = n2 := by omega
      refine wpAny_bind (D2.done ⟨g1, g, d, t1, os⟩ _ _ (D2.over (D2.over (D2.over st2 s0 S.zf2) r1 S.sep1_2) s1 S.Tf2) fun q e xq oe => ?_)
      replace xq : Heap.ExtBut i2 g1 q := xq
      obtain ⟨ob, h1, h2⟩ := oe; replace h1 : q.get? e = some ob := h1
      have Zq : ZF q z TI TO .ellipsis f := xq _ _ S.zi2 ((zz0.put r1 S.zi1).put s1 S.TOz.symm)
      have nez : e ≠ z := fun x => by subst x; have y : q.get? e = _ := Zq; rw [y] at h1; cases h1; simp at h2
      refine wpAny_setField_rec (s := ⟨q, g, d, t1, os⟩) Zq (by simp) fun q' _ s' => ?_
      replace s' : Heap.SameBut z q q' := s'
      exact k q' t1 e (fun c o cz cT c1 c2 x => s'.extBut _ _ cz (xq _ _ c2 (s1.extBut _ _ cT (r1.extBut _ _ c1 (s0.extBut _ _ cz x))))) ⟨ob, s'.extBut _ _ nez h1, h2⟩
    · obtain rfl : i = n1 := by omega
      refine wpAny_bind (D1.done ⟨g0, g, d, t0, os⟩ _ _ (D1.over st1 s0 S.zf1) fun q e xq oe => ?_)
      replace xq : Heap.ExtBut i1 g0 q := xq
      obtain ⟨ob, h1, h2⟩ := oe; replace h1 : q.get? e = some ob := h1
      have Zq : ZF q z TI TO .ellipsis f := xq _ _ S.zi1 zz0
      have nez : e ≠ z := fun x => by subst x; have y : q.get? e = _ := Zq; rw [y] at h1; cases h1; simp at h2
      refine wpAny_setField_rec (s := ⟨q, g, d, t0, os⟩) Zq (by simp) fun q' _ s' => ?_
      replace s' : Heap.SameBut z q q' := s'
      exact k q' t0 e (fun c o cz cT c1 c2 x => s'.extBut _ _ cz (xq _ _ c1 (s0.extBut _ _ cz x))) ⟨ob, s'.extBut _ _ nez h1, h2⟩
  · replace s0 : Heap.SameBut z hp g0 := s0
    simp only [Bool.false_eq_true, if_false]
    refine wpAny_bind ?_; rw [← Array.forIn_toList]; simp only [List.forIn_cons, List.forIn_nil]
    refine wpAny_bind (wpAny_bind (wpAny_holding ?_))
    show wpAny _ _ (Builtin.SmallTypes.nextOf (.ref i1) >>= fun r => _) _ _ ⟨g0, g, d, t0, os⟩
    by_cases lt1 : i < n1
    · refine wpAny_bind (D1.item i _ _ _ lt1 (D1.over st1 s0 S.zf1) fun x1 p1 t1 e1 y1 r1 => wpAny_pure (wpAny_pure ?_))
      replace r1 : Heap.SameBut i1 g0 p1 := r1
      refine wpAny_bind (wpAny_bind (wpAny_holding ?_))
      show wpAny _ _ (Builtin.SmallTypes.nextOf (.ref i2) >>= fun r => _) _ _ ⟨p1, g, d, t1, os⟩
      obtain rfl : i = n2 := by omega
      refine wpAny_bind (D2.done ⟨p1, g, d, t1, os⟩ _ _ (D2.over (D2.over st2 s0 S.zf2) r1 S.sep1_2) fun q e xq oe => ?_)
      replace xq : Heap.ExtBut i2 p1 q := xq
      exact k q t1 e (fun c o cz cT c1 c2 x => xq _ _ c2 (r1.extBut _ _ c1 (s0.extBut _ _ cz x))) oe
    · obtain rfl : i = n1 := by omega
      refine wpAny_bind (D1.done ⟨g0, g, d, t0, os⟩ _ _ (D1.over st1 s0 S.zf1) fun q e xq oe => ?_)
      replace xq : Heap.ExtBut i1 g0 q := xq
      exact k q t0 e (fun c o cz cT c1 c2 x => xq _ _ c1 (s0.extBut _ _ cz x)) oe
theorem nextZ_item {Q : Value → Shared → Prop} (S : ZipSep2 z TI TO i1 i2 fp1 fp2) (D1 : Draws prog w A.in1 i1 fp1 n1 P1 St1) (D2 : Draws prog w A.in1 i2 fp2 n2 P2 St2)
    (hz : ZF s.heap z TI TO v f) (hv : HV v) (hTI : IsTupOf2 s.heap TI (.ref i1) (.ref i2)) (hTO : IsTupOf2 s.heap TO a1 a2) (st1 : St1 i s.heap) (st2 : St2 i s.heap) (lt1 : i < n1) (lt2 : i < n2)
    (k : ∀ x1 x2 h' tk v' f' b1 b2, P1 i x1 → P2 i x2 → HV v' → ZF h' z TI TO v' f' → IsTupOf2 h' TO b1 b2 → St1 (i + 1) h' → St2 (i + 1) h' → IsTupOf2 h' s.heap.objs.size x1 x2 → h'.objs.size = s.heap.objs.size + 1 →
      (∀ c o, c ≠ z → c ≠ TO → c ≠ i1 → c ≠ i2 → s.heap.get? c = some o → h'.get? c = some o) → Q (.ref s.heap.objs.size) { s with heap := h', toks := tk }) :
    wpAny (model prog w) A (Builtin.SmallTypes.nextOf (.ref z)) Q E s := by
  have hT : s.TypeIs (.ref z) "zip" := ⟨_, hz, rfl⟩
  unfold Builtin.SmallTypes.nextOf
  refine wpAny_bind (wpAny_callSpecial?_slot (name := Str.ofString "__next__") hT F.slot_zip_next (wpAny_call_entry F.slot_zip_next hT F.entry_zip_next ?_ (F.args_zip_next_1 _)))
  exact zipN_item S D1 D2 hz hv hTI hTO st1 st2 lt1 lt2 fun x1 x2 h' tk v' f' b1 b2 c1 c2 c3 c4 c5 c6 c7 c8 c9 c10 => wpAny_pure (k x1 x2 h' tk v' f' b1 b2 c1 c2 c3 c4 c5 c6 c7 c8 c9 c10)
theorem nextZ_end {Q : Value → Shared → Prop} (S : ZipSep2 z TI TO i1 i2 fp1 fp2) (D1 : Draws prog w A.in1 i1 fp1 n1 P1 St1) (D2 : Draws prog w A.in1 i2 fp2 n2 P2 St2)
    (hz : ZF s.heap z TI TO v f) (hv : HV v) (hTI : IsTupOf2 s.heap TI (.ref i1) (.ref i2)) (hTO : IsTupOf2 s.heap TO a1 a2) (st1 : St1 i s.heap) (st2 : St2 i s.heap) (le1 : i ≤ n1) (le2 : i ≤ n2) (hend : i = n1 ∨ i = n2)
    (k : ∀ h' tk e, (∀ c o, c ≠ z → c ≠ TO → c ≠ i1 → c ≠ i2 → s.heap.get? c = some o → h'.get? c = some o) → (∃ o, h'.get? e = some o ∧ o.cls = .type "StopIteration") → E (.ref e) { s with heap := h', toks := tk }) :
    wpAny (model prog w) A (Builtin.SmallTypes.nextOf (.ref z)) Q E s := by
  have hT : s.TypeIs (.ref z) "zip" := ⟨_, hz, rfl⟩
  unfold Builtin.SmallTypes.nextOf
  exact wpAny_bind (wpAny_callSpecial?_slot (name := Str.ofString "__next__") hT F.slot_zip_next (wpAny_call_entry F.slot_zip_next hT F.entry_zip_next (zipN_end S D1 D2 hz hv hTI hTO st1 st2 le1 le2 hend k) (F.args_zip_next_1 _)))
/-- the enumerate's step over such a zip -/
theorem enumZ_item {e : Addr} {old : Value} {Q : Option Value → Shared → Prop} (S : ZipSep2 z TI TO i1 i2 fp1 fp2) (D1 : Draws prog w A.in1.in1 i1 fp1 n1 P1 St1) (D2 : Draws prog w A.in1.in1 i2 fp2 n2 P2 St2)
    (he : IsEnum s.heap e z i old) (ez : e ≠ z) (eT : e ≠ TO) (e1 : e ∉ fp1) (e2 : e ∉ fp2)
    (hz : ZF s.heap z TI TO v f) (hv : HV v) (hTI : IsTupOf2 s.heap TI (.ref i1) (.ref i2)) (hTO : IsTupOf2 s.heap TO a1 a2) (st1 : St1 i s.heap) (st2 : St2 i s.heap) (lt1 : i < n1) (lt2 : i < n2)
    (k : ∀ x1 x2 h' tk t v' f' b1 b2, P1 i x1 → P2 i x2 → HV v' → ZF h' z TI TO v' f' → IsTupOf2 h' TO b1 b2 → St1 (i + 1) h' → St2 (i + 1) h' → IsTupOf2 h' s.heap.objs.size x1 x2 → h'.objs.size = s.heap.objs.size + 2 →
      IsTupOf2 h' (s.heap.objs.size + 1) (.int i t) (.ref s.heap.objs.size) → IsEnumOut h' e z ((i : Int) + 1) (.ref s.heap.objs.size) (s.heap.objs.size + 1) →
      (∀ c o, c ≠ e → c ≠ z → c ≠ TO → c ≠ i1 → c ≠ i2 → s.heap.get? c = some o → h'.get? c = some o) → Q (some (.ref (s.heap.objs.size + 1))) { s with heap := h', toks := tk }) :
    wpAny (model prog w) A (pyNext (.ref e)) Q E s := by
  have hT : s.TypeIs (.ref e) "enumerate" := ⟨_, he, rfl⟩
  unfold pyNext
  refine wpAny_bind (wpAny_attempt (wpAny_callSpecial?_slot (name := Str.ofString "__next__") hT F.slot_enumerate_next (wpAny_call_entry F.slot_enumerate_next hT F.entry_enumerate_next ?_ (F.args_enumerate_next_1 _))))
  obtain ⟨hp, g, d, t0, os⟩ := s
  have ei1 : e ≠ i1 := fun q => e1 (q ▸ S.mem1)
  have ei2 : e ≠ i2 := fun q => e2 (q ▸ S.mem2)
  have elt : e < hp.objs.size := Heap.lt_size he
  show wpAny _ _ (field (.ref e) 2 >>= fun r => _) _ _ _; refine wpAny_bind (wpAny_field he rfl (x := .ref z) rfl ?_)
  refine wpAny_bind (nextZ_item S D1 D2 hz hv hTI hTO st1 st2 lt1 lt2 fun x1 x2 q t v' f' b1 b2 c1 c2 c3 c4 c5 c6 c7 c8 c9 c10 => ?_)
  replace c8 : IsTupOf2 q hp.objs.size x1 x2 := c8; replace c9 : q.objs.size = hp.objs.size + 1 := c9; replace c10 : ∀ c o, c ≠ z → c ≠ TO → c ≠ i1 → c ≠ i2 → hp.get? c = some o → q.get? c = some o := c10
  have E1 : IsEnum q e z i old := c10 _ _ ez eT ei1 ei2 he
  show wpAny _ _ (field (.ref e) 3 >>= fun r => _) _ _ ⟨q, g, d, t, os⟩; refine wpAny_bind (wpAny_field E1 rfl (x := rawInt i) rfl ?_)
  show wpAny _ _ (field (.ref e) 4 >>= fun r => _) _ _ ⟨q, g, d, t, os⟩; refine wpAny_bind (wpAny_field E1 rfl (x := .none) rfl ?_)
  show wpAny _ _ (mkInt i >>= fun r => _) _ _ ⟨q, g, d, t, os⟩; refine wpAny_bind (wpAny_mkInt ?_)
  show wpAny _ _ (setField (.ref e) 3 (rawInt ((i : Int) + 1)) >>= fun r => _) _ _ ⟨q, g, d, t + 1, os⟩
  refine wpAny_bind (wpAny_setField_rec E1 (by simp) fun q2 E2 r2 => ?_)
  replace r2 : Heap.SameBut e q q2 := r2; replace E2 : IsEnum q2 e z ((i : Int) + 1) old := E2
  show wpAny _ _ (setField (.ref e) 4 .none >>= fun r => _) _ _ ⟨q2, g, d, t + 1, os⟩
  refine wpAny_bind (wpAny_setField_rec E2 (by simp) fun q3 E3 r3 => ?_)
  replace r3 : Heap.SameBut e q2 q3 := r3; replace E3 : IsEnum q3 e z ((i : Int) + 1) old := E3
  show wpAny _ _ (newTuple [.int i t, .ref hp.objs.size] >>= fun r => _) _ _ ⟨q3, g, d, t + 1, os⟩; refine wpAny_bind (wpAny_newTuple ?_)
  have E4 : IsEnum (q3.push { cls := .type "tuple", data := .seq #[.int i t, .ref hp.objs.size] }) e z ((i : Int) + 1) old := Heap.get?_push_of_some _ E3
  generalize eq4 : q3.push { cls := .type "tuple", data := .seq #[.int i t, .ref hp.objs.size] } = q4 at E4
  have z3 : q3.objs.size = hp.objs.size + 1 := by rw [r3.1, r2.1, c9]
  have T4 : IsTupOf2 q4 (hp.objs.size + 1) (.int i t) (.ref hp.objs.size) := by rw [← eq4, ← z3]; exact Heap.get?_push_size _ rfl
  have z4 : q4.objs.size = hp.objs.size + 2 := by rw [← eq4, Heap.size_push, z3]
  have up4 : ∀ c o, c ≠ e → q.get? c = some o → q4.get? c = some o := fun c o ce x => by rw [← eq4]; exact Heap.get?_push_of_some _ (r3.extBut _ _ ce (r2.extBut _ _ ce x))
  show wpAny _ _ (Builtin.SmallTypes.ownedTupleIsFree (.ref e) >>= fun r => _) _ _ ⟨q4, g, d, t + 1, os⟩
  rw [z3]; clear eq4 E3 r3 E2 r2 q2 z3 q3
  refine wpAny_bind ?_
  unfold Builtin.SmallTypes.ownedTupleIsFree
  refine wpAny_bind (wpAny_field E4 rfl (x := .none) rfl (wpAny_pure ?_)); simp only [if_true]
  refine wpAny_bind (wpAny_rule (wpAny_bind (wpAny_field E4 rfl (x := old) rfl (wpAny_bind (wpAny_setField_rec E4 (by simp) fun q5 E5 r5 => ?_)))))
  replace r5 : Heap.SameBut e q4 q5 := r5; replace E5 : IsEnum q5 e z ((i : Int) + 1) (.ref hp.objs.size) := E5
  show wpAny _ _ (Builtin.SmallTypes.ownedTupleHandOut (.ref e) (.ref (hp.objs.size + 1)) >>= fun r => _) _ _ ⟨q5, g, d, t + 1, os⟩
  refine wpAny_bind ?_; unfold Builtin.SmallTypes.ownedTupleHandOut
  refine wpAny_bind (wpAny_setField_rec E5 (by simp) fun q6 E6 r6 => ?_)
  replace r6 : Heap.SameBut e q5 q6 := r6; replace E6 : IsEnumOut q6 e z ((i : Int) + 1) (.ref hp.objs.size) (hp.objs.size + 1) := E6
  refine wpAny_setField_rec E6 (by simp) fun q7 E7 r7 => ?_
  replace r7 : Heap.SameBut e q6 q7 := r7; replace E7 : IsEnumOut q7 e z ((i : Int) + 1) (.ref hp.objs.size) (hp.objs.size + 1) := E7
  have up7 : ∀ c o, c ≠ e → q4.get? c = some o → q7.get? c = some o := fun c o ce x => r7.extBut _ _ ce (r6.extBut _ _ ce (r5.extBut _ _ ce x))
  have up : ∀ c o, c ≠ e → q.get? c = some o → q7.get? c = some o := fun c o ce x => up7 _ _ ce (up4 _ _ ce x)
  have z7 : q7.objs.size = hp.objs.size + 2 := by rw [r7.1, r6.1, r5.1, z4]
  refine wpAny_bind (wpAny_letGo (wpAny_pure ⟨_, rfl, wpAny_pure ?_⟩))
  exact k x1 x2 q7 (t + 1) t v' f' b1 b2 c1 c2 c3 (up _ _ ez.symm c4) (up _ _ eT.symm c5) (D1.frame _ _ _ c6 fun b hb o x => up b o (fun y => e1 (y ▸ hb)) x) (D2.frame _ _ _ c7 fun b hb o x => up b o (fun y => e2 (y ▸ hb)) x)
    (up _ _ (Nat.ne_of_gt elt) c8) z7 (up7 _ _ (Nat.ne_of_gt (Nat.lt_succ_of_lt elt)) T4) E7 fun c o ce cz cT d1 d2 x => up c o ce (c10 c o cz cT d1 d2 x)
theorem enumZ_end {e : Addr} {j : Int} {old : Value} {Q : Option Value → Shared → Prop} (S : ZipSep2 z TI TO i1 i2 fp1 fp2) (D1 : Draws prog w A.in1.in1 i1 fp1 n1 P1 St1) (D2 : Draws prog w A.in1.in1 i2 fp2 n2 P2 St2)
    (he : IsEnum s.heap e z j old) (hz : ZF s.heap z TI TO v f) (hv : HV v) (hTI : IsTupOf2 s.heap TI (.ref i1) (.ref i2)) (hTO : IsTupOf2 s.heap TO a1 a2) (st1 : St1 i s.heap) (st2 : St2 i s.heap) (le1 : i ≤ n1) (le2 : i ≤ n2) (hend : i = n1 ∨ i = n2)
    (k : ∀ h' tk, (∀ c o, c ≠ z → c ≠ TO → c ≠ i1 → c ≠ i2 → s.heap.get? c = some o → h'.get? c = some o) → Q none { s with heap := h', toks := tk }) :
    wpAny (model prog w) A (pyNext (.ref e)) Q E s := by
  have hT : s.TypeIs (.ref e) "enumerate" := ⟨_, he, rfl⟩
  unfold pyNext
  refine wpAny_bind (wpAny_attempt (wpAny_callSpecial?_slot (name := Str.ofString "__next__") hT F.slot_enumerate_next (wpAny_call_entry F.slot_enumerate_next hT F.entry_enumerate_next ?_ (F.args_enumerate_next_1 _))))
  show wpAny _ _ (field (.ref e) 2 >>= fun r => _) _ _ _; refine wpAny_bind (wpAny_field he rfl (x := .ref z) rfl ?_)
  refine wpAny_bind (nextZ_end S D1 D2 hz hv hTI hTO st1 st2 le1 le2 hend fun h' tk x kp hx => ?_)
  obtain ⟨o, ho, hc⟩ := hx
  refine wpAny_bind (wpAny_isInstance (T := "StopIteration") (b := true) ⟨o, ho, hc⟩ isSubtype_stop ?_)
  exact wpAny_pure (k h' tk kp)
theorem meets_enumZ (z : Addr) (TI TO : Addr) :
    Meets (Builtin.«enumerate.__new__» ⟨[.type "enumerate", .ref z], []⟩) (fun _ R s => IsZip s.heap z TI TO .none ∧
      R (.ok (.ret (.ref s.heap.objs.size))) { s with heap := s.heap.push { cls := .type "enumerate", data := .fields #[.none, .bool false, .ref z, rawInt 0, .none, .none] } }) :=
  .of_wp fun prog w A R s h => by
    obtain ⟨hp, g, d, tk, os⟩ := s; obtain ⟨h1, h⟩ := h
    have hsub := sub_enumerate
    have q1 : ∀ {A' : Around} {E : Value → Shared → Prop} {Q : Value → Shared → Prop}, Q (.ref z) ⟨hp, g, d, tk, os⟩ → wpAny (model prog w) A' (pyIter (.ref z)) Q E ⟨hp, g, d, tk, os⟩ := fun q => wpAny_pyIter_zip h1 q
    wp_walk using q1
    refine wpAny_stack_any fun st => wpAny_pure ?_
    split
    · rename_i c _ _ _ _ _
      cases (c == Value.type "enumerate") <;> (wp_walk using q1; exact ⟨_, rfl, h⟩)
    · wp_walk using q1
      exact ⟨_, rfl, h⟩
theorem call_enumZ {Q : Value → Shared → Prop} (hz : IsZip s.heap z TI TO .none)
    (k : ∀ h', IsEnum h' s.heap.objs.size z 0 .none → h'.objs.size = s.heap.objs.size + 1 → (∀ b o, s.heap.get? b = some o → h'.get? b = some o) → Q (.ref s.heap.objs.size) { s with heap := h' }) :
    wpAny (model prog w) A (call (.type "enumerate") [.ref z]) Q E s := by
  refine callType_new F.called_enumerate (by decide) (F.typeCall_enumerate_1 _) (F.newCall_enumerate_1 _) (fun obj => F.args_object_init_2 obj _) F.entry_enumerate_new (meets_enumZ z TI TO) ⟨hz, ?_⟩
  have he : IsEnum (s.heap.push { cls := .type "enumerate", data := .fields #[.none, .bool false, .ref z, rawInt 0, .none, .none] }) s.heap.objs.size z 0 .none := Heap.get?_push_size _ rfl
  exact ⟨⟨_, he, rfl⟩, k _ he (Heap.size_push ..) fun b o y => Heap.get?_push_of_some _ y⟩
end
/-- the turns: a pair of the number and a pair, both new -/
def ItZ (vals : Nat → List V) (n : Nat) : It := ⟨fun i _ => i < n, fun i H v H' => ∃ T T1, v = .ref T ∧ H T1 = none ∧ H T = none ∧ T ≠ T1 ∧ H' = upd (upd H T1 (.tup (vals i))) T (.tup [.int (i : Nat), .ref T1]), fun i _ => i = n⟩
/-- what an enumerate e over a zip z over two iterators is, behind i turns -/
def EZ (e z TI TO i1 i2 : Addr) (St1 St2 : Nat → Heap → Prop) (i : Nat) (h : Heap) : Prop :=
  (∃ old, IsEnum h e z i old) ∧ (∃ v f, HV v ∧ ZF h z TI TO v f) ∧ IsTupOf2 h TI (.ref i1) (.ref i2) ∧ (∃ a1 a2, IsTupOf2 h TO a1 a2) ∧ St1 i h ∧ St2 i h
theorem turn_Z {P : Program} {w : World} {K : PySem.W.Frag} {elts : List Expr} {kk : Nat} {tpos : Pos} {e z TI TO i1 i2 : Addr} {fp1 fp2 : List Addr} {n1 n2 : Nat} {P1 P2 : Nat → Value → Prop} {St1 St2 : Nat → Heap → Prop} {vals : Nat → List V}
    (S : ZipSep2 z TI TO i1 i2 fp1 fp2) (D1 : ∀ A : Around, A.handled = none → Draws P w A i1 fp1 n1 P1 St1) (D2 : ∀ A : Around, A.handled = none → Draws P w A i2 fp2 n2 P2 St2)
    (ez : e ≠ z) (eT : e ≠ TO) (eTI : e ≠ TI) (e1 : e ∉ fp1) (e2 : e ∉ fp2) (c1 : ∀ i h, St1 i h → ∀ b ∈ fp1, ∃ o, h.get? b = some o ∧ ∀ v, o.data ≠ .cell v) (c2 : ∀ i h, St2 i h → ∀ b ∈ fp2, ∃ o, h.get? b = some o ∧ ∀ v, o.data ≠ .cell v)
    (tell : ∀ i x y, P1 i x → P2 i y → Vals (vals i) [x, y]) (few : ∀ i, (vals i).length ≤ sizeLine) :
    Turn P w K (.Tuple elts kk tpos) (ItZ vals (min n1 n2)) (e :: z :: TI :: TO :: (fp1 ++ fp2)) e (EZ e z TI TO i1 i2 St1 St2) where
  mem := by simp
  obj := by
    rintro i h ⟨⟨old, he⟩, ⟨v, f, hv, hz⟩, hTI, ⟨a1, a2, hTO⟩, st1, st2⟩ b hb
    have hb' : b = e ∨ b = z ∨ b = TI ∨ b = TO ∨ b ∈ fp1 ∨ b ∈ fp2 := by simpa using hb
    rcases hb' with rfl | rfl | rfl | rfl | h1 | h1
    · exact ⟨_, he, fun v z => nomatch z⟩
    · exact ⟨_, hz, fun v z => nomatch z⟩
    · exact ⟨_, hTI, fun v z => nomatch z⟩
    · exact ⟨_, hTO, fun v z => nomatch z⟩
    · exact c1 i h st1 b h1
    · exact c2 i h st2 b h1
  keep := by
    rintro i h h' ⟨⟨old, he⟩, ⟨v, f, hv, hz⟩, hTI, ⟨a1, a2, hTO⟩, st1, st2⟩ k
    exact ⟨⟨old, k _ (by simp) _ he⟩, ⟨v, f, hv, k _ (by simp) _ hz⟩, k _ (by simp) _ hTI, ⟨a1, a2, k _ (by simp) _ hTO⟩, (D1 {} rfl).frame _ _ _ st1 fun b hb o x => k b (by simp [hb]) o x, (D2 {} rfl).frame _ _ _ st2 fun b hb o x => k b (by simp [hb]) o x⟩
  item := by
    rintro X rfl rfl rfl calm i pins s σ H E I apart ⟨⟨old, he⟩, ⟨v, f, hv, hz⟩, hTI, ⟨a1, a2, hTO⟩, st1, st2⟩ go
    have hh := I.ok.hd calm
    have lt1 : i < n1 := Nat.lt_of_lt_of_le go (Nat.min_le_left ..)
    have lt2 : i < n2 := Nat.lt_of_lt_of_le go (Nat.min_le_right ..)
    refine enumZ_item S (D1 _ hh) (D2 _ hh) he ez eT e1 e2 hz hv hTI hTO st1 st2 lt1 lt2 fun x1 x2 h' tk t v' f' b1 b2 p1 p2 hv' hz' hTO' s1' s2' hT1 hsz hT hE kp => ⟨_, rfl, ?_⟩
    refine wpAny_letOwnedTupleGo_enum hE fun h2 hE2 sb => ?_
    replace sb : Heap.SameBut e h' h2 := sb
    have elt : e < s.heap.objs.size := Heap.lt_size he
    have up : ∀ c o, c ≠ e → h'.get? c = some o → h2.get? c = some o := fun c o ce x => sb.extBut _ _ ce x
    have fp_e : ∀ b ∈ e :: z :: TI :: TO :: (fp1 ++ fp2), b < s.heap.objs.size := fun b hb => by
      have hb' : b = e ∨ b = z ∨ b = TI ∨ b = TO ∨ b ∈ fp1 ∨ b ∈ fp2 := by simpa using hb
      rcases hb' with rfl | rfl | rfl | rfl | q | q
      · exact elt
      · exact Heap.lt_size hz
      · exact Heap.lt_size hTI
      · exact Heap.lt_size hTO
      · obtain ⟨o, ho, _⟩ := c1 _ _ st1 _ q; exact Heap.lt_size ho
      · obtain ⟨o, ho, _⟩ := c2 _ _ st2 _ q; exact Heap.lt_size ho
    -- the inner tuple first
    have q1 : H s.heap.objs.size = none := I.hok.fresh (Nat.le_refl _)
    have I1 : Inv X pins σ (upd H s.heap.objs.size (.tup (vals i))) { s with heap := s.heap.push { cls := .type "tuple", data := .seq #[x1, x2] } } := by
      refine I.laid (t' := s.toks) (fun b u e => Heap.get?_push_of_some _ e) (Nat.le_refl _) ⟨few i, [x1, x2], tell i _ _ p1 p2, _, Heap.get?_push_size _ rfl, rfl, _, rfl⟩
    have n1' : s.heap.objs.size + 1 ≠ s.heap.objs.size := Nat.succ_ne_self _
    have I2 : Inv X pins σ (upd (upd H s.heap.objs.size (.tup (vals i))) (s.heap.objs.size + 1) (.tup [.int (i : Nat), .ref s.heap.objs.size])) { s with heap := h2, toks := tk } := by
      refine I1.turnedNew (ch := e :: z :: TI :: TO :: (fp1 ++ fp2)) (fun b u hb q => ?_) (fun b hb => ?_) (by show (s.heap.push _).objs.size ≤ _; rw [Heap.size_push]; exact Nat.le_refl _) ⟨by show 2 ≤ sizeLine; decide, [.int i t, .ref s.heap.objs.size], .cons ⟨t, rfl⟩ (.cons rfl .nil), _, up _ _ (Nat.ne_of_gt (Nat.lt_succ_of_lt elt)) hT, rfl, _, rfl⟩
      · have nb : b ≠ e ∧ b ≠ z ∧ b ≠ TI ∧ b ≠ TO ∧ b ∉ fp1 ∧ b ∉ fp2 := by simpa using hb
        replace q : (s.heap.push { cls := .type "tuple", data := .seq #[x1, x2] }).get? b = some u := q
        by_cases hbs : b = s.heap.objs.size
        · subst hbs
          have y := Heap.get?_push_size s.heap (o := { cls := .type "tuple", data := .seq #[x1, x2] }) rfl
          rw [y] at q
          cases q
          exact up _ _ nb.1 hT1
        · have y : s.heap.get? b = some u := by rw [← q]; exact (Heap.get?_push_ne _ _ _ hbs).symm
          exact up _ _ nb.1 (kp b u nb.1 nb.2.1 nb.2.2.2.1 (fun z => nb.2.2.2.2.1 (z ▸ S.mem1)) (fun z => nb.2.2.2.2.2 (z ▸ S.mem2)) y)
      · have a := apart b hb
        refine ⟨?_, a.2⟩
        rw [upd_ne (Nat.ne_of_lt (fp_e b hb))]
        exact a.1
    refine ⟨.ref (s.heap.objs.size + 1), _, I2, rfl, ⟨_, _, rfl, q1, I.hok.fresh (Nat.le_succ _), n1', rfl⟩, ⟨⟨_, by have y := hE2; push_cast at y ⊢; exact y⟩, ⟨v', f', hv', up _ _ ez.symm hz'⟩, up _ _ eTI.symm (kp _ _ eTI.symm S.TIz S.TITO S.TIi1 S.TIi2 hTI), ⟨b1, b2, up _ _ eT.symm hTO'⟩,
      (D1 {} rfl).frame _ _ _ s1' fun b hb o x => up b o (fun y => e1 (y ▸ hb)) x, (D2 {} rfl).frame _ _ _ s2' fun b hb o x => up b o (fun y => e2 (y ▸ hb)) x⟩, fun b hb => ?_⟩
    have lt := fp_e b hb
    rw [upd_ne (Nat.ne_of_lt (Nat.lt_succ_of_lt lt)), upd_ne (Nat.ne_of_lt lt)]
    exact (apart b hb).1
  done := by
    rintro X rfl rfl rfl calm i pins s σ H E I apart ⟨⟨old, he⟩, ⟨v, f, hv, hz⟩, hTI, ⟨a1, a2, hTO⟩, st1, st2⟩ stop
    have hh := I.ok.hd calm
    have eqi : i = min n1 n2 := stop
    refine enumZ_end S (D1 _ hh) (D2 _ hh) he hz hv hTI hTO st1 st2 (by rw [eqi]; exact Nat.min_le_left ..) (by rw [eqi]; exact Nat.min_le_right ..) (by omega) fun h' tk kp => ⟨rfl, ?_⟩
    refine I.turnedL (ch := e :: z :: TI :: TO :: (fp1 ++ fp2)) (fun b u hb q => ?_) apart
    have nb : b ≠ e ∧ b ≠ z ∧ b ≠ TI ∧ b ≠ TO ∧ b ∉ fp1 ∧ b ∉ fp2 := by simpa using hb
    exact kp b u nb.2.1 nb.2.2.2.1 (fun z => nb.2.2.2.2.1 (z ▸ S.mem1)) (fun z => nb.2.2.2.2.2 (z ▸ S.mem2)) q
  self := fun A i s Q E st q => wpAny_pyIter_enum st.1.choose_spec q
section
variable {X : Cx} {elts : List Expr} {kk : Nat} {tpos p pos p2 pos2 : Pos} {e1 e2 : Expr} {ta : TA}
def iEnumZ (ta : TA) : TI := fun σ H R => ta σ H fun vs H1 => ∃ x y : Str, vs = [.str x, .str y] ∧ R (ItZ (fun i => [.str (sgn x i), .str (sgn y i)]) (min x.cps.size y.cps.size)) H1
theorem pi_enumZ (hg : Gl X "enumerate") (hm : X.mg "enumerate" = none) (hg2 : Gl X "zip") (hm2 : X.mg "zip" = none) (ha : PA X [e1, e2] ta)
    (hs0 : starEach [Expr.Call (.Name "zip" p2) [e1, e2] [] pos2] X.env = [(false, eval (Expr.Call (.Name "zip" p2) [e1, e2] [] pos2) X.env)] := by rfl)
    (hs : starEach [e1, e2] X.env = (false, eval e1 X.env) :: starEach [e2] X.env := by rfl) (hp : (backTo pos2 (starEach [e2] X.env)).any (·.1) = false := by rfl) :
    PI X (.Tuple elts kk tpos) (.Call (.Name "enumerate" p) [.Call (.Name "zip" p2) [e1, e2] [] pos2] [] pos) (iEnumZ ta) := by
  constructor
  intro pins s σ H R I h
  refine Call_ (ld_blt I hg hm boot_enumerate (callWith_type1 ?_ hs0 rfl))
  rw [hs0]
  show wpAny _ _ (spliced ((false, eval (Expr.Call (.Name "zip" p2) [e1, e2] [] pos2) X.env) :: backTo pos [])) _ _ s
  refine Calls.spliced_cons (Call_ (ld_blt I hg2 hm2 PyProof.Rows.boot_zip (callWith_type1 ?_ hs hp)))
  apply thn (ha.run pos2 pins s σ H _ I h)
  rintro us s1 ⟨vs, H1, I1, rel, x, y, rfl, q⟩
  obtain ⟨u1, u2, rfl, r1, r2⟩ := vals2 rel
  obtain ⟨t1, rfl⟩ := (show ∃ t, u1 = Value.str x t from r1)
  obtain ⟨t2, rfl⟩ := (show ∃ t, u2 = Value.str y t from r2)
  apply zip_begins2 (begins_text x t1) (begins_text y t2) trivial trivial
  intro h' hz hTI hTO g1 g2 hsz keep
  refine Calls.spliced_nil ?_
  refine call_enumZ (s := { s1 with heap := h' }) hz fun h2 hE hsz2 keep2 => ?_
  replace hsz2 : h2.objs.size = h'.objs.size + 1 := hsz2; replace keep2 : ∀ b o, h'.get? b = some o → h2.get? b = some o := keep2
  replace hE : IsEnum h2 h'.objs.size (s1.heap.objs.size + 4) 0 .none := hE
  show wpAny _ _ (pyIter (.ref h'.objs.size)) _ _ _
  rw [hsz] at hE ⊢
  apply wpAny_pyIter_enum hE
  have I2 : Inv X pins σ H1 { s1 with heap := h2 } := I1.kept (t' := s1.toks) fun b u z => keep2 _ _ (keep _ _ z)
  have S := zip_sep2 (N := s1.heap.objs.size) (fp1 := []) (fp2 := []) (fun b z => nomatch z) (fun b z => nomatch z)
  have one : ∀ {b c : Addr}, b ∈ ([c] : List Addr) → b = c := fun z => List.mem_singleton.mp z
  refine ⟨s1.heap.objs.size + 5, _, _, _, H1, rfl, I2, turn_Z (e := s1.heap.objs.size + 5) S (fun A hh => draws_text hh _ x t1) (fun A hh => draws_text hh _ y t2) (by show (_ : Nat) ≠ _; omega) (by show (_ : Nat) ≠ _; omega) (by show (_ : Nat) ≠ _; omega) (fun z => absurd (one z) (by show (_ : Nat) ≠ _; omega)) (fun z => absurd (one z) (by show (_ : Nat) ≠ _; omega))
      (fun i h st b hb => by rw [one hb]; exact text_cell st) (fun i h st b hb => by rw [one hb]; exact text_cell st) (fun i a b pa pb => .cons (rel_sgn pa) (.cons (rel_sgn pb) .nil)) (fun i => by show 2 ≤ sizeLine; decide),
    ⟨⟨.none, hE⟩, ⟨.none, false, .inl rfl, keep2 _ _ hz⟩, keep2 _ _ hTI, ⟨_, _, keep2 _ _ hTO⟩, text_begun (keep2 _ _ g1), text_begun (keep2 _ _ g2)⟩, fun b hb => ?_, q⟩
  have hb' : b = s1.heap.objs.size + 5 ∨ b = s1.heap.objs.size + 4 ∨ b = s1.heap.objs.size + 2 ∨ b = s1.heap.objs.size + 3 ∨ b = s1.heap.objs.size ∨ b = s1.heap.objs.size + 1 := by simpa using hb
  have le : s1.heap.objs.size ≤ b := by rcases hb' with rfl | rfl | rfl | rfl | rfl | rfl <;> (show (_ : Nat) ≤ _; omega)
  exact I1.fpOk le (I1.hok.fresh le)
end
theorem lc_Z {vals : Nat → List V} {n : Nat} {g : TG} {tt : TT} {te : TE} {vs : List Nat} {σ : L2.St} {H1 : Hp} {D : Addr} {Qd : Hp → Prop} (Pv : Nat → Hp → Prop) (h0 : Pv 0 (upd H1 D (.lst [])))
    (hs : ∀ i T T1 H, i < n → Pv i H → H T1 = none → H T = none → T ≠ T1 → g (.ref T) (wipe σ vs) (upd (upd H T1 (.tup (vals i))) T (.tup [.int (i : Nat), .ref T1])) fun σ2 H2 => wipe σ2 vs = wipe σ vs ∧ tt σ2 H2 fun b H3 =>
      if b = true then te σ2 H3 fun y H4 => ∃ acc, H4 D = some (.lst acc) ∧ acc.length < sizeLine ∧ Pv (i + 1) (upd H4 D (.lst (acc ++ [y]))) else Pv (i + 1) H3) (hd : ∀ H, Pv n H → Qd H) :
    ∃ W : Nat → Nat → Hp → Prop, (∃ m, W 0 m (upd H1 D (.lst []))) ∧ ∀ i m H, W i m H →
      ((ItZ vals n).stop i H ∧ Qd H) ∨ ((ItZ vals n).go i H ∧ ∃ Nx : Hp → Prop, (∀ H', Nx H' → ∃ m', m' < m ∧ W (i + 1) m' H') ∧ ∀ x H', (ItZ vals n).yld i H x H' → g x (wipe σ vs) H' fun σ2 H2 => wipe σ2 vs = wipe σ vs ∧ tt σ2 H2 fun b H3 =>
        if b = true then te σ2 H3 fun y H4 => ∃ acc, H4 D = some (.lst acc) ∧ acc.length < sizeLine ∧ Nx (upd H4 D (.lst (acc ++ [y]))) else Nx H3) := by
  refine ⟨fun i m H => i + m = n ∧ Pv i H, ⟨n, by omega, h0⟩, fun i m H ⟨hm, p⟩ => ?_⟩
  by_cases lt : i < n
  · refine Or.inr ⟨lt, Pv (i + 1), fun H' p' => ⟨m - 1, by omega, by omega, p'⟩, ?_⟩
    rintro x H' ⟨T, T1, rfl, h1, h2, h3, rfl⟩
    exact hs i T T1 H lt p h1 h2 h3
  · obtain rfl : i = n := by omega
    exact Or.inl ⟨rfl, hd H p⟩
end Fb
set_option maxRecDepth 100000
set_option maxHeartbeats 4000000
namespace Fb
open PySem PySem.Spec PyProof.Rows L2
open SX (S)
/-! the numbers of unlike bits -/
def unlNs (l m : List Nat) : List Nat := (List.range (min (bt l).length (bt m).length)).filter fun i => decide ((bt l).getD i 0 ≠ (bt m).getD i 0)
def unlZ (l m : List Nat) : Nat := ((List.zipWith (fun a b => decide (a ≠ b)) l m).filter id).length
theorem unlZ_cons (a b : Nat) (l m : List Nat) : unlZ (a :: l) (b :: m) = (if a = b then 0 else 1) + unlZ l m := by
  unfold unlZ
  rw [List.zipWith_cons_cons]
  by_cases h : a = b
  · rw [List.filter_cons_of_neg (by simpa using h), if_pos h, Nat.zero_add]
  · rw [List.filter_cons_of_pos (by simpa using h), List.length_cons, if_neg h, Nat.add_comm]
theorem unlNs_bt (l m : List Nat) : (unlNs l m).length = unlZ (bt l) (bt m) := by
  unfold unlNs unlZ
  generalize bt l = l
  generalize bt m = m
  have e : List.zipWith (fun a b => decide (a ≠ b)) l m = (List.range (min l.length m.length)).map fun i => decide (l.getD i 0 ≠ m.getD i 0) := by
    refine List.ext_getElem? fun i => ?_
    by_cases hi : i < min l.length m.length
    · have z1 := List.getElem?_eq_getElem (show i < l.length by omega)
      have z2 := List.getElem?_eq_getElem (show i < m.length by omega)
      rw [List.getElem?_zipWith, List.getElem?_map, List.getElem?_range hi, z1, z2]
      show some (decide (l[i] ≠ m[i])) = some (decide (l.getD i 0 ≠ m.getD i 0))
      rw [List.getD_eq_getElem?_getD, List.getD_eq_getElem?_getD, z1, z2]
      rfl
    · rw [List.getElem?_eq_none (by rw [List.length_zipWith]; omega), List.getElem?_eq_none (by simpa using hi)]
  rw [e, List.filter_map, List.length_map]
  rfl
theorem unlZ_al : ∀ {l m : List Nat}, Al l m → unlZ (bt l) (bt m) = unlZ l m
  | _, _, .nil => rfl
  | a :: l, b :: m, .cons r t => by
    have ih := unlZ_al t
    rcases r with ⟨h1, h2⟩ | ⟨h1, h2⟩
    · subst h1 h2
      rw [unlZ_cons, if_pos rfl, Nat.zero_add]
      exact ih
    · have ha : a ≠ 46 := by rcases h1 with h | h <;> omega
      have hb : b ≠ 46 := by rcases h2 with h | h <;> omega
      have e1 : bt (a :: l) = a :: bt l := by unfold bt; rw [List.filter_cons_of_pos (by simpa using ha)]
      have e2 : bt (b :: m) = b :: bt m := by unfold bt; rw [List.filter_cons_of_pos (by simpa using hb)]
      rw [e1, e2, unlZ_cons, unlZ_cons, ih]
theorem unlNs_len {l m : List Nat} (h : Al l m) : (unlNs l m).length = unlZ l m := (unlNs_bt l m).trans (unlZ_al h)
theorem nums_ln (ns : List Nat) : (nums ns).length = ns.length := by unfold nums; rw [List.length_map]
theorem unlNs_le (l m : List Nat) : (unlNs l m).length ≤ l.length := by
  unfold unlNs
  refine Nat.le_trans (List.length_filter_le _ _) ?_
  rw [List.length_range]
  exact Nat.le_trans (Nat.min_le_left ..) (by unfold bt; exact List.length_filter_le _ _)
theorem lc_outZ {H1 : Hp} {D : Addr} (out : Nat → List V) {vals : Nat → List V} {n : Nat} {g : TG} {tt : TT} {te : TE} {vs : List Nat} {σ : L2.St} {Qd : Hp → Prop} (hD : H1 D = none) (o0 : out 0 = []) (ol : ∀ i, i < n → (out i).length < sizeLine)
    (hs : ∀ i T T1 H (Kc : V → Hp → Prop) (K0 : Hp → Prop), i < n → Same H1 H → H T = some (.tup [.int (i : Nat), .ref T1]) → H T1 = some (.tup (vals i)) → (∀ y H4, Same H H4 → out (i + 1) = out i ++ [y] → Kc y H4) → (∀ H4, Same H H4 → out (i + 1) = out i → K0 H4) →
      g (.ref T) (wipe σ vs) H fun σ2 H2 => wipe σ2 vs = wipe σ vs ∧ tt σ2 H2 fun b H3 => if b = true then te σ2 H3 Kc else K0 H3)
    (hd : ∀ H, Same H1 H → H D = some (.lst (out n)) → Qd H) :
    ∃ W : Nat → Nat → Hp → Prop, (∃ m, W 0 m (upd H1 D (.lst []))) ∧ ∀ i m H, W i m H →
      ((ItZ vals n).stop i H ∧ Qd H) ∨ ((ItZ vals n).go i H ∧ ∃ Nx : Hp → Prop, (∀ H', Nx H' → ∃ m', m' < m ∧ W (i + 1) m' H') ∧ ∀ x H', (ItZ vals n).yld i H x H' → g x (wipe σ vs) H' fun σ2 H2 => wipe σ2 vs = wipe σ vs ∧ tt σ2 H2 fun b H3 =>
        if b = true then te σ2 H3 fun y H4 => ∃ acc, H4 D = some (.lst acc) ∧ acc.length < sizeLine ∧ Nx (upd H4 D (.lst (acc ++ [y]))) else Nx H3) := by
  refine lc_Z (fun i H => OutI H1 D (out i) H) (by rw [o0]; exact OutI.start hD) (fun i T T1 H lt h h1 h2 ne => ?_) (fun H h => hd H h.1 h.2)
  have s0 : Same H (upd H T1 (.tup (vals i))) := smN (Same.refl _) h1
  have s1 : Same H (upd (upd H T1 (.tup (vals i))) T (.tup [.int (i : Nat), .ref T1])) := smN s0 (by rw [upd_ne ne]; exact h2)
  exact hs i T T1 _ _ _ lt (h.1.trans s1) upd_same (by rw [upd_ne (Ne.symm ne)]; exact upd_same) (fun y H4 s q => ⟨out i, (h.stay (s1.trans s)).2, ol i lt, by rw [q]; exact h.put hD (s1.trans s)⟩) (fun H4 s q => by rw [q]; exact h.stay (s1.trans s))
def spUnl : Sp := fun vs H Q _ => ∃ l m, vs = [.str (S l), .str (S m)] ∧ l.length ≤ 1000 ∧ m.length ≤ 1000 ∧ ∀ D H', Same H H' → H D = none → H' D = some (.lst (nums (unlNs l m))) → Q (.ref D) H'
end Fb
set_option maxRecDepth 100000
set_option maxHeartbeats 4000000
namespace Fb
open PySem PySem.Spec PyProof.Rows L2
open SX (S)
/-- an error with one field leaves -/
def OutX (C : Addr) (f : Str) (v : V) (H : Hp) (E : XK) : Prop := ∀ d H', Same H H' → H' d = some (.xd [(f, v)]) → E (.ref C) (some d) H'
theorem OutX.later {C : Addr} {f : Str} {v : V} {H H1 : Hp} {E : XK} (h : OutX C f v H E) (s : Same H H1) : OutX C f v H1 E := fun d H' s' e => h d H' (s.trans s') e
theorem mk_tail {C : Addr} {f : Str} {v : V} {H1 : Hp} {E : XK} (out : OutX C f v H1 E) :
    [v].length ≤ 1000 ∧ ∀ a, H1 a = none → spI1 C f (V.ref a :: ([v] ++ [])) (upd H1 a (exo a C none)) (fun v H2 => v = .non ∧ ∃ (d : Addr) (fs : List (Str × V)), H2 a = some (exo a C (some d)) ∧ H2 d = some (exd d fs) ∧ H1 d = none ∧ E (.ref C) (some d) (upd (del H2 a) d (.xd fs))) (fun _ _ _ => False) := by
  refine ⟨by show 1 ≤ 1000; decide, fun a ha => ⟨a, _, rfl, upd_same, fun d h1 h2 => ⟨rfl, d, _, upd_same, by rw [upd_ne h2]; exact upd_same, by rw [upd_ne h2] at h1; exact h1, ?_⟩⟩⟩
  have hd : H1 d = none := by rw [upd_ne h2] at h1; exact h1
  refine out d _ (fun b o eb => ?_) upd_same
  have nbd := ne_of_none eb hd
  have nba := ne_of_none eb ha
  rw [upd_ne nbd, del_ne nba, upd_ne nba, upd_ne nbd, upd_ne nba]
  exact eb
/-- the first wrong sign of a content of m signs -/
def cfa : List Nat → Nat → Nat → Option Nat
  | [], at_, m => if at_ < m then some at_ else none
  | c :: l, at_, m => if at_ = m ∨ ¬ (c = 48 ∨ c = 49) then some at_ else cfa l (at_ + 1) m
theorem cfa_none : ∀ {l : List Nat} {a m : Nat}, a ≤ m → (cfa l a m = none ↔ (a + l.length = m ∧ ∀ c ∈ l, c = 48 ∨ c = 49))
  | [], a, m, h => by
    unfold cfa
    by_cases e : a < m
    · rw [if_pos e]; simp; omega
    · rw [if_neg e]; simp; omega
  | c :: l, a, m, h => by
    unfold cfa
    by_cases e : a = m ∨ ¬ (c = 48 ∨ c = 49)
    · rw [if_pos e]
      simp only [List.length_cons, List.mem_cons, reduceCtorEq, false_iff]
      rintro ⟨h1, h2⟩
      rcases e with e | e
      · omega
      · exact e (h2 c (.inl rfl))
    · rw [if_neg e]
      have e1 : a ≠ m := fun z => e (.inl z)
      have e2 : c = 48 ∨ c = 49 := by
        by_cases q : c = 48 ∨ c = 49
        · exact q
        · exact absurd (.inr q) e
      rw [cfa_none (l := l) (a := a + 1) (m := m) (by omega)]
      simp only [List.length_cons, List.mem_cons, forall_eq_or_imp]
      constructor
      · rintro ⟨h1, h2⟩; exact ⟨by omega, e2, h2⟩
      · rintro ⟨h1, _, h2⟩; exact ⟨by omega, h2⟩
theorem ix_listK {X : Cx} {K : PySem.W.Frag} (h : X.K = K) : IxR X (rIxL K) := h ▸ ix_list
theorem ix_tupK {X : Cx} {K : PySem.W.Frag} (h : X.K = K) : IxR X (rIxT K) := h ▸ ix_tup
theorem range_getD (ks : List Nat) : (List.range ks.length).map (fun i => ks.getD i 0) = ks := by
  refine List.ext_getElem? fun i => ?_
  by_cases h : i < ks.length
  · rw [List.getElem?_map, List.getElem?_range h, List.getElem?_eq_getElem h]
    show some (ks.getD i 0) = _
    rw [List.getD_eq_getElem?_getD, List.getElem?_eq_getElem h] <;> rfl
  · rw [List.getElem?_eq_none (by simpa using h), List.getElem?_eq_none (by simpa using h)]
theorem outF_list (ks : List Nat) (p : Nat → Bool) (g : Nat → V) : outF (fun i => p (ks.getD i 0)) (fun i => g (ks.getD i 0)) ks.length = (ks.filter p).map g := by
  have e : (ks.filter p).map g = (((List.range ks.length).map (fun i => ks.getD i 0)).filter p).map g := by rw [range_getD]
  rw [e, List.filter_map, List.map_map]
  rfl
/-- the numbers of standing bits -/
def stb (b : List Nat) : List Nat := (List.range b.length).filter fun i => decide (b.getD i 0 = 49)
theorem stb_mem {b : List Nat} {i : Nat} : i ∈ stb b ↔ b[i]? = some 49 := by
  unfold stb
  rw [List.mem_filter, List.mem_range, decide_eq_true_eq, List.getD_eq_getElem?_getD]
  constructor
  · rintro ⟨h1, h2⟩
    rw [List.getElem?_eq_getElem h1] at h2 ⊢
    exact congrArg some h2
  · intro h
    have h1 := (List.getElem?_eq_some_iff.mp h).1
    refine ⟨h1, by rw [h] <;> rfl⟩
theorem inV_bits (c : Nat) : inV (.str (S [c])) [.str "0", .str "1"] = decide (c = 48 ∨ c = 49) := by
  rw [show ("0" : Str) = S [48] by decide +kernel, show ("1" : Str) = S [49] by decide +kernel]
  have e : ∀ a : Nat, eqV (V.str (S [a])) (V.str (S [c])) = decide (c = a) := fun a => by
    show (S [a] == S [c]) = _
    rw [SX.S_beq_eq]
    by_cases h : c = a
    · subst h; simp
    · rw [decide_eq_false h, decide_eq_false (fun z => h (by simpa using z.symm))]
  show ([V.str (S [48]), V.str (S [49])].any fun y => eqV y (V.str (S [c]))) = _
  simp only [List.any_cons, List.any_nil, e, Bool.or_false, Bool.decide_or]
end Fb
set_option maxRecDepth 100000
set_option maxHeartbeats 4000000
namespace Fb
open PySem PySem.Spec PyProof.Rows L2
open SX (S)
/-- xs[i] of a list, as xs[i] op= e reads it -/
def rGetL (K : PySem.W.Frag) : V → V → Hp → VK → Prop := fun x y H Q => ∃ (p : Addr) (xs : List V) (i : Nat) (v : V), x = .ref p ∧ y = .int (i : Nat) ∧ SqL K H p xs ∧ xs[i]? = some v ∧ Q v H
theorem get_list {X : Cx} : PGet X (rGetL X.K) := by
  intro pins s σ H o i ov iv Q I ro ri h
  obtain ⟨p, xs, j, z, rfl, rfl, hq, he, q⟩ := h
  cases ro
  obtain ⟨t, rfl⟩ := ri
  obtain ⟨its, r, pl, hz⟩ := I.list hq
  obtain ⟨w, ew, rw'⟩ := r.get he
  have fin : EP X pins σ Q w s := ⟨z, H, I, rw', q⟩
  have hj := (List.getElem?_eq_some_iff.mp ew).1
  have hn := line63
  exact wpAny_getItem_list pl.isList (by omega) (by have := r.length; omega) (by rw [Int.toNat_natCast]; simpa using ew) fin
end Fb
set_option maxRecDepth 100000
set_option maxHeartbeats 4000000
namespace Fb
open PySem PySem.Spec PyProof.Rows L2 RZ
/-- except D: an exception of the own class at C -/
theorem XF.exmO {K : PySem.W.Frag} {mg : Str → Option Value} {fe C D : Addr} {x y : Str} (T : XF K mg fe x C) (U : XF K mg fe y D) (hf : D ≠ fe) : PySem.W.exmOne K (.ref C) (.ref D) = some (decide (C = D)) := by
  unfold PySem.W.exmOne
  have e0 : (PySem.W.subIn K (.ref D) (.type "BaseException") == some true) = true := by rw [U.xc.sb] <;> rfl
  rw [if_pos e0]
  unfold PySem.W.kitCls
  have e2 : ((PySem.W.clsIn K D).isSome && PySem.W.typeIn K (.ref D) == some (.type "type")) = true := by rw [U.xc.cl, U.ty] <;> rfl
  show (if ((PySem.W.clsIn K D).isSome && PySem.W.typeIn K (.ref D) == some (.type "type")) = true then PySem.W.subIn K (.ref C) (.ref D) else none) = _
  rw [if_pos e2]
  show PySem.W.mroIn K C (.ref D) = _
  rw [T.mro]
  by_cases e : C = D
  · subst e
    simp
  · rw [decide_eq_false e]
    have e3 : (Value.ref D == Value.ref C) = false := beq_eq_false_iff_ne.mpr fun z => e (Value.ref.inj z).symm
    have e4 : (Value.ref D == Value.ref fe) = false := beq_eq_false_iff_ne.mpr fun z => hf (Value.ref.inj z)
    have e5 : ∀ T : String, (Value.ref D == Value.type T) = false := fun T => rfl
    simp [List.contains, List.elem, e3, e4, e5]
section
variable {X : Cx} {CX : CXT} {k : Nat} {f C : Addr} {fd : FuncData} {ps : List Str} {sp : Sp} {E : L2.St → XK} {m : Str} {pos apos : Pos} {e o : Expr} {es : List Expr} {ta : TE} {t : TA}
def tMethS (C : Addr) (m : Str) (sp : Sp) (E : L2.St → XK) (ta : TE) (t : TA) : TE := fun σ H Q => ta σ H fun x H1 => ∃ a dx fs, x = .ref a ∧ H1 a = some (.ins C dx fs) ∧ fs.lookup m = none ∧ t σ H1 fun vs H2 => sp (x :: vs) H2 Q (E σ)
/-- o.m(e, ..) within a try -/
theorem pe_methS {pl : Sem Bool} (he : PE X o ta) (c : Cls X.K C) (hm : Meth X.K C m f) (F : FnOk X.prog X.w X.K X.mg X.base CX k f fd ps sp) (hr : Room k X.A) (hb : Binds X.K fd ps []) (hx : ∀ σ, PassesAt CX X σ (E σ)) (ha : PA X (e :: es) t)
    (hst : starEach (e :: es) X.env = (false, eval e X.env) :: starEach es X.env := by rfl) (hpl : (backTo pos (starEach es X.env)).any (·.1) = false := by rfl)
    (ht : eval (.Call (.Attribute o m apos) (e :: es) [] pos) X.env = (do
      let ov ← eval o X.env
      standAt apos.atName
      let (f, first) ← holding [ov] (getMethod ov m pl)
      callWith pos f first (backTo pos (starEach (e :: es) X.env)) (backToKw pos (keywordEach [] X.env))) := by rfl) :
    PE X (.Call (.Attribute o m apos) (e :: es) [] pos) (tMethS C m sp E ta t) := by
  refine ⟨fun pins s σ H Q I h => ?_⟩
  refine PySem.W.methodCall_KW (pl := pl) (thn (he.run pins s σ H _ I h) fun u s1 ⟨x, H1, I1, rx, a, dx, fs, ex, ea, l, q⟩ => ?_) ht
  subst ex
  obtain rfl : u = Value.ref a := rx
  refine getmeth_ok I1 ea c hm l ?_
  refine PySem.W.callWith_K (first := [.ref a]) (h₀ := X.base) I.ok.mod.kin hm.kp (thn (ha.run pos pins s1 σ H1 _ I1 q) fun us s2 ⟨vs, H2, I2, r, q2⟩ => ⟨I2.kIn, ?_⟩) hst hpl
  exact run_fnS (us := .ref a :: us) (vs := .ref a :: vs) F hr hb (hx σ) I2 (.cons rfl r) q2
end
/-! zip of two tuples within a comprehension -/
theorem walk_zipT {K : PySem.W.Frag} {a b : Addr} {xs ys : List V} {n : Nat} (hn : n = min xs.length ys.length) : Walk (ItzT K a b) n (fun H => SqT K H a xs ∧ SqT K H b ys) (YPair (fun i => xs[i]?) (fun i => ys[i]?)) := by
  subst hn
  refine ⟨fun i _ hi q => ?_, fun _ q => ⟨xs, ys, q.1, q.2, by omega⟩, fun i H v H' _ q y => ?_⟩
  · have h1 : i < xs.length := by omega
    have h2 : i < ys.length := by omega
    exact ⟨xs, ys, xs[i], ys[i], q.1, q.2, by simp [h1], by simp [h2]⟩
  · obtain ⟨T, x, z, h1, h2, h3, h4, h5⟩ := y
    exact ⟨T, x, z, h1, h2, h3, h4 xs q.1, h5 ys q.2⟩
theorem lc_outZT {g : TG} {tt : TT} {te : TE} {vs : List Nat} {σ : L2.St} {H1 : Hp} {D : Addr} {Qd : Hp → Prop} (out : Nat → List V) {K : PySem.W.Frag} {a b : Addr} {xs ys : List V} {n : Nat} (hn : n = min xs.length ys.length) (hD : H1 D = none) (hx : SqT K H1 a xs) (hy : SqT K H1 b ys) (o0 : out 0 = []) (ol : ∀ i, i < n → (out i).length < sizeLine)
    (hs : ∀ i x y T H (Kc : V → Hp → Prop) (K0 : Hp → Prop), xs[i]? = some x → ys[i]? = some y → Same H1 H → H T = some (.tup [x, y]) → (∀ v H4, Same H H4 → out (i + 1) = out i ++ [v] → Kc v H4) → (∀ H4, Same H H4 → out (i + 1) = out i → K0 H4) →
      g (.ref T) (wipe σ vs) H fun σ2 H2 => wipe σ2 vs = wipe σ vs ∧ tt σ2 H2 fun b H3 => if b = true then te σ2 H3 Kc else K0 H3)
    (hd : ∀ H, Same H1 H → H D = some (.lst (out n)) → Qd H) :
    ∃ W : Nat → Nat → Hp → Prop, (∃ m, W 0 m (upd H1 D (.lst []))) ∧ ∀ i m H, W i m H →
      ((ItzT K a b).stop i H ∧ Qd H) ∨ ((ItzT K a b).go i H ∧ ∃ Nx : Hp → Prop, (∀ H', Nx H' → ∃ m', m' < m ∧ W (i + 1) m' H') ∧ ∀ x H', (ItzT K a b).yld i H x H' → g x (wipe σ vs) H' fun σ2 H2 => wipe σ2 vs = wipe σ vs ∧ tt σ2 H2 fun b H3 =>
        if b = true then te σ2 H3 fun y H4 => ∃ acc, H4 D = some (.lst acc) ∧ acc.length < sizeLine ∧ Nx (upd H4 D (.lst (acc ++ [y]))) else Nx H3) := by
  refine lc_it (walk_zipT hn) (fun i H => OutI H1 D (out i) H) (by rw [o0]; exact OutI.start hD) (fun i H _ h => ⟨sqT_same h.1 hx, sqT_same h.1 hy⟩) (fun i v H H' lt h y => ?_) (fun H h => hd H h.1 h.2)
  obtain ⟨T, x, z, rfl, hT, rfl, e1, e2⟩ := y
  have s0 : Same H (upd H T (.tup [x, z])) := smN (Same.refl _) hT
  exact hs i x z T _ _ _ e1 e2 (h.1.trans s0) upd_same (fun y H4 s q => ⟨out i, (h.stay (s0.trans s)).2, ol i lt, by rw [q]; exact h.put hD (s0.trans s)⟩) (fun H4 s q => by rw [q]; exact h.stay (s0.trans s))
end Fb
set_option maxRecDepth 100000
set_option maxHeartbeats 4000000
namespace Fb
open PySem PySem.Spec PySem.Calls PyProof.Rows L2
/-! a, *b = a list -/
def gStarL (K : PySem.W.Frag) (n i : Nat) (t : TGs) : TG := fun v σ H Q => ∃ (a : Addr) (xs : List V), v = .ref a ∧ SqL K H a xs ∧ i < n ∧ n ≤ xs.length + 1 ∧
  ∀ p, H p = none → t (xs.take i ++ [.ref p] ++ (xs.drop i).drop (xs.length + 1 - n)) σ (upd H p (.lst ((xs.drop i).take (xs.length + 1 - n)))) Q
theorem pg_starL {X : Cx} {es : List Expr} {k : Nat} {t : TGs} {n i : Nat} {pos : Pos} (hc : X.calm = true) (h : PGs X es t)
    (hn : (assignEach es X.env).length = n := by rfl) (hst : (assignEach es X.env).findIdx? (·.1) = some i := by rfl) : PG X (.Tuple es k pos) (gStarL X.K n i t) := by
  refine ⟨fun pins s σ H v u Q I r hw => ?_⟩
  obtain ⟨l, xs, e1, hq, hi, hle, hw⟩ := hw
  subst e1
  cases r
  obtain ⟨its, rv, pl, hz⟩ := I.list hq
  have hl := pl.isList
  have hsz : its.toArray.size = xs.length := by rw [List.size_toArray]; exact rv.length.symm
  have hlt : l ≠ s.heap.objs.size := by obtain ⟨o, ho, _⟩ := hl; exact Nat.ne_of_lt (Heap.lt_size ho)
  have hh := I.ok.hd hc
  rw [PyProof.Rows.assign_Tuple]
  refine wpAny_bind (wpAny_standAt ?_)
  unfold unpack
  rw [hn, hst]
  refine wpAny_bind (wpAny_holding ?_)
  unfold unpackItems
  refine wpAny_bind ?_
  unfold notIterableAtAll
  refine wpAny_bind (wpAny_specialOf hl.typeIs slot_list_iter.lookup ?_)
  refine wpAny_pure ?_
  simp only [Bool.false_eq_true, if_false]
  refine wpAny_bind (wpAny_holding (wpAny_pyIter_list hl ?_))
  refine wpAny_bind (wpAny_holding (PySem.W.kun_draw hlt i 0 _ _ ⟨_, Heap.get?_push_size _ rfl, rfl, rfl⟩ (hl.push _) (by omega) fun h₁ hit₁ hs₁ => ?_))
  have hl₁ : h₁.IsList l its.toArray := (hl.push _).extBut hs₁.extBut hlt
  rw [Nat.zero_add] at hit₁
  have hit₁' := hit₁
  obtain ⟨oi, hoi, _⟩ := hit₁'
  have hl₁' := hl₁
  obtain ⟨ol, hol, _⟩ := hl₁'
  rw [List.drop_zero]
  have hfl : (its.toArray.toList.take i).length = i := by rw [List.length_take, Array.length_toList]; omega
  rw [if_neg (show ¬ ((its.toArray.toList.take i).length < i) by rw [hfl]; omega)]
  refine wpAny_bind (wpAny_holding (PySem.W.kun_collect (s := { s with heap := h₁ }) (T := "list_iterator") (.inr (.inr (.inl rfl))) (Walks.list (A := X.A.in1) hh s.heap.objs.size l hlt its.toArray) (fun j u st => st.1.typeIs) (k := i) (by omega) ⟨hit₁, hl₁⟩ (Heap.lt_size hoi) (Heap.lt_size hol) (fun h₂ tk hk => ?_) (by omega)))
  have hrl : (its.toArray.toList.drop i).length = its.toArray.size - i := by rw [List.length_drop, Array.length_toList]
  have hmid : (its.toArray.toList.drop i).length - (n - 1 - i) = xs.length + 1 - n := by rw [hrl]; omega
  show wpAny _ _ (if (its.toArray.toList.drop i).length < n - 1 - i then _ else _) _ _ _
  rw [if_neg (by rw [hrl]; omega)]
  show wpAny _ _ (newList ((its.toArray.toList.drop i).take ((its.toArray.toList.drop i).length - (n - 1 - i))) >>= fun d => pure (its.toArray.toList.take i ++ [d] ++ (its.toArray.toList.drop i).drop ((its.toArray.toList.drop i).length - (n - 1 - i)))) _ _ _
  rw [hmid]
  have he : ∀ b o, s.heap.get? b = some o → h₂.get? b = some o := fun b o e => hk b o (Nat.ne_of_lt (Heap.lt_size e)) (hs₁.extBut b o (Nat.ne_of_lt (Heap.lt_size e)) (Heap.get?_push_of_some _ e))
  have I1 : Inv X pins σ H { s with heap := h₂, toks := tk } := I.kept (t' := tk) he
  refine wpAny_bind (wpAny_newList (s := { s with heap := h₂, toks := tk }) (wpAny_pure ?_) ?_)
  · have hf : H h₂.objs.size = none := I1.hok.fresh (Nat.le_refl _)
    have rm := (rv.drop i).take (xs.length + 1 - n)
    have lm : ((xs.drop i).take (xs.length + 1 - n)).length ≤ sizeLine := by rw [List.length_take, List.length_drop]; omega
    have I2 : Inv X pins σ (upd H h₂.objs.size (.lst ((xs.drop i).take (xs.length + 1 - n)))) { s with heap := h₂.push { cls := .type "list", data := .seq ((its.toArray.toList.drop i).take (xs.length + 1 - n)).toArray }, toks := tk } :=
      I1.laid (t' := tk) (fun b u e => Heap.get?_push_of_some _ e) (Nat.le_refl _) ⟨lm, _, 0, rm, Heap.get?_push_size _ rfl⟩
    refine h.run pins _ σ _ _ _ Q I2 ?_ (hw _ hf)
    exact ((rv.take i).append (.cons (show RelV (.ref h₂.objs.size) (.ref h₂.objs.size) from rfl) .nil)).append ((rv.drop i).drop (xs.length + 1 - n))
  · rw [List.length_take, hrl]; omega
theorem pgs_star {X : Cx} {e : Expr} {p : Pos} {es : List Expr} {t : TG} {u : TGs} (h1 : PG X e t) (h2 : PGs X es u)
    (hs : (assignEach (.Starred e p :: es) X.env).map (·.2) = assign e X.env :: (assignEach es X.env).map (·.2) := by rfl) : PGs X (.Starred e p :: es) (gCons t u) := by
  refine ⟨fun pins s σ H vs us Q I r h => ?_⟩
  obtain ⟨v, vr, e1, h⟩ := h
  subst e1
  cases r with
  | cons r rr =>
    rw [hs]
    refine assignInOrder_cons (thn (h1.run pins s σ H _ _ _ I r h) fun _ s1 ⟨σ1, H1, I1, q1⟩ => ?_)
    exact h2.run pins s1 σ1 H1 _ _ Q I1 rr q1
end Fb
set_option maxRecDepth 100000
set_option maxHeartbeats 4000000
namespace Fb
open PySem PySem.Spec PySem.Calls PyProof.Rows L2
/-! list.extend with a tuple -/
theorem ext_tup (p : Addr) (as : Array Value) (m : Nat) (q : Addr) (bs : Array Value) (k : Nat) (dd : Option Addr) (sl : Array (Option Value)) (h0 : ¬(!as.isEmpty && Builtin.List.listTooLong (as.size + bs.size)) = true) (h1 : as.size ≤ sizeLine) (h2 : as.size + bs.size ≤ sizeLine + 1) :
    Meets (Builtin.«list.extend» ⟨[.ref p, .ref q], []⟩) (fun _ R s =>
      s.heap.get? p = some { cls := .type "list", dict := none, data := .seq as m, slots := #[] } ∧
      s.heap.get? q = some { cls := .type "tuple", dict := dd, data := .seq bs k, slots := sl } ∧
      R (.ok (.ret Value.none)) { s with heap := s.heap.update p (Obj.mapSeq fun x => x ++ bs), toks := s.toks }) :=
  .of_wp fun prog w A R s e => by
    obtain ⟨hp, g, d, tk, os⟩ := s
    obtain ⟨e1, e2, e⟩ := e
    have f2 := AutoSeq1.sub_tuple_tuple
    have f3 := AutoSeq1.sub_list_list
    have f4 := AutoSeq1.sub_tuple_list
    have f5 := AutoSeq1.sub_list_tuple
    have hz : (as ++ bs).size ≤ sizeLine + 1 := by rw [Array.size_append]; exact h2
    wp_walk using (wpAny_updateSeq e1 rfl (hz := h1) (_hz' := hz)),
      AutoSeq1.wpAny_loadPart' e1,
      AutoSeq1.wpAny_loadPart' e2
    exact ⟨_, rfl, e⟩
section
variable {X : Cx}
def rExtT (K : PySem.W.Frag) : V → List V → Hp → VK → Prop := fun x vs H Q => ∃ l b xs zs, x = .ref l ∧ vs = [.ref b] ∧ H l = some (.lst xs) ∧ SqT K H b zs ∧ xs.length + zs.length ≤ sizeLine ∧ Q .non (upd H l (.lst (xs ++ zs)))
theorem mt_extendT : MtM X "list.extend" (rExtT X.K) := by
  intro pins s σ H x vs v us Q I rx rv h
  obtain ⟨l, b, xs, zs, rfl, rfl, hH, hB, hz, q⟩ := h
  cases rx
  obtain ⟨u, rfl, ru⟩ := rv.one
  cases ru
  obtain ⟨z, its, n, r, hl, e⟩ := I.lstM hH
  obtain ⟨its2, r2, ⟨o2, e2, c2, n2, d2⟩, hl2⟩ := I.tuple hB
  have l2 := r2.length
  have hsz : its.toArray.size + its2.toArray.size ≤ sizeLine := by rw [List.size_toArray, List.size_toArray]; omega
  have hlong : ¬ (!its.toArray.isEmpty && Builtin.List.listTooLong (its.toArray.size + its2.toArray.size)) = true := by
    rw [notLongL hsz, Bool.and_false]
    exact Bool.false_ne_true
  obtain ⟨cc, dd, da, ss⟩ := o2
  cases c2
  cases d2
  refine call_meets F.slot_list_extend ⟨_, e, rfl⟩ F.entry_list_extend (F.args_list_extend_2 _ _)
    (ext_tup l its.toArray n b its2.toArray n2 dd ss hlong (by rw [List.size_toArray]; omega) (by omega)) ⟨e, e2, ?_⟩
  refine ⟨.non, _, I.lset (its' := its ++ its2) hH e (by simp) (r.append r2) ?_, rfl, q⟩
  rw [List.length_append]
  omega
end
/-- a compare whose left side wants a token -/
theorem pet_cmpR {X : Cx} {op : CmpOp} {r : R2} {a b : Expr} {ta tb : TE} {pos : Pos} (ho : OpR X (compareOp op) r) (ha : L2.PET X a ta) (hb : PE X b tb) (hm : behindInMarks op b = false) : L2.PET X (.Compare a [op] [b] pos) (tOp r ta tb) := by
  intro pins s σ H Q h0 I h
  exact wpAny_Compare1 (thn (ha pins s σ H _ h0 I h) fun v s1 ⟨x, H1, I1, r1, q1⟩ => thn (hb.run pins s1 σ H1 _ I1 q1) fun u s2 ⟨y, H2, I2, r2, q2⟩ => ho pins s2 σ H2 x y v u Q I2 r1 r2 q2) hm
/-! [.. for x in a list for y in a tuple that is displayed] -/
section
variable {K : PySem.W.Frag} {a D : Addr} {xs ys : List V} {σ : L2.St} {H1 : Hp} {wi1 : TI} {te : TE} {vs vs1 : List Nat} {i1 j1 : Nat} {Qd : Hp → Prop}
theorem lc2_lt (Pv : Nat → Nat → Hp → Prop) (h0 : Pv 0 0 (upd H1 D (.lst []))) (hl : ∀ i j H, Pv i j H → SqL K H a xs) (kp : ∀ i j H H', Pv i j H → Same H H' → Pv i j H')
    (hin : ∀ (x : V) (H : Hp) (R : It → Hp → Prop), (∀ b H', Same H H' → H' b = some (.tup ys) → R (Itt K b) H') → wi1 ((wipe σ vs).set i1 (some x)) H R)
    (hw : ∀ x, wipe ((wipe σ vs).set i1 (some x)) vs = wipe σ vs)
    (hw1 : ∀ x y, wipe ((wipe ((wipe σ vs).set i1 (some x)) vs1).set j1 (some y)) vs1 = wipe ((wipe σ vs).set i1 (some x)) vs1)
    (step : ∀ i j x y H, xs[i]? = some x → ys[j]? = some y → Pv i j H → te ((wipe ((wipe σ vs).set i1 (some x)) vs1).set j1 (some y)) H fun v H7 => Same H H7 ∧ ∃ acc, H7 D = some (.lst acc) ∧ acc.length < sizeLine ∧ Pv i (j + 1) (upd H7 D (.lst (acc ++ [v]))))
    (mono : ∀ σ' H (Q Q' : VK), te σ' H Q → (∀ v H', Q v H' → Q' v H') → te σ' H Q')
    (next : ∀ i H, i < xs.length → Pv i ys.length H → Pv (i + 1) 0 H) (hd : ∀ H, Pv xs.length 0 H → Qd H) :
    ∃ W : Nat → Nat → Hp → Prop, (∃ m, W 0 m (upd H1 D (.lst []))) ∧ ∀ i m H, W i m H →
      ((Itl K a).stop i H ∧ Qd H) ∨ ((Itl K a).go i H ∧ ∃ Nx : Hp → Prop, (∀ H', Nx H' → ∃ m', m' < m ∧ W (i + 1) m' H') ∧ ∀ x H', (Itl K a).yld i H x H' → gName i1 x (wipe σ vs) H' fun σ2 H2 => wipe σ2 vs = wipe σ vs ∧ tYes σ2 H2 fun bb H3 =>
        if bb = true then wi1 σ2 H3 fun J1 H4 => ∃ W1 : Nat → Nat → Hp → Prop, (∃ m, W1 0 m H4) ∧ ∀ j k H, W1 j k H →
          (J1.stop j H ∧ Nx H) ∨ (J1.go j H ∧ ∃ Nx1 : Hp → Prop, (∀ H', Nx1 H' → ∃ k', k' < k ∧ W1 (j + 1) k' H') ∧ ∀ x H', J1.yld j H x H' → gName j1 x (wipe σ2 vs1) H' fun σ3 H5 => wipe σ3 vs1 = wipe σ2 vs1 ∧ tYes σ3 H5 fun bb H6 =>
            if bb = true then te σ3 H6 fun y H7 => ∃ acc, H7 D = some (.lst acc) ∧ acc.length < sizeLine ∧ Nx1 (upd H7 D (.lst (acc ++ [y]))) else Nx1 H6)
        else Nx H3) := by
  refine ⟨fun i m H => i + m = xs.length ∧ Pv i 0 H, ⟨xs.length, by omega, h0⟩, fun i m H ⟨hm, p⟩ => ?_⟩
  have q1 := hl i 0 H p
  by_cases lt : i < xs.length
  · have ex : xs[i]? = some xs[i] := List.getElem?_eq_getElem lt
    refine Or.inr ⟨⟨xs, xs[i], q1, ex⟩, Pv (i + 1) 0, fun H' p' => ⟨m - 1, by omega, by omega, p'⟩, ?_⟩
    rintro x H' ⟨eH, y⟩
    subst eH
    have e := y xs q1
    refine ⟨hw x, yes1 ?_⟩
    refine hin x _ _ fun b H4 s4 hb4 => ?_
    refine ⟨fun j k H => j + k = ys.length ∧ Pv i j H ∧ H b = some (.tup ys), ⟨ys.length, by omega, kp _ _ _ _ p s4, hb4⟩, fun j k H ⟨hk, p, hb⟩ => ?_⟩
    by_cases lt2 : j < ys.length
    · have ey : ys[j]? = some ys[j] := List.getElem?_eq_getElem lt2
      refine Or.inr ⟨⟨ys, ys[j], SqT.of hb, ey⟩, fun H' => Pv i (j + 1) H' ∧ H' b = some (.tup ys), fun H' p' => ⟨k - 1, by omega, by omega, p'⟩, ?_⟩
      rintro y2 H' ⟨eH, y'⟩
      subst eH
      have e2 := y' ys (SqT.of hb)
      refine ⟨hw1 x y2, yes1 (mono _ _ _ _ (step i j x y2 _ e e2 p) fun v H7 h => ?_)⟩
      obtain ⟨s7, acc, h1, h2, h3⟩ := h
      have hb7 := s7 _ _ hb
      exact ⟨acc, h1, h2, h3, by rw [upd_ne (ne_of hb7 h1 fun z => nomatch z)]; exact hb7⟩
    · obtain rfl : j = ys.length := by omega
      exact Or.inl ⟨⟨ys, SqT.of hb, Nat.le_refl _⟩, next i H lt p⟩
  · obtain rfl : i = xs.length := by omega
    exact Or.inl ⟨⟨xs, q1, Nat.le_refl _⟩, hd H p⟩
end
/-- a dict that is built over a list -/
theorem dc_it {J : It} {n : Nat} {G : Hp → Prop} {Y : Nat → Hp → V → Hp → Prop} (w : Walk J n G Y) {g : TG} {tt : TT} {tk tv : TE} {vs : List Nat} {σ : L2.St} {H1 : Hp} {D : Addr} {Qd : Hp → Prop} (Pv : Nat → Hp → Prop) (h0 : Pv 0 (upd H1 D (.dK []))) (hG : ∀ i H, i ≤ n → Pv i H → G H)
    (hs : ∀ i x H H', i < n → Pv i H → Y i H x H' → g x (wipe σ vs) H' fun σ2 H2 => wipe σ2 vs = wipe σ vs ∧ tt σ2 H2 fun b H3 =>
      if b = true then tk σ2 H3 fun y H4 => tv σ2 H4 fun z H5 => ∃ kvs k, y = kV k ∧ H5 D = some (.dK kvs) ∧ kvs.length < sizeLine ∧ Pv (i + 1) (upd H5 D (.dK (putK kvs k z))) else Pv (i + 1) H3) (hd : ∀ H, Pv n H → Qd H) :
    ∃ W : Nat → Nat → Hp → Prop, (∃ m, W 0 m (upd H1 D (.dK []))) ∧ ∀ i m H, W i m H →
      (J.stop i H ∧ Qd H) ∨ (J.go i H ∧ ∃ Nx : Hp → Prop, (∀ H', Nx H' → ∃ m', m' < m ∧ W (i + 1) m' H') ∧ ∀ x H', J.yld i H x H' → g x (wipe σ vs) H' fun σ2 H2 => wipe σ2 vs = wipe σ vs ∧ tt σ2 H2 fun b H3 =>
        if b = true then tk σ2 H3 fun y H4 => tv σ2 H4 fun z H5 => ∃ kvs k, y = kV k ∧ H5 D = some (.dK kvs) ∧ kvs.length < sizeLine ∧ Nx (upd H5 D (.dK (putK kvs k z))) else Nx H3) := by
  refine ⟨fun j r H => j ≤ n ∧ r = n - j ∧ Pv j H, ⟨n, Nat.zero_le _, rfl, h0⟩, fun j r H hyp => ?_⟩
  obtain ⟨le, er, pj⟩ := hyp
  have gH := hG j H le pj
  rcases Nat.lt_or_ge j n with lt | ge
  · refine Or.inr ⟨w.goes j H lt gH, Pv (j + 1), fun H' pn => ⟨n - (j + 1), by omega, by omega, rfl, pn⟩, fun v H' yv => ?_⟩
    exact hs j v H H' lt pj (w.yields j H v H' lt gH yv)
  · cases Nat.le_antisymm le ge
    exact Or.inl ⟨w.stops H gH, hd H pj⟩
end Fb
set_option maxRecDepth 100000
set_option maxHeartbeats 4000000
namespace Fb
open PySem PySem.Spec PyProof.Rows L2
open SX (S)

def top (i : Nat) : Stmt := PySem.Challenge.pw_fallenbits_k82_texts_of_drivers_and_stor.main.body.getD i (.Pass ⟨0, 0, 0, 0⟩)

/-! the written part: addresses and defs of the program -/
structure Pz where
  fe : Addr
  cNoPattern : Addr
  a_npi : Addr
  d_npi : FuncData
  cUnlike : Addr
  cNoBit : Addr
  cNoStore : Addr
  a_NoStorei : Addr
  d_NoStorei : FuncData
  cNoDriver : Addr
  a_NoDriveri : Addr
  d_NoDriveri : FuncData
  cNoText : Addr
  a_NoTexti : Addr
  d_NoTexti : FuncData
  C : Addr
  C_Store : Addr
  a_Store_init : Addr
  d_Store_init : FuncData
  C_Driver : Addr
  a_is_whole : Addr
  d_is_whole : FuncData
  a_is_tuple_of : Addr
  d_is_tuple_of : FuncData
  a_is_pair : Addr
  d_is_pair : FuncData
  a_is_name : Addr
  d_is_name : FuncData
  a_is_mask : Addr
  d_is_mask : FuncData
  a_is_rule : Addr
  d_is_rule : FuncData
  a_is_change : Addr
  d_is_change : FuncData
  a_check_sizes : Addr
  d_check_sizes : FuncData
  a_check_rules : Addr
  d_check_rules : FuncData
  a_check_changes : Addr
  d_check_changes : FuncData
  a_state_names : Addr
  d_state_names : FuncData
  a_matched : Addr
  d_matched : FuncData
  a_readings : Addr
  d_readings : FuncData
  a_has_signs : Addr
  d_has_signs : FuncData
  a_is_number_word : Addr
  d_is_number_word : FuncData
  a_are_number_words : Addr
  d_are_number_words : FuncData
  a_is_name_word : Addr
  d_is_name_word : FuncData
  a_can_be_row : Addr
  d_can_be_row : FuncData
  a_can_be_event : Addr
  d_can_be_event : FuncData
  a_lines_of : Addr
  d_lines_of : FuncData
  a_need_alone : Addr
  d_need_alone : FuncData
  a_read_driver : Addr
  d_read_driver : FuncData
  a_read_story : Addr
  d_read_story : FuncData
abbrev s_NoPattern_init : Stmt := inClass (top 3) 0
theorem sc_NoPattern_init : FnScope ["self", "at"] ["self", "at"] (defScope s_NoPattern_init) := ⟨rfl, rfl, rfl, by decide +kernel, rfl, by decide +kernel, by decide +kernel⟩
abbrev s_NoStore_init : Stmt := inClass (top 6) 0
theorem sc_NoStore_init : FnScope ["self", "part", "at"] ["self", "part", "at"] (defScope s_NoStore_init) := ⟨rfl, rfl, rfl, by decide +kernel, rfl, by decide +kernel, by decide +kernel⟩
abbrev s_NoDriver_init : Stmt := inClass (top 7) 0
theorem sc_NoDriver_init : FnScope ["self", "at"] ["self", "at"] (defScope s_NoDriver_init) := ⟨rfl, rfl, rfl, by decide +kernel, rfl, by decide +kernel, by decide +kernel⟩
abbrev s_NoText_init : Stmt := inClass (top 8) 0
theorem sc_NoText_init : FnScope ["self", "line"] ["self", "line"] (defScope s_NoText_init) := ⟨rfl, rfl, rfl, by decide +kernel, rfl, by decide +kernel, by decide +kernel⟩
abbrev s_Store_init : Stmt := inClass (top 44) 0
theorem sc_Store_init : FnScope ["self", "sizes", "rules", "changes"] ["self", "sizes", "rules", "changes"] (defScope s_Store_init) := ⟨rfl, rfl, rfl, by decide +kernel, rfl, by decide +kernel, by decide +kernel⟩
abbrev s_is_whole : Stmt := top 10
theorem sc_is_whole : FnScope ["thing"] ["thing"] (defScope s_is_whole) := ⟨rfl, rfl, rfl, by decide +kernel, rfl, by decide +kernel, by decide +kernel⟩
abbrev s_is_tuple_of : Stmt := top 23
theorem sc_is_tuple_of : FnScope ["thing", "many"] ["thing", "many"] (defScope s_is_tuple_of) := ⟨rfl, rfl, rfl, by decide +kernel, rfl, by decide +kernel, by decide +kernel⟩
abbrev s_is_pair : Stmt := top 24
theorem sc_is_pair : FnScope ["thing"] ["thing"] (defScope s_is_pair) := ⟨rfl, rfl, rfl, by decide +kernel, rfl, by decide +kernel, by decide +kernel⟩
abbrev s_is_name : Stmt := top 34
theorem sc_is_name : FnScope ["thing", "sign"] ["thing"] (defScope s_is_name) := ⟨rfl, rfl, rfl, by decide +kernel, rfl, by decide +kernel, by decide +kernel⟩
abbrev s_is_mask : Stmt := top 35
theorem sc_is_mask : FnScope ["thing", "sizes", "size"] ["thing", "sizes"] (defScope s_is_mask) := ⟨rfl, rfl, rfl, by decide +kernel, rfl, by decide +kernel, by decide +kernel⟩
abbrev s_is_rule : Stmt := top 36
theorem sc_is_rule : FnScope ["thing", "sizes", "mask", "name"] ["thing", "sizes"] (defScope s_is_rule) := ⟨rfl, rfl, rfl, by decide +kernel, rfl, by decide +kernel, by decide +kernel⟩
abbrev s_is_change : Stmt := top 37
theorem sc_is_change : FnScope ["thing", "source", "target"] ["thing"] (defScope s_is_change) := ⟨rfl, rfl, rfl, by decide +kernel, rfl, by decide +kernel, by decide +kernel⟩
abbrev s_check_sizes : Stmt := top 38
theorem sc_check_sizes : FnScope ["sizes", "bits", "at", "size"] ["sizes"] (defScope s_check_sizes) := ⟨rfl, rfl, rfl, by decide +kernel, rfl, by decide +kernel, by decide +kernel⟩
abbrev s_check_rules : Stmt := top 39
theorem sc_check_rules : FnScope ["rules", "sizes", "at", "rule"] ["rules", "sizes"] (defScope s_check_rules) := ⟨rfl, rfl, rfl, by decide +kernel, rfl, by decide +kernel, by decide +kernel⟩
abbrev s_check_changes : Stmt := top 40
theorem sc_check_changes : FnScope ["changes", "at", "change"] ["changes"] (defScope s_check_changes) := ⟨rfl, rfl, rfl, by decide +kernel, rfl, by decide +kernel, by decide +kernel⟩
abbrev s_state_names : Stmt := top 41
theorem sc_state_names : FnScope ["rules", "changes", "names", "change", "mask", "name"] ["rules", "changes"] (defScope s_state_names) := ⟨rfl, rfl, rfl, by decide +kernel, rfl, by decide +kernel, by decide +kernel⟩
abbrev s_matched : Stmt := top 42
theorem sc_matched : FnScope ["mask", "parts", "found", "part", "text", "bit"] ["mask"] (defScope s_matched) := ⟨rfl, rfl, rfl, by decide +kernel, rfl, by decide +kernel, by decide +kernel⟩
abbrev s_readings : Stmt := top 43
theorem sc_readings : FnScope ["sizes", "rules", "names", "mask", "name", "x", "size"] ["sizes", "rules"] (defScope s_readings) := ⟨rfl, rfl, rfl, by decide +kernel, rfl, by decide +kernel, by decide +kernel⟩
abbrev s_has_signs : Stmt := top 58
theorem sc_has_signs : FnScope ["word", "signs", "sign"] ["word", "signs"] (defScope s_has_signs) := ⟨rfl, rfl, rfl, by decide +kernel, rfl, by decide +kernel, by decide +kernel⟩
abbrev s_is_number_word : Stmt := top 59
theorem sc_is_number_word : FnScope ["word"] ["word"] (defScope s_is_number_word) := ⟨rfl, rfl, rfl, by decide +kernel, rfl, by decide +kernel, by decide +kernel⟩
abbrev s_are_number_words : Stmt := top 60
theorem sc_are_number_words : FnScope ["words", "word"] ["words"] (defScope s_are_number_words) := ⟨rfl, rfl, rfl, by decide +kernel, rfl, by decide +kernel, by decide +kernel⟩
abbrev s_is_name_word : Stmt := top 61
theorem sc_is_name_word : FnScope ["word"] ["word"] (defScope s_is_name_word) := ⟨rfl, rfl, rfl, by decide +kernel, rfl, by decide +kernel, by decide +kernel⟩
abbrev s_can_be_row : Stmt := top 62
theorem sc_can_be_row : FnScope ["words"] ["words"] (defScope s_can_be_row) := ⟨rfl, rfl, rfl, by decide +kernel, rfl, by decide +kernel, by decide +kernel⟩
abbrev s_can_be_event : Stmt := top 63
theorem sc_can_be_event : FnScope ["words"] ["words"] (defScope s_can_be_event) := ⟨rfl, rfl, rfl, by decide +kernel, rfl, by decide +kernel, by decide +kernel⟩
abbrev s_lines_of : Stmt := top 64
theorem sc_lines_of : FnScope ["text", "line"] ["text"] (defScope s_lines_of) := ⟨rfl, rfl, rfl, by decide +kernel, rfl, by decide +kernel, by decide +kernel⟩
abbrev s_need_alone : Stmt := top 65
theorem sc_need_alone : FnScope ["lines"] ["lines"] (defScope s_need_alone) := ⟨rfl, rfl, rfl, by decide +kernel, rfl, by decide +kernel, by decide +kernel⟩
abbrev s_read_driver : Stmt := top 68
theorem sc_read_driver : FnScope ["store", "text", "lines", "at", "words"] ["store", "text"] (defScope s_read_driver) := ⟨rfl, rfl, rfl, by decide +kernel, rfl, by decide +kernel, by decide +kernel⟩
abbrev s_read_story : Stmt := top 69
theorem sc_read_story : FnScope ["text", "lines", "at", "words"] ["text"] (defScope s_read_story) := ⟨rfl, rfl, rfl, by decide +kernel, rfl, by decide +kernel, by decide +kernel⟩
structure Txp (K : PySem.W.Frag) (mg : Str → Option Value) (z : Pz) : Prop where
  xFallenError : mg "FallenError" = some (.ref z.fe)
  clF : (PySem.W.clsIn K z.fe).isSome = true
  tyF : PySem.W.typeIn K (.ref z.fe) = some (.type "type")
  sbF : PySem.W.subIn K (.ref z.fe) (.type "BaseException") = some true
  xb : XB K
  xNoPattern : XF K mg z.fe "NoPattern" z.cNoPattern
  F_npi : Fun K "__init__" "NoPattern.__init__" s_NoPattern_init z.a_npi z.d_npi
  b_npi : Binds K z.d_npi ["self", "at"] []
  iNP : PySem.W.findIn K (.ref z.cNoPattern) "__init__" = some (some (.ref z.a_npi))
  tNP : PySem.W.typeIn K (.ref z.a_npi) = some (.type "function")
  nNP : PySem.W.findIn K (.ref z.cNoPattern) "at" = some none
  xUnlike : XF K mg z.fe "Unlike" z.cUnlike
  eUnlike : PySem.W.excIn K z.cUnlike [.type "ValueError", .type "Exception", .type "BaseException", .type "object"] "ValueError.__new__" = true
  xNoBit : XF K mg z.fe "NoBit" z.cNoBit
  eNoBit : PySem.W.excIn K z.cNoBit [.type "ValueError", .type "Exception", .type "BaseException", .type "object"] "ValueError.__new__" = true
  xNoStore : XF K mg z.fe "NoStore" z.cNoStore
  F_NoStorei : Fun K "__init__" "NoStore.__init__" s_NoStore_init z.a_NoStorei z.d_NoStorei
  b_NoStorei : Binds K z.d_NoStorei ["self", "part", "at"] []
  iNoStore : PySem.W.findIn K (.ref z.cNoStore) "__init__" = some (some (.ref z.a_NoStorei))
  tNoStore : PySem.W.typeIn K (.ref z.a_NoStorei) = some (.type "function")
  nNoStore_part : PySem.W.findIn K (.ref z.cNoStore) "part" = some none
  nNoStore_at : PySem.W.findIn K (.ref z.cNoStore) "at" = some none
  xNoDriver : XF K mg z.fe "NoDriver" z.cNoDriver
  F_NoDriveri : Fun K "__init__" "NoDriver.__init__" s_NoDriver_init z.a_NoDriveri z.d_NoDriveri
  b_NoDriveri : Binds K z.d_NoDriveri ["self", "at"] []
  iNoDriver : PySem.W.findIn K (.ref z.cNoDriver) "__init__" = some (some (.ref z.a_NoDriveri))
  tNoDriver : PySem.W.typeIn K (.ref z.a_NoDriveri) = some (.type "function")
  nNoDriver_at : PySem.W.findIn K (.ref z.cNoDriver) "at" = some none
  xNoText : XF K mg z.fe "NoText" z.cNoText
  F_NoTexti : Fun K "__init__" "NoText.__init__" s_NoText_init z.a_NoTexti z.d_NoTexti
  b_NoTexti : Binds K z.d_NoTexti ["self", "line"] []
  iNoText : PySem.W.findIn K (.ref z.cNoText) "__init__" = some (some (.ref z.a_NoTexti))
  tNoText : PySem.W.typeIn K (.ref z.a_NoTexti) = some (.type "function")
  nNoText_line : PySem.W.findIn K (.ref z.cNoText) "line" = some none
  ne_NoPattern_F : z.cNoPattern ≠ z.fe
  ne_NoPattern_Unlike : z.cNoPattern ≠ z.cUnlike
  ne_NoPattern_NoBit : z.cNoPattern ≠ z.cNoBit
  ne_NoPattern_NoStore : z.cNoPattern ≠ z.cNoStore
  ne_NoPattern_NoDriver : z.cNoPattern ≠ z.cNoDriver
  ne_NoPattern_NoText : z.cNoPattern ≠ z.cNoText
  ne_Unlike_F : z.cUnlike ≠ z.fe
  ne_Unlike_NoPattern : z.cUnlike ≠ z.cNoPattern
  ne_Unlike_NoBit : z.cUnlike ≠ z.cNoBit
  ne_Unlike_NoStore : z.cUnlike ≠ z.cNoStore
  ne_Unlike_NoDriver : z.cUnlike ≠ z.cNoDriver
  ne_Unlike_NoText : z.cUnlike ≠ z.cNoText
  ne_NoBit_F : z.cNoBit ≠ z.fe
  ne_NoBit_NoPattern : z.cNoBit ≠ z.cNoPattern
  ne_NoBit_Unlike : z.cNoBit ≠ z.cUnlike
  ne_NoBit_NoStore : z.cNoBit ≠ z.cNoStore
  ne_NoBit_NoDriver : z.cNoBit ≠ z.cNoDriver
  ne_NoBit_NoText : z.cNoBit ≠ z.cNoText
  ne_NoStore_F : z.cNoStore ≠ z.fe
  ne_NoStore_NoPattern : z.cNoStore ≠ z.cNoPattern
  ne_NoStore_Unlike : z.cNoStore ≠ z.cUnlike
  ne_NoStore_NoBit : z.cNoStore ≠ z.cNoBit
  ne_NoStore_NoDriver : z.cNoStore ≠ z.cNoDriver
  ne_NoStore_NoText : z.cNoStore ≠ z.cNoText
  ne_NoDriver_F : z.cNoDriver ≠ z.fe
  ne_NoDriver_NoPattern : z.cNoDriver ≠ z.cNoPattern
  ne_NoDriver_Unlike : z.cNoDriver ≠ z.cUnlike
  ne_NoDriver_NoBit : z.cNoDriver ≠ z.cNoBit
  ne_NoDriver_NoStore : z.cNoDriver ≠ z.cNoStore
  ne_NoDriver_NoText : z.cNoDriver ≠ z.cNoText
  ne_NoText_F : z.cNoText ≠ z.fe
  ne_NoText_NoPattern : z.cNoText ≠ z.cNoPattern
  ne_NoText_Unlike : z.cNoText ≠ z.cUnlike
  ne_NoText_NoBit : z.cNoText ≠ z.cNoBit
  ne_NoText_NoStore : z.cNoText ≠ z.cNoStore
  ne_NoText_NoDriver : z.cNoText ≠ z.cNoDriver
  g_Pattern : mg "Pattern" = some (.ref z.C)
  crP : ClX.CRead K z.C (.type "type")
  vBITS : ∃ mc u, ClX.CRead K z.C mc ∧ ClX.CVal K z.C mc "BITS" (.int 120) u
  vBLOCKS : ∃ mc u, ClX.CRead K z.C mc ∧ ClX.CVal K z.C mc "BLOCKS" (.int 3) u
  g_Store : mg "Store" = some (.ref z.C_Store)
  crP_Store : ClX.CRead K z.C_Store (.type "type")
  cls_Store : Cls K z.C_Store
  mkP_Store : Mk K z.C_Store z.a_Store_init
  ca_Store : PySem.W.findIn K (.ref z.C_Store) "__class__" = some (some (.builtin "object.__class__"))
  mo_Store : PySem.W.mroIn K z.C_Store (.type "object") = some true
  sf_Store : PySem.W.selfFirst K z.C_Store = true
  ic_Store : ∃ cd, PySem.W.clsIn K z.C_Store = some cd ∧ cd.mro = [.ref z.C_Store, .type "object"]
  tyC_Store : PySem.W.typeIn K (.ref z.C_Store) = some (.type "type")
  na_sizes_Store : NoAttr K z.C_Store "_sizes"
  na_rules_Store : NoAttr K z.C_Store "_rules"
  na_changes_Store : NoAttr K z.C_Store "_changes"
  na_states_Store : NoAttr K z.C_Store "_states"
  na_readings_Store : NoAttr K z.C_Store "_readings"
  m_Store_init : PySem.W.findIn K (.ref z.C_Store) "__init__" = some (some (.ref z.a_Store_init))
  f_Store_init : PySem.W.isFn K (.ref z.a_Store_init) = true
  F_Store_init : Fun K "__init__" "Store.__init__" s_Store_init z.a_Store_init z.d_Store_init
  b_Store_init : Binds K z.d_Store_init ["self", "sizes", "rules", "changes"] []
  g_Driver : mg "Driver" = some (.ref z.C_Driver)
  crP_Driver : ClX.CRead K z.C_Driver (.type "type")
  g_MOST_BLOCKS : ∃ t, mg "MOST_BLOCKS" = some (.int 3 t)
  g_MOST_BITS : ∃ t, mg "MOST_BITS" = some (.int 6 t)
  g_MOST_RULES : ∃ t, mg "MOST_RULES" = some (.int 64 t)
  g_MOST_CHANGES : ∃ t, mg "MOST_CHANGES" = some (.int 16 t)
  g_MOST_NAME_SIGNS : ∃ t, mg "MOST_NAME_SIGNS" = some (.int 12 t)
  g_LETTERS : ∃ t, mg "LETTERS" = some (.str "abcdefghijklmnopqrstuvwxyz" t)
  g_NAME_SIGNS : ∃ t, mg "NAME_SIGNS" = some (.str "abcdefghijklmnopqrstuvwxyz0123456789-" t)
  g_MOST_ROWS : ∃ t, mg "MOST_ROWS" = some (.int 1100 t)
  g_NONE : ∃ t, mg "NONE" = some (.str "none" t)
  g_QUIET : ∃ t, mg "QUIET" = some (.str "-" t)
  g_DIGITS : ∃ t, mg "DIGITS" = some (.str "0123456789" t)
  g_MOST_DIGITS : ∃ t, mg "MOST_DIGITS" = some (.int 3 t)
  g_PATTERN_SIGNS : ∃ t, mg "PATTERN_SIGNS" = some (.str "10." t)
  g_MASK_SIGNS : ∃ t, mg "MASK_SIGNS" = some (.str "10*." t)
  g_is_whole : mg "is_whole" = some (.ref z.a_is_whole)
  k_is_whole : PySem.W.keepIn K (.ref z.a_is_whole) = true
  b_is_whole : Binds K z.d_is_whole ["thing"] []
  F_is_whole : Fun K "is_whole" "is_whole" s_is_whole z.a_is_whole z.d_is_whole
  g_is_tuple_of : mg "is_tuple_of" = some (.ref z.a_is_tuple_of)
  k_is_tuple_of : PySem.W.keepIn K (.ref z.a_is_tuple_of) = true
  b_is_tuple_of : Binds K z.d_is_tuple_of ["thing", "many"] []
  F_is_tuple_of : Fun K "is_tuple_of" "is_tuple_of" s_is_tuple_of z.a_is_tuple_of z.d_is_tuple_of
  g_is_pair : mg "is_pair" = some (.ref z.a_is_pair)
  k_is_pair : PySem.W.keepIn K (.ref z.a_is_pair) = true
  b_is_pair : Binds K z.d_is_pair ["thing"] []
  F_is_pair : Fun K "is_pair" "is_pair" s_is_pair z.a_is_pair z.d_is_pair
  g_is_name : mg "is_name" = some (.ref z.a_is_name)
  k_is_name : PySem.W.keepIn K (.ref z.a_is_name) = true
  b_is_name : Binds K z.d_is_name ["thing"] []
  F_is_name : Fun K "is_name" "is_name" s_is_name z.a_is_name z.d_is_name
  g_is_mask : mg "is_mask" = some (.ref z.a_is_mask)
  k_is_mask : PySem.W.keepIn K (.ref z.a_is_mask) = true
  b_is_mask : Binds K z.d_is_mask ["thing", "sizes"] []
  F_is_mask : Fun K "is_mask" "is_mask" s_is_mask z.a_is_mask z.d_is_mask
  g_is_rule : mg "is_rule" = some (.ref z.a_is_rule)
  k_is_rule : PySem.W.keepIn K (.ref z.a_is_rule) = true
  b_is_rule : Binds K z.d_is_rule ["thing", "sizes"] []
  F_is_rule : Fun K "is_rule" "is_rule" s_is_rule z.a_is_rule z.d_is_rule
  g_is_change : mg "is_change" = some (.ref z.a_is_change)
  k_is_change : PySem.W.keepIn K (.ref z.a_is_change) = true
  b_is_change : Binds K z.d_is_change ["thing"] []
  F_is_change : Fun K "is_change" "is_change" s_is_change z.a_is_change z.d_is_change
  g_check_sizes : mg "check_sizes" = some (.ref z.a_check_sizes)
  k_check_sizes : PySem.W.keepIn K (.ref z.a_check_sizes) = true
  b_check_sizes : Binds K z.d_check_sizes ["sizes"] []
  F_check_sizes : Fun K "check_sizes" "check_sizes" s_check_sizes z.a_check_sizes z.d_check_sizes
  g_check_rules : mg "check_rules" = some (.ref z.a_check_rules)
  k_check_rules : PySem.W.keepIn K (.ref z.a_check_rules) = true
  b_check_rules : Binds K z.d_check_rules ["rules", "sizes"] []
  F_check_rules : Fun K "check_rules" "check_rules" s_check_rules z.a_check_rules z.d_check_rules
  g_check_changes : mg "check_changes" = some (.ref z.a_check_changes)
  k_check_changes : PySem.W.keepIn K (.ref z.a_check_changes) = true
  b_check_changes : Binds K z.d_check_changes ["changes"] []
  F_check_changes : Fun K "check_changes" "check_changes" s_check_changes z.a_check_changes z.d_check_changes
  g_state_names : mg "state_names" = some (.ref z.a_state_names)
  k_state_names : PySem.W.keepIn K (.ref z.a_state_names) = true
  b_state_names : Binds K z.d_state_names ["rules", "changes"] []
  F_state_names : Fun K "state_names" "state_names" s_state_names z.a_state_names z.d_state_names
  g_matched : mg "matched" = some (.ref z.a_matched)
  k_matched : PySem.W.keepIn K (.ref z.a_matched) = true
  b_matched : Binds K z.d_matched ["mask"] []
  F_matched : Fun K "matched" "matched" s_matched z.a_matched z.d_matched
  g_readings : mg "readings" = some (.ref z.a_readings)
  k_readings : PySem.W.keepIn K (.ref z.a_readings) = true
  b_readings : Binds K z.d_readings ["sizes", "rules"] []
  F_readings : Fun K "readings" "readings" s_readings z.a_readings z.d_readings
  g_has_signs : mg "has_signs" = some (.ref z.a_has_signs)
  k_has_signs : PySem.W.keepIn K (.ref z.a_has_signs) = true
  b_has_signs : Binds K z.d_has_signs ["word", "signs"] []
  F_has_signs : Fun K "has_signs" "has_signs" s_has_signs z.a_has_signs z.d_has_signs
  g_is_number_word : mg "is_number_word" = some (.ref z.a_is_number_word)
  k_is_number_word : PySem.W.keepIn K (.ref z.a_is_number_word) = true
  b_is_number_word : Binds K z.d_is_number_word ["word"] []
  F_is_number_word : Fun K "is_number_word" "is_number_word" s_is_number_word z.a_is_number_word z.d_is_number_word
  g_are_number_words : mg "are_number_words" = some (.ref z.a_are_number_words)
  k_are_number_words : PySem.W.keepIn K (.ref z.a_are_number_words) = true
  b_are_number_words : Binds K z.d_are_number_words ["words"] []
  F_are_number_words : Fun K "are_number_words" "are_number_words" s_are_number_words z.a_are_number_words z.d_are_number_words
  g_is_name_word : mg "is_name_word" = some (.ref z.a_is_name_word)
  k_is_name_word : PySem.W.keepIn K (.ref z.a_is_name_word) = true
  b_is_name_word : Binds K z.d_is_name_word ["word"] []
  F_is_name_word : Fun K "is_name_word" "is_name_word" s_is_name_word z.a_is_name_word z.d_is_name_word
  g_can_be_row : mg "can_be_row" = some (.ref z.a_can_be_row)
  k_can_be_row : PySem.W.keepIn K (.ref z.a_can_be_row) = true
  b_can_be_row : Binds K z.d_can_be_row ["words"] []
  F_can_be_row : Fun K "can_be_row" "can_be_row" s_can_be_row z.a_can_be_row z.d_can_be_row
  g_can_be_event : mg "can_be_event" = some (.ref z.a_can_be_event)
  k_can_be_event : PySem.W.keepIn K (.ref z.a_can_be_event) = true
  b_can_be_event : Binds K z.d_can_be_event ["words"] []
  F_can_be_event : Fun K "can_be_event" "can_be_event" s_can_be_event z.a_can_be_event z.d_can_be_event
  g_lines_of : mg "lines_of" = some (.ref z.a_lines_of)
  k_lines_of : PySem.W.keepIn K (.ref z.a_lines_of) = true
  b_lines_of : Binds K z.d_lines_of ["text"] []
  F_lines_of : Fun K "lines_of" "lines_of" s_lines_of z.a_lines_of z.d_lines_of
  g_need_alone : mg "need_alone" = some (.ref z.a_need_alone)
  k_need_alone : PySem.W.keepIn K (.ref z.a_need_alone) = true
  b_need_alone : Binds K z.d_need_alone ["lines"] []
  F_need_alone : Fun K "need_alone" "need_alone" s_need_alone z.a_need_alone z.d_need_alone
  g_read_driver : mg "read_driver" = some (.ref z.a_read_driver)
  k_read_driver : PySem.W.keepIn K (.ref z.a_read_driver) = true
  b_read_driver : Binds K z.d_read_driver ["store", "text"] []
  F_read_driver : Fun K "read_driver" "read_driver" s_read_driver z.a_read_driver z.d_read_driver
  g_read_story : mg "read_story" = some (.ref z.a_read_story)
  k_read_story : PySem.W.keepIn K (.ref z.a_read_story) = true
  b_read_story : Binds K z.d_read_story ["text"] []
  F_read_story : Fun K "read_story" "read_story" s_read_story z.a_read_story z.d_read_story
  n_abs : mg "abs" = none
  n_all : mg "all" = none
  n_bool : mg "bool" = none
  n_enumerate : mg "enumerate" = none
  n_int : mg "int" = none
  n_isinstance : mg "isinstance" = none
  n_len : mg "len" = none
  n_list : mg "list" = none
  n_range : mg "range" = none
  n_set : mg "set" = none
  n_sorted : mg "sorted" = none
  n_str : mg "str" = none
  n_sum : mg "sum" = none
  n_tuple : mg "tuple" = none
  n_zip : mg "zip" = none
/-! small facts -/
theorem S_0 : ("0" : Str) = S [48] := by decide +kernel
theorem S_1 : ("1" : Str) = S [49] := by decide +kernel
theorem S_d : ("." : Str) = S [46] := by decide +kernel
theorem S_e : ("" : Str) = S [] := by decide +kernel
theorem S_eq {a b : List Nat} : (V.str (S a) = V.str (S b)) ↔ a = b := ⟨fun h => SX.S_inj (V.str.inj h), fun h => by rw [h]⟩
theorem inV_sg (c : Nat) : inV (.str (S [c])) [.str "0", .str "1", .str "."] = decide (c = 48 ∨ c = 49 ∨ c = 46) := by
  rw [S_0, S_1, S_d]
  have e : ∀ a : Nat, eqV (V.str (S [a])) (V.str (S [c])) = decide (c = a) := fun a => by
    show (S [a] == S [c]) = _
    rw [SX.S_beq_eq]
    by_cases h : c = a
    · subst h; simp
    · rw [decide_eq_false h, decide_eq_false (fun z => h (by simpa using z.symm))]
  show ([V.str (S [48]), V.str (S [49]), V.str (S [46])].any fun y => eqV y (V.str (S [c]))) = _
  simp only [List.any_cons, List.any_nil, e, Bool.or_false, Bool.decide_or]
theorem le3 : 3 ≤ sizeLine := by decide
theorem S_sz (l : List Nat) : (S l).cps.size = l.length := by simp [S]
theorem S_ln (l : List Nat) : (S l).length = l.length := SX.S_len l
theorem small1 (n : Nat) (h : n ≤ 1000) : n < sizeLine := small1000 h
theorem same_put {H H1 : Hp} {p : Addr} {o : HO} (s : Same H H1) (h : H p = none) : Same H (upd H1 p o) := fun b u e => by rw [upd_ne (ne_of_none e h)]; exact s _ _ e
theorem keepL {H : Hp} {p : Addr} {xs ys : List V} (h : H p = some (.lst xs)) : ∀ c zs, H c = some (.tup zs) → (upd H p (.lst ys)) c = some (.tup zs) := fun c zs e => by
  rw [upd_ne (ne_of e h fun z => nomatch z)]; exact e
abbrev txV (f : List (List Nat)) : List V := (f.map S).map V.str
theorem txV_len (F : List (List Nat)) : (txV F).length = F.length := by rw [List.length_map, List.length_map]
theorem txV_get {F : List (List Nat)} {i : Nat} {x : V} (e : (txV F)[i]? = some x) : ∃ t, F[i]? = some t ∧ x = .str (S t) := by
  rw [List.getElem?_map, List.getElem?_map] at e
  cases q : F[i]? with
  | none => rw [q] at e; cases e
  | some l => rw [q] at e; cases e; exact ⟨l, rfl, rfl⟩
theorem inV_txV (z : List Nat) (F : List (List Nat)) : inV (.str (S z)) (txV F) = decide (z ∈ F) := by
  show ((F.map S).map V.str).any (fun y => eqV y (V.str (S z))) = _
  rw [List.map_map, List.any_map]
  have e : (fun y => eqV y (V.str (S z))) ∘ (V.str ∘ S) = fun p : List Nat => decide (p = z) := by
    funext p
    show (S p == S z) = _
    rw [SX.S_beq_eq]
  rw [e]
  by_cases h : z ∈ F
  · rw [decide_eq_true h]
    exact List.any_eq_true.mpr ⟨z, h, by simp⟩
  · rw [decide_eq_false h]
    refine List.any_eq_false.mpr fun p hp => ?_
    simp only [decide_eq_true_eq]
    exact fun e => h (e ▸ hp)
theorem iteB0 {b : Bool} {A B : Prop} (e : b = false) (h : B) : if b = true then A else B := by
  rw [e]
  exact iteF h
theorem iteB1 {b : Bool} {A B : Prop} (e : b = true) (h : A) : if b = true then A else B := by
  rw [e]
  exact iteT h
theorem two_len {α : Type} {l : List α} (h : l.length = 2) : ∃ a b, l = [a, b] := by
  match l, h with
  | [a, b], _ => exact ⟨a, b, rfl⟩
theorem cut_hd (x : List Nat) : cutS (S x) none (some 2) = S (x.take 2) := by
  unfold cutS
  have e : (S x).cps.toList = x := rfl
  have e2 : (S x).length = x.length := SX.S_len x
  rw [e, e2]
  show S _ = S _
  congr 1
  show (x.drop 0).take (min 2 x.length - 0) = x.take 2
  rw [List.drop_zero, Nat.sub_zero]
  by_cases h : 2 ≤ x.length
  · rw [Nat.min_eq_left h]
  · rw [Nat.min_eq_right (by omega), List.take_length, List.take_of_length_le (by omega)]
theorem cut_tl (x : List Nat) : cutS (S x) (some 2) none = S (x.drop 2) := by
  unfold cutS
  have e : (S x).cps.toList = x := rfl
  have e2 : (S x).length = x.length := SX.S_len x
  rw [e, e2]
  show S _ = S _
  congr 1
  show (x.drop (min 2 x.length)).take (x.length - min 2 x.length) = x.drop 2
  by_cases h : 2 ≤ x.length
  · rw [Nat.min_eq_left h, List.take_of_length_le (by rw [List.length_drop]; omega)]
  · rw [Nat.min_eq_right (by omega), List.drop_length, List.drop_of_length_le (by omega)] <;> simp
theorem cut_to (x : List Nat) (a : Nat) : cutS (S x) none (some (a : Int)) = S (x.take a) := by
  unfold cutS
  have e : (S x).cps.toList = x := rfl
  have e2 : (S x).length = x.length := SX.S_len x
  have i1 : HT.sIx x.length x.length (some (a : Int)) = min a x.length := by
    unfold HT.sIx
    simp [show ¬ ((a : Int) < 0) by omega]
  have i0 : HT.sIx x.length 0 none = 0 := rfl
  rw [e, e2, i1, i0]
  show S _ = S _
  congr 1
  rw [List.drop_zero, Nat.sub_zero]
  by_cases h : a ≤ x.length
  · rw [Nat.min_eq_left h]
  · rw [Nat.min_eq_right (by omega), List.take_length, List.take_of_length_le (by omega)]
theorem cut_from (x : List Nat) (a : Nat) : cutS (S x) (some (a : Int)) none = S (x.drop a) := by
  unfold cutS
  have e : (S x).cps.toList = x := rfl
  have e2 : (S x).length = x.length := SX.S_len x
  have i1 : HT.sIx x.length 0 (some (a : Int)) = min a x.length := by
    unfold HT.sIx
    simp [show ¬ ((a : Int) < 0) by omega]
  have i0 : HT.sIx x.length x.length none = x.length := rfl
  rw [e, e2, i1, i0]
  show S _ = S _
  congr 1
  by_cases h : a ≤ x.length
  · rw [Nat.min_eq_left h, List.take_of_length_le (by rw [List.length_drop]; omega)]
  · rw [Nat.min_eq_right (by omega), List.drop_length, List.drop_of_length_le (by omega)] <;> simp
theorem nums_len (ns : List Nat) : (nums ns).length = ns.length := by unfold nums; rw [List.length_map]
theorem nums_get {bs : List Nat} {i : Nat} {x : V} (e : (nums bs)[i]? = some x) : ∃ b, bs[i]? = some b ∧ x = .int (b : Nat) := by
  unfold nums at e
  rw [List.getElem?_map] at e
  cases q : bs[i]? with
  | none => rw [q] at e; cases e
  | some b => rw [q] at e; cases e; exact ⟨b, rfl, rfl⟩
end Fb
set_option maxRecDepth 100000
set_option maxHeartbeats 4000000
namespace Fb
open PySem PySem.Spec PyProof.Rows L2
open SX (S)
/-! the Store's making: what is right -/
def letS : List Nat := [97, 98, 99, 100, 101, 102, 103, 104, 105, 106, 107, 108, 109, 110, 111, 112, 113, 114, 115, 116, 117, 118, 119, 120, 121, 122]
def nameS : List Nat := [97, 98, 99, 100, 101, 102, 103, 104, 105, 106, 107, 108, 109, 110, 111, 112, 113, 114, 115, 116, 117, 118, 119, 120, 121, 122, 48, 49, 50, 51, 52, 53, 54, 55, 56, 57, 45]
def NameK (x : List Nat) : Prop := x ≠ [] ∧ x.length ≤ 12 ∧ x.headD 0 ∈ letS ∧ ∀ c ∈ x, c ∈ nameS
def StOk (ss : List Nat) : Prop := ss ≠ [] ∧ ss.length ≤ 3 ∧ (∀ n ∈ ss, 1 ≤ n) ∧ ss.sum ≤ 6
/-- a mask of the sizes -/
def MaskK (ss : List Nat) (m : List Nat) : Prop := m.length ≤ 100 ∧ (m.filter (· == 42)).length ≤ 6 ∧ Txt.replace (S m) "*" "0" = S (m.map fun c => if c = 42 then 48 else c) ∧
  Txt.replace (S (m.map fun c => if c = 42 then 48 else c)) "1" "0" = S (TL.joinL [46] (ss.map fun n => List.replicate n 48))
def Pr (A B : List Nat → Prop) (H : Hp) (v : V) (r : List Nat × List Nat) : Prop := ∃ t, v = .ref t ∧ H t = some (.tup [.str (S r.1), .str (S r.2)]) ∧ A r.1 ∧ B r.2
theorem Pr.keep {A B : List Nat → Prop} {H H' : Hp} {v : V} {r : List Nat × List Nat} (h : Pr A B H v r) (k : ∀ c xs, H c = some (.tup xs) → H' c = some (.tup xs)) : Pr A B H' v r := by
  obtain ⟨t, h1, h2, h3⟩ := h
  exact ⟨t, h1, k _ _ h2, h3⟩
abbrev Prs (A B : List Nat → Prop) (H : Hp) (vs : List V) (rs : List (List Nat × List Nat)) : Prop := Paired (Pr A B H) vs rs
theorem pmap {α β : Type} {R R' : α → β → Prop} (k : ∀ v l, R v l → R' v l) : ∀ {vs : List α} {ls : List β}, Paired R vs ls → Paired R' vs ls
  | [], [], .nil => .nil
  | _ :: _, _ :: _, .cons h t => .cons (k _ _ h) (pmap k t)
theorem plen {α β : Type} {R : α → β → Prop} : ∀ {vs : List α} {ls : List β}, Paired R vs ls → vs.length = ls.length
  | [], [], .nil => rfl
  | _ :: _, _ :: _, .cons h t => congrArg (· + 1) (plen t)
theorem pgetv {α β : Type} {R : α → β → Prop} {v : α} : ∀ {vs : List α} {ls : List β} {i : Nat}, Paired R vs ls → vs[i]? = some v → ∃ l, ls[i]? = some l ∧ R v l
  | [], [], _, .nil, e => by cases e
  | _ :: _, l :: _, 0, .cons h t, e => by cases e; exact ⟨l, rfl, h⟩
  | _ :: _, _ :: _, i + 1, .cons h t, e => pgetv (i := i) t e
theorem Prs.keep {A B : List Nat → Prop} {H H' : Hp} {vs : List V} {rs : List (List Nat × List Nat)} (h : Prs A B H vs rs) (k : ∀ c xs, H c = some (.tup xs) → H' c = some (.tup xs)) : Prs A B H' vs rs := pmap (fun _ _ q => q.keep k) h
theorem Prs.same {A B : List Nat → Prop} {H H' : Hp} {vs : List V} {rs : List (List Nat × List Nat)} (h : Prs A B H vs rs) (s : Same H H') : Prs A B H' vs rs := h.keep fun c _ e => s c _ e
/-- the patterns that a mask matches -/
def mtc (m : List Nat) : List (List Nat) := match TL.spl [42] 0 [] m with
  | [] => []
  | p :: ps => ps.foldl (fun f p => f.flatMap fun t => [t ++ [48] ++ p, t ++ [49] ++ p]) [p]
theorem prs_ok {A B : List Nat → Prop} {H : Hp} : ∀ {vs : List V} {rs : List (List Nat × List Nat)}, Prs A B H vs rs → ∀ r ∈ rs, A r.1 ∧ B r.2
  | [], [], .nil, r, hr => by cases hr
  | _ :: _, _ :: _, .cons h t, r, hr => by
    rcases List.mem_cons.mp hr with e | e
    · obtain ⟨_, _, _, h3, h4⟩ := h
      rw [e]
      exact ⟨h3, h4⟩
    · exact prs_ok t r e
theorem ptake {α β : Type} {R : α → β → Prop} : ∀ (i : Nat) {vs : List α} {ls : List β}, Paired R vs ls → Paired R (vs.take i) (ls.take i)
  | 0, _, _, _ => by rw [List.take_zero, List.take_zero]; exact .nil
  | _ + 1, [], [], .nil => .nil
  | i + 1, _ :: _, _ :: _, .cons h t => .cons h (ptake i t)
theorem cutV_take (us : List V) (a : Nat) : cutV us none (some (a : Int)) = us.take a := by
  unfold cutV
  have i0 : HT.sIx us.length 0 none = 0 := rfl
  rw [i0, HT.sIx_nat, List.drop_zero, Nat.sub_zero]
  by_cases h : a ≤ us.length
  · rw [Nat.min_eq_left h]
  · rw [Nat.min_eq_right (by omega), List.take_of_length_le (Nat.le_refl _), List.take_of_length_le (by omega)]
/-- a pair of texts as data -/
def pairD (r : List Nat × List Nat) : PyData := .tuple [.str (S r.1), .str (S r.2)]
theorem eqv_pair (r p : List Nat × List Nat) : PyData.eqv (pairD r) (pairD p) = decide (r = p) := by
  unfold pairD
  have e : ∀ a b : List Nat, PyData.eqv (.str (S a)) (.str (S b)) = decide (a = b) := fun a b => by
    show (S a == S b) = _
    rw [SX.S_beq_eq]
  rw [PyData.eqv, PyData.eqvAll, PyData.eqvAll, PyData.eqvAll, e, e, Bool.and_true]
  obtain ⟨a, b⟩ := r
  obtain ⟨c, d⟩ := p
  rw [← Bool.decide_and]
  exact decide_eq_decide.mpr ⟨fun h => Prod.ext h.1 h.2, fun h => by cases h; exact ⟨rfl, rfl⟩⟩
theorem strOk_name {x : List Nat} (h : NameK x) : PyData.strOk (S x) = true := by
  unfold PyData.strOk
  simp only [S, List.all_toArray, List.all_eq_true, decide_eq_true_eq]
  intro c hc
  have b : ∀ c ∈ nameS, c ≤ 122 := by decide +kernel
  have := b c (h.2.2.2 c hc)
  omega
theorem lay_pair {r : List Nat × List Nat} (h : NameK r.1 ∧ NameK r.2) : (pairD r).canLay0 = true ∧ (pairD r).depth = 1 := by
  unfold pairD
  refine ⟨?_, ?_⟩
  · simp [PyData.canLay0, PyData.canLayAll0, strOk_name h.1, strOk_name h.2]
  · simp [PyData.depth, PyData.depthAll]
theorem lay_pairs : ∀ {rs : List (List Nat × List Nat)}, (∀ r ∈ rs, NameK r.1 ∧ NameK r.2) → PyData.canLayAll0 (rs.map pairD) = true ∧ PyData.depthAll (rs.map pairD) ≤ 1
  | [], _ => ⟨by simp [PyData.canLayAll0], by simp [PyData.depthAll]⟩
  | r :: rs, h => by
    obtain ⟨h1, h2⟩ := lay_pairs (rs := rs) fun x hx => h x (List.mem_cons_of_mem _ hx)
    obtain ⟨h3, h4⟩ := lay_pair (h r List.mem_cons_self)
    rw [List.map_cons, PyData.canLayAll0, PyData.depthAll, h1, h3, h4]
    exact ⟨rfl, by omega⟩
theorem shaped_pair {r : List Nat × List Nat} (h : NameK r.1 ∧ NameK r.2) : SeqAt.shaped (pairD r) = true := by
  obtain ⟨h3, h4⟩ := lay_pair h
  unfold SeqAt.shaped
  rw [h3, h4]
  rfl
theorem shaped_pairs {rs : List (List Nat × List Nat)} (h : ∀ r ∈ rs, NameK r.1 ∧ NameK r.2) : SeqAt.shaped (.list (rs.map pairD)) = true := by
  obtain ⟨h1, h2⟩ := lay_pairs h
  unfold SeqAt.shaped
  rw [PyData.canLay0, PyData.depth, h1]
  simp
  omega
theorem dp_pairs {K : PySem.W.Frag} {A B : List Nat → Prop} {H : Hp} : ∀ {vs : List V} {rs : List (List Nat × List Nat)}, Prs A B H vs rs → DpAll K H vs (rs.map pairD)
  | [], [], .nil => .nil
  | _ :: _, _ :: _, .cons h t => by
    obtain ⟨q, rfl, h2, _⟩ := h
    exact .cons (.tup (SqT.of h2) (.cons (.str _) (.cons (.str _) .nil))) (dp_pairs t)
theorem nd_take {α : Type} : ∀ {l : List α} {i : Nat} {p : α}, l.Nodup → l[i]? = some p → p ∉ l.take i
  | [], _, _, _, e => by cases e
  | _ :: _, 0, _, _, _ => by simp
  | x :: l, i + 1, p, h, e => by
    obtain ⟨h1, h2⟩ := List.nodup_cons.mp h
    have e : l[i]? = some p := e
    rw [List.take_succ_cons]
    intro hm
    rcases List.mem_cons.mp hm with q | q
    · rw [q] at e
      exact h1 (List.mem_of_getElem? e)
    · exact nd_take h2 e q
def spWhI : Sp := fun vs H Q _ => ∃ i, vs = [.int i] ∧ Q (.bl true) H
def spTup (K : PySem.W.Frag) : Sp := fun vs H Q _ => ∃ t xs n, vs = [.ref t, .int (n : Nat)] ∧ H t = some (.tup xs) ∧ Q (.bl (decide (xs.length = n))) H
def spPairV (K : PySem.W.Frag) : Sp := fun vs H Q _ => ∃ t xs, vs = [.ref t] ∧ H t = some (.tup xs) ∧ Q (.bl (decide (xs.length = 2))) H
def spIsN : Sp := fun vs H Q _ => ∃ x, vs = [.str (S x)] ∧ NameK x ∧ ∀ H', Same H H' → Q (.bl true) H'
def spIsM (K : PySem.W.Frag) : Sp := fun vs H Q _ => ∃ m t ss, vs = [.str (S m), .ref t] ∧ SqT K H t (nums ss) ∧ StOk ss ∧ MaskK ss m ∧ ∀ H', Same H H' → Q (.bl true) H'
def spIsR (K : PySem.W.Frag) : Sp := fun vs H Q _ => ∃ r t ss p, vs = [r, .ref t] ∧ Pr (MaskK ss) NameK H r p ∧ SqT K H t (nums ss) ∧ StOk ss ∧ ∀ H', Same H H' → Q (.bl true) H'
def spIsC : Sp := fun vs H Q _ => ∃ r p, vs = [r] ∧ Pr NameK NameK H r p ∧ p.1 ≠ p.2 ∧ ∀ H', Same H H' → Q (.bl true) H'
def spChS (K : PySem.W.Frag) : Sp := fun vs H Q _ => ∃ q ss, vs = [.ref q] ∧ H q = some (.lst (nums ss)) ∧ StOk ss ∧ ∀ H', Same H H' → Q .non H'
def spChR (K : PySem.W.Frag) : Sp := fun vs H Q _ => ∃ q t us rs ss, vs = [.ref q, .ref t] ∧ H q = some (.lst us) ∧ Prs (MaskK ss) NameK H us rs ∧ rs.length ≤ 64 ∧ SqT K H t (nums ss) ∧ StOk ss ∧ ∀ H', Same H H' → Q .non H'
def spChC : Sp := fun vs H Q _ => ∃ q us rs, vs = [.ref q] ∧ H q = some (.lst us) ∧ Prs NameK NameK H us rs ∧ rs.length ≤ 16 ∧ rs.Nodup ∧ (∀ r ∈ rs, r.1 ≠ r.2) ∧ ∀ H', Same H H' → Q .non H'
def spStN (K : PySem.W.Frag) : Sp := fun vs H Q _ => ∃ a b us rs ws cs ss, vs = [.ref a, .ref b] ∧ H a = some (.lst us) ∧ Prs (MaskK ss) NameK H us rs ∧ rs.length ≤ 64 ∧ H b = some (.lst ws) ∧ Prs NameK NameK H ws cs ∧ cs.length ≤ 16 ∧
  ∀ q ys H', Same H H' → H q = none → H' q = some (.tup ys) → Q (.ref q) H'
def spMat : Sp := fun vs H Q _ => ∃ m, vs = [.str (S m)] ∧ m.length ≤ 100 ∧ (m.filter (· == 42)).length ≤ 6 ∧ ∀ D H', Same H H' → H D = none → H' D = some (.lst (txV (mtc m))) → Q (.ref D) H'
def spRdg (K : PySem.W.Frag) : Sp := fun vs H Q _ => ∃ a b us rs ss, vs = [.ref a, .ref b] ∧ H a = some (.lst (nums ss)) ∧ StOk ss ∧ H b = some (.lst us) ∧ Prs (MaskK ss) NameK H us rs ∧ rs.length ≤ 64 ∧
  ∀ D kvs H', Same H H' → H D = none → H' D = some (.dK kvs) → Q (.ref D) H'
section
variable {P : Program} {wo : World} {K : PySem.W.Frag} {mg : Str → Option Value} {base : Heap} {z : Pz}
theorem ok_is_whole (T : Txp K mg z) : FnOk P wo K mg base CX0 1 z.a_is_whole z.d_is_whole ["thing"] spWhI := by
  refine T.F_is_whole.ok sc_is_whole (fun vs H Q E h => ?_) (fun cdv A outer s H vs Q E hr h => ?_)
  · obtain ⟨i, rfl, _⟩ := h
    rfl
  · obtain ⟨i, rfl, ret⟩ := h
    refine ⟨_, (pss_one (ps_ret (pe_and (pe_callB call_isi (by rfl) T.n_isinstance boot_isinstance (pa_cons (pv 0) (pa_cons (pe_bltn (v := .ty "int") rfl T.n_int (by decide +kernel) rfl) pa_nil))) (pe_one (pe_not (pe_callB call_isi (by rfl) T.n_isinstance boot_isinstance (pa_cons (pv 0) (pa_cons (pe_bltn (v := .ty "bool") rfl T.n_bool (by decide +kernel) rfl) pa_nil)))))))), ?_⟩
    refine ⟨_, rfl, _, _, _, _, true, rfl, .ty "int", .base (.int _), kit_ty (by decide +kernel), _, rfl, iteT ?_⟩
    refine ⟨_, rfl, _, _, _, _, false, rfl, .ty "bool", .base (.int _), kit_ty (by decide +kernel), _, rfl, ?_⟩
    exact ret
theorem ok_is_tuple_of (T : Txp K mg z) : FnOk P wo K mg base CX0 1 z.a_is_tuple_of z.d_is_tuple_of ["thing", "many"] (spTup K) := by
  refine T.F_is_tuple_of.ok sc_is_tuple_of (fun vs H Q E h => ?_) (fun cdv A outer s H vs Q E hr h => ?_)
  · obtain ⟨t, xs, n, rfl, _⟩ := h
    rfl
  · obtain ⟨t, xs, n, rfl, ht, ret⟩ := h
    refine ⟨_, (pss_one (ps_ret (pe_and (pe_callB call_isi (by rfl) T.n_isinstance boot_isinstance (pa_cons (pv 0) (pa_cons (pe_bltn (v := .ty "tuple") rfl T.n_tuple (by decide +kernel) rfl) pa_nil))) (pe_one (pe_cmpR op_eq (pe_callB call_len_seq (by rfl) T.n_len (by decide +kernel) (pa_cons (pv 0) pa_nil)) (pv 1) (nomark _)))))), ?_⟩
    refine ⟨_, rfl, _, _, _, _, true, rfl, .ty "tuple", .base (.tup ht), kit_ty (by decide +kernel), _, rfl, iteT ?_⟩
    refine ⟨_, rfl, t, _, rfl, .inr (SqT.of ht), _, rfl, rfl, ?_⟩
    rw [show decide (V.int (xs.length : Nat) = V.int (n : Nat)) = decide (xs.length = n) from decide_eq_decide.mpr ⟨fun e => by have := V.int.inj e; omega, fun e => by rw [e]⟩]
    exact ret
theorem ok_is_pair (T : Txp K mg z) : FnOk P wo K mg base CX0 2 z.a_is_pair z.d_is_pair ["thing"] (spPairV K) := by
  refine T.F_is_pair.ok sc_is_pair (fun vs H Q E h => ?_) (fun cdv A outer s H vs Q E hr h => ?_)
  · obtain ⟨t, xs, rfl, _⟩ := h
    rfl
  · obtain ⟨t, xs, rfl, ht, ret⟩ := h
    have hr1 : Room 1 _ := hr
    have G_is_tuple_of : FnOk P wo K mg base CX0 1 z.a_is_tuple_of z.d_is_tuple_of ["thing", "many"] (spTup K) := ok_is_tuple_of T
    refine ⟨_, (pss_one (ps_ret (pe_call G_is_tuple_of hr1 rfl T.g_is_tuple_of T.k_is_tuple_of T.b_is_tuple_of .nil pass0 (pa_cons (pv 0) (pa_cons pe_int pa_nil))))), ?_⟩
    exact ⟨_, rfl, t, xs, 2, rfl, ht, ret⟩
theorem ok_is_name (T : Txp K mg z) : FnOk P wo K mg base CX0 1 z.a_is_name z.d_is_name ["thing"] spIsN := by
  refine T.F_is_name.ok sc_is_name (fun vs H Q E h => ?_) (fun cdv A outer s H vs Q E hr h => ?_)
  · obtain ⟨x, rfl, _⟩ := h
    rfl
  · obtain ⟨x, rfl, ⟨n0, n1, n2, n3⟩, ret⟩ := h
    obtain ⟨tM, gMOST_NAME_SIGNS⟩ := T.g_MOST_NAME_SIGNS
    obtain ⟨tL, gLETTERS⟩ := T.g_LETTERS
    obtain ⟨tN, gNAME_SIGNS⟩ := T.g_NAME_SIGNS
    have lz : (S x).length ≤ sizeLine := by rw [S_ln]; exact Nat.le_trans n1 (by decide)
    refine ⟨_, (pss_cons (ps_if (PW.pt (pw_or (pt_not (pt_val (pe_callB call_isi (by rfl) T.n_isinstance boot_isinstance (pa_cons (pv 0) (pa_cons (pe_bltn (v := .ty "str") rfl T.n_str (by decide +kernel) rfl) pa_nil))))) (pw_or1 (pt_not (pt_chain op_le op_le pe_int (pe_callB call_len_str (by rfl) T.n_len (by decide +kernel) (pa_cons (pv 0) pa_nil)) (pe_glob (v := .int 12) rfl gMOST_NAME_SIGNS ⟨_, rfl⟩))))))
        (pss_one (ps_ret pe_bl))
        pss_nil)
      (pss_one (ps_ret (pe_and (pe_cmpR op_in_sign (pe_ix ix_str (pv 0) pe_int (fun _ _ => rfl)) (pe_glob (v := .str "abcdefghijklmnopqrstuvwxyz") rfl gLETTERS ⟨_, rfl⟩) rfl) (pe_one (pe_callB (cr_all rfl) (by rfl) T.n_all (by decide +kernel) (pa_cons (by refine' pe_lc (own := [("sign", 1)]) (tt := tYes) rfl sc_is_name.nd ?hi (blkOk_by (N := ["thing", "sign"]) (sc := defScope s_is_name) (by first | decide +kernel | kernel_rfl | rfl)) ?hg ?ht ?he (by intro _; rfl); (case hi => exact (pi_str (pv 0))); (case hg => exact fun _ _ _ _ _ => (pg_name (i := 1) sc_is_name.nd rfl (Or.inl rfl))); (case ht => exact fun _ _ _ _ _ => pts_nil); (case he => exact fun _ _ _ _ _ => (pe_cmpR op_in_sign (pv 1) (pe_glob (v := .str "abcdefghijklmnopqrstuvwxyz0123456789-") rfl gNAME_SIGNS ⟨_, rfl⟩) rfl))) pa_nil))))))), ?_⟩
    refine ⟨_, rfl, _, _, _, _, true, rfl, .ty "str", .base (.str _), kit_ty (by decide +kernel), _, rfl, iteF ?_⟩
    refine ⟨_, rfl, S x, rfl, lz, ?_⟩
    rw [S_ln]
    have l1 : 1 ≤ x.length := List.length_pos_iff.mpr n0
    refine ⟨_, _, rfl, rfl, _, rfl, ?_⟩
    refine iteB1 (decide_eq_true (by omega)) ?_
    refine ⟨_, _, rfl, rfl, _, rfl, ?_⟩
    refine iteB0 (by rw [decide_eq_true (show (x.length : Int) ≤ 12 by omega)] <;> rfl) ?_
    obtain ⟨c, xt, rfl⟩ : ∃ c xt, x = c :: xt := by cases x with | nil => exact absurd rfl n0 | cons c xt => exact ⟨c, xt, rfl⟩
    refine ⟨_, rfl, S (c :: xt), 0, c, rfl, rfl, lz, atI_nat (j := 0) rfl, ?_⟩
    refine ⟨c, S letS, rfl, by rw [show ("abcdefghijklmnopqrstuvwxyz" : Str) = S letS by decide +kernel] <;> rfl, ?_⟩
    have e0 : decide (c ∈ (S letS).cps.toList) = true := decide_eq_true n2
    refine ⟨_, rfl, iteB1 e0 ?_⟩
    refine ⟨_, rfl, S (c :: xt), rfl, fun D hD => ?_⟩
    generalize c :: xt = w at *
    refine lc_S (l := w) (fun i H' => Same H H' ∧ H' D = some (.lst (((w.take i).map fun c => decide (c ∈ nameS)).map V.bl))) ⟨smN (Same.refl _) hD, upd_same⟩ (fun i c H2 e h => ?_) (fun H2 h => ?_)
    · refine ⟨rfl, yes1 ?_⟩
      refine ⟨_, rfl, c, S nameS, rfl, by rw [show ("abcdefghijklmnopqrstuvwxyz0123456789-" : Str) = S nameS by decide +kernel] <;> rfl, ?_⟩
      have li : i < w.length := (List.getElem?_eq_some_iff.mp e).1
      refine ⟨_, h.2, by rw [List.length_map, List.length_map, List.length_take]; exact Nat.lt_of_le_of_lt (show min i w.length ≤ 10000 by omega) (by decide), ?_⟩
      refine ⟨same_put h.1 hD, ?_⟩
      rw [upd_same, List.take_add_one, e, List.map_append, List.map_append] <;> rfl
    · obtain ⟨h1, h2⟩ := h
      rw [List.take_length] at h2
      refine ⟨D, _, rfl, SqL.of h2, ?_⟩
      rw [List.all_map]
      have e1 : w.all (id ∘ fun c => decide (c ∈ nameS)) = true := List.all_eq_true.mpr fun c hc => decide_eq_true (n3 c hc)
      rw [e1]
      exact ret _ h1
theorem ok_is_mask (T : Txp K mg z) : FnOk P wo K mg base CX0 1 z.a_is_mask z.d_is_mask ["thing", "sizes"] (spIsM K) := by
  refine Fun.okT T.F_is_mask sc_is_mask (by decide +kernel) (by decide) (fun vs H Q E h => ?_) (fun cdv A outer s H vs Q E hr h => ?_)
  · obtain ⟨m, t, ss, rfl, _⟩ := h
    rfl
  · obtain ⟨m, t, ss, rfl, ht, oss, ⟨l1, l2, r1, r2⟩, ret⟩ := h
    refine ⟨_, (psst_cons (CwR.pst_if (pt_not (pt_val (pe_callB call_isi (by rfl) T.n_isinstance boot_isinstance (pa_cons (pv 0) (pa_cons (pe_bltn (v := .ty "str") rfl T.n_str (by decide +kernel) rfl) pa_nil))))) (PSsT.of (pss_one (ps_ret pe_bl))) CwR.psst_nil) (CwR.psst_one (CwR.pst_ret (pet_cmpR op_eq (CwR.pet_replT (CwR.pet_replC (pv 0))) (pe_joinK (K := K) rfl pe_str (pa_cons (by refine' pe_lc (own := [("size", 2)]) (tt := tYes) rfl sc_is_mask.nd ?hi (blkOk_by (N := ["thing", "sizes", "size"]) (sc := defScope s_is_mask) (by first | decide +kernel | kernel_rfl | rfl)) ?hg ?ht ?he (by intro _; rfl); (case hi => exact (pi_tupK (K := K) rfl (pv 1))); (case hg => exact fun _ _ _ _ _ => (pg_name (i := 2) sc_is_mask.nd rfl (Or.inl rfl))); (case ht => exact fun _ _ _ _ _ => pts_nil); (case he => exact fun _ _ _ _ _ => (pe_op op_repS pe_str (pv 2)))) pa_nil)) (nomark _))))), ?_⟩
    refine ⟨_, rfl, _, _, _, _, true, rfl, .ty "str", .base (.str _), kit_ty (by decide +kernel), _, rfl, iteF ?_⟩
    have lm : (m.map fun c => if c = 42 then 48 else c).length = m.length := List.length_map _
    refine ⟨_, rfl, S m, rfl, ?_, ?_⟩
    · rw [S_ln, show ("0" : Str).length = 1 by decide +kernel]; omega
    rw [r1]
    refine ⟨_, rfl, ?_, ?_⟩
    · rw [S_ln, lm, show ("0" : Str).length = 1 by decide +kernel]; omega
    rw [r2]
    obtain ⟨o1, o2, o3, o4⟩ := oss
    refine ⟨rfl, _, rfl, t, rfl, ⟨_, ht⟩, fun D hD => ?_⟩
    refine lc_outU (xs := nums ss) (outM fun i => V.str (S (List.replicate (ss.getD i 0) 48))) hD ht outM_0 (fun i hi => by rw [outM_l]; exact small1 i (by rw [nums_len] at hi; omega)) (fun i x H5 Kc K0 e s5 kc k0 => ?_) (fun H5 s5 e5 => ?_)
    · obtain ⟨n, en, rfl⟩ := nums_get e
      have hn := le_sum (List.mem_of_getElem? en)
      refine ⟨rfl, yes1 ?_⟩
      rw [show ("0" : Str) = S [48] from S_0]
      refine ⟨_, rfl, 48, n, rfl, rfl, by omega, kc _ _ (Same.refl _) ?_⟩
      rw [outM_s, List.getD_eq_getElem?_getD, en] <;> rfl
    have e6 : outM (fun i => V.str (S (List.replicate (ss.getD i 0) 48))) (nums ss).length = txV (ss.map fun n => List.replicate n 48) := outM_all (by rw [nums_len, txV_len, List.length_map]) fun i hi => by
      rw [nums_len] at hi
      rw [List.getElem?_map, List.getElem?_map, List.getElem?_map, List.getD_eq_getElem?_getD, List.getElem?_eq_getElem hi] <;> rfl
    rw [e6] at e5
    refine ⟨".", D, (ss.map fun n => List.replicate n 48).map S, rfl, rfl, .inl (SqL.of e5), ?_, ?_⟩
    · rw [SX.lens, List.map_map]
      have e7 : (ss.map (List.length ∘ fun n => List.replicate n 48)) = ss := by
        have : (List.length ∘ fun n => List.replicate n 48) = (id : Nat → Nat) := by funext n; simp
        rw [this, List.map_id]
      rw [e7]
      show ss.sum + ((ss.map fun n => List.replicate n 48).map S).length * 1 ≤ sizeLine
      rw [List.length_map, List.length_map]
      exact Nat.le_trans (show _ ≤ 1000 by omega) (by decide)
    rw [S_d, SX.join_S]
    refine ⟨rfl, ?_⟩
    rw [decide_eq_true rfl]
    exact ret _ s5
theorem ok_is_rule (T : Txp K mg z) : FnOk P wo K mg base CX0 3 z.a_is_rule z.d_is_rule ["thing", "sizes"] (spIsR K) := by
  refine T.F_is_rule.ok sc_is_rule (fun vs H Q E h => ?_) (fun cdv A outer s H vs Q E hr h => ?_)
  · obtain ⟨r, t, ss, p, rfl, _⟩ := h
    rfl
  · obtain ⟨r, t, ss, p, rfl, ⟨q, rfl, hq, h1, h2⟩, ht, oss, ret⟩ := h
    have hr2 : Room 2 _ := hr
    have hr1 : Room 1 _ := hr.mono (by decide)
    have G_is_pair : FnOk P wo K mg base CX0 2 z.a_is_pair z.d_is_pair ["thing"] (spPairV K) := ok_is_pair T
    have G_is_name : FnOk P wo K mg base CX0 1 z.a_is_name z.d_is_name ["thing"] spIsN := ok_is_name T
    have G_is_mask : FnOk P wo K mg base CX0 1 z.a_is_mask z.d_is_mask ["thing", "sizes"] (spIsM K) := ok_is_mask T
    refine ⟨_, (pss_cons (ps_if (pt_not (pt_val (pe_call G_is_pair hr2 rfl T.g_is_pair T.k_is_pair T.b_is_pair .nil pass0 (pa_cons (pv 0) pa_nil))))
        (pss_one (ps_ret pe_bl))
        pss_nil)
      (pss_cons (ps_asg (pv 0) (pg_tup rfl (pgs_cons (pg_name (i := 2) sc_is_rule.nd rfl (Or.inl rfl)) (pgs_cons (pg_name (i := 3) sc_is_rule.nd rfl (Or.inl rfl)) pgs_nil))))
      (pss_one (ps_ret (pe_and (pe_call G_is_mask hr1 rfl T.g_is_mask T.k_is_mask T.b_is_mask .nil pass0 (pa_cons (pv 2) (pa_cons (pv 1) pa_nil))) (pe_one (pe_call G_is_name hr1 rfl T.g_is_name T.k_is_name T.b_is_name .nil pass0 (pa_cons (pv 3) pa_nil)))))))), ?_⟩
    refine ⟨_, rfl, q, _, rfl, hq, ⟨_, rfl, iteF ?_⟩⟩
    refine ⟨_, rfl, q, _, rfl, SqT.of hq, rfl, ?_⟩
    refine ⟨_, _, rfl, ?_⟩
    refine ⟨_, _, rfl, ?_⟩
    refine ⟨rfl, ?_⟩
    refine ⟨_, rfl, _, rfl, p.1, t, ss, rfl, ht, oss, h1, fun H1 s1 => ⟨_, rfl, iteT ?_⟩⟩
    exact ⟨_, rfl, p.2, rfl, h2, fun H2 s2 => ret _ (s1.trans s2)⟩
theorem ok_is_change (T : Txp K mg z) : FnOk P wo K mg base CX0 3 z.a_is_change z.d_is_change ["thing"] spIsC := by
  refine T.F_is_change.ok sc_is_change (fun vs H Q E h => ?_) (fun cdv A outer s H vs Q E hr h => ?_)
  · obtain ⟨r, p, rfl, _⟩ := h
    rfl
  · obtain ⟨r, p, rfl, ⟨q, rfl, hq, h1, h2⟩, ne, ret⟩ := h
    have hr2 : Room 2 _ := hr
    have hr1 : Room 1 _ := hr.mono (by decide)
    have G_is_pair : FnOk P wo K mg base CX0 2 z.a_is_pair z.d_is_pair ["thing"] (spPairV K) := ok_is_pair T
    have G_is_name : FnOk P wo K mg base CX0 1 z.a_is_name z.d_is_name ["thing"] spIsN := ok_is_name T
    refine ⟨_, (pss_cons (ps_if (pt_not (pt_val (pe_call G_is_pair hr2 rfl T.g_is_pair T.k_is_pair T.b_is_pair .nil pass0 (pa_cons (pv 0) pa_nil))))
        (pss_one (ps_ret pe_bl))
        pss_nil)
      (pss_cons (ps_asg (pv 0) (pg_tup rfl (pgs_cons (pg_name (i := 1) sc_is_change.nd rfl (Or.inl rfl)) (pgs_cons (pg_name (i := 2) sc_is_change.nd rfl (Or.inl rfl)) pgs_nil))))
      (pss_one (ps_ret (pe_and (pe_call G_is_name hr1 rfl T.g_is_name T.k_is_name T.b_is_name .nil pass0 (pa_cons (pv 1) pa_nil)) (pe_and (pe_call G_is_name hr1 rfl T.g_is_name T.k_is_name T.b_is_name .nil pass0 (pa_cons (pv 2) pa_nil)) (pe_one (pe_cmpR op_ne (pv 1) (pv 2) (nomark _))))))))), ?_⟩
    refine ⟨_, rfl, q, _, rfl, hq, ⟨_, rfl, iteF ?_⟩⟩
    refine ⟨_, rfl, q, _, rfl, SqT.of hq, rfl, ?_⟩
    refine ⟨_, _, rfl, ?_⟩
    refine ⟨_, _, rfl, ?_⟩
    refine ⟨rfl, ?_⟩
    refine ⟨_, rfl, p.1, rfl, h1, fun H1 s1 => ⟨_, rfl, iteT ?_⟩⟩
    refine ⟨_, rfl, p.2, rfl, h2, fun H2 s2 => ⟨_, rfl, iteT ?_⟩⟩
    refine ⟨_, rfl, _, rfl, rfl, ?_⟩
    have e0 : (!decide (V.str (S p.1) = V.str (S p.2))) = true := by rw [decide_eq_false (fun e => ne (S_eq.mp e))] <;> rfl
    show Q (V.bl (!decide (V.str (S p.1) = V.str (S p.2)))) H2
    rw [e0]
    exact ret _ (s1.trans s2)
theorem ok_check_sizes (T : Txp K mg z) : FnOk P wo K mg base CX0 2 z.a_check_sizes z.d_check_sizes ["sizes"] (spChS K) := by
  refine T.F_check_sizes.ok sc_check_sizes (fun vs H Q E h => ?_) (fun cdv A outer s H vs Q E hr h => ?_)
  · obtain ⟨q, ss, rfl, _⟩ := h
    rfl
  · obtain ⟨q, ss, rfl, hq, oss, ret⟩ := h
    have hr1 : Room 1 _ := hr
    have G_is_whole : FnOk P wo K mg base CX0 1 z.a_is_whole z.d_is_whole ["thing"] spWhI := ok_is_whole T
    obtain ⟨tM, gMOST_BLOCKS⟩ := T.g_MOST_BLOCKS
    obtain ⟨tL, gMOST_BITS⟩ := T.g_MOST_BITS
    refine ⟨_, (pss_cons (ps_if (PW.pt (pw_or (pt_not (pt_val (pe_callB call_isi (by rfl) T.n_isinstance boot_isinstance (pa_cons (pv 0) (pa_cons (pe_bltn (v := .ty "list") rfl T.n_list (by decide +kernel) rfl) pa_nil))))) (pw_or1 (pt_not (pt_truth (pv 0) (by intro _; rfl))))))
        (pss_one ps_no)
        pss_nil)
      (pss_cons (ps_set (i := 1) sc_check_sizes.nd rfl (Or.inl rfl) pe_int)
      (pss_one (ps_for PassesOwn.never rfl (pi_enum (by rfl) T.n_enumerate (pa_cons (pv 0) pa_nil)) (pg_tup rfl (pgs_cons (pg_name (i := 2) sc_check_sizes.nd rfl (Or.inl rfl)) (pgs_cons (pg_name (i := 3) sc_check_sizes.nd rfl (Or.inl rfl)) pgs_nil)))
        (pss_cons (ps_if (PW.pt (pw_or (pt_cmpR op_eq (pv 2) (pe_glob (v := .int 3) rfl gMOST_BLOCKS ⟨_, rfl⟩) (nomark _)) (pw_or (pt_not (pt_val (pe_call G_is_whole hr1 rfl T.g_is_whole T.k_is_whole T.b_is_whole .nil pass0 (pa_cons (pv 3) pa_nil)))) (pw_or1 (pt_cmpR op_lt (pv 3) pe_int (nomark _))))))
          (pss_one ps_no)
          pss_nil)
        (pss_cons (ps_set (i := 1) sc_check_sizes.nd rfl (Or.inl rfl) (pe_op op_add (pv 1) (pv 3)))
        (pss_one (ps_if (pt_cmpR op_gt (pv 1) (pe_glob (v := .int 6) rfl gMOST_BITS ⟨_, rfl⟩) (nomark _))
          (pss_one ps_no)
          pss_nil)))))))), ?_⟩
    refine ⟨_, rfl, _, _, _, _, true, rfl, .ty "list", .base (.lst hq), kit_ty (by decide +kernel), _, rfl, iteF ?_⟩
    obtain ⟨o1, o2, o3, o4⟩ := oss
    have e0 : true = !(nums ss).isEmpty := by
      cases ss with
      | nil => exact absurd rfl o1
      | cons n r => rfl
    refine ⟨_, rfl, true, .inl ⟨_, SqL.of hq, e0⟩, iteB0 rfl ?_⟩
    refine ⟨_, rfl, q, _, rfl, SqL.of hq, ?_⟩
    refine for_it (walk_enum (xs := nums ss)) (fun i σ H' => Same H H' ∧ ∃ (x2 x3 : Option V), σ = [some (.ref q), some (.int (((ss.take i).sum : Nat) : Int)), x2, x3]) ⟨Same.refl _, none, none, rfl⟩ (fun i σ H' _ h => SqL.of (h.1 _ _ hq)) (fun i x σ H2 H3 lt h y => ?_) (fun σ H2 h => ?_)
    · obtain ⟨s2, x2, x3, rfl⟩ := h
      obtain ⟨Tu, a1, v, rfl, hTu, rfl, e1, e2⟩ := y
      cases e1
      obtain ⟨n, en, rfl⟩ := nums_get e2
      rw [nums_len] at lt
      have h1 := o3 n (List.mem_of_getElem? en)
      have s3 := smN (o := .tup [.int (i : Nat), .int (n : Nat)]) s2 hTu
      have st : (ss.take (i + 1)).sum = (ss.take i).sum + n := take_sum_s en
      have sl : (ss.take (i + 1)).sum ≤ ss.sum := take_sum_le ss (i + 1)
      refine ⟨Tu, [.int (i : Nat), .int (n : Nat)], rfl, SqT.of upd_same, rfl, ?_⟩
      refine ⟨_, _, rfl, ?_⟩
      refine ⟨_, _, rfl, ?_⟩
      refine ⟨rfl, ?_⟩
      refine ⟨_, rfl, rfl, _, rfl, iteB0 (decide_eq_false fun e => by have := V.int.inj e; omega) ?_⟩
      refine ⟨_, rfl, _, rfl, _, rfl, iteB0 rfl ?_⟩
      refine ⟨_, rfl, _, _, rfl, rfl, _, rfl, iteB0 (decide_eq_false (by omega)) ?_⟩
      refine ⟨_, rfl, _, rfl, _, _, rfl, rfl, ?_⟩
      refine ⟨_, rfl, _, _, rfl, rfl, _, rfl, iteB0 (decide_eq_false (by omega)) ?_⟩
      exact ⟨s3, some (.int (i : Nat)), some (.int (n : Nat)), by rw [st] <;> rfl⟩
    · obtain ⟨s2, x2, x3, rfl⟩ := h
      exact ret _ s2
theorem ok_check_rules (T : Txp K mg z) : FnOk P wo K mg base CX0 4 z.a_check_rules z.d_check_rules ["rules", "sizes"] (spChR K) := by
  refine T.F_check_rules.ok sc_check_rules (fun vs H Q E h => ?_) (fun cdv A outer s H vs Q E hr h => ?_)
  · obtain ⟨q, t, us, rs, ss, rfl, _⟩ := h
    rfl
  · obtain ⟨q, t, us, rs, ss, rfl, hq, R, lr, ht, oss, ret⟩ := h
    have hr3 : Room 3 _ := hr
    have G_is_rule : FnOk P wo K mg base CX0 3 z.a_is_rule z.d_is_rule ["thing", "sizes"] (spIsR K) := ok_is_rule T
    obtain ⟨tM, gMOST_RULES⟩ := T.g_MOST_RULES
    refine ⟨_, (pss_cons (ps_if (pt_not (pt_val (pe_callB call_isi (by rfl) T.n_isinstance boot_isinstance (pa_cons (pv 0) (pa_cons (pe_bltn (v := .ty "list") rfl T.n_list (by decide +kernel) rfl) pa_nil)))))
        (pss_one ps_no)
        pss_nil)
      (pss_one (ps_for PassesOwn.never rfl (pi_enum (by rfl) T.n_enumerate (pa_cons (pv 0) pa_nil)) (pg_tup rfl (pgs_cons (pg_name (i := 2) sc_check_rules.nd rfl (Or.inl rfl)) (pgs_cons (pg_name (i := 3) sc_check_rules.nd rfl (Or.inl rfl)) pgs_nil)))
        (pss_one (ps_if (PW.pt (pw_or (pt_cmpR op_eq (pv 2) (pe_glob (v := .int 64) rfl gMOST_RULES ⟨_, rfl⟩) (nomark _)) (pw_or1 (pt_not (pt_val (pe_call G_is_rule hr3 rfl T.g_is_rule T.k_is_rule T.b_is_rule .nil pass0 (pa_cons (pv 3) (pa_cons (pv 1) pa_nil))))))))
          (pss_one ps_no)
          pss_nil))))), ?_⟩
    refine ⟨_, rfl, _, _, _, _, true, rfl, .ty "list", .base (.lst hq), kit_ty (by decide +kernel), _, rfl, iteF ?_⟩
    have lu := plen R
    refine ⟨_, rfl, q, us, rfl, SqL.of hq, ?_⟩
    refine for_it (walk_enum (xs := us)) (fun i σ H' => Same H H' ∧ ∃ (x2 x3 : Option V), σ = [some (.ref q), some (.ref t), x2, x3]) ⟨Same.refl _, none, none, rfl⟩ (fun i σ H' _ h => SqL.of (h.1 _ _ hq)) (fun i x σ H2 H3 lt h y => ?_) (fun σ H2 h => ?_)
    · obtain ⟨s2, x2, x3, rfl⟩ := h
      obtain ⟨Tu, a1, v, rfl, hTu, rfl, e1, e2⟩ := y
      cases e1
      have e2 : us[i]? = some v := e2
      obtain ⟨p, ep, hp⟩ := pgetv R e2
      have s3 := smN (o := .tup [.int (i : Nat), v]) s2 hTu
      refine ⟨Tu, [.int (i : Nat), v], rfl, SqT.of upd_same, rfl, ?_⟩
      refine ⟨_, _, rfl, ?_⟩
      refine ⟨_, _, rfl, ?_⟩
      refine ⟨rfl, ?_⟩
      refine ⟨_, rfl, rfl, _, rfl, iteB0 (decide_eq_false fun e => by have := V.int.inj e; omega) ?_⟩
      refine ⟨_, rfl, _, rfl, v, t, ss, p, rfl, hp.keep (fun c _ e => s3 c _ e), sqT_same s3 ht, oss, fun H4 s4 => ⟨_, rfl, iteF ?_⟩⟩
      exact ⟨s3.trans s4, _, _, rfl⟩
    · obtain ⟨s2, x2, x3, rfl⟩ := h
      exact ret _ s2
theorem ok_check_changes (T : Txp K mg z) : FnOk P wo K mg base CX0 4 z.a_check_changes z.d_check_changes ["changes"] spChC := by
  refine T.F_check_changes.ok sc_check_changes (fun vs H Q E h => ?_) (fun cdv A outer s H vs Q E hr h => ?_)
  · obtain ⟨q, us, rs, rfl, _⟩ := h
    rfl
  · obtain ⟨q, us, rs, rfl, hq, R, lr, nd, nr, ret⟩ := h
    have hr3 : Room 3 _ := hr
    have hu64 : (A.deeper (envOfC "check_changes" (defScope s_check_changes) s.heap.objs.size z.a_check_changes cdv)).units + 64 < cLine := hr.units
    have hu65 : (A.deeper (envOfC "check_changes" (defScope s_check_changes) s.heap.objs.size z.a_check_changes cdv)).units + 65 < cLine := by have := hr.un; omega
    have G_is_change : FnOk P wo K mg base CX0 3 z.a_is_change z.d_is_change ["thing"] spIsC := ok_is_change T
    obtain ⟨tM, gMOST_CHANGES⟩ := T.g_MOST_CHANGES
    refine ⟨_, (pss_cons (ps_if (pt_not (pt_val (pe_callB call_isi (by rfl) T.n_isinstance boot_isinstance (pa_cons (pv 0) (pa_cons (pe_bltn (v := .ty "list") rfl T.n_list (by decide +kernel) rfl) pa_nil)))))
        (pss_one ps_no)
        pss_nil)
      (pss_one (ps_for PassesOwn.never rfl (pi_enum (by rfl) T.n_enumerate (pa_cons (pv 0) pa_nil)) (pg_tup rfl (pgs_cons (pg_name (i := 1) sc_check_changes.nd rfl (Or.inl rfl)) (pgs_cons (pg_name (i := 2) sc_check_changes.nd rfl (Or.inl rfl)) pgs_nil)))
        (pss_one (ps_if (PW.pt (pw_or (pt_cmpR op_eq (pv 1) (pe_glob (v := .int 16) rfl gMOST_CHANGES ⟨_, rfl⟩) (nomark _)) (pw_or (pt_not (pt_val (pe_call G_is_change hr3 rfl T.g_is_change T.k_is_change T.b_is_change .nil pass0 (pa_cons (pv 2) pa_nil)))) (pw_or1 (pt_cmpR (op_inD hu65) (pv 2) (pe_slice sl_list (pv 0) po_none (po_some (pv 1))) rfl)))))
          (pss_one ps_no)
          pss_nil))))), ?_⟩
    refine ⟨_, rfl, _, _, _, _, true, rfl, .ty "list", .base (.lst hq), kit_ty (by decide +kernel), _, rfl, iteF ?_⟩
    have lu := plen R
    refine ⟨_, rfl, q, us, rfl, SqL.of hq, ?_⟩
    refine for_it (walk_enum (xs := us)) (fun i σ H' => Same H H' ∧ ∃ (x1 x2 : Option V), σ = [some (.ref q), x1, x2]) ⟨Same.refl _, none, none, rfl⟩ (fun i σ H' _ h => SqL.of (h.1 _ _ hq)) (fun i x σ H2 H3 lt h y => ?_) (fun σ H2 h => ?_)
    · obtain ⟨s2, x1, x2, rfl⟩ := h
      obtain ⟨Tu, a1, v, rfl, hTu, rfl, e1, e2⟩ := y
      cases e1
      have e2 : us[i]? = some v := e2
      obtain ⟨p, ep, hp⟩ := pgetv R e2
      have s3 := smN (o := .tup [.int (i : Nat), v]) s2 hTu
      refine ⟨Tu, [.int (i : Nat), v], rfl, SqT.of upd_same, rfl, ?_⟩
      refine ⟨_, _, rfl, ?_⟩
      refine ⟨_, _, rfl, ?_⟩
      refine ⟨rfl, ?_⟩
      refine ⟨_, rfl, rfl, _, rfl, iteB0 (decide_eq_false fun e => by have := V.int.inj e; omega) ?_⟩
      refine ⟨_, rfl, v, p, rfl, hp.keep (fun c _ e => s3 c _ e), nr p (List.mem_of_getElem? ep), fun H4 s4 => ⟨_, rfl, iteB0 rfl ?_⟩⟩
      have s34 := s3.trans s4
      refine ⟨_, rfl, _, rfl, _, rfl, (i : Int), rfl, q, _, rfl, SqL.of (s34 _ _ hq), fun c hc => ?_⟩
      have ec : cutV us none (some (i : Int)) = us.take i := cutV_take us i
      rw [ec]
      have s5 := smN (o := .lst (us.take i)) s34 hc
      have R5 := R.same s5
      have hp5 := hp.keep (H' := upd H4 c (.lst (us.take i))) (fun c _ e => smN (o := .lst (us.take i)) (s3.trans s4) hc c _ e)
      have np := fun r hr => prs_ok R5 r hr
      obtain ⟨t, rfl, ht, hn1, hn2⟩ := hp5
      refine ⟨pairD p, (rs.take i).map pairD, .tup (SqT.of ht) (.cons (.str _) (.cons (.str _) .nil)), .lst (SqL.of upd_same) (dp_pairs (ptake i R5)), shaped_pair ⟨hn1, hn2⟩, shaped_pairs (fun r hr => np r (List.mem_of_mem_take hr)), _, rfl, iteB0 ?_ ?_⟩
      · rw [List.any_map]
        refine List.any_eq_false.mpr fun r hr => ?_
        have ne : r ≠ p := fun e => nd_take nd ep (e ▸ hr)
        show ¬ PyData.eqv (pairD r) (pairD p) = true
        rw [eqv_pair, decide_eq_false ne]
        exact Bool.false_ne_true
      · exact ⟨s5, _, _, rfl⟩
    · obtain ⟨s2, x1, x2, rfl⟩ := h
      exact ret _ s2
end
end Fb
set_option maxRecDepth 100000
set_option maxHeartbeats 4000000
namespace Fb
open PySem PySem.Spec PyProof.Rows L2
open SX (S)
theorem cutV_from (L : List (List Nat)) (a : Nat) : cutV (txV L) (some (a : Int)) none = txV (L.drop a) := by
  unfold cutV
  have i0 : HT.sIx (txV L).length (txV L).length none = (txV L).length := rfl
  rw [i0, HT.sIx_nat, txV_len]
  show List.take _ (List.drop _ ((L.map S).map V.str)) = ((L.drop a).map S).map V.str
  rw [List.map_drop, List.map_drop]
  by_cases h : a ≤ L.length
  · rw [Nat.min_eq_left h, List.take_of_length_le (by simp)]
  · rw [Nat.min_eq_right (by omega), List.drop_of_length_le (by simp), List.drop_of_length_le (by simp; omega), List.take_nil]
theorem spl_shape (c : Nat) : ∀ (l acc : List Nat), ((TL.spl [c] 0 acc l).length = (l.filter (· == c)).length + 1) ∧ ((TL.spl [c] 0 acc l).map List.length).sum + (l.filter (· == c)).length = acc.length + l.length
  | [], acc => by rw [TL.spl_nil]; simp
  | d :: l, acc => by
    by_cases h : d = c
    · subst h
      have hp : TL.pre [d] (d :: l) = true := TL.pre_self [d] l
      rw [TL.spl_hit hp]
      obtain ⟨h1, h2⟩ := spl_shape d l []
      refine ⟨?_, ?_⟩
      · show (TL.spl [d] 0 [] l).length + 1 = _
        rw [h1]; simp
      · show (acc.length + ((TL.spl [d] 0 [] l).map List.length).sum) + _ = acc.length + (l.length + 1)
        simp at h2 ⊢
        omega
    · have hp : TL.pre [c] (d :: l) = false := TL.pre_of_head _ _ fun e => h e
      rw [TL.spl_miss hp]
      obtain ⟨h1, h2⟩ := spl_shape c l (acc ++ [d])
      have e : ((d :: l).filter (· == c)) = l.filter (· == c) := by simp [h]
      rw [e]
      refine ⟨h1, ?_⟩
      rw [h2, List.length_append]
      show acc.length + 1 + l.length = acc.length + (l.length + 1)
      omega
def grow (f : List (List Nat)) (p : List Nat) : List (List Nat) := f.flatMap fun t => [t ++ [48] ++ p, t ++ [49] ++ p]
theorem grow_len (f : List (List Nat)) (p : List Nat) : (grow f p).length = 2 * f.length := by
  unfold grow
  induction f with
  | nil => rfl
  | cons x xs ih => rw [List.flatMap_cons, List.length_append, ih]; simp only [List.length_cons, List.length_nil]; omega
theorem grow_each {f : List (List Nat)} {p : List Nat} {n : Nat} (h : ∀ t ∈ f, t.length = n) : ∀ t ∈ grow f p, t.length = n + 1 + p.length := fun t ht => by
  unfold grow at ht
  obtain ⟨x, hx, hm⟩ := List.mem_flatMap.mp ht
  have := h x hx
  simp only [List.mem_cons, List.not_mem_nil, or_false] at hm
  rcases hm with rfl | rfl <;> simp [this] <;> omega
/-- the turns of matched -/
def mtk (ps : List (List Nat)) (p : List Nat) (i : Nat) : List (List Nat) := (ps.take i).foldl grow [p]
theorem mtk_s {ps : List (List Nat)} {p q : List Nat} {i : Nat} (e : ps[i]? = some q) : mtk ps p (i + 1) = grow (mtk ps p i) q := by
  unfold mtk
  rw [List.take_add_one, e, List.foldl_append] <;> rfl
theorem mtk_len (ps : List (List Nat)) (p : List Nat) : ∀ i, i ≤ ps.length → (mtk ps p i).length = 2 ^ i
  | 0, _ => rfl
  | i + 1, h => by
    have e : ps[i]? = some ps[i] := List.getElem?_eq_getElem (by omega)
    rw [mtk_s e, grow_len, mtk_len ps p i (by omega), Nat.pow_succ, Nat.mul_comm]
theorem mtk_each (ps : List (List Nat)) (p : List Nat) : ∀ i, i ≤ ps.length → ∀ t ∈ mtk ps p i, t.length = p.length + i + ((ps.take i).map List.length).sum
  | 0, _, t, ht => by
    have : t = p := List.mem_singleton.mp ht
    rw [this]
    simp
  | i + 1, h, t, ht => by
    have e : ps[i]? = some ps[i] := List.getElem?_eq_getElem (by omega)
    rw [mtk_s e] at ht
    have := grow_each (mtk_each ps p i (by omega)) t ht
    rw [this, List.take_add_one, e, List.map_append, List.sum_append]
    show _ = p.length + (i + 1) + (_ + (ps[i].length + 0))
    omega
theorem sum_tk (ps : List (List Nat)) (i : Nat) : ((ps.take i).map List.length).sum ≤ (ps.map List.length).sum := by
  rw [List.map_take]
  exact take_sum_le _ i
/-- a turn within: u texts are grown, and v of the next one's two -/
def gr2 (f : List (List Nat)) (q : List Nat) (u v : Nat) : List (List Nat) := grow (f.take u) q ++ ((f.getD u [] :: []).flatMap fun t => [t ++ [48] ++ q, t ++ [49] ++ q]).take v
theorem gr2_0 (f : List (List Nat)) (q : List Nat) : gr2 f q 0 0 = [] := rfl
theorem gr2_end (f : List (List Nat)) (q : List Nat) : gr2 f q f.length 0 = grow f q := by
  unfold gr2
  rw [List.take_length, List.take_zero, List.append_nil]
theorem gr2_two {f : List (List Nat)} {q t : List Nat} {u : Nat} (e : f[u]? = some t) (v : Nat) : gr2 f q u v = grow (f.take u) q ++ [t ++ [48] ++ q, t ++ [49] ++ q].take v := by
  unfold gr2
  rw [List.getD_eq_getElem?_getD, e]
  rfl
theorem gr2_next {f : List (List Nat)} {q : List Nat} {u : Nat} (h : u < f.length) : gr2 f q u 2 = gr2 f q (u + 1) 0 := by
  have e : f[u]? = some f[u] := List.getElem?_eq_getElem h
  rw [gr2_two e]
  unfold gr2 grow
  rw [List.take_zero, List.append_nil, List.take_add_one (l := f), e, List.flatMap_append]
  rfl
theorem gr2_step {f : List (List Nat)} {q t b : List Nat} {u v : Nat} (e : f[u]? = some t) (eb : ([[48], [49]] : List (List Nat))[v]? = some b) : gr2 f q u (v + 1) = gr2 f q u v ++ [t ++ b ++ q] := by
  rw [gr2_two e, gr2_two e]
  have hv := (List.getElem?_eq_some_iff.mp eb).1
  have : v = 0 ∨ v = 1 := by simp at hv; omega
  rcases this with rfl | rfl <;> cases eb <;> simp
theorem gr2_len (f : List (List Nat)) (q : List Nat) (u v : Nat) : (gr2 f q u v).length ≤ 2 * f.length + 2 := by
  unfold gr2
  rw [List.length_append, grow_len, List.length_take, List.length_take]
  have : ((f.getD u [] :: []).flatMap fun t => [t ++ [48] ++ q, t ++ [49] ++ q]).length = 2 := rfl
  omega
theorem mtc_mtk {m p : List Nat} {ps : List (List Nat)} (e : TL.spl [42] 0 [] m = p :: ps) : mtc m = mtk ps p ps.length := by
  unfold mtc mtk
  rw [e, List.take_length] <;> rfl
theorem mtc_len {m : List Nat} (h : (m.filter (· == 42)).length ≤ 6) : (mtc m).length ≤ 64 := by
  have sh := (spl_shape 42 m []).1
  cases e : TL.spl [42] 0 [] m with
  | nil => rw [e] at sh; simp at sh
  | cons p ps =>
    rw [e] at sh
    have sh : ps.length + 1 = _ := sh
    rw [mtc_mtk e, mtk_len ps p _ (Nat.le_refl _)]
    exact Nat.le_trans (Nat.pow_le_pow_right (by decide) (show ps.length ≤ 6 by omega)) (by decide)
theorem join_flt (c d : Nat) (hd : (d == c) = false) : ∀ bs : List (List Nat), ((TL.joinL [d] bs).filter (· == c)).length = (bs.map fun b => (b.filter (· == c)).length).sum
  | [] => rfl
  | [b] => by simp [TL.joinL]
  | b :: b2 :: bs => by
    have e : TL.joinL [d] (b :: b2 :: bs) = b ++ [d] ++ TL.joinL [d] (b2 :: bs) := by simp [TL.joinL]
    have ih := join_flt c d hd (b2 :: bs)
    rw [e, List.filter_append, List.filter_append, List.length_append, List.length_append, ih, List.map_cons, List.sum_cons]
    simp [hd]
theorem joinL_len {d : Nat} : ∀ {bs : List (List Nat)}, bs ≠ [] → (TL.joinL [d] bs).length + 1 = (bs.map List.length).sum + bs.length
  | [], h => absurd rfl h
  | [b], _ => by simp [TL.joinL]
  | b :: b2 :: bs, _ => by
    have e : TL.joinL [d] (b :: b2 :: bs) = b ++ [d] ++ TL.joinL [d] (b2 :: bs) := by simp [TL.joinL]
    have ih := joinL_len (d := d) (bs := b2 :: bs) (by simp)
    rw [e, List.length_append, List.length_append, List.map_cons, List.sum_cons, List.length_cons]
    simp only [List.length_cons, List.length_nil] at *
    omega
/-- the mask of stars -/
def stars (ss : List Nat) : List Nat := TL.joinL [46] (ss.map fun n => List.replicate n 42)
theorem stars_ok {ss : List Nat} (h : StOk ss) : (stars ss).length ≤ 100 ∧ ((stars ss).filter (· == 42)).length ≤ 6 := by
  obtain ⟨o1, o2, o3, o4⟩ := h
  unfold stars
  have e1 : ss.map (List.length ∘ fun n => List.replicate n 42) = ss := by
    have : (List.length ∘ fun n => List.replicate n 42) = (id : Nat → Nat) := by funext n; simp
    rw [this, List.map_id]
  refine ⟨?_, ?_⟩
  · have := joinL_len (d := 46) (bs := ss.map fun n => List.replicate n 42) (by simpa using o1)
    rw [List.map_map, e1, List.length_map] at this
    omega
  · rw [join_flt 42 46 (by decide), List.map_map]
    have e2 : ss.map ((fun b : List Nat => (b.filter (· == 42)).length) ∘ fun n => List.replicate n 42) = ss := by
      have : ((fun b : List Nat => (b.filter (· == 42)).length) ∘ fun n => List.replicate n 42) = (id : Nat → Nat) := by funext n; simp
      rw [this, List.map_id]
    rw [e2]
    exact o4
theorem split_star (l : List Nat) : Txt.split (S l) "*" = (TL.spl [42] 0 [] l).map S := by
  have e : (("*" : Str)) = S [42] := by decide +kernel
  rw [e, SX.split_S (by simp) (by decide)] <;> rfl
section
variable {P : Program} {wo : World} {K : PySem.W.Frag} {mg : Str → Option Value} {base : Heap} {z : Pz}
theorem ok_matched (T : Txp K mg z) : FnOk P wo K mg base CX0 1 z.a_matched z.d_matched ["mask"] spMat := by
  refine T.F_matched.ok sc_matched (fun vs H Q E h => ?_) (fun cdv A outer s H vs Q E hr h => ?_)
  · obtain ⟨m, rfl, _⟩ := h
    rfl
  · obtain ⟨m, rfl, lm, l6, ret⟩ := h
    refine ⟨_, (pss_cons (ps_set (i := 1) sc_matched.nd rfl (Or.inl rfl) (pe_bm PySem.F.plainAttrs_str PySem.F.slot_str_split PySem.F.type_str_split mt_split (pv 0) (pa_cons pe_str pa_nil)))
      (pss_cons (ps_set (i := 2) sc_matched.nd rfl (Or.inl rfl) (pe_lst (pa_cons (pe_ix ix_list (pv 1) pe_int (fun _ _ => rfl)) pa_nil)))
      (pss_cons (ps_for PassesOwn.never rfl (pi_list (pe_slice sl_list (pv 1) (po_some pe_int) po_none)) (pg_name (i := 3) sc_matched.nd rfl (Or.inr rfl))
        (pss_one (by refine' ps_setLc2 (own := [("text", 4), ("bit", 5)]) (vs1 := [5]) (tt := tYes) (tt1 := tYes) (g := gName 4) (g1 := gName 5) (i := 2) rfl sc_matched.nd rfl rfl (sw_true rfl rfl rfl (by decide +kernel)) ?hi (blkOk_by (N := ["mask", "parts", "found", "part", "text", "bit"]) (sc := defScope s_matched) (by first | decide +kernel | kernel_rfl | rfl)) (by decide) ?hg ?ht ?hi1 ?hg1 ?ht1 ?he (by intro _; rfl) (by intro _ _; rfl); (case hi => exact (pi_list (pv 2))); (case hg => exact fun _ _ _ _ _ => (pg_name (i := 4) sc_matched.nd rfl (Or.inl rfl))); (case ht => exact fun _ _ _ _ _ => pts_nil); (case hi1 => exact fun _ _ _ _ _ => (pi_tupK (K := K) rfl (pe_tup (pa_cons pe_str (pa_cons pe_str pa_nil))))); (case hg1 => exact fun _ _ _ _ _ => (pg_name (i := 5) sc_matched.nd rfl (Or.inl rfl))); (case ht1 => exact fun _ _ _ _ _ => pts_nil); (case he => exact fun _ _ _ _ _ => (pe_op op_add_str (pe_op op_add_str (pv 4) (pv 5)) (pv 3))))))
      (pss_one (ps_ret (pv 2)))))), ?_⟩
    refine ⟨_, rfl, rfl, S m, "*", rfl, rfl, by decide, by rw [S_ln]; exact Nat.le_trans (show m.length + 2 ≤ 1000 by omega) (by decide), fun a ha => ?_⟩
    rw [split_star]
    obtain ⟨p, ps, ep⟩ : ∃ p ps, TL.spl [42] 0 [] m = p :: ps := by
      have := (spl_shape 42 m []).1
      cases e : TL.spl [42] 0 [] m with
      | nil => rw [e] at this; simp at this
      | cons p ps => exact ⟨p, ps, rfl⟩
    have sh := spl_shape 42 m []
    rw [mtc_mtk ep] at ret
    rw [ep] at sh ⊢
    have s1 := smN (o := .lst (txV (p :: ps))) (Same.refl H) ha
    have ha1 : (upd H a (.lst (txV (p :: ps)))) a = some (.lst (txV (p :: ps))) := upd_same
    refine ⟨_, rfl, a, _, 0, .str (S p), rfl, rfl, SqL.of ha1, atI_nat (j := 0) rfl, by show 1 ≤ sizeLine; decide, fun f hf => ?_⟩
    have s2 := smN (o := .lst (txV [p])) s1 hf
    have hf2 : (upd (upd H a (.lst (txV (p :: ps)))) f (.lst (txV [p]))) f = some (.lst (txV [p])) := upd_same
    have ha2 := smN (o := .lst (txV [p])) (Same.refl _) hf _ _ ha1
    have eu : upd (upd H a (.lst (List.map V.str (List.map S (p :: ps))))) f (.lst [.str (S p)]) = upd (upd H a (.lst (txV (p :: ps)))) f (.lst (txV [p])) := rfl
    rw [eu]
    generalize upd (upd H a (.lst (txV (p :: ps)))) f (.lst (txV [p])) = H2 at s2 hf2 ha2
    have hfH : H f = none := s1.free hf
    refine ⟨_, rfl, 1, rfl, a, _, rfl, SqL.of ha2, fun b hb => ?_⟩
    have ec : cutV (txV (p :: ps)) (some 1) none = txV ps := cutV_from (p :: ps) 1
    rw [ec]
    have s3 := smN (o := .lst (txV ps)) s2 hb
    have hb3 : (upd H2 b (.lst (txV ps))) b = some (.lst (txV ps)) := upd_same
    have hf3 := smN (o := .lst (txV ps)) (Same.refl H2) hb _ _ hf2
    generalize upd H2 b (.lst (txV ps)) = H3 at s3 hb3 hf3
    have lps : ps.length ≤ 6 := by have := sh.1; simp at this; omega
    have lsum : p.length + (ps.map List.length).sum ≤ 100 := by have := sh.2; simp at this; omega
    refine ⟨b, rfl, ⟨_, SqL.of hb3⟩, ?_⟩
    refine for_it (walk_list (xs := txV ps)) (fun i σ H' => Same H3 H' ∧ ∃ g : Addr, ∃ (x3 x4 x5 : Option V), σ = [some (.str (S m)), some (.ref a), some (.ref g), x3, x4, x5] ∧ H g = none ∧ H' g = some (.lst (txV (mtk ps p i)))) ⟨Same.refl _, f, none, none, none, rfl, hfH, hf3⟩ (fun i σ H' _ h => SqL.of (h.1 _ _ hb3)) (fun i x σ H4 H5 lt h y => ?_) (fun σ H4 h => ?_)
    · obtain ⟨s4, g, x3, x4, x5, rfl, hgn, hg⟩ := h
      obtain ⟨rfl, ev⟩ := y
      obtain ⟨q, eq, rfl⟩ := txV_get ev
      rw [txV_len] at lt
      have ln := mtk_len ps p i (by omega)
      have each := mtk_each ps p i (by omega)
      have hs := sum_tk ps i
      have l64 : (mtk ps p i).length ≤ 64 := by
        rw [ln]
        exact Nat.le_trans (Nat.pow_le_pow_right (by decide) (show i ≤ 6 by omega)) (by decide)
      have lq := le_sum (List.mem_map.mpr ⟨q, List.mem_of_getElem? eq, rfl⟩ : q.length ∈ ps.map List.length)
      refine ⟨_, rfl, g, rfl, ⟨_, SqL.of hg⟩, fun D hD => ?_⟩
      refine lc2_lt (K := K) (a := g) (xs := txV (mtk ps p i)) (ys := txV [[48], [49]]) (fun u v H' => Same H5 H' ∧ H' D = some (.lst (txV (gr2 (mtk ps p i) q u v)))) ⟨smN (Same.refl _) hD, upd_same⟩ (fun u v H' h => SqL.of (h.1 _ _ hg)) (fun u v H1 H2 h s => ⟨h.1.trans s, s _ _ h.2⟩) ?_ (fun _ => rfl) (fun _ _ => rfl) ?_ ?_ ?_ ?_
      · intro x H0 R k
        refine ⟨by show 2 ≤ sizeLine; decide, fun c hc => ⟨c, rfl, ⟨_, SqT.of upd_same⟩, k c _ (smN (Same.refl _) hc) ?_⟩⟩
        rw [upd_same, show ("0" : Str) = S [48] from S_0, show ("1" : Str) = S [49] from S_1] <;> rfl
      · rintro u v x y H6 eu ev ⟨s6, d6⟩
        obtain ⟨t, et, rfl⟩ := txV_get eu
        obtain ⟨bt, eb, rfl⟩ := txV_get ev
        have lt1 := each t (List.mem_of_getElem? et)
        have lb : bt.length = 1 := by
          have hv := (List.getElem?_eq_some_iff.mp eb).1
          have : v = 0 ∨ v = 1 := by simp at hv; omega
          rcases this with rfl | rfl <;> cases eb <;> rfl
        have gl := gr2_len (mtk ps p i) q u v
        refine ⟨_, rfl, _, rfl, _, _, rfl, rfl, by rw [S_ln, S_ln]; exact Nat.le_trans (show _ ≤ 1000 by omega) (by decide), ?_⟩
        rw [SX.S_cat]
        refine ⟨_, rfl, _, _, rfl, rfl, by rw [S_ln, S_ln, List.length_append]; exact Nat.le_trans (show _ ≤ 1000 by omega) (by decide), ?_⟩
        rw [SX.S_cat]
        refine ⟨Same.refl _, _, d6, by rw [txV_len]; exact small1 _ (by omega), same_put s6 hD, ?_⟩
        rw [upd_same, gr2_step et eb]
        simp [txV]
      · intro σ' H0 Q0 Q1 hq k
        obtain ⟨x4, e4, x5, e5, i1, j1, hx, hy, hl, x3, e3, i2, j2, hx2, hy2, hl2, q0⟩ := hq
        exact ⟨x4, e4, x5, e5, i1, j1, hx, hy, hl, x3, e3, i2, j2, hx2, hy2, hl2, k _ _ q0⟩
      · rintro u H6 hu ⟨s6, d6⟩
        rw [txV_len] at hu
        refine ⟨s6, ?_⟩
        rw [← gr2_next hu]
        exact d6
      · rintro H6 ⟨s6, d6⟩
        rw [txV_len, gr2_end, ← mtk_s eq] at d6
        exact ⟨s4.trans s6, D, _, _, _, rfl, (s3.trans s4).free hD, d6⟩
    · obtain ⟨s4, g, x3, x4, x5, rfl, hgn, hg⟩ := h
      rw [txV_len] at hg
      exact ⟨_, rfl, ret g _ (s3.trans s4) hgn hg⟩
theorem ok_state_names (T : Txp K mg z) : FnOk P wo K mg base CX0 1 z.a_state_names z.d_state_names ["rules", "changes"] (spStN K) := by
  refine T.F_state_names.ok sc_state_names (fun vs H Q E h => ?_) (fun cdv A outer s H vs Q E hr h => ?_)
  · obtain ⟨a, b, us, rs, ws, cs, ss, rfl, _⟩ := h
    rfl
  · obtain ⟨a, b, us, rs, ws, cs, ss, rfl, ha, Ra, la, hb, Rb, lb, ret⟩ := h
    refine ⟨_, (pss_cons (by refine' ps_setLc (own := [("mask", 4), ("name", 5)]) (tt := tYes) (g := (gTup K 2 (gCons (gName 4) (gCons (gName 5) gNil)))) (i := 2) rfl sc_state_names.nd rfl rfl (sw_true rfl rfl rfl (by decide +kernel)) ?hi (blkOk_by (N := ["rules", "changes", "names", "change", "mask", "name"]) (sc := defScope s_state_names) (by first | decide +kernel | kernel_rfl | rfl)) ?hg ?ht ?he (by intro _; rfl); (case hi => exact (pi_list (pv 0))); (case hg => exact fun _ _ _ _ _ => (pg_tup rfl (pgs_cons (pg_name (i := 4) sc_state_names.nd rfl (Or.inl rfl) (.inr rfl)) (pgs_cons (pg_name (i := 5) sc_state_names.nd rfl (Or.inl rfl) (.inr rfl)) pgs_nil)))); (case ht => exact fun _ _ _ _ _ => pts_nil); (case he => exact fun _ _ _ _ _ => (pv 5)))
      (pss_cons (ps_for PassesOwn.never rfl (pi_list (pv 1)) (pg_name (i := 3) sc_state_names.nd rfl (Or.inl rfl))
        (pss_one (ps_expr (pe_bm PySem.F.plainAttrs_list PySem.F.slot_list_extend PySem.F.type_list_extend mt_extendT (pv 2) (pa_cons (pv 3) pa_nil)))))
      (pss_one (ps_ret (pe_callTy call_tuple_of (by rfl) T.n_tuple (by decide +kernel) (pa_cons (pe_callB (call_sortT rfl) (by rfl) T.n_sorted (by decide +kernel) (pa_cons (pe_callTy (call_setL rfl) (by rfl) T.n_set (by decide +kernel) (pa_cons (by refine' pe_lc (own := [("name", 5)]) (tt := tYes) rfl sc_state_names.nd ?hi (blkOk_by (N := ["rules", "changes", "names", "change", "mask", "name"]) (sc := defScope s_state_names) (by first | decide +kernel | kernel_rfl | rfl)) ?hg ?ht ?he (by intro _; rfl); (case hi => exact (pi_list (pv 2))); (case hg => exact fun _ _ _ _ _ => (pg_name (i := 5) sc_state_names.nd rfl (Or.inl rfl))); (case ht => exact fun _ _ _ _ _ => pts_nil); (case he => exact fun _ _ _ _ _ => (pe_callTy SkE.call_str_str (by rfl) T.n_str (by decide +kernel) (pa_cons (pv 5) pa_nil)))) pa_nil)) pa_nil)) pa_nil)))))), ?_⟩
    refine ⟨_, rfl, a, rfl, ⟨_, SqL.of ha⟩, fun D hD => ?_⟩
    have lua := plen Ra
    have lub := plen Rb
    refine lc_outL (xs := us) (outM fun i => V.str (S (rs.getD i ([], [])).2)) hD (SqL.of ha) outM_0 (fun i hi => by rw [outM_l]; exact small1 _ (by omega)) (fun i x H2 Kc K0 e s2 kc k0 => ?_) (fun H2 s2 e2 => ?_)
    · obtain ⟨r, er, t, rfl, ht, o1, o2⟩ := pgetv Ra e
      refine ⟨t, [.str (S r.1), .str (S r.2)], rfl, SqT.of (s2 _ _ ht), rfl, ?_⟩
      refine ⟨_, _, rfl, ?_⟩
      refine ⟨_, _, rfl, ?_⟩
      refine ⟨rfl, ?_⟩
      refine ⟨rfl, yes1 ?_⟩
      refine ⟨_, rfl, kc _ _ (Same.refl _) ?_⟩
      rw [outM_s, List.getD_eq_getElem?_getD, er] <;> rfl
    have e4 : outM (fun i => V.str (S (rs.getD i ([], [])).2)) us.length = txV (rs.map (·.2)) := outM_all (by rw [txV_len, List.length_map, lua]) fun i hi => by
      rw [lua] at hi
      rw [List.getElem?_map, List.getElem?_map, List.getElem?_map, List.getD_eq_getElem?_getD, List.getElem?_eq_getElem hi] <;> rfl
    rw [e4] at e2
    have hb2 := s2 _ _ hb
    refine ⟨_, rfl, b, rfl, ⟨_, SqL.of hb2⟩, ?_⟩
    refine for_it (walk_list (xs := ws)) (fun i σ H' => Same H H' ∧ H' b = some (.lst ws) ∧ ∃ ns : List (List Nat), ns.length ≤ 64 + 2 * i ∧ (∀ x ∈ ns, x.length ≤ 12) ∧ H' D = some (.lst (txV ns)) ∧ ∃ (x3 x4 x5 : Option V), σ = [some (.ref a), some (.ref b), some (.ref D), x3, x4, x5])
      ⟨s2, hb2, _, by rw [List.length_map]; omega, fun x hx => ?_, e2, _, _, _, rfl⟩ (fun i σ H' _ h => SqL.of h.2.1) (fun i x σ H4 H5 lt h y => ?_) (fun σ H4 h => ?_)
    · obtain ⟨r, hr, rfl⟩ := List.mem_map.mp hx
      exact (prs_ok Ra r hr).2.2.1
    · obtain ⟨s4, hb4, ns, ln, on, hD4, x3, x4, x5, rfl⟩ := h
      obtain ⟨rfl, ev⟩ := y
      obtain ⟨r, er, t, rfl, ht, o1, o2⟩ := pgetv Rb ev
      have ht4 := s4 _ _ ht
      have nbD := ne_of_none hb hD
      refine ⟨_, rfl, .inl ⟨rfl, _, SqL.of hD4⟩, _, rfl, D, t, _, [.str (S r.1), .str (S r.2)], rfl, rfl, hD4, SqT.of ht4, by rw [txV_len]; show ns.length + 2 ≤ sizeLine; exact Nat.le_trans (show _ ≤ 1000 by omega) (by decide), ?_⟩
      have el : txV ns ++ [.str (S r.1), .str (S r.2)] = txV (ns ++ [r.1, r.2]) := by simp [txV]
      rw [el]
      refine ⟨same_put s4 hD, by rw [upd_ne nbD]; exact hb4, ns ++ [r.1, r.2], by rw [List.length_append]; show ns.length + 2 ≤ _; omega, fun x hx => ?_, upd_same, _, _, _, rfl⟩
      rcases List.mem_append.mp hx with h | h
      · exact on x h
      · simp only [List.mem_cons, List.not_mem_nil, or_false] at h
        rcases h with rfl | rfl
        · exact o1.2.1
        · exact o2.2.1
    · obtain ⟨s4, hb4, ns, ln, on, hD4, x3, x4, x5, rfl⟩ := h
      have lns : ns.length ≤ 200 := by omega
      refine ⟨_, rfl, D, rfl, ⟨_, SqL.of hD4⟩, fun D2 hD2 => ?_⟩
      refine lc_outL (xs := txV ns) (outM fun i => V.str (S (ns.getD i []))) hD2 (SqL.of hD4) outM_0 (fun i hi => by rw [outM_l]; rw [txV_len] at hi; exact small1 _ (by omega)) (fun i x H5 Kc K0 e s5 kc k0 => ?_) (fun H5 s5 e5 => ?_)
      · obtain ⟨t, et, rfl⟩ := txV_get e
        refine ⟨rfl, yes1 ?_⟩
        refine ⟨_, rfl, S t, rfl, kc _ _ (Same.refl _) ?_⟩
        rw [outM_s, List.getD_eq_getElem?_getD, et] <;> rfl
      have e6 : outM (fun i => V.str (S (ns.getD i []))) (txV ns).length = txV ns := outM_all (by rfl) fun i hi => by
        rw [txV_len] at hi
        rw [List.getElem?_map, List.getElem?_map, List.getD_eq_getElem?_getD, List.getElem?_eq_getElem hi] <;> rfl
      rw [e6] at e5
      refine ⟨D2, ns.map S, rfl, SqL.of e5, by rw [List.length_map]; omega, fun a1 l hl nd ll ha1 => ?_⟩
      rw [List.length_map] at ll
      refine ⟨a1, l, rfl, upd_same, by omega, fun a2 ys hp so ha2 => ?_⟩
      have lys : ys.length = l.length := hp.length_eq
      refine ⟨a2, _, rfl, .inl ⟨SqL.of upd_same, fun a3 ha3 => ?_⟩⟩
      have sF := smN (o := .tup (ys.map V.str)) (smN (o := .lst (ys.map V.str)) (smN (o := SetTx P wo a1 l) (s4.trans s5) ha1) ha2) ha3
      exact ret a3 _ _ sF ((smN (o := .lst (ys.map V.str)) (smN (o := SetTx P wo a1 l) (s4.trans s5) ha1) ha2).free ha3) upd_same
theorem ok_readings (T : Txp K mg z) : FnOk P wo K mg base CX0 2 z.a_readings z.d_readings ["sizes", "rules"] (spRdg K) := by
  refine T.F_readings.ok sc_readings (fun vs H Q E h => ?_) (fun cdv A outer s H vs Q E hr h => ?_)
  · obtain ⟨a, b, us, rs, ss, rfl, _⟩ := h
    rfl
  · obtain ⟨a, b, us, rs, ss, rfl, ha, oss, hb, Rb, lb, ret⟩ := h
    have hr1 : Room 1 _ := hr
    have hu : (A.deeper (envOfC "readings" (defScope s_readings) s.heap.objs.size z.a_readings cdv)).units + 1 < cLine := by have := hr.un; omega
    have G_matched : FnOk P wo K mg base CX0 1 z.a_matched z.d_matched ["mask"] spMat := ok_matched T
    refine ⟨_, (pss_cons (ps_set (i := 2) sc_readings.nd rfl (Or.inr rfl) pe_dnewK)
      (pss_cons (ps_for PassesOwn.never rfl (pi_list (pv 1)) (pg_tup rfl (pgs_cons (pg_name (i := 3) sc_readings.nd rfl (Or.inl rfl)) (pgs_cons (pg_name (i := 4) sc_readings.nd rfl (Or.inl rfl)) pgs_nil)))
        (pss_one (ps_for PassesOwn.never rfl (pi_list (pe_call G_matched hr1 rfl T.g_matched T.k_matched T.b_matched .nil pass0 (pa_cons (pv 3) pa_nil))) (pg_name (i := 5) sc_readings.nd rfl (Or.inl rfl))
          (pss_one (ps_if (pt_cmp (pc_dnotin hu (pv 5) (pv 2)))
            (pss_one (ps_dput hu (pv 2) (pv 5) (pv 4) rfl))
            pss_nil)))))
      (pss_one (ps_ret (by refine' pe_dc (own := [("x", 5)]) (tt := tYes) (g := gName 5) rfl sc_readings.nd ?qi (blkOk_by (N := ["sizes", "rules", "names", "mask", "name", "x", "size"]) (sc := defScope s_readings) (by first | decide +kernel | kernel_rfl | rfl)) ?qg ?qt ?qk ?qe (by intro _; rfl); (case qi => exact (pi_list (pe_call G_matched hr1 rfl T.g_matched T.k_matched T.b_matched .nil pass0 (pa_cons (pe_joinK (K := K) rfl pe_str (pa_cons (by refine' pe_lc (own := [("size", 6)]) (tt := tYes) rfl sc_readings.nd ?hi (blkOk_by (N := ["sizes", "rules", "names", "mask", "name", "x", "size"]) (sc := defScope s_readings) (by first | decide +kernel | kernel_rfl | rfl)) ?hg ?ht ?he (by intro _; rfl); (case hi => exact (pi_list (pv 0))); (case hg => exact fun _ _ _ _ _ => (pg_name (i := 6) sc_readings.nd rfl (Or.inl rfl))); (case ht => exact fun _ _ _ _ _ => pts_nil); (case he => exact fun _ _ _ _ _ => (pe_op op_repS pe_str (pv 6)))) pa_nil)) pa_nil)))); (case qg => exact fun _ _ _ _ _ => (pg_name (i := 5) sc_readings.nd rfl (Or.inl rfl))); (case qt => exact fun _ _ _ _ _ => pts_nil); (case qk => exact fun _ _ _ _ _ => (pv 5)); (case qe => exact fun _ _ _ _ _ => (pe_dget1 hu (pv 2) (pv 5) ⟨by rfl, by rfl, by rfl, by rfl⟩))))))), ?_⟩
    obtain ⟨o1, o2, o3, o4⟩ := oss
    have lu := plen Rb
    refine fun nm hnm => ?_
    have s1 := smN (o := .dK []) (Same.refl H) hnm
    have hn1 : (upd H nm (.dK [])) nm = some (.dK []) := upd_same
    generalize upd H nm (.dK []) = H1 at s1 hn1
    refine ⟨_, rfl, b, rfl, ⟨_, SqL.of (s1 _ _ hb)⟩, ?_⟩
    refine for_it (walk_list (xs := us)) (fun i σ H' => Same H H' ∧ ∃ kvs : List (Key × V), H' nm = some (.dK kvs) ∧ kvs.length ≤ 64 * i ∧ ∃ (x3 x4 x5 : Option V), σ = [some (.ref a), some (.ref b), some (.ref nm), x3, x4, x5, none])
      ⟨s1, [], hn1, by decide, none, none, none, rfl⟩ (fun i σ H' _ h => SqL.of (h.1 _ _ hb)) (fun i x σ H2 H3 lt h y => ?_) (fun σ H2 h => ?_)
    · obtain ⟨s2, kvs, hk, lk, x3, x4, x5, rfl⟩ := h
      obtain ⟨rfl, ev⟩ := y
      obtain ⟨r, er, t, rfl, ht, mk, nk⟩ := pgetv Rb ev
      refine ⟨t, [.str (S r.1), .str (S r.2)], rfl, SqT.of (s2 _ _ ht), rfl, ?_⟩
      refine ⟨_, _, rfl, ?_⟩
      refine ⟨_, _, rfl, ?_⟩
      refine ⟨rfl, ?_⟩
      refine ⟨_, rfl, r.1, rfl, mk.1, mk.2.1, fun D H4 s4 hD hD4 => ?_⟩
      have l64 := mtc_len mk.2.1
      have hk4 := s4 _ _ hk
      have nDn : D ≠ nm := ne_of hD4 hk4 fun z => nomatch z
      refine ⟨D, rfl, ⟨_, SqL.of hD4⟩, ?_⟩
      refine for_it (walk_list (xs := txV (mtc r.1))) (fun j σ H' => Same H H' ∧ H' D = some (.lst (txV (mtc r.1))) ∧ ∃ kvs : List (Key × V), H' nm = some (.dK kvs) ∧ kvs.length ≤ 64 * i + j ∧ ∃ (x5 : Option V), σ = [some (.ref a), some (.ref b), some (.ref nm), some (.str (S r.1)), some (.str (S r.2)), x5, none])
        ⟨s2.trans s4, hD4, kvs, hk4, lk, _, rfl⟩ (fun j σ H' _ h => SqL.of h.2.1) (fun j x σ H5 H6 lt2 h y => ?_) (fun σ H5 h => ?_)
      · obtain ⟨s5, hD5, kv, hk5, lk5, x5, rfl⟩ := h
        obtain ⟨rfl, ev⟩ := y
        obtain ⟨u, eu, rfl⟩ := txV_get ev
        rw [txV_len] at lt2
        refine ⟨_, rfl, _, rfl, nm, _, rfl, DGet.k (k := .inr (S u)) hk5, _, rfl, ?_⟩
        have lkv : kv.length < sizeLine := Nat.lt_of_le_of_lt (show kv.length ≤ 64 * 64 + 64 by omega) (by decide)
        refine ite2 (fun _ => ?_) (fun _ => ?_)
        · refine ⟨_, rfl, _, rfl, _, rfl, nm, _, rfl, DPut.k (k := .inr (S u)) hk5 lkv, ?_⟩
          refine ⟨same_put s5 hnm, by rw [upd_ne nDn]; exact hD5, _, upd_same, ?_, _, rfl⟩
          have := length_putK kv (.inr (S u)) (.str (S r.2))
          omega
        · exact ⟨s5, hD5, kv, hk5, by omega, _, rfl⟩
      · obtain ⟨s5, hD5, kv, hk5, lk5, x5, rfl⟩ := h
        rw [txV_len] at lk5
        exact ⟨s5, kv, hk5, by omega, _, _, _, rfl⟩
    · obtain ⟨s2, kvs, hk, lk, x3, x4, x5, rfl⟩ := h
      have sok := stars_ok ⟨o1, o2, o3, o4⟩
      refine ⟨rfl, _, rfl, a, rfl, ⟨_, SqL.of (s2 _ _ ha)⟩, fun D hD => ?_⟩
      refine lc_outL (xs := nums ss) (outM fun i => V.str (S (List.replicate (ss.getD i 0) 42))) hD (SqL.of (s2 _ _ ha)) outM_0 (fun i hi => by rw [outM_l]; exact small1 i (by rw [nums_len] at hi; omega)) (fun i x H5 Kc K0 e s5 kc k0 => ?_) (fun H5 s5 e5 => ?_)
      · obtain ⟨n, en, rfl⟩ := nums_get e
        have hn := le_sum (List.mem_of_getElem? en)
        refine ⟨rfl, yes1 ?_⟩
        rw [show ("*" : Str) = S [42] by decide +kernel]
        refine ⟨_, rfl, 42, n, rfl, rfl, by omega, kc _ _ (Same.refl _) ?_⟩
        rw [outM_s, List.getD_eq_getElem?_getD, en] <;> rfl
      have e6 : outM (fun i => V.str (S (List.replicate (ss.getD i 0) 42))) (nums ss).length = txV (ss.map fun n => List.replicate n 42) := outM_all (by rw [nums_len, txV_len, List.length_map]) fun i hi => by
        rw [nums_len] at hi
        rw [List.getElem?_map, List.getElem?_map, List.getElem?_map, List.getD_eq_getElem?_getD, List.getElem?_eq_getElem hi] <;> rfl
      rw [e6] at e5
      refine ⟨".", D, (ss.map fun n => List.replicate n 42).map S, rfl, rfl, .inl (SqL.of e5), ?_, ?_⟩
      · rw [SX.lens, List.map_map]
        have e7 : (ss.map (List.length ∘ fun n => List.replicate n 42)) = ss := by
          have : (List.length ∘ fun n => List.replicate n 42) = (id : Nat → Nat) := by funext n; simp
          rw [this, List.map_id]
        rw [e7]
        show ss.sum + ((ss.map fun n => List.replicate n 42).map S).length * 1 ≤ sizeLine
        rw [List.length_map, List.length_map]
        exact Nat.le_trans (show _ ≤ 1000 by omega) (by decide)
      rw [S_d, SX.join_S]
      have l64 := mtc_len sok.2
      refine ⟨stars ss, rfl, sok.1, sok.2, fun D2 H6 s6 hD2 hD6 => ?_⟩
      have hk6 := (s5.trans s6) _ _ hk
      have s26 := (s2.trans s5).trans s6
      refine ⟨D2, rfl, ⟨_, SqL.of hD6⟩, fun D3 hD3 => ?_⟩
      have n3 := ne_of_none hk6 hD3
      have n23 := ne_of_none hD6 hD3
      refine dc_it (walk_list (xs := txV (mtc (stars ss)))) (fun i H' => Same H6 H' ∧ ∃ kv : List (Key × V), H' D3 = some (.dK kv) ∧ kv.length ≤ i) ⟨smN (Same.refl _) hD3, [], upd_same, Nat.le_refl _⟩ (fun i H' _ h => SqL.of (h.1 _ _ hD6)) (fun i x H7 H8 lt h y => ?_) (fun H7 h => ?_)
      · obtain ⟨s7, kv, hk7, lkv⟩ := h
        obtain ⟨rfl, ev⟩ := y
        obtain ⟨u, eu, rfl⟩ := txV_get ev
        rw [txV_len] at lt
        refine ⟨rfl, yes1 ?_⟩
        refine ⟨_, rfl, _, rfl, nm, rfl, .inl ⟨_, .inl (s7 _ _ hk6)⟩, _, rfl, _, DGet.k (k := .inr (S u)) (s7 _ _ hk6), ?_⟩
        refine ⟨kv, .inr (S u), rfl, hk7, Nat.lt_of_le_of_lt (show kv.length ≤ 64 by omega) (by decide), same_put s7 hD3, _, upd_same, ?_⟩
        have := length_putK kv (.inr (S u)) ((valV kvs (.inr (S u))).getD .non)
        omega
      · obtain ⟨s7, kv, hk7, lkv⟩ := h
        exact ret D3 kv _ (s26.trans s7) (s26.free hD3) hk7
end
end Fb
set_option maxRecDepth 100000
set_option maxHeartbeats 4000000
namespace Fb
open PySem PySem.Spec PyProof.Rows L2
open SX (S)
/-! Store.__init__ -/
theorem put_lt {f : Str} {v : V} {fs : List (Str × V)} {n : Nat} (h : fs.length ≤ n) : (putF f v fs).length ≤ n + 1 := Nat.le_trans (length_putF _ _ _) (by omega)
def spStI (C : Addr) (K : PySem.W.Frag) : Sp := fun vs H Q _ => ∃ (st a b c dx : Addr) (ss : List Nat) (us ws : List V) (rs cs : List (List Nat × List Nat)), vs = [.ref st, .ref a, .ref b, .ref c] ∧ H st = some (.ins C dx []) ∧ H a = some (.lst (nums ss)) ∧ StOk ss ∧
  H b = some (.lst us) ∧ Prs (MaskK ss) NameK H us rs ∧ rs.length ≤ 64 ∧ H c = some (.lst ws) ∧ Prs NameK NameK H ws cs ∧ cs.length ≤ 16 ∧ cs.Nodup ∧ (∀ r ∈ cs, r.1 ≠ r.2) ∧
  ∀ fs H', (∀ x o, x ≠ st → H x = some o → H' x = some o) → H' st = some (.ins C dx fs) → Q .non H'
theorem kp_same {st : Addr} {H0 H H' : Hp} (k : ∀ x o, x ≠ st → H0 x = some o → H x = some o) (s : Same H H') : ∀ x o, x ≠ st → H0 x = some o → H' x = some o := fun x o n e => s _ _ (k x o n e)
theorem kp_fld {st : Addr} {H0 H : Hp} {o' : HO} (k : ∀ x o, x ≠ st → H0 x = some o → H x = some o) : ∀ x o, x ≠ st → H0 x = some o → (upd H st o') x = some o := fun x o n e => by rw [upd_ne n]; exact k x o n e
theorem kp_prs {A B : List Nat → Prop} {st : Addr} {H0 H : Hp} {C dx : Addr} {fs : List (Str × V)} (e0 : H0 st = some (.ins C dx fs)) (k : ∀ x o, x ≠ st → H0 x = some o → H x = some o) {vs : List V} {rs : List (List Nat × List Nat)} (h : Prs A B H0 vs rs) : Prs A B H vs rs :=
  h.keep fun c xs e => k c _ (ne_of e e0 fun z => nomatch z) e
section
variable {P : Program} {wo : World} {K : PySem.W.Frag} {mg : Str → Option Value} {base : Heap} {z : Pz}
theorem ok_Store_init (T : Txp K mg z) : FnOk P wo K mg base CX0 5 z.a_Store_init z.d_Store_init ["self", "sizes", "rules", "changes"] (spStI z.C_Store K) := by
  refine T.F_Store_init.ok sc_Store_init (fun vs H Q E h => ?_) (fun cdv A outer s H vs Q E hr h => ?_)
  · obtain ⟨st, a, b, c, dx, ss, us, ws, rs, cs, rfl, _⟩ := h
    rfl
  · obtain ⟨st, a, b, c, dx, ss, us, ws, rs, cs, rfl, hst, ha, oss, hb, Rb, lb, hc, Rc, lc, nd, nr, ret⟩ := h
    have hr4 : Room 4 _ := hr
    have hr2 : Room 2 _ := hr.mono (by decide)
    have hr1 : Room 1 _ := hr.mono (by decide)
    have nas : a ≠ st := ne_of ha hst fun z => nomatch z
    have nbs : b ≠ st := ne_of hb hst fun z => nomatch z
    have ncs : c ≠ st := ne_of hc hst fun z => nomatch z
    have G_check_sizes : FnOk P wo K mg base CX0 2 z.a_check_sizes z.d_check_sizes ["sizes"] (spChS K) := ok_check_sizes T
    have G_check_rules : FnOk P wo K mg base CX0 4 z.a_check_rules z.d_check_rules ["rules", "sizes"] (spChR K) := ok_check_rules T
    have G_check_changes : FnOk P wo K mg base CX0 4 z.a_check_changes z.d_check_changes ["changes"] spChC := ok_check_changes T
    have G_state_names : FnOk P wo K mg base CX0 1 z.a_state_names z.d_state_names ["rules", "changes"] (spStN K) := ok_state_names T
    have G_readings : FnOk P wo K mg base CX0 2 z.a_readings z.d_readings ["sizes", "rules"] (spRdg K) := ok_readings T
    refine ⟨_, (pss_cons (ps_expr (pe_call G_check_sizes hr2 rfl T.g_check_sizes T.k_check_sizes T.b_check_sizes .nil pass0 (pa_cons (pv 1) pa_nil)))
      (pss_cons (ps_expr (pe_call G_check_rules hr4 rfl T.g_check_rules T.k_check_rules T.b_check_rules .nil pass0 (pa_cons (pv 2) (pa_cons (pe_callTy call_tuple_of (by rfl) T.n_tuple (by decide +kernel) (pa_cons (pv 1) pa_nil)) pa_nil))))
      (pss_cons (ps_expr (pe_call G_check_changes hr4 rfl T.g_check_changes T.k_check_changes T.b_check_changes .nil pass0 (pa_cons (pv 3) pa_nil)))
      (pss_cons (ps_fld (pv 0) (pe_callTy call_tuple_of (by rfl) T.n_tuple (by decide +kernel) (pa_cons (pv 1) pa_nil)) rfl)
      (pss_cons (ps_fld (pv 0) (pe_callTy call_list_of (by rfl) T.n_list (by decide +kernel) (pa_cons (pv 2) pa_nil)) rfl)
      (pss_cons (ps_fld (pv 0) (pe_callTy call_list_of (by rfl) T.n_list (by decide +kernel) (pa_cons (pv 3) pa_nil)) rfl)
      (pss_cons (ps_fld (pv 0) (pe_call G_state_names hr1 rfl T.g_state_names T.k_state_names T.b_state_names .nil pass0 (pa_cons (pv 2) (pa_cons (pv 3) pa_nil))) rfl)
      (pss_one (ps_fld (pv 0) (pe_call G_readings hr2 rfl T.g_readings T.k_readings T.b_readings .nil pass0 (pa_cons (pv 1) (pa_cons (pv 2) pa_nil))) rfl))))))))), ?_⟩
    have k0 : ∀ x o, x ≠ st → H x = some o → H x = some o := fun _ _ _ e => e
    refine ⟨_, rfl, a, ss, rfl, ha, oss, fun H1 s1 => ?_⟩
    have k1 := kp_same k0 s1
    refine ⟨_, rfl, _, rfl, a, _, rfl, .inl ⟨SqL.of (k1 _ _ nas ha), fun q2 hq2 => ?_⟩⟩
    have k2 := kp_same k1 (smN (o := .tup (nums ss)) (Same.refl H1) hq2)
    have st2 := (smN (o := .tup (nums ss)) s1 hq2) _ _ hst
    have t2 : (upd H1 q2 (.tup (nums ss))) q2 = some (.tup (nums ss)) := upd_same
    refine ⟨b, q2, us, rs, ss, rfl, k2 _ _ nbs hb, kp_prs hst k2 Rb, lb, SqT.of t2, oss, fun H3 s3 => ?_⟩
    have k3 := kp_same k2 s3
    have st3 := s3 _ _ st2
    refine ⟨_, rfl, c, ws, cs, rfl, k3 _ _ ncs hc, kp_prs hst k3 Rc, lc, nd, nr, fun H4 s4 => ?_⟩
    have k4 := kp_same k3 s4
    have st4 := s4 _ _ st3
    -- sizes
    refine ⟨_, rfl, a, _, rfl, .inl ⟨SqL.of (k4 _ _ nas ha), fun q5 hq5 => ?_⟩⟩
    have s5 := smN (o := .tup (nums ss)) (Same.refl H4) hq5
    have k5 := kp_same k4 s5
    have st5 := s5 _ _ st4
    generalize upd H4 q5 (.tup (nums ss)) = H5 at k5 st5
    refine ⟨_, rfl, st, z.C_Store, dx, _, rfl, st5, T.cls_Store, T.na_sizes_Store, by show 0 < 1000; decide, ?_⟩
    have k6 := kp_fld (o' := .ins z.C_Store dx (putF "_sizes" (.ref q5) [])) k5
    have st6 : (upd H5 st (.ins z.C_Store dx (putF "_sizes" (.ref q5) []))) st = some (.ins z.C_Store dx (putF "_sizes" (.ref q5) [])) := upd_same
    generalize upd H5 st (.ins z.C_Store dx (putF "_sizes" (.ref q5) [])) = H6 at k6 st6
    -- rules
    refine ⟨_, rfl, b, _, rfl, .inl (SqL.of (k6 _ _ nbs hb)), fun q7 hq7 => ?_⟩
    have s7 := smN (o := .lst us) (Same.refl H6) hq7
    have k7 := kp_same k6 s7
    have st7 := s7 _ _ st6
    generalize upd H6 q7 (.lst us) = H7 at k7 st7
    refine ⟨_, rfl, st, z.C_Store, dx, _, rfl, st7, T.cls_Store, T.na_rules_Store, Nat.lt_of_le_of_lt (put_lt (n := 0) (Nat.le_refl _)) (by decide), ?_⟩
    have k8 := kp_fld (o' := .ins z.C_Store dx (putF "_rules" (.ref q7) (putF "_sizes" (.ref q5) []))) k7
    have st8 : (upd H7 st (.ins z.C_Store dx (putF "_rules" (.ref q7) (putF "_sizes" (.ref q5) [])))) st = some (.ins z.C_Store dx (putF "_rules" (.ref q7) (putF "_sizes" (.ref q5) []))) := upd_same
    generalize upd H7 st (.ins z.C_Store dx (putF "_rules" (.ref q7) (putF "_sizes" (.ref q5) []))) = H8 at k8 st8
    refine ⟨_, rfl, c, _, rfl, .inl (SqL.of (k8 _ _ ncs hc)), fun q9 hq9 => ?_⟩
    have s9 := smN (o := .lst ws) (Same.refl H8) hq9
    have k9 := kp_same k8 s9
    have st9 := s9 _ _ st8
    generalize upd H8 q9 (.lst ws) = H9 at k9 st9
    refine ⟨_, rfl, st, z.C_Store, dx, _, rfl, st9, T.cls_Store, T.na_changes_Store, Nat.lt_of_le_of_lt (put_lt (n := 1) (put_lt (n := 0) (Nat.le_refl _))) (by decide), ?_⟩
    have k10 := kp_fld (o' := .ins z.C_Store dx (putF "_changes" (.ref q9) (putF "_rules" (.ref q7) (putF "_sizes" (.ref q5) [])))) k9
    have st10 : (upd H9 st (.ins z.C_Store dx (putF "_changes" (.ref q9) (putF "_rules" (.ref q7) (putF "_sizes" (.ref q5) []))))) st = some (.ins z.C_Store dx (putF "_changes" (.ref q9) (putF "_rules" (.ref q7) (putF "_sizes" (.ref q5) [])))) := upd_same
    generalize upd H9 st (.ins z.C_Store dx (putF "_changes" (.ref q9) (putF "_rules" (.ref q7) (putF "_sizes" (.ref q5) [])))) = H10 at k10 st10
    refine ⟨_, rfl, _, rfl, b, c, us, rs, ws, cs, ss, rfl, k10 _ _ nbs hb, kp_prs hst k10 Rb, lb, k10 _ _ ncs hc, kp_prs hst k10 Rc, lc, fun q11 ys H11 s11 hn11 hq11 => ?_⟩
    have k11 := kp_same k10 s11
    have st11 := s11 _ _ st10
    refine ⟨_, rfl, st, z.C_Store, dx, _, rfl, st11, T.cls_Store, T.na_states_Store, Nat.lt_of_le_of_lt (put_lt (n := 2) (put_lt (n := 1) (put_lt (n := 0) (Nat.le_refl _)))) (by decide), ?_⟩
    have k12 := kp_fld (o' := .ins z.C_Store dx (putF "_states" (.ref q11) (putF "_changes" (.ref q9) (putF "_rules" (.ref q7) (putF "_sizes" (.ref q5) []))))) k11
    have st12 : (upd H11 st (.ins z.C_Store dx (putF "_states" (.ref q11) (putF "_changes" (.ref q9) (putF "_rules" (.ref q7) (putF "_sizes" (.ref q5) [])))))) st = some (.ins z.C_Store dx (putF "_states" (.ref q11) (putF "_changes" (.ref q9) (putF "_rules" (.ref q7) (putF "_sizes" (.ref q5) []))))) := upd_same
    generalize upd H11 st (.ins z.C_Store dx (putF "_states" (.ref q11) (putF "_changes" (.ref q9) (putF "_rules" (.ref q7) (putF "_sizes" (.ref q5) []))))) = H12 at k12 st12
    refine ⟨_, rfl, _, rfl, a, b, us, rs, ss, rfl, k12 _ _ nas ha, oss, k12 _ _ nbs hb, kp_prs hst k12 Rb, lb, fun q13 kvs H13 s13 hn13 hq13 => ?_⟩
    have k13 := kp_same k12 s13
    have st13 := s13 _ _ st12
    refine ⟨_, rfl, st, z.C_Store, dx, _, rfl, st13, T.cls_Store, T.na_readings_Store, Nat.lt_of_le_of_lt (put_lt (n := 3) (put_lt (n := 2) (put_lt (n := 1) (put_lt (n := 0) (Nat.le_refl _))))) (by decide), ?_⟩
    exact ret _ _ (kp_fld k13) upd_same
end
end Fb
set_option maxRecDepth 100000
set_option maxHeartbeats 4000000
namespace Fb
open PySem PySem.Spec PyProof.Rows L2
open SX (S)
/-! words and lines -/
def wds (l : List Nat) : List (List Nat) := TL.spl [32] 0 [] l
def lns (l : List Nat) : List (List Nat) := TL.spl [10] 0 [] l
theorem split_w (l : List Nat) : Txt.split (S l) " " = (wds l).map S := by
  have e : ((" " : Str)) = S [32] := by decide +kernel
  rw [e, SX.split_S (by simp) (by decide)]
  rfl
theorem split_n (l : List Nat) : Txt.split (S l) "\n" = (lns l).map S := by
  have e : (("\n" : Str)) = S [10] := by decide +kernel
  rw [e, SX.split_S (by simp) (by decide)]
  rfl
theorem spl_sum (c : Nat) : ∀ (l acc : List Nat), ((TL.spl [c] 0 acc l).map List.length).sum + (TL.spl [c] 0 acc l).length = acc.length + l.length + 1
  | [], acc => by rw [TL.spl_nil]; simp
  | d :: l, acc => by
    by_cases h : d = c
    · subst h
      have hp : TL.pre [d] (d :: l) = true := TL.pre_self [d] l
      rw [TL.spl_hit hp]
      have := spl_sum d l []
      show (acc.length + ((TL.spl [d] 0 [] l).map List.length).sum) + ((TL.spl [d] 0 [] l).length + 1) = acc.length + (l.length + 1) + 1
      simp at this
      omega
    · have hp : TL.pre [c] (d :: l) = false := TL.pre_of_head _ _ fun e => h e
      rw [TL.spl_miss hp]
      have := spl_sum c l (acc ++ [d])
      rw [this, List.length_append]
      show _ = acc.length + (l.length + 1) + 1
      simp
      omega
theorem spl_ne (c : Nat) : ∀ (l acc : List Nat), TL.spl [c] 0 acc l ≠ []
  | [], acc => by rw [TL.spl_nil]; simp
  | d :: l, acc => by
    by_cases h : d = c
    · subst h
      have hp : TL.pre [d] (d :: l) = true := TL.pre_self [d] l
      rw [TL.spl_hit hp]; simp
    · rw [TL.spl_miss (TL.pre_of_head _ _ fun e => h e)]; exact spl_ne c l _
theorem wds_len (l : List Nat) : (wds l).length ≤ l.length + 1 := by
  have := spl_sum 32 l []
  unfold wds
  simp at this
  omega
theorem wds_mem {l x : List Nat} (h : x ∈ wds l) : x.length ≤ l.length := by
  have e := spl_sum 32 l []
  have q := le_sum (List.mem_map.mpr ⟨x, h, rfl⟩ : x.length ∈ (wds l).map List.length)
  have p : 1 ≤ (wds l).length := List.length_pos_iff.mpr (spl_ne 32 l [])
  unfold wds at *
  simp at e
  omega
theorem lns_len (l : List Nat) : (lns l).length ≤ l.length + 1 := by
  have := spl_sum 10 l []
  unfold lns
  simp at this
  omega
theorem lns_mem {l x : List Nat} (h : x ∈ lns l) : x.length ≤ l.length := by
  have e := spl_sum 10 l []
  have q := le_sum (List.mem_map.mpr ⟨x, h, rfl⟩ : x.length ∈ (lns l).map List.length)
  have p : 1 ≤ (lns l).length := List.length_pos_iff.mpr (spl_ne 10 l [])
  unfold lns at *
  simp at e
  omega
def sgB (w set : List Nat) : Bool := decide (w ≠ []) && w.all fun c => decide (c ∈ set)
def digS : List Nat := [48, 49, 50, 51, 52, 53, 54, 55, 56, 57]
def maskS : List Nat := [49, 48, 42, 46]
def numW (w : List Nat) : Bool := sgB w digS && decide (w.length ≤ 3) && (decide (w = [48]) || decide (w.headD 0 ≠ 48))
def numWs (ws : List (List Nat)) : Bool := decide (ws ≠ []) && ws.all numW
def wSizes : List Nat := [115, 105, 122, 101, 115]
def wRule : List Nat := [114, 117, 108, 101]
def wChange : List Nat := [99, 104, 97, 110, 103, 101]
def canL (ws : List (List Nat)) (b : List Nat) : Bool := match ws with
  | [] => false
  | w :: rest =>
    if w = wSizes then decide (b = []) && numWs rest
    else if w = wRule then decide (b ∈ [wSizes, wRule]) && (decide (rest.length = 2) && (sgB (rest.getD 0 []) maskS && sgB (rest.getD 1 []) nameS))
    else if w = wChange then decide (b ≠ []) && (decide (rest.length = 2) && rest.all fun x => sgB x nameS)
    else false
/-- the first wrong line -/
def fltL : List (List Nat) → List Nat → Nat → Option Nat
  | [], _, _ => none
  | l :: ls, b, n => if canL (wds l) b = true then fltL ls ((wds l).headD []) (n + 1) else some n
def spHasS : Sp := fun vs H Q _ => ∃ w set, vs = [.str (S w), .str (S set)] ∧ w.length ≤ 10000 ∧ ∀ H', Same H H' → Q (.bl (sgB w set)) H'
def spNumW : Sp := fun vs H Q _ => ∃ w, vs = [.str (S w)] ∧ w.length ≤ 10000 ∧ ∀ H', Same H H' → Q (.bl (numW w)) H'
def spNumWs (K : PySem.W.Frag) : Sp := fun vs H Q _ => ∃ q ws, vs = [.ref q] ∧ SqL K H q (txV ws) ∧ ws.length ≤ 10000 ∧ (∀ w ∈ ws, w.length ≤ 10000) ∧ ∀ H', Same H H' → Q (.bl (numWs ws)) H'
def spNameW : Sp := fun vs H Q _ => ∃ w, vs = [.str (S w)] ∧ w.length ≤ 10000 ∧ ∀ H', Same H H' → Q (.bl (sgB w nameS)) H'
def spCanL (K : PySem.W.Frag) : Sp := fun vs H Q _ => ∃ q ws b, vs = [.ref q, .str (S b)] ∧ SqL K H q (txV ws) ∧ ws ≠ [] ∧ ws.length ≤ 10000 ∧ (∀ w ∈ ws, w.length ≤ 10000) ∧ ∀ H', Same H H' → Q (.bl (canL ws b)) H'
/-- lists of words, line by line -/
def LnR (D : Addr) (H : Hp) (v : V) (l : List Nat) : Prop := ∃ q, v = .ref q ∧ q ≠ D ∧ H q = some (.lst (txV (wds l)))
def Lns (D : Addr) (H : Hp) (vs : List V) (ls : List (List Nat)) : Prop := Paired (LnR D H) vs ls
theorem lnr_put {D : Addr} {H H' : Hp} {o : HO} {v : V} {l : List Nat} (s : Same H H') (h : LnR D H v l) : LnR D (upd H' D o) v l := by
  obtain ⟨q, h1, h2, h3⟩ := h
  exact ⟨q, h1, h2, by rw [upd_ne h2]; exact s _ _ h3⟩
theorem lnr_same {D : Addr} {H H' : Hp} {v : V} {l : List Nat} (s : Same H H') (h : LnR D H v l) : LnR D H' v l := by
  obtain ⟨q, h1, h2, h3⟩ := h
  exact ⟨q, h1, h2, s _ _ h3⟩
theorem psnoc {α β : Type} {R : α → β → Prop} {v : α} {l : β} (h : R v l) : ∀ {vs : List α} {ls : List β}, Paired R vs ls → Paired R (vs ++ [v]) (ls ++ [l])
  | [], [], .nil => .cons h .nil
  | _ :: _, _ :: _, .cons x t => .cons x (psnoc h t)
theorem pget {α β : Type} {R : α → β → Prop} {l : β} : ∀ {vs : List α} {ls : List β} {i : Nat}, Paired R vs ls → ls[i]? = some l → ∃ v, vs[i]? = some v ∧ R v l
  | [], [], _, .nil, e => by cases e
  | v :: _, _ :: _, 0, .cons h t, e => by cases e; exact ⟨v, rfl, h⟩
  | _ :: _, _ :: _, i + 1, .cons h t, e => pget (i := i) t e
def spLinesOf (K : PySem.W.Frag) (cT : Addr) : Sp := fun vs H Q E => (∃ t, vs = [.str (S t)] ∧ t.length ≤ 10000 ∧ ∀ D us H', Same H H' → H D = none → H' D = some (.lst us) → Lns D H' us (lns t) → Q (.ref D) H') ∨
  (∃ x t, vs = [x] ∧ TyX K H x t ∧ PySem.W.kitOne K t (.type "str") = some false ∧ OutX cT "line" (.int 0) H E)
section
variable {P : Program} {wo : World} {K : PySem.W.Frag} {mg : Str → Option Value} {base : Heap} {z : Pz}
theorem ok_NoTexti (T : Txp K mg z) : FnOk P wo K mg base CX0 1 z.a_NoTexti z.d_NoTexti ["self", "line"] (spI1 z.cNoText "line") := by
  refine T.F_NoTexti.ok sc_NoText_init (fun vs H Q E h => ?_) (fun cdv A outer s H vs Q E hr h => ?_)
  · obtain ⟨a, v, rfl, _⟩ := h
    rfl
  · obtain ⟨a, v, rfl, ha, k⟩ := h
    exact ⟨_, pss_one (ps_ost (pv 0) (pv 1)), _, rfl, _, rfl, a, z.cNoText, rfl, T.xNoText.oc, T.nNoText_line, .inl ⟨ha, fun d h1 h2 => k d h1 h2⟩⟩
theorem ok_has_signs (T : Txp K mg z) : FnOk P wo K mg base CX0 1 z.a_has_signs z.d_has_signs ["word", "signs"] spHasS := by
  refine T.F_has_signs.ok sc_has_signs (fun vs H Q E h => ?_) (fun cdv A outer s H vs Q E hr h => ?_)
  · obtain ⟨w, set, rfl, _⟩ := h
    rfl
  · obtain ⟨w, set, rfl, hw, ret⟩ := h
    refine ⟨_, (pss_one (ps_ret (pe_and (pe_cmpR op_ne (pv 0) pe_str (nomark _)) (pe_one (pe_callB (cr_all rfl) (by rfl) T.n_all (by decide +kernel) (pa_cons (by refine' pe_lc (own := [("sign", 2)]) (tt := tYes) rfl sc_has_signs.nd ?hi (blkOk_by (N := ["word", "signs", "sign"]) (sc := defScope s_has_signs) (by first | decide +kernel | kernel_rfl | rfl)) ?hg ?ht ?he (by intro _; rfl); (case hi => exact (pi_str (pv 0))); (case hg => exact fun _ _ _ _ _ => (pg_name (i := 2) sc_has_signs.nd rfl (Or.inl rfl))); (case ht => exact fun _ _ _ _ _ => pts_nil); (case he => exact fun _ _ _ _ _ => (pe_cmpR op_in_sign (pv 2) (pv 1) rfl))) pa_nil)))))), ?_⟩
    refine ⟨_, rfl, rfl, _, rfl, ?_⟩
    unfold sgB at ret
    rw [show ("" : Str) = S [] from S_e]
    have e0 : (!decide (V.str (S w) = V.str (S []))) = decide (w ≠ []) := by
      by_cases q : w = []
      · rw [q]; decide
      · rw [decide_eq_false (fun e => q (S_eq.mp e)), decide_eq_true q] <;> rfl
    rw [e0]
    by_cases q : w = []
    · rw [decide_eq_false (fun h => h q)] at ret ⊢
      exact iteF (ret _ (Same.refl _))
    · rw [decide_eq_true q] at ret ⊢
      refine iteT ?_
      refine ⟨_, rfl, S w, rfl, fun D hD => ?_⟩
      refine lc_S (l := w) (fun i H' => Same H H' ∧ H' D = some (.lst (((w.take i).map fun c => decide (c ∈ set)).map V.bl))) ⟨smN (Same.refl _) hD, upd_same⟩ (fun i c H2 e h => ?_) (fun H2 h => ?_)
      · refine ⟨rfl, yes1 ?_⟩
        refine ⟨_, rfl, _, rfl, c, S set, rfl, rfl, ?_⟩
        have li : i < w.length := (List.getElem?_eq_some_iff.mp e).1
        refine ⟨_, h.2, by rw [List.length_map, List.length_map, List.length_take]; exact Nat.lt_of_le_of_lt (show min i w.length ≤ 10000 by omega) (by decide), ?_⟩
        refine ⟨same_put h.1 hD, ?_⟩
        rw [upd_same, List.take_add_one, e, List.map_append, List.map_append] <;> rfl
      · obtain ⟨h1, h2⟩ := h
        rw [List.take_length] at h2
        refine ⟨D, _, rfl, SqL.of h2, ?_⟩
        rw [List.all_map]
        exact ret _ h1
theorem numW_def (w : List Nat) : numW w = (sgB w digS && (decide (w.length ≤ 3) && (decide (w = [48]) || decide (w.headD 0 ≠ 48)))) := by
  unfold numW
  rw [Bool.and_assoc]
theorem ok_is_number_word (T : Txp K mg z) : FnOk P wo K mg base CX0 2 z.a_is_number_word z.d_is_number_word ["word"] spNumW := by
  refine T.F_is_number_word.ok sc_is_number_word (fun vs H Q E h => ?_) (fun cdv A outer s H vs Q E hr h => ?_)
  · obtain ⟨w, rfl, _⟩ := h
    rfl
  · obtain ⟨w, rfl, hw, ret⟩ := h
    have hr1 : Room 1 _ := hr
    have G_has_signs : FnOk P wo K mg base CX0 1 z.a_has_signs z.d_has_signs ["word", "signs"] spHasS := ok_has_signs T
    obtain ⟨tD, gDIGITS⟩ := T.g_DIGITS
    obtain ⟨tM, gMOST_DIGITS⟩ := T.g_MOST_DIGITS
    have lz : (S w).length ≤ sizeLine := by rw [S_ln]; exact Nat.le_trans hw (by decide)
    refine ⟨_, (pss_cons (ps_if (PW.pt (pw_or (pt_not (pt_val (pe_call G_has_signs hr1 rfl T.g_has_signs T.k_has_signs T.b_has_signs .nil pass0 (pa_cons (pv 0) (pa_cons (pe_glob (v := .str "0123456789") rfl gDIGITS ⟨_, rfl⟩) pa_nil))))) (pw_or1 (pt_cmpR op_gt (pe_callB call_len_str (by rfl) T.n_len (by decide +kernel) (pa_cons (pv 0) pa_nil)) (pe_glob (v := .int 3) rfl gMOST_DIGITS ⟨_, rfl⟩) (nomark _)))))
        (pss_one (ps_ret pe_bl))
        pss_nil)
      (pss_one (ps_ret (pe_or (pe_cmpR op_eq (pv 0) pe_str (nomark _)) (pe_one (pe_cmpR op_ne (pe_ix ix_str (pv 0) pe_int (fun _ _ => rfl)) pe_str (nomark _))))))), ?_⟩
    rw [numW_def] at ret
    refine ⟨_, rfl, w, digS, by rw [show ("0123456789" : Str) = S digS by decide +kernel] <;> rfl, hw, fun H1 s1 => ?_⟩
    refine ⟨_, rfl, ?_⟩
    cases e1 : sgB w digS with
    | false =>
      rw [e1] at ret
      exact iteB1 rfl (iteT (ret _ s1))
    | true =>
      rw [e1] at ret
      refine iteB0 rfl ?_
      refine ⟨_, rfl, S w, rfl, lz, ?_⟩
      rw [S_ln]
      refine ⟨_, _, rfl, rfl, _, rfl, ?_⟩
      by_cases c3 : w.length ≤ 3
      · rw [decide_eq_true c3] at ret
        refine iteB0 (decide_eq_false (by omega)) ?_
        rw [show ("0" : Str) = S [48] from S_0]
        refine ⟨_, rfl, rfl, _, rfl, ?_⟩
        by_cases c4 : w = [48]
        · rw [decide_eq_true c4] at ret
          exact iteB1 (decide_eq_true (S_eq.mpr c4)) (ret _ s1)
        · rw [decide_eq_false c4] at ret
          refine iteB0 (decide_eq_false fun z => c4 (S_eq.mp z)) ?_
          cases w with
          | nil => cases e1
          | cons c wt =>
            refine ⟨_, rfl, S (c :: wt), 0, c, rfl, rfl, lz, atI_nat (j := 0) rfl, ?_⟩
            have e5 : (!decide (V.str (⟨#[c]⟩ : Str) = V.str (S [48]))) = decide ((c :: wt).headD 0 ≠ 48) := by
              show (!decide (V.str (S [c]) = V.str (S [48]))) = decide (c ≠ 48)
              by_cases q : c = 48
              · rw [q]; decide
              · rw [decide_eq_false (fun z => q (by simpa using S_eq.mp z)), decide_eq_true q] <;> rfl
            rw [Bool.true_and, Bool.true_and, Bool.false_or, ← e5] at ret
            exact ⟨rfl, ret _ s1⟩
      · rw [decide_eq_false c3] at ret
        exact iteB1 (decide_eq_true (by omega)) (ret _ s1)
theorem ok_are_number_words (T : Txp K mg z) : FnOk P wo K mg base CX0 3 z.a_are_number_words z.d_are_number_words ["words"] (spNumWs K) := by
  refine T.F_are_number_words.ok sc_are_number_words (fun vs H Q E h => ?_) (fun cdv A outer s H vs Q E hr h => ?_)
  · obtain ⟨q, ws, rfl, _⟩ := h
    rfl
  · obtain ⟨q, ws, rfl, hq, hl, hm, ret⟩ := h
    have hr1 : Room 2 _ := hr
    have G_is_number_word : FnOk P wo K mg base CX0 2 z.a_is_number_word z.d_is_number_word ["word"] spNumW := ok_is_number_word T
    refine ⟨_, (pss_one (ps_ret (pe_and (pe_callTy call_boolL (by rfl) T.n_bool (by decide +kernel) (pa_cons (pv 0) pa_nil)) (pe_one (pe_callB (cr_all rfl) (by rfl) T.n_all (by decide +kernel) (pa_cons (by refine' pe_lc (own := [("word", 1)]) (tt := tYes) rfl sc_are_number_words.nd ?hi (blkOk_by (N := ["words", "word"]) (sc := defScope s_are_number_words) (by first | decide +kernel | kernel_rfl | rfl)) ?hg ?ht ?he (by intro _; rfl); (case hi => exact (pi_list (pv 0))); (case hg => exact fun _ _ _ _ _ => (pg_name (i := 1) sc_are_number_words.nd rfl (Or.inl rfl))); (case ht => exact fun _ _ _ _ _ => pts_nil); (case he => exact fun _ _ _ _ _ => (pe_call G_is_number_word hr1 rfl T.g_is_number_word T.k_is_number_word T.b_is_number_word .nil pass0 (pa_cons (pv 1) pa_nil)))) pa_nil)))))), ?_⟩
    unfold numWs at ret
    refine ⟨_, rfl, q, _, rfl, hq, _, rfl, ?_⟩
    cases ws with
    | nil => exact ret _ (Same.refl _)
    | cons w0 wt =>
      rw [decide_eq_true (fun z => nomatch z)] at ret
      show if true = true then _ else _
      refine iteT ?_
      generalize w0 :: wt = ws at *
      refine ⟨_, rfl, q, rfl, ⟨_, hq⟩, fun D hD => ?_⟩
      refine lc_outL (xs := txV ws) (outM fun i => V.bl (numW (ws.getD i []))) hD hq outM_0 (fun i hi => ?_) (fun i x H2 Kc K0 e s2 kc k0 => ?_) (fun H2 s2 e2 => ?_)
      · rw [outM_l]
        rw [txV_len] at hi
        exact Nat.lt_of_lt_of_le hi (Nat.le_trans hl (by decide))
      · obtain ⟨t, et, rfl⟩ := txV_get e
        refine ⟨rfl, yes1 ?_⟩
        refine ⟨_, rfl, t, rfl, hm t (List.mem_of_getElem? et), fun H3 s3 => kc _ _ s3 ?_⟩
        rw [outM_s, List.getD_eq_getElem?_getD, et] <;> rfl
      · have e4 : outM (fun i => V.bl (numW (ws.getD i []))) (txV ws).length = (ws.map numW).map V.bl := outM_all (by rw [txV_len, List.length_map, List.length_map]) fun i hi => by
          rw [txV_len] at hi
          rw [List.getElem?_map, List.getElem?_map, List.getD_eq_getElem?_getD, List.getElem?_eq_getElem hi] <;> rfl
        rw [e4] at e2
        refine ⟨D, _, rfl, SqL.of e2, ?_⟩
        rw [List.all_map]
        exact ret _ s2
theorem ok_is_name_word (T : Txp K mg z) : FnOk P wo K mg base CX0 2 z.a_is_name_word z.d_is_name_word ["word"] spNameW := by
  refine T.F_is_name_word.ok sc_is_name_word (fun vs H Q E h => ?_) (fun cdv A outer s H vs Q E hr h => ?_)
  · obtain ⟨w, rfl, _⟩ := h
    rfl
  · obtain ⟨w, rfl, hw, ret⟩ := h
    have hr1 : Room 1 _ := hr
    have G_has_signs : FnOk P wo K mg base CX0 1 z.a_has_signs z.d_has_signs ["word", "signs"] spHasS := ok_has_signs T
    obtain ⟨tD, gNAME_SIGNS⟩ := T.g_NAME_SIGNS
    refine ⟨_, (pss_one (ps_ret (pe_call G_has_signs hr1 rfl T.g_has_signs T.k_has_signs T.b_has_signs .nil pass0 (pa_cons (pv 0) (pa_cons (pe_glob (v := .str "abcdefghijklmnopqrstuvwxyz0123456789-") rfl gNAME_SIGNS ⟨_, rfl⟩) pa_nil))))), ?_⟩
    exact ⟨_, rfl, w, nameS, by rw [show ("abcdefghijklmnopqrstuvwxyz0123456789-" : Str) = S nameS by decide +kernel] <;> rfl, hw, ret⟩
theorem ok_lines_of (T : Txp K mg z) : FnOk P wo K mg base (L2.CX P wo) 3 z.a_lines_of z.d_lines_of ["text"] (spLinesOf K z.cNoText) := by
  refine T.F_lines_of.okX sc_lines_of (fun vs H Q E h => ?_) (fun cdv A outer s H vs Q E hr h => ?_)
  · rcases h with ⟨t, rfl, _⟩ | ⟨x, t, rfl, _⟩ <;> rfl
  · have hr1 : Room 2 _ := hr
    refine ⟨_, (pss_cons (ps_if (pt_not (pt_val (pe_callB call_isi (by rfl) T.n_isinstance boot_isinstance (pa_cons (pv 0) (pa_cons (pe_bltn (v := .ty "str") rfl T.n_str (by decide +kernel) rfl) pa_nil)))))
        (pss_one (ps_raise rfl (takes_of rfl rfl rfl rfl) (pmk_oex T.xNoText.oc T.iNoText T.tNoText (ok_NoTexti T) hr1 T.b_NoTexti .nil pass0 rfl T.xNoText.g (pa_cons pe_int pa_nil))))
        pss_nil)
      (pss_one (ps_ret (by refine' pe_lc (own := [("line", 1)]) (tt := tYes) rfl sc_lines_of.nd ?hi (blkOk_by (N := ["text", "line"]) (sc := defScope s_lines_of) (by first | decide +kernel | kernel_rfl | rfl)) ?hg ?ht ?he (by intro _; rfl); (case hi => exact (pi_list (pe_bm PySem.F.plainAttrs_str PySem.F.slot_str_split PySem.F.type_str_split mt_split (pv 0) (pa_cons pe_str pa_nil)))); (case hg => exact fun _ _ _ _ _ => (pg_name (i := 1) sc_lines_of.nd rfl (Or.inl rfl))); (case ht => exact fun _ _ _ _ _ => pts_nil); (case he => exact fun _ _ _ _ _ => (pe_split (pv 1) pe_str)))))), ?_⟩
    rcases h with ⟨t, rfl, hl, ret⟩ | ⟨x, t, rfl, ty, kt, out⟩
    · refine ⟨_, rfl, _, _, _, _, true, rfl, .ty "str", .base (.str _), kit_ty (by decide +kernel), _, rfl, iteF ?_⟩
      refine ⟨_, rfl, rfl, S t, "\n", rfl, rfl, by decide, by rw [S_ln]; exact Nat.le_trans (Nat.add_le_add_right hl 2) (by decide), fun p hp => ?_⟩
      rw [split_n]
      have s1 := smN (o := .lst (txV (lns t))) (Same.refl H) hp
      refine ⟨p, rfl, ⟨_, SqL.of upd_same⟩, fun D hD => ?_⟩
      have hp1 : (upd H p (.lst (txV (lns t)))) p = some (.lst (txV (lns t))) := upd_same
      have nD := ne_of_none hp1 hD
      have hD0 := s1.free hD
      generalize upd H p (.lst (txV (lns t))) = H1 at s1 hp1 hD
      refine lc_it (walk_list (xs := txV (lns t))) (fun i H' => ∃ us, Same H1 H' ∧ H' D = some (.lst us) ∧ us.length = i ∧ Lns D H' us ((lns t).take i)) ⟨[], smN (Same.refl _) hD, upd_same, rfl, .nil⟩ (fun i H' _ h => ?_) (fun i x H2 H3 lt h y => ?_) (fun H2 h => ?_)
      · obtain ⟨us, h1, _⟩ := h
        exact SqL.of (h1 _ _ hp1)
      · obtain ⟨us, h1, h2, h3, h4⟩ := h
        obtain ⟨rfl, ev⟩ := y
        obtain ⟨l, el, rfl⟩ := txV_get ev
        refine ⟨rfl, yes1 ?_⟩
        have hll := lns_mem (List.mem_of_getElem? el)
        refine ⟨_, rfl, ⟨_, rfl⟩, S l, " ", rfl, rfl, by decide, by rw [S_ln]; exact Nat.le_trans (Nat.add_le_add_right (Nat.le_trans hll hl) 2) (by decide), fun q hq => ?_⟩
        rw [split_w]
        have sq := smN (o := .lst (txV (wds l))) (Same.refl _) hq
        refine ⟨us, sq _ _ h2, ?_, us ++ [.ref q], ?_, upd_same, by rw [List.length_append, h3] <;> rfl, ?_⟩
        · rw [h3]
          have := lns_len t
          rw [txV_len] at lt
          exact Nat.lt_of_lt_of_le lt (Nat.le_trans this (Nat.le_trans (Nat.succ_le_succ hl) (by decide)))
        · exact same_put (smN h1 hq) hD
        · rw [List.take_add_one, el]
          exact psnoc ⟨q, rfl, Ne.symm (ne_of_none h2 hq), by rw [upd_ne (Ne.symm (ne_of_none h2 hq))]; exact upd_same⟩ (pmap (fun v l k => lnr_put sq k) h4)
      · obtain ⟨us, h1, h2, h3, h4⟩ := h
        rw [txV_len, List.take_length] at h4
        exact ret D us H2 (s1.trans h1) hD0 h2 h4
    · refine ⟨_, rfl, _, _, _, _, false, rfl, .ty "str", ty, kt, _, rfl, iteT ?_⟩
      exact mk_tail out
end
end Fb
set_option maxRecDepth 100000
set_option maxHeartbeats 4000000
namespace Fb
open PySem PySem.Spec PyProof.Rows L2
open SX (S)
/-! rows, events -/
def wErase : List Nat := [101, 114, 97, 115, 101]
def wFall : List Nat := [102, 97, 108, 108]
def wRow : List Nat := [114, 111, 119]
def wNone : List Nat := [110, 111, 110, 101]
def wAsk : List Nat := [97, 115, 107]
def wCut : List Nat := [99, 117, 116]
def wDone : List Nat := [100, 111, 110, 101]
def patS : List Nat := [49, 48, 46]
def rowL (ws : List (List Nat)) : Bool :=
  if ws.length < 4 then false
  else if sgB (ws.getD 0 []) maskS = false then false
  else if sgB (ws.getD 1 []) nameS = false then false
  else if ws.getD 2 [] = wErase then decide (ws.length = 4) && numW (ws.getD 3 [])
  else decide (ws.getD 2 [] = wFall) && numWs (ws.drop 3)
def evL (ws : List (List Nat)) : Bool :=
  if ws.headD [] = wAsk then decide (ws.length = 2) && sgB (ws.getD 1 []) nameS
  else if ws.headD [] = wCut then decide (ws.length = 2) && sgB (ws.getD 1 []) patS
  else decide (ws = [wDone])
def rowG (l : List Nat) : Bool := decide ((wds l).headD [] = wRow) && rowL (wds l).tail
def evG (l : List Nat) : Bool := evL (wds l)
def badAt (g : List Nat → Bool) : List (List Nat) → Nat → Option Nat
  | [], _ => none
  | l :: ls, n => if g l = true then badAt g ls (n + 1) else some n
/-- where a text of lines is refused -/
def refF (g : List Nat → Bool) (ls : List (List Nat)) : Option Nat := if wds (ls.headD []) = [wNone] then (if 1 < ls.length then some 1 else none) else badAt g ls 0
def Asc (t : List Nat) : Prop := ∀ c ∈ t, c < 128
/-- texts as data -/
def wsD (ws : List (List Nat)) : List PyData := ws.map fun w => .str (S w)
theorem eqv_ws : ∀ ws vs : List (List Nat), PyData.eqvAll (wsD ws) (wsD vs) = decide (ws = vs)
  | [], [] => by simp [wsD, PyData.eqvAll]
  | [], _ :: _ => by simp [wsD, PyData.eqvAll]
  | _ :: _, [] => by simp [wsD, PyData.eqvAll]
  | a :: ws, b :: vs => by
    have e : ∀ a b : List Nat, PyData.eqv (.str (S a)) (.str (S b)) = decide (a = b) := fun a b => by
      show (S a == S b) = _
      rw [SX.S_beq_eq]
    show PyData.eqvAll (.str (S a) :: wsD ws) (.str (S b) :: wsD vs) = _
    rw [PyData.eqvAll, e, eqv_ws ws vs, ← Bool.decide_and]
    exact decide_eq_decide.mpr ⟨fun h => by rw [h.1, h.2], fun h => by cases h; exact ⟨rfl, rfl⟩⟩
theorem eqv_wsL (ws vs : List (List Nat)) : PyData.eqv (.list (wsD ws)) (.list (wsD vs)) = decide (ws = vs) := by rw [PyData.eqv, eqv_ws]
theorem dp_ws {K : PySem.W.Frag} {H : Hp} : ∀ ws : List (List Nat), DpAll K H (txV ws) (wsD ws)
  | [] => .nil
  | _ :: ws => .cons (.str _) (dp_ws ws)
theorem lay_ws : ∀ {ws : List (List Nat)}, (∀ w ∈ ws, Asc w) → PyData.canLayAll0 (wsD ws) = true ∧ PyData.depthAll (wsD ws) = 0
  | [], _ => ⟨by simp [wsD, PyData.canLayAll0], by simp [wsD, PyData.depthAll]⟩
  | w :: ws, h => by
    obtain ⟨h1, h2⟩ := lay_ws (ws := ws) fun x hx => h x (List.mem_cons_of_mem _ hx)
    have so : PyData.strOk (S w) = true := by
      unfold PyData.strOk
      simp only [S, List.all_toArray, List.all_eq_true, decide_eq_true_eq]
      intro c hc
      have := h w List.mem_cons_self c hc
      omega
    show PyData.canLayAll0 (.str (S w) :: wsD ws) = true ∧ PyData.depthAll (.str (S w) :: wsD ws) = 0
    rw [PyData.canLayAll0, PyData.depthAll, h1, h2]
    refine ⟨?_, by simp [PyData.depth]⟩
    rw [PyData.canLay0, so]
    rfl
theorem shaped_ws {ws : List (List Nat)} (h : ∀ w ∈ ws, Asc w) : SeqAt.shaped (.list (wsD ws)) = true := shaped_lst (lay_ws h)
theorem asc_spl (c : Nat) : ∀ (l acc : List Nat), (∀ x ∈ l, x < 128) → (∀ x ∈ acc, x < 128) → ∀ w ∈ TL.spl [c] 0 acc l, Asc w
  | [], acc, _, ha, w, hw => by
    rw [TL.spl_nil] at hw
    rw [List.mem_singleton.mp hw]
    exact ha
  | d :: l, acc, hl, ha, w, hw => by
    have hl2 : ∀ x ∈ l, x < 128 := fun x hx => hl x (List.mem_cons_of_mem _ hx)
    by_cases h : d = c
    · subst h
      have hp : TL.pre [d] (d :: l) = true := TL.pre_self [d] l
      rw [TL.spl_hit hp] at hw
      rcases List.mem_cons.mp hw with e | e
      · rw [e]; exact ha
      · exact asc_spl d l [] hl2 (fun x hx => by cases hx) w e
    · rw [TL.spl_miss (TL.pre_of_head _ _ fun e => h e)] at hw
      refine asc_spl c l (acc ++ [d]) hl2 (fun x hx => ?_) w hw
      rcases List.mem_append.mp hx with q | q
      · exact ha x q
      · rw [List.mem_singleton.mp q]; exact hl d List.mem_cons_self
theorem asc_wds {l : List Nat} (h : Asc l) : ∀ w ∈ wds l, Asc w := asc_spl 32 l [] h fun _ hx => by cases hx
theorem asc_lns {l : List Nat} (h : Asc l) : ∀ w ∈ lns l, Asc w := asc_spl 10 l [] h fun _ hx => by cases hx
theorem sqL_same {K : PySem.W.Frag} {H H' : Hp} (s : Same H H') {a : Addr} {xs : List V} (h : SqL K H a xs) : SqL K H' a xs := s.seq h
def spRow (K : PySem.W.Frag) : Sp := fun vs H Q _ => ∃ q ws, vs = [.ref q] ∧ SqL K H q (txV ws) ∧ ws.length ≤ 10000 ∧ (∀ w ∈ ws, w.length ≤ 10000) ∧ ∀ H', Same H H' → Q (.bl (rowL ws)) H'
def spEv (K : PySem.W.Frag) : Sp := fun vs H Q _ => ∃ q ws, vs = [.ref q] ∧ SqL K H q (txV ws) ∧ ws ≠ [] ∧ ws.length ≤ 10000 ∧ (∀ w ∈ ws, w.length ≤ 10000) ∧ (∀ w ∈ ws, Asc w) ∧ ∀ H', Same H H' → Q (.bl (evL ws)) H'
def spAlone (K : PySem.W.Frag) (cT : Addr) : Sp := fun vs H Q E => ∃ q us, vs = [.ref q] ∧ SqL K H q us ∧ 1 < us.length ∧ OutX cT "line" (.int 1) H E
def spRead (g : List Nat → Bool) (K : PySem.W.Frag) (cT : Addr) (pre : List V) : Sp := fun vs H Q E => (∃ t n, vs = pre ++ [.str (S t)] ∧ t.length ≤ 9000 ∧ Asc t ∧ refF g (lns t) = some n ∧ OutX cT "line" (.int (n : Nat)) H E) ∨
  (∃ x t, vs = pre ++ [x] ∧ TyX K H x t ∧ PySem.W.kitOne K t (.type "str") = some false ∧ OutX cT "line" (.int 0) H E)
section
variable {P : Program} {wo : World} {K : PySem.W.Frag} {mg : Str → Option Value} {base : Heap} {z : Pz}
theorem ok_can_be_row (T : Txp K mg z) : FnOk P wo K mg base CX0 4 z.a_can_be_row z.d_can_be_row ["words"] (spRow K) := by
  refine T.F_can_be_row.ok sc_can_be_row (fun vs H Q E h => ?_) (fun cdv A outer s H vs Q E hr h => ?_)
  · obtain ⟨q, ws, rfl, _⟩ := h
    rfl
  · obtain ⟨q, ws, rfl, hq, hl, hm, ret⟩ := h
    have hr3 : Room 3 _ := hr
    have hr2 : Room 2 _ := hr.mono (by decide)
    have hr1 : Room 1 _ := hr.mono (by decide)
    have G_has_signs : FnOk P wo K mg base CX0 1 z.a_has_signs z.d_has_signs ["word", "signs"] spHasS := ok_has_signs T
    have G_is_name_word : FnOk P wo K mg base CX0 2 z.a_is_name_word z.d_is_name_word ["word"] spNameW := ok_is_name_word T
    have G_is_number_word : FnOk P wo K mg base CX0 2 z.a_is_number_word z.d_is_number_word ["word"] spNumW := ok_is_number_word T
    have G_are_number_words : FnOk P wo K mg base CX0 3 z.a_are_number_words z.d_are_number_words ["words"] (spNumWs K) := ok_are_number_words T
    obtain ⟨tD, gMASK_SIGNS⟩ := T.g_MASK_SIGNS
    refine ⟨_, (pss_cons (ps_if (PW.pt (pw_or (pt_cmpR op_lt (pe_callB call_len_seq (by rfl) T.n_len (by decide +kernel) (pa_cons (pv 0) pa_nil)) pe_int (nomark _)) (pw_or (pt_not (pt_val (pe_call G_has_signs hr1 rfl T.g_has_signs T.k_has_signs T.b_has_signs .nil pass0 (pa_cons (pe_ix ix_list (pv 0) pe_int (fun _ _ => rfl)) (pa_cons (pe_glob (v := .str "10*.") rfl gMASK_SIGNS ⟨_, rfl⟩) pa_nil))))) (pw_or1 (pt_not (pt_val (pe_call G_is_name_word hr2 rfl T.g_is_name_word T.k_is_name_word T.b_is_name_word .nil pass0 (pa_cons (pe_ix ix_list (pv 0) pe_int (fun _ _ => rfl)) pa_nil))))))))
        (pss_one (ps_ret pe_bl))
        pss_nil)
      (pss_cons (ps_if (pt_cmpR op_eq (pe_ix ix_list (pv 0) pe_int (fun _ _ => rfl)) pe_str (nomark _))
        (pss_one (ps_ret (pe_and (pe_cmpR op_eq (pe_callB call_len_seq (by rfl) T.n_len (by decide +kernel) (pa_cons (pv 0) pa_nil)) pe_int (nomark _)) (pe_one (pe_call G_is_number_word hr2 rfl T.g_is_number_word T.k_is_number_word T.b_is_number_word .nil pass0 (pa_cons (pe_ix ix_list (pv 0) pe_int (fun _ _ => rfl)) pa_nil))))))
        pss_nil)
      (pss_one (ps_ret (pe_and (pe_cmpR op_eq (pe_ix ix_list (pv 0) pe_int (fun _ _ => rfl)) pe_str (nomark _)) (pe_one (pe_call G_are_number_words hr3 rfl T.g_are_number_words T.k_are_number_words T.b_are_number_words .nil pass0 (pa_cons (pe_slice sl_list (pv 0) (po_some pe_int) po_none) pa_nil)))))))), ?_⟩
    rw [show ("10*." : Str) = S maskS by decide +kernel, show ("erase" : Str) = S wErase by decide +kernel, show ("fall" : Str) = S wFall by decide +kernel]
    unfold rowL at ret
    refine ⟨_, rfl, q, _, rfl, .inl hq, _, _, rfl, rfl, _, rfl, ?_⟩
    rw [txV_len]
    by_cases c1 : ws.length < 4
    · simp only [if_pos c1] at ret
      exact iteB1 (decide_eq_true (by omega)) (iteT (ret _ (Same.refl _)))
    simp only [if_neg c1] at ret
    refine iteB0 (decide_eq_false (by omega)) ?_
    obtain ⟨w0, w1, w2, w3, r, rfl⟩ : ∃ w0 w1 w2 w3 r, ws = w0 :: w1 :: w2 :: w3 :: r := by
      match ws, c1 with
      | w0 :: w1 :: w2 :: w3 :: r, _ => exact ⟨w0, w1, w2, w3, r, rfl⟩
      | [], c => exact absurd (show _ < 4 by simp) c
      | [_], c => exact absurd (show _ < 4 by simp) c
      | [_, _], c => exact absurd (show _ < 4 by simp) c
      | [_, _, _], c => exact absurd (show _ < 4 by simp) c
    refine ⟨_, rfl, q, _, 0, .str (S w0), rfl, rfl, hq, atI_nat (j := 0) rfl, ?_⟩
    refine ⟨w0, maskS, rfl, hm w0 (by simp), fun H1 s1 => ⟨_, rfl, ?_⟩⟩
    have g0 : (w0 :: w1 :: w2 :: w3 :: r).getD 0 [] = w0 := rfl
    have g1 : (w0 :: w1 :: w2 :: w3 :: r).getD 1 [] = w1 := rfl
    have g2 : (w0 :: w1 :: w2 :: w3 :: r).getD 2 [] = w2 := rfl
    have g3 : (w0 :: w1 :: w2 :: w3 :: r).getD 3 [] = w3 := rfl
    rw [g0, g1, g2, g3] at ret
    cases e0 : sgB w0 maskS with
    | false =>
      simp only [e0, if_pos] at ret
      exact iteB1 rfl (iteT (ret _ s1))
    | true =>
    simp only [e0, Bool.true_eq_false, if_false] at ret
    refine iteB0 rfl ?_
    refine ⟨_, rfl, q, _, 1, .str (S w1), rfl, rfl, sqL_same s1 hq, atI_nat (j := 1) rfl, ?_⟩
    refine ⟨w1, rfl, hm w1 (by simp), fun H2 s2 => ⟨_, rfl, ?_⟩⟩
    have s12 := s1.trans s2
    cases e1 : sgB w1 nameS with
    | false =>
      simp only [e1, if_pos] at ret
      exact iteB1 rfl (ret _ s12)
    | true =>
    simp only [e1, Bool.true_eq_false, if_false] at ret
    refine iteB0 rfl ?_
    refine ⟨_, rfl, q, _, 2, .str (S w2), rfl, rfl, sqL_same s12 hq, atI_nat (j := 2) rfl, rfl, _, rfl, ?_⟩
    by_cases c2 : w2 = wErase
    · simp only [if_pos c2] at ret
      refine iteB1 (decide_eq_true (S_eq.mpr c2)) ?_
      refine ⟨_, rfl, q, _, rfl, .inl (sqL_same s12 hq), rfl, _, rfl, ?_⟩
      rw [txV_len]
      by_cases c3 : (w0 :: w1 :: w2 :: w3 :: r).length = 4
      · rw [decide_eq_true c3, Bool.true_and] at ret
        refine iteB1 (by rw [c3]; decide) ?_
        refine ⟨_, rfl, q, _, 3, .str (S w3), rfl, rfl, sqL_same s12 hq, atI_nat (j := 3) rfl, ?_⟩
        exact ⟨w3, rfl, hm w3 (by simp), fun H3 s3 => ret _ (s12.trans s3)⟩
      · rw [decide_eq_false c3, Bool.false_and] at ret
        exact iteB0 (decide_eq_false fun z => c3 (by have := V.int.inj z; omega)) (ret _ s12)
    · simp only [if_neg c2] at ret
      refine iteB0 (decide_eq_false fun z => c2 (S_eq.mp z)) ?_
      refine ⟨_, rfl, q, _, 2, .str (S w2), rfl, rfl, sqL_same s12 hq, atI_nat (j := 2) rfl, rfl, _, rfl, ?_⟩
      by_cases c3 : w2 = wFall
      · rw [decide_eq_true c3, Bool.true_and] at ret
        refine iteB1 (decide_eq_true (S_eq.mpr c3)) ?_
        refine ⟨_, rfl, 3, rfl, q, _, rfl, sqL_same s12 hq, fun c hc => ?_⟩
        rw [show (some (3 : Int)) = some ((3 : Nat) : Int) from rfl, cutV_from]
        have s3 := smN (o := .lst (txV ((w0 :: w1 :: w2 :: w3 :: r).drop 3))) s12 hc
        refine ⟨c, _, rfl, SqL.of upd_same, by rw [List.length_drop]; omega, fun x hx => hm x (List.mem_of_mem_drop hx), fun H3 s3' => ret _ (s3.trans s3')⟩
      · rw [decide_eq_false c3, Bool.false_and] at ret
        exact iteB0 (decide_eq_false fun z => c3 (S_eq.mp z)) (ret _ s12)
theorem ok_can_be_event (T : Txp K mg z) : FnOk P wo K mg base CX0 3 z.a_can_be_event z.d_can_be_event ["words"] (spEv K) := by
  refine T.F_can_be_event.ok sc_can_be_event (fun vs H Q E h => ?_) (fun cdv A outer s H vs Q E hr h => ?_)
  · obtain ⟨q, ws, rfl, _⟩ := h
    rfl
  · obtain ⟨q, ws, rfl, hq, h0, hl, hm, asc, ret⟩ := h
    have hr2 : Room 2 _ := hr
    have hr1 : Room 1 _ := hr.mono (by decide)
    have hu64 : (A.deeper (envOfC "can_be_event" (defScope s_can_be_event) s.heap.objs.size z.a_can_be_event cdv)).units + 64 < cLine := hr.units
    have G_has_signs : FnOk P wo K mg base CX0 1 z.a_has_signs z.d_has_signs ["word", "signs"] spHasS := ok_has_signs T
    have G_is_name_word : FnOk P wo K mg base CX0 2 z.a_is_name_word z.d_is_name_word ["word"] spNameW := ok_is_name_word T
    obtain ⟨tD, gPATTERN_SIGNS⟩ := T.g_PATTERN_SIGNS
    refine ⟨_, (pss_cons (ps_if (pt_cmpR op_eq (pe_ix ix_list (pv 0) pe_int (fun _ _ => rfl)) pe_str (nomark _))
        (pss_one (ps_ret (pe_and (pe_cmpR op_eq (pe_callB call_len_seq (by rfl) T.n_len (by decide +kernel) (pa_cons (pv 0) pa_nil)) pe_int (nomark _)) (pe_one (pe_call G_is_name_word hr2 rfl T.g_is_name_word T.k_is_name_word T.b_is_name_word .nil pass0 (pa_cons (pe_ix ix_list (pv 0) pe_int (fun _ _ => rfl)) pa_nil))))))
        pss_nil)
      (pss_cons (ps_if (pt_cmpR op_eq (pe_ix ix_list (pv 0) pe_int (fun _ _ => rfl)) pe_str (nomark _))
        (pss_one (ps_ret (pe_and (pe_cmpR op_eq (pe_callB call_len_seq (by rfl) T.n_len (by decide +kernel) (pa_cons (pv 0) pa_nil)) pe_int (nomark _)) (pe_one (pe_call G_has_signs hr1 rfl T.g_has_signs T.k_has_signs T.b_has_signs .nil pass0 (pa_cons (pe_ix ix_list (pv 0) pe_int (fun _ _ => rfl)) (pa_cons (pe_glob (v := .str "10.") rfl gPATTERN_SIGNS ⟨_, rfl⟩) pa_nil)))))))
        pss_nil)
      (pss_one (ps_ret (pe_cmpR (op_eqD hu64) (pv 0) (pe_lst (pa_cons pe_str pa_nil)) (nomark _)))))), ?_⟩
    rw [show ("10." : Str) = S patS by decide +kernel, show ("ask" : Str) = S wAsk by decide +kernel, show ("cut" : Str) = S wCut by decide +kernel, show ("done" : Str) = S wDone by decide +kernel]
    obtain ⟨w, rest, rfl⟩ : ∃ w rest, ws = w :: rest := by cases ws with | nil => exact absurd rfl h0 | cons w r => exact ⟨w, r, rfl⟩
    unfold evL at ret
    refine ⟨_, rfl, q, _, 0, .str (S w), rfl, rfl, hq, atI_nat (j := 0) rfl, rfl, _, rfl, ?_⟩
    have hd : (w :: rest).headD [] = w := rfl
    rw [hd] at ret
    by_cases c1 : w = wAsk
    · simp only [if_pos c1] at ret
      refine iteB1 (decide_eq_true (S_eq.mpr c1)) ?_
      refine ⟨_, rfl, q, _, rfl, .inl hq, rfl, _, rfl, ?_⟩
      rw [txV_len]
      by_cases c2 : (w :: rest).length = 2
      · rw [decide_eq_true c2, Bool.true_and] at ret
        refine iteB1 (by rw [c2]; decide) ?_
        obtain ⟨x, rfl⟩ : ∃ x, rest = [x] := by
          match rest, c2 with
          | [x], _ => exact ⟨x, rfl⟩
        refine ⟨_, rfl, q, _, 1, .str (S x), rfl, rfl, hq, atI_nat (j := 1) rfl, ?_⟩
        exact ⟨x, rfl, hm x (by simp), fun H1 s1 => ret _ s1⟩
      · rw [decide_eq_false c2, Bool.false_and] at ret
        exact iteB0 (decide_eq_false fun z => c2 (by have := V.int.inj z; omega)) (ret _ (Same.refl _))
    simp only [if_neg c1] at ret
    refine iteB0 (decide_eq_false fun z => c1 (S_eq.mp z)) ?_
    refine ⟨_, rfl, q, _, 0, .str (S w), rfl, rfl, hq, atI_nat (j := 0) rfl, rfl, _, rfl, ?_⟩
    by_cases c3 : w = wCut
    · simp only [if_pos c3] at ret
      refine iteB1 (decide_eq_true (S_eq.mpr c3)) ?_
      refine ⟨_, rfl, q, _, rfl, .inl hq, rfl, _, rfl, ?_⟩
      rw [txV_len]
      by_cases c2 : (w :: rest).length = 2
      · rw [decide_eq_true c2, Bool.true_and] at ret
        refine iteB1 (by rw [c2]; decide) ?_
        obtain ⟨x, rfl⟩ : ∃ x, rest = [x] := by
          match rest, c2 with
          | [x], _ => exact ⟨x, rfl⟩
        refine ⟨_, rfl, q, _, 1, .str (S x), rfl, rfl, hq, atI_nat (j := 1) rfl, ?_⟩
        exact ⟨x, patS, rfl, hm x (by simp), fun H1 s1 => ret _ s1⟩
      · rw [decide_eq_false c2, Bool.false_and] at ret
        exact iteB0 (decide_eq_false fun z => c2 (by have := V.int.inj z; omega)) (ret _ (Same.refl _))
    simp only [if_neg c3] at ret
    refine iteB0 (decide_eq_false fun z => c3 (S_eq.mp z)) ?_
    refine ⟨_, rfl, by show 1 ≤ sizeLine; decide, fun c hc => ?_⟩
    have s1 := smN (o := .lst (txV [wDone])) (Same.refl H) hc
    refine ⟨.list (wsD (w :: rest)), .list (wsD [wDone]), .lst (sqL_same s1 hq) (dp_ws (w :: rest)), .lst (SqL.of upd_same) (dp_ws [wDone]), shaped_ws asc, shaped_ws (by unfold Asc; decide), ?_⟩
    rw [eqv_wsL]
    exact ret _ s1
theorem ok_need_alone (T : Txp K mg z) : FnOk P wo K mg base (L2.CX P wo) 3 z.a_need_alone z.d_need_alone ["lines"] (spAlone K z.cNoText) := by
  refine T.F_need_alone.okX sc_need_alone (fun vs H Q E h => ?_) (fun cdv A outer s H vs Q E hr h => ?_)
  · obtain ⟨q, us, rfl, _⟩ := h
    rfl
  · obtain ⟨q, us, rfl, hq, h1, out⟩ := h
    have hr2 : Room 2 _ := hr
    refine ⟨_, (pss_one (ps_if (pt_cmpR op_gt (pe_callB call_len_seq (by rfl) T.n_len (by decide +kernel) (pa_cons (pv 0) pa_nil)) pe_int (nomark _))
        (pss_one (ps_raise rfl (takes_of rfl rfl rfl rfl) (pmk_oex T.xNoText.oc T.iNoText T.tNoText (ok_NoTexti T) hr2 T.b_NoTexti .nil pass0 rfl T.xNoText.g (pa_cons pe_int pa_nil))))
        pss_nil)), ?_⟩
    refine ⟨_, rfl, q, us, rfl, .inl hq, _, _, rfl, rfl, _, rfl, iteB1 (decide_eq_true (by omega)) ?_⟩
    exact mk_tail out
theorem ok_read_driver (T : Txp K mg z) : FnOk P wo K mg base (L2.CX P wo) 6 z.a_read_driver z.d_read_driver ["store", "text"] (fun vs H Q E => ∃ st, spRead rowG K z.cNoText [st] vs H Q E) := by
  refine T.F_read_driver.okX sc_read_driver (fun vs H Q E h => ?_) (fun cdv A outer s H vs Q E hr h => ?_)
  · obtain ⟨st, ⟨t, n, rfl, _⟩ | ⟨x, t, rfl, _⟩⟩ := h <;> rfl
  · have hr5 : Room 5 _ := hr
    have hr4 : Room 4 _ := hr.mono (by decide)
    have hr3 : Room 3 _ := hr.mono (by decide)
    have hr2 : Room 2 _ := hr.mono (by decide)
    have hu64 : (A.deeper (envOfC "read_driver" (defScope s_read_driver) s.heap.objs.size z.a_read_driver cdv)).units + 64 < cLine := hr.units
    have G_lines_of : FnOk P wo K mg base (L2.CX P wo) 3 z.a_lines_of z.d_lines_of ["text"] (spLinesOf K z.cNoText) := ok_lines_of T
    have G_can_be_row : FnOk P wo K mg base CX0 4 z.a_can_be_row z.d_can_be_row ["words"] (spRow K) := ok_can_be_row T
    have G_need_alone : FnOk P wo K mg base (L2.CX P wo) 3 z.a_need_alone z.d_need_alone ["lines"] (spAlone K z.cNoText) := ok_need_alone T
    obtain ⟨tN, gNONE⟩ := T.g_NONE
    refine ⟨_, (pss_cons (ps_set (i := 2) sc_read_driver.nd rfl (Or.inl rfl) (pe_call G_lines_of hr3 rfl T.g_lines_of T.k_lines_of T.b_lines_of .nil (passes_call (takes_of rfl rfl rfl rfl) (fun _ _ _ _ h => h)) (pa_cons (pv 1) pa_nil))) (pss_cons (ps_if (pt_cmpR (op_eqD hu64) (pe_ix ix_list (pv 2) pe_int (fun _ _ => rfl)) (pe_lst (pa_cons (pe_glob (v := .str "none") rfl gNONE ⟨_, rfl⟩) pa_nil)) (nomark _))
        (pss_cons (ps_expr (pe_call G_need_alone hr3 rfl T.g_need_alone T.k_need_alone T.b_need_alone .nil (passes_call (takes_of rfl rfl rfl rfl) (fun _ _ _ _ h => h)) (pa_cons (pv 2) pa_nil))) pss_no)
        pss_nil) (pss_cons (ps_for (passes_of rfl) rfl (pi_enum (by rfl) T.n_enumerate (pa_cons (pv 2) pa_nil)) (pg_tup rfl (pgs_cons (pg_name (i := 3) sc_read_driver.nd rfl (Or.inl rfl)) (pgs_cons (pg_name (i := 4) sc_read_driver.nd rfl (Or.inl rfl)) pgs_nil)))
        (pss_one (ps_if (PW.pt (pw_or (pt_cmpR op_ne (pe_ix ix_list (pv 4) pe_int (fun _ _ => rfl)) pe_str (nomark _)) (pw_or1 (pt_not (pt_val (pe_call G_can_be_row hr4 rfl T.g_can_be_row T.k_can_be_row T.b_can_be_row .nil pass0 (pa_cons (pe_slice sl_list (pv 4) (po_some pe_int) po_none) pa_nil)))))))
          (pss_one (ps_raise rfl (takes_of rfl rfl rfl rfl) (pmk_oex T.xNoText.oc T.iNoText T.tNoText (ok_NoTexti T) hr2 T.b_NoTexti .nil pass0 rfl T.xNoText.g (pa_cons (pv 3) pa_nil))))
          pss_nil))) pss_no))), ?_⟩
    obtain ⟨st, h⟩ := h
    rcases h with ⟨t, n, rfl, hl, asc, hf, out⟩ | ⟨x, t, rfl, ty, kt, out⟩
    · refine ⟨_, rfl, .inl ⟨t, rfl, by omega, fun D us H1 s1 hD hD1 R1 => ?_⟩⟩
      have lu := plen R1
      obtain ⟨l0, lt0, el0⟩ : ∃ l0 lt0, lns t = l0 :: lt0 := by
        cases e : lns t with
        | nil => exact absurd e (spl_ne 10 t [])
        | cons w r => exact ⟨w, r, rfl⟩
      have ascL := asc_lns asc
      obtain ⟨v0, ev0, q0, rfl, _, hq0⟩ := pget (i := 0) R1 (by rw [el0] <;> rfl)
      rw [show ("none" : Str) = S wNone by decide +kernel]
      refine ⟨_, rfl, D, us, 0, .ref q0, rfl, rfl, SqL.of hD1, atI_nat (j := 0) ev0, by show 1 ≤ sizeLine; decide, fun c hc => ?_⟩
      have s2 := smN (o := .lst (txV [wNone])) (Same.refl H1) hc
      have hq2 := s2 _ _ hq0
      have hD2 := s2 _ _ hD1
      refine ⟨.list (wsD (wds l0)), .list (wsD [wNone]), .lst (SqL.of hq2) (dp_ws (wds l0)), .lst (SqL.of upd_same) (dp_ws [wNone]), shaped_ws (asc_wds (ascL l0 (by rw [el0]; simp))), shaped_ws (by unfold Asc; decide), _, rfl, ?_⟩
      rw [eqv_wsL]
      unfold refF at hf
      have hd0 : (lns t).headD [] = l0 := by rw [el0] <;> rfl
      rw [hd0] at hf
      by_cases c0 : wds l0 = [wNone]
      · simp only [if_pos c0] at hf
        by_cases c1 : 1 < (lns t).length
        · rw [if_pos c1] at hf
          cases hf
          exact iteB1 (decide_eq_true c0) ⟨_, rfl, D, us, rfl, SqL.of hD2, by omega, OutX.later out (s1.trans s2)⟩
        · rw [if_neg c1] at hf
          cases hf
      simp only [if_neg c0] at hf
      refine iteB0 (decide_eq_false c0) ?_
      have eu : upd H1 c (.lst [.str (S wNone)]) = upd H1 c (.lst (txV [wNone])) := rfl
      rw [eu]
      generalize upd H1 c (.lst (txV [wNone])) = H2 at s2 hD2
      refine ⟨_, rfl, D, us, rfl, SqL.of hD2, ?_⟩
      refine for_it (walk_enum (xs := us)) (fun i σ H' => Same H2 H' ∧ ∃ (x3 x4 : Option V), σ = [some st, some (.str (S t)), some (.ref D), x3, x4] ∧ badAt rowG ((lns t).drop i) i = some n)
        ⟨Same.refl _, none, none, rfl, hf⟩ (fun i σ H' _ h => SqL.of (h.1 _ _ hD2)) (fun i x σ H3 H4 lt h y => ?_) (fun σ H3 h => ?_)
      · obtain ⟨s3, x3, x4, rfl, hf⟩ := h
        obtain ⟨Tu, a1, v, rfl, hTu, rfl, e1, e2⟩ := y
        cases e1
        have li : i < (lns t).length := by omega
        have el : (lns t)[i]? = some (lns t)[i] := List.getElem?_eq_getElem li
        have ed : (lns t).drop i = (lns t)[i] :: (lns t).drop (i + 1) := List.drop_eq_getElem_cons li
        have hll := lns_mem (List.getElem_mem li)
        have asl := ascL _ (List.getElem_mem li)
        generalize (lns t)[i] = l at el ed hll asl
        obtain ⟨v', ev, q, rfl, _, hq⟩ := pget R1 el
        have e2 : us[i]? = some v := e2
        rw [ev] at e2
        cases e2
        rw [ed] at hf
        unfold badAt at hf
        refine ⟨Tu, [.int (i : Nat), .ref q], rfl, SqT.of upd_same, rfl, ?_⟩
        refine ⟨_, _, rfl, ?_⟩
        refine ⟨_, _, rfl, ?_⟩
        refine ⟨rfl, ?_⟩
        have s4 := smN (o := .tup [.int (i : Nat), .ref q]) s3 hTu
        have hq4 := s4 _ _ (s2 _ _ hq)
        have sF := (s1.trans s2).trans s4
        generalize upd H3 Tu (.tup [.int (i : Nat), .ref q]) = H5 at s4 hq4 sF
        obtain ⟨w, r, ew⟩ : ∃ w r, wds l = w :: r := by
          cases e : wds l with
          | nil => exact absurd e (spl_ne 32 l [])
          | cons w r => exact ⟨w, r, rfl⟩
        have lw := wds_len l
        have mw := fun x (hx : x ∈ wds l) => Nat.le_trans (wds_mem hx) hll
        have aw := asc_wds asl
        rw [ew] at hq4 lw mw aw
        have gv : rowG l = (decide (w = wRow) && rowL r) := by unfold rowG; rw [ew] <;> rfl
        rw [gv] at hf
        rw [show ("row" : Str) = S wRow by decide +kernel]
        refine ⟨_, rfl, q, _, 0, .str (S w), rfl, rfl, SqL.of hq4, atI_nat (j := 0) rfl, rfl, _, rfl, ?_⟩
        by_cases c1 : w = wRow
        · rw [decide_eq_true c1, Bool.true_and] at hf
          refine iteB0 (by rw [decide_eq_true (S_eq.mpr c1)] <;> rfl) ?_
          refine ⟨_, rfl, 1, rfl, q, _, rfl, SqL.of hq4, fun c2 hc2 => ?_⟩
          rw [show (some (1 : Int)) = some ((1 : Nat) : Int) from rfl, cutV_from]
          have s5 := smN (o := .lst (txV r)) (Same.refl H5) hc2
          refine ⟨c2, r, rfl, SqL.of upd_same, by have : r.length + 1 ≤ l.length + 1 := lw; omega, fun x hx => Nat.le_trans (mw x (List.mem_cons_of_mem _ hx)) (by omega), fun H6 s6 => ⟨_, rfl, ?_⟩⟩
          have s56 := s5.trans s6
          cases er : rowL r with
          | true =>
            rw [er, if_pos rfl] at hf
            exact iteF ⟨s4.trans s56, _, _, rfl, hf⟩
          | false =>
            rw [er, if_neg Bool.false_ne_true] at hf
            cases hf
            refine iteT ⟨_, rfl, ?_⟩
            exact mk_tail (OutX.later out (sF.trans s56))
        · rw [decide_eq_false c1, Bool.false_and, if_neg Bool.false_ne_true] at hf
          cases hf
          refine iteB1 (by rw [decide_eq_false (fun z => c1 (S_eq.mp z))] <;> rfl) (iteT ⟨_, rfl, ?_⟩)
          exact mk_tail (OutX.later out sF)
      · obtain ⟨s3, x3, x4, rfl, hf⟩ := h
        rw [lu, List.drop_length] at hf
        cases hf
    · exact ⟨_, rfl, .inr ⟨x, t, rfl, ty, kt, out⟩⟩
theorem ok_read_story (T : Txp K mg z) : FnOk P wo K mg base (L2.CX P wo) 6 z.a_read_story z.d_read_story ["text"] (spRead evG K z.cNoText []) := by
  refine T.F_read_story.okX sc_read_story (fun vs H Q E h => ?_) (fun cdv A outer s H vs Q E hr h => ?_)
  · rcases h with ⟨t, n, rfl, _⟩ | ⟨x, t, rfl, _⟩ <;> rfl
  · have hr5 : Room 5 _ := hr
    have hr4 : Room 4 _ := hr.mono (by decide)
    have hr3 : Room 3 _ := hr.mono (by decide)
    have hr2 : Room 2 _ := hr.mono (by decide)
    have hu64 : (A.deeper (envOfC "read_story" (defScope s_read_story) s.heap.objs.size z.a_read_story cdv)).units + 64 < cLine := hr.units
    have G_lines_of : FnOk P wo K mg base (L2.CX P wo) 3 z.a_lines_of z.d_lines_of ["text"] (spLinesOf K z.cNoText) := ok_lines_of T
    have G_can_be_event : FnOk P wo K mg base CX0 3 z.a_can_be_event z.d_can_be_event ["words"] (spEv K) := ok_can_be_event T
    have G_need_alone : FnOk P wo K mg base (L2.CX P wo) 3 z.a_need_alone z.d_need_alone ["lines"] (spAlone K z.cNoText) := ok_need_alone T
    obtain ⟨tN, gNONE⟩ := T.g_NONE
    refine ⟨_, (pss_cons (ps_set (i := 1) sc_read_story.nd rfl (Or.inl rfl) (pe_call G_lines_of hr3 rfl T.g_lines_of T.k_lines_of T.b_lines_of .nil (passes_call (takes_of rfl rfl rfl rfl) (fun _ _ _ _ h => h)) (pa_cons (pv 0) pa_nil))) (pss_cons (ps_if (pt_cmpR (op_eqD hu64) (pe_ix ix_list (pv 1) pe_int (fun _ _ => rfl)) (pe_lst (pa_cons (pe_glob (v := .str "none") rfl gNONE ⟨_, rfl⟩) pa_nil)) (nomark _))
        (pss_cons (ps_expr (pe_call G_need_alone hr3 rfl T.g_need_alone T.k_need_alone T.b_need_alone .nil (passes_call (takes_of rfl rfl rfl rfl) (fun _ _ _ _ h => h)) (pa_cons (pv 1) pa_nil))) pss_no)
        pss_nil) (pss_cons (ps_for (passes_of rfl) rfl (pi_enum (by rfl) T.n_enumerate (pa_cons (pv 1) pa_nil)) (pg_tup rfl (pgs_cons (pg_name (i := 2) sc_read_story.nd rfl (Or.inl rfl)) (pgs_cons (pg_name (i := 3) sc_read_story.nd rfl (Or.inl rfl)) pgs_nil)))
        (pss_one (ps_if (pt_not (pt_val (pe_call G_can_be_event hr3 rfl T.g_can_be_event T.k_can_be_event T.b_can_be_event .nil pass0 (pa_cons (pv 3) pa_nil))))
          (pss_one (ps_raise rfl (takes_of rfl rfl rfl rfl) (pmk_oex T.xNoText.oc T.iNoText T.tNoText (ok_NoTexti T) hr2 T.b_NoTexti .nil pass0 rfl T.xNoText.g (pa_cons (pv 2) pa_nil))))
          pss_nil))) pss_no))), ?_⟩
    rcases h with ⟨t, n, rfl, hl, asc, hf, out⟩ | ⟨x, t, rfl, ty, kt, out⟩
    · refine ⟨_, rfl, .inl ⟨t, rfl, by omega, fun D us H1 s1 hD hD1 R1 => ?_⟩⟩
      have lu := plen R1
      obtain ⟨l0, lt0, el0⟩ : ∃ l0 lt0, lns t = l0 :: lt0 := by
        cases e : lns t with
        | nil => exact absurd e (spl_ne 10 t [])
        | cons w r => exact ⟨w, r, rfl⟩
      have ascL := asc_lns asc
      obtain ⟨v0, ev0, q0, rfl, _, hq0⟩ := pget (i := 0) R1 (by rw [el0] <;> rfl)
      rw [show ("none" : Str) = S wNone by decide +kernel]
      refine ⟨_, rfl, D, us, 0, .ref q0, rfl, rfl, SqL.of hD1, atI_nat (j := 0) ev0, by show 1 ≤ sizeLine; decide, fun c hc => ?_⟩
      have s2 := smN (o := .lst (txV [wNone])) (Same.refl H1) hc
      have hq2 := s2 _ _ hq0
      have hD2 := s2 _ _ hD1
      refine ⟨.list (wsD (wds l0)), .list (wsD [wNone]), .lst (SqL.of hq2) (dp_ws (wds l0)), .lst (SqL.of upd_same) (dp_ws [wNone]), shaped_ws (asc_wds (ascL l0 (by rw [el0]; simp))), shaped_ws (by unfold Asc; decide), _, rfl, ?_⟩
      rw [eqv_wsL]
      unfold refF at hf
      have hd0 : (lns t).headD [] = l0 := by rw [el0] <;> rfl
      rw [hd0] at hf
      by_cases c0 : wds l0 = [wNone]
      · simp only [if_pos c0] at hf
        by_cases c1 : 1 < (lns t).length
        · rw [if_pos c1] at hf
          cases hf
          exact iteB1 (decide_eq_true c0) ⟨_, rfl, D, us, rfl, SqL.of hD2, by omega, OutX.later out (s1.trans s2)⟩
        · rw [if_neg c1] at hf
          cases hf
      simp only [if_neg c0] at hf
      refine iteB0 (decide_eq_false c0) ?_
      have eu : upd H1 c (.lst [.str (S wNone)]) = upd H1 c (.lst (txV [wNone])) := rfl
      rw [eu]
      generalize upd H1 c (.lst (txV [wNone])) = H2 at s2 hD2
      refine ⟨_, rfl, D, us, rfl, SqL.of hD2, ?_⟩
      refine for_it (walk_enum (xs := us)) (fun i σ H' => Same H2 H' ∧ ∃ (x3 x4 : Option V), σ = [some (.str (S t)), some (.ref D), x3, x4] ∧ badAt evG ((lns t).drop i) i = some n)
        ⟨Same.refl _, none, none, rfl, hf⟩ (fun i σ H' _ h => SqL.of (h.1 _ _ hD2)) (fun i x σ H3 H4 lt h y => ?_) (fun σ H3 h => ?_)
      · obtain ⟨s3, x3, x4, rfl, hf⟩ := h
        obtain ⟨Tu, a1, v, rfl, hTu, rfl, e1, e2⟩ := y
        cases e1
        have li : i < (lns t).length := by omega
        have el : (lns t)[i]? = some (lns t)[i] := List.getElem?_eq_getElem li
        have ed : (lns t).drop i = (lns t)[i] :: (lns t).drop (i + 1) := List.drop_eq_getElem_cons li
        have hll := lns_mem (List.getElem_mem li)
        have asl := ascL _ (List.getElem_mem li)
        generalize (lns t)[i] = l at el ed hll asl
        obtain ⟨v', ev, q, rfl, _, hq⟩ := pget R1 el
        have e2 : us[i]? = some v := e2
        rw [ev] at e2
        cases e2
        rw [ed] at hf
        unfold badAt at hf
        refine ⟨Tu, [.int (i : Nat), .ref q], rfl, SqT.of upd_same, rfl, ?_⟩
        refine ⟨_, _, rfl, ?_⟩
        refine ⟨_, _, rfl, ?_⟩
        refine ⟨rfl, ?_⟩
        have s4 := smN (o := .tup [.int (i : Nat), .ref q]) s3 hTu
        have hq4 := s4 _ _ (s2 _ _ hq)
        have sF := (s1.trans s2).trans s4
        generalize upd H3 Tu (.tup [.int (i : Nat), .ref q]) = H5 at s4 hq4 sF
        obtain ⟨w, r, ew⟩ : ∃ w r, wds l = w :: r := by
          cases e : wds l with
          | nil => exact absurd e (spl_ne 32 l [])
          | cons w r => exact ⟨w, r, rfl⟩
        have lw := wds_len l
        have mw := fun x (hx : x ∈ wds l) => Nat.le_trans (wds_mem hx) hll
        have aw := asc_wds asl
        rw [ew] at hq4 lw mw aw
        have gv : evG l = evL (w :: r) := by unfold evG; rw [ew]
        rw [gv] at hf
        refine ⟨_, rfl, q, w :: r, rfl, SqL.of hq4, by simp, by omega, fun x hx => Nat.le_trans (mw x hx) (by omega), aw, fun H6 s6 => ⟨_, rfl, ?_⟩⟩
        cases er : evL (w :: r) with
        | true =>
          rw [er, if_pos rfl] at hf
          exact iteF ⟨s4.trans s6, _, _, rfl, hf⟩
        | false =>
          rw [er, if_neg Bool.false_ne_true] at hf
          cases hf
          refine iteT ⟨_, rfl, ?_⟩
          exact mk_tail (OutX.later out (sF.trans s6))
      · obtain ⟨s3, x3, x4, rfl, hf⟩ := h
        rw [lu, List.drop_length] at hf
        cases hf
    · exact ⟨_, rfl, .inr ⟨x, t, rfl, ty, kt, out⟩⟩
end
end Fb
set_option maxRecDepth 100000
set_option maxHeartbeats 4000000
namespace Fb
open PySem PySem.Spec PyProof.Rows L2
open SX (S)
/-! the written part: the law's own defs -/
structure Lz where
  a_Lpen : Addr
  d_Lpen : FuncData
  a_Ldraw : Addr
  d_Ldraw : FuncData
  a_Lpick : Addr
  d_Lpick : FuncData
  a_Lheard : Addr
  d_Lheard : FuncData
  a_Lrows : Addr
  d_Lrows : FuncData
  a_Levents : Addr
  d_Levents : FuncData
  a_Lodd_row : Addr
  d_Lodd_row : FuncData
  a_Lodd_event : Addr
  d_Lodd_event : FuncData
  a_Lbent : Addr
  d_Lbent : FuncData
  a_law : Addr
  d_law : FuncData
abbrev s_Lpen : Stmt := top 71
theorem sc_Lpen : FnScope ["_law_script"] ["_law_script"] (defScope s_Lpen) := ⟨rfl, rfl, rfl, by decide +kernel, rfl, by decide +kernel, by decide +kernel⟩
abbrev s_Ldraw : Stmt := top 72
theorem sc_Ldraw : FnScope ["_law_pen_here", "_law_many", "_law_digit", "_law_at", "_law_cell", "_law_great", "_law_mixed"] ["_law_pen_here", "_law_many"] (defScope s_Ldraw) := ⟨rfl, rfl, rfl, by decide +kernel, rfl, by decide +kernel, by decide +kernel⟩
abbrev s_Lpick : Stmt := top 73
theorem sc_Lpick : FnScope ["_law_pen_here", "_law_some"] ["_law_pen_here", "_law_some"] (defScope s_Lpick) := ⟨rfl, rfl, rfl, by decide +kernel, rfl, by decide +kernel, by decide +kernel⟩
abbrev s_Lheard : Stmt := top 74
theorem sc_Lheard : FnScope ["_law_ask", "_law_caught", "e"] ["_law_ask"] (defScope s_Lheard) := ⟨rfl, rfl, rfl, by decide +kernel, rfl, by decide +kernel, by decide +kernel⟩
abbrev s_Lrows : Stmt := top 75
theorem sc_Lrows : FnScope ["_law_pen_here", "_law_some", "_law_k"] ["_law_pen_here"] (defScope s_Lrows) := ⟨rfl, rfl, rfl, by decide +kernel, rfl, by decide +kernel, by decide +kernel⟩
abbrev s_Levents : Stmt := top 76
theorem sc_Levents : FnScope ["_law_pen_here", "_law_some", "_law_k"] ["_law_pen_here"] (defScope s_Levents) := ⟨rfl, rfl, rfl, by decide +kernel, rfl, by decide +kernel, by decide +kernel⟩
abbrev s_Lodd_row : Stmt := top 77
theorem sc_Lodd_row : FnScope ["_law_pen_here", "_law_some"] ["_law_pen_here"] (defScope s_Lodd_row) := ⟨rfl, rfl, rfl, by decide +kernel, rfl, by decide +kernel, by decide +kernel⟩
abbrev s_Lodd_event : Stmt := top 78
theorem sc_Lodd_event : FnScope ["_law_pen_here", "_law_some"] ["_law_pen_here"] (defScope s_Lodd_event) := ⟨rfl, rfl, rfl, by decide +kernel, rfl, by decide +kernel, by decide +kernel⟩
abbrev s_Lbent : Stmt := top 79
theorem sc_Lbent : FnScope ["_law_pen_here", "_law_lines", "_law_odd", "_law_at", "_law_way"] ["_law_pen_here", "_law_lines", "_law_odd"] (defScope s_Lbent) := ⟨rfl, rfl, rfl, by decide +kernel, rfl, by decide +kernel, by decide +kernel⟩
abbrev s_law : Stmt := top 80
theorem sc_law : FnScope ["_law_script", "_law_pen_here", "_law_turn", "_law_at", "_law_heard_here", "_law_lines", "_law_store", "_law_thing"] ["_law_script"] (defScope s_law) := ⟨rfl, rfl, rfl, by decide +kernel, rfl, by decide +kernel, by decide +kernel⟩
structure TxL (K : PySem.W.Frag) (mg : Str → Option Value) (z : Pz) (w : Lz) : Prop extends Txp K mg z where
  g_Lpen : mg "_law_pen" = some (.ref w.a_Lpen)
  k_Lpen : PySem.W.keepIn K (.ref w.a_Lpen) = true
  b_Lpen : Binds K w.d_Lpen ["_law_script"] []
  F_Lpen : Fun K "_law_pen" "_law_pen" s_Lpen w.a_Lpen w.d_Lpen
  g_Ldraw : mg "_law_draw" = some (.ref w.a_Ldraw)
  k_Ldraw : PySem.W.keepIn K (.ref w.a_Ldraw) = true
  b_Ldraw : Binds K w.d_Ldraw ["_law_pen_here", "_law_many"] []
  F_Ldraw : Fun K "_law_draw" "_law_draw" s_Ldraw w.a_Ldraw w.d_Ldraw
  g_Lpick : mg "_law_pick" = some (.ref w.a_Lpick)
  k_Lpick : PySem.W.keepIn K (.ref w.a_Lpick) = true
  b_Lpick : Binds K w.d_Lpick ["_law_pen_here", "_law_some"] []
  F_Lpick : Fun K "_law_pick" "_law_pick" s_Lpick w.a_Lpick w.d_Lpick
  g_Lheard : mg "_law_heard" = some (.ref w.a_Lheard)
  k_Lheard : PySem.W.keepIn K (.ref w.a_Lheard) = true
  b_Lheard : Binds K w.d_Lheard ["_law_ask"] []
  F_Lheard : Fun K "_law_heard" "_law_heard" s_Lheard w.a_Lheard w.d_Lheard
  g_Lrows : mg "_law_rows" = some (.ref w.a_Lrows)
  k_Lrows : PySem.W.keepIn K (.ref w.a_Lrows) = true
  b_Lrows : Binds K w.d_Lrows ["_law_pen_here"] []
  F_Lrows : Fun K "_law_rows" "_law_rows" s_Lrows w.a_Lrows w.d_Lrows
  g_Levents : mg "_law_events" = some (.ref w.a_Levents)
  k_Levents : PySem.W.keepIn K (.ref w.a_Levents) = true
  b_Levents : Binds K w.d_Levents ["_law_pen_here"] []
  F_Levents : Fun K "_law_events" "_law_events" s_Levents w.a_Levents w.d_Levents
  g_Lodd_row : mg "_law_odd_row" = some (.ref w.a_Lodd_row)
  k_Lodd_row : PySem.W.keepIn K (.ref w.a_Lodd_row) = true
  b_Lodd_row : Binds K w.d_Lodd_row ["_law_pen_here"] []
  F_Lodd_row : Fun K "_law_odd_row" "_law_odd_row" s_Lodd_row w.a_Lodd_row w.d_Lodd_row
  g_Lodd_event : mg "_law_odd_event" = some (.ref w.a_Lodd_event)
  k_Lodd_event : PySem.W.keepIn K (.ref w.a_Lodd_event) = true
  b_Lodd_event : Binds K w.d_Lodd_event ["_law_pen_here"] []
  F_Lodd_event : Fun K "_law_odd_event" "_law_odd_event" s_Lodd_event w.a_Lodd_event w.d_Lodd_event
  g_Lbent : mg "_law_bent" = some (.ref w.a_Lbent)
  k_Lbent : PySem.W.keepIn K (.ref w.a_Lbent) = true
  b_Lbent : Binds K w.d_Lbent ["_law_pen_here", "_law_lines", "_law_odd"] []
  F_Lbent : Fun K "_law_bent" "_law_bent" s_Lbent w.a_Lbent w.d_Lbent
/-! the pen that is a list -/
def PenN (H : Hp) (p l : Addr) (n : Nat) : Prop := ∃ (cs : List Int) (a r : Int), H p = some (.lst [.ref l, .int a, .int r]) ∧ H l = some (.lst (cs.map V.int)) ∧ 0 ≤ a ∧ a ≤ n ∧ 0 ≤ r
theorem PenN.mono {H : Hp} {p l : Addr} {n m : Nat} (h : PenN H p l n) (le : n ≤ m) : PenN H p l m := by
  obtain ⟨cs, a, r, h1, h2, h3, h4, h5⟩ := h
  exact ⟨cs, a, r, h1, h2, h3, by omega, h5⟩
theorem PenN.same {H H' : Hp} {p l : Addr} {n : Nat} (h : PenN H p l n) (s : Same H H') : PenN H' p l n := by
  obtain ⟨cs, a, r, h1, h2, h3⟩ := h
  exact ⟨cs, a, r, s _ _ h1, s _ _ h2, h3⟩
theorem PenN.nep {H : Hp} {p l q : Addr} {n : Nat} (h : PenN H p l n) (hq : H q = none) : p ≠ q := by
  obtain ⟨cs, a, r, h1, _⟩ := h
  exact ne_of_none h1 hq
theorem PenN.nel {H : Hp} {p l q : Addr} {n : Nat} (h : PenN H p l n) (hq : H q = none) : l ≠ q := by
  obtain ⟨cs, a, r, h1, h2, _⟩ := h
  exact ne_of_none h2 hq
theorem PenN.put {H : Hp} {p l q : Addr} {n : Nat} {o : HO} (h : PenN H p l n) (n1 : p ≠ q) (n2 : l ≠ q) : PenN (upd H q o) p l n := by
  obtain ⟨cs, a, r, h1, h2, h3⟩ := h
  exact ⟨cs, a, r, by rw [upd_ne n1]; exact h1, by rw [upd_ne n2]; exact h2, h3⟩
theorem PenN.new {H : Hp} {p l q : Addr} {n : Nat} {o : HO} (h : PenN H p l n) (hq : H q = none) : PenN (upd H q o) p l n := h.put (h.nep hq) (h.nel hq)
theorem PenN.ext {H H' : Hp} {p l : Addr} {n : Nat} (e : LamX.ExtN H H') (h : PenN H p l n) : PenN H' p l n := by
  obtain ⟨cs, a, r, h1, h2, h3⟩ := h
  exact ⟨cs, a, r, e _ _ h1 (fun ps q => nomatch q), e _ _ h2 (fun ps q => nomatch q), h3⟩
def spPenN (K : PySem.W.Frag) : Sp := fun vs H Q _ => ∃ (a : Addr) (ns : List Int), vs = [.ref a] ∧ SqL K H a (ns.map V.int) ∧ ns.length ≤ 63 ∧
  ∀ (p l : Addr) (H' : Hp), H p = none → H l = none → Same H H' → PenN H' p l 0 → Q (.ref p) H'
def spDraw : Sp := fun vs H Q _ => ∃ (p l : Addr) (m : Int) (n : Nat), vs = [.ref p, .int m] ∧ 0 < m ∧ m < 1073741824 ∧ n < 100000 ∧ PenN H p l n ∧
  ∀ (d : Int) (H' : Hp), 0 ≤ d → d < m → PenN H' p l (n + 1) → But p H H' → Q (.int d) H'
section
variable {P : Program} {wo : World} {K : PySem.W.Frag} {mg : Str → Option Value} {base : Heap} {z : Pz} {w : Lz}
theorem ok_Lpen (T : TxL K mg z w) : FnOk P wo K mg base CX0 1 w.a_Lpen w.d_Lpen ["_law_script"] (spPenN K) := by
  refine T.F_Lpen.ok sc_Lpen (fun vs H Q E h => ?_) (fun cdv A outer s H vs Q E hr h => ?_)
  · obtain ⟨a, ns, rfl, _⟩ := h
    rfl
  · obtain ⟨a, ns, rfl, hS, hl, ret⟩ := h
    refine ⟨_, (pss_one (ps_ret (pe_lst (pa_cons (pe_callTy call_list_of (by rfl) T.n_list (by decide +kernel) (pa_cons (pe_slice sl_list (pv 0) po_none (po_some pe_int)) pa_nil)) (pa_cons pe_int (pa_cons pe_int pa_nil)))))), ?_⟩
    obtain ⟨ms, hms, hml⟩ := cut_map ns none (some 63)
    refine ⟨_, rfl, 63, rfl, a, _, rfl, hS, fun q hq => ?_⟩
    rw [hms]
    have s1 := smN (o := .lst (ms.map V.int)) (Same.refl H) hq
    refine ⟨q, _, rfl, .inl (SqL.of upd_same), fun l hl => ?_⟩
    have s2 := smN (o := .lst (ms.map V.int)) s1 hl
    refine ⟨by show 3 ≤ sizeLine; decide, fun p hp => ?_⟩
    have s3 := smN (o := .lst [.ref l, .int 0, .int 0]) s2 hp
    exact ret p l _ (s2.free hp) (s1.free hl) s3 ⟨ms, 0, 0, upd_same, smN (Same.refl _) hp _ _ upd_same, by decide, by decide, by decide⟩
theorem ok_Ldraw (T : TxL K mg z w) : FnOk P wo K mg base CX0 1 w.a_Ldraw w.d_Ldraw ["_law_pen_here", "_law_many"] spDraw := by
  refine T.F_Ldraw.ok sc_Ldraw (fun vs H Q E h => ?_) (fun cdv A outer s H vs Q E hr h => ?_)
  · obtain ⟨p, l, m, n, rfl, _⟩ := h
    rfl
  · obtain ⟨p, l, m, n, rfl, hm0, hm1, hn, ⟨cs, a, r, hp, hl, ha0, ha1, hr0⟩, k⟩ := h
    have hu64 : (A.deeper (envOfC "_law_draw" (defScope s_Ldraw) s.heap.objs.size w.a_Ldraw cdv)).units + 64 < cLine := hr.units
    have npl : l ≠ p := ne_of hl hp (by intro z; injection z with z; have := congrArg List.length z; simp at this; have e := z; cases cs with | nil => cases e | cons c cs => cases e)
    refine ⟨_, (pss_cons (ps_if (pt_cmpR op_gt (pe_ix ix_list (pv 0) pe_int (fun _ _ => rfl)) pe_int (nomark _))
        (pss_cons (ps_set (i := 2) sc_Ldraw.nd rfl (Or.inl rfl) (pe_op op_mod (pe_callTy call_int1 (by rfl) T.n_int (by decide +kernel) (pa_cons (pe_ix ix_list (pv 0) pe_int (fun _ _ => rfl)) pa_nil)) (pv 1)))
        (pss_cons (ps_asg (pe_op op_fdiv (pe_callTy call_int1 (by rfl) T.n_int (by decide +kernel) (pa_cons (pe_ix ix_list (pv 0) pe_int (fun _ _ => rfl)) pa_nil)) (pv 1)) (pg_sub (pv 0) pe_int set_list))
        (pss_one (ps_ret (pv 2)))))
        pss_nil)
      (pss_cons (ps_set (i := 3) sc_Ldraw.nd rfl (Or.inl rfl) (pe_ix ix_list (pv 0) pe_int (fun _ _ => rfl)))
      (pss_cons (ps_asg (pe_op op_add (pv 3) pe_int) (pg_sub (pv 0) pe_int set_list))
      (pss_cons (ps_set (i := 4) sc_Ldraw.nd rfl (Or.inl rfl) (pe_op op_add (pe_op op_mul pe_int (pv 3)) pe_int))
      (C8.pss_cut (ps_if (pt_cmpR (op_neD hu64) (pe_ix ix_list (pv 0) pe_int (fun _ _ => rfl)) (pe_lst pa_nil) (nomark _))
        (pss_one (ps_set (i := 4) sc_Ldraw.nd rfl (Or.inl rfl) (pe_ix ix_list (pe_ix ix_list (pv 0) pe_int (fun _ _ => rfl)) (pe_op op_mod (pe_callTy call_int1 (by rfl) T.n_int (by decide +kernel) (pa_cons (pv 3) pa_nil)) (pe_callB call_len_seq (by rfl) T.n_len (by decide +kernel) (pa_cons (pe_ix ix_list (pv 0) pe_int (fun _ _ => rfl)) pa_nil))) (fun _ _ => rfl))))
        pss_nil)
      (C8.pss_cut (ps_if (PW.pt (pw_and (pt_cmpR op_lt (pv 3) (pe_callB call_len_seq (by rfl) T.n_len (by decide +kernel) (pa_cons (pe_ix ix_list (pv 0) pe_int (fun _ _ => rfl)) pa_nil)) (nomark _)) (pw_and1 (pt_cmpR op_ge (pe_callB call_abs (by rfl) T.n_abs (by decide +kernel) (pa_cons (pv 4) pa_nil)) (pe_op op_pow pe_int pe_int) (nomark _)))))
        (pss_cons (ps_set (i := 5) sc_Ldraw.nd rfl (Or.inl rfl) (pe_op op_add (pe_op op_mul pe_int (pe_op op_sub (pe_callB call_abs (by rfl) T.n_abs (by decide +kernel) (pa_cons (pv 4) pa_nil)) (pe_op op_pow pe_int pe_int))) (pe_callTy call_int1 (by rfl) T.n_int (by decide +kernel) (pa_cons (pe_cmpR op_lt (pv 4) pe_int (nomark _)) pa_nil))))
        (pss_cons (ps_asg (pe_op op_fdiv (pe_callTy call_int1 (by rfl) T.n_int (by decide +kernel) (pa_cons (pv 5) pa_nil)) (pv 1)) (pg_sub (pv 0) pe_int set_list))
        (pss_one (ps_ret (pe_op op_mod (pe_callTy call_int1 (by rfl) T.n_int (by decide +kernel) (pa_cons (pv 5) pa_nil)) (pv 1))))))
        pss_nil)
      (pss_cons (ps_set (i := 6) sc_Ldraw.nd rfl (Or.inl rfl) (pe_op op_mod (pe_callTy call_int1 (by rfl) T.n_int (by decide +kernel) (pa_cons (pe_op op_pow (pe_op op_add (pe_op op_add (pe_op op_mod (pe_callTy call_int1 (by rfl) T.n_int (by decide +kernel) (pa_cons (pv 4) pa_nil)) pe_int) (pe_op op_mul pe_int (pv 3))) pe_int) pe_int) pa_nil)) pe_int))
      (pss_cons (ps_set (i := 6) sc_Ldraw.nd rfl (Or.inl rfl) (pe_op op_mod (pe_callTy call_int1 (by rfl) T.n_int (by decide +kernel) (pa_cons (pe_op op_pow (pe_op op_add (pe_op op_add (pe_op op_mul (pv 6) (pe_op op_add (pe_op op_mul pe_int (pv 3)) pe_int)) (pe_op op_mul (pe_op op_mul pe_int (pv 3)) (pv 3))) pe_int) pe_int) pa_nil)) pe_int))
      (pss_one (ps_ret (pe_op op_mod (pe_callTy call_int1 (by rfl) T.n_int (by decide +kernel) (pa_cons (pe_op op_fdiv (pv 6) pe_int) pa_nil)) (pv 1)))))))))))), ?_⟩
    -- if pen[2] > 0
    refine ⟨_, rfl, p, _, 2, .int r, rfl, rfl, SqL.of hp, rfl, _, _, rfl, rfl, _, rfl, ?_⟩
    refine ite2 (fun h1 => ?_) (fun h1 => ?_)
    · refine ⟨_, rfl, p, _, 2, .int r, rfl, rfl, SqL.of hp, rfl, .inl ⟨_, rfl, ?_⟩⟩
      refine ⟨_, rfl, _, _, rfl, rfl, hm0, ?_⟩
      refine ⟨_, rfl, p, _, 2, .int r, rfl, rfl, SqL.of hp, rfl, .inl ⟨_, rfl, ?_⟩⟩
      refine ⟨_, rfl, _, _, rfl, rfl, ⟨hm0, hm1⟩, ?_⟩
      refine ⟨_, rfl, p, _, 2, 2, rfl, rfl, hp, rfl, ?_⟩
      refine ⟨_, rfl, ?_⟩
      exact k _ _ (Int.emod_nonneg _ (by omega)) (Int.emod_lt_of_pos _ hm0) ⟨cs, a, r / m, upd_same, by rw [upd_ne npl]; exact hl, ha0, by omega, Int.ediv_nonneg hr0 (by omega)⟩ (fun c o hc e => by rw [upd_ne hc]; exact e)
    · refine ⟨_, rfl, p, _, 1, .int a, rfl, rfl, SqL.of hp, rfl, ?_⟩
      refine ⟨_, rfl, _, _, rfl, rfl, _, rfl, p, _, 1, 1, rfl, rfl, hp, rfl, ?_⟩
      refine ⟨_, rfl, _, _, rfl, rfl, .inl ⟨by decide, by decide⟩, _, _, rfl, rfl, ?_⟩
      have b1 : But p H (upd H p (.lst [.ref l, .int (a + 1), .int r])) := fun c o hc e => by rw [upd_ne hc]; exact e
      have hp1 : (upd H p (.lst [.ref l, .int (a + 1), .int r])) p = some (.lst [.ref l, .int (a + 1), .int r]) := upd_same
      have hl1 : (upd H p (.lst [.ref l, .int (a + 1), .int r])) l = some (.lst (cs.map V.int)) := by rw [upd_ne npl]; exact hl
      refine ⟨fun σ H' => But p H H' ∧ H' p = some (.lst [.ref l, .int (a + 1), .int r]) ∧ H' l = some (.lst (cs.map V.int)) ∧ ∃ c : Int, σ = [some (.ref p), some (.int m), none, some (.int a), some (.int c), none, none], ?_, ?_⟩
      · refine ⟨_, rfl, p, _, 0, .ref l, rfl, rfl, SqL.of hp1, rfl, by show 0 ≤ sizeLine; decide, fun q hq => ?_⟩
        have s2 := smN (o := .lst []) (Same.refl _) hq
        refine ⟨.list (intD cs), .list [], .lst (SqL.of (s2 _ _ hl1)) (dp_ints _), .lst (SqL.of upd_same) .nil, shaped_lst (lay_ints _), by decide +kernel, _, rfl, ?_⟩
        rw [eqv_ints_nil]
        have b2 := b1.trans (But.of s2)
        have hp2 := s2 _ _ hp1
        have hl2 := s2 _ _ hl1
        by_cases c0 : cs = []
        · rw [decide_eq_true c0]
          exact iteF ⟨b2, hp2, hl2, _, rfl⟩
        · rw [decide_eq_false c0]
          refine iteT ?_
          have ln : 0 < cs.length := List.length_pos_iff.mpr c0
          refine ⟨_, rfl, p, _, 0, .ref l, rfl, rfl, SqL.of hp2, rfl, ?_⟩
          refine ⟨_, rfl, .inl ⟨_, rfl, ?_⟩⟩
          refine ⟨_, rfl, p, _, 0, .ref l, rfl, rfl, SqL.of hp2, rfl, ?_⟩
          refine ⟨l, _, rfl, .inl (SqL.of hl2), ?_⟩
          rw [List.length_map]
          refine ⟨_, _, rfl, rfl, by omega, ?_⟩
          have e1 := Int.emod_nonneg a (show ((cs.length : Nat) : Int) ≠ 0 by omega)
          have e2 := Int.emod_lt_of_pos a (show (0 : Int) < ((cs.length : Nat) : Int) by omega)
          obtain ⟨j, ej⟩ : ∃ j : Nat, a % ((cs.length : Nat) : Int) = (j : Int) := ⟨(a % ((cs.length : Nat) : Int)).toNat, by omega⟩
          rw [ej] at e1 e2
          refine ⟨l, _, (j : Int), .int (cs[j]'(by omega)), rfl, by rw [← ej], SqL.of hl2, atI_nat (by rw [List.getElem?_map, List.getElem?_eq_getElem (show j < cs.length by omega)] <;> rfl), ?_⟩
          exact ⟨b2, hp2, hl2, _, rfl⟩
      · rintro σ H2 ⟨b2, hp2, hl2, c, rfl⟩
        refine ⟨fun σ H' => But p H H' ∧ H' p = some (.lst [.ref l, .int (a + 1), .int r]) ∧ H' l = some (.lst (cs.map V.int)) ∧ ∃ c : Int, σ = [some (.ref p), some (.int m), none, some (.int a), some (.int c), none, none], ?_, ?_⟩
        · refine ⟨_, rfl, _, rfl, p, _, 0, .ref l, rfl, rfl, SqL.of hp2, rfl, ?_⟩
          refine ⟨l, _, rfl, .inl (SqL.of hl2), _, _, rfl, rfl, _, rfl, ?_⟩
          refine ite2 (fun h2 => ?_) (fun h2 => ?_)
          · refine ⟨_, rfl, _, rfl, _, _, rfl, rfl, ⟨by decide, by decide, by decide⟩, _, _, rfl, rfl, _, rfl, ?_⟩
            refine ite2 (fun h3 => ?_) (fun h3 => ?_)
            · have h4 := of_decide_eq_true h3
              have e18 : (10 : Int) ^ ((18 : Int).toNat) = 1000000000000000000 := by decide
              rw [e18] at h4
              have hg : 0 ≤ 2 * ((if c < 0 then -c else c) - (10 : Int) ^ ((18 : Int).toNat)) + (if decide (c < 0) = true then (1 : Int) else 0) := by
                rw [e18]
                split <;> split <;> split at h4 <;> omega
              refine ⟨_, rfl, _, rfl, _, _, rfl, rfl, ⟨by decide, by decide, by decide⟩, _, _, rfl, rfl, _, _, rfl, rfl, .inl ⟨by decide, by decide⟩, ?_⟩
              refine ⟨_, rfl, _, _, rfl, rfl, .inr ⟨_, rfl, ?_⟩⟩
              refine ⟨_, _, rfl, rfl, ?_⟩
              refine ⟨_, rfl, .inl ⟨_, rfl, ?_⟩⟩
              refine ⟨_, rfl, _, _, rfl, rfl, ⟨hm0, hm1⟩, ?_⟩
              refine ⟨_, rfl, p, _, 2, 2, rfl, rfl, hp2, rfl, ?_⟩
              refine ⟨_, rfl, .inl ⟨_, rfl, ?_⟩⟩
              refine ⟨_, rfl, _, _, rfl, rfl, hm0, ?_⟩
              exact k _ _ (Int.emod_nonneg _ (by omega)) (Int.emod_lt_of_pos _ hm0) ⟨cs, a + 1, _, upd_same, by rw [upd_ne npl]; exact hl2, by omega, by omega, Int.ediv_nonneg hg (by omega)⟩ (fun c o hc e => by rw [upd_ne hc]; exact b2 c o hc e)
            · exact ⟨b2, hp2, hl2, _, rfl⟩
          · exact iteF ⟨b2, hp2, hl2, _, rfl⟩
        · rintro σ H3 ⟨b3, hp3, hl3, c, rfl⟩
          refine ⟨_, rfl, .inl ⟨_, rfl, ?_⟩⟩
          refine ⟨_, _, rfl, rfl, (show (0 : Int) < 2147483549 by decide), ?_⟩
          refine ⟨_, rfl, _, _, rfl, rfl, .inl ⟨by decide, by decide⟩, ?_⟩
          refine ⟨_, _, rfl, rfl, ?_⟩
          refine ⟨_, _, rfl, rfl, ?_⟩
          have e1 := Int.emod_nonneg c (show (2147483549 : Int) ≠ 0 by decide)
          have e2 := Int.emod_lt_of_pos c (show (0 : Int) < 2147483549 by decide)
          refine ⟨_, _, rfl, rfl, ⟨by decide, by decide, ?_⟩, ?_⟩
          · omega
          refine .inl ⟨_, rfl, ?_⟩
          refine ⟨_, _, rfl, rfl, (show (0 : Int) < 2147483629 by decide), ?_⟩
          generalize hx : (c % 2147483549 + 72167 * a + 243) ^ (5 : Int).toNat % 2147483629 = x
          have e3 : 0 ≤ x := by rw [← hx]; exact Int.emod_nonneg _ (by decide)
          have e4 : x < 2147483629 := by rw [← hx]; exact Int.emod_lt_of_pos _ (by decide)
          refine ⟨_, rfl, ?_⟩
          refine ⟨_, rfl, _, _, rfl, rfl, .inl ⟨by decide, by decide⟩, _, _, rfl, rfl, _, _, rfl, rfl, .inl ⟨by omega, by omega⟩, ?_⟩
          refine ⟨_, rfl, _, _, rfl, rfl, .inl ⟨by decide, by decide⟩, _, rfl, _, _, rfl, rfl, .inr ⟨by omega, by omega⟩, _, _, rfl, rfl, _, _, rfl, rfl, ?_⟩
          have f1 : 0 ≤ x * (2 * a + 341) := Int.mul_nonneg e3 (by omega)
          have f2 : x * (2 * a + 341) ≤ 2147483629 * 300000 := Int.mul_le_mul (by omega) (by omega) (by omega) (by decide)
          have e5 : 0 ≤ 83227 * a * a := Int.mul_nonneg (by omega) ha0
          have e6 : 83227 * a * a ≤ 83227 * 100000 * 100000 := Int.mul_le_mul (by omega) (by omega) ha0 (by decide)
          refine ⟨_, _, rfl, rfl, ⟨by decide, by decide, ?_⟩, ?_⟩
          · show Int.natAbs ((c % 2147483549 + 72167 * a + 243) ^ (5 : Int).toNat % 2147483629 * (2 * a + 341) + 83227 * a * a + 11) < 2 ^ 64
            rw [hx]
            generalize 83227 * a * a = y at *
            generalize x * (2 * a + 341) = y2 at *
            omega
          refine .inl ⟨_, rfl, ?_⟩
          refine ⟨_, _, rfl, rfl, (show (0 : Int) < 2147483587 by decide), ?_⟩
          refine ⟨_, rfl, _, _, rfl, rfl, ⟨by decide, by decide⟩, .inl ⟨_, rfl, ?_⟩⟩
          refine ⟨_, rfl, _, _, rfl, rfl, hm0, ?_⟩
          exact k _ _ (Int.emod_nonneg _ (by omega)) (Int.emod_lt_of_pos _ hm0) ⟨cs, a + 1, r, hp3, hl3, by omega, by omega, hr0⟩ b3
end
end Fb
set_option maxRecDepth 100000
set_option maxHeartbeats 4000000
namespace Fb
open PySem PySem.Spec PyProof.Rows L2
open SX (S)
theorem stepL {H : Hp} {a : Addr} {xs : List V} (h : H a = none) : Same H (upd H a (.lst xs)) ∧ (upd H a (.lst xs)) a = some (.lst xs) := ⟨smN (Same.refl H) h, upd_same⟩
theorem PenN.ne_tup {H : Hp} {p l c : Addr} {n : Nat} {xs : List V} (h : PenN H p l n) (e : H c = some (.tup xs)) : c ≠ p := by
  obtain ⟨cs, a, r, h1, _⟩ := h
  exact ne_of e h1 (fun z => nomatch z)
def spPick (K : PySem.W.Frag) : Sp := fun vs H Q _ => ∃ (p l q : Addr) (n : Nat) (xs : List V), vs = [.ref p, .ref q] ∧ H q = some (.lst xs) ∧ q ≠ p ∧ 1 ≤ xs.length ∧ xs.length ≤ 1000 ∧ n < 90000 ∧ PenN H p l n ∧
  ∀ (j : Nat) v H', xs[j]? = some v → But p H H' → PenN H' p l (n + 1) → Q v H'
def spPickS : Sp := fun vs H Q _ => ∃ (p l : Addr) (n : Nat) (t : List Nat), vs = [.ref p, .str (S t)] ∧ 1 ≤ t.length ∧ t.length ≤ 1000 ∧ n < 90000 ∧ PenN H p l n ∧
  ∀ c H', c ∈ t → But p H H' → PenN H' p l (n + 1) → Q (.str (S [c])) H'
theorem S_of (s : Str) : s = S s.cps.toList := by
  unfold S
  cases s
  rfl
def rowsL : List Str := ["row 11 - fall 0 1", "row 0* b erase 0", "row 1 a fall 0", "row 1.1 x-9 erase 1", "row ** - fall 100", "row . a fall 0"]
def evsL : List Str := ["done", "ask b", "cut 10", "cut 1.0", "ask long-name-12", "cut .", "ask -", "ask 9"]
def oddRL : List Str := ["", " ", "row", "row 1", "row 1 -", "row 1 - fall", "row 1 - fall x", "row 1 - fall 01", "row 1 - erase", "row 1 - fall 1000", "row 1 - erase 0 1", "row 1 - rise 0", "row 1 a b fall 0", "row 1  fall 0", "row 1 A fall 0", "row x - fall 0", " row 1 - fall 0", "row 1 - fall 0 ", "row 1 - fall 0  1", "row  - fall 0", "Row 1 - fall 0", "done", "ask a", "rule 1 a", "row 1 - fall -1", "row 1 - fall 0,1", "row 1 - erase 00"]
def oddEL : List Str := ["", " ", "done now", "done ", " done", "ask", "ask a b", "ask A", "ask  a", "ask a_", "cut", "cut 2", "cut 1*", "cut 1 0", "Done", "cut 1,0", "row 1 - fall 0", "cut a", "ask 1.0", "do", "done\tdone"]
def plainT (t : List Nat) : Bool := decide (10 ∉ t) && decide (t.length ≤ 100)
def plainA (t : List Nat) : Bool := plainT t && t.all fun c => decide (c < 128)
def goodT (g : List Nat → Bool) (t : List Nat) : Bool := plainA t && g t && decide (wds t ≠ [wNone])
def oddT (g : List Nat → Bool) (t : List Nat) : Bool := plainA t && !g t && decide (wds t ≠ [wNone])
theorem rows_tab : rowsL.all (fun s => goodT rowG s.cps.toList) = true := by decide +kernel
theorem evs_tab : evsL.all (fun s => goodT evG s.cps.toList) = true := by decide +kernel
theorem oddR_tab : oddRL.all (fun s => oddT rowG s.cps.toList) = true := by decide +kernel
theorem oddE_tab : oddEL.all (fun s => oddT evG s.cps.toList) = true := by decide +kernel
theorem none_tab : plainA wNone = true ∧ rowG wNone = false ∧ evG wNone = false ∧ wds wNone = [wNone] := by decide +kernel
def spOddL (g : List Nat → Bool) : Sp := fun vs H Q _ => ∃ (p l : Addr) (n : Nat), vs = [.ref p] ∧ n < 80000 ∧ PenN H p l n ∧ ∀ t H', oddT g t = true → But p H H' → PenN H' p l (n + 1) → Q (.str (S t)) H'
def spGoodL (g : List Nat → Bool) : Sp := fun vs H Q _ => ∃ (p l : Addr) (n : Nat), vs = [.ref p] ∧ n < 80000 ∧ PenN H p l n ∧ ∀ D L H', D ≠ p → H' D = some (.lst (txV L)) → L.length ≤ 6 → (∀ t ∈ L, goodT g t = true) → But p H H' → PenN H' p l (n + 8) → Q (.ref D) H'
theorem badAt_good {g : List Nat → Bool} {X : List (List Nat)} : ∀ {L : List (List Nat)} {n : Nat}, (∀ l ∈ L, g l = true) → badAt g (L ++ X) n = badAt g X (n + L.length)
  | [], _, _ => rfl
  | l :: L, n, h => by
    have e : badAt g (l :: L ++ X) n = if g l = true then badAt g (L ++ X) (n + 1) else some n := rfl
    rw [e, if_pos (h l List.mem_cons_self), badAt_good fun x hx => h x (List.mem_cons_of_mem _ hx), List.length_cons]
    congr 1
    omega
theorem ref_none {g : List Nat → Bool} (X : List (List Nat)) : refF g ([wNone] ++ X ++ [wNone]) = some 1 := by
  unfold refF
  have e : ([wNone] ++ X ++ [wNone]).headD [] = wNone := rfl
  rw [e, if_pos none_tab.2.2.2, if_pos (by simp)]
theorem good_of {g : List Nat → Bool} {t : List Nat} (h : goodT g t = true) : plainA t = true ∧ g t = true ∧ wds t ≠ [wNone] := by
  unfold goodT at h
  rw [Bool.and_eq_true, Bool.and_eq_true, decide_eq_true_eq] at h
  exact ⟨h.1.1, h.1.2, h.2⟩
theorem odd_of {g : List Nat → Bool} {t : List Nat} (h : oddT g t = true) : plainA t = true ∧ g t = false ∧ wds t ≠ [wNone] := by
  unfold oddT at h
  rw [Bool.and_eq_true, Bool.and_eq_true, decide_eq_true_eq] at h
  exact ⟨h.1.1, by simpa using h.1.2, h.2⟩
theorem ref_bad {g : List Nat → Bool} {L Y : List (List Nat)} {a : Nat} {t : List Nat} (hL : ∀ l ∈ L, goodT g l = true) (ha : a ≤ L.length) (ht : g t = false) (h0 : a = 0 → wds t ≠ [wNone]) : refF g (L.take a ++ [t] ++ Y) = some a := by
  unfold refF
  have hd : wds ((L.take a ++ [t] ++ Y).headD []) ≠ [wNone] := by
    cases a with
    | zero => exact h0 rfl
    | succ k =>
      cases L with
      | nil => simp at ha
      | cons x L => exact (good_of (hL x List.mem_cons_self)).2.2
  rw [if_neg hd, List.append_assoc, badAt_good fun l hl => (good_of (hL l (List.mem_of_mem_take hl))).2.1]
  have e : badAt g ([t] ++ Y) (0 + (L.take a).length) = if g t = true then badAt g Y (0 + (L.take a).length + 1) else some (0 + (L.take a).length) := rfl
  rw [e, ht, if_neg Bool.false_ne_true, List.length_take]
  congr 1
  omega
def LsG (p : Addr) (Ok : List (List Nat) → Prop) (H : Hp) (vs : List V) : Prop := ∀ v ∈ vs, ∃ q L, v = .ref q ∧ q ≠ p ∧ H q = some (.lst (txV L)) ∧ Ok L
theorem ls_add {p q : Addr} {Ok : List (List Nat) → Prop} {H : Hp} {vs : List V} {L : List (List Nat)} (h : LsG p Ok H vs) (hq : H q = none) (n : q ≠ p) (k : Ok L) : LsG p Ok (upd H q (.lst (txV L))) (vs ++ [.ref q]) := fun v hv => by
  rcases List.mem_append.mp hv with e | e
  · obtain ⟨q', s', h1, h2, h3, h4⟩ := h v e
    exact ⟨q', s', h1, h2, smN (Same.refl _) hq _ _ h3, h4⟩
  · exact ⟨q, L, List.mem_singleton.mp e, n, upd_same, k⟩
theorem ls_new {p q : Addr} {Ok : List (List Nat) → Prop} {H : Hp} {vs : List V} {o : HO} (h : LsG p Ok H vs) (hq : H q = none) : LsG p Ok (upd H q o) vs := fun v hv => by
  obtain ⟨q', s', h1, h2, h3, h4⟩ := h v hv
  exact ⟨q', s', h1, h2, smN (Same.refl _) hq _ _ h3, h4⟩
theorem cutV_to (L : List (List Nat)) (a : Nat) : cutV (txV L) none (some (a : Int)) = txV (L.take a) := by
  unfold cutV
  have i0 : HT.sIx (txV L).length 0 none = 0 := rfl
  rw [i0, HT.sIx_nat, txV_len]
  show ((txV L).drop 0).take (min a L.length - 0) = _
  rw [List.drop_zero, Nat.sub_zero]
  show List.take _ ((L.map S).map V.str) = ((L.take a).map S).map V.str
  rw [List.map_take, List.map_take]
  by_cases h : a ≤ L.length
  · rw [Nat.min_eq_left h]
  · rw [Nat.min_eq_right (by omega), List.take_of_length_le (by simp), List.take_of_length_le (by simp; omega)]
def spBentG : Sp := fun vs H Q _ => ∃ (p l q : Addr) (n : Nat) (g : List Nat → Bool) (L : List (List Nat)) (t : List Nat), vs = [.ref p, .ref q, .str (S t)] ∧ n < 70000 ∧ PenN H p l n ∧ q ≠ p ∧ H q = some (.lst (txV L)) ∧ L.length ≤ 6 ∧
  (∀ x ∈ L, goodT g x = true) ∧ oddT g t = true ∧ g wNone = false ∧
  ∀ u D B (a : Nat) H', H' u = some (.tup [.ref D, .int (a : Nat)]) → D ≠ p → H' D = some (.lst (txV B)) → B ≠ [] → B.length ≤ 20 → (∀ x ∈ B, plainA x = true) → refF g B = some a → But p H H' → PenN H' p l (n + 4) → Q (.ref u) H'
section
variable {P : Program} {wo : World} {K : PySem.W.Frag} {mg : Str → Option Value} {base : Heap} {z : Pz} {w : Lz}
theorem ok_Lpick (T : TxL K mg z w) : FnOk P wo K mg base CX0 2 w.a_Lpick w.d_Lpick ["_law_pen_here", "_law_some"] (spPick K) := by
  refine T.F_Lpick.ok sc_Lpick (fun vs H Q E h => ?_) (fun cdv A outer s H vs Q E hr h => ?_)
  · obtain ⟨p, l, q, n, xs, rfl, _⟩ := h
    rfl
  · obtain ⟨p, l, q, n, xs, rfl, hq, nqp, h1, h2, hn, hP, ret⟩ := h
    have hr1 : Room 1 _ := hr
    have G_Ldraw : FnOk P wo K mg base CX0 1 w.a_Ldraw w.d_Ldraw ["_law_pen_here", "_law_many"] spDraw := ok_Ldraw T
    refine ⟨_, (pss_one (ps_ret (pe_ix ix_list (pv 1) (pe_call G_Ldraw hr1 rfl T.g_Ldraw T.k_Ldraw T.b_Ldraw .nil pass0 (pa_cons (pv 0) (pa_cons (pe_callB call_len_seq (by rfl) T.n_len (by decide +kernel) (pa_cons (pv 1) pa_nil)) pa_nil))) (fun _ _ => rfl)))), ?_⟩
    refine ⟨_, rfl, _, rfl, _, rfl, q, _, rfl, .inl (SqL.of hq), ?_⟩
    refine ⟨p, l, _, n, rfl, by omega, by omega, by omega, hP, fun d H1 hd0 hd1 P1 B1 => ?_⟩
    obtain ⟨k, rfl⟩ : ∃ k : Nat, d = (k : Int) := ⟨d.toNat, by omega⟩
    have hk : k < xs.length := by omega
    have ev := List.getElem?_eq_getElem hk
    exact ⟨q, _, (k : Int), _, rfl, rfl, SqL.of (B1 _ _ nqp hq), atI_nat ev, ret k _ _ ev B1 P1⟩
theorem ok_Lodd_row (T : TxL K mg z w) : FnOk P wo K mg base CX0 3 w.a_Lodd_row w.d_Lodd_row ["_law_pen_here"] (spOddL rowG) := by
  refine T.F_Lodd_row.ok sc_Lodd_row (fun vs H Q E h => ?_) (fun cdv A outer s H vs Q E hr h => ?_)
  · obtain ⟨p, l, n, rfl, _⟩ := h
    rfl
  · obtain ⟨p, l, n, rfl, hn, hP, ret⟩ := h
    have hr2 : Room 2 _ := hr
    have G_Lpick : FnOk P wo K mg base CX0 2 w.a_Lpick w.d_Lpick ["_law_pen_here", "_law_some"] (spPick K) := ok_Lpick T
    refine ⟨_, (pss_cons (ps_set (i := 1) sc_Lodd_row.nd rfl (Or.inl rfl) (pe_lst (pa_cons pe_str (pa_cons pe_str (pa_cons pe_str (pa_cons pe_str (pa_cons pe_str (pa_cons pe_str (pa_cons pe_str (pa_cons pe_str (pa_cons pe_str pa_nil)))))))))))
      (pss_cons (ps_set (i := 1) sc_Lodd_row.nd rfl (Or.inl rfl) (pe_op op_cat (pv 1) (pe_lst (pa_cons pe_str (pa_cons pe_str (pa_cons pe_str (pa_cons pe_str (pa_cons pe_str pa_nil))))))))
      (pss_cons (ps_set (i := 1) sc_Lodd_row.nd rfl (Or.inl rfl) (pe_op op_cat (pv 1) (pe_lst (pa_cons pe_str (pa_cons pe_str (pa_cons pe_str (pa_cons pe_str (pa_cons pe_str pa_nil))))))))
      (pss_cons (ps_set (i := 1) sc_Lodd_row.nd rfl (Or.inl rfl) (pe_op op_cat (pv 1) (pe_lst (pa_cons pe_str (pa_cons pe_str (pa_cons pe_str (pa_cons pe_str (pa_cons pe_str (pa_cons pe_str pa_nil)))))))))
      (pss_one (ps_ret (pe_call G_Lpick hr2 rfl T.g_Lpick T.k_Lpick T.b_Lpick .nil pass0 (pa_cons (pv 0) (pa_cons (pe_op op_cat (pv 1) (pe_lst (pa_cons pe_str (pa_cons pe_str pa_nil)))) pa_nil))))))))), ?_⟩
    refine ⟨by show 9 ≤ sizeLine; decide, fun q1 h1 => ?_⟩
    refine ⟨_, rfl, by show 5 ≤ sizeLine; decide, fun q2 h2 => ?_⟩
    refine ⟨q1, q2, _, _, rfl, rfl, smN (Same.refl _) h2 _ _ upd_same, upd_same, by show 9 + 5 ≤ sizeLine; decide, fun q3 h3 => ?_⟩
    refine ⟨_, rfl, by show 5 ≤ sizeLine; decide, fun q4 h4 => ?_⟩
    refine ⟨q3, q4, _, _, rfl, rfl, smN (Same.refl _) h4 _ _ upd_same, upd_same, by show 14 + 5 ≤ sizeLine; decide, fun q5 h5 => ?_⟩
    refine ⟨_, rfl, by show 6 ≤ sizeLine; decide, fun q6 h6 => ?_⟩
    refine ⟨q5, q6, _, _, rfl, rfl, smN (Same.refl _) h6 _ _ upd_same, upd_same, by show 19 + 6 ≤ sizeLine; decide, fun q7 h7 => ?_⟩
    refine ⟨_, rfl, _, rfl, by show 2 ≤ sizeLine; decide, fun q8 h8 => ?_⟩
    refine ⟨q7, q8, _, _, rfl, rfl, smN (Same.refl _) h8 _ _ upd_same, upd_same, by show 25 + 2 ≤ sizeLine; decide, fun q9 h9 => ?_⟩
    have sF := smN (o := .lst (oddRL.map V.str)) (smN (smN (smN (smN (smN (smN (smN (smN (Same.refl H) h1) h2) h3) h4) h5) h6) h7) h8) h9
    refine ⟨p, l, q9, n, oddRL.map V.str, rfl, upd_same, Ne.symm (((((((((hP.new h1).new h2).new h3).new h4).new h5).new h6).new h7).new h8).nep h9), by show 1 ≤ 27; decide, by show 27 ≤ 1000; decide, by omega, hP.same sF, fun j v H6 ev B6 P6 => ?_⟩
    rw [List.getElem?_map] at ev
    cases e : oddRL[j]? with
    | none => rw [e] at ev; cases ev
    | some st =>
      rw [e] at ev
      cases ev
      rw [S_of st]
      exact ret _ _ (List.all_eq_true.mp oddR_tab st (List.mem_of_getElem? e)) ((But.of sF).trans B6) P6
theorem ok_Lodd_event (T : TxL K mg z w) : FnOk P wo K mg base CX0 3 w.a_Lodd_event w.d_Lodd_event ["_law_pen_here"] (spOddL evG) := by
  refine T.F_Lodd_event.ok sc_Lodd_event (fun vs H Q E h => ?_) (fun cdv A outer s H vs Q E hr h => ?_)
  · obtain ⟨p, l, n, rfl, _⟩ := h
    rfl
  · obtain ⟨p, l, n, rfl, hn, hP, ret⟩ := h
    have hr2 : Room 2 _ := hr
    have G_Lpick : FnOk P wo K mg base CX0 2 w.a_Lpick w.d_Lpick ["_law_pen_here", "_law_some"] (spPick K) := ok_Lpick T
    refine ⟨_, (pss_cons (ps_set (i := 1) sc_Lodd_event.nd rfl (Or.inl rfl) (pe_lst (pa_cons pe_str (pa_cons pe_str (pa_cons pe_str (pa_cons pe_str (pa_cons pe_str (pa_cons pe_str (pa_cons pe_str (pa_cons pe_str (pa_cons pe_str (pa_cons pe_str (pa_cons pe_str (pa_cons pe_str pa_nil))))))))))))))
      (pss_cons (ps_set (i := 1) sc_Lodd_event.nd rfl (Or.inl rfl) (pe_op op_cat (pv 1) (pe_lst (pa_cons pe_str (pa_cons pe_str (pa_cons pe_str (pa_cons pe_str (pa_cons pe_str (pa_cons pe_str (pa_cons pe_str (pa_cons pe_str (pa_cons pe_str pa_nil))))))))))))
      (pss_one (ps_ret (pe_call G_Lpick hr2 rfl T.g_Lpick T.k_Lpick T.b_Lpick .nil pass0 (pa_cons (pv 0) (pa_cons (pv 1) pa_nil))))))), ?_⟩
    refine ⟨by show 12 ≤ sizeLine; decide, fun q1 h1 => ?_⟩
    refine ⟨_, rfl, by show 9 ≤ sizeLine; decide, fun q2 h2 => ?_⟩
    refine ⟨q1, q2, _, _, rfl, rfl, smN (Same.refl _) h2 _ _ upd_same, upd_same, by show 12 + 9 ≤ sizeLine; decide, fun q3 h3 => ?_⟩
    have sF := smN (o := .lst (oddEL.map V.str)) (smN (smN (Same.refl H) h1) h2) h3
    refine ⟨_, rfl, _, rfl, p, l, q3, n, oddEL.map V.str, rfl, upd_same, Ne.symm (((hP.new h1).new h2).nep h3), by show 1 ≤ 21; decide, by show 21 ≤ 1000; decide, by omega, hP.same sF, fun j v H6 ev B6 P6 => ?_⟩
    rw [List.getElem?_map] at ev
    cases e : oddEL[j]? with
    | none => rw [e] at ev; cases ev
    | some st =>
      rw [e] at ev
      cases ev
      rw [S_of st]
      exact ret _ _ (List.all_eq_true.mp oddE_tab st (List.mem_of_getElem? e)) ((But.of sF).trans B6) P6
theorem ok_Lrows (T : TxL K mg z w) : FnOk P wo K mg base CX0 3 w.a_Lrows w.d_Lrows ["_law_pen_here"] (spGoodL rowG) := by
  refine T.F_Lrows.ok sc_Lrows (fun vs H Q E h => ?_) (fun cdv A outer s H vs Q E hr h => ?_)
  · obtain ⟨p, l, n, rfl, _⟩ := h
    rfl
  · obtain ⟨p, l, n, rfl, hn, hP, ret⟩ := h
    have hr2 : Room 2 _ := hr
    have hr1 : Room 1 _ := hr.mono (by decide)
    have G_Ldraw : FnOk P wo K mg base CX0 1 w.a_Ldraw w.d_Ldraw ["_law_pen_here", "_law_many"] spDraw := ok_Ldraw T
    have G_Lpick : FnOk P wo K mg base CX0 2 w.a_Lpick w.d_Lpick ["_law_pen_here", "_law_some"] (spPick K) := ok_Lpick T
    refine ⟨_, (pss_cons (ps_set (i := 1) sc_Lrows.nd rfl (Or.inr rfl) (pe_lst (pa_cons pe_str (pa_cons pe_str (pa_cons pe_str (pa_cons pe_str (pa_cons pe_str pa_nil)))))))
      (pss_cons (ps_expr (pe_bm PySem.F.plainAttrs_list PySem.F.slot_list_append PySem.F.type_list_append mt_append (pv 1) (pa_cons pe_str pa_nil)))
      (pss_one (ps_ret (by refine' pe_lc (own := [("_law_k", 2)]) (tt := tYes) rfl sc_Lrows.nd ?hi (blkOk_by (N := ["_law_pen_here", "_law_some", "_law_k"]) (sc := defScope s_Lrows) (by first | decide +kernel | kernel_rfl | rfl)) ?hg ?ht ?he (by intro _; rfl); (case hi => exact (pi_range1 rfl T.n_range (pa_cons (pe_call G_Ldraw hr1 rfl T.g_Ldraw T.k_Ldraw T.b_Ldraw .nil pass0 (pa_cons (pv 0) (pa_cons pe_int pa_nil))) pa_nil))); (case hg => exact fun _ _ _ _ _ => (pg_name (i := 2) sc_Lrows.nd rfl (Or.inl rfl))); (case ht => exact fun _ _ _ _ _ => pts_nil); (case he => exact fun _ _ _ _ _ => (pe_call G_Lpick hr2 rfl T.g_Lpick T.k_Lpick T.b_Lpick .nil pass0 (pa_cons (pv 0) (pa_cons (pv 1) pa_nil))))))))), ?_⟩
    refine ⟨by show 5 ≤ sizeLine; decide, fun q1 h1 => ?_⟩
    refine ⟨_, rfl, .inl ⟨rfl, _, SqL.of upd_same⟩, q1, (rowsL.take 5).map V.str, _, rfl, rfl, upd_same, by show 5 < sizeLine; decide, ?_⟩
    have s1 := same_put (o := .lst (rowsL.map V.str)) (smN (o := .lst ((rowsL.take 5).map V.str)) (Same.refl H) h1) h1
    have m1 : (upd (upd H q1 (.lst ((rowsL.take 5).map V.str))) q1 (.lst (rowsL.map V.str))) q1 = some (.lst (rowsL.map V.str)) := upd_same
    have np := hP.nep h1
    have P1 := hP.same s1
    refine ⟨_, rfl, p, l, 7, n, rfl, by decide, by decide, by omega, P1, fun d0 H2 hd0 hd1 P2 B2 => ?_⟩
    obtain ⟨m, rfl⟩ : ∃ m : Nat, d0 = (m : Int) := ⟨d0.toNat, by omega⟩
    refine ⟨(m : Int), rfl, by omega, by omega, fun D hD => ?_⟩
    rw [show ((m : Int)).toNat = m from rfl]
    have nDp := P2.nep hD
    have nDl := P2.nel hD
    have m2 := B2 _ _ (Ne.symm np) m1
    refine lc_range (n := m) (fun i H' => ∃ L : List (List Nat), L.length = i ∧ (∀ t ∈ L, goodT rowG t = true) ∧ But p H2 H' ∧ PenN H' p l (n + 1 + i) ∧ H' D = some (.lst (txV L))) ⟨[], rfl, (fun c hc => by cases hc), But.refl.new hD, P2.put nDp nDl, upd_same⟩ (fun i H4 hi h => ?_) (fun H4 h => ?_)
    · obtain ⟨L, lL, gL, B4, P4, hD4⟩ := h
      refine ⟨rfl, yes1 ?_⟩
      refine ⟨_, rfl, _, rfl, p, l, q1, n + 1 + i, rowsL.map V.str, rfl, B4 _ _ (Ne.symm np) m2, Ne.symm np, by show 1 ≤ 6; decide, by show 6 ≤ 1000; decide, by omega, P4, fun j v H5 ev B5 P5 => ?_⟩
      rw [List.getElem?_map] at ev
      cases e : rowsL[j]? with
      | none => rw [e] at ev; cases ev
      | some st =>
        rw [e] at ev
        cases ev
        have ok := List.all_eq_true.mp rows_tab st (List.mem_of_getElem? e)
        have acc := B5 _ _ (Ne.symm nDp) hD4
        rw [S_of st]
        refine ⟨_, acc, by rw [txV_len, lL]; exact small1 _ (by omega), L ++ [st.cps.toList], by rw [List.length_append, lL] <;> rfl, fun t ht => ?_, (B4.trans B5).put hD, (P5.mono (by omega)).put nDp nDl, by rw [upd_same]; simp [txV]⟩
        rcases List.mem_append.mp ht with h | h
        · exact gL t h
        · rw [List.mem_singleton.mp h]; exact ok
    · obtain ⟨L, lL, gL, B4, P4, hD4⟩ := h
      exact ret D L H4 (Ne.symm nDp) hD4 (by omega) gL (((But.of s1).trans B2).trans B4) (P4.mono (by omega))
theorem ok_Levents (T : TxL K mg z w) : FnOk P wo K mg base CX0 3 w.a_Levents w.d_Levents ["_law_pen_here"] (spGoodL evG) := by
  refine T.F_Levents.ok sc_Levents (fun vs H Q E h => ?_) (fun cdv A outer s H vs Q E hr h => ?_)
  · obtain ⟨p, l, n, rfl, _⟩ := h
    rfl
  · obtain ⟨p, l, n, rfl, hn, hP, ret⟩ := h
    have hr2 : Room 2 _ := hr
    have hr1 : Room 1 _ := hr.mono (by decide)
    have G_Ldraw : FnOk P wo K mg base CX0 1 w.a_Ldraw w.d_Ldraw ["_law_pen_here", "_law_many"] spDraw := ok_Ldraw T
    have G_Lpick : FnOk P wo K mg base CX0 2 w.a_Lpick w.d_Lpick ["_law_pen_here", "_law_some"] (spPick K) := ok_Lpick T
    refine ⟨_, (pss_cons (ps_set (i := 1) sc_Levents.nd rfl (Or.inr rfl) (pe_lst (pa_cons pe_str (pa_cons pe_str (pa_cons pe_str (pa_cons pe_str (pa_cons pe_str (pa_cons pe_str (pa_cons pe_str (pa_cons pe_str pa_nil))))))))))
      (pss_one (ps_ret (by refine' pe_lc (own := [("_law_k", 2)]) (tt := tYes) rfl sc_Levents.nd ?hi (blkOk_by (N := ["_law_pen_here", "_law_some", "_law_k"]) (sc := defScope s_Levents) (by first | decide +kernel | kernel_rfl | rfl)) ?hg ?ht ?he (by intro _; rfl); (case hi => exact (pi_range1 rfl T.n_range (pa_cons (pe_call G_Ldraw hr1 rfl T.g_Ldraw T.k_Ldraw T.b_Ldraw .nil pass0 (pa_cons (pv 0) (pa_cons pe_int pa_nil))) pa_nil))); (case hg => exact fun _ _ _ _ _ => (pg_name (i := 2) sc_Levents.nd rfl (Or.inl rfl))); (case ht => exact fun _ _ _ _ _ => pts_nil); (case he => exact fun _ _ _ _ _ => (pe_call G_Lpick hr2 rfl T.g_Lpick T.k_Lpick T.b_Lpick .nil pass0 (pa_cons (pv 0) (pa_cons (pv 1) pa_nil)))))))), ?_⟩
    refine ⟨by show 8 ≤ sizeLine; decide, fun q1 h1 => ?_⟩
    have s1 := smN (o := .lst (evsL.map V.str)) (Same.refl H) h1
    have m1 : (upd H q1 (.lst (evsL.map V.str))) q1 = some (.lst (evsL.map V.str)) := upd_same
    have np := hP.nep h1
    have P1 := hP.same s1
    refine ⟨_, rfl, p, l, 7, n, rfl, by decide, by decide, by omega, P1, fun d0 H2 hd0 hd1 P2 B2 => ?_⟩
    obtain ⟨m, rfl⟩ : ∃ m : Nat, d0 = (m : Int) := ⟨d0.toNat, by omega⟩
    refine ⟨(m : Int), rfl, by omega, by omega, fun D hD => ?_⟩
    rw [show ((m : Int)).toNat = m from rfl]
    have nDp := P2.nep hD
    have nDl := P2.nel hD
    have m2 := B2 _ _ (Ne.symm np) m1
    refine lc_range (n := m) (fun i H' => ∃ L : List (List Nat), L.length = i ∧ (∀ t ∈ L, goodT evG t = true) ∧ But p H2 H' ∧ PenN H' p l (n + 1 + i) ∧ H' D = some (.lst (txV L))) ⟨[], rfl, (fun c hc => by cases hc), But.refl.new hD, P2.put nDp nDl, upd_same⟩ (fun i H4 hi h => ?_) (fun H4 h => ?_)
    · obtain ⟨L, lL, gL, B4, P4, hD4⟩ := h
      refine ⟨rfl, yes1 ?_⟩
      refine ⟨_, rfl, _, rfl, p, l, q1, n + 1 + i, evsL.map V.str, rfl, B4 _ _ (Ne.symm np) m2, Ne.symm np, by show 1 ≤ 8; decide, by show 8 ≤ 1000; decide, by omega, P4, fun j v H5 ev B5 P5 => ?_⟩
      rw [List.getElem?_map] at ev
      cases e : evsL[j]? with
      | none => rw [e] at ev; cases ev
      | some st =>
        rw [e] at ev
        cases ev
        have ok := List.all_eq_true.mp evs_tab st (List.mem_of_getElem? e)
        have acc := B5 _ _ (Ne.symm nDp) hD4
        rw [S_of st]
        refine ⟨_, acc, by rw [txV_len, lL]; exact small1 _ (by omega), L ++ [st.cps.toList], by rw [List.length_append, lL] <;> rfl, fun t ht => ?_, (B4.trans B5).put hD, (P5.mono (by omega)).put nDp nDl, by rw [upd_same]; simp [txV]⟩
        rcases List.mem_append.mp ht with h | h
        · exact gL t h
        · rw [List.mem_singleton.mp h]; exact ok
    · obtain ⟨L, lL, gL, B4, P4, hD4⟩ := h
      exact ret D L H4 (Ne.symm nDp) hD4 (by omega) gL (((But.of s1).trans B2).trans B4) (P4.mono (by omega))
theorem ok_Lbent (T : TxL K mg z w) : FnOk P wo K mg base CX0 3 w.a_Lbent w.d_Lbent ["_law_pen_here", "_law_lines", "_law_odd"] spBentG := by
  refine T.F_Lbent.ok sc_Lbent (fun vs H Q E h => ?_) (fun cdv A outer s H vs Q E hr h => ?_)
  · obtain ⟨p, l, q, n, g, L, t, rfl, _⟩ := h
    rfl
  · obtain ⟨p, l, q, n, g, L, t, rfl, hn, hP, nqp, hq, lL, gL, ot, gn, ret⟩ := h
    have hr2 : Room 2 _ := hr
    have hr1 : Room 1 _ := hr.mono (by decide)
    have G_Ldraw : FnOk P wo K mg base CX0 1 w.a_Ldraw w.d_Ldraw ["_law_pen_here", "_law_many"] spDraw := ok_Ldraw T
    have G_Lpick : FnOk P wo K mg base CX0 2 w.a_Lpick w.d_Lpick ["_law_pen_here", "_law_some"] (spPick K) := ok_Lpick T
    have lX : ∀ k : Nat, k ≤ 1000 → k ≤ sizeLine := fun k h => Nat.le_trans h (by decide)
    have pL : ∀ x ∈ L, plainA x = true := fun x hx => (good_of (gL x hx)).1
    refine ⟨_, (pss_cons (ps_set (i := 3) sc_Lbent.nd rfl (Or.inl rfl) (pe_call G_Ldraw hr1 rfl T.g_Ldraw T.k_Ldraw T.b_Ldraw .nil pass0 (pa_cons (pv 0) (pa_cons (pe_op op_add (pe_callB call_len_seq (by rfl) T.n_len (by decide +kernel) (pa_cons (pv 1) pa_nil)) pe_int) pa_nil))))
      (pss_cons (ps_set (i := 4) sc_Lbent.nd rfl (Or.inl rfl) (pe_call G_Ldraw hr1 rfl T.g_Ldraw T.k_Ldraw T.b_Ldraw .nil pass0 (pa_cons (pv 0) (pa_cons pe_int pa_nil))))
      (pss_cons (ps_if (pt_cmpR op_eq (pv 4) pe_int (nomark _))
        (pss_one (ps_ret (pe_tup (pa_cons (pe_op op_cat (pe_op op_cat (pe_lst (pa_cons pe_str pa_nil)) (pe_call G_Lpick hr2 rfl T.g_Lpick T.k_Lpick T.b_Lpick .nil pass0 (pa_cons (pv 0) (pa_cons (pe_lst (pa_cons (pv 1) (pa_cons (pe_lst pa_nil) pa_nil))) pa_nil)))) (pe_lst (pa_cons pe_str pa_nil))) (pa_cons pe_int pa_nil)))))
        pss_nil)
      (C8.pss_cut (ps_if (PW.pt (pw_and (pt_cmpR op_eq (pv 4) pe_int (nomark _)) (pw_and1 (pt_cmpR op_gt (pv 3) pe_int (nomark _)))))
        (pss_one (ps_set (i := 2) sc_Lbent.nd rfl (Or.inl rfl) pe_str))
        pss_nil)
      (pss_one (ps_ret (pe_tup (pa_cons (pe_op op_cat (pe_op op_cat (pe_op op_cat (pe_slice sl_list (pv 1) po_none (po_some (pv 3))) (pe_lst (pa_cons (pv 2) pa_nil))) (pe_slice sl_list (pv 1) (po_some (pv 3)) po_none)) (pe_call G_Lpick hr2 rfl T.g_Lpick T.k_Lpick T.b_Lpick .nil pass0 (pa_cons (pv 0) (pa_cons (pe_lst (pa_cons (pe_lst pa_nil) (pa_cons (pe_lst (pa_cons pe_str pa_nil)) (pa_cons (pe_lst (pa_cons pe_str pa_nil)) pa_nil)))) pa_nil)))) (pa_cons (pv 3) pa_nil))))))))), ?_⟩
    rw [show ("none" : Str) = S wNone by decide +kernel]
    refine ⟨_, rfl, _, rfl, q, _, rfl, .inl (SqL.of hq), _, _, rfl, rfl, ?_⟩
    rw [txV_len]
    refine ⟨p, l, _, n, rfl, by omega, by omega, by omega, hP, fun d0 H1 hd0 hd1 P1 B1 => ?_⟩
    obtain ⟨a, rfl⟩ : ∃ a : Nat, d0 = (a : Int) := ⟨d0.toNat, by omega⟩
    refine ⟨_, rfl, p, l, 4, n + 1, rfl, by decide, by decide, by omega, P1, fun d1 H2 hd2 hd3 P2 B2 => ?_⟩
    have hq2 := B2 _ _ nqp (B1 _ _ nqp hq)
    have B02 := B1.trans B2
    refine ⟨_, rfl, rfl, _, rfl, ?_⟩
    refine ite2 (fun _ => ?_) (fun _ => ?_)
    · refine ⟨by show 1 ≤ sizeLine; decide, fun c1 k1 => ?_⟩
      have s1 := smN (o := .lst (txV [wNone])) (Same.refl H2) k1
      have m1 : (upd H2 c1 (.lst (txV [wNone]))) c1 = some (.lst (txV [wNone])) := upd_same
      have Pa := P2.same s1
      have nc1 := P2.nep k1
      have eu1 : upd H2 c1 (.lst [.str (S wNone)]) = upd H2 c1 (.lst (txV [wNone])) := rfl
      rw [eu1]
      generalize upd H2 c1 (.lst (txV [wNone])) = Ha at s1 m1 Pa
      have hqa := s1 _ _ hq2
      refine ⟨_, rfl, _, rfl, by show 0 ≤ sizeLine; decide, fun c2 k2 => ?_⟩
      have s2 := smN (o := .lst (txV [])) (Same.refl Ha) k2
      have m2 : (upd Ha c2 (.lst (txV []))) c2 = some (.lst (txV [])) := upd_same
      have nc2 := Pa.nep k2
      have Pb := Pa.same s2
      have eu2 : upd Ha c2 (.lst []) = upd Ha c2 (.lst (txV [])) := rfl
      rw [eu2]
      generalize upd Ha c2 (.lst (txV [])) = Hb at s2 m2 Pb
      refine ⟨by show 2 ≤ sizeLine; decide, fun c3 k3 => ?_⟩
      have s3 := smN (o := .lst [.ref q, .ref c2]) (Same.refl Hb) k3
      have m3 : (upd Hb c3 (.lst [.ref q, .ref c2])) c3 = some (.lst [.ref q, .ref c2]) := upd_same
      have nc3 := Pb.nep k3
      have Pc := Pb.same s3
      generalize upd Hb c3 (.lst [.ref q, .ref c2]) = Hc at s3 m3 Pc
      refine ⟨p, l, c3, n + 2, [.ref q, .ref c2], rfl, m3, Ne.symm nc3, by show 1 ≤ 2; decide, by show 2 ≤ 1000; decide, by omega, Pc, fun j v H5 ev B5 P5 => ?_⟩
      obtain ⟨qm, M, rfl, hqm, lM, pM⟩ : ∃ qm M, v = .ref qm ∧ H5 qm = some (.lst (txV M)) ∧ M.length ≤ 6 ∧ ∀ x ∈ M, plainA x = true := by
        have hj : j < 2 := (List.getElem?_eq_some_iff.mp ev).1
        have : j = 0 ∨ j = 1 := by omega
        rcases this with rfl | rfl <;> cases ev
        · exact ⟨q, L, rfl, B5 _ _ nqp ((s2.trans s3) _ _ hqa), lL, pL⟩
        · exact ⟨c2, [], rfl, B5 _ _ (Ne.symm nc2) (s3 _ _ m2), by decide, fun x hx => by cases hx⟩
      have m1' := B5 _ _ (Ne.symm nc1) ((s2.trans s3) _ _ m1)
      have B25 := (But.of ((s1.trans s2).trans s3)).trans B5
      clear m2 m3 s1 s2 s3 m1 ev
      refine ⟨c1, qm, _, _, rfl, rfl, m1', hqm, lX _ (by rw [txV_len, txV_len]; show 1 + _ ≤ 1000; omega), fun c4 k4 => ?_⟩
      rw [show txV [wNone] ++ txV M = txV ([wNone] ++ M) by simp [txV]]
      have s4 := smN (o := .lst (txV ([wNone] ++ M))) (Same.refl H5) k4
      have m4 : (upd H5 c4 (.lst (txV ([wNone] ++ M)))) c4 = some (.lst (txV ([wNone] ++ M))) := upd_same
      generalize upd H5 c4 (.lst (txV ([wNone] ++ M))) = Hd at s4 m4
      refine ⟨by show 1 ≤ sizeLine; decide, fun c5 k5 => ?_⟩
      have s5 := smN (o := .lst (txV [wNone])) s4 k5
      have m5 : (upd Hd c5 (.lst (txV [wNone]))) c5 = some (.lst (txV [wNone])) := upd_same
      have m45 := smN (o := .lst (txV [wNone])) (Same.refl Hd) k5 _ _ m4
      have eu3 : upd Hd c5 (.lst [.str (S wNone)]) = upd Hd c5 (.lst (txV [wNone])) := rfl
      rw [eu3]
      generalize upd Hd c5 (.lst (txV [wNone])) = He at s5 m5 m45
      refine ⟨c4, c5, _, _, rfl, rfl, m45, m5, lX _ (by rw [txV_len, txV_len, List.length_append]; show 1 + _ + 1 ≤ 1000; omega), fun c6 k6 => ?_⟩
      rw [show txV ([wNone] ++ M) ++ txV [wNone] = txV ([wNone] ++ M ++ [wNone]) by simp [txV]]
      have s6 := smN (o := .lst (txV ([wNone] ++ M ++ [wNone]))) s5 k6
      have m6 : (upd He c6 (.lst (txV ([wNone] ++ M ++ [wNone])))) c6 = some (.lst (txV ([wNone] ++ M ++ [wNone]))) := upd_same
      have n6 := (P5.same s5).nep k6
      generalize upd He c6 (.lst (txV ([wNone] ++ M ++ [wNone]))) = Hf at s6 m6
      refine ⟨by show 2 ≤ sizeLine; decide, fun c7 k7 => ?_⟩
      have s7 := smN (o := .tup [.ref c6, .int 1]) s6 k7
      refine ret c7 c6 ([wNone] ++ M ++ [wNone]) 1 _ upd_same (Ne.symm n6) (smN (Same.refl _) k7 _ _ m6) (by simp) (by simp only [List.length_append, List.length_singleton]; omega) (fun x hx => ?_) (ref_none M) ((B02.trans B25).trans (But.of s7)) ((P5.same s7).mono (by omega))
      rcases List.mem_append.mp hx with h | h
      · rcases List.mem_append.mp h with h | h
        · rw [List.mem_singleton.mp h]; exact none_tab.1
        · exact pM x h
      · rw [List.mem_singleton.mp h]; exact none_tab.1
    · refine ⟨fun σ H' => ∃ u : List Nat, σ = [some (.ref p), some (.ref q), some (.str (S u)), some (.int (a : Nat)), some (.int d1)] ∧ H' = H2 ∧ plainA u = true ∧ g u = false ∧ (a = 0 → wds u ≠ [wNone]), ?_, ?_⟩
      · obtain ⟨p1, p2, p3⟩ := odd_of ot
        refine ⟨_, rfl, rfl, _, rfl, ?_⟩
        refine ite2 (fun _ => ?_) (fun _ => ?_)
        · refine ⟨_, rfl, _, _, rfl, rfl, _, rfl, ?_⟩
          refine ite2 (fun c => ?_) (fun c => ?_)
          · have c := of_decide_eq_true c
            exact ⟨wNone, rfl, rfl, none_tab.1, gn, fun z => by omega⟩
          · exact ⟨t, rfl, rfl, p1, p2, fun _ => p3⟩
        · exact ⟨t, rfl, rfl, p1, p2, fun _ => p3⟩
      · rintro σ H2' ⟨u, rfl, rfl, pu, gu, hu⟩
        refine ⟨_, rfl, _, rfl, (a : Int), rfl, q, _, rfl, SqL.of hq2, fun c1 k1 => ?_⟩
        rw [cutV_to]
        have s1 := smN (o := .lst (txV (L.take a))) (Same.refl H2') k1
        have m1 : (upd H2' c1 (.lst (txV (L.take a)))) c1 = some (.lst (txV (L.take a))) := upd_same
        generalize upd H2' c1 (.lst (txV (L.take a))) = Ha at s1 m1
        refine ⟨_, rfl, by show 1 ≤ sizeLine; decide, fun c2 k2 => ?_⟩
        have s2 := smN (o := .lst (txV [u])) s1 k2
        have m2 : (upd Ha c2 (.lst (txV [u]))) c2 = some (.lst (txV [u])) := upd_same
        have m12 := smN (o := .lst (txV [u])) (Same.refl Ha) k2 _ _ m1
        have eu1 : upd Ha c2 (.lst [.str (S u)]) = upd Ha c2 (.lst (txV [u])) := rfl
        rw [eu1]
        generalize upd Ha c2 (.lst (txV [u])) = Hb at s2 m2 m12
        have lt : (L.take a).length ≤ 6 := by rw [List.length_take]; omega
        have ld : (L.drop a).length ≤ 6 := by rw [List.length_drop]; omega
        refine ⟨c1, c2, _, _, rfl, rfl, m12, m2, lX _ (by rw [txV_len, txV_len]; show _ + 1 ≤ 1000; omega), fun c3 k3 => ?_⟩
        rw [show txV (L.take a) ++ txV [u] = txV (L.take a ++ [u]) by simp [txV]]
        have s3 := smN (o := .lst (txV (L.take a ++ [u]))) s2 k3
        have m3 : (upd Hb c3 (.lst (txV (L.take a ++ [u])))) c3 = some (.lst (txV (L.take a ++ [u]))) := upd_same
        generalize upd Hb c3 (.lst (txV (L.take a ++ [u]))) = Hc at s3 m3
        refine ⟨_, rfl, _, rfl, (a : Int), rfl, q, _, rfl, SqL.of (s3 _ _ hq2), fun c4 k4 => ?_⟩
        rw [cutV_from]
        have s4 := smN (o := .lst (txV (L.drop a))) s3 k4
        have m4 : (upd Hc c4 (.lst (txV (L.drop a)))) c4 = some (.lst (txV (L.drop a))) := upd_same
        have m34 := smN (o := .lst (txV (L.drop a))) (Same.refl Hc) k4 _ _ m3
        generalize upd Hc c4 (.lst (txV (L.drop a))) = Hd at s4 m4 m34
        refine ⟨c3, c4, _, _, rfl, rfl, m34, m4, lX _ (by rw [txV_len, txV_len, List.length_append]; show _ + 1 + _ ≤ 1000; omega), fun c5 k5 => ?_⟩
        rw [show txV (L.take a ++ [u]) ++ txV (L.drop a) = txV (L.take a ++ [u] ++ L.drop a) by simp [txV]]
        have s5 := smN (o := .lst (txV (L.take a ++ [u] ++ L.drop a))) s4 k5
        have m5 : (upd Hd c5 (.lst (txV (L.take a ++ [u] ++ L.drop a)))) c5 = some (.lst (txV (L.take a ++ [u] ++ L.drop a))) := upd_same
        have n5 := (P2.same s4).nep k5
        have Pe := P2.same s5
        generalize upd Hd c5 (.lst (txV (L.take a ++ [u] ++ L.drop a))) = He at s5 m5 Pe
        -- more
        refine ⟨_, rfl, by show 0 ≤ sizeLine; decide, fun d1 j1 => ?_⟩
        have g1 : LsG p (fun M => M.length ≤ 1 ∧ ∀ x ∈ M, plainA x = true) (upd He d1 (.lst (txV []))) [.ref d1] := ls_add (Ok := fun M => M.length ≤ 1 ∧ ∀ x ∈ M, plainA x = true) (vs := []) (L := []) (fun v hv => by cases hv) j1 (Ne.symm (Pe.nep j1)) ⟨by decide, fun l hl => by cases hl⟩
        have Pf := Pe.new (o := .lst (txV [])) j1
        have r1 := smN (o := .lst (txV [])) s5 j1
        have z1 := smN (o := .lst (txV [])) (Same.refl He) j1
        refine ⟨by show 1 ≤ sizeLine; decide, fun d2 j2 => ?_⟩
        have g2 := ls_add (L := [[]]) g1 j2 (Ne.symm (Pf.nep j2)) ⟨by decide, by decide +kernel⟩
        have Pg := Pf.new (o := .lst (txV [[]])) j2
        have r2 := smN (o := .lst (txV [[]])) r1 j2
        have z2 := smN (o := .lst (txV [[]])) z1 j2
        refine ⟨by show 1 ≤ sizeLine; decide, fun d3 j3 => ?_⟩
        have g3 := ls_add (L := [wNone]) g2 j3 (Ne.symm (Pg.nep j3)) ⟨by decide, by decide +kernel⟩
        have Ph := Pg.new (o := .lst (txV [wNone])) j3
        have r3 := smN (o := .lst (txV [wNone])) r2 j3
        have z3 := smN (o := .lst (txV [wNone])) z2 j3
        refine ⟨by show 3 ≤ sizeLine; decide, fun d4 j4 => ?_⟩
        have g4 := ls_new (o := .lst [.ref d1, .ref d2, .ref d3]) g3 j4
        have Pi := Ph.new (o := .lst [.ref d1, .ref d2, .ref d3]) j4
        have r4 := smN (o := .lst [.ref d1, .ref d2, .ref d3]) r3 j4
        have z4 := smN (o := .lst [.ref d1, .ref d2, .ref d3]) z3 j4
        refine ⟨p, l, d4, n + 2, [.ref d1, .ref d2, .ref d3], rfl, upd_same, Ne.symm (Ph.nep j4), by show 1 ≤ 3; decide, by show 3 ≤ 1000; decide, by omega, Pi, fun jj v H5 ev B5 P5 => ?_⟩
        obtain ⟨qm, M, rfl, nqm, hqm, lM, pM⟩ := g4 v (List.mem_of_getElem? ev)
        have hqm5 := B5 _ _ nqm hqm
        have m55 := B5 _ _ (Ne.symm n5) (z4 _ _ m5)
        have B25 := (But.of r4).trans B5
        clear g1 g2 g3 g4 Pf Pg Ph Pi r1 r2 r3 r4 z1 z2 z3 z4 hqm ev j1 j2 j3 j4
        refine ⟨c5, qm, _, _, rfl, rfl, m55, hqm5, lX _ (by rw [txV_len, txV_len, List.length_append, List.length_append]; show _ + 1 + _ + _ ≤ 1000; omega), fun c6 k6 => ?_⟩
        rw [show txV (L.take a ++ [u] ++ L.drop a) ++ txV M = txV (L.take a ++ [u] ++ (L.drop a ++ M)) by simp [txV]]
        have s6 := smN (o := .lst (txV (L.take a ++ [u] ++ (L.drop a ++ M)))) (Same.refl H5) k6
        have m6 : (upd H5 c6 (.lst (txV (L.take a ++ [u] ++ (L.drop a ++ M))))) c6 = some (.lst (txV (L.take a ++ [u] ++ (L.drop a ++ M)))) := upd_same
        have n6 := P5.nep k6
        generalize upd H5 c6 (.lst (txV (L.take a ++ [u] ++ (L.drop a ++ M)))) = Hf at s6 m6
        refine ⟨_, rfl, by show 2 ≤ sizeLine; decide, fun c7 k7 => ?_⟩
        have s7 := smN (o := .tup [.ref c6, .int (a : Nat)]) s6 k7
        refine ret c7 c6 (L.take a ++ [u] ++ (L.drop a ++ M)) a _ upd_same (Ne.symm n6) (smN (Same.refl _) k7 _ _ m6) (by simp) (by simp only [List.length_append, List.length_singleton]; omega) (fun x hx => ?_) (ref_bad gL (by omega) gu hu) ((B02.trans B25).trans (But.of s7)) ((P5.same s7).mono (by omega))
        rcases List.mem_append.mp hx with h | h
        · rcases List.mem_append.mp h with h | h
          · exact pL x (List.mem_of_mem_take h)
          · rw [List.mem_singleton.mp h]; exact pu
        · rcases List.mem_append.mp h with h | h
          · exact pL x (List.mem_of_mem_drop h)
          · exact pM x h
end
end Fb
set_option maxRecDepth 100000
set_option maxHeartbeats 4000000
namespace Fb
open PySem PySem.Spec PyProof.Rows L2
open SX (S)
def qLaw : Str := "law" ++ ".<locals>." ++ "<lambda>"
theorem tabs_lst {Tb : List (Addr × Str)} {H H' : Hp} {p : Addr} {xs : List V} (t : LamX.Tabs Tb H) (e : H p = some (.lst xs)) (b : But p H H') : LamX.Tabs Tb H' := by
  intro x hx
  obtain ⟨ps, h1, h2, h3⟩ := t x hx
  refine ⟨ps, b _ _ (fun z => ?_) h1, h2, fun pos cv hc => ?_⟩
  · rw [z, e] at h1; cases h1
  · obtain ⟨c, e1, e2⟩ := h3 pos cv hc
    refine ⟨c, e1, b _ _ (fun z => ?_) e2⟩
    rw [z, e] at e2
    unfold LamX.CodeO at e2
    cases e2
theorem tabs_but {Tb : List (Addr × Str)} {H H' : Hp} {p l : Addr} {n : Nat} (t : LamX.Tabs Tb H) (hP : PenN H p l n) (b : But p H H') : LamX.Tabs Tb H' := by
  obtain ⟨cs, a, r, e, _⟩ := hP
  exact tabs_lst t e b
theorem XF.exm {K : PySem.W.Frag} {mg : Str → Option Value} {fe C : Addr} {x : Str} (T : XF K mg fe x C) (hc : (PySem.W.clsIn K fe).isSome = true) (ht : PySem.W.typeIn K (.ref fe) = some (.type "type")) (hs : PySem.W.subIn K (.ref fe) (.type "BaseException") = some true) : PySem.W.exmOne K (.ref C) (.ref fe) = some true := by
  unfold PySem.W.exmOne
  rw [hs, if_pos (by simp)]
  unfold PySem.W.kitCls
  have e2 : ((PySem.W.clsIn K fe).isSome && PySem.W.typeIn K (.ref fe) == some (.type "type")) = true := by
    rw [hc, ht] <;> rfl
  show (if ((PySem.W.clsIn K fe).isSome && PySem.W.typeIn K (.ref fe) == some (.type "type")) = true then PySem.W.subIn K (.ref C) (.ref fe) else none) = _
  rw [if_pos e2]
  show PySem.W.mroIn K C (.ref fe) = _
  rw [T.mro]
  simp
/-- a rule of two -/
theorem callR_or {X : Cx} {f : Value} {r1 r2 : List V → Hp → VK → Prop} (h1 : CallR X f r1) (h2 : CallR X f r2) : CallR X f (fun xs H Q => r1 xs H Q ∨ r2 xs H Q) := fun pins s σ H xs us Q I r q => by
  rcases q with q | q
  · exact h1 pins s σ H xs us Q I r q
  · exact h2 pins s σ H xs us Q I r q
theorem pe_weak {X : Cx} {e : Expr} {te : TE} (h : PE X e te) : PE X e (fun σ H Q => ∃ Q' : VK, te σ H Q' ∧ ∀ v H1, Q' v H1 → Q v H1) :=
  ⟨fun pins s σ H Q I ⟨Q', h1, h2⟩ => wpAny_mono (h.run pins s σ H Q' I h1) (fun u s1 ⟨v, H1, I1, r, q⟩ => ⟨v, H1, I1, r, h2 _ _ q⟩) fun _ _ z => z⟩
/-- the error that is heard -/
def TTe (z : Pz) (Q : VK) : XK := fun cls d H' => ∃ (dd : Addr) (k : Nat), cls = .ref z.cNoText ∧ d = some dd ∧ H' dd = some (.xd [("line", .int (k : Nat))]) ∧ ∀ a', H' a' = none → Q (.int (k : Nat)) (upd H' a' (ExR cls d a'))
def TTc (z : Pz) : (XK → Hp → VK → Prop) → Hp → VK → Prop := fun tl H Q => tl (TTe z Q) H (fun _ _ => False)
section
variable {z : Pz} {w : Lz}
theorem ok_Lheard {X : Cx} {q : Str} {cdv : Value} (T : TxL X.K X.mg z w) : LamX.GivesTo X ["_law_ask", "_law_caught", "e"] "_law_heard" (defScope s_Lheard) w.a_Lheard cdv (defBody s_Lheard) "_law_ask" q (TTc z) := by
  intro f c' s H Q tl act hc h
  refine ⟨_, (pss_cons (ps_set (i := 1) sc_Lheard.nd rfl (Or.inl rfl) pe_non)
    (pss_cons (ps_try_hold (i := 2) (j := 1) (tb := fun W D σ H => ∃ (Ech : XK) (Q' : VK), (∀ cls d σ' H', Ech cls d H' → W cls d σ' H') ∧ σ[0]? = some (some (.ref f)) ∧ H c' = some (LamX.CodeO c' q) ∧ tl Ech H Q' ∧ ∀ v H1, Q' v H1 → False)
      rfl rfl rfl sc_Lheard.nd rfl rfl rfl rfl ⟨rfl, by decide, .inl T.xFallenError⟩ LamX.takes0 rfl rfl (fun W pn xe tk _ => ?_))
    (pss_len (pss_one (ps_ret (pe_ifExp (pt_val (pe_callB (callR_or call_isB call_isi) (by rfl) T.n_isinstance boot_isinstance (pa_cons (pv 1) (pa_cons (pe_glob (v := .ref z.cNoText) rfl T.xNoText.g rfl) pa_nil)))) (pe_xar (pv 1)) pe_non)))))), ?_⟩
  · refine ⟨fun pins s' σ H' D I h' => ?_⟩
    obtain ⟨Ech, Q', hW, h1, h2, h3, h4⟩ := h'
    refine PSs.run (pss_one (ps_expr (pe_weak (act W pn xe Ech _ _ tk hW)))) pins s' σ H' D I ⟨Q', ⟨h1, h2, h3⟩, fun v H1 q => (h4 v H1 q).elim⟩
  · refine ⟨_, _, fun cls d σ' H' hE => ?_, rfl, hc, h, fun v H1 q => q.elim⟩
    obtain ⟨dd, k, rfl, rfl, hd, ret⟩ := hE
    refine ⟨true, T.xNoText.exm T.clF T.tyF T.sbF, fun _ a ha len => ?_, fun z => nomatch z⟩
    obtain ⟨a0, a1, a2, rfl⟩ : ∃ a0 a1 a2, σ' = [a0, a1, a2] := by
      have l4 : σ'.length = 3 := by
        have e : ((([] : List Nat).length + 3) : Nat) = 3 := rfl
        rw [List.length_set, List.length_set, List.length_set] at len
        exact len
      match σ', l4 with
      | [a0, a1, a2], _ => exact ⟨a0, a1, a2, rfl⟩
    have nd : dd ≠ a := ne_of_none hd ha
    have xr : XR (upd H' a (ExR (.ref z.cNoText) (some dd) a)) a z.cNoText [("line", .int (k : Nat))] := ⟨dd, upd_same, by rw [upd_ne nd]; exact hd⟩
    refine ⟨_, rfl, .inl ⟨a, z.cNoText, _, _, true, rfl, T.xNoText.xc, T.xb, .inr ⟨_, xr⟩, .own z.cNoText, by unfold PySem.W.kitOne; simp, ?_⟩⟩
    refine ⟨_, rfl, iteB1 rfl ?_⟩
    exact ⟨_, rfl, a, z.cNoText, _, _, rfl, T.xNoText.xc, T.nNoText_line, xr, rfl, ret a ha⟩
end
theorem ext_out {z : Pz} {H H1 : Hp} {Q : VK} {k : Nat} (s : Same H H1) (ret : ∀ H', Same H1 H' → Q (.int (k : Nat)) H') : OutX z.cNoText "line" (.int (k : Nat)) H1 (TTe z Q) := fun d H' s' e => ⟨d, k, rfl, rfl, e, fun a' ha => ret _ (smN s' ha)⟩
def spLaw (K : PySem.W.Frag) (Tb : List (Addr × Str)) : Sp := fun vs H Q _ => ∃ (a : Addr) (ns : List Int), vs = [.ref a] ∧ SqL K H a (ns.map V.int) ∧ ns.length ≤ 63 ∧ LamX.Tabs Tb H ∧ ∀ H', Q (.bl true) H'
theorem lns_join {L : List (List Nat)} (h0 : L ≠ []) (h : ∀ l ∈ L, 10 ∉ l) : lns (TL.joinL [10] L) = L := TL.spl_join h0 h
theorem plain_sum : ∀ {L : List (List Nat)}, (∀ l ∈ L, plainT l = true) → (L.map List.length).sum ≤ 100 * L.length
  | [], _ => Nat.le_refl _
  | x :: xs, h => by
    have := plain_sum (L := xs) fun y hy => h y (List.mem_cons_of_mem _ hy)
    have hx := h x List.mem_cons_self
    unfold plainT at hx
    rw [Bool.and_eq_true, decide_eq_true_eq, decide_eq_true_eq] at hx
    rw [List.map_cons, List.sum_cons, List.length_cons]
    omega
theorem plain_len {L : List (List Nat)} (h : ∀ l ∈ L, plainT l = true) (h2 : L ≠ []) : (TL.joinL [10] L).length ≤ 101 * L.length := by
  have := joinL_len (d := 10) h2
  have e : (L.map List.length).sum ≤ 100 * L.length := by
    clear this h2
    induction L with
    | nil => exact Nat.le_refl _
    | cons x xs ih =>
      have := ih fun y hy => h y (List.mem_cons_of_mem _ hy)
      have hx := h x List.mem_cons_self
      unfold plainT at hx
      rw [Bool.and_eq_true, decide_eq_true_eq, decide_eq_true_eq] at hx
      rw [List.map_cons, List.sum_cons, List.length_cons]
      omega
  omega
theorem plain_10 {L : List (List Nat)} (h : ∀ l ∈ L, plainT l = true) : ∀ l ∈ L, 10 ∉ l := fun l hl => by
  have := h l hl
  unfold plainT at this
  rw [Bool.and_eq_true, decide_eq_true_eq, decide_eq_true_eq] at this
  exact this.1
theorem joinL_mem {c d : Nat} : ∀ {bs : List (List Nat)}, c ∈ TL.joinL [d] bs → c = d ∨ ∃ b ∈ bs, c ∈ b
  | [], h => by simp [TL.joinL] at h
  | [b], h => .inr ⟨b, by simp, by simpa [TL.joinL] using h⟩
  | b :: b2 :: bs, h => by
    have e : TL.joinL [d] (b :: b2 :: bs) = b ++ [d] ++ TL.joinL [d] (b2 :: bs) := by simp [TL.joinL]
    rw [e] at h
    rcases List.mem_append.mp h with h | h
    · rcases List.mem_append.mp h with h | h
      · exact .inr ⟨b, by simp, h⟩
      · exact .inl (List.mem_singleton.mp h)
    · rcases joinL_mem h with h | ⟨x, h1, h2⟩
      · exact .inl h
      · exact .inr ⟨x, List.mem_cons_of_mem _ h1, h2⟩
theorem plA {B : List (List Nat)} (h : ∀ x ∈ B, plainA x = true) : (∀ x ∈ B, plainT x = true) ∧ Asc (TL.joinL [10] B) := by
  have h2 : ∀ x ∈ B, plainT x = true ∧ Asc x := fun x hx => by
    have := h x hx
    unfold plainA at this
    rw [Bool.and_eq_true] at this
    exact ⟨this.1, fun c hc => of_decide_eq_true (List.all_eq_true.mp this.2 c hc)⟩
  refine ⟨fun x hx => (h2 x hx).1, fun c hc => ?_⟩
  rcases joinL_mem hc with e | ⟨b, h3, h4⟩
  · rw [e]; decide
  · exact (h2 b h3).2 c h4
theorem extN_put {H0 H : Hp} {q : Addr} {o : HO} (x : LamX.ExtN H0 H) (h : H0 q = none) : LamX.ExtN H0 (upd H q o) := fun b u e n => by
  rw [upd_ne (ne_of_none e h)]
  exact x b u e n
theorem extN_tr {H0 H H' : Hp} (x : LamX.ExtN H0 H) (y : LamX.ExtN H H') : LamX.ExtN H0 H' := fun b u e n => y b u (x b u e n) n
theorem nm_a : NameK [97] := by unfold NameK; decide +kernel
theorem nm_b : NameK [98] := by unfold NameK; decide +kernel
theorem mk_1 : MaskK [2] [49, 42] := by
  unfold MaskK
  refine ⟨by decide, by decide, by decide +kernel, by decide +kernel⟩
section
variable {P : Program} {wo : World} {K : PySem.W.Frag} {mg : Str → Option Value} {base : Heap} {z : Pz} {w : Lz}
theorem ok_law {Tb : List (Addr × Str)} {cL PL f : Addr} {oc kV doc pm ct : Value} {od an : Option Addr} {osl : Array (Option Value)} (T : TxL K mg z w)
    (lk : K.lookup f = some ⟨oc, od, .func (PySem.W.fnOf "law" "law" (defArgs s_law) (defBody s_law) (defScope s_law) .none kV doc pm an (.ref cL) ct), osl⟩) (hcd : PySem.W.codeIn K (.ref cL) "law" = true)
    (TB : LamX.TabB base mg cL PL) (hmT : (PL, qLaw) ∈ Tb) (hu : ∀ p ∈ Tb, p.1 = PL → p.2 = qLaw) :
    FnOk P wo K mg base CX0 9 f (PySem.W.fnOf "law" "law" (defArgs s_law) (defBody s_law) (defScope s_law) .none kV doc pm an (.ref cL) ct) ["_law_script"] (spLaw K Tb) := by
  obtain ⟨ocC, odC, kVC, docC, pmC, anC, cdC, ctC, oslC, efC, lkC, hcC⟩ := T.F_Lheard.ex
  have bC := T.b_Lheard
  rw [efC] at lkC bC
  refine okC lk hcd sc_law (fun {vs H Q E} h => ?_) (fun {A outer s H vs Q E} hr h => ?_)
  · obtain ⟨a, ns, rfl, _⟩ := h
    rfl
  · obtain ⟨a, ns, rfl, hS, hlen, hT, kk⟩ := h
    have hr8 : Room 8 _ := hr
    have hr6 : Room 6 _ := hr.mono (by decide)
    have hr3 : Room 3 _ := hr.mono (by decide)
    have hr2 : Room 2 _ := hr.mono (by decide)
    have hr1 : Room 1 _ := hr.mono (by decide)
    have hu64 := hr.units
    have G_Lpen : FnOk P wo K mg base CX0 1 w.a_Lpen w.d_Lpen ["_law_script"] (spPenN K) := ok_Lpen T
    have G_Lpick : FnOk P wo K mg base CX0 2 w.a_Lpick w.d_Lpick ["_law_pen_here", "_law_some"] (spPick K) := ok_Lpick T
    have G_Lrows : FnOk P wo K mg base CX0 3 w.a_Lrows w.d_Lrows ["_law_pen_here"] (spGoodL rowG) := ok_Lrows T
    have G_Levents : FnOk P wo K mg base CX0 3 w.a_Levents w.d_Levents ["_law_pen_here"] (spGoodL evG) := ok_Levents T
    have G_Lodd_row : FnOk P wo K mg base CX0 3 w.a_Lodd_row w.d_Lodd_row ["_law_pen_here"] (spOddL rowG) := ok_Lodd_row T
    have G_Lodd_event : FnOk P wo K mg base CX0 3 w.a_Lodd_event w.d_Lodd_event ["_law_pen_here"] (spOddL evG) := ok_Lodd_event T
    have G_Lbent : FnOk P wo K mg base CX0 3 w.a_Lbent w.d_Lbent ["_law_pen_here", "_law_lines", "_law_odd"] spBentG := ok_Lbent T
    have G_Store_init : FnOk P wo K mg base CX0 5 z.a_Store_init z.d_Store_init ["self", "sizes", "rules", "changes"] (spStI z.C_Store K) := ok_Store_init T.toTxp
    have G_read_driver : FnOk P wo K mg base (L2.CX P wo) 6 z.a_read_driver z.d_read_driver ["store", "text"] (fun vs H Q E => ∃ st, spRead rowG K z.cNoText [st] vs H Q E) := ok_read_driver T.toTxp
    have G_read_story : FnOk P wo K mg base (L2.CX P wo) 6 z.a_read_story z.d_read_story ["text"] (spRead evG K z.cNoText []) := ok_read_story T.toTxp
    refine ⟨_, (pss_cons (ps_set (i := 1) sc_law.nd rfl (Or.inl rfl) (pe_call G_Lpen hr1 rfl T.g_Lpen T.k_Lpen T.b_Lpen .nil pass0 (pa_cons (pv 0) pa_nil)))
      (pss_cons (ps_set (i := 6) sc_law.nd rfl (Or.inr rfl) (pe_make T.mkP_Store G_Store_init hr6 rfl T.g_Store T.b_Store_init .nil pass0 (pa_cons (pe_lst (pa_cons pe_int pa_nil)) (pa_cons (pe_lst (pa_cons (pe_tup (pa_cons pe_str (pa_cons pe_str pa_nil))) pa_nil)) (pa_cons (pe_lst (pa_cons (pe_tup (pa_cons pe_str (pa_cons pe_str pa_nil))) pa_nil)) pa_nil)))))
      (pss_cons (ps_for PassesOwn.never rfl (pi_range1 rfl T.n_range (pa_cons pe_int pa_nil)) (pg_name (i := 2) sc_law.nd rfl (Or.inl rfl))
        (pss_cons (ps_asg (pe_call G_Lbent hr3 rfl T.g_Lbent T.k_Lbent T.b_Lbent .nil pass0 (pa_cons (pv 1) (pa_cons (pe_call G_Lrows hr3 rfl T.g_Lrows T.k_Lrows T.b_Lrows .nil pass0 (pa_cons (pv 1) pa_nil)) (pa_cons (pe_call G_Lodd_row hr3 rfl T.g_Lodd_row T.k_Lodd_row T.b_Lodd_row .nil pass0 (pa_cons (pv 1) pa_nil)) pa_nil)))) (pg_tup rfl (pgs_cons (pg_name (i := 5) sc_law.nd rfl (Or.inr rfl)) (pgs_cons (pg_name (i := 3) sc_law.nd rfl (Or.inl rfl)) pgs_nil))))
        (pss_cons (ps_if (pt_cmpR op_ne (LamX.pe_lamcall (T := Tb) (TT := TTc z) (k := 6) rfl T.g_Lheard T.k_Lheard lkC hcC bC sc_Lheard rfl (Or.inl rfl) (ok_Lheard (cdv := cdC) T) TB rfl hmT hu hr8 (LamX.lamS_by (by first | decide +kernel | kernel_rfl | rfl)) rfl (fun _ _ _ _ _ => rfl) (fun A outer s H E f c' hr => (pe_call G_read_driver hr rfl T.g_read_driver T.k_read_driver T.b_read_driver .nil (passes_call (takes_of rfl rfl rfl rfl) (fun _ _ _ _ h => h)) (pa_cons (pv 6) (pa_cons (pe_joinK (K := K) rfl pe_str (pa_cons (pv 5) pa_nil)) pa_nil))))) (pv 3) (nomark _))
          (pss_one (ps_ret pe_bl))
          pss_nil)
        (pss_cons (ps_asg (pe_call G_Lbent hr3 rfl T.g_Lbent T.k_Lbent T.b_Lbent .nil pass0 (pa_cons (pv 1) (pa_cons (pe_call G_Levents hr3 rfl T.g_Levents T.k_Levents T.b_Levents .nil pass0 (pa_cons (pv 1) pa_nil)) (pa_cons (pe_call G_Lodd_event hr3 rfl T.g_Lodd_event T.k_Lodd_event T.b_Lodd_event .nil pass0 (pa_cons (pv 1) pa_nil)) pa_nil)))) (pg_tup rfl (pgs_cons (pg_name (i := 5) sc_law.nd rfl (Or.inr rfl)) (pgs_cons (pg_name (i := 3) sc_law.nd rfl (Or.inl rfl)) pgs_nil))))
        (pss_cons (ps_if (pt_cmpR op_ne (LamX.pe_lamcall (T := Tb) (TT := TTc z) (k := 6) rfl T.g_Lheard T.k_Lheard lkC hcC bC sc_Lheard rfl (Or.inl rfl) (ok_Lheard (cdv := cdC) T) TB rfl hmT hu hr8 (LamX.lamS_by (by first | decide +kernel | kernel_rfl | rfl)) rfl (fun _ _ _ _ _ => rfl) (fun A outer s H E f c' hr => (pe_call G_read_story hr rfl T.g_read_story T.k_read_story T.b_read_story .nil (passes_call (takes_of rfl rfl rfl rfl) (fun _ _ _ _ h => h)) (pa_cons (pe_joinK (K := K) rfl pe_str (pa_cons (pv 5) pa_nil)) pa_nil)))) (pv 3) (nomark _))
          (pss_one (ps_ret pe_bl))
          pss_nil)
        (pss_cons (ps_set (i := 7) sc_law.nd rfl (Or.inr rfl) (pe_call G_Lpick hr2 rfl T.g_Lpick T.k_Lpick T.b_Lpick .nil pass0 (pa_cons (pv 1) (pa_cons (pe_lst (pa_cons pe_non (pa_cons pe_int (pa_cons pe_bl (pa_cons (pv 5) (pa_cons (pe_callTy call_tuple_of (by rfl) T.n_tuple (by decide +kernel) (pa_cons (pv 5) pa_nil)) (pa_cons pe_dnewK (pa_cons (pe_tup (pa_cons pe_str pa_nil)) pa_nil)))))))) pa_nil))))
        (pss_cons (ps_set (i := 4) sc_law.nd rfl (Or.inl rfl) (pe_lst (pa_cons (LamX.pe_lamcall (T := Tb) (TT := TTc z) (k := 6) rfl T.g_Lheard T.k_Lheard lkC hcC bC sc_Lheard rfl (Or.inl rfl) (ok_Lheard (cdv := cdC) T) TB rfl hmT hu hr8 (LamX.lamS_by (by first | decide +kernel | kernel_rfl | rfl)) rfl (fun _ _ _ _ _ => rfl) (fun A outer s H E f c' hr => (pe_call G_read_driver hr rfl T.g_read_driver T.k_read_driver T.b_read_driver .nil (passes_call (takes_of rfl rfl rfl rfl) (fun _ _ _ _ h => h)) (pa_cons (pv 6) (pa_cons (pv 7) pa_nil))))) pa_nil)))
        (pss_cons (ps_expr (pe_bm PySem.F.plainAttrs_list PySem.F.slot_list_append PySem.F.type_list_append mt_append (pv 4) (pa_cons (LamX.pe_lamcall (T := Tb) (TT := TTc z) (k := 6) rfl T.g_Lheard T.k_Lheard lkC hcC bC sc_Lheard rfl (Or.inl rfl) (ok_Lheard (cdv := cdC) T) TB rfl hmT hu hr8 (LamX.lamS_by (by first | decide +kernel | kernel_rfl | rfl)) rfl (fun _ _ _ _ _ => rfl) (fun A outer s H E f c' hr => (pe_call G_read_story hr rfl T.g_read_story T.k_read_story T.b_read_story .nil (passes_call (takes_of rfl rfl rfl rfl) (fun _ _ _ _ h => h)) (pa_cons (pv 7) pa_nil)))) pa_nil)))
        (pss_cons (ps_expr (pe_bm PySem.F.plainAttrs_list PySem.F.slot_list_append PySem.F.type_list_append mt_append (pv 4) (pa_cons (LamX.pe_lamcall (T := Tb) (TT := TTc z) (k := 6) rfl T.g_Lheard T.k_Lheard lkC hcC bC sc_Lheard rfl (Or.inl rfl) (ok_Lheard (cdv := cdC) T) TB rfl hmT hu hr8 (LamX.lamS_by (by first | decide +kernel | kernel_rfl | rfl)) rfl (fun _ _ _ _ _ => rfl) (fun A outer s H E f c' hr => (pe_call G_read_driver hr rfl T.g_read_driver T.k_read_driver T.b_read_driver .nil (passes_call (takes_of rfl rfl rfl rfl) (fun _ _ _ _ h => h)) (pa_cons (pv 6) (pa_cons pe_str pa_nil))))) pa_nil)))
        (pss_cons (ps_expr (pe_bm PySem.F.plainAttrs_list PySem.F.slot_list_append PySem.F.type_list_append mt_append (pv 4) (pa_cons (LamX.pe_lamcall (T := Tb) (TT := TTc z) (k := 6) rfl T.g_Lheard T.k_Lheard lkC hcC bC sc_Lheard rfl (Or.inl rfl) (ok_Lheard (cdv := cdC) T) TB rfl hmT hu hr8 (LamX.lamS_by (by first | decide +kernel | kernel_rfl | rfl)) rfl (fun _ _ _ _ _ => rfl) (fun A outer s H E f c' hr => (pe_call G_read_story hr rfl T.g_read_story T.k_read_story T.b_read_story .nil (passes_call (takes_of rfl rfl rfl rfl) (fun _ _ _ _ h => h)) (pa_cons pe_str pa_nil)))) pa_nil)))
        (pss_one (ps_if (pt_cmpR (op_neD hu64) (pv 4) (pe_lst (pa_cons pe_int (pa_cons pe_int (pa_cons pe_int (pa_cons pe_int pa_nil))))) (nomark _))
          (pss_one (ps_ret pe_bl))
          pss_nil))))))))))))
      (pss_one (ps_ret pe_bl))))), ?_⟩
    refine ⟨_, rfl, a, ns, rfl, hS, hlen, fun p l H1 hp1 hl1 s1 P1 => ?_⟩
    -- the store
    rw [show ("1*" : Str) = S [49, 42] by decide +kernel, show ("a" : Str) = S [97] by decide +kernel, show ("b" : Str) = S [98] by decide +kernel]
    refine ⟨by show 1 ≤ sizeLine; decide, fun a1 k1 => ?_⟩
    have t1 := smN (o := .lst (nums [2])) (Same.refl H1) k1
    have m1 : (upd H1 a1 (.lst (nums [2]))) a1 = some (.lst (nums [2])) := upd_same
    have eu1 : upd H1 a1 (.lst [.int 2]) = upd H1 a1 (.lst (nums [2])) := rfl
    rw [eu1]
    generalize upd H1 a1 (.lst (nums [2])) = Ha at t1 m1
    refine ⟨by show 2 ≤ sizeLine; decide, fun a2 k2 => ?_⟩
    have t2 := smN (o := .tup [.str (S [49, 42]), .str (S [97])]) (Same.refl Ha) k2
    have m2 : (upd Ha a2 (.tup [.str (S [49, 42]), .str (S [97])])) a2 = some (.tup [.str (S [49, 42]), .str (S [97])]) := upd_same
    generalize upd Ha a2 (.tup [.str (S [49, 42]), .str (S [97])]) = Hb at t2 m2
    refine ⟨by show 1 ≤ sizeLine; decide, fun a3 k3 => ?_⟩
    have t3 := smN (o := .lst [.ref a2]) (Same.refl Hb) k3
    have m3 : (upd Hb a3 (.lst [.ref a2])) a3 = some (.lst [.ref a2]) := upd_same
    generalize upd Hb a3 (.lst [.ref a2]) = Hc at t3 m3
    refine ⟨by show 2 ≤ sizeLine; decide, fun a4 k4 => ?_⟩
    have t4 := smN (o := .tup [.str (S [97]), .str (S [98])]) (Same.refl Hc) k4
    have m4 : (upd Hc a4 (.tup [.str (S [97]), .str (S [98])])) a4 = some (.tup [.str (S [97]), .str (S [98])]) := upd_same
    generalize upd Hc a4 (.tup [.str (S [97]), .str (S [98])]) = Hd at t4 m4
    refine ⟨by show 1 ≤ sizeLine; decide, fun a5 k5 => ?_⟩
    have t5 := smN (o := .lst [.ref a4]) (Same.refl Hd) k5
    have m5 : (upd Hd a5 (.lst [.ref a4])) a5 = some (.lst [.ref a4]) := upd_same
    generalize upd Hd a5 (.lst [.ref a4]) = He at t5 m5
    refine fun st dx hst hdx ndx => ?_
    have sm : Same He (upd (upd He dx (.own st)) st (.ins z.C_Store dx [])) := fun b o e => by rw [upd_ne (ne_of_none e hst), upd_ne (ne_of_none e hdx)]; exact e
    have n1 := (((t2.trans t3).trans t4).trans t5) _ _ m1
    have n2 := ((t3.trans t4).trans t5) _ _ m2
    have n3 := (t4.trans t5) _ _ m3
    have n4 := t5 _ _ m4
    refine ⟨st, a1, a3, a5, dx, [2], [.ref a2], [.ref a4], [([49, 42], [97])], [([97], [98])], rfl, upd_same, sm _ _ n1, by unfold StOk; decide, sm _ _ n3, .cons ⟨a2, rfl, sm _ _ n2, mk_1, nm_a⟩ .nil, by decide, sm _ _ m5, .cons ⟨a4, rfl, sm _ _ n4, nm_a, nm_b⟩ .nil, by decide, by decide, by decide, fun fs H3 keep est => ⟨rfl, ?_⟩⟩
    have s13 : Same H1 H3 := fun b o e => by
      have e5 := ((((t1.trans t2).trans t3).trans t4).trans t5) _ _ e
      exact keep b o (ne_of_none e5 hst) (sm _ _ e5)
    have P3 := P1.same s13
    have T3 := (hT.ext s1).ext s13
    clear sm n1 n2 n3 n4 m1 m2 m3 m4 m5 t1 t2 t3 t4 t5 keep est P1 s13 hst hdx ndx k1 k2 k3 k4 k5 eu1
    refine ⟨8, rfl, by decide, by decide, for_range (n := 8) (fun i σ H' => PenN H' p l (1000 * i) ∧ LamX.Tabs Tb H' ∧ ∃ x2 x3 x4 x5 x7 : Option V, σ = [some (.ref a), some (.ref p), x2, x3, x4, x5, some (.ref st), x7])
      ⟨P3.mono (by omega), T3, none, none, none, none, none, rfl⟩ ?_ ?_⟩
    · rintro i σ H2 hi ⟨P2, T2, x2, x3, x4, x5, x7, rfl⟩
      -- rows
      refine ⟨_, rfl, _, rfl, p, l, 1000 * i, rfl, by omega, P2, fun qR L H4 nR hR lR gR B4 P4 => ?_⟩
      refine ⟨_, rfl, p, l, 1000 * i + 8, rfl, by omega, P4, fun t H5 ot B5 P5 => ?_⟩
      refine ⟨p, l, qR, 1000 * i + 9, rowG, L, t, rfl, by omega, P5, nR, B5 _ _ nR hR, lR, gR, ot, none_tab.2.1, fun u D B b H6 hu6 nD hD nB lB pB rB B6 P6 => ?_⟩
      have T6 := tabs_but (tabs_but (tabs_but T2 P2 B4) P4 B5) P5 B6
      refine ⟨u, _, rfl, SqT.of hu6, rfl, ?_⟩
      refine ⟨_, _, rfl, ?_⟩
      refine ⟨_, _, rfl, ?_⟩
      refine ⟨rfl, ?_⟩
      obtain ⟨pT, aB⟩ := plA pB
      have lJ := plain_len pT nB
      have ps := plain_sum pT
      refine ⟨T6, fun H7 y7 T7 => ?_⟩
      have hD7 : H7 D = some (.lst (txV B)) := y7 _ _ hD (fun ps q => nomatch q)
      have P7 := PenN.ext y7 P6
      refine ⟨_, rfl, rfl, _, rfl, "\n", D, B.map S, rfl, rfl, .inl (SqL.of hD7), ?_, ?_⟩
      · rw [SX.lens]
        show (B.map List.length).sum + (B.map S).length * 1 ≤ sizeLine
        rw [List.length_map]
        exact Nat.le_trans (show _ ≤ 10000 by omega) (by decide)
      rw [show ("\n" : Str) = S [10] by decide +kernel, SX.join_S]
      refine ⟨_, .inl ⟨_, b, rfl, by omega, aB, by rw [lns_join nB (plain_10 pT)]; exact rB, ext_out (Same.refl _) fun H8 s8 => ?_⟩⟩
      refine ⟨_, rfl, rfl, _, rfl, iteB0 (by rw [decide_eq_true rfl] <;> rfl) ?_⟩
      have P8 := P7.same s8
      have T8 := T7.ext s8
      clear hD hD7 P7 T7 y7 s8 aB lJ ps pT rB pB lB hu6 T6 P6 B6 P5 B5 P4 B4 hR gR P2 T2
      -- events
      refine ⟨_, rfl, _, rfl, p, l, 1000 * i + 13, rfl, by omega, P8, fun qR2 L2 H9 nR2 hR2 lR2 gR2 B9 P9 => ?_⟩
      refine ⟨_, rfl, p, l, 1000 * i + 21, rfl, by omega, P9, fun t2 HA ot2 BA PA => ?_⟩
      refine ⟨p, l, qR2, 1000 * i + 22, evG, L2, t2, rfl, by omega, PA, nR2, BA _ _ nR2 hR2, lR2, gR2, ot2, none_tab.2.2.1, fun u2 D2 B2 b2 HB hu2 nD2 hD2 nB2 lB2 pB2 rB2 BB PB => ?_⟩
      have TB2 := tabs_but (tabs_but (tabs_but T8 P8 B9) P9 BA) PA BB
      refine ⟨u2, _, rfl, SqT.of hu2, rfl, ?_⟩
      refine ⟨_, _, rfl, ?_⟩
      refine ⟨_, _, rfl, ?_⟩
      refine ⟨rfl, ?_⟩
      obtain ⟨pT, aB⟩ := plA pB2
      have lJ := plain_len pT nB2
      have ps := plain_sum pT
      refine ⟨TB2, fun HC yC TC => ?_⟩
      have hDC : HC D2 = some (.lst (txV B2)) := yC _ _ hD2 (fun ps q => nomatch q)
      have PC := PenN.ext yC PB
      refine ⟨rfl, _, rfl, S [10], D2, B2.map S, rfl, rfl, .inl (SqL.of hDC), ?_, ?_⟩
      · rw [SX.lens]
        show (B2.map List.length).sum + (B2.map S).length * 1 ≤ sizeLine
        rw [List.length_map]
        exact Nat.le_trans (show _ ≤ 10000 by omega) (by decide)
      rw [SX.join_S]
      refine .inl ⟨_, b2, rfl, by omega, aB, by rw [lns_join nB2 (plain_10 pT)]; exact rB2, ext_out (Same.refl _) fun HD sD => ?_⟩
      refine ⟨_, rfl, rfl, _, rfl, iteB0 (by rw [decide_eq_true rfl] <;> rfl) ?_⟩
      have PD := PC.same sD
      have TD := TC.ext sD
      have hDD := sD _ _ hDC
      clear hD2 hDC PC TC yC sD aB lJ ps pT rB2 pB2 lB2 hu2 TB2 PB BB PA BA P9 B9 hR2 gR2 P8 T8
      -- what is no text
      refine ⟨_, rfl, _, rfl, _, rfl, D2, _, rfl, .inl ⟨SqL.of hDD, fun u1 v1 => ?_⟩⟩
      have s1 := smN (o := .tup (txV B2)) (Same.refl HD) v1
      have m1 : (upd HD u1 (.tup (txV B2))) u1 = some (.tup (txV B2)) := upd_same
      have n1 := PD.nep v1
      have Pa := PD.same s1
      generalize upd HD u1 (.tup (txV B2)) = Ka at s1 m1 Pa
      refine fun u2 v2 => ?_
      have s2 := smN (o := .dK []) (Same.refl Ka) v2
      have m2 : (upd Ka u2 (.dK [])) u2 = some (.dK []) := upd_same
      have n2 := Pa.nep v2
      have Pb := Pa.same s2
      generalize upd Ka u2 (.dK []) = Kb at s2 m2 Pb
      refine ⟨by show 1 ≤ sizeLine; decide, fun u3 v3 => ?_⟩
      have s3 := smN (o := .tup [.str "done"]) (Same.refl Kb) v3
      have m3 : (upd Kb u3 (.tup [.str "done"])) u3 = some (.tup [.str "done"]) := upd_same
      have n3 := Pb.nep v3
      have Pc := Pb.same s3
      generalize upd Kb u3 (.tup [.str "done"]) = Kc at s3 m3 Pc
      refine ⟨by show 7 ≤ sizeLine; decide, fun u4 v4 => ?_⟩
      have s4 := smN (o := .lst [.non, .int 7, .bl false, .ref D2, .ref u1, .ref u2, .ref u3]) (Same.refl Kc) v4
      have m4 : (upd Kc u4 (.lst [.non, .int 7, .bl false, .ref D2, .ref u1, .ref u2, .ref u3])) u4 = some (.lst [.non, .int 7, .bl false, .ref D2, .ref u1, .ref u2, .ref u3]) := upd_same
      have n4 := Pc.nep v4
      have Pd := Pc.same s4
      generalize upd Kc u4 (.lst [.non, .int 7, .bl false, .ref D2, .ref u1, .ref u2, .ref u3]) = Kd at s4 m4 Pd
      have sabcd := ((s1.trans s2).trans s3).trans s4
      refine ⟨p, l, u4, 1000 * i + 26, _, rfl, m4, Ne.symm n4, by show 1 ≤ 7; decide, by show 7 ≤ 1000; decide, by omega, Pd, fun j v HE ev BE PE => ?_⟩
      have TE := tabs_but (TD.ext sabcd) Pd BE
      have hDE := BE _ _ nD2 (sabcd _ _ hDD)
      have e1 := BE _ _ (Ne.symm n1) ((((s2.trans s3).trans s4)) _ _ m1)
      have e2 := BE _ _ (Ne.symm n2) (((s3.trans s4)) _ _ m2)
      have e3 := BE _ _ (Ne.symm n3) (s4 _ _ m3)
      have odd : ∀ H', LamX.ExtN HE H' → ∃ t, TyX K H' v t ∧ PySem.W.kitOne K t (.type "str") = some false := fun H' x' => by
        have hj := (List.getElem?_eq_some_iff.mp ev).1
        have : j = 0 ∨ j = 1 ∨ j = 2 ∨ j = 3 ∨ j = 4 ∨ j = 5 ∨ j = 6 := by
          have : j < 7 := hj
          omega
        rcases this with rfl | rfl | rfl | rfl | rfl | rfl | rfl <;> cases ev
        · exact ⟨_, .base .non, kit_ty (by decide +kernel)⟩
        · exact ⟨_, .base (.int _), kit_ty (by decide +kernel)⟩
        · exact ⟨_, .base (.bl _), kit_ty (by decide +kernel)⟩
        · exact ⟨_, .base (.lst (x' _ _ hDE (fun ps q => nomatch q))), kit_ty (by decide +kernel)⟩
        · exact ⟨_, .base (.tup (x' _ _ e1 (fun ps q => nomatch q))), kit_ty (by decide +kernel)⟩
        · exact ⟨_, .base (.dK (x' _ _ e2 (fun ps q => nomatch q))), kit_ty (by decide +kernel)⟩
        · exact ⟨_, .base (.tup (x' _ _ e3 (fun ps q => nomatch q))), kit_ty (by decide +kernel)⟩
      clear m1 m2 m3 m4 s1 s2 s3 s4 e1 e2 e3 ev Pa Pb Pc Pd sabcd hDD hDE PD TD BE
      refine ⟨TE, fun HF yF TF => ?_⟩
      obtain ⟨ty, ht, hk⟩ := odd HF yF
      have PF := PenN.ext yF PE
      refine ⟨_, rfl, _, rfl, _, .inr ⟨v, ty, rfl, ht, hk, ext_out (k := 0) (Same.refl _) fun HG sG => ?_⟩⟩
      have PG := PF.same sG
      have TG := TF.ext sG
      have xG := LamX.ExtN.trans yF (LamX.ExtN.of sG)
      clear yF sG PF TF ht hk
      refine ⟨by show 1 ≤ sizeLine; decide, fun qh kh => ?_⟩
      have nhp := PG.nep kh
      have nhl := PG.nel kh
      have odd2 := fun H' (x : LamX.ExtN HG H') => odd H' (LamX.ExtN.trans xG x)
      clear odd xG
      have s1 := smN (o := .lst [.int 0]) (Same.refl HG) kh
      have mq1 : (upd HG qh (.lst [.int 0])) qh = some (.lst [.int 0]) := upd_same
      have Pq1 := PG.same s1
      have Tq1 := TG.ext s1
      have xq1 := LamX.ExtN.of s1
      clear s1
      generalize upd HG qh (.lst [.int 0]) = Q1 at mq1 Pq1 Tq1 xq1
      refine ⟨_, rfl, .inl ⟨rfl, _, SqL.of mq1⟩, Tq1, fun HI y T' => ?_⟩
      have xa := LamX.ExtN.trans xq1 y
      have Pa := PenN.ext y Pq1
      have ma : HI qh = some (.lst [.int 0]) := y _ _ mq1 (fun ps q => nomatch q)
      obtain ⟨ty, ht, hk⟩ := odd2 _ xa
      refine ⟨_, rfl, .inr ⟨v, ty, rfl, ht, hk, ext_out (k := 0) (Same.refl _) fun HJ s' => ?_⟩⟩
      clear ht hk
      have xb := LamX.ExtN.trans xa (LamX.ExtN.of s')
      have Pb := Pa.same s'
      have Tb' := T'.ext s'
      have mb := s' _ _ ma
      refine ⟨qh, [.int 0], .int 0, rfl, rfl, mb, by show 1 < sizeLine; decide, ?_⟩
      have mq2 : (upd HJ qh (.lst ([.int 0] ++ [.int 0]))) qh = some (.lst ([.int 0] ++ [.int 0])) := upd_same
      have Pq2 := Pb.put (o := .lst ([.int 0] ++ [.int 0])) nhp nhl
      have Tq2 := tabs_lst Tb' mb (fun c o hc e => by rw [upd_ne hc]; exact e : But qh HJ (upd HJ qh (.lst ([.int 0] ++ [.int 0]))))
      have xq2 := extN_put (o := .lst ([.int 0] ++ [.int 0])) xb kh
      generalize upd HJ qh (.lst ([.int 0] ++ [.int 0])) = Q2 at mq2 Pq2 Tq2 xq2
      clear y T' xa Pa ma xb Pb Tb' mb s'
      refine ⟨_, rfl, .inl ⟨rfl, _, SqL.of mq2⟩, Tq2, fun HK y T' => ?_⟩
      have xa := LamX.ExtN.trans xq2 y
      have Pa := PenN.ext y Pq2
      have ma : HK qh = some (.lst ([.int 0] ++ [.int 0])) := y _ _ mq2 (fun ps q => nomatch q)
      refine ⟨_, rfl, _, .inl ⟨[], 0, by rw [show ("" : Str) = S [] from S_e] <;> rfl, by decide, by unfold Asc; decide, by decide +kernel, ext_out (k := 0) (Same.refl _) fun HL s' => ?_⟩⟩
      have xb := LamX.ExtN.trans xa (LamX.ExtN.of s')
      have Pb := Pa.same s'
      have Tb' := T'.ext s'
      have mb := s' _ _ ma
      refine ⟨qh, ([.int 0] ++ [.int 0]), .int 0, rfl, rfl, mb, by show 2 < sizeLine; decide, ?_⟩
      have mq3 : (upd HL qh (.lst (([.int 0] ++ [.int 0]) ++ [.int 0]))) qh = some (.lst (([.int 0] ++ [.int 0]) ++ [.int 0])) := upd_same
      have Pq3 := Pb.put (o := .lst (([.int 0] ++ [.int 0]) ++ [.int 0])) nhp nhl
      have Tq3 := tabs_lst Tb' mb (fun c o hc e => by rw [upd_ne hc]; exact e : But qh HL (upd HL qh (.lst (([.int 0] ++ [.int 0]) ++ [.int 0]))))
      have xq3 := extN_put (o := .lst (([.int 0] ++ [.int 0]) ++ [.int 0])) xb kh
      generalize upd HL qh (.lst (([.int 0] ++ [.int 0]) ++ [.int 0])) = Q3 at mq3 Pq3 Tq3 xq3
      clear y T' xa Pa ma xb Pb Tb' mb s'
      refine ⟨_, rfl, .inl ⟨rfl, _, SqL.of mq3⟩, Tq3, fun HM y T' => ?_⟩
      have xa := LamX.ExtN.trans xq3 y
      have Pa := PenN.ext y Pq3
      have ma : HM qh = some (.lst ([.int 0] ++ [.int 0] ++ [.int 0])) := y _ _ mq3 (fun ps q => nomatch q)
      refine .inl ⟨[100, 111, 110, 101, 10], 1, by rw [show ("done\n" : Str) = S [100, 111, 110, 101, 10] by decide +kernel] <;> rfl, by decide, by unfold Asc; decide, by decide +kernel, ext_out (k := 1) (Same.refl _) fun HN s' => ?_⟩
      have xb := LamX.ExtN.trans xa (LamX.ExtN.of s')
      have Pb := Pa.same s'
      have Tb' := T'.ext s'
      have mb := s' _ _ ma
      refine ⟨qh, ([.int 0] ++ [.int 0] ++ [.int 0]), .int 1, rfl, rfl, mb, by show 3 < sizeLine; decide, ?_⟩
      have mq4 : (upd HN qh (.lst (([.int 0] ++ [.int 0] ++ [.int 0]) ++ [.int 1]))) qh = some (.lst (([.int 0] ++ [.int 0] ++ [.int 0]) ++ [.int 1])) := upd_same
      have Pq4 := Pb.put (o := .lst (([.int 0] ++ [.int 0] ++ [.int 0]) ++ [.int 1])) nhp nhl
      have Tq4 := tabs_lst Tb' mb (fun c o hc e => by rw [upd_ne hc]; exact e : But qh HN (upd HN qh (.lst (([.int 0] ++ [.int 0] ++ [.int 0]) ++ [.int 1]))))
      have xq4 := extN_put (o := .lst (([.int 0] ++ [.int 0] ++ [.int 0]) ++ [.int 1])) xb kh
      generalize upd HN qh (.lst (([.int 0] ++ [.int 0] ++ [.int 0]) ++ [.int 1])) = Q4 at mq4 Pq4 Tq4 xq4
      clear y T' xa Pa ma xb Pb Tb' mb s'
      refine ⟨_, rfl, by show 4 ≤ sizeLine; decide, fun qz kz => ?_⟩
      have sz := smN (o := .lst [.int 0, .int 0, .int 0, .int 1]) (Same.refl Q4) kz
      refine ⟨.list (intD [0, 0, 0, 1]), .list (intD [0, 0, 0, 1]), .lst (SqL.of (sz _ _ mq4)) (dp_ints [0, 0, 0, 1]), .lst (SqL.of upd_same) (dp_ints [0, 0, 0, 1]), shaped_lst (lay_ints _), shaped_lst (lay_ints _), _, rfl, iteB0 (by decide +kernel) ?_⟩
      exact ⟨(Pq4.same sz).mono (by omega), Tq4.ext sz, _, _, _, _, _, rfl⟩
    · rintro σ H2 ⟨P2, T2, x2, x3, x4, x5, x7, rfl⟩
      exact kk _
end
end Fb
set_option maxRecDepth 100000
set_option maxHeartbeats 4000000
namespace Fb
open PySem PySem.Spec PyProof.Rows L2
open SX (S)

theorem all_mk {l : PySem.W.OpenLaw} {w : World} {K : PySem.W.Frag} {h : Heap} {mg : Str → Option Value} {fa : Addr} (X : K.In h) (G : h.Ns mainGlobals mg) (hfa : mg "law" = some (.ref fa))
    {fe : Addr}
    {cNoPattern : Addr} {NxNoPattern : Addr} {nmxNoPattern qxNoPattern : Str} {bsxNoPattern : List Value} {snxNoPattern : List Str} {subxNoPattern : List Value} {abxNoPattern : Bool} {colxNoPattern : Option Bool} {ddxNoPattern : Option Addr} {k0xNoPattern k1xNoPattern k2xNoPattern k3xNoPattern k5xNoPattern : Option Value}
    {a_npi : Addr} {od_npi an_npi : Option Addr} {sl_npi : Array (Option Value)} {oc_npi kV_npi dc_npi pm_npi cd_npi ct_npi : Value}
    {cUnlike : Addr} {NxUnlike : Addr} {nmxUnlike qxUnlike : Str} {bsxUnlike : List Value} {snxUnlike : List Str} {subxUnlike : List Value} {abxUnlike : Bool} {colxUnlike : Option Bool} {ddxUnlike : Option Addr} {k0xUnlike k1xUnlike k2xUnlike k3xUnlike k5xUnlike : Option Value}
    {cNoBit : Addr} {NxNoBit : Addr} {nmxNoBit qxNoBit : Str} {bsxNoBit : List Value} {snxNoBit : List Str} {subxNoBit : List Value} {abxNoBit : Bool} {colxNoBit : Option Bool} {ddxNoBit : Option Addr} {k0xNoBit k1xNoBit k2xNoBit k3xNoBit k5xNoBit : Option Value}
    {cNoStore : Addr} {NxNoStore : Addr} {nmxNoStore qxNoStore : Str} {bsxNoStore : List Value} {snxNoStore : List Str} {subxNoStore : List Value} {abxNoStore : Bool} {colxNoStore : Option Bool} {ddxNoStore : Option Addr} {k0xNoStore k1xNoStore k2xNoStore k3xNoStore k5xNoStore : Option Value}
    {a_NoStorei : Addr} {od_NoStorei an_NoStorei : Option Addr} {sl_NoStorei : Array (Option Value)} {oc_NoStorei kV_NoStorei dc_NoStorei pm_NoStorei cd_NoStorei ct_NoStorei : Value}
    {cNoDriver : Addr} {NxNoDriver : Addr} {nmxNoDriver qxNoDriver : Str} {bsxNoDriver : List Value} {snxNoDriver : List Str} {subxNoDriver : List Value} {abxNoDriver : Bool} {colxNoDriver : Option Bool} {ddxNoDriver : Option Addr} {k0xNoDriver k1xNoDriver k2xNoDriver k3xNoDriver k5xNoDriver : Option Value}
    {a_NoDriveri : Addr} {od_NoDriveri an_NoDriveri : Option Addr} {sl_NoDriveri : Array (Option Value)} {oc_NoDriveri kV_NoDriveri dc_NoDriveri pm_NoDriveri cd_NoDriveri ct_NoDriveri : Value}
    {cNoText : Addr} {NxNoText : Addr} {nmxNoText qxNoText : Str} {bsxNoText : List Value} {snxNoText : List Str} {subxNoText : List Value} {abxNoText : Bool} {colxNoText : Option Bool} {ddxNoText : Option Addr} {k0xNoText k1xNoText k2xNoText k3xNoText k5xNoText : Option Value}
    {a_NoTexti : Addr} {od_NoTexti an_NoTexti : Option Addr} {sl_NoTexti : Array (Option Value)} {oc_NoTexti kV_NoTexti dc_NoTexti pm_NoTexti cd_NoTexti ct_NoTexti : Value}
    {C : Addr}
    {tvBITS : Tok}
    {tvBLOCKS : Tok}
    {C_Store : Addr}
    {ocC_Store : Value} {odC_Store : Option Addr} {cdC_Store : PySem.ClassData} {slC_Store : Array (Option Value)}
    {a_Store_init : Addr} {od_Store_init an_Store_init : Option Addr} {sl_Store_init : Array (Option Value)} {oc_Store_init kV_Store_init dc_Store_init pm_Store_init cd_Store_init ct_Store_init : Value}
    {C_Driver : Addr}
    {tkMOST_BLOCKS : Tok}
    {tkMOST_BITS : Tok}
    {tkMOST_RULES : Tok}
    {tkMOST_CHANGES : Tok}
    {tkMOST_NAME_SIGNS : Tok}
    {tkLETTERS : Tok}
    {tkNAME_SIGNS : Tok}
    {tkMOST_ROWS : Tok}
    {tkNONE : Tok}
    {tkQUIET : Tok}
    {tkDIGITS : Tok}
    {tkMOST_DIGITS : Tok}
    {tkPATTERN_SIGNS : Tok}
    {tkMASK_SIGNS : Tok}
    {a_is_whole : Addr} {od_is_whole an_is_whole : Option Addr} {sl_is_whole : Array (Option Value)} {oc_is_whole kV_is_whole dc_is_whole pm_is_whole cd_is_whole ct_is_whole : Value}
    {a_is_tuple_of : Addr} {od_is_tuple_of an_is_tuple_of : Option Addr} {sl_is_tuple_of : Array (Option Value)} {oc_is_tuple_of kV_is_tuple_of dc_is_tuple_of pm_is_tuple_of cd_is_tuple_of ct_is_tuple_of : Value}
    {a_is_pair : Addr} {od_is_pair an_is_pair : Option Addr} {sl_is_pair : Array (Option Value)} {oc_is_pair kV_is_pair dc_is_pair pm_is_pair cd_is_pair ct_is_pair : Value}
    {a_is_name : Addr} {od_is_name an_is_name : Option Addr} {sl_is_name : Array (Option Value)} {oc_is_name kV_is_name dc_is_name pm_is_name cd_is_name ct_is_name : Value}
    {a_is_mask : Addr} {od_is_mask an_is_mask : Option Addr} {sl_is_mask : Array (Option Value)} {oc_is_mask kV_is_mask dc_is_mask pm_is_mask cd_is_mask ct_is_mask : Value}
    {a_is_rule : Addr} {od_is_rule an_is_rule : Option Addr} {sl_is_rule : Array (Option Value)} {oc_is_rule kV_is_rule dc_is_rule pm_is_rule cd_is_rule ct_is_rule : Value}
    {a_is_change : Addr} {od_is_change an_is_change : Option Addr} {sl_is_change : Array (Option Value)} {oc_is_change kV_is_change dc_is_change pm_is_change cd_is_change ct_is_change : Value}
    {a_check_sizes : Addr} {od_check_sizes an_check_sizes : Option Addr} {sl_check_sizes : Array (Option Value)} {oc_check_sizes kV_check_sizes dc_check_sizes pm_check_sizes cd_check_sizes ct_check_sizes : Value}
    {a_check_rules : Addr} {od_check_rules an_check_rules : Option Addr} {sl_check_rules : Array (Option Value)} {oc_check_rules kV_check_rules dc_check_rules pm_check_rules cd_check_rules ct_check_rules : Value}
    {a_check_changes : Addr} {od_check_changes an_check_changes : Option Addr} {sl_check_changes : Array (Option Value)} {oc_check_changes kV_check_changes dc_check_changes pm_check_changes cd_check_changes ct_check_changes : Value}
    {a_state_names : Addr} {od_state_names an_state_names : Option Addr} {sl_state_names : Array (Option Value)} {oc_state_names kV_state_names dc_state_names pm_state_names cd_state_names ct_state_names : Value}
    {a_matched : Addr} {od_matched an_matched : Option Addr} {sl_matched : Array (Option Value)} {oc_matched kV_matched dc_matched pm_matched cd_matched ct_matched : Value}
    {a_readings : Addr} {od_readings an_readings : Option Addr} {sl_readings : Array (Option Value)} {oc_readings kV_readings dc_readings pm_readings cd_readings ct_readings : Value}
    {a_has_signs : Addr} {od_has_signs an_has_signs : Option Addr} {sl_has_signs : Array (Option Value)} {oc_has_signs kV_has_signs dc_has_signs pm_has_signs cd_has_signs ct_has_signs : Value}
    {a_is_number_word : Addr} {od_is_number_word an_is_number_word : Option Addr} {sl_is_number_word : Array (Option Value)} {oc_is_number_word kV_is_number_word dc_is_number_word pm_is_number_word cd_is_number_word ct_is_number_word : Value}
    {a_are_number_words : Addr} {od_are_number_words an_are_number_words : Option Addr} {sl_are_number_words : Array (Option Value)} {oc_are_number_words kV_are_number_words dc_are_number_words pm_are_number_words cd_are_number_words ct_are_number_words : Value}
    {a_is_name_word : Addr} {od_is_name_word an_is_name_word : Option Addr} {sl_is_name_word : Array (Option Value)} {oc_is_name_word kV_is_name_word dc_is_name_word pm_is_name_word cd_is_name_word ct_is_name_word : Value}
    {a_can_be_row : Addr} {od_can_be_row an_can_be_row : Option Addr} {sl_can_be_row : Array (Option Value)} {oc_can_be_row kV_can_be_row dc_can_be_row pm_can_be_row cd_can_be_row ct_can_be_row : Value}
    {a_can_be_event : Addr} {od_can_be_event an_can_be_event : Option Addr} {sl_can_be_event : Array (Option Value)} {oc_can_be_event kV_can_be_event dc_can_be_event pm_can_be_event cd_can_be_event ct_can_be_event : Value}
    {a_lines_of : Addr} {od_lines_of an_lines_of : Option Addr} {sl_lines_of : Array (Option Value)} {oc_lines_of kV_lines_of dc_lines_of pm_lines_of cd_lines_of ct_lines_of : Value}
    {a_need_alone : Addr} {od_need_alone an_need_alone : Option Addr} {sl_need_alone : Array (Option Value)} {oc_need_alone kV_need_alone dc_need_alone pm_need_alone cd_need_alone ct_need_alone : Value}
    {a_read_driver : Addr} {od_read_driver an_read_driver : Option Addr} {sl_read_driver : Array (Option Value)} {oc_read_driver kV_read_driver dc_read_driver pm_read_driver cd_read_driver ct_read_driver : Value}
    {a_read_story : Addr} {od_read_story an_read_story : Option Addr} {sl_read_story : Array (Option Value)} {oc_read_story kV_read_story dc_read_story pm_read_story cd_read_story ct_read_story : Value}
    {a_Lpen : Addr} {od_Lpen an_Lpen : Option Addr} {sl_Lpen : Array (Option Value)} {oc_Lpen kV_Lpen dc_Lpen pm_Lpen cd_Lpen ct_Lpen : Value}
    {a_Ldraw : Addr} {od_Ldraw an_Ldraw : Option Addr} {sl_Ldraw : Array (Option Value)} {oc_Ldraw kV_Ldraw dc_Ldraw pm_Ldraw cd_Ldraw ct_Ldraw : Value}
    {a_Lpick : Addr} {od_Lpick an_Lpick : Option Addr} {sl_Lpick : Array (Option Value)} {oc_Lpick kV_Lpick dc_Lpick pm_Lpick cd_Lpick ct_Lpick : Value}
    {a_Lheard : Addr} {od_Lheard an_Lheard : Option Addr} {sl_Lheard : Array (Option Value)} {oc_Lheard kV_Lheard dc_Lheard pm_Lheard cd_Lheard ct_Lheard : Value}
    {a_Lrows : Addr} {od_Lrows an_Lrows : Option Addr} {sl_Lrows : Array (Option Value)} {oc_Lrows kV_Lrows dc_Lrows pm_Lrows cd_Lrows ct_Lrows : Value}
    {a_Levents : Addr} {od_Levents an_Levents : Option Addr} {sl_Levents : Array (Option Value)} {oc_Levents kV_Levents dc_Levents pm_Levents cd_Levents ct_Levents : Value}
    {a_Lodd_row : Addr} {od_Lodd_row an_Lodd_row : Option Addr} {sl_Lodd_row : Array (Option Value)} {oc_Lodd_row kV_Lodd_row dc_Lodd_row pm_Lodd_row cd_Lodd_row ct_Lodd_row : Value}
    {a_Lodd_event : Addr} {od_Lodd_event an_Lodd_event : Option Addr} {sl_Lodd_event : Array (Option Value)} {oc_Lodd_event kV_Lodd_event dc_Lodd_event pm_Lodd_event cd_Lodd_event ct_Lodd_event : Value}
    {a_Lbent : Addr} {od_Lbent an_Lbent : Option Addr} {sl_Lbent : Array (Option Value)} {oc_Lbent kV_Lbent dc_Lbent pm_Lbent cd_Lbent ct_Lbent : Value}
    {a_law : Addr} {od_law an_law : Option Addr} {sl_law : Array (Option Value)} {oc_law kV_law dc_law pm_law ct_law : Value}
    {c0 Pc0 : Addr} {odc0 : Option Addr} {vsc0 : Array Value} {slc0 : Array (Option Value)}
    (gF : PySem.W.nsIn K mainGlobals "FallenError" = some (some (.ref fe)))
    (clF : PySem.W.isClsIn K fe = true)
    (tyF : PySem.W.typeIn K (.ref fe) = some (.type "type"))
    (sbF : PySem.W.subIn K (.ref fe) (.type "BaseException") = some true)
    (hn : PySem.W.specialIn K (.builtin "object.__class__") "__get__" = some (some (.builtin "getset_descriptor.__get__")))
    (ht : PySem.W.takesIn K (.builtin "object.__class__") = some true)
    (gxNoPattern : PySem.W.nsIn K mainGlobals "NoPattern" = some (some (.ref cNoPattern)))
    (oxNoPattern : K.lookup cNoPattern = some (excClassObj nmxNoPattern qxNoPattern cNoPattern NxNoPattern bsxNoPattern (bmX fe) true snxNoPattern subxNoPattern abxNoPattern colxNoPattern ddxNoPattern k0xNoPattern k1xNoPattern k2xNoPattern k3xNoPattern k5xNoPattern "ValueError.__new__"))
    (kpxNoPattern : PySem.W.keepIn K (.ref cNoPattern) = true)
    (tyxNoPattern : PySem.W.typeIn K (.ref cNoPattern) = some (.type "type"))
    (saxNoPattern : PySem.W.findIn K (.ref cNoPattern) "__setattr__" = some (some (.builtin "object.__setattr__")))
    (gaxNoPattern : PySem.W.findIn K (.ref cNoPattern) "__getattribute__" = some (some (.builtin "BaseException.__getattribute__")))
    (ggxNoPattern : PySem.W.findIn K (.ref cNoPattern) "__getattr__" = some none)
    (caxNoPattern : PySem.W.findIn K (.ref cNoPattern) "__class__" = some (some (.builtin "object.__class__")))
    (iNP : PySem.W.findIn K (.ref cNoPattern) "__init__" = some (some (.ref a_npi)))
    (tNP : PySem.W.typeIn K (.ref a_npi) = some (.type "function"))
    (l_npi : K.lookup a_npi = some ⟨oc_npi, od_npi, .func (PySem.W.fnOf "__init__" "NoPattern.__init__" (defArgs s_NoPattern_init) (defBody s_NoPattern_init) (defScope s_NoPattern_init) .none kV_npi dc_npi pm_npi an_npi cd_npi ct_npi), sl_npi⟩)
    (c_npi : PySem.W.codeIn K cd_npi "NoPattern.__init__" = true)
    (k_npi : PySem.W.keepIn K (.ref a_npi) = true)
    (nNP : PySem.W.findIn K (.ref cNoPattern) "at" = some none)
    (gxUnlike : PySem.W.nsIn K mainGlobals "Unlike" = some (some (.ref cUnlike)))
    (oxUnlike : K.lookup cUnlike = some (excClassObj nmxUnlike qxUnlike cUnlike NxUnlike bsxUnlike (bmX fe) true snxUnlike subxUnlike abxUnlike colxUnlike ddxUnlike k0xUnlike k1xUnlike k2xUnlike k3xUnlike k5xUnlike "ValueError.__new__"))
    (kpxUnlike : PySem.W.keepIn K (.ref cUnlike) = true)
    (tyxUnlike : PySem.W.typeIn K (.ref cUnlike) = some (.type "type"))
    (saxUnlike : PySem.W.findIn K (.ref cUnlike) "__setattr__" = some (some (.builtin "object.__setattr__")))
    (gaxUnlike : PySem.W.findIn K (.ref cUnlike) "__getattribute__" = some (some (.builtin "BaseException.__getattribute__")))
    (ggxUnlike : PySem.W.findIn K (.ref cUnlike) "__getattr__" = some none)
    (caxUnlike : PySem.W.findIn K (.ref cUnlike) "__class__" = some (some (.builtin "object.__class__")))
    (exUnlike : PySem.W.excIn K cUnlike [.type "ValueError", .type "Exception", .type "BaseException", .type "object"] "ValueError.__new__" = true)
    (gxNoBit : PySem.W.nsIn K mainGlobals "NoBit" = some (some (.ref cNoBit)))
    (oxNoBit : K.lookup cNoBit = some (excClassObj nmxNoBit qxNoBit cNoBit NxNoBit bsxNoBit (bmX fe) true snxNoBit subxNoBit abxNoBit colxNoBit ddxNoBit k0xNoBit k1xNoBit k2xNoBit k3xNoBit k5xNoBit "ValueError.__new__"))
    (kpxNoBit : PySem.W.keepIn K (.ref cNoBit) = true)
    (tyxNoBit : PySem.W.typeIn K (.ref cNoBit) = some (.type "type"))
    (saxNoBit : PySem.W.findIn K (.ref cNoBit) "__setattr__" = some (some (.builtin "object.__setattr__")))
    (gaxNoBit : PySem.W.findIn K (.ref cNoBit) "__getattribute__" = some (some (.builtin "BaseException.__getattribute__")))
    (ggxNoBit : PySem.W.findIn K (.ref cNoBit) "__getattr__" = some none)
    (caxNoBit : PySem.W.findIn K (.ref cNoBit) "__class__" = some (some (.builtin "object.__class__")))
    (exNoBit : PySem.W.excIn K cNoBit [.type "ValueError", .type "Exception", .type "BaseException", .type "object"] "ValueError.__new__" = true)
    (gxNoStore : PySem.W.nsIn K mainGlobals "NoStore" = some (some (.ref cNoStore)))
    (oxNoStore : K.lookup cNoStore = some (excClassObj nmxNoStore qxNoStore cNoStore NxNoStore bsxNoStore (bmX fe) true snxNoStore subxNoStore abxNoStore colxNoStore ddxNoStore k0xNoStore k1xNoStore k2xNoStore k3xNoStore k5xNoStore "ValueError.__new__"))
    (kpxNoStore : PySem.W.keepIn K (.ref cNoStore) = true)
    (tyxNoStore : PySem.W.typeIn K (.ref cNoStore) = some (.type "type"))
    (saxNoStore : PySem.W.findIn K (.ref cNoStore) "__setattr__" = some (some (.builtin "object.__setattr__")))
    (gaxNoStore : PySem.W.findIn K (.ref cNoStore) "__getattribute__" = some (some (.builtin "BaseException.__getattribute__")))
    (ggxNoStore : PySem.W.findIn K (.ref cNoStore) "__getattr__" = some none)
    (caxNoStore : PySem.W.findIn K (.ref cNoStore) "__class__" = some (some (.builtin "object.__class__")))
    (iNoStore : PySem.W.findIn K (.ref cNoStore) "__init__" = some (some (.ref a_NoStorei)))
    (tNoStore : PySem.W.typeIn K (.ref a_NoStorei) = some (.type "function"))
    (l_NoStorei : K.lookup a_NoStorei = some ⟨oc_NoStorei, od_NoStorei, .func (PySem.W.fnOf "__init__" "NoStore.__init__" (defArgs s_NoStore_init) (defBody s_NoStore_init) (defScope s_NoStore_init) .none kV_NoStorei dc_NoStorei pm_NoStorei an_NoStorei cd_NoStorei ct_NoStorei), sl_NoStorei⟩)
    (c_NoStorei : PySem.W.codeIn K cd_NoStorei "NoStore.__init__" = true)
    (k_NoStorei : PySem.W.keepIn K (.ref a_NoStorei) = true)
    (nNoStore_part : PySem.W.findIn K (.ref cNoStore) "part" = some none)
    (nNoStore_at : PySem.W.findIn K (.ref cNoStore) "at" = some none)
    (gxNoDriver : PySem.W.nsIn K mainGlobals "NoDriver" = some (some (.ref cNoDriver)))
    (oxNoDriver : K.lookup cNoDriver = some (excClassObj nmxNoDriver qxNoDriver cNoDriver NxNoDriver bsxNoDriver (bmX fe) true snxNoDriver subxNoDriver abxNoDriver colxNoDriver ddxNoDriver k0xNoDriver k1xNoDriver k2xNoDriver k3xNoDriver k5xNoDriver "ValueError.__new__"))
    (kpxNoDriver : PySem.W.keepIn K (.ref cNoDriver) = true)
    (tyxNoDriver : PySem.W.typeIn K (.ref cNoDriver) = some (.type "type"))
    (saxNoDriver : PySem.W.findIn K (.ref cNoDriver) "__setattr__" = some (some (.builtin "object.__setattr__")))
    (gaxNoDriver : PySem.W.findIn K (.ref cNoDriver) "__getattribute__" = some (some (.builtin "BaseException.__getattribute__")))
    (ggxNoDriver : PySem.W.findIn K (.ref cNoDriver) "__getattr__" = some none)
    (caxNoDriver : PySem.W.findIn K (.ref cNoDriver) "__class__" = some (some (.builtin "object.__class__")))
    (iNoDriver : PySem.W.findIn K (.ref cNoDriver) "__init__" = some (some (.ref a_NoDriveri)))
    (tNoDriver : PySem.W.typeIn K (.ref a_NoDriveri) = some (.type "function"))
    (l_NoDriveri : K.lookup a_NoDriveri = some ⟨oc_NoDriveri, od_NoDriveri, .func (PySem.W.fnOf "__init__" "NoDriver.__init__" (defArgs s_NoDriver_init) (defBody s_NoDriver_init) (defScope s_NoDriver_init) .none kV_NoDriveri dc_NoDriveri pm_NoDriveri an_NoDriveri cd_NoDriveri ct_NoDriveri), sl_NoDriveri⟩)
    (c_NoDriveri : PySem.W.codeIn K cd_NoDriveri "NoDriver.__init__" = true)
    (k_NoDriveri : PySem.W.keepIn K (.ref a_NoDriveri) = true)
    (nNoDriver_at : PySem.W.findIn K (.ref cNoDriver) "at" = some none)
    (gxNoText : PySem.W.nsIn K mainGlobals "NoText" = some (some (.ref cNoText)))
    (oxNoText : K.lookup cNoText = some (excClassObj nmxNoText qxNoText cNoText NxNoText bsxNoText (bmX fe) true snxNoText subxNoText abxNoText colxNoText ddxNoText k0xNoText k1xNoText k2xNoText k3xNoText k5xNoText "ValueError.__new__"))
    (kpxNoText : PySem.W.keepIn K (.ref cNoText) = true)
    (tyxNoText : PySem.W.typeIn K (.ref cNoText) = some (.type "type"))
    (saxNoText : PySem.W.findIn K (.ref cNoText) "__setattr__" = some (some (.builtin "object.__setattr__")))
    (gaxNoText : PySem.W.findIn K (.ref cNoText) "__getattribute__" = some (some (.builtin "BaseException.__getattribute__")))
    (ggxNoText : PySem.W.findIn K (.ref cNoText) "__getattr__" = some none)
    (caxNoText : PySem.W.findIn K (.ref cNoText) "__class__" = some (some (.builtin "object.__class__")))
    (iNoText : PySem.W.findIn K (.ref cNoText) "__init__" = some (some (.ref a_NoTexti)))
    (tNoText : PySem.W.typeIn K (.ref a_NoTexti) = some (.type "function"))
    (l_NoTexti : K.lookup a_NoTexti = some ⟨oc_NoTexti, od_NoTexti, .func (PySem.W.fnOf "__init__" "NoText.__init__" (defArgs s_NoText_init) (defBody s_NoText_init) (defScope s_NoText_init) .none kV_NoTexti dc_NoTexti pm_NoTexti an_NoTexti cd_NoTexti ct_NoTexti), sl_NoTexti⟩)
    (c_NoTexti : PySem.W.codeIn K cd_NoTexti "NoText.__init__" = true)
    (k_NoTexti : PySem.W.keepIn K (.ref a_NoTexti) = true)
    (nNoText_line : PySem.W.findIn K (.ref cNoText) "line" = some none)
    (ne_NoPattern_F : cNoPattern ≠ fe)
    (ne_NoPattern_Unlike : cNoPattern ≠ cUnlike)
    (ne_NoPattern_NoBit : cNoPattern ≠ cNoBit)
    (ne_NoPattern_NoStore : cNoPattern ≠ cNoStore)
    (ne_NoPattern_NoDriver : cNoPattern ≠ cNoDriver)
    (ne_NoPattern_NoText : cNoPattern ≠ cNoText)
    (ne_Unlike_F : cUnlike ≠ fe)
    (ne_Unlike_NoPattern : cUnlike ≠ cNoPattern)
    (ne_Unlike_NoBit : cUnlike ≠ cNoBit)
    (ne_Unlike_NoStore : cUnlike ≠ cNoStore)
    (ne_Unlike_NoDriver : cUnlike ≠ cNoDriver)
    (ne_Unlike_NoText : cUnlike ≠ cNoText)
    (ne_NoBit_F : cNoBit ≠ fe)
    (ne_NoBit_NoPattern : cNoBit ≠ cNoPattern)
    (ne_NoBit_Unlike : cNoBit ≠ cUnlike)
    (ne_NoBit_NoStore : cNoBit ≠ cNoStore)
    (ne_NoBit_NoDriver : cNoBit ≠ cNoDriver)
    (ne_NoBit_NoText : cNoBit ≠ cNoText)
    (ne_NoStore_F : cNoStore ≠ fe)
    (ne_NoStore_NoPattern : cNoStore ≠ cNoPattern)
    (ne_NoStore_Unlike : cNoStore ≠ cUnlike)
    (ne_NoStore_NoBit : cNoStore ≠ cNoBit)
    (ne_NoStore_NoDriver : cNoStore ≠ cNoDriver)
    (ne_NoStore_NoText : cNoStore ≠ cNoText)
    (ne_NoDriver_F : cNoDriver ≠ fe)
    (ne_NoDriver_NoPattern : cNoDriver ≠ cNoPattern)
    (ne_NoDriver_Unlike : cNoDriver ≠ cUnlike)
    (ne_NoDriver_NoBit : cNoDriver ≠ cNoBit)
    (ne_NoDriver_NoStore : cNoDriver ≠ cNoStore)
    (ne_NoDriver_NoText : cNoDriver ≠ cNoText)
    (ne_NoText_F : cNoText ≠ fe)
    (ne_NoText_NoPattern : cNoText ≠ cNoPattern)
    (ne_NoText_Unlike : cNoText ≠ cUnlike)
    (ne_NoText_NoBit : cNoText ≠ cNoBit)
    (ne_NoText_NoStore : cNoText ≠ cNoStore)
    (ne_NoText_NoDriver : cNoText ≠ cNoDriver)
    (gC : PySem.W.nsIn K mainGlobals "Pattern" = some (some (.ref C)))
    (rdC : PySem.W.readsIn K C (.type "type") = true)
    (gaC : PySem.W.specialIn K (.ref C) "__getattribute__" = some (some (.builtin "type.__getattribute__")))
    (vBITS : PySem.W.findCls K (.ref C) (.type "type") "BITS" = some (.val (.int 120 tvBITS)))
    (vBLOCKS : PySem.W.findCls K (.ref C) (.type "type") "BLOCKS" = some (.val (.int 3 tvBLOCKS)))
    (gC_Store : PySem.W.nsIn K mainGlobals "Store" = some (some (.ref C_Store)))
    (rdC_Store : PySem.W.readsIn K C_Store (.type "type") = true)
    (gaC_Store : PySem.W.specialIn K (.ref C_Store) "__getattribute__" = some (some (.builtin "type.__getattribute__")))
    (lC_Store : K.lookup C_Store = some ⟨ocC_Store, odC_Store, .cls cdC_Store, slC_Store⟩)
    (mroC_Store : cdC_Store.mro = [.ref C_Store, .type "object"])
    (pgC_Store : PySem.W.plainGet K C_Store Str.empty = true)
    (hdC_Store : PySem.W.hasDictIn K C_Store = true)
    (poC_Store : PySem.W.plainOver K C_Store = true)
    (saC_Store : PySem.W.findIn K (.ref C_Store) "__setattr__" = some (some (.builtin "object.__setattr__")))
    (mkC_Store : PySem.W.makesIn K C_Store = true)
    (kpC_Store : PySem.W.keepIn K (.ref C_Store) = true)
    (caC_Store : PySem.W.findIn K (.ref C_Store) "__class__" = some (some (.builtin "object.__class__")))
    (moC_Store : PySem.W.mroIn K C_Store (.type "object") = some true)
    (sfC_Store : PySem.W.selfFirst K C_Store = true)
    (tyC_Store : PySem.W.typeIn K (.ref C_Store) = some (.type "type"))
    (na_sizes_Store : PySem.W.findIn K (.ref C_Store) "_sizes" = some none)
    (na_rules_Store : PySem.W.findIn K (.ref C_Store) "_rules" = some none)
    (na_changes_Store : PySem.W.findIn K (.ref C_Store) "_changes" = some none)
    (na_states_Store : PySem.W.findIn K (.ref C_Store) "_states" = some none)
    (na_readings_Store : PySem.W.findIn K (.ref C_Store) "_readings" = some none)
    (m_Store_init : PySem.W.findIn K (.ref C_Store) "__init__" = some (some (.ref a_Store_init)))
    (f_Store_init : PySem.W.isFn K (.ref a_Store_init) = true)
    (l_Store_init : K.lookup a_Store_init = some ⟨oc_Store_init, od_Store_init, .func (PySem.W.fnOf "__init__" "Store.__init__" (defArgs s_Store_init) (defBody s_Store_init) (defScope s_Store_init) .none kV_Store_init dc_Store_init pm_Store_init an_Store_init cd_Store_init ct_Store_init), sl_Store_init⟩)
    (c_Store_init : PySem.W.codeIn K cd_Store_init "Store.__init__" = true)
    (k_Store_init : PySem.W.keepIn K (.ref a_Store_init) = true)
    (gC_Driver : PySem.W.nsIn K mainGlobals "Driver" = some (some (.ref C_Driver)))
    (rdC_Driver : PySem.W.readsIn K C_Driver (.type "type") = true)
    (gaC_Driver : PySem.W.specialIn K (.ref C_Driver) "__getattribute__" = some (some (.builtin "type.__getattribute__")))
    (gkMOST_BLOCKS : PySem.W.nsIn K mainGlobals "MOST_BLOCKS" = some (some (.int 3 tkMOST_BLOCKS)))
    (gkMOST_BITS : PySem.W.nsIn K mainGlobals "MOST_BITS" = some (some (.int 6 tkMOST_BITS)))
    (gkMOST_RULES : PySem.W.nsIn K mainGlobals "MOST_RULES" = some (some (.int 64 tkMOST_RULES)))
    (gkMOST_CHANGES : PySem.W.nsIn K mainGlobals "MOST_CHANGES" = some (some (.int 16 tkMOST_CHANGES)))
    (gkMOST_NAME_SIGNS : PySem.W.nsIn K mainGlobals "MOST_NAME_SIGNS" = some (some (.int 12 tkMOST_NAME_SIGNS)))
    (gkLETTERS : PySem.W.nsIn K mainGlobals "LETTERS" = some (some (.str "abcdefghijklmnopqrstuvwxyz" tkLETTERS)))
    (gkNAME_SIGNS : PySem.W.nsIn K mainGlobals "NAME_SIGNS" = some (some (.str "abcdefghijklmnopqrstuvwxyz0123456789-" tkNAME_SIGNS)))
    (gkMOST_ROWS : PySem.W.nsIn K mainGlobals "MOST_ROWS" = some (some (.int 1100 tkMOST_ROWS)))
    (gkNONE : PySem.W.nsIn K mainGlobals "NONE" = some (some (.str "none" tkNONE)))
    (gkQUIET : PySem.W.nsIn K mainGlobals "QUIET" = some (some (.str "-" tkQUIET)))
    (gkDIGITS : PySem.W.nsIn K mainGlobals "DIGITS" = some (some (.str "0123456789" tkDIGITS)))
    (gkMOST_DIGITS : PySem.W.nsIn K mainGlobals "MOST_DIGITS" = some (some (.int 3 tkMOST_DIGITS)))
    (gkPATTERN_SIGNS : PySem.W.nsIn K mainGlobals "PATTERN_SIGNS" = some (some (.str "10." tkPATTERN_SIGNS)))
    (gkMASK_SIGNS : PySem.W.nsIn K mainGlobals "MASK_SIGNS" = some (some (.str "10*." tkMASK_SIGNS)))
    (g_is_whole : PySem.W.nsIn K mainGlobals "is_whole" = some (some (.ref a_is_whole)))
    (l_is_whole : K.lookup a_is_whole = some ⟨oc_is_whole, od_is_whole, .func (PySem.W.fnOf "is_whole" "is_whole" (defArgs s_is_whole) (defBody s_is_whole) (defScope s_is_whole) .none kV_is_whole dc_is_whole pm_is_whole an_is_whole cd_is_whole ct_is_whole), sl_is_whole⟩)
    (c_is_whole : PySem.W.codeIn K cd_is_whole "is_whole" = true)
    (k_is_whole : PySem.W.keepIn K (.ref a_is_whole) = true)
    (g_is_tuple_of : PySem.W.nsIn K mainGlobals "is_tuple_of" = some (some (.ref a_is_tuple_of)))
    (l_is_tuple_of : K.lookup a_is_tuple_of = some ⟨oc_is_tuple_of, od_is_tuple_of, .func (PySem.W.fnOf "is_tuple_of" "is_tuple_of" (defArgs s_is_tuple_of) (defBody s_is_tuple_of) (defScope s_is_tuple_of) .none kV_is_tuple_of dc_is_tuple_of pm_is_tuple_of an_is_tuple_of cd_is_tuple_of ct_is_tuple_of), sl_is_tuple_of⟩)
    (c_is_tuple_of : PySem.W.codeIn K cd_is_tuple_of "is_tuple_of" = true)
    (k_is_tuple_of : PySem.W.keepIn K (.ref a_is_tuple_of) = true)
    (g_is_pair : PySem.W.nsIn K mainGlobals "is_pair" = some (some (.ref a_is_pair)))
    (l_is_pair : K.lookup a_is_pair = some ⟨oc_is_pair, od_is_pair, .func (PySem.W.fnOf "is_pair" "is_pair" (defArgs s_is_pair) (defBody s_is_pair) (defScope s_is_pair) .none kV_is_pair dc_is_pair pm_is_pair an_is_pair cd_is_pair ct_is_pair), sl_is_pair⟩)
    (c_is_pair : PySem.W.codeIn K cd_is_pair "is_pair" = true)
    (k_is_pair : PySem.W.keepIn K (.ref a_is_pair) = true)
    (g_is_name : PySem.W.nsIn K mainGlobals "is_name" = some (some (.ref a_is_name)))
    (l_is_name : K.lookup a_is_name = some ⟨oc_is_name, od_is_name, .func (PySem.W.fnOf "is_name" "is_name" (defArgs s_is_name) (defBody s_is_name) (defScope s_is_name) .none kV_is_name dc_is_name pm_is_name an_is_name cd_is_name ct_is_name), sl_is_name⟩)
    (c_is_name : PySem.W.codeIn K cd_is_name "is_name" = true)
    (k_is_name : PySem.W.keepIn K (.ref a_is_name) = true)
    (g_is_mask : PySem.W.nsIn K mainGlobals "is_mask" = some (some (.ref a_is_mask)))
    (l_is_mask : K.lookup a_is_mask = some ⟨oc_is_mask, od_is_mask, .func (PySem.W.fnOf "is_mask" "is_mask" (defArgs s_is_mask) (defBody s_is_mask) (defScope s_is_mask) .none kV_is_mask dc_is_mask pm_is_mask an_is_mask cd_is_mask ct_is_mask), sl_is_mask⟩)
    (c_is_mask : PySem.W.codeIn K cd_is_mask "is_mask" = true)
    (k_is_mask : PySem.W.keepIn K (.ref a_is_mask) = true)
    (g_is_rule : PySem.W.nsIn K mainGlobals "is_rule" = some (some (.ref a_is_rule)))
    (l_is_rule : K.lookup a_is_rule = some ⟨oc_is_rule, od_is_rule, .func (PySem.W.fnOf "is_rule" "is_rule" (defArgs s_is_rule) (defBody s_is_rule) (defScope s_is_rule) .none kV_is_rule dc_is_rule pm_is_rule an_is_rule cd_is_rule ct_is_rule), sl_is_rule⟩)
    (c_is_rule : PySem.W.codeIn K cd_is_rule "is_rule" = true)
    (k_is_rule : PySem.W.keepIn K (.ref a_is_rule) = true)
    (g_is_change : PySem.W.nsIn K mainGlobals "is_change" = some (some (.ref a_is_change)))
    (l_is_change : K.lookup a_is_change = some ⟨oc_is_change, od_is_change, .func (PySem.W.fnOf "is_change" "is_change" (defArgs s_is_change) (defBody s_is_change) (defScope s_is_change) .none kV_is_change dc_is_change pm_is_change an_is_change cd_is_change ct_is_change), sl_is_change⟩)
    (c_is_change : PySem.W.codeIn K cd_is_change "is_change" = true)
    (k_is_change : PySem.W.keepIn K (.ref a_is_change) = true)
    (g_check_sizes : PySem.W.nsIn K mainGlobals "check_sizes" = some (some (.ref a_check_sizes)))
    (l_check_sizes : K.lookup a_check_sizes = some ⟨oc_check_sizes, od_check_sizes, .func (PySem.W.fnOf "check_sizes" "check_sizes" (defArgs s_check_sizes) (defBody s_check_sizes) (defScope s_check_sizes) .none kV_check_sizes dc_check_sizes pm_check_sizes an_check_sizes cd_check_sizes ct_check_sizes), sl_check_sizes⟩)
    (c_check_sizes : PySem.W.codeIn K cd_check_sizes "check_sizes" = true)
    (k_check_sizes : PySem.W.keepIn K (.ref a_check_sizes) = true)
    (g_check_rules : PySem.W.nsIn K mainGlobals "check_rules" = some (some (.ref a_check_rules)))
    (l_check_rules : K.lookup a_check_rules = some ⟨oc_check_rules, od_check_rules, .func (PySem.W.fnOf "check_rules" "check_rules" (defArgs s_check_rules) (defBody s_check_rules) (defScope s_check_rules) .none kV_check_rules dc_check_rules pm_check_rules an_check_rules cd_check_rules ct_check_rules), sl_check_rules⟩)
    (c_check_rules : PySem.W.codeIn K cd_check_rules "check_rules" = true)
    (k_check_rules : PySem.W.keepIn K (.ref a_check_rules) = true)
    (g_check_changes : PySem.W.nsIn K mainGlobals "check_changes" = some (some (.ref a_check_changes)))
    (l_check_changes : K.lookup a_check_changes = some ⟨oc_check_changes, od_check_changes, .func (PySem.W.fnOf "check_changes" "check_changes" (defArgs s_check_changes) (defBody s_check_changes) (defScope s_check_changes) .none kV_check_changes dc_check_changes pm_check_changes an_check_changes cd_check_changes ct_check_changes), sl_check_changes⟩)
    (c_check_changes : PySem.W.codeIn K cd_check_changes "check_changes" = true)
    (k_check_changes : PySem.W.keepIn K (.ref a_check_changes) = true)
    (g_state_names : PySem.W.nsIn K mainGlobals "state_names" = some (some (.ref a_state_names)))
    (l_state_names : K.lookup a_state_names = some ⟨oc_state_names, od_state_names, .func (PySem.W.fnOf "state_names" "state_names" (defArgs s_state_names) (defBody s_state_names) (defScope s_state_names) .none kV_state_names dc_state_names pm_state_names an_state_names cd_state_names ct_state_names), sl_state_names⟩)
    (c_state_names : PySem.W.codeIn K cd_state_names "state_names" = true)
    (k_state_names : PySem.W.keepIn K (.ref a_state_names) = true)
    (g_matched : PySem.W.nsIn K mainGlobals "matched" = some (some (.ref a_matched)))
    (l_matched : K.lookup a_matched = some ⟨oc_matched, od_matched, .func (PySem.W.fnOf "matched" "matched" (defArgs s_matched) (defBody s_matched) (defScope s_matched) .none kV_matched dc_matched pm_matched an_matched cd_matched ct_matched), sl_matched⟩)
    (c_matched : PySem.W.codeIn K cd_matched "matched" = true)
    (k_matched : PySem.W.keepIn K (.ref a_matched) = true)
    (g_readings : PySem.W.nsIn K mainGlobals "readings" = some (some (.ref a_readings)))
    (l_readings : K.lookup a_readings = some ⟨oc_readings, od_readings, .func (PySem.W.fnOf "readings" "readings" (defArgs s_readings) (defBody s_readings) (defScope s_readings) .none kV_readings dc_readings pm_readings an_readings cd_readings ct_readings), sl_readings⟩)
    (c_readings : PySem.W.codeIn K cd_readings "readings" = true)
    (k_readings : PySem.W.keepIn K (.ref a_readings) = true)
    (g_has_signs : PySem.W.nsIn K mainGlobals "has_signs" = some (some (.ref a_has_signs)))
    (l_has_signs : K.lookup a_has_signs = some ⟨oc_has_signs, od_has_signs, .func (PySem.W.fnOf "has_signs" "has_signs" (defArgs s_has_signs) (defBody s_has_signs) (defScope s_has_signs) .none kV_has_signs dc_has_signs pm_has_signs an_has_signs cd_has_signs ct_has_signs), sl_has_signs⟩)
    (c_has_signs : PySem.W.codeIn K cd_has_signs "has_signs" = true)
    (k_has_signs : PySem.W.keepIn K (.ref a_has_signs) = true)
    (g_is_number_word : PySem.W.nsIn K mainGlobals "is_number_word" = some (some (.ref a_is_number_word)))
    (l_is_number_word : K.lookup a_is_number_word = some ⟨oc_is_number_word, od_is_number_word, .func (PySem.W.fnOf "is_number_word" "is_number_word" (defArgs s_is_number_word) (defBody s_is_number_word) (defScope s_is_number_word) .none kV_is_number_word dc_is_number_word pm_is_number_word an_is_number_word cd_is_number_word ct_is_number_word), sl_is_number_word⟩)
    (c_is_number_word : PySem.W.codeIn K cd_is_number_word "is_number_word" = true)
    (k_is_number_word : PySem.W.keepIn K (.ref a_is_number_word) = true)
    (g_are_number_words : PySem.W.nsIn K mainGlobals "are_number_words" = some (some (.ref a_are_number_words)))
    (l_are_number_words : K.lookup a_are_number_words = some ⟨oc_are_number_words, od_are_number_words, .func (PySem.W.fnOf "are_number_words" "are_number_words" (defArgs s_are_number_words) (defBody s_are_number_words) (defScope s_are_number_words) .none kV_are_number_words dc_are_number_words pm_are_number_words an_are_number_words cd_are_number_words ct_are_number_words), sl_are_number_words⟩)
    (c_are_number_words : PySem.W.codeIn K cd_are_number_words "are_number_words" = true)
    (k_are_number_words : PySem.W.keepIn K (.ref a_are_number_words) = true)
    (g_is_name_word : PySem.W.nsIn K mainGlobals "is_name_word" = some (some (.ref a_is_name_word)))
    (l_is_name_word : K.lookup a_is_name_word = some ⟨oc_is_name_word, od_is_name_word, .func (PySem.W.fnOf "is_name_word" "is_name_word" (defArgs s_is_name_word) (defBody s_is_name_word) (defScope s_is_name_word) .none kV_is_name_word dc_is_name_word pm_is_name_word an_is_name_word cd_is_name_word ct_is_name_word), sl_is_name_word⟩)
    (c_is_name_word : PySem.W.codeIn K cd_is_name_word "is_name_word" = true)
    (k_is_name_word : PySem.W.keepIn K (.ref a_is_name_word) = true)
    (g_can_be_row : PySem.W.nsIn K mainGlobals "can_be_row" = some (some (.ref a_can_be_row)))
    (l_can_be_row : K.lookup a_can_be_row = some ⟨oc_can_be_row, od_can_be_row, .func (PySem.W.fnOf "can_be_row" "can_be_row" (defArgs s_can_be_row) (defBody s_can_be_row) (defScope s_can_be_row) .none kV_can_be_row dc_can_be_row pm_can_be_row an_can_be_row cd_can_be_row ct_can_be_row), sl_can_be_row⟩)
    (c_can_be_row : PySem.W.codeIn K cd_can_be_row "can_be_row" = true)
    (k_can_be_row : PySem.W.keepIn K (.ref a_can_be_row) = true)
    (g_can_be_event : PySem.W.nsIn K mainGlobals "can_be_event" = some (some (.ref a_can_be_event)))
    (l_can_be_event : K.lookup a_can_be_event = some ⟨oc_can_be_event, od_can_be_event, .func (PySem.W.fnOf "can_be_event" "can_be_event" (defArgs s_can_be_event) (defBody s_can_be_event) (defScope s_can_be_event) .none kV_can_be_event dc_can_be_event pm_can_be_event an_can_be_event cd_can_be_event ct_can_be_event), sl_can_be_event⟩)
    (c_can_be_event : PySem.W.codeIn K cd_can_be_event "can_be_event" = true)
    (k_can_be_event : PySem.W.keepIn K (.ref a_can_be_event) = true)
    (g_lines_of : PySem.W.nsIn K mainGlobals "lines_of" = some (some (.ref a_lines_of)))
    (l_lines_of : K.lookup a_lines_of = some ⟨oc_lines_of, od_lines_of, .func (PySem.W.fnOf "lines_of" "lines_of" (defArgs s_lines_of) (defBody s_lines_of) (defScope s_lines_of) .none kV_lines_of dc_lines_of pm_lines_of an_lines_of cd_lines_of ct_lines_of), sl_lines_of⟩)
    (c_lines_of : PySem.W.codeIn K cd_lines_of "lines_of" = true)
    (k_lines_of : PySem.W.keepIn K (.ref a_lines_of) = true)
    (g_need_alone : PySem.W.nsIn K mainGlobals "need_alone" = some (some (.ref a_need_alone)))
    (l_need_alone : K.lookup a_need_alone = some ⟨oc_need_alone, od_need_alone, .func (PySem.W.fnOf "need_alone" "need_alone" (defArgs s_need_alone) (defBody s_need_alone) (defScope s_need_alone) .none kV_need_alone dc_need_alone pm_need_alone an_need_alone cd_need_alone ct_need_alone), sl_need_alone⟩)
    (c_need_alone : PySem.W.codeIn K cd_need_alone "need_alone" = true)
    (k_need_alone : PySem.W.keepIn K (.ref a_need_alone) = true)
    (g_read_driver : PySem.W.nsIn K mainGlobals "read_driver" = some (some (.ref a_read_driver)))
    (l_read_driver : K.lookup a_read_driver = some ⟨oc_read_driver, od_read_driver, .func (PySem.W.fnOf "read_driver" "read_driver" (defArgs s_read_driver) (defBody s_read_driver) (defScope s_read_driver) .none kV_read_driver dc_read_driver pm_read_driver an_read_driver cd_read_driver ct_read_driver), sl_read_driver⟩)
    (c_read_driver : PySem.W.codeIn K cd_read_driver "read_driver" = true)
    (k_read_driver : PySem.W.keepIn K (.ref a_read_driver) = true)
    (g_read_story : PySem.W.nsIn K mainGlobals "read_story" = some (some (.ref a_read_story)))
    (l_read_story : K.lookup a_read_story = some ⟨oc_read_story, od_read_story, .func (PySem.W.fnOf "read_story" "read_story" (defArgs s_read_story) (defBody s_read_story) (defScope s_read_story) .none kV_read_story dc_read_story pm_read_story an_read_story cd_read_story ct_read_story), sl_read_story⟩)
    (c_read_story : PySem.W.codeIn K cd_read_story "read_story" = true)
    (k_read_story : PySem.W.keepIn K (.ref a_read_story) = true)
    (b_abs : PySem.W.nsIn K mainGlobals "abs" = some none)
    (b_all : PySem.W.nsIn K mainGlobals "all" = some none)
    (b_bool : PySem.W.nsIn K mainGlobals "bool" = some none)
    (b_enumerate : PySem.W.nsIn K mainGlobals "enumerate" = some none)
    (b_int : PySem.W.nsIn K mainGlobals "int" = some none)
    (b_isinstance : PySem.W.nsIn K mainGlobals "isinstance" = some none)
    (b_len : PySem.W.nsIn K mainGlobals "len" = some none)
    (b_list : PySem.W.nsIn K mainGlobals "list" = some none)
    (b_range : PySem.W.nsIn K mainGlobals "range" = some none)
    (b_set : PySem.W.nsIn K mainGlobals "set" = some none)
    (b_sorted : PySem.W.nsIn K mainGlobals "sorted" = some none)
    (b_str : PySem.W.nsIn K mainGlobals "str" = some none)
    (b_sum : PySem.W.nsIn K mainGlobals "sum" = some none)
    (b_tuple : PySem.W.nsIn K mainGlobals "tuple" = some none)
    (b_zip : PySem.W.nsIn K mainGlobals "zip" = some none)
    (g_Lpen : PySem.W.nsIn K mainGlobals "_law_pen" = some (some (.ref a_Lpen)))
    (l_Lpen : K.lookup a_Lpen = some ⟨oc_Lpen, od_Lpen, .func (PySem.W.fnOf "_law_pen" "_law_pen" (defArgs s_Lpen) (defBody s_Lpen) (defScope s_Lpen) .none kV_Lpen dc_Lpen pm_Lpen an_Lpen cd_Lpen ct_Lpen), sl_Lpen⟩)
    (c_Lpen : PySem.W.codeIn K cd_Lpen "_law_pen" = true)
    (k_Lpen : PySem.W.keepIn K (.ref a_Lpen) = true)
    (g_Ldraw : PySem.W.nsIn K mainGlobals "_law_draw" = some (some (.ref a_Ldraw)))
    (l_Ldraw : K.lookup a_Ldraw = some ⟨oc_Ldraw, od_Ldraw, .func (PySem.W.fnOf "_law_draw" "_law_draw" (defArgs s_Ldraw) (defBody s_Ldraw) (defScope s_Ldraw) .none kV_Ldraw dc_Ldraw pm_Ldraw an_Ldraw cd_Ldraw ct_Ldraw), sl_Ldraw⟩)
    (c_Ldraw : PySem.W.codeIn K cd_Ldraw "_law_draw" = true)
    (k_Ldraw : PySem.W.keepIn K (.ref a_Ldraw) = true)
    (g_Lpick : PySem.W.nsIn K mainGlobals "_law_pick" = some (some (.ref a_Lpick)))
    (l_Lpick : K.lookup a_Lpick = some ⟨oc_Lpick, od_Lpick, .func (PySem.W.fnOf "_law_pick" "_law_pick" (defArgs s_Lpick) (defBody s_Lpick) (defScope s_Lpick) .none kV_Lpick dc_Lpick pm_Lpick an_Lpick cd_Lpick ct_Lpick), sl_Lpick⟩)
    (c_Lpick : PySem.W.codeIn K cd_Lpick "_law_pick" = true)
    (k_Lpick : PySem.W.keepIn K (.ref a_Lpick) = true)
    (g_Lheard : PySem.W.nsIn K mainGlobals "_law_heard" = some (some (.ref a_Lheard)))
    (l_Lheard : K.lookup a_Lheard = some ⟨oc_Lheard, od_Lheard, .func (PySem.W.fnOf "_law_heard" "_law_heard" (defArgs s_Lheard) (defBody s_Lheard) (defScope s_Lheard) .none kV_Lheard dc_Lheard pm_Lheard an_Lheard cd_Lheard ct_Lheard), sl_Lheard⟩)
    (c_Lheard : PySem.W.codeIn K cd_Lheard "_law_heard" = true)
    (k_Lheard : PySem.W.keepIn K (.ref a_Lheard) = true)
    (g_Lrows : PySem.W.nsIn K mainGlobals "_law_rows" = some (some (.ref a_Lrows)))
    (l_Lrows : K.lookup a_Lrows = some ⟨oc_Lrows, od_Lrows, .func (PySem.W.fnOf "_law_rows" "_law_rows" (defArgs s_Lrows) (defBody s_Lrows) (defScope s_Lrows) .none kV_Lrows dc_Lrows pm_Lrows an_Lrows cd_Lrows ct_Lrows), sl_Lrows⟩)
    (c_Lrows : PySem.W.codeIn K cd_Lrows "_law_rows" = true)
    (k_Lrows : PySem.W.keepIn K (.ref a_Lrows) = true)
    (g_Levents : PySem.W.nsIn K mainGlobals "_law_events" = some (some (.ref a_Levents)))
    (l_Levents : K.lookup a_Levents = some ⟨oc_Levents, od_Levents, .func (PySem.W.fnOf "_law_events" "_law_events" (defArgs s_Levents) (defBody s_Levents) (defScope s_Levents) .none kV_Levents dc_Levents pm_Levents an_Levents cd_Levents ct_Levents), sl_Levents⟩)
    (c_Levents : PySem.W.codeIn K cd_Levents "_law_events" = true)
    (k_Levents : PySem.W.keepIn K (.ref a_Levents) = true)
    (g_Lodd_row : PySem.W.nsIn K mainGlobals "_law_odd_row" = some (some (.ref a_Lodd_row)))
    (l_Lodd_row : K.lookup a_Lodd_row = some ⟨oc_Lodd_row, od_Lodd_row, .func (PySem.W.fnOf "_law_odd_row" "_law_odd_row" (defArgs s_Lodd_row) (defBody s_Lodd_row) (defScope s_Lodd_row) .none kV_Lodd_row dc_Lodd_row pm_Lodd_row an_Lodd_row cd_Lodd_row ct_Lodd_row), sl_Lodd_row⟩)
    (c_Lodd_row : PySem.W.codeIn K cd_Lodd_row "_law_odd_row" = true)
    (k_Lodd_row : PySem.W.keepIn K (.ref a_Lodd_row) = true)
    (g_Lodd_event : PySem.W.nsIn K mainGlobals "_law_odd_event" = some (some (.ref a_Lodd_event)))
    (l_Lodd_event : K.lookup a_Lodd_event = some ⟨oc_Lodd_event, od_Lodd_event, .func (PySem.W.fnOf "_law_odd_event" "_law_odd_event" (defArgs s_Lodd_event) (defBody s_Lodd_event) (defScope s_Lodd_event) .none kV_Lodd_event dc_Lodd_event pm_Lodd_event an_Lodd_event cd_Lodd_event ct_Lodd_event), sl_Lodd_event⟩)
    (c_Lodd_event : PySem.W.codeIn K cd_Lodd_event "_law_odd_event" = true)
    (k_Lodd_event : PySem.W.keepIn K (.ref a_Lodd_event) = true)
    (g_Lbent : PySem.W.nsIn K mainGlobals "_law_bent" = some (some (.ref a_Lbent)))
    (l_Lbent : K.lookup a_Lbent = some ⟨oc_Lbent, od_Lbent, .func (PySem.W.fnOf "_law_bent" "_law_bent" (defArgs s_Lbent) (defBody s_Lbent) (defScope s_Lbent) .none kV_Lbent dc_Lbent pm_Lbent an_Lbent cd_Lbent ct_Lbent), sl_Lbent⟩)
    (c_Lbent : PySem.W.codeIn K cd_Lbent "_law_bent" = true)
    (k_Lbent : PySem.W.keepIn K (.ref a_Lbent) = true)
    (g_law : PySem.W.nsIn K mainGlobals "law" = some (some (.ref a_law)))
    (l_law : K.lookup a_law = some ⟨oc_law, od_law, .func (PySem.W.fnOf "law" "law" (defArgs s_law) (defBody s_law) (defScope s_law) .none kV_law dc_law pm_law an_law (.ref c0) ct_law), sl_law⟩)
    (c_law : PySem.W.codeIn K (.ref c0) "law" = true)
    (k_law : PySem.W.keepIn K (.ref a_law) = true)
    (lkc0 : K.lookup c0 = some ⟨.type "code", odc0, .fields vsc0, slc0⟩)
    (elc0 : (vsc0[11]? : Option Value) = some (.ref Pc0))
    (hdc0 : PySem.W.codeHdIn K c0 Pc0 = true)
    (noc0 : K.lookup Pc0 = none)
    (tbc0 : h.get? Pc0 = some { cls := .none, data := .fields #[] })
    : LamX.LawAtS l w K CX0 9 63 "_law_script" mg fa h := by
  have e := hfa.symm.trans (PySem.W.mg_of X G g_law)
  cases e
  have F_npi := fun_mk (st := s_NoPattern_init) l_npi c_npi k_npi
  have B_npi := F_npi.binds (ps := ["self", "at"]) fun _ _ _ _ _ _ us hl => match us, hl with | [_, _], _ => rfl
  have F_NoStorei := fun_mk (st := s_NoStore_init) l_NoStorei c_NoStorei k_NoStorei
  have B_NoStorei := F_NoStorei.binds (ps := ["self", "part", "at"]) fun _ _ _ _ _ _ us hl => match us, hl with | [_, _, _], _ => rfl
  have F_NoDriveri := fun_mk (st := s_NoDriver_init) l_NoDriveri c_NoDriveri k_NoDriveri
  have B_NoDriveri := F_NoDriveri.binds (ps := ["self", "at"]) fun _ _ _ _ _ _ us hl => match us, hl with | [_, _], _ => rfl
  have F_NoTexti := fun_mk (st := s_NoText_init) l_NoTexti c_NoTexti k_NoTexti
  have B_NoTexti := F_NoTexti.binds (ps := ["self", "line"]) fun _ _ _ _ _ _ us hl => match us, hl with | [_, _], _ => rfl
  have icC_Store : ∃ cd, PySem.W.clsIn K C_Store = some cd ∧ cd.mro = [.ref C_Store, .type "object"] := ⟨cdC_Store, by unfold PySem.W.clsIn; rw [lC_Store], mroC_Store⟩
  have F_Store_init := fun_mk (st := s_Store_init) l_Store_init c_Store_init k_Store_init
  have B_Store_init := F_Store_init.binds (ps := ["self", "sizes", "rules", "changes"]) fun _ _ _ _ _ _ us hl => match us, hl with | [_, _, _, _], _ => rfl
  have F_is_whole := fun_mk (st := s_is_whole) l_is_whole c_is_whole k_is_whole
  have B_is_whole := F_is_whole.binds (ps := ["thing"]) fun _ _ _ _ _ _ us hl => match us, hl with | [_], _ => rfl
  have F_is_tuple_of := fun_mk (st := s_is_tuple_of) l_is_tuple_of c_is_tuple_of k_is_tuple_of
  have B_is_tuple_of := F_is_tuple_of.binds (ps := ["thing", "many"]) fun _ _ _ _ _ _ us hl => match us, hl with | [_, _], _ => rfl
  have F_is_pair := fun_mk (st := s_is_pair) l_is_pair c_is_pair k_is_pair
  have B_is_pair := F_is_pair.binds (ps := ["thing"]) fun _ _ _ _ _ _ us hl => match us, hl with | [_], _ => rfl
  have F_is_name := fun_mk (st := s_is_name) l_is_name c_is_name k_is_name
  have B_is_name := F_is_name.binds (ps := ["thing"]) fun _ _ _ _ _ _ us hl => match us, hl with | [_], _ => rfl
  have F_is_mask := fun_mk (st := s_is_mask) l_is_mask c_is_mask k_is_mask
  have B_is_mask := F_is_mask.binds (ps := ["thing", "sizes"]) fun _ _ _ _ _ _ us hl => match us, hl with | [_, _], _ => rfl
  have F_is_rule := fun_mk (st := s_is_rule) l_is_rule c_is_rule k_is_rule
  have B_is_rule := F_is_rule.binds (ps := ["thing", "sizes"]) fun _ _ _ _ _ _ us hl => match us, hl with | [_, _], _ => rfl
  have F_is_change := fun_mk (st := s_is_change) l_is_change c_is_change k_is_change
  have B_is_change := F_is_change.binds (ps := ["thing"]) fun _ _ _ _ _ _ us hl => match us, hl with | [_], _ => rfl
  have F_check_sizes := fun_mk (st := s_check_sizes) l_check_sizes c_check_sizes k_check_sizes
  have B_check_sizes := F_check_sizes.binds (ps := ["sizes"]) fun _ _ _ _ _ _ us hl => match us, hl with | [_], _ => rfl
  have F_check_rules := fun_mk (st := s_check_rules) l_check_rules c_check_rules k_check_rules
  have B_check_rules := F_check_rules.binds (ps := ["rules", "sizes"]) fun _ _ _ _ _ _ us hl => match us, hl with | [_, _], _ => rfl
  have F_check_changes := fun_mk (st := s_check_changes) l_check_changes c_check_changes k_check_changes
  have B_check_changes := F_check_changes.binds (ps := ["changes"]) fun _ _ _ _ _ _ us hl => match us, hl with | [_], _ => rfl
  have F_state_names := fun_mk (st := s_state_names) l_state_names c_state_names k_state_names
  have B_state_names := F_state_names.binds (ps := ["rules", "changes"]) fun _ _ _ _ _ _ us hl => match us, hl with | [_, _], _ => rfl
  have F_matched := fun_mk (st := s_matched) l_matched c_matched k_matched
  have B_matched := F_matched.binds (ps := ["mask"]) fun _ _ _ _ _ _ us hl => match us, hl with | [_], _ => rfl
  have F_readings := fun_mk (st := s_readings) l_readings c_readings k_readings
  have B_readings := F_readings.binds (ps := ["sizes", "rules"]) fun _ _ _ _ _ _ us hl => match us, hl with | [_, _], _ => rfl
  have F_has_signs := fun_mk (st := s_has_signs) l_has_signs c_has_signs k_has_signs
  have B_has_signs := F_has_signs.binds (ps := ["word", "signs"]) fun _ _ _ _ _ _ us hl => match us, hl with | [_, _], _ => rfl
  have F_is_number_word := fun_mk (st := s_is_number_word) l_is_number_word c_is_number_word k_is_number_word
  have B_is_number_word := F_is_number_word.binds (ps := ["word"]) fun _ _ _ _ _ _ us hl => match us, hl with | [_], _ => rfl
  have F_are_number_words := fun_mk (st := s_are_number_words) l_are_number_words c_are_number_words k_are_number_words
  have B_are_number_words := F_are_number_words.binds (ps := ["words"]) fun _ _ _ _ _ _ us hl => match us, hl with | [_], _ => rfl
  have F_is_name_word := fun_mk (st := s_is_name_word) l_is_name_word c_is_name_word k_is_name_word
  have B_is_name_word := F_is_name_word.binds (ps := ["word"]) fun _ _ _ _ _ _ us hl => match us, hl with | [_], _ => rfl
  have F_can_be_row := fun_mk (st := s_can_be_row) l_can_be_row c_can_be_row k_can_be_row
  have B_can_be_row := F_can_be_row.binds (ps := ["words"]) fun _ _ _ _ _ _ us hl => match us, hl with | [_], _ => rfl
  have F_can_be_event := fun_mk (st := s_can_be_event) l_can_be_event c_can_be_event k_can_be_event
  have B_can_be_event := F_can_be_event.binds (ps := ["words"]) fun _ _ _ _ _ _ us hl => match us, hl with | [_], _ => rfl
  have F_lines_of := fun_mk (st := s_lines_of) l_lines_of c_lines_of k_lines_of
  have B_lines_of := F_lines_of.binds (ps := ["text"]) fun _ _ _ _ _ _ us hl => match us, hl with | [_], _ => rfl
  have F_need_alone := fun_mk (st := s_need_alone) l_need_alone c_need_alone k_need_alone
  have B_need_alone := F_need_alone.binds (ps := ["lines"]) fun _ _ _ _ _ _ us hl => match us, hl with | [_], _ => rfl
  have F_read_driver := fun_mk (st := s_read_driver) l_read_driver c_read_driver k_read_driver
  have B_read_driver := F_read_driver.binds (ps := ["store", "text"]) fun _ _ _ _ _ _ us hl => match us, hl with | [_, _], _ => rfl
  have F_read_story := fun_mk (st := s_read_story) l_read_story c_read_story k_read_story
  have B_read_story := F_read_story.binds (ps := ["text"]) fun _ _ _ _ _ _ us hl => match us, hl with | [_], _ => rfl
  have F_Lpen := fun_mk (st := s_Lpen) l_Lpen c_Lpen k_Lpen
  have B_Lpen := F_Lpen.binds (ps := ["_law_script"]) fun _ _ _ _ _ _ us hl => match us, hl with | [_], _ => rfl
  have F_Ldraw := fun_mk (st := s_Ldraw) l_Ldraw c_Ldraw k_Ldraw
  have B_Ldraw := F_Ldraw.binds (ps := ["_law_pen_here", "_law_many"]) fun _ _ _ _ _ _ us hl => match us, hl with | [_, _], _ => rfl
  have F_Lpick := fun_mk (st := s_Lpick) l_Lpick c_Lpick k_Lpick
  have B_Lpick := F_Lpick.binds (ps := ["_law_pen_here", "_law_some"]) fun _ _ _ _ _ _ us hl => match us, hl with | [_, _], _ => rfl
  have F_Lheard := fun_mk (st := s_Lheard) l_Lheard c_Lheard k_Lheard
  have B_Lheard := F_Lheard.binds (ps := ["_law_ask"]) fun _ _ _ _ _ _ us hl => match us, hl with | [_], _ => rfl
  have F_Lrows := fun_mk (st := s_Lrows) l_Lrows c_Lrows k_Lrows
  have B_Lrows := F_Lrows.binds (ps := ["_law_pen_here"]) fun _ _ _ _ _ _ us hl => match us, hl with | [_], _ => rfl
  have F_Levents := fun_mk (st := s_Levents) l_Levents c_Levents k_Levents
  have B_Levents := F_Levents.binds (ps := ["_law_pen_here"]) fun _ _ _ _ _ _ us hl => match us, hl with | [_], _ => rfl
  have F_Lodd_row := fun_mk (st := s_Lodd_row) l_Lodd_row c_Lodd_row k_Lodd_row
  have B_Lodd_row := F_Lodd_row.binds (ps := ["_law_pen_here"]) fun _ _ _ _ _ _ us hl => match us, hl with | [_], _ => rfl
  have F_Lodd_event := fun_mk (st := s_Lodd_event) l_Lodd_event c_Lodd_event k_Lodd_event
  have B_Lodd_event := F_Lodd_event.binds (ps := ["_law_pen_here"]) fun _ _ _ _ _ _ us hl => match us, hl with | [_], _ => rfl
  have F_Lbent := fun_mk (st := s_Lbent) l_Lbent c_Lbent k_Lbent
  have B_Lbent := F_Lbent.binds (ps := ["_law_pen_here", "_law_lines", "_law_odd"]) fun _ _ _ _ _ _ us hl => match us, hl with | [_, _, _], _ => rfl
  have F_law := fun_mk (st := s_law) l_law c_law k_law
  let z : Pz := { fe := fe, cNoPattern := cNoPattern, a_npi := a_npi, d_npi := (PySem.W.fnOf "__init__" "NoPattern.__init__" (defArgs s_NoPattern_init) (defBody s_NoPattern_init) (defScope s_NoPattern_init) .none kV_npi dc_npi pm_npi an_npi cd_npi ct_npi), cUnlike := cUnlike, cNoBit := cNoBit, cNoStore := cNoStore, a_NoStorei := a_NoStorei, d_NoStorei := (PySem.W.fnOf "__init__" "NoStore.__init__" (defArgs s_NoStore_init) (defBody s_NoStore_init) (defScope s_NoStore_init) .none kV_NoStorei dc_NoStorei pm_NoStorei an_NoStorei cd_NoStorei ct_NoStorei), cNoDriver := cNoDriver, a_NoDriveri := a_NoDriveri, d_NoDriveri := (PySem.W.fnOf "__init__" "NoDriver.__init__" (defArgs s_NoDriver_init) (defBody s_NoDriver_init) (defScope s_NoDriver_init) .none kV_NoDriveri dc_NoDriveri pm_NoDriveri an_NoDriveri cd_NoDriveri ct_NoDriveri), cNoText := cNoText, a_NoTexti := a_NoTexti, d_NoTexti := (PySem.W.fnOf "__init__" "NoText.__init__" (defArgs s_NoText_init) (defBody s_NoText_init) (defScope s_NoText_init) .none kV_NoTexti dc_NoTexti pm_NoTexti an_NoTexti cd_NoTexti ct_NoTexti), C := C, C_Store := C_Store, a_Store_init := a_Store_init, d_Store_init := (PySem.W.fnOf "__init__" "Store.__init__" (defArgs s_Store_init) (defBody s_Store_init) (defScope s_Store_init) .none kV_Store_init dc_Store_init pm_Store_init an_Store_init cd_Store_init ct_Store_init), C_Driver := C_Driver, a_is_whole := a_is_whole, d_is_whole := (PySem.W.fnOf "is_whole" "is_whole" (defArgs s_is_whole) (defBody s_is_whole) (defScope s_is_whole) .none kV_is_whole dc_is_whole pm_is_whole an_is_whole cd_is_whole ct_is_whole), a_is_tuple_of := a_is_tuple_of, d_is_tuple_of := (PySem.W.fnOf "is_tuple_of" "is_tuple_of" (defArgs s_is_tuple_of) (defBody s_is_tuple_of) (defScope s_is_tuple_of) .none kV_is_tuple_of dc_is_tuple_of pm_is_tuple_of an_is_tuple_of cd_is_tuple_of ct_is_tuple_of), a_is_pair := a_is_pair, d_is_pair := (PySem.W.fnOf "is_pair" "is_pair" (defArgs s_is_pair) (defBody s_is_pair) (defScope s_is_pair) .none kV_is_pair dc_is_pair pm_is_pair an_is_pair cd_is_pair ct_is_pair), a_is_name := a_is_name, d_is_name := (PySem.W.fnOf "is_name" "is_name" (defArgs s_is_name) (defBody s_is_name) (defScope s_is_name) .none kV_is_name dc_is_name pm_is_name an_is_name cd_is_name ct_is_name), a_is_mask := a_is_mask, d_is_mask := (PySem.W.fnOf "is_mask" "is_mask" (defArgs s_is_mask) (defBody s_is_mask) (defScope s_is_mask) .none kV_is_mask dc_is_mask pm_is_mask an_is_mask cd_is_mask ct_is_mask), a_is_rule := a_is_rule, d_is_rule := (PySem.W.fnOf "is_rule" "is_rule" (defArgs s_is_rule) (defBody s_is_rule) (defScope s_is_rule) .none kV_is_rule dc_is_rule pm_is_rule an_is_rule cd_is_rule ct_is_rule), a_is_change := a_is_change, d_is_change := (PySem.W.fnOf "is_change" "is_change" (defArgs s_is_change) (defBody s_is_change) (defScope s_is_change) .none kV_is_change dc_is_change pm_is_change an_is_change cd_is_change ct_is_change), a_check_sizes := a_check_sizes, d_check_sizes := (PySem.W.fnOf "check_sizes" "check_sizes" (defArgs s_check_sizes) (defBody s_check_sizes) (defScope s_check_sizes) .none kV_check_sizes dc_check_sizes pm_check_sizes an_check_sizes cd_check_sizes ct_check_sizes), a_check_rules := a_check_rules, d_check_rules := (PySem.W.fnOf "check_rules" "check_rules" (defArgs s_check_rules) (defBody s_check_rules) (defScope s_check_rules) .none kV_check_rules dc_check_rules pm_check_rules an_check_rules cd_check_rules ct_check_rules), a_check_changes := a_check_changes, d_check_changes := (PySem.W.fnOf "check_changes" "check_changes" (defArgs s_check_changes) (defBody s_check_changes) (defScope s_check_changes) .none kV_check_changes dc_check_changes pm_check_changes an_check_changes cd_check_changes ct_check_changes), a_state_names := a_state_names, d_state_names := (PySem.W.fnOf "state_names" "state_names" (defArgs s_state_names) (defBody s_state_names) (defScope s_state_names) .none kV_state_names dc_state_names pm_state_names an_state_names cd_state_names ct_state_names), a_matched := a_matched, d_matched := (PySem.W.fnOf "matched" "matched" (defArgs s_matched) (defBody s_matched) (defScope s_matched) .none kV_matched dc_matched pm_matched an_matched cd_matched ct_matched), a_readings := a_readings, d_readings := (PySem.W.fnOf "readings" "readings" (defArgs s_readings) (defBody s_readings) (defScope s_readings) .none kV_readings dc_readings pm_readings an_readings cd_readings ct_readings), a_has_signs := a_has_signs, d_has_signs := (PySem.W.fnOf "has_signs" "has_signs" (defArgs s_has_signs) (defBody s_has_signs) (defScope s_has_signs) .none kV_has_signs dc_has_signs pm_has_signs an_has_signs cd_has_signs ct_has_signs), a_is_number_word := a_is_number_word, d_is_number_word := (PySem.W.fnOf "is_number_word" "is_number_word" (defArgs s_is_number_word) (defBody s_is_number_word) (defScope s_is_number_word) .none kV_is_number_word dc_is_number_word pm_is_number_word an_is_number_word cd_is_number_word ct_is_number_word), a_are_number_words := a_are_number_words, d_are_number_words := (PySem.W.fnOf "are_number_words" "are_number_words" (defArgs s_are_number_words) (defBody s_are_number_words) (defScope s_are_number_words) .none kV_are_number_words dc_are_number_words pm_are_number_words an_are_number_words cd_are_number_words ct_are_number_words), a_is_name_word := a_is_name_word, d_is_name_word := (PySem.W.fnOf "is_name_word" "is_name_word" (defArgs s_is_name_word) (defBody s_is_name_word) (defScope s_is_name_word) .none kV_is_name_word dc_is_name_word pm_is_name_word an_is_name_word cd_is_name_word ct_is_name_word), a_can_be_row := a_can_be_row, d_can_be_row := (PySem.W.fnOf "can_be_row" "can_be_row" (defArgs s_can_be_row) (defBody s_can_be_row) (defScope s_can_be_row) .none kV_can_be_row dc_can_be_row pm_can_be_row an_can_be_row cd_can_be_row ct_can_be_row), a_can_be_event := a_can_be_event, d_can_be_event := (PySem.W.fnOf "can_be_event" "can_be_event" (defArgs s_can_be_event) (defBody s_can_be_event) (defScope s_can_be_event) .none kV_can_be_event dc_can_be_event pm_can_be_event an_can_be_event cd_can_be_event ct_can_be_event), a_lines_of := a_lines_of, d_lines_of := (PySem.W.fnOf "lines_of" "lines_of" (defArgs s_lines_of) (defBody s_lines_of) (defScope s_lines_of) .none kV_lines_of dc_lines_of pm_lines_of an_lines_of cd_lines_of ct_lines_of), a_need_alone := a_need_alone, d_need_alone := (PySem.W.fnOf "need_alone" "need_alone" (defArgs s_need_alone) (defBody s_need_alone) (defScope s_need_alone) .none kV_need_alone dc_need_alone pm_need_alone an_need_alone cd_need_alone ct_need_alone), a_read_driver := a_read_driver, d_read_driver := (PySem.W.fnOf "read_driver" "read_driver" (defArgs s_read_driver) (defBody s_read_driver) (defScope s_read_driver) .none kV_read_driver dc_read_driver pm_read_driver an_read_driver cd_read_driver ct_read_driver), a_read_story := a_read_story, d_read_story := (PySem.W.fnOf "read_story" "read_story" (defArgs s_read_story) (defBody s_read_story) (defScope s_read_story) .none kV_read_story dc_read_story pm_read_story an_read_story cd_read_story ct_read_story) }
  let w1 : Lz := { a_Lpen := a_Lpen, d_Lpen := (PySem.W.fnOf "_law_pen" "_law_pen" (defArgs s_Lpen) (defBody s_Lpen) (defScope s_Lpen) .none kV_Lpen dc_Lpen pm_Lpen an_Lpen cd_Lpen ct_Lpen), a_Ldraw := a_Ldraw, d_Ldraw := (PySem.W.fnOf "_law_draw" "_law_draw" (defArgs s_Ldraw) (defBody s_Ldraw) (defScope s_Ldraw) .none kV_Ldraw dc_Ldraw pm_Ldraw an_Ldraw cd_Ldraw ct_Ldraw), a_Lpick := a_Lpick, d_Lpick := (PySem.W.fnOf "_law_pick" "_law_pick" (defArgs s_Lpick) (defBody s_Lpick) (defScope s_Lpick) .none kV_Lpick dc_Lpick pm_Lpick an_Lpick cd_Lpick ct_Lpick), a_Lheard := a_Lheard, d_Lheard := (PySem.W.fnOf "_law_heard" "_law_heard" (defArgs s_Lheard) (defBody s_Lheard) (defScope s_Lheard) .none kV_Lheard dc_Lheard pm_Lheard an_Lheard cd_Lheard ct_Lheard), a_Lrows := a_Lrows, d_Lrows := (PySem.W.fnOf "_law_rows" "_law_rows" (defArgs s_Lrows) (defBody s_Lrows) (defScope s_Lrows) .none kV_Lrows dc_Lrows pm_Lrows an_Lrows cd_Lrows ct_Lrows), a_Levents := a_Levents, d_Levents := (PySem.W.fnOf "_law_events" "_law_events" (defArgs s_Levents) (defBody s_Levents) (defScope s_Levents) .none kV_Levents dc_Levents pm_Levents an_Levents cd_Levents ct_Levents), a_Lodd_row := a_Lodd_row, d_Lodd_row := (PySem.W.fnOf "_law_odd_row" "_law_odd_row" (defArgs s_Lodd_row) (defBody s_Lodd_row) (defScope s_Lodd_row) .none kV_Lodd_row dc_Lodd_row pm_Lodd_row an_Lodd_row cd_Lodd_row ct_Lodd_row), a_Lodd_event := a_Lodd_event, d_Lodd_event := (PySem.W.fnOf "_law_odd_event" "_law_odd_event" (defArgs s_Lodd_event) (defBody s_Lodd_event) (defScope s_Lodd_event) .none kV_Lodd_event dc_Lodd_event pm_Lodd_event an_Lodd_event cd_Lodd_event ct_Lodd_event), a_Lbent := a_Lbent, d_Lbent := (PySem.W.fnOf "_law_bent" "_law_bent" (defArgs s_Lbent) (defBody s_Lbent) (defScope s_Lbent) .none kV_Lbent dc_Lbent pm_Lbent an_Lbent cd_Lbent ct_Lbent), a_law := fa, d_law := (PySem.W.fnOf "law" "law" (defArgs s_law) (defBody s_law) (defScope s_law) .none kV_law dc_law pm_law an_law (.ref c0) ct_law) }
  have T : TxL K mg z w1 := { xFallenError := PySem.W.mg_of X G gF, clF := clF, tyF := tyF, sbF := sbF, xb := ⟨hn, ht⟩, xNoPattern := XF.of X G gxNoPattern oxNoPattern kpxNoPattern tyxNoPattern saxNoPattern gaxNoPattern ggxNoPattern caxNoPattern, F_npi := F_npi, b_npi := B_npi, iNP := iNP, tNP := tNP, nNP := nNP, xUnlike := XF.of X G gxUnlike oxUnlike kpxUnlike tyxUnlike saxUnlike gaxUnlike ggxUnlike caxUnlike, eUnlike := exUnlike, xNoBit := XF.of X G gxNoBit oxNoBit kpxNoBit tyxNoBit saxNoBit gaxNoBit ggxNoBit caxNoBit, eNoBit := exNoBit, xNoStore := XF.of X G gxNoStore oxNoStore kpxNoStore tyxNoStore saxNoStore gaxNoStore ggxNoStore caxNoStore, F_NoStorei := F_NoStorei, b_NoStorei := B_NoStorei, iNoStore := iNoStore, tNoStore := tNoStore, nNoStore_part := nNoStore_part, nNoStore_at := nNoStore_at, xNoDriver := XF.of X G gxNoDriver oxNoDriver kpxNoDriver tyxNoDriver saxNoDriver gaxNoDriver ggxNoDriver caxNoDriver, F_NoDriveri := F_NoDriveri, b_NoDriveri := B_NoDriveri, iNoDriver := iNoDriver, tNoDriver := tNoDriver, nNoDriver_at := nNoDriver_at, xNoText := XF.of X G gxNoText oxNoText kpxNoText tyxNoText saxNoText gaxNoText ggxNoText caxNoText, F_NoTexti := F_NoTexti, b_NoTexti := B_NoTexti, iNoText := iNoText, tNoText := tNoText, nNoText_line := nNoText_line, ne_NoPattern_F := ne_NoPattern_F, ne_NoPattern_Unlike := ne_NoPattern_Unlike, ne_NoPattern_NoBit := ne_NoPattern_NoBit, ne_NoPattern_NoStore := ne_NoPattern_NoStore, ne_NoPattern_NoDriver := ne_NoPattern_NoDriver, ne_NoPattern_NoText := ne_NoPattern_NoText, ne_Unlike_F := ne_Unlike_F, ne_Unlike_NoPattern := ne_Unlike_NoPattern, ne_Unlike_NoBit := ne_Unlike_NoBit, ne_Unlike_NoStore := ne_Unlike_NoStore, ne_Unlike_NoDriver := ne_Unlike_NoDriver, ne_Unlike_NoText := ne_Unlike_NoText, ne_NoBit_F := ne_NoBit_F, ne_NoBit_NoPattern := ne_NoBit_NoPattern, ne_NoBit_Unlike := ne_NoBit_Unlike, ne_NoBit_NoStore := ne_NoBit_NoStore, ne_NoBit_NoDriver := ne_NoBit_NoDriver, ne_NoBit_NoText := ne_NoBit_NoText, ne_NoStore_F := ne_NoStore_F, ne_NoStore_NoPattern := ne_NoStore_NoPattern, ne_NoStore_Unlike := ne_NoStore_Unlike, ne_NoStore_NoBit := ne_NoStore_NoBit, ne_NoStore_NoDriver := ne_NoStore_NoDriver, ne_NoStore_NoText := ne_NoStore_NoText, ne_NoDriver_F := ne_NoDriver_F, ne_NoDriver_NoPattern := ne_NoDriver_NoPattern, ne_NoDriver_Unlike := ne_NoDriver_Unlike, ne_NoDriver_NoBit := ne_NoDriver_NoBit, ne_NoDriver_NoStore := ne_NoDriver_NoStore, ne_NoDriver_NoText := ne_NoDriver_NoText, ne_NoText_F := ne_NoText_F, ne_NoText_NoPattern := ne_NoText_NoPattern, ne_NoText_Unlike := ne_NoText_Unlike, ne_NoText_NoBit := ne_NoText_NoBit, ne_NoText_NoStore := ne_NoText_NoStore, ne_NoText_NoDriver := ne_NoText_NoDriver, g_Pattern := PySem.W.mg_of X G gC, crP := ⟨rdC, gaC⟩, vBITS := ⟨_, _, ⟨rdC, gaC⟩, ⟨vBITS, ⟨_, rfl⟩⟩⟩, vBLOCKS := ⟨_, _, ⟨rdC, gaC⟩, ⟨vBLOCKS, ⟨_, rfl⟩⟩⟩, g_Store := PySem.W.mg_of X G gC_Store, crP_Store := ⟨rdC_Store, gaC_Store⟩, cls_Store := ⟨pgC_Store, hdC_Store, poC_Store, saC_Store⟩, mkP_Store := ⟨mkC_Store, m_Store_init, f_Store_init, kpC_Store⟩, ca_Store := caC_Store, mo_Store := moC_Store, sf_Store := sfC_Store, ic_Store := icC_Store, tyC_Store := tyC_Store, na_sizes_Store := na_sizes_Store, na_rules_Store := na_rules_Store, na_changes_Store := na_changes_Store, na_states_Store := na_states_Store, na_readings_Store := na_readings_Store, m_Store_init := m_Store_init, f_Store_init := f_Store_init, F_Store_init := F_Store_init, b_Store_init := B_Store_init, g_Driver := PySem.W.mg_of X G gC_Driver, crP_Driver := ⟨rdC_Driver, gaC_Driver⟩, g_MOST_BLOCKS := ⟨_, PySem.W.mg_of X G gkMOST_BLOCKS⟩, g_MOST_BITS := ⟨_, PySem.W.mg_of X G gkMOST_BITS⟩, g_MOST_RULES := ⟨_, PySem.W.mg_of X G gkMOST_RULES⟩, g_MOST_CHANGES := ⟨_, PySem.W.mg_of X G gkMOST_CHANGES⟩, g_MOST_NAME_SIGNS := ⟨_, PySem.W.mg_of X G gkMOST_NAME_SIGNS⟩, g_LETTERS := ⟨_, PySem.W.mg_of X G gkLETTERS⟩, g_NAME_SIGNS := ⟨_, PySem.W.mg_of X G gkNAME_SIGNS⟩, g_MOST_ROWS := ⟨_, PySem.W.mg_of X G gkMOST_ROWS⟩, g_NONE := ⟨_, PySem.W.mg_of X G gkNONE⟩, g_QUIET := ⟨_, PySem.W.mg_of X G gkQUIET⟩, g_DIGITS := ⟨_, PySem.W.mg_of X G gkDIGITS⟩, g_MOST_DIGITS := ⟨_, PySem.W.mg_of X G gkMOST_DIGITS⟩, g_PATTERN_SIGNS := ⟨_, PySem.W.mg_of X G gkPATTERN_SIGNS⟩, g_MASK_SIGNS := ⟨_, PySem.W.mg_of X G gkMASK_SIGNS⟩, g_is_whole := PySem.W.mg_of X G g_is_whole, k_is_whole := k_is_whole, b_is_whole := B_is_whole, F_is_whole := F_is_whole, g_is_tuple_of := PySem.W.mg_of X G g_is_tuple_of, k_is_tuple_of := k_is_tuple_of, b_is_tuple_of := B_is_tuple_of, F_is_tuple_of := F_is_tuple_of, g_is_pair := PySem.W.mg_of X G g_is_pair, k_is_pair := k_is_pair, b_is_pair := B_is_pair, F_is_pair := F_is_pair, g_is_name := PySem.W.mg_of X G g_is_name, k_is_name := k_is_name, b_is_name := B_is_name, F_is_name := F_is_name, g_is_mask := PySem.W.mg_of X G g_is_mask, k_is_mask := k_is_mask, b_is_mask := B_is_mask, F_is_mask := F_is_mask, g_is_rule := PySem.W.mg_of X G g_is_rule, k_is_rule := k_is_rule, b_is_rule := B_is_rule, F_is_rule := F_is_rule, g_is_change := PySem.W.mg_of X G g_is_change, k_is_change := k_is_change, b_is_change := B_is_change, F_is_change := F_is_change, g_check_sizes := PySem.W.mg_of X G g_check_sizes, k_check_sizes := k_check_sizes, b_check_sizes := B_check_sizes, F_check_sizes := F_check_sizes, g_check_rules := PySem.W.mg_of X G g_check_rules, k_check_rules := k_check_rules, b_check_rules := B_check_rules, F_check_rules := F_check_rules, g_check_changes := PySem.W.mg_of X G g_check_changes, k_check_changes := k_check_changes, b_check_changes := B_check_changes, F_check_changes := F_check_changes, g_state_names := PySem.W.mg_of X G g_state_names, k_state_names := k_state_names, b_state_names := B_state_names, F_state_names := F_state_names, g_matched := PySem.W.mg_of X G g_matched, k_matched := k_matched, b_matched := B_matched, F_matched := F_matched, g_readings := PySem.W.mg_of X G g_readings, k_readings := k_readings, b_readings := B_readings, F_readings := F_readings, g_has_signs := PySem.W.mg_of X G g_has_signs, k_has_signs := k_has_signs, b_has_signs := B_has_signs, F_has_signs := F_has_signs, g_is_number_word := PySem.W.mg_of X G g_is_number_word, k_is_number_word := k_is_number_word, b_is_number_word := B_is_number_word, F_is_number_word := F_is_number_word, g_are_number_words := PySem.W.mg_of X G g_are_number_words, k_are_number_words := k_are_number_words, b_are_number_words := B_are_number_words, F_are_number_words := F_are_number_words, g_is_name_word := PySem.W.mg_of X G g_is_name_word, k_is_name_word := k_is_name_word, b_is_name_word := B_is_name_word, F_is_name_word := F_is_name_word, g_can_be_row := PySem.W.mg_of X G g_can_be_row, k_can_be_row := k_can_be_row, b_can_be_row := B_can_be_row, F_can_be_row := F_can_be_row, g_can_be_event := PySem.W.mg_of X G g_can_be_event, k_can_be_event := k_can_be_event, b_can_be_event := B_can_be_event, F_can_be_event := F_can_be_event, g_lines_of := PySem.W.mg_of X G g_lines_of, k_lines_of := k_lines_of, b_lines_of := B_lines_of, F_lines_of := F_lines_of, g_need_alone := PySem.W.mg_of X G g_need_alone, k_need_alone := k_need_alone, b_need_alone := B_need_alone, F_need_alone := F_need_alone, g_read_driver := PySem.W.mg_of X G g_read_driver, k_read_driver := k_read_driver, b_read_driver := B_read_driver, F_read_driver := F_read_driver, g_read_story := PySem.W.mg_of X G g_read_story, k_read_story := k_read_story, b_read_story := B_read_story, F_read_story := F_read_story, n_abs := PySem.W.mg_none_of X G b_abs, n_all := PySem.W.mg_none_of X G b_all, n_bool := PySem.W.mg_none_of X G b_bool, n_enumerate := PySem.W.mg_none_of X G b_enumerate, n_int := PySem.W.mg_none_of X G b_int, n_isinstance := PySem.W.mg_none_of X G b_isinstance, n_len := PySem.W.mg_none_of X G b_len, n_list := PySem.W.mg_none_of X G b_list, n_range := PySem.W.mg_none_of X G b_range, n_set := PySem.W.mg_none_of X G b_set, n_sorted := PySem.W.mg_none_of X G b_sorted, n_str := PySem.W.mg_none_of X G b_str, n_sum := PySem.W.mg_none_of X G b_sum, n_tuple := PySem.W.mg_none_of X G b_tuple, n_zip := PySem.W.mg_none_of X G b_zip, g_Lpen := PySem.W.mg_of X G g_Lpen, k_Lpen := k_Lpen, b_Lpen := B_Lpen, F_Lpen := F_Lpen, g_Ldraw := PySem.W.mg_of X G g_Ldraw, k_Ldraw := k_Ldraw, b_Ldraw := B_Ldraw, F_Ldraw := F_Ldraw, g_Lpick := PySem.W.mg_of X G g_Lpick, k_Lpick := k_Lpick, b_Lpick := B_Lpick, F_Lpick := F_Lpick, g_Lheard := PySem.W.mg_of X G g_Lheard, k_Lheard := k_Lheard, b_Lheard := B_Lheard, F_Lheard := F_Lheard, g_Lrows := PySem.W.mg_of X G g_Lrows, k_Lrows := k_Lrows, b_Lrows := B_Lrows, F_Lrows := F_Lrows, g_Levents := PySem.W.mg_of X G g_Levents, k_Levents := k_Levents, b_Levents := B_Levents, F_Levents := F_Levents, g_Lodd_row := PySem.W.mg_of X G g_Lodd_row, k_Lodd_row := k_Lodd_row, b_Lodd_row := B_Lodd_row, F_Lodd_row := F_Lodd_row, g_Lodd_event := PySem.W.mg_of X G g_Lodd_event, k_Lodd_event := k_Lodd_event, b_Lodd_event := B_Lodd_event, F_Lodd_event := F_Lodd_event, g_Lbent := PySem.W.mg_of X G g_Lbent, k_Lbent := k_Lbent, b_Lbent := B_Lbent, F_Lbent := F_Lbent }
  have hR : ∀ p ∈ [(Pc0, qLaw)], p.1 = Pc0 → p.2 = qLaw := fun p hp e => by rw [List.mem_singleton.mp hp]
  have one : ∀ {A : Addr × Addr → Prop}, A (c0, Pc0) → ∀ p ∈ [(c0, Pc0)], A p := fun a p hp => by rw [List.mem_singleton.mp hp]; exact a
  refine ⟨(PySem.W.fnOf "law" "law" (defArgs s_law) (defBody s_law) (defScope s_law) .none kV_law dc_law pm_law an_law (.ref c0) ct_law), [(c0, Pc0)], spLaw K [(Pc0, qLaw)], one tbc0, one noc0, one (PySem.W.codeHd_of_K X hdc0), fun s u => .of_eq rfl, fun H a ns hl _ hH hS => ⟨a, ns, rfl, hS, hl, fun p hp => ?_, fun _ => rfl⟩, fun base _ _ TB => ?_⟩
  · rw [List.mem_singleton.mp hp]
    exact LamX.TabS.nil (hH (c0, Pc0) (List.mem_singleton_self _))
  · exact ok_law T l_law c_law (TB (c0, Pc0) (List.mem_singleton_self _)) (List.mem_singleton_self _) hR
end Fb
open PySem PySem.W PyProof.Rows
set_option maxRecDepth 100000 in
set_option maxHeartbeats 0 in
theorem PySem.Challenge.cw_fallenbits_k82_texts_of_drivers_and_stor_holds : PySem.Challenge.rw_fallenbits_k82_texts_of_drivers_and_stor.Holds := by
  w_on; o_law; k_head; (case hw => w_witness2)
  k_fill
  refine LamX.walk_ofTs (l := PySem.Challenge.rw_fallenbits_k82_texts_of_drivers_and_stor) (CX := fun _ => L2.CX0) (n := 63) (k := 9) (x := "_law_script") rfl (by decide) rfl ⟨rfl, by decide, by decide⟩ (fun w h Y => PySem.W.km_in_of Y) ?F (fun _ _ _ _ _ z => z)
  case F =>
    intro w mg fa h Y KX G hmg
    refine' Fb.all_mk KX G hmg ?zz_gF ?zz_clF ?zz_tyF ?zz_sbF ?zz_hn ?zz_ht ?zz_gxNoPattern ?zz_oxNoPattern ?zz_kpxNoPattern ?zz_tyxNoPattern ?zz_saxNoPattern ?zz_gaxNoPattern ?zz_ggxNoPattern ?zz_caxNoPattern ?zz_iNP ?zz_tNP ?zz_l_npi ?zz_c_npi ?zz_k_npi ?zz_nNP ?zz_gxUnlike ?zz_oxUnlike ?zz_kpxUnlike ?zz_tyxUnlike ?zz_saxUnlike ?zz_gaxUnlike ?zz_ggxUnlike ?zz_caxUnlike ?zz_exUnlike ?zz_gxNoBit ?zz_oxNoBit ?zz_kpxNoBit ?zz_tyxNoBit ?zz_saxNoBit ?zz_gaxNoBit ?zz_ggxNoBit ?zz_caxNoBit ?zz_exNoBit ?zz_gxNoStore ?zz_oxNoStore ?zz_kpxNoStore ?zz_tyxNoStore ?zz_saxNoStore ?zz_gaxNoStore ?zz_ggxNoStore ?zz_caxNoStore ?zz_iNoStore ?zz_tNoStore ?zz_l_NoStorei ?zz_c_NoStorei ?zz_k_NoStorei ?zz_nNoStore_part ?zz_nNoStore_at ?zz_gxNoDriver ?zz_oxNoDriver ?zz_kpxNoDriver ?zz_tyxNoDriver ?zz_saxNoDriver ?zz_gaxNoDriver ?zz_ggxNoDriver ?zz_caxNoDriver ?zz_iNoDriver ?zz_tNoDriver ?zz_l_NoDriveri ?zz_c_NoDriveri ?zz_k_NoDriveri ?zz_nNoDriver_at ?zz_gxNoText ?zz_oxNoText ?zz_kpxNoText ?zz_tyxNoText ?zz_saxNoText ?zz_gaxNoText ?zz_ggxNoText ?zz_caxNoText ?zz_iNoText ?zz_tNoText ?zz_l_NoTexti ?zz_c_NoTexti ?zz_k_NoTexti ?zz_nNoText_line ?zz_ne_NoPattern_F ?zz_ne_NoPattern_Unlike ?zz_ne_NoPattern_NoBit ?zz_ne_NoPattern_NoStore ?zz_ne_NoPattern_NoDriver ?zz_ne_NoPattern_NoText ?zz_ne_Unlike_F ?zz_ne_Unlike_NoPattern ?zz_ne_Unlike_NoBit ?zz_ne_Unlike_NoStore ?zz_ne_Unlike_NoDriver ?zz_ne_Unlike_NoText ?zz_ne_NoBit_F ?zz_ne_NoBit_NoPattern ?zz_ne_NoBit_Unlike ?zz_ne_NoBit_NoStore ?zz_ne_NoBit_NoDriver ?zz_ne_NoBit_NoText ?zz_ne_NoStore_F ?zz_ne_NoStore_NoPattern ?zz_ne_NoStore_Unlike ?zz_ne_NoStore_NoBit ?zz_ne_NoStore_NoDriver ?zz_ne_NoStore_NoText ?zz_ne_NoDriver_F ?zz_ne_NoDriver_NoPattern ?zz_ne_NoDriver_Unlike ?zz_ne_NoDriver_NoBit ?zz_ne_NoDriver_NoStore ?zz_ne_NoDriver_NoText ?zz_ne_NoText_F ?zz_ne_NoText_NoPattern ?zz_ne_NoText_Unlike ?zz_ne_NoText_NoBit ?zz_ne_NoText_NoStore ?zz_ne_NoText_NoDriver ?zz_gC ?zz_rdC ?zz_gaC ?zz_vBITS ?zz_vBLOCKS ?zz_gC_Store ?zz_rdC_Store ?zz_gaC_Store ?zz_lC_Store ?zz_mroC_Store ?zz_pgC_Store ?zz_hdC_Store ?zz_poC_Store ?zz_saC_Store ?zz_mkC_Store ?zz_kpC_Store ?zz_caC_Store ?zz_moC_Store ?zz_sfC_Store ?zz_tyC_Store ?zz_na_sizes_Store ?zz_na_rules_Store ?zz_na_changes_Store ?zz_na_states_Store ?zz_na_readings_Store ?zz_m_Store_init ?zz_f_Store_init ?zz_l_Store_init ?zz_c_Store_init ?zz_k_Store_init ?zz_gC_Driver ?zz_rdC_Driver ?zz_gaC_Driver ?zz_gkMOST_BLOCKS ?zz_gkMOST_BITS ?zz_gkMOST_RULES ?zz_gkMOST_CHANGES ?zz_gkMOST_NAME_SIGNS ?zz_gkLETTERS ?zz_gkNAME_SIGNS ?zz_gkMOST_ROWS ?zz_gkNONE ?zz_gkQUIET ?zz_gkDIGITS ?zz_gkMOST_DIGITS ?zz_gkPATTERN_SIGNS ?zz_gkMASK_SIGNS ?zz_g_is_whole ?zz_l_is_whole ?zz_c_is_whole ?zz_k_is_whole ?zz_g_is_tuple_of ?zz_l_is_tuple_of ?zz_c_is_tuple_of ?zz_k_is_tuple_of ?zz_g_is_pair ?zz_l_is_pair ?zz_c_is_pair ?zz_k_is_pair ?zz_g_is_name ?zz_l_is_name ?zz_c_is_name ?zz_k_is_name ?zz_g_is_mask ?zz_l_is_mask ?zz_c_is_mask ?zz_k_is_mask ?zz_g_is_rule ?zz_l_is_rule ?zz_c_is_rule ?zz_k_is_rule ?zz_g_is_change ?zz_l_is_change ?zz_c_is_change ?zz_k_is_change ?zz_g_check_sizes ?zz_l_check_sizes ?zz_c_check_sizes ?zz_k_check_sizes ?zz_g_check_rules ?zz_l_check_rules ?zz_c_check_rules ?zz_k_check_rules ?zz_g_check_changes ?zz_l_check_changes ?zz_c_check_changes ?zz_k_check_changes ?zz_g_state_names ?zz_l_state_names ?zz_c_state_names ?zz_k_state_names ?zz_g_matched ?zz_l_matched ?zz_c_matched ?zz_k_matched ?zz_g_readings ?zz_l_readings ?zz_c_readings ?zz_k_readings ?zz_g_has_signs ?zz_l_has_signs ?zz_c_has_signs ?zz_k_has_signs ?zz_g_is_number_word ?zz_l_is_number_word ?zz_c_is_number_word ?zz_k_is_number_word ?zz_g_are_number_words ?zz_l_are_number_words ?zz_c_are_number_words ?zz_k_are_number_words ?zz_g_is_name_word ?zz_l_is_name_word ?zz_c_is_name_word ?zz_k_is_name_word ?zz_g_can_be_row ?zz_l_can_be_row ?zz_c_can_be_row ?zz_k_can_be_row ?zz_g_can_be_event ?zz_l_can_be_event ?zz_c_can_be_event ?zz_k_can_be_event ?zz_g_lines_of ?zz_l_lines_of ?zz_c_lines_of ?zz_k_lines_of ?zz_g_need_alone ?zz_l_need_alone ?zz_c_need_alone ?zz_k_need_alone ?zz_g_read_driver ?zz_l_read_driver ?zz_c_read_driver ?zz_k_read_driver ?zz_g_read_story ?zz_l_read_story ?zz_c_read_story ?zz_k_read_story ?zz_b_abs ?zz_b_all ?zz_b_bool ?zz_b_enumerate ?zz_b_int ?zz_b_isinstance ?zz_b_len ?zz_b_list ?zz_b_range ?zz_b_set ?zz_b_sorted ?zz_b_str ?zz_b_sum ?zz_b_tuple ?zz_b_zip ?zz_g_Lpen ?zz_l_Lpen ?zz_c_Lpen ?zz_k_Lpen ?zz_g_Ldraw ?zz_l_Ldraw ?zz_c_Ldraw ?zz_k_Ldraw ?zz_g_Lpick ?zz_l_Lpick ?zz_c_Lpick ?zz_k_Lpick ?zz_g_Lheard ?zz_l_Lheard ?zz_c_Lheard ?zz_k_Lheard ?zz_g_Lrows ?zz_l_Lrows ?zz_c_Lrows ?zz_k_Lrows ?zz_g_Levents ?zz_l_Levents ?zz_c_Levents ?zz_k_Levents ?zz_g_Lodd_row ?zz_l_Lodd_row ?zz_c_Lodd_row ?zz_k_Lodd_row ?zz_g_Lodd_event ?zz_l_Lodd_event ?zz_c_Lodd_event ?zz_k_Lodd_event ?zz_g_Lbent ?zz_l_Lbent ?zz_c_Lbent ?zz_k_Lbent ?zz_g_law ?zz_l_law ?zz_c_law ?zz_k_law ?zz_lkc0 ?zz_elc0 ?zz_hdc0 ?zz_noc0 ?zz_tbc0
    (case zz_gF => k_is)
    (case zz_clF => k_is)
    (case zz_tyF => k_is)
    (case zz_sbF => k_is)
    (case zz_hn => k_is)
    (case zz_ht => k_is)
    (case zz_gxNoPattern => k_is)
    (case zz_oxNoPattern => k_is)
    (case zz_kpxNoPattern => k_is)
    (case zz_tyxNoPattern => k_is)
    (case zz_saxNoPattern => k_is)
    (case zz_gaxNoPattern => k_is)
    (case zz_ggxNoPattern => k_is)
    (case zz_caxNoPattern => k_is)
    (case zz_iNP => k_is)
    (case zz_tNP => k_is)
    (case zz_l_npi => k_is)
    (case zz_c_npi => k_is)
    (case zz_k_npi => k_is)
    (case zz_nNP => k_is)
    (case zz_gxUnlike => k_is)
    (case zz_oxUnlike => k_is)
    (case zz_kpxUnlike => k_is)
    (case zz_tyxUnlike => k_is)
    (case zz_saxUnlike => k_is)
    (case zz_gaxUnlike => k_is)
    (case zz_ggxUnlike => k_is)
    (case zz_caxUnlike => k_is)
    (case zz_exUnlike => k_exc)
    (case zz_gxNoBit => k_is)
    (case zz_oxNoBit => k_is)
    (case zz_kpxNoBit => k_is)
    (case zz_tyxNoBit => k_is)
    (case zz_saxNoBit => k_is)
    (case zz_gaxNoBit => k_is)
    (case zz_ggxNoBit => k_is)
    (case zz_caxNoBit => k_is)
    (case zz_exNoBit => k_exc)
    (case zz_gxNoStore => k_is)
    (case zz_oxNoStore => k_is)
    (case zz_kpxNoStore => k_is)
    (case zz_tyxNoStore => k_is)
    (case zz_saxNoStore => k_is)
    (case zz_gaxNoStore => k_is)
    (case zz_ggxNoStore => k_is)
    (case zz_caxNoStore => k_is)
    (case zz_iNoStore => k_is)
    (case zz_tNoStore => k_is)
    (case zz_l_NoStorei => k_is)
    (case zz_c_NoStorei => k_is)
    (case zz_k_NoStorei => k_is)
    (case zz_nNoStore_part => k_is)
    (case zz_nNoStore_at => k_is)
    (case zz_gxNoDriver => k_is)
    (case zz_oxNoDriver => k_is)
    (case zz_kpxNoDriver => k_is)
    (case zz_tyxNoDriver => k_is)
    (case zz_saxNoDriver => k_is)
    (case zz_gaxNoDriver => k_is)
    (case zz_ggxNoDriver => k_is)
    (case zz_caxNoDriver => k_is)
    (case zz_iNoDriver => k_is)
    (case zz_tNoDriver => k_is)
    (case zz_l_NoDriveri => k_is)
    (case zz_c_NoDriveri => k_is)
    (case zz_k_NoDriveri => k_is)
    (case zz_nNoDriver_at => k_is)
    (case zz_gxNoText => k_is)
    (case zz_oxNoText => k_is)
    (case zz_kpxNoText => k_is)
    (case zz_tyxNoText => k_is)
    (case zz_saxNoText => k_is)
    (case zz_gaxNoText => k_is)
    (case zz_ggxNoText => k_is)
    (case zz_caxNoText => k_is)
    (case zz_iNoText => k_is)
    (case zz_tNoText => k_is)
    (case zz_l_NoTexti => k_is)
    (case zz_c_NoTexti => k_is)
    (case zz_k_NoTexti => k_is)
    (case zz_nNoText_line => k_is)
    (case zz_ne_NoPattern_F => decide)
    (case zz_ne_NoPattern_Unlike => decide)
    (case zz_ne_NoPattern_NoBit => decide)
    (case zz_ne_NoPattern_NoStore => decide)
    (case zz_ne_NoPattern_NoDriver => decide)
    (case zz_ne_NoPattern_NoText => decide)
    (case zz_ne_Unlike_F => decide)
    (case zz_ne_Unlike_NoPattern => decide)
    (case zz_ne_Unlike_NoBit => decide)
    (case zz_ne_Unlike_NoStore => decide)
    (case zz_ne_Unlike_NoDriver => decide)
    (case zz_ne_Unlike_NoText => decide)
    (case zz_ne_NoBit_F => decide)
    (case zz_ne_NoBit_NoPattern => decide)
    (case zz_ne_NoBit_Unlike => decide)
    (case zz_ne_NoBit_NoStore => decide)
    (case zz_ne_NoBit_NoDriver => decide)
    (case zz_ne_NoBit_NoText => decide)
    (case zz_ne_NoStore_F => decide)
    (case zz_ne_NoStore_NoPattern => decide)
    (case zz_ne_NoStore_Unlike => decide)
    (case zz_ne_NoStore_NoBit => decide)
    (case zz_ne_NoStore_NoDriver => decide)
    (case zz_ne_NoStore_NoText => decide)
    (case zz_ne_NoDriver_F => decide)
    (case zz_ne_NoDriver_NoPattern => decide)
    (case zz_ne_NoDriver_Unlike => decide)
    (case zz_ne_NoDriver_NoBit => decide)
    (case zz_ne_NoDriver_NoStore => decide)
    (case zz_ne_NoDriver_NoText => decide)
    (case zz_ne_NoText_F => decide)
    (case zz_ne_NoText_NoPattern => decide)
    (case zz_ne_NoText_Unlike => decide)
    (case zz_ne_NoText_NoBit => decide)
    (case zz_ne_NoText_NoStore => decide)
    (case zz_ne_NoText_NoDriver => decide)
    (case zz_gC => k_is)
    (case zz_rdC => k_is)
    (case zz_gaC => k_is)
    (case zz_vBITS => k_is)
    (case zz_vBLOCKS => k_is)
    (case zz_gC_Store => k_is)
    (case zz_rdC_Store => k_is)
    (case zz_gaC_Store => k_is)
    (case zz_lC_Store => k_is)
    (case zz_mroC_Store => rfl)
    (case zz_pgC_Store => k_is)
    (case zz_hdC_Store => k_is)
    (case zz_poC_Store => k_is)
    (case zz_saC_Store => k_is)
    (case zz_mkC_Store => k_is)
    (case zz_kpC_Store => k_is)
    (case zz_caC_Store => k_is)
    (case zz_moC_Store => k_is)
    (case zz_sfC_Store => k_is)
    (case zz_tyC_Store => k_is)
    (case zz_na_sizes_Store => k_is)
    (case zz_na_rules_Store => k_is)
    (case zz_na_changes_Store => k_is)
    (case zz_na_states_Store => k_is)
    (case zz_na_readings_Store => k_is)
    (case zz_m_Store_init => k_is)
    (case zz_f_Store_init => k_is)
    (case zz_l_Store_init => k_is)
    (case zz_c_Store_init => k_is)
    (case zz_k_Store_init => k_is)
    (case zz_gC_Driver => k_is)
    (case zz_rdC_Driver => k_is)
    (case zz_gaC_Driver => k_is)
    (case zz_gkMOST_BLOCKS => k_is)
    (case zz_gkMOST_BITS => k_is)
    (case zz_gkMOST_RULES => k_is)
    (case zz_gkMOST_CHANGES => k_is)
    (case zz_gkMOST_NAME_SIGNS => k_is)
    (case zz_gkLETTERS => k_is)
    (case zz_gkNAME_SIGNS => k_is)
    (case zz_gkMOST_ROWS => k_is)
    (case zz_gkNONE => k_is)
    (case zz_gkQUIET => k_is)
    (case zz_gkDIGITS => k_is)
    (case zz_gkMOST_DIGITS => k_is)
    (case zz_gkPATTERN_SIGNS => k_is)
    (case zz_gkMASK_SIGNS => k_is)
    (case zz_g_is_whole => k_is)
    (case zz_l_is_whole => k_is)
    (case zz_c_is_whole => k_is)
    (case zz_k_is_whole => k_is)
    (case zz_g_is_tuple_of => k_is)
    (case zz_l_is_tuple_of => k_is)
    (case zz_c_is_tuple_of => k_is)
    (case zz_k_is_tuple_of => k_is)
    (case zz_g_is_pair => k_is)
    (case zz_l_is_pair => k_is)
    (case zz_c_is_pair => k_is)
    (case zz_k_is_pair => k_is)
    (case zz_g_is_name => k_is)
    (case zz_l_is_name => k_is)
    (case zz_c_is_name => k_is)
    (case zz_k_is_name => k_is)
    (case zz_g_is_mask => k_is)
    (case zz_l_is_mask => k_is)
    (case zz_c_is_mask => k_is)
    (case zz_k_is_mask => k_is)
    (case zz_g_is_rule => k_is)
    (case zz_l_is_rule => k_is)
    (case zz_c_is_rule => k_is)
    (case zz_k_is_rule => k_is)
    (case zz_g_is_change => k_is)
    (case zz_l_is_change => k_is)
    (case zz_c_is_change => k_is)
    (case zz_k_is_change => k_is)
    (case zz_g_check_sizes => k_is)
    (case zz_l_check_sizes => k_is)
    (case zz_c_check_sizes => k_is)
    (case zz_k_check_sizes => k_is)
    (case zz_g_check_rules => k_is)
    (case zz_l_check_rules => k_is)
    (case zz_c_check_rules => k_is)
    (case zz_k_check_rules => k_is)
    (case zz_g_check_changes => k_is)
    (case zz_l_check_changes => k_is)
    (case zz_c_check_changes => k_is)
    (case zz_k_check_changes => k_is)
    (case zz_g_state_names => k_is)
    (case zz_l_state_names => k_is)
    (case zz_c_state_names => k_is)
    (case zz_k_state_names => k_is)
    (case zz_g_matched => k_is)
    (case zz_l_matched => k_is)
    (case zz_c_matched => k_is)
    (case zz_k_matched => k_is)
    (case zz_g_readings => k_is)
    (case zz_l_readings => k_is)
    (case zz_c_readings => k_is)
    (case zz_k_readings => k_is)
    (case zz_g_has_signs => k_is)
    (case zz_l_has_signs => k_is)
    (case zz_c_has_signs => k_is)
    (case zz_k_has_signs => k_is)
    (case zz_g_is_number_word => k_is)
    (case zz_l_is_number_word => k_is)
    (case zz_c_is_number_word => k_is)
    (case zz_k_is_number_word => k_is)
    (case zz_g_are_number_words => k_is)
    (case zz_l_are_number_words => k_is)
    (case zz_c_are_number_words => k_is)
    (case zz_k_are_number_words => k_is)
    (case zz_g_is_name_word => k_is)
    (case zz_l_is_name_word => k_is)
    (case zz_c_is_name_word => k_is)
    (case zz_k_is_name_word => k_is)
    (case zz_g_can_be_row => k_is)
    (case zz_l_can_be_row => k_is)
    (case zz_c_can_be_row => k_is)
    (case zz_k_can_be_row => k_is)
    (case zz_g_can_be_event => k_is)
    (case zz_l_can_be_event => k_is)
    (case zz_c_can_be_event => k_is)
    (case zz_k_can_be_event => k_is)
    (case zz_g_lines_of => k_is)
    (case zz_l_lines_of => k_is)
    (case zz_c_lines_of => k_is)
    (case zz_k_lines_of => k_is)
    (case zz_g_need_alone => k_is)
    (case zz_l_need_alone => k_is)
    (case zz_c_need_alone => k_is)
    (case zz_k_need_alone => k_is)
    (case zz_g_read_driver => k_is)
    (case zz_l_read_driver => k_is)
    (case zz_c_read_driver => k_is)
    (case zz_k_read_driver => k_is)
    (case zz_g_read_story => k_is)
    (case zz_l_read_story => k_is)
    (case zz_c_read_story => k_is)
    (case zz_k_read_story => k_is)
    (case zz_b_abs => k_is)
    (case zz_b_all => k_is)
    (case zz_b_bool => k_is)
    (case zz_b_enumerate => k_is)
    (case zz_b_int => k_is)
    (case zz_b_isinstance => k_is)
    (case zz_b_len => k_is)
    (case zz_b_list => k_is)
    (case zz_b_range => k_is)
    (case zz_b_set => k_is)
    (case zz_b_sorted => k_is)
    (case zz_b_str => k_is)
    (case zz_b_sum => k_is)
    (case zz_b_tuple => k_is)
    (case zz_b_zip => k_is)
    (case zz_g_Lpen => k_is)
    (case zz_l_Lpen => k_is)
    (case zz_c_Lpen => k_is)
    (case zz_k_Lpen => k_is)
    (case zz_g_Ldraw => k_is)
    (case zz_l_Ldraw => k_is)
    (case zz_c_Ldraw => k_is)
    (case zz_k_Ldraw => k_is)
    (case zz_g_Lpick => k_is)
    (case zz_l_Lpick => k_is)
    (case zz_c_Lpick => k_is)
    (case zz_k_Lpick => k_is)
    (case zz_g_Lheard => k_is)
    (case zz_l_Lheard => k_is)
    (case zz_c_Lheard => k_is)
    (case zz_k_Lheard => k_is)
    (case zz_g_Lrows => k_is)
    (case zz_l_Lrows => k_is)
    (case zz_c_Lrows => k_is)
    (case zz_k_Lrows => k_is)
    (case zz_g_Levents => k_is)
    (case zz_l_Levents => k_is)
    (case zz_c_Levents => k_is)
    (case zz_k_Levents => k_is)
    (case zz_g_Lodd_row => k_is)
    (case zz_l_Lodd_row => k_is)
    (case zz_c_Lodd_row => k_is)
    (case zz_k_Lodd_row => k_is)
    (case zz_g_Lodd_event => k_is)
    (case zz_l_Lodd_event => k_is)
    (case zz_c_Lodd_event => k_is)
    (case zz_k_Lodd_event => k_is)
    (case zz_g_Lbent => k_is)
    (case zz_l_Lbent => k_is)
    (case zz_c_Lbent => k_is)
    (case zz_k_Lbent => k_is)
    (case zz_g_law => k_is)
    (case zz_l_law => k_is)
    (case zz_c_law => k_is)
    (case zz_k_law => k_is)
    (case zz_lkc0 => k_is)
    (case zz_elc0 => rfl)
    (case zz_hdc0 => kernel_rfl)
    (case zz_noc0 => kernel_rfl)
    (case zz_tbc0 => exact PySem.W.km_tabs_of Y _ (by k_mem))
