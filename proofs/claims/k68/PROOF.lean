import PyProof.Rows.All
import Wide.All
import OpenK.AllK
import Wide.FinOn
import HandS.ForMost
import HandS.ForExc
import PyProof.ReprReads
import PyProof.ReprRoads
import PyProof.Rows.CountFlat
import HandS.EndTab
import HandS.Wide
import HandS.Codes
import HandS.ExcInit
import HandS.ExcValue
import HandS.ExcIs
import HandS.IsInst
import HandS.SetFor
import KE.KExcIs
import KE.GoesEnum
import KE.GoesZip
import KE.GoesMore
import HandS.SlotsOwn
import HandS.Property
import HandS.ClsMeth
import KE.KCallOwn
import HandS.Replace
import HandS.ReplaceDef
import HandS.ReplaceLit
import HandS.WordsExc
import HandS.ReplaceList
import HandS.Lambda
import PyProof.StrOps2
import PyProof.WalkInts
import PyProof.FString5
import HandS.Star
import KE.KTupSum
import PyProof.Rows.StrCountLaw
import HandS.Base
import HandS.Call
import PyProof.ToksMono
import HandS.List
import HandS.RaiseMore
import HandS.StrMore
import HandS.TryOnly
import KE.KNestM
import PySem.Challenge.RW_fallenbits_k68_moves
set_option Elab.async false
set_option linter.all false
set_option maxRecDepth 100000
set_option maxHeartbeats 4000000
namespace Fb
open PySem PySem.Spec PyProof.Rows L2
/-! defs whose promise is asked only where no repr is under way -/
/-- no repr is under way -/
abbrev Q0 (A : Around) : Prop := A.guards = some []
structure FnG (P : Program) (w : World) (K : PySem.W.Frag) (mg : Str → Option Value) (base : Heap) (CX : CXT) (k : Nat) (f : Addr) (fd : FuncData) (ps : List Str) (sp : Sp) : Prop where
  many : ∀ {vs H Q E}, sp vs H Q E → vs.length = ps.length
  go : ∀ {A : Around} {outer : List Env} {s : Shared} {H : Hp} {args : Args} {us : List Value} {vs : List V} {Q : VK} {E : XK}, Q0 A → Room k A → Env0 P w K mg base A outer s H →
    BindsTo s fd args (ps.zip us) → Vals vs us → sp vs H Q E → codeAny (model P w) A (.call (.ref f) args) (CR CX outer P w H s Q E) s
section
variable {P : Program} {w : World} {K : PySem.W.Frag} {mg : Str → Option Value} {base : Heap} {CX : CXT} {k : Nat} {f : Addr} {fd : FuncData} {ps : List Str} {sp : Sp}
theorem FnG.of (F : FnOk P w K mg base CX k f fd ps sp) : FnG P w K mg base CX k f fd ps sp :=
  ⟨fun h => F.len _ _ _ _ h, fun _ hr he hb hv h => F.run _ _ _ _ _ _ _ _ _ hr he hb hv h⟩
theorem q0_deeper {A : Around} {env : Env} (h : Q0 A) : Q0 (A.deeper env) := by
  first
    | exact h
    | (obtain ⟨hd, d, fr, gs, u⟩ := A; simp_all [Around.deeper, pushGuards])
end
/-- the rule for a def, its body told where no repr is under way -/
theorem Fun.okG {P : Program} {w : World} {K : PySem.W.Frag} {mg : Str → Option Value} {base : Heap} {CX : CXT} {x qual : Str} {st : Stmt} {f : Addr} {fd : FuncData} {N ps : List Str} {k : Nat} {sp : Sp} (F : Fun K x qual st f fd) (S : FnScope N ps (defScope st))
    (len : ∀ {vs H Q E}, sp vs H Q E → vs.length = ps.length)
    (body : ∀ {cdv : Value} {A : Around} {outer : List Env} {s : Shared} {H : Hp} {vs : List V} {Q : VK} {E : XK}, Q0 (A.deeper (envOfC qual (defScope st) s.heap.objs.size f cdv)) → Room k (A.deeper (envOfC qual (defScope st) s.heap.objs.size f cdv)) → sp vs H Q E →
      ∃ t, PSs (cxOf CX P w K mg base N qual (defScope st) f cdv A outer s H E) (defBody st) t ∧ t { nx := fun _ H' => Q .non H', rt := Q } (start N vs) H) : FnG P w K mg base CX (k + 1) f fd ps sp := by
  obtain ⟨oc, od, kV, doc, pm, an, cdv, ct, osl, rfl, lk, hcd⟩ := F.ex
  refine ⟨len, ?_⟩
  intro A outer s H args us vs Q E hg room env bnd rel asked
  have stays : ∀ b o, base.get? b = some o → s.heap.get? b = some o := fun b o z => (env.bs b o z).1
  have kin : K.In s.heap := env.mod.kin.keeps stays
  have kinds : ∀ y ∈ ps.zip us, (defScope st).names.lookup y.1 = some .local ∨ ((defScope st).names.lookup y.1 = some .cell ∧ ((cellsFrom (s.heap.objs.size + 1) (defScope st).names []).lookup y.1).isSome = true) := by
    rintro ⟨n, v⟩ hy
    rcases S.par n (List.of_mem_zip hy).1 with z | z
    · exact Or.inl z
    · exact Or.inr ⟨z, PySem.W.cellsFrom_some _ _ _ (Or.inl z)⟩
  refine codeAny_call_function room.depth (kin _ _ lk) rfl S.co S.gen rfl (PySem.W.codeRec_of kin hcd) (bnd _ _ _ _ (wpAny_newFunctionEnv_cells S.kind kinds ?_))
  rintro _ rfl s1 born
  refine ⟨(env.mod.nolimit.keeps stays).keeps born.toInCall.keep, codeAny_func ?_⟩
  obtain ⟨t, ht, asked2⟩ := body (outer := outer) (s := s) (q0_deeper hg) (room.deeper _) asked
  have I := inv_start (CX := CX) (E := E) S room.hd env (len asked) rel born
  refine wpAny_mono (ht.run [] s1 _ H _ I asked2) ?_ (fun _ _ z => z)
  intro fl s' z
  cases fl with
  | brk =>
    obtain ⟨_, _, _, q⟩ := z
    exact (show False from q).elim
  | cont =>
    obtain ⟨_, _, _, q⟩ := z
    exact (show False from q).elim
  | next =>
    obtain ⟨σ', H', J, q⟩ := z
    exact ⟨.non, H', J.os, J.bare, J.base, J.hok, rfl, q⟩
  | ret u =>
    obtain ⟨v, σ', H', J, rv, q⟩ := z
    exact ⟨v, H', J.os, J.bare, J.base, J.hok, rv, q⟩
/-- .. that lets no exception out -/
theorem Fun.okG0 {P : Program} {w : World} {K : PySem.W.Frag} {mg : Str → Option Value} {base : Heap} {x qual : Str} {st : Stmt} {f : Addr} {fd : FuncData} {N ps : List Str} {k : Nat} {sp : Sp} (F : Fun K x qual st f fd) (S : FnScope N ps (defScope st))
    (len : ∀ {vs H Q E}, sp vs H Q E → vs.length = ps.length)
    (body : ∀ {cdv : Value} {A : Around} {outer : List Env} {s : Shared} {H : Hp} {vs : List V} {Q : VK} {E : XK}, Q0 (A.deeper (envOfC qual (defScope st) s.heap.objs.size f cdv)) → Room k (A.deeper (envOfC qual (defScope st) s.heap.objs.size f cdv)) → sp vs H Q E →
      ∃ t, PSs (cxOf CX0 P w K mg base N qual (defScope st) f cdv A outer s H E).nox (defBody st) t ∧ t { nx := fun _ H' => Q .non H', rt := Q } (start N vs) H) : FnG P w K mg base CX0 (k + 1) f fd ps sp :=
  Fun.okG F S len fun hg hr h => by
    obtain ⟨t, a, b⟩ := body hg hr h
    exact ⟨t, a.nox, b⟩
section
variable {X : Cx} {CX : CXT} {k : Nat} {f : Addr} {fd : FuncData} {ps : List Str} {sp : Sp} {dvs : List V} {ds : List Value} {E : XK} {x : Str} {p pos : Pos} {e : Expr} {es : List Expr} {t : TA}
/-- f(e, ..), no repr under way -/
theorem pe_callG (hq : Q0 X.A) (F : FnG X.prog X.w X.K X.mg X.base CX k f fd ps sp) (hr : Room k X.A) (hg : Gl X x) (hm : X.mg x = some (.ref f)) (hk : PySem.W.keepIn X.K (.ref f) = true) (hb : Binds X.K fd ps ds) (hd : Vals dvs ds) (hx : Passes CX X E)
    (ha : PA X (e :: es) t) (hdb : (x == ("__debug__" : Str)) = false := by decide) (he : starEach (e :: es) X.env = (false, eval e X.env) :: starEach es X.env := by rfl) (hpl : (backTo pos (starEach es X.env)).any (·.1) = false := by rfl) :
    PE X (.Call (.Name x p) (e :: es) [] pos) (tCall sp dvs E t) := by
  constructor
  intro pins s σ H Q I h
  apply wpAny_Call_Name_kw
  refine ld_glob I hg hm ?_ hdb
  apply PySem.W.callWith_K (h₀ := X.base) I.ok.mod.kin hk ?_ he hpl
  apply thn (ha.run pos pins s σ H _ I h)
  rintro us s1 ⟨vs, H1, I1, rel, asked⟩
  have rel2 : Vals (vs ++ dvs) (us ++ ds) := rel.append hd
  have hl : (us ++ ds).length = ps.length := rel2.length.symm.trans (F.many asked)
  refine ⟨I1.kIn, wpAny_call (codeAny_mono (F.go hq hr I1.env0 (hb s1 us I1.kIn hl) rel2 asked) ?_)⟩
  intro r s' z
  cases r with
  | error er => exact hx pins σ _ _ er s' I1 z
  | ok fl =>
    cases fl with
    | ret u => exact I1.after z
    | brk => exact (show False from z).elim
    | cont => exact (show False from z).elim
    | next => exact (show False from z).elim
end
/-! the law's own call -/
section
variable {P : Program} {w : World} {K : PySem.W.Frag} {mg mb : Str → Option Value} {CX : CXT} {k : Nat} {fa a : Addr} {fd : FuncData} {x : Str} {sp : Sp} {s₁ : Shared} {vs : List Value} {ns : List Int}
/-- what the law's def is asked from outside, H telling of nothing but the script -/
theorem law_core (kin : K.In s₁.heap) (hns : s₁.heap.Ns mainGlobals mg) (hb : s₁.heap.Ns builtinsNs mb) (hbb : ∀ x : Str, x ≠ "__name__" → mb x = bootBuiltins x) (hlim : s₁.heap.NoLimit) (hg : s₁.gens = #[])
    (ha : s₁.heap.get? a = some { cls := .type "list", data := .seq vs.toArray }) (room : Room k callerA)
    (F : ∀ base : Heap, K.In base → base.Ns mainGlobals mg → FnG P w K mg base CX k fa fd [x] sp) (bnd : ∀ (s : Shared) (u : Value), BindsTo s fd ⟨[u], []⟩ [(x, u)])
    (hCX : ∀ H e s', CX [] H s₁ (fun _ _ _ => False) e s' → False) {H : Hp} (only : Only H) (asked : sp [.ref a] H (fun v _ => v = .bl true) fun _ _ _ => False) (hok : HOk P w H s₁.heap)
    (hA : ∀ {b u}, H b = some u → b = a) (hK : ∀ {u}, H a = some u → K.lookup a = none) :
    codeAny (model P w) callerA (.call (.ref fa) ⟨[.ref a], []⟩) (fun r s' => r = .ok (.ret (.bool true)) ∧ OldK s₁.heap s'.heap ∧ s'.os = s₁.os ∧ AllBare s'.gens) s₁ := by
  have seen : ∀ {b : Addr} {o : Obj}, s₁.heap.get? b = some o → (∀ u, H b = some u → False) → (hidT s₁.heap H).get? b = some o := fun {b o} z n =>
    hidT_get z (by cases q : H b with | none => rfl | some u => exact (n u q).elim)
  have seenNs : ∀ {b : Addr} {m : Str → Option Value}, s₁.heap.Ns b m → (hidT s₁.heap H).Ns b m := by
    rintro b m ⟨o, es, ep, z, d, r⟩
    refine ⟨o, es, ep, seen z fun u q => ?_, d, r⟩
    have e := hA q
    subst e
    rw [ha] at z
    cases z
    exact nomatch d
  have kin2 : K.In (hidT s₁.heap H) := fun b o z => seen (kin b o z) fun u q => by
    have e := hA q
    subst e
    rw [hK q] at z
    cases z
  obtain ⟨mc, l1, l2⟩ := hlim
  have e0 : Env0 P w K mg (hidT s₁.heap H) callerA [] s₁ H := ⟨rfl, ⟨kin2, seenNs hns, ⟨mb, seenNs hb, hbb⟩, ⟨mc, seenNs l1, l2⟩⟩, fun b o z => of_hidT z, Nat.le_of_eq (hidT_size _ _), trivial, (fun b z => nomatch z), hok, .of_eq hg⟩
  refine codeAny_mono ((F _ kin2 (seenNs hns)).go (show Q0 callerA from rfl) room e0 (us := [.ref a]) (vs := [.ref a]) (bnd s₁ (.ref a)) (.cons rfl .nil) asked) ?_
  intro r s' z
  cases r with
  | error e => exact (hCX H e s' z).elim
  | ok fl =>
    cases fl with
    | brk => exact (show False from z).elim
    | cont => exact (show False from z).elim
    | next => exact (show False from z).elim
    | ret u =>
      obtain ⟨v, H', os, bare, un, hok', rv, rfl⟩ := z
      cases (show u = Value.bool true from rv)
      refine ⟨rfl, OldK.of_keep fun b o z => ?_, os, bare⟩
      rcases only b with n | ⟨ob, xs, n⟩
      · exact un.keep b o z n (fun q => nomatch q) (fun q => nomatch q)
      · obtain ⟨z1, _⟩ := hok b _ n
        obtain ⟨z2, _⟩ := hok' b _ (un.frzs b ob _ n)
        rw [z2, ← z1, z]
theorem law_callG (kin : K.In s₁.heap) (hns : s₁.heap.Ns mainGlobals mg) (hb : s₁.heap.Ns builtinsNs mb) (hbb : ∀ x : Str, x ≠ "__name__" → mb x = bootBuiltins x) (hlim : s₁.heap.NoLimit) (hg : s₁.gens = #[])
    (ha : s₁.heap.get? a = some { cls := .type "list", data := .seq vs.toArray }) (hi : IntsAre vs ns) (hl : ns.length ≤ sizeLine) (room : Room k callerA)
    (F : ∀ base : Heap, K.In base → base.Ns mainGlobals mg → FnG P w K mg base CX k fa fd [x] sp) (bnd : ∀ (s : Shared) (u : Value), BindsTo s fd ⟨[u], []⟩ [(x, u)])
    (hsp : ∀ H : Hp, Only H → SqL K H a (ns.map V.int) → sp [.ref a] H (fun v _ => v = .bl true) fun _ _ _ => False)
    (hCX : ∀ H e s', CX [] H s₁ (fun _ _ _ => False) e s' → False) :
    codeAny (model P w) callerA (.call (.ref fa) ⟨[.ref a], []⟩) (fun r s' => r = .ok (.ret (.bool true)) ∧ OldK s₁.heap s'.heap ∧ s'.os = s₁.os ∧ AllBare s'.gens) s₁ := by
  have rel : Vals (ns.map V.int) vs := vals_ints hi
  cases hk : K.lookup a with
  | some o =>
    have z := kin a o hk
    rw [ha] at z
    cases z
    have only : Only (fun _ => none) := fun _ => Or.inl rfl
    refine law_core kin hns hb hbb hlim hg ha room F bnd hCX only (hsp _ only (Or.inr ⟨_, vs.toArray, _, hk, rfl, rfl, rfl, ?_, ?_⟩)) ?_ ?_ ?_
    · rw [List.size_toArray, hi.length]
      exact hl
    · simpa using rel
    · exact fun b u z => nomatch z
    · exact fun z => nomatch z
    · exact fun z => nomatch z
  | none =>
    let H0 : Hp := fun b => if b = a then some (.frz { cls := .type "list", data := .seq vs.toArray } (.lst (ns.map V.int))) else none
    have at0 : H0 a = some (.frz { cls := .type "list", data := .seq vs.toArray } (.lst (ns.map V.int))) := if_pos rfl
    have off : ∀ {b u}, H0 b = some u → b = a := fun {b u} z => by
      by_cases e : b = a
      · exact e
      · have z2 : H0 b = none := if_neg e
        rw [z2] at z
        cases z
    have only : Only H0 := fun b => by
      by_cases e : b = a
      · rw [e]
        exact Or.inr ⟨_, _, at0⟩
      · exact Or.inl (if_neg e)
    refine law_core kin hns hb hbb hlim hg ha room F bnd hCX only (hsp _ only (Or.inl (Or.inr ⟨_, at0⟩))) (fun b u z => ?_) off (fun _ => hk)
    have e := off z
    subst e
    rw [at0] at z
    cases z
    exact ⟨ha, by rw [List.length_map]; exact hl, vs, _, rel, ha⟩
end
/-- the goal that k_head leaves, from the law's promise over FnG -/
theorem walk_ofG {l : PySem.W.OpenLaw} {n k : Nat} {q : Program} {loose : List Str} {XP : (Str → Option Value) → Heap → Prop} {YP : World → Heap → Prop} {d : DefRec} {K : Params → PySem.W.Frag} {CX : World → CXT} {sp : World → Sp} {x : Str}
    (hn : l.most = some n) (hn2 : n ≤ sizeLine) (hdf : d.params.defaults = []) (hr : Room k callerA) (hY : ∀ (w : World) (h : Heap), YP w h → (K w.params).In h)
    (F : ∀ (w : World) (mg : Str → Option Value) (fa : Addr) (h : Heap), (K w.params).In h → h.Ns mainGlobals mg → mg d.name = some (.ref fa) →
      ∃ fd : FuncData, (∀ (s : Shared) (u : Value), BindsTo s fd ⟨[u], []⟩ [(x, u)]) ∧ ∀ base : Heap, (K w.params).In base → base.Ns mainGlobals mg → FnG l.prog w (K w.params) mg base (CX w) k fa fd [x] (sp w))
    (hsp : ∀ (w : World) (H : Hp) (a : Addr) (ns : List Int), ns.length ≤ n → Only H → SqL (K w.params) H a (ns.map V.int) → sp w [.ref a] H (fun v _ => v = .bl true) fun _ _ _ => False)
    (hCX : ∀ (w : World) (H : Hp) (s : Shared) (e : Value) (s' : Shared), CX w [] H s (fun _ _ _ => False) e s' → False) : PySem.W.WalkO q loose XP YP l.row.toRowW d [] (fun f vs => PySem.call f vs) := by
  apply Att.attach_call hn hdf
  intro w s₀ s₁ mg mb fa o pm cd doc a vs ns G Y _ _ _ hmg hobj hints hlen hg
  obtain ⟨fd, bnd, hF⟩ := F w mg fa _ (hY w _ Y) G.T.g hmg
  exact law_callG (hY w _ Y) G.T.g G.T.b G.T.builtins G.T.nolimit hg hobj hints (Nat.le_trans hlen hn2) hr hF bnd (fun H only hS => hsp w H a ns hlen only hS) (fun H e s' => hCX w H s₁ e s')
/-! repr of data; how often a truth value stands in a list -/
section
variable {X : Cx}
def rRepr (K : PySem.W.Frag) : List V → Hp → VK → Prop := fun xs H Q => ∃ (x : V) (d : PyData), xs = [x] ∧ Dp K H x d ∧ d.showable = true ∧ d.hasDict = false ∧ d.depth ≤ 60 ∧ d.shown.length ≤ sizeLine ∧ Q (.str d.shown) H
theorem call_repr (hq : Q0 X.A) (hu : X.A.units + 64 < cLine) : CallR X (.builtin "repr") (rRepr X.K) := by
  intro pins s σ H xs us Q I r h
  obtain ⟨x, d, rfl, hd, hs, hnd, hdep, hsz, q⟩ := h
  obtain ⟨u, rfl, ru⟩ := vals1 r
  have done : ∀ (h' : Heap) (t tk : Tok), (∀ b o, s.heap.get? b = some o → h'.get? b = some o) → EP X pins σ Q (.str d.shown t) { s with heap := h', toks := tk } :=
    fun h' t tk k => ⟨.str d.shown, H, I.kept k, ⟨t, rfl⟩, q⟩
  cases hd with
  | non =>
    cases (show u = Value.none from ru)
    exact PySem.P.repr_of_none (done s.heap _ _ fun _ _ z => z)
  | bl b =>
    cases (show u = Value.bool b from ru)
    have e : PyData.shown (.bool b) = (if b then "True" else "False" : Str) := by simp only [PyData.shown]
    rw [e] at done
    exact PySem.P.repr_of_bool (by cases b <;> exact done s.heap _ _ fun _ _ z => z)
  | int i =>
    obtain ⟨t, rfl⟩ := (show ∃ t, u = Value.int i t from ru)
    have e : PyData.shown (.int i) = toString i := by simp only [PyData.shown]
    rw [e] at done
    exact PySem.P.repr_of_int (by simpa [PyData.showable] using hs) (done s.heap _ _ fun _ _ z => z)
  | str y =>
    obtain ⟨t, rfl⟩ := (show ∃ t, u = Value.str y t from ru)
    have e : PyData.shown (.str y) = reprText y := by simp only [PyData.shown]
    rw [e] at done hsz
    exact PySem.P.repr_of_str (done s.heap _ _ fun _ _ z => z) hsz
  | @lst a ys ds h1 h2 =>
    obtain ⟨as, rd⟩ := Dp.reads I (.list ds) _ u (.lst h1 h2) ru
    cases (show u = Value.ref a from ru)
    exact PySem.repr_of_reads' rd hs (PyData.noDict_hsm hnd) hq (by omega) (fun _ _ z => z) (fun h' t tk k => done h' t tk k) hsz
  | @tup a ys ds h1 h2 =>
    obtain ⟨as, rd⟩ := Dp.reads I (.tuple ds) _ u (.tup h1 h2) ru
    cases (show u = Value.ref a from ru)
    exact PySem.repr_of_reads' rd hs (PyData.noDict_hsm hnd) hq (by omega) (fun _ _ z => z) (fun h' t tk k => done h' t tk k) hsz
theorem dp_bools {K : PySem.W.Frag} {H : Hp} : ∀ bs : List Bool, DpAll K H (bs.map V.bl) (bs.map PyData.bool)
  | [] => .nil
  | b :: bs => .cons (.bl b) (dp_bools bs)
theorem countIn_bools (k : Bool) : ∀ bs : List Bool, countIn (.bool k) (bs.map PyData.bool) = ((bs.count k : Nat) : Int)
  | [] => by simp [countIn]
  | b :: bs => by
    rw [List.map_cons, countIn, countIn_bools k bs, List.count_cons]
    simp only [same]
    cases b <;> cases k <;> simp <;> omega
def rCntB (K : PySem.W.Frag) : V → List V → Hp → VK → Prop := fun x xs H Q => ∃ (p : Addr) (bs : List Bool) (k : Bool), x = .ref p ∧ xs = [.bl k] ∧ SqL K H p (bs.map V.bl) ∧ Q (.int (bs.count k : Nat)) H
theorem mt_lcountB : MtR X "list.count" (rCntB X.K) := by
  intro pins s σ H x xs v us Q I rx rxs h
  obtain ⟨p, bs, k, rfl, rfl, hs, q⟩ := h
  cases rx
  obtain ⟨u, rfl, ru⟩ := rxs.one
  cases (show u = Value.bool k from ru)
  obtain ⟨its, rv, ⟨ob, n, ho, hc, _, hdat⟩, _⟩ := I.list hs
  obtain ⟨as, rd⟩ := Dp.readsAll I _ _ its (dp_bools bs) rv
  have all : (bs.map PyData.bool).all Shape.bool.has = true := by
    rw [List.all_eq_true]
    intro d hd
    obtain ⟨b, _, rfl⟩ := List.mem_map.mp hd
    rfl
  refine count_list_bools (vs := its) ⟨ob, ho, hc, n, hdat⟩ rd all ?_
  rw [countIn_bools]
  exact ⟨.int (bs.count k : Nat), H, I.tok _, ⟨_, rfl⟩, q⟩
end
end Fb
set_option maxRecDepth 100000
set_option maxHeartbeats 4000000
/-! the end of a law that is asked only where no repr is under way, with tables of code objects -/
namespace Fb
open PySem PySem.Spec PyProof.Rows L2
section
variable {P : Program} {w : World} {K : PySem.W.Frag} {mg mb : Str → Option Value} {CX : CXT} {k : Nat} {fa a : Addr} {cs : List (Addr × Addr)} {fd : FuncData} {x : Str} {sp : Sp} {s₁ : Shared} {vs : List Value} {ns : List Int}
theorem law_coreT (kin : K.In s₁.heap) (hns : s₁.heap.Ns mainGlobals mg) (hb : s₁.heap.Ns builtinsNs mb) (hbb : ∀ x : Str, x ≠ "__name__" → mb x = bootBuiltins x) (hlim : s₁.heap.NoLimit) (hg : s₁.gens = #[])
    (tabs : ∀ q ∈ cs, s₁.heap.get? q.2 = some { cls := .none, data := .fields #[] }) (out : ∀ q ∈ cs, K.lookup q.2 = none) (heads : ∀ q ∈ cs, PySem.W.CodeHd s₁.heap q.1 q.2)
    (hbm : ∃ (bm : Addr) (ob : Obj), mg "__builtins__" = some (.ref bm) ∧ bm ≠ builtinsNs ∧ s₁.heap.get? bm = some ob ∧ ob.cls = .type "module" ∧ ob.dict = some builtinsNs ∧ ob.data = .plain)
    (ha : s₁.heap.get? a = some { cls := .type "list", data := .seq vs.toArray }) (room : Room k callerA)
    (F : ∀ base : Heap, K.In base → base.Ns mainGlobals mg → (∀ q ∈ cs, LamX.TabB base mg q.1 q.2) → FnG P w K mg base CX k fa fd [x] sp) (bnd : ∀ (s : Shared) (u : Value), BindsTo s fd ⟨[u], []⟩ [(x, u)])
    (hCX : ∀ H e s', CX [] H s₁ (fun _ _ _ => False) e s' → False) {H : Hp} (tb : ∀ q ∈ cs, H q.2 = some (.tbl #[])) (only : ∀ b, H b = none ∨ b ∈ cs.map (·.2) ∨ ∃ o xs, H b = some (.frz o (.lst xs)))
    (asked : sp [.ref a] H (fun v _ => v = .bl true) fun _ _ _ => False) (hok : HOk P w H s₁.heap) (hA : ∀ {b u}, H b = some u → b = a ∨ b ∈ cs.map (·.2)) (hK : ∀ {u}, H a = some u → K.lookup a = none) :
    codeAny (model P w) callerA (.call (.ref fa) ⟨[.ref a], []⟩) (fun r s' => r = .ok (.ret (.bool true)) ∧ OldK s₁.heap s'.heap ∧ s'.os = s₁.os ∧ AllBare s'.gens) s₁ := by
  have tab : ∀ {b : Addr}, b ∈ cs.map (·.2) → s₁.heap.get? b = some { cls := .none, data := .fields #[] } := fun {b} m => by
    obtain ⟨q, hq, rfl⟩ := List.mem_map.mp m
    exact tabs q hq
  have seen : ∀ {b : Addr} {o : Obj}, s₁.heap.get? b = some o → (∀ u, H b = some u → False) → (hidT s₁.heap H).get? b = some o := fun {b o} z n =>
    hidT_get z (by cases q : H b with | none => rfl | some u => exact (n u q).elim)
  have off : ∀ {b : Addr} {o : Obj}, s₁.heap.get? b = some o → (∀ ws n, o.data = .seq ws n → False) → (o.data = .fields #[] → False) → ∀ u, H b = some u → False := fun {b o} z n1 n2 u q => by
    rcases hA q with e | e
    · subst e
      rw [ha] at z
      cases z
      exact n1 _ _ rfl
    · rw [tab e] at z
      cases z
      exact n2 rfl
  have seenNs : ∀ {b : Addr} {m : Str → Option Value}, s₁.heap.Ns b m → (hidT s₁.heap H).Ns b m := by
    rintro b m ⟨o, es, ep, z, d, r⟩
    exact ⟨o, es, ep, seen z (off z (fun ws n q => by rw [d] at q; cases q) fun q => by rw [d] at q; cases q), d, r⟩
  have kin2 : K.In (hidT s₁.heap H) := fun b o z => seen (kin b o z) fun u q => by
    rcases hA q with e | e
    · subst e
      rw [hK q] at z
      cases z
    · obtain ⟨t, ht, rfl⟩ := List.mem_map.mp e
      rw [out t ht] at z
      cases z
  have TB : ∀ q ∈ cs, LamX.TabB (hidT s₁.heap H) mg q.1 q.2 := fun q hq => by
    obtain ⟨o, us, file, tf, flags, tg, inF, text, tt, z, c1, c2, c3, rest⟩ := heads q hq
    obtain ⟨bm, ob, m1, m2, m3, m4, m5, m6⟩ := hbm
    obtain ⟨og, eg, pg, zg, dg, _⟩ := id hns
    refine ⟨⟨o, us, file, tf, flags, tg, inF, text, tt, seen z (off z (fun ws n y => by rw [c2] at y; cases y) fun y => by rw [c2] at y; cases y; simp at c3), c1, c2, c3, rest⟩, ⟨bm, ob, m1, m2, fun y => ?_, fun y => ?_, seen m3 (off m3 (fun ws n y => by rw [m6] at y; cases y) fun y => by rw [m6] at y; cases y), m4, m5, m6⟩, fun y => ?_⟩
    · rw [y, zg] at m3
      cases m3
      rw [dg] at m6
      cases m6
    · rw [y, tabs q hq] at m3
      cases m3
      cases m6
    · rw [y, tabs q hq] at zg
      cases zg
      cases dg
  obtain ⟨mc, l1, l2⟩ := hlim
  have e0 : Env0 P w K mg (hidT s₁.heap H) callerA [] s₁ H := ⟨rfl, ⟨kin2, seenNs hns, ⟨mb, seenNs hb, hbb⟩, ⟨mc, seenNs l1, l2⟩⟩, fun b o z => of_hidT z, Nat.le_of_eq (hidT_size _ _), trivial, (fun b z => nomatch z), hok, .of_eq hg⟩
  refine codeAny_mono ((F _ kin2 (seenNs hns) TB).go (show Q0 callerA from rfl) room e0 (us := [.ref a]) (vs := [.ref a]) (bnd s₁ (.ref a)) (.cons rfl .nil) asked) ?_
  intro r s' z
  cases r with
  | error e => exact (hCX H e s' z).elim
  | ok fl =>
    cases fl with
    | brk => exact (show False from z).elim
    | cont => exact (show False from z).elim
    | next => exact (show False from z).elim
    | ret u =>
      obtain ⟨v, H', os, bare, un, hok', rv, rfl⟩ := z
      cases (show u = Value.bool true from rv)
      have stay : ∀ {b : Addr} {o : Obj}, b ∉ cs.map (·.2) → s₁.heap.get? b = some o → s'.heap.get? b = some o := fun {b o} nb z => by
        rcases only b with n | n | ⟨ob, xs, n⟩
        · exact un.keep b o z n (fun q => nomatch q) (fun q => nomatch q)
        · exact absurd n nb
        · obtain ⟨z1, _⟩ := hok b _ n
          obtain ⟨z2, _⟩ := hok' b _ (un.frzs b ob _ n)
          rw [z2, ← z1, z]
      have grew : ∀ q ∈ cs, ∃ more : Array Value, s'.heap.get? q.2 = some { cls := .none, data := .fields more } := fun q hq => by
        obtain ⟨more, y⟩ := un.tbls q.2 #[] (tb q hq)
        exact ⟨_, hok' q.2 _ y⟩
      refine ⟨rfl, ⟨fun b o z => ?_, fun b o z => ?_⟩, os, bare⟩
      · by_cases m : b ∈ cs.map (·.2)
        · obtain ⟨q, hq, rfl⟩ := List.mem_map.mp m
          obtain ⟨more, y⟩ := grew q hq
          rw [tabs q hq] at z
          cases z
          exact Or.inr (Or.inl ⟨((heads q hq).tab (tabs q hq)).isCodeTable, rfl, #[], more, rfl, by rw [Array.empty_append]; exact y⟩)
        · exact Or.inl (stay m z)
      · by_cases m : b ∈ cs.map (·.2)
        · obtain ⟨q, hq, rfl⟩ := List.mem_map.mp m
          obtain ⟨more, y⟩ := grew q hq
          exact ⟨_, y⟩
        · exact ⟨o, stay m z⟩
theorem law_callGT (kin : K.In s₁.heap) (hns : s₁.heap.Ns mainGlobals mg) (hb : s₁.heap.Ns builtinsNs mb) (hbb : ∀ x : Str, x ≠ "__name__" → mb x = bootBuiltins x) (hlim : s₁.heap.NoLimit) (hg : s₁.gens = #[])
    (tabs : ∀ q ∈ cs, s₁.heap.get? q.2 = some { cls := .none, data := .fields #[] }) (out : ∀ q ∈ cs, K.lookup q.2 = none) (heads : ∀ q ∈ cs, PySem.W.CodeHd s₁.heap q.1 q.2)
    (hbm : ∃ (bm : Addr) (ob : Obj), mg "__builtins__" = some (.ref bm) ∧ bm ≠ builtinsNs ∧ s₁.heap.get? bm = some ob ∧ ob.cls = .type "module" ∧ ob.dict = some builtinsNs ∧ ob.data = .plain)
    (ha : s₁.heap.get? a = some { cls := .type "list", data := .seq vs.toArray }) (hi : IntsAre vs ns) (hl : ns.length ≤ sizeLine) (room : Room k callerA)
    (F : ∀ base : Heap, K.In base → base.Ns mainGlobals mg → (∀ q ∈ cs, LamX.TabB base mg q.1 q.2) → FnG P w K mg base CX k fa fd [x] sp) (bnd : ∀ (s : Shared) (u : Value), BindsTo s fd ⟨[u], []⟩ [(x, u)])
    (ask : ∀ H : Hp, (∀ q ∈ cs, H q.2 = some (.tbl #[])) → SqL K H a (ns.map V.int) → sp [.ref a] H (fun v _ => v = .bl true) fun _ _ _ => False) (hCX : ∀ H e s', CX [] H s₁ (fun _ _ _ => False) e s' → False) :
    codeAny (model P w) callerA (.call (.ref fa) ⟨[.ref a], []⟩) (fun r s' => r = .ok (.ret (.bool true)) ∧ OldK s₁.heap s'.heap ∧ s'.os = s₁.os ∧ AllBare s'.gens) s₁ := by
  have rel : Vals (ns.map V.int) vs := vals_ints hi
  have tab : ∀ {b : Addr}, b ∈ cs.map (·.2) → s₁.heap.get? b = some { cls := .none, data := .fields #[] } := fun {b} m => by
    obtain ⟨q, hq, rfl⟩ := List.mem_map.mp m
    exact tabs q hq
  have na : a ∉ cs.map (·.2) := fun m => by
    have z := tab m
    rw [ha] at z
    cases z
  have isIn : ∀ {q : Addr × Addr}, q ∈ cs → q.2 ∈ cs.map (·.2) := fun {q} hq => List.mem_map.mpr ⟨q, hq, rfl⟩
  cases hk : K.lookup a with
  | some o =>
    have z := kin a o hk
    rw [ha] at z
    cases z
    let H0 : Hp := fun b => if b ∈ cs.map (·.2) then some (.tbl #[]) else none
    have on : ∀ {b : Addr}, b ∈ cs.map (·.2) → H0 b = some (.tbl #[]) := fun m => if_pos m
    have no : ∀ {b : Addr}, b ∉ cs.map (·.2) → H0 b = none := fun m => if_neg m
    have inv : ∀ {b u}, H0 b = some u → b ∈ cs.map (·.2) ∧ u = .tbl #[] := fun {b u} y => by
      by_cases m : b ∈ cs.map (·.2)
      · rw [on m] at y; cases y; exact ⟨m, rfl⟩
      · rw [no m] at y; cases y
    refine law_coreT (H := H0) kin hns hb hbb hlim hg tabs out heads hbm ha room F bnd hCX (fun q hq => on (isIn hq)) (fun b => ?_) (ask _ (fun q hq => on (isIn hq)) (Or.inr ⟨_, vs.toArray, _, hk, rfl, rfl, rfl, ?_, ?_⟩)) (fun b u y => ?_) (fun y => Or.inr (inv y).1) (fun y => absurd (inv y).1 na)
    · by_cases m : b ∈ cs.map (·.2)
      · exact Or.inr (Or.inl m)
      · exact Or.inl (no m)
    · rw [List.size_toArray, hi.length]
      exact hl
    · simpa using rel
    · obtain ⟨m, rfl⟩ := inv y
      exact tab m
  | none =>
    let H0 : Hp := fun b => if b = a then some (.frz { cls := .type "list", data := .seq vs.toArray } (.lst (ns.map V.int))) else if b ∈ cs.map (·.2) then some (.tbl #[]) else none
    have at0 : H0 a = some (.frz { cls := .type "list", data := .seq vs.toArray } (.lst (ns.map V.int))) := if_pos rfl
    have on : ∀ {b : Addr}, b ∈ cs.map (·.2) → H0 b = some (.tbl #[]) := fun {b} m => by
      have nb : ¬ b = a := fun z => na (z ▸ m)
      show (if b = a then _ else if b ∈ cs.map (·.2) then _ else _) = _
      rw [if_neg nb, if_pos m]
    have no : ∀ {b : Addr}, ¬ b = a → b ∉ cs.map (·.2) → H0 b = none := fun {b} nb m => by
      show (if b = a then _ else if b ∈ cs.map (·.2) then _ else _) = _
      rw [if_neg nb, if_neg m]
    refine law_coreT (H := H0) kin hns hb hbb hlim hg tabs out heads hbm ha room F bnd hCX (fun q hq => on (isIn hq)) (fun b => ?_) (ask _ (fun q hq => on (isIn hq)) (Or.inl (Or.inr ⟨_, at0⟩))) (fun b u y => ?_) (fun {b u} y => ?_) (fun _ => hk)
    · by_cases e : b = a
      · rw [e]
        exact Or.inr (Or.inr ⟨_, _, at0⟩)
      · by_cases m : b ∈ cs.map (·.2)
        · exact Or.inr (Or.inl m)
        · exact Or.inl (no e m)
    · by_cases e : b = a
      · subst e
        rw [at0] at y
        cases y
        exact ⟨ha, by rw [List.length_map]; exact hl, vs, _, rel, ha⟩
      · by_cases m : b ∈ cs.map (·.2)
        · rw [on m] at y
          cases y
          exact tab m
        · rw [no e m] at y
          cases y
    · by_cases e : b = a
      · exact Or.inl e
      · by_cases m : b ∈ cs.map (·.2)
        · exact Or.inr m
        · rw [no e m] at y
          cases y
end
/-- what the end wants of a law: its def, its code objects with their tables, its promise -/
def LawG (l : PySem.W.OpenLaw) (w : World) (K : PySem.W.Frag) (CX : CXT) (k n : Nat) (x : Str) (mg : Str → Option Value) (fa : Addr) (h : Heap) : Prop :=
  ∃ (fd : FuncData) (cs : List (Addr × Addr)) (sp : Sp), (∀ q ∈ cs, h.get? q.2 = some { cls := .none, data := .fields #[] }) ∧ (∀ q ∈ cs, K.lookup q.2 = none) ∧ (∀ q ∈ cs, PySem.W.CodeHd h q.1 q.2) ∧ (∀ (s : Shared) (u : Value), BindsTo s fd ⟨[u], []⟩ [(x, u)]) ∧
    (∀ (H : Hp) (a : Addr) (ns : List Int), ns.length ≤ n → (∀ q ∈ cs, H q.2 = some (.tbl #[])) → SqL K H a (ns.map V.int) → sp [.ref a] H (fun v _ => v = .bl true) fun _ _ _ => False) ∧
    ∀ base : Heap, K.In base → base.Ns mainGlobals mg → (∀ q ∈ cs, LamX.TabB base mg q.1 q.2) → FnG l.prog w K mg base CX k fa fd [x] sp
theorem walk_ofTG {l : PySem.W.OpenLaw} {n k : Nat} {q : Program} {loose : List Str} {XP : (Str → Option Value) → Heap → Prop} {YP : World → Heap → Prop} {d : DefRec} {K : Params → PySem.W.Frag} {CX : World → CXT} {x : Str}
    (hn : l.most = some n) (hn2 : n ≤ sizeLine) (hdf : d.params.defaults = []) (hr : Room k callerA) (hY : ∀ (w : World) (h : Heap), YP w h → (K w.params).In h)
    (F : ∀ (w : World) (mg : Str → Option Value) (fa : Addr) (h : Heap), YP w h → (K w.params).In h → h.Ns mainGlobals mg → mg d.name = some (.ref fa) → LawG l w (K w.params) (CX w) k n x mg fa h)
    (hCX : ∀ (w : World) (H : Hp) (s : Shared) (e : Value) (s' : Shared), CX w [] H s (fun _ _ _ => False) e s' → False) : PySem.W.WalkO q loose XP YP l.row.toRowW d [] (fun f vs => PySem.call f vs) := by
  apply Att.attach_callB hn hdf
  intro w s₀ s₁ mg mb fa o pm cd doc a vs ns G Y _ _ _ hmg hobj hints hlen _ hg
  obtain ⟨fd, cs, sp, tabs, out, heads, bnd, ask, hF⟩ := F w mg fa _ Y (hY w _ Y) G.T.g hmg
  exact law_callGT (hY w _ Y) G.T.g G.T.b G.T.builtins G.T.nolimit hg tabs out heads G.T.bmain hobj hints (Nat.le_trans hlen hn2) hr hF bnd (fun H tb hS => ask H a ns hlen tb hS) fun H e s' => hCX w H s₁ e s'
end Fb
set_option maxRecDepth 100000
set_option maxHeartbeats 4000000
namespace Fb
open PySem PySem.Spec PyProof.Rows L2
/-! the pen -/
def penK (l : Addr) (a r f : Int) : List (Key × V) := [(.inr "cells", .ref l), (.inr "at", .int a), (.inr "rest", .int r), (.inr "fold", .int f)]
theorem ne1 : ¬ (("cells" : Str) = "rest") := by decide +kernel
theorem ne2 : ¬ (("at" : Str) = "rest") := by decide +kernel
theorem ne3 : ¬ (("cells" : Str) = "at") := by decide +kernel
theorem ne4 : ¬ (("cells" : Str) = "fold") := by decide +kernel
theorem ne5 : ¬ (("at" : Str) = "fold") := by decide +kernel
theorem ne6 : ¬ (("rest" : Str) = "fold") := by decide +kernel
theorem ne7 : ¬ (("rest" : Str) = "at") := by decide +kernel
theorem ne8 : ¬ (("fold" : Str) = "at") := by decide +kernel
theorem ne9 : ¬ (("fold" : Str) = "rest") := by decide +kernel
theorem inr_ne {a b : Str} (h : ¬ a = b) : ¬ ((Sum.inr a : Key) = Sum.inr b) := fun e => h (Sum.inr.inj e)
section
variable {H : Hp} {p l : Addr} {a r f x : Int}
theorem penK_cells : valV (penK l a r f) (.inr "cells") = some (.ref l) := by
  unfold penK; exact valV_pos rfl
theorem penK_at : valV (penK l a r f) (.inr "at") = some (.int a) := by
  unfold penK; rw [valV_neg (inr_ne ne3)]; exact valV_pos rfl
theorem penK_rest : valV (penK l a r f) (.inr "rest") = some (.int r) := by
  unfold penK; rw [valV_neg (inr_ne ne1), valV_neg (inr_ne ne2)]; exact valV_pos rfl
theorem penK_fold : valV (penK l a r f) (.inr "fold") = some (.int f) := by
  unfold penK; rw [valV_neg (inr_ne ne4), valV_neg (inr_ne ne5), valV_neg (inr_ne ne6)]; exact valV_pos rfl
theorem penK_put_at : putK (penK l a r f) (.inr "at") (.int x) = penK l x r f := by
  unfold putK
  rw [valV_any, penK_at, Option.isSome_some, if_pos rfl]
  unfold penK
  simp only [List.map_cons, List.map_nil, if_neg (inr_ne ne3), if_neg (inr_ne ne7), if_neg (inr_ne ne8), if_true]
theorem penK_put_rest : putK (penK l a r f) (.inr "rest") (.int x) = penK l a x f := by
  unfold putK
  rw [valV_any, penK_rest, Option.isSome_some, if_pos rfl]
  unfold penK
  simp only [List.map_cons, List.map_nil, if_neg (inr_ne ne1), if_neg (inr_ne ne2), if_neg (inr_ne ne9), if_true]
theorem g_cells (e : H p = some (.dK (penK l a r f))) : DGet H p (.str "cells") (some (.ref l)) := by
  have h := DGet.k (k := .inr "cells") e
  rw [penK_cells] at h; exact h
theorem g_at (e : H p = some (.dK (penK l a r f))) : DGet H p (.str "at") (some (.int a)) := by
  have h := DGet.k (k := .inr "at") e
  rw [penK_at] at h; exact h
theorem g_rest (e : H p = some (.dK (penK l a r f))) : DGet H p (.str "rest") (some (.int r)) := by
  have h := DGet.k (k := .inr "rest") e
  rw [penK_rest] at h; exact h
theorem g_fold (e : H p = some (.dK (penK l a r f))) : DGet H p (.str "fold") (some (.int f)) := by
  have h := DGet.k (k := .inr "fold") e
  rw [penK_fold] at h; exact h
theorem pen_sz : (penK l a r f).length < sizeLine := by
  show 4 < sizeLine
  rw [sizeLine_eq]; decide
theorem p_at (e : H p = some (.dK (penK l a r f))) : DPut H p (.str "at") (.int x) (upd H p (.dK (penK l x r f))) := by
  have h := DPut.k (k := .inr "at") (v := .int x) e pen_sz
  rw [penK_put_at] at h; exact h
theorem p_rest (e : H p = some (.dK (penK l a r f))) : DPut H p (.str "rest") (.int x) (upd H p (.dK (penK l a x f))) := by
  have h := DPut.k (k := .inr "rest") (v := .int x) e pen_sz
  rw [penK_put_rest] at h; exact h
end
/-- a pen at p, its cells at l, that has been asked at most n times -/
def PenL (H : Hp) (p l : Addr) (n : Nat) : Prop := ∃ (cs : List Int) (a r f : Int), H p = some (.dK (penK l a r f)) ∧ H l = some (.lst (cs.map V.int)) ∧ 0 ≤ a ∧ a ≤ n ∧ 0 ≤ r ∧ 0 ≤ f ∧ f < 2147483629
theorem PenL.mono {H : Hp} {p l : Addr} {n m : Nat} (h : PenL H p l n) (le : n ≤ m) : PenL H p l m := by
  obtain ⟨cs, a, r, f, h1, h2, h3, h4, h5⟩ := h
  exact ⟨cs, a, r, f, h1, h2, h3, by omega, h5⟩
theorem PenL.same {H H' : Hp} {p l : Addr} {n : Nat} (h : PenL H p l n) (s : Same H H') : PenL H' p l n := by
  obtain ⟨cs, a, r, f, h1, h2, h3⟩ := h
  exact ⟨cs, a, r, f, s _ _ h1, s _ _ h2, h3⟩
def spTake : Sp := fun vs H Q _ => ∃ (p l : Addr) (m : Int) (n : Nat), vs = [.ref p, .int m] ∧ 0 < m ∧ m < 1073741824 ∧ n < 1000000 ∧ PenL H p l n ∧
  ∀ (d : Int) (H' : Hp), 0 ≤ d → d < m → PenL H' p l (n + 1) → (∀ c, c ≠ p → H' c = H c) → Q (.int d) H'
structure TxP (mg : Str → Option Value) : Prop where
  n_int : mg "int" = none
  n_len : mg "len" = none
  n_abs : mg "abs" = none
  n_list : mg "list" = none
section
variable {P : Program} {w : World} {K : PySem.W.Frag} {mg : Str → Option Value} {base : Heap}
/-! the pen's making -/
theorem cut_map (ns : List Int) (lo hi : Option Int) : ∃ ms : List Int, cutV (ns.map V.int) lo hi = ms.map V.int ∧ ms.length ≤ ns.length := by
  unfold cutV
  refine ⟨(ns.drop (HT.sIx (ns.map V.int).length 0 lo)).take (HT.sIx (ns.map V.int).length (ns.map V.int).length hi - HT.sIx (ns.map V.int).length 0 lo), ?_, ?_⟩
  · rw [List.map_take, List.map_drop]
  · rw [List.length_take, List.length_drop]; omega
theorem putK_newS {kvs : List (Key × V)} {x : Str} {v : V} (h : valV kvs (.inr x) = none) : putK kvs (.inr x) v = kvs ++ [(.inr x, v)] := putK_new v h
theorem merge_pen {l : Addr} {a r f : Int} : mergeK [] [(.inr "cells", .ref l), (.inr "at", .int a), (.inr "rest", .int r), (.inr "fold", .int f)] = penK l a r f := by
  unfold mergeK
  simp only [List.foldl_cons, List.foldl_nil]
  rw [putK_newS (x := "cells") valV_nil]
  rw [putK_newS (x := "at") (by rw [List.nil_append, valV_neg (inr_ne ne3)]; exact valV_nil)]
  rw [putK_newS (x := "rest") (by simp only [List.nil_append, List.cons_append]; rw [valV_neg (inr_ne ne1), valV_neg (inr_ne ne2)]; exact valV_nil)]
  rw [putK_newS (x := "fold") (by simp only [List.nil_append, List.cons_append]; rw [valV_neg (inr_ne ne4), valV_neg (inr_ne ne5), valV_neg (inr_ne ne6)]; exact valV_nil)]
  rfl
def spPen (K : PySem.W.Frag) : Sp := fun vs H Q _ => ∃ (a : Addr) (ns : List Int), vs = [.ref a] ∧ SqL K H a (ns.map V.int) ∧ ns.length ≤ 63 ∧
  ∀ (p l : Addr) (H' : Hp), H p = none → H l = none → Same H H' → PenL H' p l 0 → Q (.ref p) H'
theorem smN {H H' : Hp} {p : Addr} {o : HO} (s : Same H H') (h : H' p = none) : Same H (upd H' p o) := fun b u e => by
  rw [upd_ne (ne_of_none (s b u e) h)]
  exact s b u e
end
end Fb
set_option maxRecDepth 100000
set_option maxHeartbeats 4000000
namespace Fb
open PySem PySem.Spec PyProof.Rows L2
/-! own exceptions as values -/
/-- C(e, ..), C's own __init__ keeping sp: a new exception, held -/
def tExI (C : Addr) (sp : Sp) (dvs : List V) (ta : TA) : TE := fun σ H Q => ta σ H fun vs H1 => vs.length ≤ 1000 ∧ ∀ a, H1 a = none → sp (.ref a :: (vs ++ dvs)) (upd H1 a (exo a C none)) (fun v H2 => v = .non ∧ Q (.ref a) H2) (fun _ _ _ => False)
section
variable {X : Cx} {e : Expr} {es : List Expr} {ta : TA} {p pos : Pos}
theorem pe_exI {CX : CXT} {x : Str} {C fI : Addr} {k : Nat} {fd : FuncData} {ps : List Str} {sp : Sp} {ds : List Value} {dvs : List V} (T : OexC X.K C) (own : PySem.W.findIn X.K (.ref C) "__init__" = some (some (.ref fI))) (isf : PySem.W.typeIn X.K (.ref fI) = some (.type "function"))
    (G : FnOk X.prog X.w X.K X.mg X.base CX k fI fd ps sp) (room : Room (k + 1) X.A) (bnd : Binds X.K fd ps ds) (dfl : Vals dvs ds) (out : Passes CX X (fun _ _ _ => False)) (gl : Gl X x) (at_ : X.mg x = some (.ref C)) (ha : PA X (e :: es) ta)
    (h1 : (x == ("__debug__" : Str)) = false := by decide) (h2 : starEach (e :: es) X.env = (false, eval e X.env) :: starEach es X.env := by rfl) (h3 : (backTo pos (starEach es X.env)).any (·.1) = false := by rfl) :
    PE X (.Call (.Name x p) (e :: es) [] pos) (tExI C sp dvs ta) := by
  constructor
  intro pins s σ H Q I asked
  obtain ⟨_, _, _, _, bm, _, _, _, _, _, _, _, _, _, _, cls, refs⟩ := T.cls
  apply wpAny_Call_Name_kw
  refine ld_glob I gl at_ ?_ h1
  apply PySem.W.callWith_K (h₀ := X.base) I.ok.mod.kin T.kC ?_ h2 h3
  apply thn (ha.run pos pins s σ H _ I asked)
  rintro us ⟨hp, g, dr, tk, os⟩ ⟨vs, H1, I1, rel, few, next⟩
  refine ⟨I1.kIn, ?_⟩
  show wpAny _ _ (call (.ref C) us) _ _ _
  have above : hp.objs.size ≤ hp.objs.size + 1 := Nat.le_succ _
  have q := next (hp.objs.size + 1) (I1.hok.fresh above)
  have made : ((hp.push (PySem.W.kdv_tup us)).push (PySem.HandSPX.excO C hp.objs.size)).get? (hp.objs.size + 1) = some (PySem.HandSPX.excO C hp.objs.size) := by heap_get
  have I2 := I1.laid (t' := tk) (fun b o z => Heap.get?_push_of_some _ (Heap.get?_push_of_some (PySem.W.kdv_tup us) z)) above (exo_ok (H := upd H1 (hp.objs.size + 1) (exo (hp.objs.size + 1) C none)) (P := X.prog) (w := X.w) made)
  have rel2 : Vals (V.ref (hp.objs.size + 1) :: (vs ++ dvs)) (Value.ref (hp.objs.size + 1) :: (us ++ ds)) := .cons rfl (rel.append dfl)
  have len : (Value.ref (hp.objs.size + 1) :: us ++ ds).length = ps.length := rel2.length.symm.trans (G.len _ _ _ _ q)
  have small : us.length ≤ sizeLine := by
    rw [sizeLine_eq, ← Paired.length rel]
    omega
  apply wpAny_call
  refine PySem.HandSPX.call_own PySem.F.excBase_ValueError (fun Y => PySem.HandSPX.refsVE_contains Y bm refs) (I1.kIn _ _ cls) (PySem.W.looks_findIn I1.kIn own) (fun self => PySem.W.bind_fn I1.kIn self isf) small ?_
  refine codeAny_mono (G.run _ X.stack _ _ ⟨Value.ref (hp.objs.size + 1) :: us, []⟩ _ _ _ (fun _ _ _ => False) (room.make C us []) (I2.env0.make C us []) (bnd _ (Value.ref (hp.objs.size + 1) :: us) I2.kIn len) rel2 q) ?_
  intro r s' z
  cases r with
  | error er => exact out pins σ _ _ er s' I2 z
  | ok fl =>
    cases fl with
    | brk => exact (show False from z).elim
    | cont => exact (show False from z).elim
    | next => exact (show False from z).elim
    | ret u =>
      obtain ⟨v, H', I3, rv, rfl, q3⟩ := I2.after z
      exact ⟨rv, V.ref (hp.objs.size + 1), H', I3, rfl, q3⟩
end
/-- at a an exception of the class at C stands, with its own dict or without -/
def ExAt (H : Hp) (a C : Addr) : Prop := H a = some (ExO (.ref C) a) ∨ ∃ (d : Addr) (fs : List (Str × V)), H a = some (exo a C (some d)) ∧ H d = some (exd d fs)
/-- .. with a field -/
def ExFld (H : Hp) (a C : Addr) (fs : List (Str × V)) : Prop := ∃ d : Addr, H a = some (exo a C (some d)) ∧ H d = some (exd d fs)
theorem ExFld.at {H : Hp} {a C : Addr} {fs : List (Str × V)} (h : ExFld H a C fs) : ExAt H a C := by
  obtain ⟨d, h1, h2⟩ := h
  exact .inr ⟨d, fs, h1, h2⟩
theorem ExFld.same {H H' : Hp} {a C : Addr} {fs : List (Str × V)} (h : ExFld H a C fs) (s : Same H H') : ExFld H' a C fs := by
  obtain ⟨d, h1, h2⟩ := h
  exact ⟨d, s _ _ h1, s _ _ h2⟩
theorem ExAt.same {H H' : Hp} {a C : Addr} (h : ExAt H a C) (s : Same H H') : ExAt H' a C := by
  rcases h with h | ⟨d, fs, h1, h2⟩
  · exact .inl (s _ _ h)
  · exact .inr ⟨d, fs, s _ _ h1, s _ _ h2⟩
/-- what the written part says of an exception class, for isinstance and fields -/
structure XC (K : PySem.W.Frag) (C : Addr) : Prop where
  cl : (PySem.W.clsIn K C).isSome = true
  ga : PySem.W.findIn K (.ref C) "__getattribute__" = some (some (.builtin "BaseException.__getattribute__"))
  gg : PySem.W.findIn K (.ref C) "__getattr__" = some none
  sb : PySem.W.subIn K (.ref C) (.type "BaseException") = some true
  ca : PySem.W.findIn K (.ref C) "__class__" = some (some (.builtin "object.__class__"))
  ob : PySem.W.mroIn K C (.type "object") = some true
  hd : PySem.W.hasDictIn K C = true
structure XB (K : PySem.W.Frag) : Prop where
  hn : PySem.W.specialIn K (.builtin "object.__class__") "__get__" = some (some (.builtin "getset_descriptor.__get__"))
  ht : PySem.W.takesIn K (.builtin "object.__class__") = some true
section
variable {X : Cx} {pins : List (Addr × Obj)} {σ : L2.St} {H : Hp} {s : Shared}
theorem ExAt.inst {a C : Addr} (I : Inv X pins σ H s) (h : ExAt H a C) : ∃ ox od, PySem.W.InstAt s.heap a ox C od := by
  rcases h with h | ⟨d, fs, h1, h2⟩
  · obtain ⟨⟨oe, vs, ho, hz, hd, _⟩, _, _⟩ := I.hok a _ h
    refine ⟨oe, none, ho, hz.1, ?_, ?_⟩
    · unfold PySem.W.notCls; rw [hd] <;> rfl
    · rw [hz.2] <;> trivial
  · obtain ⟨t1, ho⟩ := exo_at I.hok h1
    obtain ⟨mA, ⟨o, es, ep, e1, _⟩, _⟩ := exd_at I.hok h2
    exact ⟨_, some o, ho, rfl, rfl, e1⟩
def rIsX (K : PySem.W.Frag) : List V → Hp → VK → Prop := fun xs H Q => ∃ (a C : Addr) (c : V) (cv : Value) (b : Bool), xs = [.ref a, c] ∧ XC K C ∧ XB K ∧ ExAt H a C ∧ ClsV c cv ∧ PySem.W.kitOne K (.ref C) cv = some b ∧ Q (.bl b) H
theorem call_isX : CallR X (.builtin "isinstance") (rIsX X.K) := by
  intro pins s σ H xs us Q I r h
  obtain ⟨a, C, c, cv, b, rfl, T, B, hE, k, e, q⟩ := h
  obtain ⟨u1, u2, rfl, r1, r2⟩ := vals2 r
  have e2 := k.eq r2
  subst e2
  cases (show u1 = Value.ref a from r1)
  obtain ⟨ox, od, J⟩ := hE.inst I
  exact PySem.W.kia_one (PySem.W.kitx_exc T.cl T.ga T.gg T.sb T.ca B.hn B.ht T.ob) I.kIn J e (fun z => nomatch z) fun tk => ⟨.bl b, H, I.tok tk, rfl, q⟩
/-- e.f of an exception that is held -/
def tXat (K : PySem.W.Frag) (f : Str) (te : TE) : TE := fun σ H Q => te σ H fun x H1 => ∃ (a C : Addr) (fs : List (Str × V)) (v : V), x = .ref a ∧ XC K C ∧ PySem.W.findIn K (.ref C) f = some none ∧ ExFld H1 a C fs ∧ fs.lookup f = some v ∧ Q v H1
theorem pe_xat {e : Expr} {te : TE} {f : Str} {pos : Pos} (he : PE X e te) (hb : attributeBase e f X.env (eval e X.env) = eval e X.env := by rfl) : PE X (.Attribute e f pos) (tXat X.K f te) := by
  refine ⟨fun pins s σ H Q I h => ?_⟩
  refine attr_of hb (thn (he.run pins s σ H _ I h) fun u s1 hh => ?_)
  obtain ⟨x, H1, I1, rx, a, C, fs, v, ex, T, hno, ⟨d, h1, h2⟩, hl, q⟩ := hh
  subst ex
  obtain rfl : u = Value.ref a := rx
  obtain ⟨t1, ho⟩ := exo_at I1.hok h1
  obtain ⟨mA, hns, hr⟩ := exd_at I1.hok h2
  obtain ⟨od, hod, hlk⟩ := lookIn_ns hns
  obtain ⟨u, hu, ru⟩ := RelO.some_of (v := v) (o := mA f) (by rw [← hl]; exact hr f)
  have J : PySem.W.InstAt s1.heap a { cls := .ref C, dict := some d, data := .fields #[.ref t1, .none, .none, .none, .bool false, .none] } C (some od) := ⟨ho, rfl, rfl, hod⟩
  exact HandSPX.exc_get I1.kIn J T.ga T.gg T.sb (PySem.W.findObj_own T.hd hno rfl (by rw [hlk, hu])) (handed_of ru) ⟨v, H1, I1.tok _, ru, q⟩
end
end Fb
set_option maxRecDepth 100000
set_option maxHeartbeats 4000000
namespace Fb
open PySem PySem.Spec PyProof.Rows L2
/-! an exception that was caught and is kept: try: .. except X as e: y = e -/
/-- at a: an exception of the class cls, its own dict at d -/
def ExR (cls : Value) (d : Option Addr) (a : Addr) : HO := .ext fun h => ∃ (oe : Obj) (vs : Array Value), h.get? a = some oe ∧ oe.cls = cls ∧ oe.dict = d ∧ oe.data = .fields vs
section
variable {X : Cx} {pins : List (Addr × Obj)} {σ : L2.St} {H : Hp} {s : Shared}
/-- an object of ours that nothing tells of is taken up -/
theorem adopt {a : Addr} {oe : Obj} {vs : Array Value} {cls : Value} {d : Option Addr} (I : Inv X ((a, oe) :: pins) σ H s) (new : ∀ o, X.s_0.heap.get? a = some o → False) (np : ∀ p ∈ X.pn ++ pins, p.1 ≠ a) (z : Zc cls d oe) (dat : oe.data = .fields vs) : Inv X pins σ (upd H a (ExR cls d a)) s := by
  obtain ⟨he, hn, hL, hF, _⟩ := I.pin (a, oe) (List.mem_append_right _ List.mem_cons_self)
  have old : ∀ {b : Addr} {o : HO}, H b = some o → upd H a (ExR cls d a) b = some o := fun {b o} q => (upd_ne (ne_of_none q hn)).trans q
  have off : ∀ {b : Addr}, b ≠ a → H b = none → upd H a (ExR cls d a) b = none := fun q n => (upd_ne q).trans n
  have nc : ∀ {x : Str} {c : Addr}, X.env.cells.lookup x = some c → c ≠ a := by
    intro x c e q
    obtain ⟨v, o, ho, hd⟩ := I.cell x c e
    subst q
    have he' : s.heap.get? c = some oe := he
    rw [ho] at he'
    cases he'
    rw [dat] at hd
    cases hd
  have n0 : ∀ {b : Addr} {o : Obj}, X.s_0.heap.get? b = some o → b ≠ a := fun {b o} q e => new o (by rw [← e]; exact q)
  constructor
  · exact I.ok
  · exact I.os
  · exact I.bare
  · constructor
    · exact I.base.keep
    · exact I.base.slot
    · exact fun b o q n x => off (n0 q) (I.base.free b o q n x)
    · exact I.base.there
    · exact fun b xs q => old (I.base.tups b xs q)
    · exact fun b o u q => old (I.base.frzs b o u q)
    · intro b ps q
      obtain ⟨more, e⟩ := I.base.tbls b ps q
      exact ⟨more, old e⟩
  · exact I.loc
  · exact I.cell
  · exact off (Ne.symm hL) I.free
  · exact fun x c e => off (nc e) (I.freeC x c e)
  · intro p hp
    have hp' : p ∈ X.pn ++ (a, oe) :: pins := by
      rcases List.mem_append.mp hp with h | h
      · exact List.mem_append_left _ h
      · exact List.mem_append_right _ (List.mem_cons_of_mem _ h)
    obtain ⟨h1, h2, h3, h4, h5⟩ := I.pin p hp'
    exact ⟨h1, off (np p hp) h2, h3, h4, h5⟩
  · intro b o q
    by_cases e : b = a
    · subst e
      rw [upd_same] at q
      cases q
      exact ⟨⟨oe, vs, he, z.1, z.2, dat⟩, ⟨oe, he⟩, fun h1 h2 ⟨o', v', q, r⟩ k => ⟨o', v', k _ q, r⟩⟩
    · rw [upd_ne e] at q
      exact (I.hok b o q).stay (fun c u _ r => r) (fun c r => old r) (fun c xs r => old r)
  · exact I.len
end
/-- what the clause does: y holds the exception, its own name goes -/
def wHold (K : PySem.W.Frag) (c : Value) (i j : Nat) (Wout : WX) (D : Ends) : WX := fun cls d σ H =>
  ∃ b, PySem.W.exmOne K cls c = some b ∧ (b = true → ∀ a, H a = none → D.nx (((σ.set i (some (.ref a))).set j (some (.ref a))).set i none) (upd H a (ExR cls d a))) ∧ (b = false → Wout cls d σ H)
section
variable {X : Cx} {x n y : Str} {c : Value} {i j : Nat} {body : List Stmt} {np pos pos' p1 p2 p3 : Pos} {tb : WX → TS} {Wout : WX}
theorem ps_try_hold (hs : X.stack = X.env :: X.outer) (hf : X.env.frame = some X.env.locals) (hex : X.ex = []) (hN : X.N.Nodup) (hi : X.N[i]? = some n) (hj : X.N[j]? = some y) (hln : X.env.kindOf n = some .local) (hly : X.env.scope.names.lookup y = some .local) (hc : Names X x c) (tk : Takes X Wout)
    (hdn : (n == ("__debug__" : Str)) = false) (hcn : (n == ("__classdict__" : Str)) = false)
    (hb : ∀ (W : WX) (pn : List (Addr × Obj)) (xe : Value → Shared → Prop), Takes (X.tr pn xe) W → PassesOwn (model X.prog X.w) X.A X.env xe → PSs (X.tr pn xe) body (tb W)) :
    PS X (.Try body [.ExceptHandler (some (.Name x np)) (some n) [.Assign [.Name y p1] (.Name n p2) p3] pos'] [] [] pos) (fun D σ H => tb (wHold X.K c i j Wout D) D σ H) := by
  constructor
  intro pins s σ H D I asked
  have ok := I.ok
  have frames : X.A.frames = some (X.env :: X.outer) := by rw [ok.frames, hs]
  apply wpAny_Try_except
  let clauses : List ExceptHandler := [.ExceptHandler (some (.Name x np)) (some n) [.Assign [.Name y p1] (.Name n p2) p3] pos']
  let behind : Value → Shared → Prop := fun e s₁ => wpAny (model X.prog X.w) X.A (noteFrame e X.env) (fun _ s₂ => wpAny (model X.prog X.w) X.A (setFlight e none) (fun _ s₃ => wpAny (model X.prog X.w) X.A (handleBy e X.env clauses) (SP X pins D) X.xe s₃) X.xe s₂) X.xe s₁
  have caught : Takes (X.tr (X.pn ++ pins) behind) (wHold X.K c i j Wout D) := by
    rintro u s' ⟨a, B, sI, pins', σ', H', cls, d, rfl, J', ground, up, sky, na, os, ag, b, eb, yes, no⟩
    have J : Inv X pins σ' H' sI := J'.ofTry ok
    have Ba : B.get? a = none := by
      rcases sky with h | h | h
      · exact h.2.1
      · exact h.2.1
      · exact h.2.1
    have sky' : Sky B (X.env :: X.outer) a (Zc cls d) X.env.locals s'.heap := by rw [← hs]; exact sky
    show wpAny (model X.prog X.w) X.A (noteFrame (.ref a) X.env) _ _ _
    refine Sky.land Zc.steady frames hf sky' fun h3 fl3 up3 => ?_
    have J3 : Inv X pins σ' H' { s' with heap := h3 } := J.landed ground fl3.1 (up.trans up3) os ag
    obtain ⟨oe3, vs3, he3, hz3, hd3⟩ := fl3.there
    have nofr : a ∉ frs (X.env :: X.outer) := by
      intro hm
      obtain ⟨_, o', e', hnf⟩ := fl3.2.2.1.mem hm
      rw [he3] at e'
      cases e'
      exact hnf _ hd3
    have nL : a ≠ X.env.locals := fun q => nofr (List.mem_filterMap.mpr ⟨X.env, List.mem_cons_self, by rw [hf, q]⟩)
    have nF : a ∉ X.fs := by
      intro hm
      obtain ⟨e, he, q⟩ := List.mem_filterMap.mp hm
      exact nofr (List.mem_filterMap.mpr ⟨e, List.mem_cons_of_mem _ he, q⟩)
    have inI : ∀ {o : Obj}, sI.heap.get? a = some o → False := fun {o} q => by
      have z := ground a o q (by rw [hs]; exact nofr)
      rw [Ba] at z
      cases z
    have new : ∀ o, X.s_0.heap.get? a = some o → False := fun o q => by
      obtain ⟨o', q'⟩ := J.base.there a o q (by rw [hex]; exact fun z => nomatch z)
      exact inI q'
    have others : ∀ p ∈ X.pn ++ pins, p.1 ≠ a := fun p hp q => by
      have z := (J.pin p hp).1
      rw [q] at z
      exact inI z
    have S3 := J3.suite he3 hd3 na nL nF
    refine wpAny_handleBy_cons (codeAny_handlers_test ?_) (fun q => by cases q)
    have LT1 : PySem.W.Looks (model X.prog X.w) h3 (typeOf (.ref a)) cls := fun A Q E s k q => wpAny_typeOf_ref (k _ _ he3) (by rw [hz3.1]; exact q)
    have LT2 := PySem.W.exm_one (M := model X.prog X.w) J3.kIn LT1 eb
    have name : ∀ {Q : Value → Shared → Prop} {E : Value → Shared → Prop}, Q c { s' with heap := h3 } → wpAny (model X.prog X.w) (X.A.mark (some (.ref a))) (eval (.Name x np) X.env) Q E { s' with heap := h3 } := by
      intro Q E q
      obtain ⟨g1, g2, g3 | ⟨g3, g4, g5⟩⟩ := hc
      · exact ld_glob (X := X.suite a ((a, oe3) :: (X.pn ++ pins))) S3 g1 g3 q g2
      · exact ld_blt (X := X.suite a ((a, oe3) :: (X.pn ++ pins))) S3 g1 g3 g4 q g5 g2
    refine name (LT2.here ?_)
    cases b with
    | true =>
      refine codeAny_handlers_suite_as (HandSPX.lands_againZ fl3 fun h4 fl4 up4 => ?_)
      have J4 : Inv X pins σ' H' { s' with heap := h4 } := J.landed ground fl4.1 ((up.trans up3).trans up4) os ag
      obtain ⟨oe4, vs4, he4, hz4, hd4⟩ := fl4.there
      have S4 := J4.suite he4 hd4 na nL nF
      refine store_ok (X := X.suite a ((a, oe4) :: (X.pn ++ pins))) (v := .ref a) S4 hN hi (Or.inl hln) rfl (fun s5 S5 => ?_) (Or.inr hln)
      have rd : PE (X.suite a ((a, oe4) :: (X.pn ++ pins))) (.Name n p2) (tVar i) := pe_var hi (Or.inl hln) hdn hcn
      have st : PSs (X.suite a ((a, oe4) :: (X.pn ++ pins))) [.Assign [.Name y p1] (.Name n p2) p3] (tAsg (tVar i) (gName j)) := pss_one (ps_set hN hj (Or.inl hly) rd (by rfl) (Or.inr hly))
      have li : i < σ'.length := by
        rw [J.len]
        exact (List.getElem?_eq_some_iff.mp hi).1
      refine wpAny_mono (st.run [] s5 _ H' { nx := fun σ6 H6 => σ6 = (σ'.set i (some (.ref a))).set j (some (.ref a)) ∧ H6 = H', rt := fun _ _ => False, bk := fun _ _ => False, ct := fun _ _ => False } S5 ⟨_, List.getElem?_set_self li, rfl, rfl⟩) ?_ (fun _ _ z => (show False from z).elim)
      intro f s6 z
      have J6 : ∀ {σ6 : L2.St} {H6 : Hp}, Inv (X.suite a ((a, oe4) :: (X.pn ++ pins))) [] σ6 H6 s6 → Inv X ((a, oe4) :: pins) σ6 H6 s6 := fun {σ6 H6} I6 =>
        ⟨ok, I6.os, I6.bare, I6.base, I6.loc, I6.cell, I6.free, I6.freeC, fun p hp => I6.pin p (by
          rw [List.append_nil]
          rcases List.mem_append.mp hp with h | h
          · exact List.mem_cons_of_mem _ (List.mem_append_left _ h)
          · rcases List.mem_cons.mp h with h | h
            · rw [h]; exact List.mem_cons_self
            · exact List.mem_cons_of_mem _ (List.mem_append_right _ h)), I6.hok, I6.len⟩
      cases f with
      | next =>
        obtain ⟨σ6, H6, S6, rfl, rfl⟩ := z
        refine gone_ok (J6 S6) hN hi hln fun s7 J7 => ?_
        exact ⟨_, _, adopt J7 new others hz4 hd4, yes rfl a na⟩
      | brk =>
        obtain ⟨_, _, _, q⟩ := z
        exact (show False from q).elim
      | cont =>
        obtain ⟨_, _, _, q⟩ := z
        exact (show False from q).elim
      | ret u =>
        obtain ⟨_, _, _, _, _, q⟩ := z
        exact (show False from q).elim
    | false =>
      show wpAny _ X.A (handleBy (.ref a) X.env []) _ _ _
      apply wpAny_handleBy_nil
      obtain ⟨_, _, _, oe, vs, T, oT, ts', he, hz, hd, h1, hr⟩ := id fl3
      have up_ : wpAny (model X.prog X.w) X.A (setFlight (.ref a) X.env.frame) (fun _ s4 => wpAny (model X.prog X.w) X.A (throw (.ref a) : Sem Flow) (SP X pins D) X.xe s4) X.xe { s' with heap := h3 } := by
        rw [hf]
        refine HandSPX.setFlight_upZ fl3 fun h4 hh4 up4 => wpAny_throw (tk _ _ ?_)
        exact ⟨a, B, sI, pins, σ', H', cls, d, rfl, J, ground, (up.trans up3).trans up4, Or.inr (Or.inr (by rw [hs]; exact hh4)), na, os, ag, no rfl⟩
      unfold PySem.passOn
      refine wpAny_bind (wpAny_field he hd h1 ?_)
      rw [if_neg (show ¬ ((Value.ref T == Value.none) = true) from by simp)]
      first
        | exact wpAny_bind (wpAny_pure (wpAny_bind up_))
        | exact wpAny_bind up_
  refine wpAny_mono ((hb _ _ behind caught PassesOwn.looking).run [] s σ H D (I.toTry _) asked) ?_ (fun e s1 he => he)
  intro f s1 z
  cases f with
  | next =>
    obtain ⟨σ', H', J', q⟩ := z
    exact wpAny_execs_nil ⟨σ', H', J'.ofTry ok, q⟩
  | brk =>
    obtain ⟨σ', H', J', q⟩ := z
    exact ⟨σ', H', J'.ofTry ok, q⟩
  | cont =>
    obtain ⟨σ', H', J', q⟩ := z
    exact ⟨σ', H', J'.ofTry ok, q⟩
  | ret u =>
    obtain ⟨v, σ', H', J', r, q⟩ := z
    exact ⟨v, σ', H', J'.ofTry ok, r, q⟩
end
end Fb
set_option maxRecDepth 100000
set_option maxHeartbeats 4000000
namespace Fb
open PySem PySem.Spec PyProof.Rows L2
/-! walks that yield new tuples of what is known beforehand: enumerate(text), zip(text, text), zip of three -/
def ItT (vals : Nat → List V) (n : Nat) : It := ⟨fun i _ => i < n, fun i H v H' => ∃ T, v = .ref T ∧ H T = none ∧ H' = upd H T (.tup (vals i)), fun i _ => i = n⟩
theorem turn_T {P : Program} {w : World} {K : PySem.W.Frag} {elts : List Expr} {kk : Nat} {tpos : Pos} {it : Addr} {fp wr : List Addr} {n : Nat} {Pt : Nat → Array Value → Prop} {St : Nat → Heap → Prop} {Mid : Nat → Addr → Heap → Prop} {vals : Nat → List V}
    (W : ∀ A : Around, A.handled = none → WalksT P w A it fp wr n Pt St Mid) (mem : it ∈ fp) (obj : ∀ i h, St i h → ∀ b ∈ fp, ∃ o, h.get? b = some o ∧ ∀ v, o.data ≠ .cell v)
    (tell : ∀ i a, Pt i a → Vals (vals i) a.toList) (few : ∀ i, (vals i).length ≤ sizeLine)
    (self : ∀ (A : Around) (i : Nat) (s : Shared) (Q : Value → Shared → Prop) (E : Value → Shared → Prop), St i s.heap → Q (.ref it) s → wpAny (model P w) A (pyIter (.ref it)) Q E s) : Turn P w K (.Tuple elts kk tpos) (ItT vals n) fp it St where
  mem := mem
  obj := obj
  keep := fun i h h' st k => (W {} rfl).frame i h h' st k
  item := by
    rintro X rfl rfl rfl calm i pins s σ H E I apart st go
    have w := W X.A (I.ok.hd calm)
    refine w.item i s _ _ go st fun T a h' tk pt young isT mid keep => ⟨_, rfl, w.go elts kk tpos i T _ _ _ mid fun h'' st' keep2 => ?_⟩
    obtain ⟨o, ho, hc, m, hd⟩ := isT
    have ho2 : h''.get? T = some o := keep2 T o (w.apart i T _ mid) ho
    have J : Inv X pins σ (upd H T (.tup (vals i))) { s with heap := h'', toks := tk } := by
      refine I.turnedNew (ch := wr) (fun b u hb q => keep2 b u hb (keep b u hb q)) (fun b hb => apart b (w.sub b hb)) young ⟨few i, a.toList, tell i a pt, o, ho2, hc, m, ?_⟩
      rw [hd]
    refine ⟨.ref T, _, J, rfl, ⟨T, rfl, I.hok.fresh young, rfl⟩, st', fun b hb => ?_⟩
    obtain ⟨ob, hb2, _⟩ := obj i _ st b hb
    rw [upd_ne (Nat.ne_of_lt (Nat.lt_of_lt_of_le (Heap.lt_size hb2) young))]
    exact (apart b hb).1
  done := by
    rintro X rfl rfl rfl calm i pins s σ H E I apart st stop
    have w := W X.A (I.ok.hd calm)
    cases (show i = n from stop)
    exact w.done s _ _ st fun h' tk keep => ⟨rfl, I.turnedL (ch := wr) keep fun b hb => apart b (w.sub b hb)⟩
  self := self
/-- the sign of a text at a place -/
def sgn (x : Str) (i : Nat) : Str := ⟨#[x.cps.getD i 0]⟩
theorem sgn_at {x : Str} {i c : Nat} (h : x.cps[i]? = some c) : (⟨#[c]⟩ : Str) = sgn x i := by
  unfold sgn
  rw [Array.getD_eq_getD_getElem?, h] <;> rfl
abbrev PTx (x : Str) : Nat → Value → Prop := fun i v => ∃ c u, x.cps[i]? = some c ∧ v = .str ⟨#[c]⟩ u
theorem draws_text {prog : Program} {w : World} {A : Around} (hh : A.handled = none) (it : Addr) (x : Str) (t : Tok) : Draws prog w A it [it] x.cps.size (PTx x) (fun i h => h.IsStrIter it (strIterType x) x t i) := by
  unfold strIterType
  cases h : x.cps.all (· < 128)
  · exact Draws.strWide hh it x t
  · exact Draws.strAscii hh it x t
theorem text_begun {x : Str} {t : Tok} {h : Heap} {it : Addr} (e : h.get? it = some { cls := .type (strIterType x), data := .fields #[.str x t, .int 0 0] }) : h.IsStrIter it (strIterType x) x t 0 := ⟨_, e, rfl, rfl⟩
theorem text_cell {ty : String} {x : Str} {t : Tok} {i : Nat} {h : Heap} {it : Addr} (e : h.IsStrIter it ty x t i) : ∃ o, h.get? it = some o ∧ ∀ v, o.data ≠ .cell v := by
  obtain ⟨o, e1, _, e2⟩ := e
  exact ⟨o, e1, fun v z => by rw [e2] at z; cases z⟩
theorem rel_sgn {x : Str} {i : Nat} {v : Value} (h : PTx x i v) : RelV (.str (sgn x i)) v := by
  obtain ⟨c, u, e, rfl⟩ := h
  rw [← sgn_at e]
  exact ⟨u, rfl⟩
section
variable {X : Cx} {elts : List Expr} {kk : Nat} {tpos p pos : Pos} {e e1 e2 e3 : Expr} {ta : TA}
def iEnumS (ta : TA) : TI := fun σ H R => ta σ H fun vs H1 => ∃ x : Str, vs = [.str x] ∧ R (ItT (fun i => [.int (i : Nat), .str (sgn x i)]) x.cps.size) H1
theorem pi_enumS (hg : Gl X "enumerate") (hm : X.mg "enumerate" = none) (ha : PA X [e] ta) (hs : starEach [e] X.env = [(false, eval e X.env)] := by rfl) :
    PI X (.Tuple elts kk tpos) (.Call (.Name "enumerate" p) [e] [] pos) (iEnumS ta) := by
  constructor
  intro pins s σ H R I h
  refine Call_ (ld_blt I hg hm boot_enumerate (callWith_type1 ?_ hs rfl))
  apply thn (ha.run pos pins s σ H _ I h)
  rintro us s1 ⟨vs, H1, I1, rel, x, rfl, q⟩
  obtain ⟨u, rfl, ru⟩ := vals1 rel
  obtain ⟨t, rfl⟩ := (show ∃ t, u = Value.str x t from ru)
  apply call_enumerate_str
  intro h' he hit hsz keep
  apply wpAny_pyIter_enum he
  have I2 : Inv X pins σ H1 { s1 with heap := h' } := I1.kept (t' := s1.toks) keep
  have ne : s1.heap.objs.size + 1 ≠ s1.heap.objs.size := Nat.succ_ne_self _
  refine ⟨s1.heap.objs.size + 1, [s1.heap.objs.size + 1, s1.heap.objs.size], _, _, H1, rfl, I2,
    turn_T (fun A hh => WalksT.enumerateD (draws_text (A := A.in1) hh s1.heap.objs.size x t) (s1.heap.objs.size + 1) ne (fun z => ne (by simpa using z)) (by simp)) (by simp) ?_ ?_ (fun i => by show 2 ≤ sizeLine; decide) (fun A i s Q E st q => wpAny_pyIter_enum st.1.choose_spec q), ⟨⟨.none, he⟩, hit⟩, ?_, q⟩
  · rintro i h ⟨⟨old, h1⟩, h2⟩ b hb
    have hb' : b = s1.heap.objs.size + 1 ∨ b = s1.heap.objs.size := by simpa using hb
    rcases hb' with rfl | rfl
    · exact ⟨_, h1, fun v z => nomatch z⟩
    · exact text_cell h2
  · rintro i a ⟨t2, v, hv, rfl⟩
    exact .cons ⟨t2, rfl⟩ (.cons (rel_sgn hv) .nil)
  · intro b hb
    have hb' : b = s1.heap.objs.size + 1 ∨ b = s1.heap.objs.size := by simpa using hb
    have le : s1.heap.objs.size ≤ b := by rcases hb' with rfl | rfl <;> omega
    exact I1.fpOk le (I1.hok.fresh le)
def iZipS2 (ta : TA) : TI := fun σ H R => ta σ H fun vs H1 => ∃ x y : Str, vs = [.str x, .str y] ∧ R (ItT (fun i => [.str (sgn x i), .str (sgn y i)]) (min x.cps.size y.cps.size)) H1
theorem pi_zipS2 (hg : Gl X "zip") (hm : X.mg "zip" = none) (ha : PA X [e1, e2] ta) (hs : starEach [e1, e2] X.env = (false, eval e1 X.env) :: starEach [e2] X.env := by rfl) (hp : (backTo pos (starEach [e2] X.env)).any (·.1) = false := by rfl) :
    PI X (.Tuple elts kk tpos) (.Call (.Name "zip" p) [e1, e2] [] pos) (iZipS2 ta) := by
  constructor
  intro pins s σ H R I h
  refine Call_ (ld_blt I hg hm PyProof.Rows.boot_zip (callWith_type1 ?_ hs hp))
  apply thn (ha.run pos pins s σ H _ I h)
  rintro us s1 ⟨vs, H1, I1, rel, x, y, rfl, q⟩
  obtain ⟨u1, u2, rfl, r1, r2⟩ := vals2 rel
  obtain ⟨t1, rfl⟩ := (show ∃ t, u1 = Value.str x t from r1)
  obtain ⟨t2, rfl⟩ := (show ∃ t, u2 = Value.str y t from r2)
  apply zip_begins2 (begins_text x t1) (begins_text y t2) trivial trivial
  intro h' hz hTI hTO g1 g2 hsz keep
  apply wpAny_pyIter_zip hz
  have I2 : Inv X pins σ H1 { s1 with heap := h' } := I1.kept (t' := s1.toks) keep
  have S := zip_sep2 (N := s1.heap.objs.size) (fp1 := []) (fp2 := []) (fun b z => nomatch z) (fun b z => nomatch z)
  have five : ∀ {b : Addr}, b ∈ (s1.heap.objs.size + 4) :: (s1.heap.objs.size + 2) :: (s1.heap.objs.size + 3) :: ([s1.heap.objs.size] ++ [s1.heap.objs.size + 1]) → b = s1.heap.objs.size + 4 ∨ b = s1.heap.objs.size + 2 ∨ b = s1.heap.objs.size + 3 ∨ b = s1.heap.objs.size ∨ b = s1.heap.objs.size + 1 := fun z => by simpa using z
  refine ⟨s1.heap.objs.size + 4, _, _, _, H1, rfl, I2, turn_T (fun A hh => WalksT.zipD2 S (draws_text (A := A.in1) hh _ x t1) (draws_text (A := A.in1) hh _ y t2)) (by simp) ?_ ?_ (fun i => by show 2 ≤ sizeLine; decide) (fun A i s Q E st q => wpAny_pyIter_zip st.1 q),
    ⟨hz, hTI, ⟨_, _, hTO⟩, text_begun g1, text_begun g2⟩, ?_, q⟩
  · rintro i h ⟨h1, h2, ⟨_, _, h3⟩, h4, h5⟩ b hb
    rcases five hb with rfl | rfl | rfl | rfl | rfl
    · exact ⟨_, h1, fun v z => nomatch z⟩
    · exact ⟨_, h2, fun v z => nomatch z⟩
    · exact ⟨_, h3, fun v z => nomatch z⟩
    · exact text_cell h4
    · exact text_cell h5
  · rintro i a ⟨v1, v2, hv1, hv2, rfl⟩
    exact .cons (rel_sgn hv1) (.cons (rel_sgn hv2) .nil)
  · intro b hb
    have le : s1.heap.objs.size ≤ b := by rcases five hb with rfl | rfl | rfl | rfl | rfl <;> omega
    exact I1.fpOk le (I1.hok.fresh le)
def iZipS3 (ta : TA) : TI := fun σ H R => ta σ H fun vs H1 => ∃ x y z : Str, vs = [.str x, .str y, .str z] ∧ R (ItT (fun i => [.str (sgn x i), .str (sgn y i), .str (sgn z i)]) (min (min x.cps.size y.cps.size) z.cps.size)) H1
theorem pi_zipS3 (hg : Gl X "zip") (hm : X.mg "zip" = none) (ha : PA X [e1, e2, e3] ta) (hs : starEach [e1, e2, e3] X.env = (false, eval e1 X.env) :: starEach [e2, e3] X.env := by rfl) (hp : (backTo pos (starEach [e2, e3] X.env)).any (·.1) = false := by rfl) :
    PI X (.Tuple elts kk tpos) (.Call (.Name "zip" p) [e1, e2, e3] [] pos) (iZipS3 ta) := by
  constructor
  intro pins s σ H R I h
  refine Call_ (ld_blt I hg hm PyProof.Rows.boot_zip (callWith_type1 ?_ hs hp))
  apply thn (ha.run pos pins s σ H _ I h)
  rintro us s1 ⟨vs, H1, I1, rel, x, y, z, rfl, q⟩
  cases rel with
  | cons r1 rr =>
    rename_i u1 us
    obtain ⟨u2, u3, rfl, r2, r3⟩ := vals2 rr
    obtain ⟨t1, rfl⟩ := (show ∃ t, u1 = Value.str x t from r1)
    obtain ⟨t2, rfl⟩ := (show ∃ t, u2 = Value.str y t from r2)
    obtain ⟨t3, rfl⟩ := (show ∃ t, u3 = Value.str z t from r3)
    apply zip_begins3 (begins_text x t1) (begins_text y t2) (begins_text z t3) trivial trivial trivial
    intro h' hz hTI hTO g1 g2 g3 hsz keep
    apply wpAny_pyIter_zip hz
    have I2 : Inv X pins σ H1 { s1 with heap := h' } := I1.kept (t' := s1.toks) keep
    have S := zip_sep3 (N := s1.heap.objs.size) (fp1 := []) (fp2 := []) (fp3 := []) (fun b z => nomatch z) (fun b z => nomatch z) (fun b z => nomatch z)
    have six : ∀ {b : Addr}, b ∈ (s1.heap.objs.size + 5) :: (s1.heap.objs.size + 3) :: (s1.heap.objs.size + 4) :: ([s1.heap.objs.size] ++ [s1.heap.objs.size + 1] ++ [s1.heap.objs.size + 2]) → b = s1.heap.objs.size + 5 ∨ b = s1.heap.objs.size + 3 ∨ b = s1.heap.objs.size + 4 ∨ b = s1.heap.objs.size ∨ b = s1.heap.objs.size + 1 ∨ b = s1.heap.objs.size + 2 := fun z => by simpa using z
    refine ⟨s1.heap.objs.size + 5, _, _, _, H1, rfl, I2, turn_T (fun A hh => WalksT.zipD3 S (draws_text (A := A.in1) hh _ x t1) (draws_text (A := A.in1) hh _ y t2) (draws_text (A := A.in1) hh _ z t3)) (by simp) ?_ ?_ (fun i => by show 3 ≤ sizeLine; decide) (fun A i s Q E st q => wpAny_pyIter_zip st.1 q),
      ⟨hz, hTI, ⟨_, _, _, hTO⟩, text_begun g1, text_begun g2, text_begun g3⟩, ?_, q⟩
    · rintro i h ⟨h1, h2, ⟨_, _, _, h3⟩, h4, h5, h6⟩ b hb
      rcases six hb with rfl | rfl | rfl | rfl | rfl | rfl
      · exact ⟨_, h1, fun v z => nomatch z⟩
      · exact ⟨_, h2, fun v z => nomatch z⟩
      · exact ⟨_, h3, fun v z => nomatch z⟩
      · exact text_cell h4
      · exact text_cell h5
      · exact text_cell h6
    · rintro i a ⟨v1, v2, v3, hv1, hv2, hv3, rfl⟩
      exact .cons (rel_sgn hv1) (.cons (rel_sgn hv2) (.cons (rel_sgn hv3) .nil))
    · intro b hb
      have le : s1.heap.objs.size ≤ b := by rcases six hb with rfl | rfl | rfl | rfl | rfl | rfl <;> omega
      exact I1.fpOk le (I1.hok.fresh le)
end
/-! loops and comprehensions over such a walk -/
theorem for_T {vals : Nat → List V} {n : Nat} {g : TG} {tb : TS} {D : Ends} {σ : L2.St} {H : Hp} (Pv : Nat → L2.St → Hp → Prop) (h0 : Pv 0 σ H)
    (hs : ∀ i T σ H, i < n → Pv i σ H → H T = none → g (.ref T) σ (upd H T (.tup (vals i))) fun σ2 H2 => tb { D with nx := Pv (i + 1), ct := Pv (i + 1), bk := D.nx } σ2 H2) (hd : ∀ σ H, Pv n σ H → D.nx σ H) :
    ∃ W : Nat → Nat → L2.St → Hp → Prop, (∃ m, W 0 m σ H) ∧ ∀ i m σ H, W i m σ H →
      ((ItT vals n).stop i H ∧ D.nx σ H) ∨ ((ItT vals n).go i H ∧ ∃ N : L2.St → Hp → Prop, (∀ σ' H', N σ' H' → ∃ m', m' < m ∧ W (i + 1) m' σ' H') ∧ ∀ x H', (ItT vals n).yld i H x H' → g x σ H' fun σ2 H2 => tb { D with nx := N, ct := N, bk := D.nx } σ2 H2) := by
  refine ⟨fun i m σ H => i + m = n ∧ Pv i σ H, ⟨n, by omega, h0⟩, fun i m σ H ⟨hm, p⟩ => ?_⟩
  by_cases lt : i < n
  · refine Or.inr ⟨lt, Pv (i + 1), fun σ' H' p' => ⟨m - 1, by omega, by omega, p'⟩, ?_⟩
    rintro x H' ⟨T, rfl, hT, rfl⟩
    exact hs i T σ H lt p hT
  · obtain rfl : i = n := by omega
    exact Or.inl ⟨rfl, hd σ H p⟩
theorem lc_T {vals : Nat → List V} {n : Nat} {g : TG} {tt : TT} {te : TE} {vs : List Nat} {σ : L2.St} {H1 : Hp} {D : Addr} {Qd : Hp → Prop} (Pv : Nat → Hp → Prop) (h0 : Pv 0 (upd H1 D (.lst [])))
    (hs : ∀ i T H, i < n → Pv i H → H T = none → g (.ref T) (wipe σ vs) (upd H T (.tup (vals i))) fun σ2 H2 => wipe σ2 vs = wipe σ vs ∧ tt σ2 H2 fun b H3 =>
      if b = true then te σ2 H3 fun y H4 => ∃ acc, H4 D = some (.lst acc) ∧ acc.length < sizeLine ∧ Pv (i + 1) (upd H4 D (.lst (acc ++ [y]))) else Pv (i + 1) H3) (hd : ∀ H, Pv n H → Qd H) :
    ∃ W : Nat → Nat → Hp → Prop, (∃ m, W 0 m (upd H1 D (.lst []))) ∧ ∀ i m H, W i m H →
      ((ItT vals n).stop i H ∧ Qd H) ∨ ((ItT vals n).go i H ∧ ∃ Nx : Hp → Prop, (∀ H', Nx H' → ∃ m', m' < m ∧ W (i + 1) m' H') ∧ ∀ x H', (ItT vals n).yld i H x H' → g x (wipe σ vs) H' fun σ2 H2 => wipe σ2 vs = wipe σ vs ∧ tt σ2 H2 fun b H3 =>
        if b = true then te σ2 H3 fun y H4 => ∃ acc, H4 D = some (.lst acc) ∧ acc.length < sizeLine ∧ Nx (upd H4 D (.lst (acc ++ [y]))) else Nx H3) := by
  refine ⟨fun i m H => i + m = n ∧ Pv i H, ⟨n, by omega, h0⟩, fun i m H ⟨hm, p⟩ => ?_⟩
  by_cases lt : i < n
  · refine Or.inr ⟨lt, Pv (i + 1), fun H' p' => ⟨m - 1, by omega, by omega, p'⟩, ?_⟩
    rintro x H' ⟨T, rfl, hT, rfl⟩
    exact hs i T H lt p hT
  · obtain rfl : i = n := by omega
    exact Or.inl ⟨rfl, hd H p⟩
end Fb
set_option maxRecDepth 100000
set_option maxHeartbeats 4000000
namespace Fb
open PySem PySem.Spec PyProof.Rows L2
/-! what own classes say of operators: instances with a dict -/
/-- what never comes to pass needs no reading -/
theorem ps_no {X : Cx} {st : Stmt} : PS X st (fun _ _ _ => False) := ⟨fun _ _ _ _ _ _ h => h.elim⟩
theorem pss_no {X : Cx} {sts : List Stmt} : PSs X sts (fun _ _ _ => False) := ⟨fun _ _ _ _ _ _ h => h.elim⟩
theorem pe_no {X : Cx} {e : Expr} : PE X e (fun _ _ _ => False) := ⟨fun _ _ _ _ _ _ h => h.elim⟩
section
variable {X : Cx} {CX : CXT} {pins : List (Addr × Obj)} {σ : L2.St} {H : Hp} {s : Shared} {a C dx g : Addr} {fs : List (Str × V)} {n : Nat} {sp : Sp} {E : XK}
theorem ins_at (I : Inv X pins σ H s) (e : H a = some (.ins C dx fs)) : ∃ od, PySem.W.InstAt s.heap a (PySem.W.instObj C dx) C (some od) := by
  obtain ⟨mA, O, _⟩ := ins_get I.hok e
  obtain ⟨od, J, _⟩ := O.look
  exact ⟨od, J⟩
/-- the type of what may stand on the right -/
inductive RTy (H : Hp) : V → Value → Prop where
  | non : RTy H .non (.type "NoneType")
  | str (x : Str) : RTy H (.str x) (.type "str")
  | ins {b C' dy : Addr} {gs : List (Str × V)} (e : H b = some (.ins C' dy gs)) : RTy H (.ref b) (.ref C')
theorem RTy.looks {y : V} {t u : Value} (I : Inv X pins σ H s) (r : RTy H y t) (ry : RelV y u) : PySem.W.Looks (model X.prog X.w) s.heap (typeOf u) t := by
  cases r with
  | non =>
    cases (show u = Value.none from ry)
    exact fun A Q E s k q => wpAny_typeOf (show s.TypeIs .none "NoneType" from rfl) q
  | str x =>
    obtain ⟨t, rfl⟩ := (show ∃ t, u = Value.str x t from ry)
    exact fun A Q E s k q => wpAny_typeOf (show s.TypeIs (.str x t) "str" from rfl) q
  | ins e =>
    cases (show u = Value.ref _ from ry)
    obtain ⟨od, J⟩ := ins_at I e
    exact J.type
theorem first_str {K : PySem.W.Frag} {C : Addr} : PySem.W.notFirst K C (.type "str") = true := by
  have e : fastBuiltinMro "str" = some [.type "str", .type "object"] := by decide +kernel
  have h : PySem.W.subIn K (.type "str") (.ref C) = some false := by
    show (fastBuiltinMro "str").map (·.contains (.ref C)) = some false
    rw [e]
    first
      | rfl
      | simp
  unfold PySem.W.notFirst
  rw [h]
  simp
theorem first_non {K : PySem.W.Frag} {C : Addr} : PySem.W.notFirst K C (.type "NoneType") = true := by
  unfold PySem.W.notFirst
  rw [HN.sub_none]
  simp
theorem first_self {K : PySem.W.Frag} {C : Addr} : PySem.W.notFirst K C (.ref C) = true := by
  unfold PySem.W.notFirst
  simp
/-- x op y by the def of x's class -/
def rCmpI (K : PySem.W.Frag) (C : Addr) (sp : Sp) (E : XK) : R2 := fun x y H Q => ∃ a dx fs t, x = .ref a ∧ H a = some (.ins C dx fs) ∧ RTy H y t ∧ PySem.W.notFirst K C t = true ∧ sp [x, y] H Q E
theorem op_cmpI {op : CmpOp} (hop : ∀ a b, compareOp op a b = richCompare op a b) (hs : PySem.W.findIn X.K (.ref C) (cmpInfo op).2.1 = some (some (.ref g))) (hf : PySem.W.isFn X.K (.ref g) = true) (F : FnR X.prog X.w X.K X.mg X.base CX n g sp)
    (hr : Room n X.A) (hx : Passes CX X E) : OpR X (compareOp op) (rCmpI X.K C sp E) := by
  intro pins s σ H x y v u Q I rx ry h
  obtain ⟨a, dx, fs, t, rfl, ha, hb, hn, q⟩ := h
  cases (show v = Value.ref a from rx)
  obtain ⟨od, J⟩ := ins_at I ha
  obtain ⟨m, hF⟩ := I.fr
  rw [hop]
  refine PySem.W.cmp_K (op := op) (tb := t) hr.units0 hF I.ok.mod.kin J (hb.looks I ry) hn hs hf ?_
  refine wpAny_mono (wpAny_call (run_fnR (us := [.ref a, u]) (vs := [.ref a, y]) F hr hx I (.cons rfl (.cons ry .nil)) q)) (fun w s' z => ?_) fun _ _ x => x
  obtain ⟨z', H', I', rz, qz⟩ := z
  exact SlX.cmpback rz ⟨z', H', I', rz, qz⟩
/-- two instances of C -/
def rBinI (C : Addr) (sp : Sp) (E : XK) : R2 := fun x y H Q => ∃ a dx fs b dy gs, x = .ref a ∧ H a = some (.ins C dx fs) ∧ y = .ref b ∧ H b = some (.ins C dy gs) ∧ sp [x, y] H Q E
theorem op_binI {op : Operator} (hc : PySem.W.selfFirst X.K C = true) (hs : PySem.W.findIn X.K (.ref C) (PySem.dunder op.info.2) = some (some (.ref g))) (hf : PySem.W.isFn X.K (.ref g) = true) (F : FnR X.prog X.w X.K X.mg X.base CX n g sp)
    (hr : Room n X.A) (hx : Passes CX X E) : OpR X (binaryOp op) (rBinI C sp E) := by
  intro pins s σ H x y v u Q I rx ry h
  obtain ⟨a, dx, fs, b, dy, gs, rfl, ha, rfl, hb, q⟩ := h
  cases (show v = Value.ref a from rx)
  cases (show u = Value.ref b from ry)
  obtain ⟨od, J⟩ := ins_at I ha
  obtain ⟨od', J'⟩ := ins_at I hb
  obtain ⟨m, hF⟩ := I.fr
  refine PySem.W.binop_K (op := op) hF I.ok.mod.kin J J'.type hc hs hf ?_
  refine wpAny_mono (wpAny_call (run_fnR (us := [.ref a, .ref b]) (vs := [.ref a, .ref b]) F hr hx I (.cons rfl (.cons rfl .nil)) q)) (fun w s' z => ?_) fun _ _ x => x
  obtain ⟨z', H', I', rz, qz⟩ := z
  exact SlX.cmpback rz ⟨z', H', I', rz, qz⟩
/-! str(x), len(x) -/
theorem relv_str {v : Value} {y : Str} (r : RelV (.str y) v) : ∃ t, v = .str y t := r
def rStrI (C : Addr) (sp : Sp) (E : XK) : List V → Hp → VK → Prop := fun xs H Q => ∃ a dx fs, xs = [.ref a] ∧ H a = some (.ins C dx fs) ∧ sp [.ref a] H (fun z H' => ∃ y, z = .str y ∧ Q (.str y) H') E
theorem call_strI (hs : PySem.W.findIn X.K (.ref C) "__str__" = some (some (.ref g))) (hf : PySem.W.isFn X.K (.ref g) = true) (F : FnR X.prog X.w X.K X.mg X.base CX n g sp) (hr : Room (n + 2) X.A) (hx : Passes CX X E) : CallR X (.type "str") (rStrI C sp E) := by
  intro pins s σ H xs us Q I r h
  obtain ⟨a, dx, fs, rfl, ha, q⟩ := h
  obtain ⟨u, rfl, ru⟩ := r.one
  cases (show u = Value.ref a from ru)
  obtain ⟨od, J⟩ := ins_at I ha
  have hr2 : Room n X.A.in1.in1 := (show Room (n + 1) X.A.in1 from Room.in1 hr).in1
  refine PySem.W.kso_call hr2.units0 I.kIn J hs hf (wpAny_mono (wpAny_call (SlX.run_at (us := [.ref a]) (ws := [.ref a]) F hr2 I.env0.in1.in1 hx I (.cons rfl .nil) q)) (fun w s' z => ?_) fun _ _ x => x)
  obtain ⟨z', H', I', rz, y, ey, qz⟩ := z
  subst ey
  obtain ⟨t, e⟩ := relv_str rz
  cases e
  exact ⟨.str y, H', I', ⟨t, rfl⟩, qz⟩
def rLenI (C : Addr) (sp : Sp) (E : XK) : List V → Hp → VK → Prop := fun xs H Q => ∃ a dx fs, xs = [.ref a] ∧ H a = some (.ins C dx fs) ∧ sp [.ref a] H (fun z H' => ∃ i : Nat, z = .int i ∧ (i : Int) < 2 ^ 63 ∧ Q (.int i) H') E
theorem call_lenI (hs : PySem.W.findIn X.K (.ref C) "__len__" = some (some (.ref g))) (hf : PySem.W.isFn X.K (.ref g) = true) (F : FnR X.prog X.w X.K X.mg X.base CX n g sp) (hr : Room (n + 1) X.A) (hx : Passes CX X E) : CallR X (.builtin "len") (rLenI C sp E) := by
  intro pins s σ H xs us Q I r h
  obtain ⟨a, dx, fs, rfl, ha, q⟩ := h
  obtain ⟨u, rfl, ru⟩ := r.one
  cases (show u = Value.ref a from ru)
  obtain ⟨od, J⟩ := ins_at I ha
  have hr2 : Room n X.A.in1 := Room.in1 hr
  obtain ⟨m, hF⟩ := I.fr
  refine PySem.W.len_K hF I.ok.mod.kin J hs hf (wpAny_mono (wpAny_call (SlX.run_at (us := [.ref a]) (ws := [.ref a]) F hr2 I.env0.in1 hx I (.cons rfl .nil) q)) (fun w s' z => ?_) fun _ _ x => x)
  obtain ⟨z', H', I', rz, i, ei, lt, qz⟩ := z
  subst ei
  obtain ⟨t, e⟩ := (show ∃ t, w = Value.int i t from rz)
  cases e
  exact ⟨⟨by omega, lt⟩, .int i, H', I'.tok _, ⟨_, rfl⟩, qz⟩
end
/-! !=, by the own == -/
section
variable {M : Model} {prog : Program} {w : World} {A : Around} {E : Value → Shared → Prop} {s : Shared} {K : PySem.W.Frag} {x C f : Addr} {ox : Obj} {od : Option Obj} {y : Value}
theorem objNe_K {Q : Fin → Shared → Prop} (hu : A.units < cLine) (X : K.In s.heap) (I : PySem.W.InstAt s.heap x ox C od) (hs : PySem.W.findIn K (.ref C) "__eq__" = some (some (.ref f))) (hf : PySem.W.isFn K (.ref f) = true)
    (hcall : wpAny (model prog w) A (call (.ref f) [.ref x, y]) (fun v s' => ∃ b, v = .bool b ∧ Q (.done (.ret (.bool (!b)))) s') E s) :
    wpAny (model prog w) A (Builtin.«object.__ne__» ⟨[.ref x, y], []⟩) Q E s := by
  unfold Builtin.«object.__ne__»
  repeat (first
    | with_reducible refine wpAny_cRoomFor hu ?_
    | (refine wpAny_bind (m := callSpecialIfBound? (.ref x) (Str.ofString "__eq__") [y])
        (PySem.W.ifBound_K X I hs hf (wpAny_mono hcall (fun r s' hr => by
          obtain ⟨b, rfl, hq⟩ := hr
          repeat (first | exact hq | exact wpAny_pure hq | exact wpAny_truthy_bool hq | (refine wpAny_bind (m := truthy (.bool _)) (wpAny_truthy_bool ?_)) | wp_step)) fun _ _ e => e)))
    | wp_step)
theorem ifBound_objNe {args : List Value} {Q : Option Value → Shared → Prop} (X : K.In s.heap) (I : PySem.W.InstAt s.heap x ox C od) (hs : PySem.W.findIn K (.ref C) "__ne__" = some (some (.builtin "object.__ne__")))
    (h : wpAny M A (call (.builtin "object.__ne__") (.ref x :: args)) (fun v => Q (some v)) E s) : wpAny M A (callSpecialIfBound? (.ref x) "__ne__" args) Q E s := by
  simp only [callSpecialIfBound?, bindSpecialIfBound?]
  refine wpAny_holding (wpAny_bind (wpAny_bind (wpAny_bind (I.type.here ((PySem.W.looks_findIn X hs).here ?_)))))
  refine wpAny_bind (wpAny_askSetting (wpAny_ite ?_))
  have fin : wpAny M A (call (.builtin "object.__ne__") ([.ref x] ++ args) >>= fun v => pure (some v)) Q E s := wpAny_bind (wpAny_mono h (fun v s' h' => wpAny_pure h') fun _ _ h' => h')
  split
  · exact wpAny_bind (wpAny_of_eq (F.cmp_object.ne.bind _) (wpAny_pure (by exact fin)))
  · exact wpAny_tryCatch (wpAny_bind (wpAny_of_eq (F.cmp_object.ne.bind _) (wpAny_pure (by exact fin))))
theorem ne_K {Q : Value → Shared → Prop} {tb : Value} (hu : A.units + 1 < cLine) (X : K.In s.heap) (I : PySem.W.InstAt s.heap x ox C od) (hb : PySem.W.Looks (model prog w) s.heap (typeOf y) (.ref C)) (hm : PySem.W.mroIn K C (.type "object") = some true)
    (hn : PySem.W.findIn K (.ref C) "__ne__" = some (some (.builtin "object.__ne__"))) (hs : PySem.W.findIn K (.ref C) "__eq__" = some (some (.ref f))) (hf : PySem.W.isFn K (.ref f) = true)
    (hcall : wpAny (model prog w) A.in1 (call (.ref f) [.ref x, y]) (fun v s' => ∃ b, v = .bool b ∧ Q (.bool (!b)) s') E s) : wpAny (model prog w) A (richCompare .NotEq (.ref x) y) Q E s := by
  have one : wpAny (model prog w) A (tryCompare (.ref x) "__ne__" y) (fun r s' => ∃ b : Bool, r = some (.bool (!b)) ∧ Q (.bool (!b)) s') E s := by
    unfold tryCompare
    refine wpAny_bind (ifBound_objNe X I hn (wpAny_call (codeAny_call_builtin F.cmp_object.ne.plain F.cmpEntry_ne (PySem.W.check_slot F.cmpKind_ne F.cmpSplit_ne (I.type.andThen (PySem.W.looks_mroIn X hm)) (F.cmpArgs_ne _ _)
      (objNe_K (A := A.in1) (show A.in1.units < cLine from hu) X I hs hf (wpAny_mono hcall (fun v s' hv => ?_) fun _ _ e => e))))))
    obtain ⟨b, rfl, hq⟩ := hv
    first | exact ⟨b, rfl, wpAny_pure ⟨b, rfl, hq⟩⟩ | exact ⟨b, rfl, wpAny_pure (wpAny_pure ⟨b, rfl, hq⟩)⟩
  simp only [richCompare, cmpInfo_NotEq, oneThing_ref]
  refine wpAny_holding (wpAny_bind (wpAny_cRoomFor (Nat.lt_of_succ_lt hu) ?_))
  refine wpAny_bind (I.type.here (wpAny_bind (hb.here ?_)))
  rw [show (Value.ref C != Value.ref C) = false from by simp]
  simp only [Bool.false_eq_true, if_false]
  refine wpAny_bind (wpAny_pure ?_)
  simp only [Bool.false_eq_true, if_false]
  refine wpAny_bind (m := tryCompare (.ref x) _ y) (wpAny_mono one (fun r s' z => ?_) fun _ _ e => e)
  obtain ⟨b, rfl, hq⟩ := z
  first | exact wpAny_pure hq | exact wpAny_pure (wpAny_pure hq)
end
section
variable {X : Cx} {CX : CXT} {C g : Addr} {n : Nat} {sp : Sp} {E : XK}
def rNeI (C : Addr) (sp : Sp) (E : XK) : R2 := fun x y H Q => ∃ a dx fs b dy gs, x = .ref a ∧ H a = some (.ins C dx fs) ∧ y = .ref b ∧ H b = some (.ins C dy gs) ∧ sp [x, y] H (fun v H' => ∃ k, v = .bl k ∧ Q (.bl (!k)) H') E
theorem op_neI (hn : PySem.W.findIn X.K (.ref C) "__ne__" = some (some (.builtin "object.__ne__"))) (hm : PySem.W.mroIn X.K C (.type "object") = some true) (hs : PySem.W.findIn X.K (.ref C) "__eq__" = some (some (.ref g))) (hf : PySem.W.isFn X.K (.ref g) = true)
    (F : FnR X.prog X.w X.K X.mg X.base CX n g sp) (hr : Room (n + 1) X.A) (hx : Passes CX X E) : OpR X (compareOp .NotEq) (rNeI C sp E) := by
  intro pins s σ H x y v u Q I rx ry h
  obtain ⟨a, dx, fs, b, dy, gs, rfl, ha, rfl, hb, q⟩ := h
  cases (show v = Value.ref a from rx)
  cases (show u = Value.ref b from ry)
  obtain ⟨od, J⟩ := ins_at I ha
  obtain ⟨od', J'⟩ := ins_at I hb
  have hu : X.A.units + 1 < cLine := by have := hr.un; omega
  unfold compareOp
  refine ne_K (tb := .none) hu I.kIn J J'.type hm hn hs hf ?_
  refine wpAny_mono (wpAny_call (SlX.run_at (us := [.ref a, .ref b]) (ws := [.ref a, .ref b]) F hr.in1 I.env0.in1 hx I (.cons rfl (.cons rfl .nil)) q)) (fun w s' z => ?_) fun _ _ x => x
  obtain ⟨z', H', I', rz, k, ek, qz⟩ := z
  subst ek
  cases (show w = Value.bool k from rz)
  exact ⟨k, rfl, .bl (!k), H', I', rfl, qz⟩
end
/-! x op= y, no own in-place def -/
section
variable {prog : Program} {w : World} {A : Around} {E : Value → Shared → Prop} {s : Shared} {K : PySem.W.Frag} {x C L f : Addr} {h₀ : Heap} {m : Str → Option Value} {ox : Obj} {od : Option Obj}
theorem noFill {M : Model} {h : Heap} {nm : String} {cd : PySem.ClassData} (X : K.In h) (hc : PySem.W.clsIn K C = some cd) (hm : cd.mro = [.ref C, .type "object"]) (hs : PySem.W.findIn K (.ref C) (PySem.dunderI nm) = some none) (ho : typeLookup (.type "object") (PySem.dunderI nm) = pure none) :
    PySem.W.Looks M h (fillsInplaceSlot (.ref C) nm false) false := by
  intro A Q E s k q
  unfold fillsInplaceSlot
  refine wpAny_bind ((PySem.W.looks_clsIn X hc).andThen (f := fun cd => pure cd.mro) .now A _ E s k ?_)
  rw [hm, List.anyM_cons]
  refine wpAny_bind (wpAny_bind (PySem.W.looks_findIn X hs A _ E s k ?_))
  dsimp only
  refine wpAny_pure ?_
  simp only [Bool.false_eq_true, if_false]
  rw [List.anyM_cons]
  refine wpAny_bind (wpAny_bind (wpAny_of_eq ho ?_))
  dsimp only
  refine wpAny_pure ?_
  simp only [Bool.false_eq_true, if_false]
  rw [List.anyM_nil]
  exact wpAny_pure q
theorem ibinop_K {op : Operator} {b : Value} {Q : Value → Shared → Prop} {cd : PySem.ClassData} (hop : (op == .Add) = false) (F : Fr h₀ L s.heap m) (X₀ : K.In h₀) (I : PySem.W.InstAt s.heap x ox C od) (hb : PySem.W.Looks (model prog w) s.heap (typeOf b) (.ref C)) (hc : PySem.W.clsIn K C = some cd) (hm : cd.mro = [.ref C, .type "object"])
    (hi : PySem.W.findIn K (.ref C) (PySem.dunderI op.info.2) = some none) (ho : typeLookup (.type "object") (PySem.dunderI op.info.2) = pure none)
    (hs : PySem.W.findIn K (.ref C) (PySem.dunder op.info.2) = some (some (.ref f))) (hf : PySem.W.isFn K (.ref f) = true)
    (h : wpAny (model prog w) A (call (.ref f) [.ref x, b]) (PySem.W.CmpBack Q) E s) : wpAny (model prog w) A (inplaceOp op (.ref x) b) Q E s := by
  have X := X₀.keeps F.keep
  unfold inplaceOp
  refine wpAny_holding (wpAny_bind (I.type.here ?_))
  rw [hop]
  refine wpAny_bind ((noFill X hc hm hi ho).here ?_)
  simp only [Bool.false_eq_true, if_false]
  refine wpAny_bind ?_
  unfold binaryOp1
  refine wpAny_bind (I.type.here (wpAny_bind (hb.here (wpAny_bind ((PySem.W.fills_K X hc hm hs).here ?_)))))
  simp only [beq_self_eq_true, if_true]
  refine wpAny_bind (wpAny_pure ?_)
  simp only [Bool.and_false, Bool.false_eq_true, if_false, Bool.false_and]
  refine wpAny_bind (wpAny_pure ?_)
  simp only [Bool.false_eq_true, if_false]
  refine wpAny_bind (m := tryMethod (.ref x) _ b) ?_
  unfold tryMethod
  refine wpAny_bind (PySem.W.special_fn X I hs (beq_iff_eq.mp hf) (wpAny_mono h (fun v s' hv => ?_) fun _ _ e => e))
  cases v <;> first | exact hv.elim | exact wpAny_pure (wpAny_pure (wpAny_pure hv))
end
section
variable {X : Cx} {CX : CXT} {C g : Addr} {n : Nat} {sp : Sp} {E : XK}
theorem iop_binI {op : Operator} (hop : (op == .Add) = false) (hc : ∃ cd, PySem.W.clsIn X.K C = some cd ∧ cd.mro = [.ref C, .type "object"]) (hi : PySem.W.findIn X.K (.ref C) (PySem.dunderI op.info.2) = some none) (ho : typeLookup (.type "object") (PySem.dunderI op.info.2) = pure none)
    (hs : PySem.W.findIn X.K (.ref C) (PySem.dunder op.info.2) = some (some (.ref g))) (hf : PySem.W.isFn X.K (.ref g) = true) (F : FnR X.prog X.w X.K X.mg X.base CX n g sp)
    (hr : Room n X.A) (hx : Passes CX X E) : OpR X (inplaceOp op) (rBinI C sp E) := by
  intro pins s σ H x y v u Q I rx ry h
  obtain ⟨a, dx, fs, b, dy, gs, rfl, ha, rfl, hb, q⟩ := h
  cases (show v = Value.ref a from rx)
  cases (show u = Value.ref b from ry)
  obtain ⟨od, J⟩ := ins_at I ha
  obtain ⟨od', J'⟩ := ins_at I hb
  obtain ⟨m, hF⟩ := I.fr
  obtain ⟨cd, c1, c2⟩ := hc
  refine ibinop_K (op := op) hop hF I.ok.mod.kin J J'.type c1 c2 hi ho hs hf ?_
  refine wpAny_mono (wpAny_call (run_fnR (us := [.ref a, .ref b]) (vs := [.ref a, .ref b]) F hr hx I (.cons rfl (.cons rfl .nil)) q)) (fun w s' z => ?_) fun _ _ x => x
  obtain ⟨z', H', I', rz, qz⟩ := z
  exact SlX.cmpback rz ⟨z', H', I', rz, qz⟩
end
/-! tokens -/
/-- an expression that gives one out -/
def PEK (X : Cx) (e : Expr) (t : TE) : Prop :=
  ∀ (pins : List (Addr × Obj)) (s : Shared) (σ : L2.St) (H : Hp) (Q : VK), Inv X pins σ H s → t σ H Q → wpAny (model X.prog X.w) X.A (eval e X.env) (fun v s' => 1 ≤ s'.toks ∧ EP X pins σ Q v s') X.xe s
section
variable {X : Cx} {a e : Expr} {es : List Expr} {ta te : TE} {t : TA} {pos cp : Pos} {x : Str} {j : Nat}
theorem pek_op {op : Operator} {r : R2} (ho : OpR X (binaryOp op) r) (ha : PE X a ta) : PEK X (.BinOp a op (.Constant (.str x) j cp) pos) (tOp r ta (tC (.str x))) := by
  intro pins s σ H Q I h
  refine wpAny_BinOp (thn (ha.run pins s σ H _ I h) fun v s1 ⟨z, H1, I1, r1, q1⟩ => ?_)
  refine Calls.Constant_str ?_
  exact wpAny_mono (PySem.wpAny_toks_of (n := 1) (by show 1 ≤ s1.toks + 1; omega) (ho pins _ σ H1 z (.str x) v _ Q (I1.tok _) r1 ⟨_, rfl⟩ q1)) (fun _ _ z => z) fun _ _ z => z.2
theorem PAT.of (h : PA X es t) : PAT X es t := fun pos pins s σ H Q _ I q => h.run pos pins s σ H Q I q
theorem pa_consK (ha : PEK X e te) (hr : PAT X es t) (hs : starEach (e :: es) X.env = (false, eval e X.env) :: starEach es X.env := by rfl) : PA X (e :: es) (tCons te t) := by
  refine ⟨fun pos pins s σ H Q I h => ?_⟩
  rw [hs]
  show wpAny _ _ (spliced ((false, eval e X.env) :: backTo pos (starEach es X.env))) _ _ s
  refine Calls.spliced_cons (thn (ha pins s σ H _ I h) fun u s1 ⟨ht, x, H1, I1, r1, q1⟩ => ?_)
  exact thn (hr pos pins s1 σ H1 _ ht I1 q1) fun us s2 ⟨xs, H2, I2, r2, q2⟩ => ⟨x :: xs, H2, I2, .cons r1 r2, q2⟩
theorem pat_cons (ha : PET X e te) (hr : PAT X es t) (hs : starEach (e :: es) X.env = (false, eval e X.env) :: starEach es X.env := by rfl) : PAT X (e :: es) (tCons te t) := by
  intro pos pins s σ H Q h0 I h
  rw [hs]
  show wpAny _ _ (spliced ((false, eval e X.env) :: backTo pos (starEach es X.env))) _ _ s
  refine Calls.spliced_cons (wpAny_mono (PySem.wpAny_toks (ha pins s σ H _ h0 I h)) (fun u s1 q => ?_) fun _ _ z => z.2)
  obtain ⟨hk, x, H1, I1, r1, q1⟩ := q
  exact thn (hr pos pins s1 σ H1 _ (Nat.le_trans h0 hk) I1 q1) fun us s2 ⟨xs, H2, I2, r2, q2⟩ => ⟨x :: xs, H2, I2, .cons r1 r2, q2⟩
end
/-- a def of at least one parameter: a token is out when its body begins -/
theorem Fun.okT {P : Program} {w : World} {K : PySem.W.Frag} {mg : Str → Option Value} {base : Heap} {x qual : Str} {st : Stmt} {f : Addr} {fd : FuncData} {N ps : List Str} {k : Nat} {sp : Sp} (F : Fun K x qual st f fd) (S : FnScope N ps (defScope st))
    (hnc : ∀ y ∈ (defScope st).names, y.2 ≠ .cell) (hps : 1 ≤ ps.length) (len : ∀ vs H Q E, sp vs H Q E → vs.length = ps.length)
    (hbody : ∀ (cdv : Value) (A : Around) (outer : List Env) (s : Shared) (H : Hp) (vs : List V) (Q : VK) (E : XK), Room k (A.deeper (envOfC qual (defScope st) s.heap.objs.size f cdv)) → sp vs H Q E →
      ∃ t, PSsT (cxOf CX0 P w K mg base N qual (defScope st) f cdv A outer s H E) (defBody st) t ∧ t { nx := fun _ H' => Q .non H', rt := Q } (start N vs) H) : FnOk P w K mg base CX0 (k + 1) f fd ps sp := by
  obtain ⟨oc, od, kV, doc, pm, an, cdv, ct, osl, rfl, lk, hcd⟩ := F.ex
  exact fn_ofT lk hcd S hnc hps len fun A outer s H vs Q E hr hsp => hbody cdv A outer s H vs Q E hr hsp
/-! a static method, called off the class -/
structure SMet (K : PySem.W.Frag) (C : Addr) (mc : Value) (m : Str) (p g : Addr) : Prop where
  at_ : PySem.W.findCls K (.ref C) mc m = some (.get (.builtin "staticmethod.__get__") (.ref p) .none (.ref C))
  rc : ∃ rest, PySem.W.recIn K p "staticmethod" = some (.ref g :: rest)
  kp : PySem.W.keepIn K (.ref g) = true
def tSMeth (C : Addr) (sp : Sp) (E : XK) (ta : TE) (t : TA) : TE := fun σ H Q => ta σ H fun x H1 => x = .ref C ∧ t σ H1 fun vs H2 => sp vs H2 Q E
section
variable {X : Cx} {CX : CXT} {k : Nat} {C p g : Addr} {mc : Value} {sp : Sp} {E : XK} {o e : Expr} {es : List Expr} {m : Str} {pos apos : Pos} {ta : TE} {t : TA} {pl : Sem Bool}
theorem pe_smeth (he : PE X o ta) (r : ClX.CRead X.K C mc) (c : SMet X.K C mc m p g) (F : FnR X.prog X.w X.K X.mg X.base CX k g sp) (hr : Room k X.A) (hx : Passes CX X E) (ha : PA X (e :: es) t)
    (h1 : starEach (e :: es) X.env = (false, eval e X.env) :: starEach es X.env := by rfl) (h2 : (backTo pos (starEach es X.env)).any (·.1) = false := by rfl)
    (h3 : eval (.Call (.Attribute o m apos) (e :: es) [] pos) X.env = (do
      let ov ← eval o X.env
      standAt apos.atName
      let (f, first) ← holding [ov] (getMethod ov m pl)
      callWith pos f first (backTo pos (starEach (e :: es) X.env)) (backToKw pos (keywordEach [] X.env))) := by rfl) :
    PE X (.Call (.Attribute o m apos) (e :: es) [] pos) (tSMeth C sp E ta t) := by
  constructor
  intro pins s σ H Q I asked
  obtain ⟨rest, rec_⟩ := c.rc
  apply PySem.W.methodCall_KW (pl := pl) ?_ h3
  apply thn (he.run pins s σ H _ I asked)
  rintro u s1 ⟨x, H1, I1, rx, ex, q⟩
  subst ex
  cases (show u = Value.ref C from rx)
  apply PySem.W.method_cls I1.kIn r.ga
  apply PySem.W.cls_bind I1.kIn r.rd c.at_
  apply wpAny_call
  apply PySem.W.sm_get (s := { s1 with toks := s1.toks + 1 }) I1.kIn rec_
  apply PySem.W.handed_on rfl
  have I2 : Inv X pins σ H1 { s1 with toks := s1.toks + 1 } := I1.tok _
  apply PySem.W.callWith_K (h₀ := X.base) I2.ok.mod.kin c.kp ?_ h1 h2
  apply thn (ha.run pos pins _ σ H1 _ I2 q)
  rintro us s3 ⟨vs, H3, I3, rv, q3⟩
  exact ⟨I3.kIn, wpAny_call (run_fnR (us := us) (vs := vs) F hr hx I3 rv q3)⟩
end
end Fb
set_option maxRecDepth 100000
set_option maxHeartbeats 4000000
namespace Fb
open PySem PySem.Spec PyProof.Rows L2
open SX (S)
/-! patterns as lists of signs: 48, 49, 46 -/
/-- how many leading signs begin some pattern; none for a pattern -/
def pfa : List Nat → Nat → Nat → Nat → Nat → Option Nat
  | [], at_, _, _, size => if size = 0 then some at_ else none
  | c :: cs, at_, bits, blocks, size =>
    if ¬(c = 48 ∨ c = 49 ∨ c = 46) ∨ bits = 120 then some at_
    else if c = 46 then (if size = 0 ∨ blocks = 3 then some at_ else pfa cs (at_ + 1) bits (blocks + 1) 0)
    else pfa cs (at_ + 1) (bits + 1) blocks (size + 1)
def pf (l : List Nat) : Option Nat := pfa l 0 0 1 0
/-- the sizes of the parts between dots -/
def szA : Nat → List Nat → List Nat
  | n, [] => [n]
  | n, c :: cs => if c = 46 then n :: szA 0 cs else szA (n + 1) cs
def szs (l : List Nat) : List Nat := szA 0 l
theorem spl_len : ∀ (l acc : List Nat), (TL.spl [46] 0 acc l).map List.length = szA acc.length l
  | [], acc => by rw [TL.spl_nil]; rfl
  | c :: l, acc => by
    by_cases h : c = 46
    · subst h
      have hp : TL.pre [46] (46 :: l) = true := TL.pre_self [46] l
      rw [TL.spl_hit hp]
      show acc.length :: (TL.spl [46] 0 [] l).map List.length = szA acc.length (46 :: l)
      rw [spl_len l []]
      rfl
    · have hp : TL.pre [46] (c :: l) = false := TL.pre_of_head _ _ fun e => h e
      rw [TL.spl_miss hp, spl_len l (acc ++ [c])]
      show szA (acc ++ [c]).length l = if c = 46 then _ else szA (acc.length + 1) l
      rw [if_neg h, List.length_append]
      rfl
theorem split_lens (l : List Nat) : (Txt.split (S l) ".").map (fun z => z.length) = szs l := by
  have e : ((".":Str)) = S [46] := by decide +kernel
  rw [e, SX.split_S (by simp) (by decide), List.map_map]
  have h := spl_len l []
  show _ = szA 0 l
  rw [← (show ([] : List Nat).length = 0 from rfl), ← h]
  refine List.map_congr_left fun x _ => ?_
  show (S x).length = x.length
  exact SX.S_len x
theorem szA_len : ∀ (l : List Nat) (n : Nat), 1 ≤ (szA n l).length ∧ (szA n l).length ≤ l.length + 1
  | [], n => by simp [szA]
  | c :: l, n => by
    unfold szA
    by_cases h : c = 46
    · rw [if_pos h]
      have := szA_len l 0
      simp only [List.length_cons]
      omega
    · rw [if_neg h]
      have := szA_len l (n + 1)
      simp only [List.length_cons]
      omega
/-- signs of a pattern -/
def Sg (l : List Nat) : Prop := ∀ c ∈ l, c = 48 ∨ c = 49 ∨ c = 46
def nb (l : List Nat) : Nat := (l.filter (fun c => c != 46)).length
theorem szA_sum : ∀ (l : List Nat) (n : Nat), (szA n l).sum = n + nb l
  | [], n => by simp [szA, nb]
  | c :: l, n => by
    unfold szA nb
    by_cases h : c = 46
    · subst h
      rw [if_pos rfl, List.sum_cons, szA_sum l 0]
      simp [nb]
    · rw [if_neg h, szA_sum l (n + 1), List.filter_cons_of_pos (by simpa using h), List.length_cons]
      unfold nb
      omega
theorem pfa_good : ∀ (l : List Nat) (a bits blocks size : Nat), Sg l → (∀ n ∈ szA size l, 1 ≤ n) → blocks + (szA size l).length ≤ 4 → bits + nb l ≤ 120 → pfa l a bits blocks size = none
  | [], a, bits, blocks, size, _, h2, _, _ => by
    have : 1 ≤ size := h2 size (by simp [szA])
    unfold pfa
    rw [if_neg (by omega)]
  | c :: l, a, bits, blocks, size, h1, h2, h3, h4 => by
    have hc := h1 c List.mem_cons_self
    have h1' : Sg l := fun d hd => h1 d (List.mem_cons_of_mem _ hd)
    unfold pfa
    by_cases h : c = 46
    · subst h
      have e : szA size (46 :: l) = size :: szA 0 l := by
        show (if 46 = 46 then _ else _) = _
        rw [if_pos rfl]
      rw [e] at h2 h3
      have hs : 1 ≤ size := h2 size List.mem_cons_self
      have hl := szA_len l 0
      have sm := szA_sum l 0
      have pos : 1 ≤ (szA 0 l).sum := by
        cases q : szA 0 l with
        | nil => rw [q] at hl; simp at hl
        | cons x r =>
          have := h2 x (by rw [q]; simp)
          rw [List.sum_cons]
          omega
      have en : nb (46 :: l) = nb l := by simp [nb]
      rw [en] at h4
      rw [List.length_cons] at h3
      rw [if_neg (by omega), if_pos rfl, if_neg (by omega)]
      exact pfa_good l _ _ _ _ h1' (fun n hn => h2 n (List.mem_cons_of_mem _ hn)) (by omega) (by omega)
    · have e : szA size (c :: l) = szA (size + 1) l := by
        show (if c = 46 then _ else _) = _
        rw [if_neg h]
      rw [e] at h2 h3
      have en : nb (c :: l) = nb l + 1 := by
        unfold nb
        rw [List.filter_cons_of_pos (by simpa using h), List.length_cons]
      rw [en] at h4
      rw [if_neg (by omega), if_neg h]
      exact pfa_good l _ _ _ _ h1' h2 h3 (by omega)
/-- a pattern -/
structure IsP (l : List Nat) : Prop where
  sg : Sg l
  one : ∀ n ∈ szs l, 1 ≤ n
  few : (szs l).length ≤ 3
  sum : nb l ≤ 120
theorem IsP.pf {l : List Nat} (h : IsP l) : pf l = none := pfa_good l 0 0 1 0 h.sg h.one (by have := h.few; unfold szs at this; omega) (by have := h.sum; omega)
theorem len_nb : ∀ (l : List Nat) (n : Nat), l.length + 1 = nb l + (szA n l).length
  | [], n => by simp [nb, szA]
  | c :: l, n => by
    unfold szA nb
    by_cases h : c = 46
    · subst h
      rw [if_pos rfl, List.length_cons, List.length_cons, len_nb l 0]
      simp [nb]
      omega
    · rw [if_neg h, List.length_cons, len_nb l (n + 1), List.filter_cons_of_pos (by simpa using h), List.length_cons]
      unfold nb
      omega
theorem IsP.len {l : List Nat} (h : IsP l) : l.length ≤ 122 := by
  have h1 := len_nb l 0
  have h2 := h.few
  have h3 := h.sum
  unfold szs at h2
  omega
/-! two patterns of equal sizes -/
def AlS (a b : Nat) : Prop := (a = 46 ∧ b = 46) ∨ ((a = 48 ∨ a = 49) ∧ (b = 48 ∨ b = 49))
abbrev Al (l m : List Nat) : Prop := Paired AlS l m
theorem Al.szA : ∀ {l m : List Nat}, Al l m → ∀ n, Fb.szA n l = Fb.szA n m
  | _, _, .nil, n => rfl
  | a :: l, b :: m, .cons r t, n => by
    show (if a = 46 then _ else _) = (if b = 46 then _ else _)
    rcases r with ⟨rfl, rfl⟩ | ⟨h1, h2⟩
    · rw [if_pos rfl, if_pos rfl, Al.szA t 0]
    · rw [if_neg (by omega), if_neg (by omega), Al.szA t (n + 1)]
theorem Al.szs {l m : List Nat} (h : Al l m) : Fb.szs l = Fb.szs m := h.szA 0
theorem Al.nb {l m : List Nat} (h : Al l m) : Fb.nb l = Fb.nb m := by
  have h1 := szA_sum l 0
  have h2 := szA_sum m 0
  rw [h.szA 0] at h1
  omega
theorem Al.len : ∀ {l m : List Nat}, Al l m → l.length = m.length
  | _, _, .nil => rfl
  | _, _, .cons _ t => by rw [List.length_cons, List.length_cons, Al.len t]
theorem Al.sg : ∀ {l m : List Nat}, Al l m → Sg m
  | _, _, .nil => fun c hc => by simp at hc
  | _, _, .cons r t => fun c hc => by
    rcases List.mem_cons.mp hc with e | e
    · subst e
      rcases r with ⟨_, h⟩ | ⟨_, h⟩ <;> omega
    · exact Al.sg t c e
theorem Al.symm : ∀ {l m : List Nat}, Al l m → Al m l
  | _, _, .nil => .nil
  | _, _, .cons r t => .cons (by rcases r with ⟨h1, h2⟩ | ⟨h1, h2⟩; exact .inl ⟨h2, h1⟩; exact .inr ⟨h2, h1⟩) (Al.symm t)
theorem Al.refl : ∀ {l : List Nat}, Sg l → Al l l
  | [], _ => .nil
  | c :: l, h => .cons (by rcases h c List.mem_cons_self with e | e | e; exact .inr ⟨.inl e, .inl e⟩; exact .inr ⟨.inr e, .inr e⟩; exact .inl ⟨e, e⟩) (Al.refl fun d hd => h d (List.mem_cons_of_mem _ hd))
theorem Al.trans : ∀ {l m k : List Nat}, Al l m → Al m k → Al l k
  | _, _, _, .nil, .nil => .nil
  | _, _, _, .cons r t, .cons r' t' => .cons (by rcases r with ⟨h1, h2⟩ | ⟨h1, h2⟩ <;> rcases r' with ⟨h3, h4⟩ | ⟨h3, h4⟩; exact .inl ⟨h1, h4⟩; omega; omega; exact .inr ⟨h1, h4⟩) (Al.trans t t')
theorem Al.isP {l m : List Nat} (h : Al l m) (p : IsP l) : IsP m :=
  ⟨h.sg, by rw [← h.szs]; exact p.one, by rw [← h.szs]; exact p.few, by rw [← h.nb]; exact p.sum⟩
/-- sign by sign -/
def zw (f : Nat → Nat → Nat) (l m : List Nat) : List Nat := List.zipWith f l m
theorem Al.zw {f : Nat → Nat → Nat} (hf : ∀ a b, AlS a b → AlS a (f a b)) : ∀ {l m : List Nat}, Al l m → Al l (zw f l m)
  | _, _, .nil => .nil
  | _, _, .cons r t => .cons (hf _ _ r) (Al.zw hf t)
def fAnd (a b : Nat) : Nat := if a = b then a else 48
def fOr (a b : Nat) : Nat := if a = b then a else 49
def fXor (a b : Nat) : Nat := if a ≠ b then 49 else if a = 46 then 46 else 48
theorem al_and (a b : Nat) (h : AlS a b) : AlS a (fAnd a b) := by
  unfold AlS fAnd at *
  by_cases e : a = b
  · subst e; rw [if_pos rfl]; omega
  · rw [if_neg e]; omega
theorem al_or (a b : Nat) (h : AlS a b) : AlS a (fOr a b) := by
  unfold AlS fOr at *
  by_cases e : a = b
  · subst e; rw [if_pos rfl]; omega
  · rw [if_neg e]; omega
theorem al_xor (a b : Nat) (h : AlS a b) : AlS a (fXor a b) := by
  unfold AlS fXor at *
  by_cases e : a = b
  · subst e; rw [if_neg (by simp)]; by_cases q : a = 46
    · rw [if_pos q]; omega
    · rw [if_neg q]; omega
  · rw [if_pos e]; omega
/-- each sign of the one is at most the other's -/
def below (l m : List Nat) : Bool := (List.zipWith (fun a b => decide (a ≤ b)) l m).all id
theorem szA_head : ∀ (l : List Nat) (n : Nat), ∃ h r, szA n l = h :: r ∧ n ≤ h
  | [], n => ⟨n, [], rfl, Nat.le_refl _⟩
  | c :: l, n => by
    unfold szA
    by_cases h : c = 46
    · rw [if_pos h]
      exact ⟨n, _, rfl, Nat.le_refl _⟩
    · rw [if_neg h]
      obtain ⟨x, r, e, hx⟩ := szA_head l (n + 1)
      exact ⟨x, r, e, by omega⟩
theorem al_of : ∀ {l m : List Nat}, Sg l → Sg m → ∀ n, szA n l = szA n m → Al l m
  | [], [], _, _, _, _ => .nil
  | [], c :: m, _, _, n, e => by
    exfalso
    unfold szA at e
    by_cases h : c = 46
    · rw [if_pos h] at e
      have := szA_len m 0
      simp at e
      rw [e] at this
      simp at this
    · rw [if_neg h] at e
      obtain ⟨x, r, e2, hx⟩ := szA_head m (n + 1)
      rw [e2] at e
      simp at e
      omega
  | c :: l, [], _, _, n, e => by
    exfalso
    unfold szA at e
    by_cases h : c = 46
    · rw [if_pos h] at e
      have := szA_len l 0
      simp at e
      rw [e] at this
      simp at this
    · rw [if_neg h] at e
      obtain ⟨x, r, e2, hx⟩ := szA_head l (n + 1)
      rw [e2] at e
      simp at e
      omega
  | c :: l, d :: m, hl, hm, n, e => by
    have h1 : Sg l := fun x hx => hl x (List.mem_cons_of_mem _ hx)
    have h2 : Sg m := fun x hx => hm x (List.mem_cons_of_mem _ hx)
    have hc := hl c List.mem_cons_self
    have hd := hm d List.mem_cons_self
    unfold szA at e
    by_cases h : c = 46
    · by_cases h' : d = 46
      · rw [if_pos h, if_pos h'] at e
        exact .cons (.inl ⟨h, h'⟩) (al_of h1 h2 0 (List.cons.inj e).2)
      · exfalso
        rw [if_pos h, if_neg h'] at e
        obtain ⟨x, r, e2, hx⟩ := szA_head m (n + 1)
        rw [e2] at e
        have := (List.cons.inj e).1
        omega
    · by_cases h' : d = 46
      · exfalso
        rw [if_neg h, if_pos h'] at e
        obtain ⟨x, r, e2, hx⟩ := szA_head l (n + 1)
        rw [e2] at e
        have := (List.cons.inj e).1
        omega
      · rw [if_neg h, if_neg h'] at e
        exact .cons (.inr ⟨by omega, by omega⟩) (al_of h1 h2 (n + 1) e)
/-! places -/
theorem S_sgn {l : List Nat} {i c : Nat} (h : l[i]? = some c) : (⟨#[(S l).cps.getD i 0]⟩ : Str) = S [c] := by
  have e : (S l).cps.getD i 0 = c := by
    show l.toArray.getD i 0 = c
    rw [Array.getD_eq_getD_getElem?]
    simp [h]
  rw [e]
theorem join_empty : ∀ xs : List Nat, TL.joinL [] (xs.map fun c => [c]) = xs
  | [] => rfl
  | [a] => rfl
  | a :: b :: r => by
    have h := join_empty (b :: r)
    show [a] ++ [] ++ TL.joinL [] ((b :: r).map fun c => [c]) = _
    rw [h]
    rfl
theorem join_signs (xs : List Nat) : Txt.join "" (xs.map fun c => S [c]) = S xs := by
  have e : (("" : Str)) = S [] := by decide +kernel
  have h := SX.join_S [] (xs.map fun c => [c])
  rw [e]
  rw [List.map_map] at h
  rw [join_empty] at h
  exact h
theorem repl_dots : ∀ l : List Nat, StrLaws.replL [46] [] l = l.filter (fun c => c != 46)
  | [] => StrLaws.replL_nil
  | c :: l => by
    by_cases h : c = 46
    · subst h
      rw [StrLaws.replL_hit (by simp) (by simp), List.filter_cons_of_neg (by simp)]
      exact repl_dots l
    · rw [StrLaws.replL_miss (by simpa using h), List.filter_cons_of_pos (by simpa using h), repl_dots l]
theorem replace_dots (l : List Nat) : Txt.replace (S l) "." "" = S (l.filter (fun c => c != 46)) := by
  have e1 : ((".":Str)) = S [46] := by decide +kernel
  have e2 : (("" : Str)) = S [] := by decide +kernel
  rw [e1, e2]
  refine TL.ext_tl ?_
  have h := StrLaws.replace_list (x := S l) (y := S [46]) (z := S []) (by decide)
  exact h.trans (repl_dots l)
/-! the other way -/
theorem pfa_conv : ∀ (l : List Nat) (a bits blocks size : Nat), blocks ≤ 3 → bits ≤ 120 → pfa l a bits blocks size = none → Sg l ∧ (∀ n ∈ szA size l, 1 ≤ n) ∧ blocks + (szA size l).length ≤ 4 ∧ bits + nb l ≤ 120
  | [], a, bits, blocks, size, hb, hc, h => by
    unfold pfa at h
    by_cases e : size = 0
    · rw [if_pos e] at h; cases h
    · refine ⟨fun c hc => by simp at hc, fun n hn => ?_, by simp [szA]; omega, by simp [nb]; omega⟩
      have : n = size := by simpa [szA] using hn
      omega
  | c :: l, a, bits, blocks, size, hb, hc, h => by
    unfold pfa at h
    by_cases e : ¬(c = 48 ∨ c = 49 ∨ c = 46) ∨ bits = 120
    · rw [if_pos e] at h; cases h
    · rw [if_neg e] at h
      have e1 : c = 48 ∨ c = 49 ∨ c = 46 := by
        by_cases q : c = 48 ∨ c = 49 ∨ c = 46
        · exact q
        · exact absurd (.inl q) e
      have e2 : ¬ bits = 120 := fun q => e (.inr q)
      have sg : ∀ {l : List Nat}, Sg l → Sg (c :: l) := fun h d hd => by
        rcases List.mem_cons.mp hd with q | q
        · rw [q]; exact e1
        · exact h d q
      by_cases d : c = 46
      · rw [if_pos d] at h
        by_cases f : size = 0 ∨ blocks = 3
        · rw [if_pos f] at h; cases h
        · rw [if_neg f] at h
          obtain ⟨h1, h2, h3, h4⟩ := pfa_conv l _ _ _ _ (by omega) (by omega) h
          have es : szA size (c :: l) = size :: szA 0 l := by
            show (if c = 46 then _ else _) = _
            rw [if_pos d]
          have en : nb (c :: l) = nb l := by subst d; simp [nb]
          rw [es, en]
          refine ⟨sg h1, fun n hn => ?_, by rw [List.length_cons]; omega, h4⟩
          rcases List.mem_cons.mp hn with q | q
          · omega
          · exact h2 n q
      · rw [if_neg d] at h
        obtain ⟨h1, h2, h3, h4⟩ := pfa_conv l _ _ _ _ (by omega) (by omega) h
        have es : szA size (c :: l) = szA (size + 1) l := by
          show (if c = 46 then _ else _) = _
          rw [if_neg d]
        have en : nb (c :: l) = nb l + 1 := by
          unfold nb
          rw [List.filter_cons_of_pos (by simpa using d), List.length_cons]
        rw [es, en]
        exact ⟨sg h1, h2, h3, by omega⟩
theorem isP_pf {l : List Nat} (h : Fb.pf l = none) : IsP l := by
  obtain ⟨h1, h2, h3, h4⟩ := pfa_conv l 0 0 1 0 (by decide) (by decide) h
  exact ⟨h1, h2, by unfold szs; omega, by omega⟩
end Fb
set_option maxRecDepth 100000
set_option maxHeartbeats 4000000
namespace Fb
open PySem PySem.Spec PyProof.Rows L2
/-! the document's own error classes -/
abbrev bmX (fe : Addr) : List Value := [.ref fe, .type "ValueError", .type "Exception", .type "BaseException", .type "object"]
/-- what the written part says of an own error class under FallenError -/
structure XF (K : PySem.W.Frag) (mg : Str → Option Value) (fe : Addr) (x : Str) (C : Addr) : Prop where
  g : mg x = some (.ref C)
  ob : ∃ nm q N bs sn sub ab col dd k0 k1 k2 k3 k5, K.lookup C = some (excClassObj nm q C N bs (bmX fe) true sn sub ab col dd k0 k1 k2 k3 k5 "ValueError.__new__")
  kp : PySem.W.keepIn K (.ref C) = true
  ty : PySem.W.typeIn K (.ref C) = some (.type "type")
  sa : PySem.W.findIn K (.ref C) "__setattr__" = some (some (.builtin "object.__setattr__"))
  ga : PySem.W.findIn K (.ref C) "__getattribute__" = some (some (.builtin "BaseException.__getattribute__"))
  gg : PySem.W.findIn K (.ref C) "__getattr__" = some none
  ca : PySem.W.findIn K (.ref C) "__class__" = some (some (.builtin "object.__class__"))
section
variable {K : PySem.W.Frag} {mg : Str → Option Value} {fe C : Addr} {x : Str}
theorem XF.cls (T : XF K mg fe x C) : ∃ cd, PySem.W.clsIn K C = some cd ∧ cd.mro = .ref C :: bmX fe ∧ cd.hasDict = true := by
  obtain ⟨nm, q, N, bs, sn, sub, ab, col, dd, k0, k1, k2, k3, k5, h⟩ := T.ob
  exact ⟨{ name := nm, bases := bs, mro := .ref C :: bmX fe, ns := N, qualname := q, hasDict := true, slotNames := sn, subclasses := sub, abstract := ab, collection := col, hasDel := false }, by unfold PySem.W.clsIn; rw [h] <;> rfl, rfl, rfl⟩
theorem XF.mro (T : XF K mg fe x C) (b : Value) : PySem.W.mroIn K C b = some ((Value.ref C :: bmX fe).contains b) := by
  obtain ⟨cd, h1, h2, _⟩ := T.cls
  unfold PySem.W.mroIn
  rw [h1, Option.bind_some, h2] <;> rfl
theorem XF.xc (T : XF K mg fe x C) : XC K C := by
  obtain ⟨cd, h1, h2, h3⟩ := T.cls
  refine ⟨by rw [h1]; rfl, T.ga, T.gg, ?_, T.ca, ?_, by unfold PySem.W.hasDictIn; rw [h1] <;> exact h3⟩
  · show PySem.W.mroIn K C _ = _
    rw [T.mro] <;> simp
  · rw [T.mro] <;> simp
theorem XF.oc (T : XF K mg fe x C) : OexC K C := by
  obtain ⟨nm, q, N, bs, sn, sub, ab, col, dd, k0, k1, k2, k3, k5, h⟩ := T.ob
  exact ⟨⟨nm, q, N, bs, bmX fe, sn, sub, ab, col, dd, k0, k1, k2, k3, k5, h, by rfl⟩, T.sa, T.xc.sb, T.ty, T.kp⟩
/-- isinstance(e, D), e of the class at C, D at another address that is a class too -/
theorem XF.is {D : Addr} {y : Str} (T : XF K mg fe x C) (U : XF K mg fe y D) (hf : D ≠ fe) : PySem.W.kitOne K (.ref C) (.ref D) = some (decide (C = D)) := by
  unfold PySem.W.kitOne
  by_cases e : C = D
  · subst e
    simp
  · have e1 : (Value.ref C == Value.ref D) = false := beq_eq_false_iff_ne.mpr fun z => e (Value.ref.inj z)
    rw [e1, if_neg Bool.false_ne_true, decide_eq_false e]
    unfold PySem.W.kitCls
    have e2 : ((PySem.W.clsIn K D).isSome && PySem.W.typeIn K (.ref D) == some (.type "type")) = true := by
      rw [U.xc.cl, U.ty] <;> rfl
    show (if ((PySem.W.clsIn K D).isSome && PySem.W.typeIn K (.ref D) == some (.type "type")) = true then PySem.W.subIn K (.ref C) (.ref D) else none) = _
    rw [if_pos e2]
    show PySem.W.mroIn K C (.ref D) = _
    rw [T.mro]
    have e3 : (Value.ref D == Value.ref C) = false := beq_eq_false_iff_ne.mpr fun z => e (Value.ref.inj z).symm
    have e4 : (Value.ref D == Value.ref fe) = false := beq_eq_false_iff_ne.mpr fun z => hf (Value.ref.inj z)
    have e5 : ∀ T : String, (Value.ref D == Value.type T) = false := fun T => rfl
    simp [List.contains, List.elem, e3, e4, e5]
theorem XF.isF (T : XF K mg fe x C) (hc : (PySem.W.clsIn K fe).isSome = true) (ht : PySem.W.typeIn K (.ref fe) = some (.type "type")) : PySem.W.kitOne K (.ref C) (.ref fe) = some true := by
  unfold PySem.W.kitOne
  by_cases e : C = fe
  · subst e
    simp
  · have e1 : (Value.ref C == Value.ref fe) = false := beq_eq_false_iff_ne.mpr fun z => e (Value.ref.inj z)
    rw [e1, if_neg Bool.false_ne_true]
    have e2 : ((PySem.W.clsIn K fe).isSome && PySem.W.typeIn K (.ref fe) == some (.type "type")) = true := by
      rw [hc, ht] <;> rfl
    show (if ((PySem.W.clsIn K fe).isSome && PySem.W.typeIn K (.ref fe) == some (.type "type")) = true then PySem.W.subIn K (.ref C) (.ref fe) else none) = _
    rw [if_pos e2]
    show PySem.W.mroIn K C (.ref fe) = _
    rw [T.mro]
    simp
theorem XF.isV (T : XF K mg fe x C) : PySem.W.kitOne K (.ref C) (.type "ValueError") = some true := by
  unfold PySem.W.kitOne
  have e1 : (Value.ref C == Value.type "ValueError") = false := by rfl
  rw [e1, if_neg Bool.false_ne_true]
  show (if PySem.W.kitMeta "ValueError" = true then PySem.W.subIn K (.ref C) (.type "ValueError") else none) = _
  rw [if_pos (by decide +kernel)]
  show PySem.W.mroIn K C _ = _
  rw [T.mro]
  simp
end
theorem XF.of {K : PySem.W.Frag} {h : Heap} {mg : Str → Option Value} {fe C N : Addr} {x nm q : Str} {bs : List Value} {sn : List Str} {sub : List Value} {ab : Bool} {col : Option Bool} {dd : Option Addr} {k0 k1 k2 k3 k5 : Option Value} (X : K.In h) (G : h.Ns mainGlobals mg)
    (g : PySem.W.nsIn K mainGlobals x = some (some (.ref C))) (ob : K.lookup C = some (excClassObj nm q C N bs (bmX fe) true sn sub ab col dd k0 k1 k2 k3 k5 "ValueError.__new__")) (kp : PySem.W.keepIn K (.ref C) = true) (ty : PySem.W.typeIn K (.ref C) = some (.type "type"))
    (sa : PySem.W.findIn K (.ref C) "__setattr__" = some (some (.builtin "object.__setattr__"))) (ga : PySem.W.findIn K (.ref C) "__getattribute__" = some (some (.builtin "BaseException.__getattribute__"))) (gg : PySem.W.findIn K (.ref C) "__getattr__" = some none)
    (ca : PySem.W.findIn K (.ref C) "__class__" = some (some (.builtin "object.__class__"))) : XF K mg fe x C :=
  ⟨PySem.W.mg_of X G g, ⟨nm, q, N, bs, sn, sub, ab, col, dd, k0, k1, k2, k3, k5, ob⟩, kp, ty, sa, ga, gg, ca⟩
/-! isinstance of an exception that was caught and is kept -/
section
variable {X : Cx} {pins : List (Addr × Obj)} {σ : L2.St} {H : Hp} {s : Shared}
theorem exr_inst {a C : Addr} (I : Inv X pins σ H s) (h : H a = some (ExR (.ref C) none a)) : ∃ ox, PySem.W.InstAt s.heap a ox C none := by
  obtain ⟨⟨oe, vs, ho, h1, h2, h3⟩, _, _⟩ := I.hok a _ h
  refine ⟨oe, ho, h1, ?_, ?_⟩
  · unfold PySem.W.notCls; rw [h3] <;> rfl
  · rw [h2] <;> trivial
def rIsR (K : PySem.W.Frag) : List V → Hp → VK → Prop := fun xs H Q => ∃ (a C : Addr) (c : V) (cv : Value) (b : Bool), xs = [.ref a, c] ∧ XC K C ∧ XB K ∧ H a = some (ExR (.ref C) none a) ∧ ClsV c cv ∧ PySem.W.kitOne K (.ref C) cv = some b ∧ Q (.bl b) H
theorem call_isR : CallR X (.builtin "isinstance") (rIsR X.K) := by
  intro pins s σ H xs us Q I r h
  obtain ⟨a, C, c, cv, b, rfl, T, B, hE, k, e, q⟩ := h
  obtain ⟨u1, u2, rfl, r1, r2⟩ := vals2 r
  have e2 := k.eq r2
  subst e2
  cases (show u1 = Value.ref a from r1)
  obtain ⟨ox, J⟩ := exr_inst I hE
  exact PySem.W.kia_one (PySem.W.kitx_exc T.cl T.ga T.gg T.sb T.ca B.hn B.ht T.ob) I.kIn J e (fun z => nomatch z) fun tk => ⟨.bl b, H, I.tok tk, rfl, q⟩
end
/-- an own __init__ of one field -/
def spI1 (C : Addr) (f : Str) : Sp := fun vs H Q _ => ∃ (a : Addr) (v : V), vs = [.ref a, v] ∧ H a = some (exo a C none) ∧ ∀ d, H d = none → d ≠ a → Q .non (upd (upd H d (exd d [(f, v)])) a (exo a C (some d)))
end Fb
set_option maxRecDepth 100000
set_option maxHeartbeats 4000000
namespace Fb
open PySem PySem.Spec PyProof.Rows L2
/-! list comprehensions that leave what was: the list so far is told by a function of the turn -/
section
variable {g : TG} {tt : TT} {te : TE} {vs : List Nat} {σ : L2.St} {H1 : Hp} {D : Addr} {Qd : Hp → Prop} (out : Nat → List V)
def OutI (H1 : Hp) (D : Addr) (o : List V) (H : Hp) : Prop := Same H1 H ∧ H D = some (.lst o)
theorem OutI.start {H1 : Hp} {D : Addr} (hD : H1 D = none) : OutI H1 D [] (upd H1 D (.lst [])) := ⟨smN (Same.refl _) hD, upd_same⟩
theorem OutI.put {H1 H H4 : Hp} {D : Addr} {o : List V} {y : V} (hD : H1 D = none) (h : OutI H1 D o H) (s : Same H H4) : OutI H1 D (o ++ [y]) (upd H4 D (.lst (o ++ [y]))) :=
  ⟨fun b u e => by rw [upd_ne (ne_of_none e hD)]; exact s _ _ (h.1 _ _ e), upd_same⟩
theorem OutI.stay {H1 H H4 : Hp} {D : Addr} {o : List V} (h : OutI H1 D o H) (s : Same H H4) : OutI H1 D o H4 := ⟨h.1.trans s, s _ _ h.2⟩
theorem lc_outL {K : PySem.W.Frag} {a : Addr} {xs : List V} (hD : H1 D = none) (hl : SqL K H1 a xs) (o0 : out 0 = []) (ol : ∀ i, i < xs.length → (out i).length < sizeLine)
    (hs : ∀ i x H (Kc : V → Hp → Prop) (K0 : Hp → Prop), xs[i]? = some x → Same H1 H → (∀ y H4, Same H H4 → out (i + 1) = out i ++ [y] → Kc y H4) → (∀ H4, Same H H4 → out (i + 1) = out i → K0 H4) →
      g x (wipe σ vs) H fun σ2 H2 => wipe σ2 vs = wipe σ vs ∧ tt σ2 H2 fun b H3 => if b = true then te σ2 H3 Kc else K0 H3)
    (hd : ∀ H, Same H1 H → H D = some (.lst (out xs.length)) → Qd H) :
    ∃ W : Nat → Nat → Hp → Prop, (∃ m, W 0 m (upd H1 D (.lst []))) ∧ ∀ i m H, W i m H →
      ((Itl K a).stop i H ∧ Qd H) ∨ ((Itl K a).go i H ∧ ∃ Nx : Hp → Prop, (∀ H', Nx H' → ∃ m', m' < m ∧ W (i + 1) m' H') ∧ ∀ x H', (Itl K a).yld i H x H' → g x (wipe σ vs) H' fun σ2 H2 => wipe σ2 vs = wipe σ vs ∧ tt σ2 H2 fun b H3 =>
        if b = true then te σ2 H3 fun y H4 => ∃ acc, H4 D = some (.lst acc) ∧ acc.length < sizeLine ∧ Nx (upd H4 D (.lst (acc ++ [y]))) else Nx H3) := by
  refine lc_list (xs := xs) (fun i H => OutI H1 D (out i) H) (by rw [o0]; exact OutI.start hD) (fun i H _ h => h.1.seq hl) (fun i x H e h => ?_) (fun H h => hd H h.1 h.2)
  have lt : i < xs.length := (List.getElem?_eq_some_iff.mp e).1
  exact hs i x H _ _ e h.1 (fun y H4 s q => ⟨out i, (h.stay s).2, ol i lt, by rw [q]; exact h.put hD s⟩) (fun H4 s q => by rw [q]; exact h.stay s)
theorem lc_outT {vals : Nat → List V} {n : Nat} (hD : H1 D = none) (o0 : out 0 = []) (ol : ∀ i, i < n → (out i).length < sizeLine)
    (hs : ∀ i T H (Kc : V → Hp → Prop) (K0 : Hp → Prop), i < n → Same H1 H → H T = some (.tup (vals i)) → (∀ y H4, Same H H4 → out (i + 1) = out i ++ [y] → Kc y H4) → (∀ H4, Same H H4 → out (i + 1) = out i → K0 H4) →
      g (.ref T) (wipe σ vs) H fun σ2 H2 => wipe σ2 vs = wipe σ vs ∧ tt σ2 H2 fun b H3 => if b = true then te σ2 H3 Kc else K0 H3)
    (hd : ∀ H, Same H1 H → H D = some (.lst (out n)) → Qd H) :
    ∃ W : Nat → Nat → Hp → Prop, (∃ m, W 0 m (upd H1 D (.lst []))) ∧ ∀ i m H, W i m H →
      ((ItT vals n).stop i H ∧ Qd H) ∨ ((ItT vals n).go i H ∧ ∃ Nx : Hp → Prop, (∀ H', Nx H' → ∃ m', m' < m ∧ W (i + 1) m' H') ∧ ∀ x H', (ItT vals n).yld i H x H' → g x (wipe σ vs) H' fun σ2 H2 => wipe σ2 vs = wipe σ vs ∧ tt σ2 H2 fun b H3 =>
        if b = true then te σ2 H3 fun y H4 => ∃ acc, H4 D = some (.lst acc) ∧ acc.length < sizeLine ∧ Nx (upd H4 D (.lst (acc ++ [y]))) else Nx H3) := by
  refine lc_T (fun i H => OutI H1 D (out i) H) (by rw [o0]; exact OutI.start hD) (fun i T H lt h hT => ?_) (fun H h => hd H h.1 h.2)
  have s0 : Same H (upd H T (.tup (vals i))) := smN (Same.refl _) hT
  exact hs i T _ _ _ lt (h.1.trans s0) upd_same (fun y H4 s q => ⟨out i, (h.stay (s0.trans s)).2, ol i lt, by rw [q]; exact h.put hD (s0.trans s)⟩) (fun H4 s q => by rw [q]; exact h.stay (s0.trans s))
theorem lc_outR {lo : Int} {n : Nat} (hD : H1 D = none) (o0 : out 0 = []) (ol : ∀ i, i < n → (out i).length < sizeLine)
    (hs : ∀ i H (Kc : V → Hp → Prop) (K0 : Hp → Prop), i < n → Same H1 H → (∀ y H4, Same H H4 → out (i + 1) = out i ++ [y] → Kc y H4) → (∀ H4, Same H H4 → out (i + 1) = out i → K0 H4) →
      g (.int (lo + i)) (wipe σ vs) H fun σ2 H2 => wipe σ2 vs = wipe σ vs ∧ tt σ2 H2 fun b H3 => if b = true then te σ2 H3 Kc else K0 H3)
    (hd : ∀ H, Same H1 H → H D = some (.lst (out n)) → Qd H) :
    ∃ W : Nat → Nat → Hp → Prop, (∃ m, W 0 m (upd H1 D (.lst []))) ∧ ∀ i m H, W i m H →
      ((Itr lo n).stop i H ∧ Qd H) ∨ ((Itr lo n).go i H ∧ ∃ Nx : Hp → Prop, (∀ H', Nx H' → ∃ m', m' < m ∧ W (i + 1) m' H') ∧ ∀ x H', (Itr lo n).yld i H x H' → g x (wipe σ vs) H' fun σ2 H2 => wipe σ2 vs = wipe σ vs ∧ tt σ2 H2 fun b H3 =>
        if b = true then te σ2 H3 fun y H4 => ∃ acc, H4 D = some (.lst acc) ∧ acc.length < sizeLine ∧ Nx (upd H4 D (.lst (acc ++ [y]))) else Nx H3) := by
  refine lc_range (fun i H => OutI H1 D (out i) H) (by rw [o0]; exact OutI.start hD) (fun i H lt h => ?_) (fun H h => hd H h.1 h.2)
  exact hs i H _ _ lt h.1 (fun y H4 s q => ⟨out i, (h.stay s).2, ol i lt, by rw [q]; exact h.put hD s⟩) (fun H4 s q => by rw [q]; exact h.stay s)
end
theorem iteNo {A B : Prop} (h : B) : if false = true then A else B := by
  rw [if_neg Bool.false_ne_true]
  exact h
theorem yes1 {A B : Hp → Prop} {σ : L2.St} {H : Hp} (h : A H) : tYes σ H (fun b H3 => if b = true then A H3 else B H3) := by
  show (if true = true then A H else B H)
  rw [if_pos rfl]
  exact h
/-- the list so far, item by item -/
def outM (f : Nat → V) (i : Nat) : List V := (List.range i).map f
theorem outM_0 {f : Nat → V} : outM f 0 = [] := rfl
theorem outM_s {f : Nat → V} {i : Nat} : outM f (i + 1) = outM f i ++ [f i] := by unfold outM; rw [List.range_succ, List.map_append]; rfl
theorem outM_l {f : Nat → V} {i : Nat} : (outM f i).length = i := by unfold outM; simp
/-- .. of those that are kept -/
def outF (p : Nat → Bool) (f : Nat → V) (i : Nat) : List V := ((List.range i).filter p).map f
theorem outF_0 {p : Nat → Bool} {f : Nat → V} : outF p f 0 = [] := rfl
theorem outF_t {p : Nat → Bool} {f : Nat → V} {i : Nat} (h : p i = true) : outF p f (i + 1) = outF p f i ++ [f i] := by unfold outF; rw [List.range_succ, List.filter_append, List.map_append]; simp [h]
theorem outF_f {p : Nat → Bool} {f : Nat → V} {i : Nat} (h : p i = false) : outF p f (i + 1) = outF p f i := by unfold outF; rw [List.range_succ, List.filter_append, List.map_append]; simp [h]
theorem outF_l {p : Nat → Bool} {f : Nat → V} {i : Nat} : (outF p f i).length ≤ i := by
  unfold outF
  rw [List.length_map]
  exact Nat.le_trans (List.length_filter_le _ _) (by simp)
end Fb
set_option maxRecDepth 100000
set_option maxHeartbeats 4000000
namespace Fb
open PySem PySem.Spec PyProof.Rows L2
/-! flat data -/
def numD (ns : List Nat) : List PyData := ns.map fun n => .int (n : Nat)
def nums (ns : List Nat) : List V := ns.map fun n => V.int (n : Nat)
def boolD (bs : List Bool) : List PyData := bs.map .bool
def bools (bs : List Bool) : List V := bs.map V.bl
section
variable {K : PySem.W.Frag} {H : Hp}
theorem dp_nums : ∀ ns : List Nat, DpAll K H (nums ns) (numD ns)
  | [] => .nil
  | n :: ns => .cons (.int _) (dp_nums ns)
theorem dp_bls : ∀ bs : List Bool, DpAll K H (bools bs) (boolD bs)
  | [] => .nil
  | b :: bs => .cons (.bl b) (dp_bls bs)
end
theorem lay_nums : ∀ ns : List Nat, PyData.canLayAll0 (numD ns) = true ∧ PyData.depthAll (numD ns) = 0
  | [] => ⟨rfl, rfl⟩
  | n :: ns => by
    obtain ⟨h1, h2⟩ := lay_nums ns
    unfold numD at *
    rw [List.map_cons]
    constructor
    · rw [PyData.canLayAll0, h1] <;> rfl
    · rw [PyData.depthAll, h2] <;> rfl
theorem lay_bools : ∀ ns : List Bool, PyData.canLayAll0 (boolD ns) = true ∧ PyData.depthAll (boolD ns) = 0
  | [] => ⟨rfl, rfl⟩
  | n :: ns => by
    obtain ⟨h1, h2⟩ := lay_bools ns
    unfold boolD at *
    rw [List.map_cons]
    constructor
    · rw [PyData.canLayAll0, h1] <;> rfl
    · rw [PyData.depthAll, h2] <;> rfl
theorem shaped_tup {ds : List PyData} (h : PyData.canLayAll0 ds = true ∧ PyData.depthAll ds = 0) : SeqAt.shaped (.tuple ds) = true := by
  unfold SeqAt.shaped
  rw [PyData.canLay0, PyData.depth, h.1, h.2]
  rfl
theorem shaped_lst {ds : List PyData} (h : PyData.canLayAll0 ds = true ∧ PyData.depthAll ds = 0) : SeqAt.shaped (.list ds) = true := by
  unfold SeqAt.shaped
  rw [PyData.canLay0, PyData.depth, h.1, h.2]
  rfl
theorem eqv_nums : ∀ ns ms : List Nat, PyData.eqvAll (numD ns) (numD ms) = decide (ns = ms)
  | [], [] => by simp [numD, PyData.eqvAll]
  | [], _ :: _ => by simp [numD, PyData.eqvAll]
  | _ :: _, [] => by simp [numD, PyData.eqvAll]
  | n :: ns, m :: ms => by
    have h := eqv_nums ns ms
    unfold numD at *
    rw [List.map_cons, List.map_cons, PyData.eqvAll, h, PyData.eqv]
    by_cases e : n = m
    · subst e
      simp
    · have e2 : ¬ ((n : Int) = (m : Int)) := by omega
      simp [e, e2]
theorem eqv_numT (ns ms : List Nat) : PyData.eqv (.tuple (numD ns)) (.tuple (numD ms)) = decide (ns = ms) := by rw [PyData.eqv, eqv_nums]
theorem eqv_numL (ns ms : List Nat) : PyData.eqv (.list (numD ns)) (.list (numD ms)) = decide (ns = ms) := by rw [PyData.eqv, eqv_nums]
mutual
theorem dp_same {K : PySem.W.Frag} {H H' : Hp} (s : Same H H') : ∀ (d : PyData) {v : V}, Dp K H v d → Dp K H' v d
  | _, _, .non => .non
  | _, _, .bl b => .bl b
  | _, _, .int i => .int i
  | _, _, .str x => .str x
  | .list ds, _, .lst h a => .lst (s.seq h) (dp_sameAll s ds a)
  | .tuple ds, _, .tup h a => .tup (by
      rcases h with (h | ⟨o, h⟩) | h
      · exact .inl (.inl (s _ _ h))
      · exact .inl (.inr ⟨o, s _ _ h⟩)
      · exact .inr h) (dp_sameAll s ds a)
theorem dp_sameAll {K : PySem.W.Frag} {H H' : Hp} (s : Same H H') : ∀ (ds : List PyData) {vs : List V}, DpAll K H vs ds → DpAll K H' vs ds
  | _, _, .nil => .nil
  | d :: ds, _, .cons h t => .cons (dp_same s d h) (dp_sameAll s ds t)
end
theorem sqT_same {K : PySem.W.Frag} {H H' : Hp} (s : Same H H') {a : Addr} {xs : List V} (h : SqT K H a xs) : SqT K H' a xs := by
  rcases h with (h | ⟨o, h⟩) | h
  · exact .inl (.inl (s _ _ h))
  · exact .inl (.inr ⟨o, s _ _ h⟩)
  · exact .inr h
theorem outM_all {ys : List V} {f : Nat → V} {n : Nat} (hn : n = ys.length) (h : ∀ i, i < n → ys[i]? = some (f i)) : outM f n = ys := by
  subst hn
  unfold outM
  refine List.ext_getElem? fun i => ?_
  by_cases hi : i < ys.length
  · rw [List.getElem?_map, List.getElem?_range hi, h i hi] <;> rfl
  · rw [List.getElem?_eq_none (by simpa using hi), List.getElem?_eq_none (by omega)]
/-- one sign is at most another -/
theorem sign_lt (a b : Nat) : (([b] : List Nat) < [a]) ↔ b < a := by
  rw [List.cons_lt_cons_iff]
  simp
theorem sign_le (a b : Nat) : (!decide (([b] : List Nat) < [a])) = decide (a ≤ b) := by
  by_cases h : b < a
  · rw [decide_eq_true ((sign_lt a b).mpr h), decide_eq_false (by omega)] <;> rfl
  · rw [decide_eq_false (fun z => h ((sign_lt a b).mp z)), decide_eq_true (by omega)] <;> rfl
/-! within a comprehension: readings that name the written part by itself -/
section
variable {X : Cx} {o e : Expr} {es : List Expr} {to : TE} {t : TA} {apos cpos : Pos} {K : PySem.W.Frag}
def rJn (K : PySem.W.Frag) : V → List V → Hp → VK → Prop := fun x xs H Q => ∃ a p, ∃ ys : List Str, x = .str a ∧ xs = [.ref p] ∧ (SqL K H p (ys.map V.str) ∨ SqT K H p (ys.map V.str)) ∧
    (ys.map (·.length)).sum + ys.length * a.length ≤ 16777216 ∧ Q (.str (Txt.join a ys)) H
theorem pe_joinK (hK : X.K = K) (ho : PE X o to) (ha : PA X (e :: es) t)
    (hbase : attributeBase o "join" X.env (eval o X.env) = eval o X.env := by rfl)
    (hfew : ((backTo cpos (starEach (e :: es) X.env)).all (fun x => !x.1) && (backToKw cpos (keywordEach [] X.env)).all (fun x => x.1.isSome)
      && decide ((e :: es).length + ([] : List Keyword).length + (if ([] : List Keyword).isEmpty then 0 else 1) < 30)) = true := by rfl)
    (hline : (apos.endLine == cpos.line) = true := by rfl) (hs : starEach (e :: es) X.env = (false, eval e X.env) :: starEach es X.env := by rfl) (hplain : (backTo cpos (starEach es X.env)).any (·.1) = false := by rfl) :
    PE X (.Call (.Attribute o "join" apos) (e :: es) [] cpos) (tBM K "str" (rJn K) to t) := by
  subst hK
  exact pe_bm PySem.F.plainAttrs_str PySem.F.slot_str_join PySem.F.type_str_join mt_join ho ha hbase hfew hline hs hplain
end
end Fb
set_option maxRecDepth 100000
set_option maxHeartbeats 4000000
namespace Fb
open PySem PySem.Spec PyProof.Rows L2
open SX (S)
/-! what the laws' own drawing defs need -/
/-- all but p is as it was -/
def But (p : Addr) (H H' : Hp) : Prop := ∀ c o, c ≠ p → H c = some o → H' c = some o
section
variable {H H1 H2 : Hp} {p : Addr}
theorem But.refl : But p H H := fun _ _ _ h => h
theorem But.trans (a : But p H H1) (b : But p H1 H2) : But p H H2 := fun c o n h => b c o n (a c o n h)
theorem But.of (s : Same H H1) : But p H H1 := fun c o _ h => s c o h
theorem But.took (k : ∀ c, c ≠ p → H1 c = H c) : But p H H1 := fun c o n h => by rw [k c n]; exact h
theorem But.new {q : Addr} {o : HO} (b : But p H H1) (h : H1 q = none) : But p H (upd H1 q o) := fun c u n e => by
  have e1 := b c u n e
  rw [upd_ne (ne_of_none e1 h)]
  exact e1
/-- a list that is not tracked at the start is stored to -/
theorem But.put {q : Addr} {o : HO} (b : But p H H1) (h : H q = none) : But p H (upd H1 q o) := fun c u n e => by
  rw [upd_ne (ne_of_none e h)]
  exact b c u n e
theorem PenL.new {l : Addr} {n : Nat} {q : Addr} {o : HO} (h : PenL H p l n) (hq : H q = none) : PenL (upd H q o) p l n := h.same (smN (Same.refl _) hq)
theorem PenL.put {l : Addr} {n : Nat} {q : Addr} {o : HO} (h : PenL H p l n) (n1 : p ≠ q) (n2 : l ≠ q) : PenL (upd H q o) p l n := by
  obtain ⟨cs, a, r, f, e, e2, h3⟩ := h
  exact ⟨cs, a, r, f, by rw [upd_ne n1]; exact e, by rw [upd_ne n2]; exact e2, h3⟩
theorem PenL.nep {l : Addr} {n : Nat} {q : Addr} (h : PenL H p l n) (hq : H q = none) : p ≠ q := by
  obtain ⟨cs, a, r, f, e, e2, h3⟩ := h
  exact ne_of_none e hq
theorem PenL.nel {l : Addr} {n : Nat} {q : Addr} (h : PenL H p l n) (hq : H q = none) : l ≠ q := by
  obtain ⟨cs, a, r, f, e, e2, h3⟩ := h
  exact ne_of_none e2 hq
end
/-! a walk over a text -/
theorem for_S {l : List Nat} {g : TG} {tb : TS} {D : Ends} {σ : L2.St} {H : Hp} (Pv : Nat → L2.St → Hp → Prop) (h0 : Pv 0 σ H)
    (hs : ∀ i c σ H, l[i]? = some c → Pv i σ H → g (.str (S [c])) σ H fun σ2 H2 => tb { D with nx := Pv (i + 1), ct := Pv (i + 1), bk := D.nx } σ2 H2) (hd : ∀ σ H, Pv l.length σ H → D.nx σ H) :
    ∃ W : Nat → Nat → L2.St → Hp → Prop, (∃ m, W 0 m σ H) ∧ ∀ i m σ H, W i m σ H →
      ((Its (S l)).stop i H ∧ D.nx σ H) ∨ ((Its (S l)).go i H ∧ ∃ N : L2.St → Hp → Prop, (∀ σ' H', N σ' H' → ∃ m', m' < m ∧ W (i + 1) m' σ' H') ∧ ∀ x H', (Its (S l)).yld i H x H' → g x σ H' fun σ2 H2 => tb { D with nx := N, ct := N, bk := D.nx } σ2 H2) := by
  have hz : (S l).cps.size = l.length := by simp [S]
  refine ⟨fun i m σ H => i + m = l.length ∧ Pv i σ H, ⟨l.length, by omega, h0⟩, fun i m σ H ⟨hm, p⟩ => ?_⟩
  by_cases lt : i < l.length
  · refine Or.inr ⟨by show i < (S l).cps.size; omega, Pv (i + 1), fun σ' H' p' => ⟨m - 1, by omega, by omega, p'⟩, ?_⟩
    rintro x H' ⟨eH, c, hc, rfl⟩
    subst eH
    have e : l[i]? = some c := by simpa [S] using hc
    exact hs i c σ _ e p
  · obtain rfl : i = l.length := by omega
    exact Or.inl ⟨by show (S l).cps.size ≤ _; omega, hd σ H p⟩
/-! mathematics of drawn patterns -/
theorem Al.snoc : ∀ {l m : List Nat} {a b : Nat}, Al l m → AlS a b → Al (l ++ [a]) (m ++ [b])
  | _, _, _, _, .nil, r => .cons r .nil
  | _, _, _, _, .cons r t, q => .cons r (Al.snoc t q)
theorem take_s {l : List Nat} {i c : Nat} (h : l[i]? = some c) : l.take (i + 1) = l.take i ++ [c] := by
  rw [List.take_add_one, h] <;> rfl
theorem Al.at : ∀ {l m : List Nat} {i a : Nat}, Al l m → l[i]? = some a → ∃ b, m[i]? = some b ∧ AlS a b
  | _, _, _, _, .nil, e => by simp at e
  | _, _, 0, _, .cons r _, e => by simp at e; subst e; exact ⟨_, rfl, r⟩
  | _, _, i + 1, _, .cons _ t, e => by
    obtain ⟨b, h1, h2⟩ := Al.at (i := i) t (by simpa using e)
    exact ⟨b, by simpa using h1, h2⟩
theorem zw_take {f : Nat → Nat → Nat} {l m : List Nat} {i a b : Nat} (h1 : l[i]? = some a) (h2 : m[i]? = some b) : zw f (l.take (i + 1)) (m.take (i + 1)) = zw f (l.take i) (m.take i) ++ [f a b] := by
  rw [take_s h1, take_s h2]
  unfold zw
  have hl : i < l.length := (List.getElem?_eq_some_iff.mp h1).1
  have hm : i < m.length := (List.getElem?_eq_some_iff.mp h2).1
  rw [List.zipWith_append (by rw [List.length_take, List.length_take]; omega)]
  rfl
theorem sg_join : ∀ {bs : List (List Nat)}, (∀ b ∈ bs, ∀ c ∈ b, c = 48 ∨ c = 49) → Sg (TL.joinL [46] bs)
  | [], _ => fun c hc => by simp [TL.joinL] at hc
  | [b], h => fun c hc => by
    have := h b (by simp) c (by simpa [TL.joinL] using hc)
    omega
  | b :: d :: r, h => fun c hc => by
    have hc' : c ∈ b ++ ([46] ++ TL.joinL [46] (d :: r)) := hc
    rw [List.mem_append, List.mem_append] at hc'
    rcases hc' with q | q | q
    · have := h b List.mem_cons_self c q
      omega
    · have := List.mem_singleton.mp q
      omega
    · exact sg_join (fun x hx => h x (List.mem_cons_of_mem _ hx)) c q
theorem szs_join {bs : List (List Nat)} (hne : bs ≠ []) (h : ∀ b ∈ bs, ∀ c ∈ b, c = 48 ∨ c = 49) : szs (TL.joinL [46] bs) = bs.map List.length := by
  have e := spl_len (TL.joinL [46] bs) []
  rw [SX.spl_join hne (fun p hp hm => by have := h p hp 46 hm; omega)] at e
  exact e.symm
theorem isP_of {l ss : List Nat} {M : Nat} (hs : Sg l) (hz : szs l = ss) (h3 : ss.length ≤ 3) (h1 : ∀ s ∈ ss, 1 ≤ s ∧ s ≤ M) (hM : M ≤ 40) : IsP l := by
  refine ⟨hs, by rw [hz]; exact fun n hn => (h1 n hn).1, by rw [hz]; exact h3, ?_⟩
  have e := szA_sum l 0
  have e2 : (szA 0 l) = ss := hz
  rw [e2] at e
  have : ss.sum ≤ ss.length * M := by
    clear e e2 hz h3
    induction ss with
    | nil => simp
    | cons s ss ih =>
      have := ih fun x hx => h1 x (List.mem_cons_of_mem _ hx)
      have h2 := (h1 s List.mem_cons_self).2
      rw [List.sum_cons, List.length_cons, Nat.succ_mul]
      omega
  have h5 : ss.length * M ≤ 3 * 40 := Nat.mul_le_mul h3 hM
  omega
/-- no bit stands in the one and has fallen in the other -/
def upP (l m : List Nat) (k : Nat) : Bool := decide (l.getD k 0 = 49) && decide (m.getD k 0 = 48)
theorem below_nil : ∀ {l m : List Nat}, Al l m → below l m = decide ((List.range l.length).filter (upP l m) = [])
  | [], [], .nil => rfl
  | a :: l, b :: m, .cons r t => by
    have ih := below_nil t
    have e1 : below (a :: l) (b :: m) = (decide (a ≤ b) && below l m) := rfl
    have e2 : (List.range (a :: l).length).filter (upP (a :: l) (b :: m)) = (if upP (a :: l) (b :: m) 0 = true then [0] else []) ++ ((List.range l.length).filter (upP l m)).map (· + 1) := by
      rw [List.length_cons, List.range_succ_eq_map, List.filter_cons]
      have : (List.map Nat.succ (List.range l.length)).filter (upP (a :: l) (b :: m)) = ((List.range l.length).filter (upP l m)).map (· + 1) := by
        rw [List.filter_map]
        have hf : (upP (a :: l) (b :: m) ∘ Nat.succ) = upP l m := by
          funext k
          simp [upP]
        rw [hf]
      split <;> simp [this]
    rw [e1, ih, e2]
    have u : upP (a :: l) (b :: m) 0 = (decide (a = 49) && decide (b = 48)) := by simp [upP]
    rw [u]
    by_cases h : a ≤ b
    · have : (decide (a = 49) && decide (b = 48)) = false := by
        by_cases q : a = 49
        · have : ¬ b = 48 := by omega
          simp [this]
        · simp [q]
      rw [this]
      simp [h]
    · have : (decide (a = 49) && decide (b = 48)) = true := by
        have h1 : a = 49 ∧ b = 48 := by unfold AlS at r; omega
        simp [h1.1, h1.2]
      rw [this]
      simp [h]
/-- the sign where so many of the two stand -/
def fC (cs : List Nat) (a b : Nat) : Nat := if a = 46 then 46 else if (if a = 49 then 1 else 0) + (if b = 49 then 1 else 0) ∈ cs then 49 else 48
theorem zw_congr {f g : Nat → Nat → Nat} (h : ∀ a b, AlS a b → f a b = g a b) : ∀ {l m : List Nat}, Al l m → zw f l m = zw g l m
  | _, _, .nil => rfl
  | _, _, .cons r t => by
    show f _ _ :: zw f _ _ = g _ _ :: zw g _ _
    rw [h _ _ r, zw_congr h t]
theorem fC_and (a b : Nat) (h : AlS a b) : fC [2] a b = fAnd a b := by
  unfold fC fAnd
  rcases h with ⟨rfl, rfl⟩ | ⟨h1, h2⟩
  · rfl
  · rcases h1 with rfl | rfl <;> rcases h2 with rfl | rfl <;> decide
theorem fC_or (a b : Nat) (h : AlS a b) : fC [1, 2] a b = fOr a b := by
  unfold fC fOr
  rcases h with ⟨rfl, rfl⟩ | ⟨h1, h2⟩
  · rfl
  · rcases h1 with rfl | rfl <;> rcases h2 with rfl | rfl <;> decide
theorem fC_xor (a b : Nat) (h : AlS a b) : fC [1] a b = fXor a b := by
  unfold fC fXor
  rcases h with ⟨rfl, rfl⟩ | ⟨h1, h2⟩
  · rfl
  · rcases h1 with rfl | rfl <;> rcases h2 with rfl | rfl <;> decide
theorem inV_nums (j : Nat) : ∀ cs : List Nat, inV (.int (j : Nat)) (nums cs) = decide (j ∈ cs)
  | [] => by simp [inV, nums]
  | c :: cs => by
    have ih := inV_nums j cs
    unfold inV nums at *
    rw [List.map_cons, List.any_cons, ih]
    show ((c : Int) == (j : Int) || _) = _
    by_cases h : j = c
    · subst h; simp
    · have h2 : ¬ ((c : Int) = (j : Int)) := by omega
      have h3 : ((c : Int) == (j : Int)) = false := by simpa using h2
      rw [h3]
      simp [h]
theorem flat_nums : ∀ cs : List Nat, (nums cs).all flatV = true
  | [] => rfl
  | c :: cs => by
    unfold nums
    rw [List.map_cons, List.all_cons]
    exact flat_nums cs
theorem sum_signs (xs : List Nat) : (xs.map ((fun w : Str => w.length) ∘ fun c => S [c])).sum = xs.length := by
  induction xs with
  | nil => rfl
  | cons c xs ih => rw [List.map_cons, List.sum_cons, ih, List.length_cons, Nat.add_comm]; rfl
theorem zw_and_or : ∀ {l m : List Nat}, Al l m → zw fOr (zw fAnd l m) l = l
  | _, _, .nil => rfl
  | a :: l, b :: m, .cons r t => by
    show fOr (fAnd a b) a :: zw fOr (zw fAnd l m) l = a :: l
    rw [zw_and_or t]
    have e : fOr (fAnd a b) a = a := by
      unfold fOr fAnd
      rcases r with ⟨rfl, rfl⟩ | ⟨h1, h2⟩
      · rfl
      · rcases h1 with rfl | rfl <;> rcases h2 with rfl | rfl <;> decide
    rw [e]
/-! patterns of other sizes -/
def filt (l : List Nat) : List Nat := l.filter (fun c => c != 46)
theorem filt_sg {l : List Nat} (h : Sg l) : ∀ c ∈ filt l, c = 48 ∨ c = 49 := fun c hc => by
  unfold filt at hc
  rw [List.mem_filter] at hc
  have := h c hc.1
  have h2 : ¬ c = 46 := by simpa using hc.2
  omega
theorem filt_len (l : List Nat) : (filt l).length = nb l := rfl
theorem szA_plain : ∀ (f : List Nat) (n : Nat), (∀ c ∈ f, c = 48 ∨ c = 49) → szA n f = [n + f.length]
  | [], n, _ => rfl
  | c :: f, n, h => by
    have hc := h c List.mem_cons_self
    unfold szA
    rw [if_neg (by omega), szA_plain f (n + 1) (fun d hd => h d (List.mem_cons_of_mem _ hd)), List.length_cons]
    congr 1
    omega
theorem szA_cut : ∀ (f r : List Nat) (n : Nat), (∀ c ∈ f, c = 48 ∨ c = 49) → szA n (f ++ 46 :: r) = (n + f.length) :: szA 0 r
  | [], r, n, _ => by
    show (if 46 = 46 then _ else _) = _
    rw [if_pos rfl]
    rfl
  | c :: f, r, n, h => by
    have hc := h c List.mem_cons_self
    show (if c = 46 then _ else szA (n + 1) (f ++ 46 :: r)) = _
    rw [if_neg (by omega), szA_cut f r (n + 1) (fun d hd => h d (List.mem_cons_of_mem _ hd)), List.length_cons]
    congr 1
    omega
theorem szA_more : ∀ (l : List Nat) (n : Nat), (szA n (l ++ [49])).length = (szA n l).length ∧ ((∀ s ∈ szA n l, 1 ≤ s) → ∀ s ∈ szA n (l ++ [49]), 1 ≤ s)
  | [], n => by
    refine ⟨rfl, fun _ s hs => ?_⟩
    have : s = n + 1 := by simpa [szA] using hs
    omega
  | c :: l, n => by
    by_cases h : c = 46
    · have e1 : szA n (c :: (l ++ [49])) = n :: szA 0 (l ++ [49]) := by show (if c = 46 then _ else _) = _; rw [if_pos h]
      have e2 : szA n (c :: l) = n :: szA 0 l := by show (if c = 46 then _ else _) = _; rw [if_pos h]
      obtain ⟨h1, h2⟩ := szA_more l 0
      rw [List.cons_append, e1, e2]
      refine ⟨by rw [List.length_cons, List.length_cons, h1], fun hh s hs => ?_⟩
      rcases List.mem_cons.mp hs with e | e
      · exact hh s (e ▸ List.mem_cons_self)
      · exact h2 (fun t ht => hh t (List.mem_cons_of_mem _ ht)) s e
    · have e1 : szA n (c :: (l ++ [49])) = szA (n + 1) (l ++ [49]) := by show (if c = 46 then _ else _) = _; rw [if_neg h]
      have e2 : szA n (c :: l) = szA (n + 1) l := by show (if c = 46 then _ else _) = _; rw [if_neg h]
      rw [List.cons_append, e1, e2]
      exact szA_more l (n + 1)
theorem nb_pos {x : List Nat} (h : IsP x) : 1 ≤ nb x := by
  have e := szA_sum x 0
  obtain ⟨a, r, e2, _⟩ := szA_head x 0
  have := h.one a (by unfold szs; rw [e2]; exact List.mem_cons_self)
  rw [e2, List.sum_cons] at e
  omega
theorem isP_far1 {x : List Nat} (h : IsP x) (hn : nb x ≤ 100) : IsP (x ++ [49]) := by
  obtain ⟨h1, h2⟩ := szA_more x 0
  refine ⟨fun c hc => ?_, h2 h.one, by have := h.few; unfold szs at *; omega, ?_⟩
  · rcases List.mem_append.mp hc with e | e
    · exact h.sg c e
    · have := List.mem_singleton.mp e
      omega
  · unfold nb
    rw [List.filter_append, List.length_append]
    unfold nb at hn
    simp
    omega
theorem isP_far2 {x : List Nat} (h : IsP x) (hn : nb x ≤ 100) : IsP (filt x ++ [46, 49]) := by
  have p := nb_pos h
  have hs := filt_sg h.sg
  have e : szs (filt x ++ [46, 49]) = [nb x, 1] := by
    show szA 0 (filt x ++ 46 :: [49]) = _
    rw [szA_cut _ _ _ hs, Nat.zero_add, filt_len]
    rfl
  refine ⟨fun c hc => ?_, by rw [e]; intro n hn; simp at hn; omega, by rw [e]; simp, ?_⟩
  · rcases List.mem_append.mp hc with q | q
    · have := hs c q
      omega
    · simp at q
      omega
  · have s := szA_sum (filt x ++ [46, 49]) 0
    have e2 : szA 0 (filt x ++ [46, 49]) = [nb x, 1] := e
    rw [e2] at s
    simp at s
    omega
theorem isP_far3 {x : List Nat} (h : IsP x) : IsP ([49, 46] ++ filt (x.take 20)) := by
  have hsg : Sg (x.take 20) := fun c hc => h.sg c (List.mem_of_mem_take hc)
  have hs := filt_sg hsg
  have e : szs ([49, 46] ++ filt (x.take 20)) = [1, (filt (x.take 20)).length] := by
    show szA 0 ([49] ++ 46 :: filt (x.take 20)) = _
    rw [szA_cut [49] _ _ (by simp), szA_plain _ _ hs, Nat.zero_add, Nat.zero_add]
    rfl
  have le : (filt (x.take 20)).length ≤ 20 := by
    unfold filt
    have := List.length_filter_le (fun c => c != 46) (x.take 20)
    have h2 : (x.take 20).length ≤ 20 := by rw [List.length_take]; omega
    omega
  have pos : 1 ≤ (filt (x.take 20)).length := by
    cases x with
    | nil => have := nb_pos h; simp [nb] at this
    | cons c r =>
      have hc : ¬ c = 46 := fun q => by
        have := h.one 0 (by
          unfold szs
          show 0 ∈ (if c = 46 then _ else _)
          rw [if_pos q]
          exact List.mem_cons_self)
        omega
      unfold filt
      rw [List.take_succ_cons, List.filter_cons_of_pos (by simpa using hc), List.length_cons]
      omega
  refine ⟨fun c hc => ?_, by rw [e]; intro n hn; simp at hn; omega, by rw [e]; simp, ?_⟩
  · rcases List.mem_append.mp hc with q | q
    · simp at q
      omega
    · have := hs c q
      omega
  · have s := szA_sum ([49, 46] ++ filt (x.take 20)) 0
    have e2 : szA 0 ([49, 46] ++ filt (x.take 20)) = [1, (filt (x.take 20)).length] := e
    rw [e2, List.sum_cons, List.sum_cons, List.sum_nil] at s
    omega
theorem isP_many : IsP (List.replicate 100 49) ∧ szs (List.replicate 100 49) = [100] := by
  have e : szs (List.replicate 100 49) = [100] := by decide +kernel
  refine ⟨⟨fun c hc => .inr (.inl (List.eq_of_mem_replicate hc)), by rw [e]; decide, by rw [e]; decide, by decide +kernel⟩, e⟩
theorem nb_of {x ss : List Nat} {M : Nat} (hz : szs x = ss) (h3 : ss.length ≤ 3) (h1 : ∀ s ∈ ss, s ≤ M) : nb x ≤ 3 * M := by
  have e := szA_sum x 0
  have e2 : szA 0 x = ss := hz
  rw [e2] at e
  have : ss.sum ≤ ss.length * M := by
    clear e e2 hz h3
    induction ss with
    | nil => simp
    | cons s ss ih =>
      have := ih fun x hx => h1 x (List.mem_cons_of_mem _ hx)
      have h2 := h1 s List.mem_cons_self
      rw [List.sum_cons, List.length_cons, Nat.succ_mul]
      omega
  have h5 : ss.length * M ≤ 3 * M := Nat.mul_le_mul_right _ h3
  omega
theorem cut20 (x : List Nat) : cutS (S x) none (some 20) = S (x.take 20) := by
  unfold cutS
  have e : (S x).cps.toList = x := rfl
  have e2 : (S x).length = x.length := SX.S_len x
  rw [e, e2]
  show S _ = S _
  congr 1
  show (x.drop 0).take (min 20 x.length - 0) = x.take 20
  rw [List.drop_zero, Nat.sub_zero]
  by_cases h : x.length ≤ 20
  · rw [List.take_of_length_le (show x.length ≤ min 20 x.length by omega), List.take_of_length_le h]
  · rw [show min 20 x.length = 20 by omega]
end Fb
set_option maxRecDepth 100000
set_option maxHeartbeats 4000000
namespace Fb
open PySem PySem.Spec PyProof.Rows L2
/-! [.. for x in a list for y in a tuple] -/
theorem pi_tupK {X : Cx} {tg l : Expr} {tl : TE} {K : PySem.W.Frag} (hK : X.K = K) (hl : PE X l tl) : PI X tg l (iTup K tl) := by
  subst hK
  exact pi_tup hl
section
variable {K : PySem.W.Frag} {a b D : Addr} {xs ys : List V} {σ : L2.St} {H1 : Hp} {te : TE} {vs vs1 : List Nat} {i1 j1 s1 : Nat} {Qd : Hp → Prop}
theorem lc2_names (Pv : Nat → Nat → Hp → Prop) (h0 : Pv 0 0 (upd H1 D (.lst []))) (hl : ∀ i j H, Pv i j H → SqL K H a xs ∧ SqT K H b ys)
    (hs1 : ∀ x, ((wipe σ vs).set i1 (some x))[s1]? = some (some (.ref b))) (hw : ∀ x, wipe ((wipe σ vs).set i1 (some x)) vs = wipe σ vs)
    (hw1 : ∀ x y, wipe ((wipe ((wipe σ vs).set i1 (some x)) vs1).set j1 (some y)) vs1 = wipe ((wipe σ vs).set i1 (some x)) vs1)
    (step : ∀ i j x y H, xs[i]? = some x → ys[j]? = some y → Pv i j H → te ((wipe ((wipe σ vs).set i1 (some x)) vs1).set j1 (some y)) H fun v H7 => ∃ acc, H7 D = some (.lst acc) ∧ acc.length < sizeLine ∧ Pv i (j + 1) (upd H7 D (.lst (acc ++ [v]))))
    (next : ∀ i H, i < xs.length → Pv i ys.length H → Pv (i + 1) 0 H) (hd : ∀ H, Pv xs.length 0 H → Qd H) :
    ∃ W : Nat → Nat → Hp → Prop, (∃ m, W 0 m (upd H1 D (.lst []))) ∧ ∀ i m H, W i m H →
      ((Itl K a).stop i H ∧ Qd H) ∨ ((Itl K a).go i H ∧ ∃ Nx : Hp → Prop, (∀ H', Nx H' → ∃ m', m' < m ∧ W (i + 1) m' H') ∧ ∀ x H', (Itl K a).yld i H x H' → gName i1 x (wipe σ vs) H' fun σ2 H2 => wipe σ2 vs = wipe σ vs ∧ tYes σ2 H2 fun bb H3 =>
        if bb = true then iTup K (tVar s1) σ2 H3 fun J1 H4 => ∃ W1 : Nat → Nat → Hp → Prop, (∃ m, W1 0 m H4) ∧ ∀ j k H, W1 j k H →
          (J1.stop j H ∧ Nx H) ∨ (J1.go j H ∧ ∃ Nx1 : Hp → Prop, (∀ H', Nx1 H' → ∃ k', k' < k ∧ W1 (j + 1) k' H') ∧ ∀ x H', J1.yld j H x H' → gName j1 x (wipe σ2 vs1) H' fun σ3 H5 => wipe σ3 vs1 = wipe σ2 vs1 ∧ tYes σ3 H5 fun bb H6 =>
            if bb = true then te σ3 H6 fun y H7 => ∃ acc, H7 D = some (.lst acc) ∧ acc.length < sizeLine ∧ Nx1 (upd H7 D (.lst (acc ++ [y]))) else Nx1 H6)
        else Nx H3) := by
  refine ⟨fun i m H => i + m = xs.length ∧ Pv i 0 H, ⟨xs.length, by omega, h0⟩, fun i m H ⟨hm, p⟩ => ?_⟩
  obtain ⟨q1, q2⟩ := hl i 0 H p
  by_cases lt : i < xs.length
  · have ex : xs[i]? = some xs[i] := List.getElem?_eq_getElem lt
    refine Or.inr ⟨⟨xs, xs[i], q1, ex⟩, Pv (i + 1) 0, fun H' p' => ⟨m - 1, by omega, by omega, p'⟩, ?_⟩
    rintro x H' ⟨eH, y⟩
    subst eH
    have e := y xs q1
    refine ⟨hw x, yes1 ?_⟩
    refine ⟨.ref b, hs1 x, b, rfl, ⟨ys, q2⟩, ?_⟩
    refine ⟨fun j k H => j + k = ys.length ∧ Pv i j H, ⟨ys.length, by omega, p⟩, fun j k H ⟨hk, p⟩ => ?_⟩
    obtain ⟨r1, r2⟩ := hl i j H p
    by_cases lt2 : j < ys.length
    · have ey : ys[j]? = some ys[j] := List.getElem?_eq_getElem lt2
      refine Or.inr ⟨⟨ys, ys[j], r2, ey⟩, Pv i (j + 1), fun H' p' => ⟨k - 1, by omega, by omega, p'⟩, ?_⟩
      rintro y2 H' ⟨eH, y'⟩
      subst eH
      have e2 := y' ys r2
      exact ⟨hw1 x y2, yes1 (step i j x y2 _ e e2 p)⟩
    · obtain rfl : j = ys.length := by omega
      exact Or.inl ⟨⟨ys, r2, Nat.le_refl _⟩, next i H lt p⟩
  · obtain rfl : i = xs.length := by omega
    exact Or.inl ⟨⟨xs, q1, Nat.le_refl _⟩, hd H p⟩
end
/-! a value's fault, as a pattern -/
theorem tyOf_same {K : PySem.W.Frag} {H H' : Hp} (s : Same H H') {x : V} {t : Value} (h : TyOf K H x t) : TyOf K H' x t := by
  cases h with
  | non => exact .non
  | bl x => exact .bl x
  | int i => exact .int i
  | str x => exact .str x
  | flt x => exact .flt x
  | lst e => exact .lst (s _ _ e)
  | frz e => exact .frz (s _ _ e)
  | tup e => exact .tup (s _ _ e)
  | dK e => exact .dK (s _ _ e)
  | dT e => exact .dT (s _ _ e)
  | ins e cl ha hn ht hm => exact .ins (s _ _ e) cl ha hn ht hm
theorem tyX_same {K : PySem.W.Frag} {H H' : Hp} (s : Same H H') {x : V} {t : Value} (h : TyX K H x t) : TyX K H' x t := by
  cases h with
  | base h => exact .base (tyOf_same s h)
  | byt b => exact .byt b
  | set e => exact .set (s _ _ e)
  | kList e c => exact .kList e c
  | kTuple e c => exact .kTuple e c
  | kDict e c => exact .kDict e c
  | fTuple e => exact .fTuple (s _ _ e)
  | fDict e => exact .fDict (s _ _ e)
end Fb
set_option maxRecDepth 100000
set_option maxHeartbeats 4000000
namespace Fb
open PySem PySem.Spec PyProof.Rows L2
/-! caught exceptions that are kept, with their fields; lambdas that are handed on -/
/-- at a: an exception of the class at C that was caught; its fields -/
def XR (H : Hp) (a C : Addr) (fs : List (Str × V)) : Prop := ∃ d, H a = some (ExR (.ref C) (some d) a) ∧ H d = some (.xd fs)
section
variable {X : Cx} {pins : List (Addr × Obj)} {σ : L2.St} {H : Hp} {s : Shared}
theorem XR.inst {a C : Addr} {fs : List (Str × V)} (I : Inv X pins σ H s) (h : XR H a C fs) : ∃ ox od, PySem.W.InstAt s.heap a ox C (some od) ∧ ∀ f, RelO (fs.lookup f) ((PySem.W.lookIn f od).getD none) ∧ ∃ r, PySem.W.lookIn f od = some r := by
  obtain ⟨d, h1, h2⟩ := h
  obtain ⟨⟨oe, vs, ho, z1, z2, z3⟩, _, _⟩ := I.hok a _ h1
  have hx : ObjOk X.prog X.w H s.heap d (.xd fs) := I.hok d _ h2
  obtain ⟨mA, hns, hr⟩ := hx
  obtain ⟨od, hod, hl⟩ := lookIn_ns hns
  refine ⟨oe, od, ⟨ho, z1, ?_, ?_⟩, fun f => ⟨?_, _, hl f⟩⟩
  · unfold PySem.W.notCls; rw [z3] <;> rfl
  · rw [z2]
    exact hod
  · rw [hl f]
    exact hr f
def rIsQ (K : PySem.W.Frag) : List V → Hp → VK → Prop := fun xs H Q => ∃ (a C : Addr) (fs : List (Str × V)) (c : V) (cv : Value) (b : Bool), xs = [.ref a, c] ∧ XC K C ∧ XB K ∧ XR H a C fs ∧ ClsV c cv ∧ PySem.W.kitOne K (.ref C) cv = some b ∧ Q (.bl b) H
theorem call_isQ : CallR X (.builtin "isinstance") (rIsQ X.K) := by
  intro pins s σ H xs us Q I r h
  obtain ⟨a, C, fs, c, cv, b, rfl, T, B, hE, k, e, q⟩ := h
  obtain ⟨u1, u2, rfl, r1, r2⟩ := vals2 r
  have e2 := k.eq r2
  subst e2
  cases (show u1 = Value.ref a from r1)
  obtain ⟨ox, od, J, _⟩ := hE.inst I
  exact PySem.W.kia_one (PySem.W.kitx_exc T.cl T.ga T.gg T.sb T.ca B.hn B.ht T.ob) I.kIn J e (fun z => nomatch z) fun tk => ⟨.bl b, H, I.tok tk, rfl, q⟩
/-- e.f, e such an exception -/
def tXar (K : PySem.W.Frag) (f : Str) (te : TE) : TE := fun σ H Q => te σ H fun x H1 => ∃ (a C : Addr) (fs : List (Str × V)) (v : V), x = .ref a ∧ XC K C ∧ PySem.W.findIn K (.ref C) f = some none ∧ XR H1 a C fs ∧ fs.lookup f = some v ∧ Q v H1
theorem pe_xar {e : Expr} {te : TE} {f : Str} {pos : Pos} (he : PE X e te) (hb : attributeBase e f X.env (eval e X.env) = eval e X.env := by rfl) : PE X (.Attribute e f pos) (tXar X.K f te) := by
  refine ⟨fun pins s σ H Q I h => ?_⟩
  refine attr_of hb (thn (he.run pins s σ H _ I h) fun u s1 hh => ?_)
  obtain ⟨x, H1, I1, rx, a, C, fs, v, ex, T, hno, hx, hl, q⟩ := hh
  subst ex
  obtain rfl : u = Value.ref a := rx
  obtain ⟨ox, od, J, hr⟩ := hx.inst I1
  obtain ⟨r1, r, e1⟩ := hr f
  rw [e1, hl] at r1
  obtain ⟨u, hu, ru⟩ := RelO.some_of (v := v) (o := r) r1
  exact HandSPX.exc_get I1.kIn J T.ga T.gg T.sb (PySem.W.findObj_own T.hd hno rfl (by rw [e1, hu])) (handed_of ru) ⟨v, H1, I1.tok _, ru, q⟩
end
/-- behind a statement the slots are as many as before -/
theorem pss_len {X : Cx} {sts : List Stmt} {t : TS} (h : PSs X sts t) : PSs X sts (fun D σ H => σ.length = X.N.length → t D σ H) :=
  ⟨fun pins s σ H D I q => h.run pins s σ H D I (q I.len)⟩
/-- a def by its body, its code object named -/
theorem okC {P : Program} {w : World} {K : PySem.W.Frag} {mg : Str → Option Value} {base : Heap} {x qual : Str} {st : Stmt} {f c : Addr} {oc : Value} {od an : Option Addr} {osl : Array (Option Value)} {kV doc pm ct : Value} {N ps : List Str} {k : Nat} {sp : Sp}
    (lk : K.lookup f = some ⟨oc, od, .func (PySem.W.fnOf x qual (defArgs st) (defBody st) (defScope st) .none kV doc pm an (.ref c) ct), osl⟩) (hcd : PySem.W.codeIn K (.ref c) qual = true) (S : FnScope N ps (defScope st))
    (len : ∀ {vs H Q E}, sp vs H Q E → vs.length = ps.length)
    (body : ∀ {A : Around} {outer : List Env} {s : Shared} {H : Hp} {vs : List V} {Q : VK} {E : XK}, Room k (A.deeper (envOfC qual (defScope st) s.heap.objs.size f (.ref c))) → sp vs H Q E →
      ∃ t, PSs (cxOf CX0 P w K mg base N qual (defScope st) f (.ref c) A outer s H E).nox (defBody st) t ∧ t { nx := fun _ H' => Q .non H', rt := Q } (start N vs) H) :
    FnOk P w K mg base CX0 (k + 1) f (PySem.W.fnOf x qual (defArgs st) (defBody st) (defScope st) .none kV doc pm an (.ref c) ct) ps sp := by
  refine fn_of lk hcd S (fun _ _ _ _ h => len h) fun A outer s H vs Q E hr h => ?_
  obtain ⟨t, h1, h2⟩ := body (outer := outer) hr h
  exact ⟨t, h1.nox, h2⟩
/-! what stays when tables grow -/
theorem ExtN.pen {H H' : Hp} {p l : Addr} {n : Nat} (e : LamX.ExtN H H') (h : PenL H p l n) : PenL H' p l n := by
  obtain ⟨cs, a, r, f, h1, h2, h3⟩ := h
  exact ⟨cs, a, r, f, e _ _ h1 (fun ps q => nomatch q), e _ _ h2 (fun ps q => nomatch q), h3⟩
end Fb
set_option maxRecDepth 100000
set_option maxHeartbeats 4000000
namespace Fb
open PySem PySem.Spec PyProof.Rows L2
/-! max and min of two texts -/
section
variable {prog : Program} {w : World} {A : Around}
theorem strs_gt {P : Nat → Value → Prop} (val : Nat → Str) (hval : ∀ i v, P i v → ∃ t, v = .str (val i) t) :
    CmpOf prog w A .Gt P (fun i j => decide ((val j).cps.toList < (val i).cps.toList)) := fun i j vi vj s Q E hi hj h => by
  obtain ⟨t, rfl⟩ := hval i vi hi
  obtain ⟨u, rfl⟩ := hval j vj hj
  have q := PySem.P.gt_str (x := val i) (y := val j) (t := t) (u := u) (A := A) (E := E) (prog := prog) (w := w) (s := s) (Q := Q) h
  unfold compareOp at q
  exact q
theorem strs_lt {P : Nat → Value → Prop} (val : Nat → Str) (hval : ∀ i v, P i v → ∃ t, v = .str (val i) t) :
    CmpOf prog w A .Lt P (fun i j => decide ((val i).cps.toList < (val j).cps.toList)) := fun i j vi vj s Q E hi hj h => by
  obtain ⟨t, rfl⟩ := hval i vi hi
  obtain ⟨u, rfl⟩ := hval j vj hj
  have q := PySem.P.lt_str (x := val i) (y := val j) (t := t) (u := u) (A := A) (E := E) (prog := prog) (w := w) (s := s) (Q := Q) h
  unfold compareOp at q
  exact q
variable {E : Value → Shared → Prop} {s : Shared}
def two (a b : Str) (i : Nat) : Str := if i = 0 then a else b
theorem two_at {a b : Str} {t u : Tok} (i : Nat) (v : Value) (h : (#[Value.str a t, Value.str b u])[i]? = some v) : ∃ t, v = .str (two a b i) t := by
  match i, h with
  | 0, h => exact ⟨t, by simpa [two] using h.symm⟩
  | 1, h => exact ⟨u, by simpa [two] using h.symm⟩
  | i + 2, h => simp at h
theorem two_walk {a b : Str} {t u : Tok} {h' : Heap} (hsz : (s.heap.push { cls := .type "tuple", data := .seq #[.str a t, .str b u] }).objs.size = s.heap.objs.size + 1)
    (hk : ∀ c o, c ∉ [s.heap.objs.size + 1] → ((s.heap.push { cls := .type "tuple", data := .seq #[.str a t, .str b u] }).push { cls := .type "tuple_iterator", data := .fields #[.ref s.heap.objs.size, .int 0 0] }).get? c = some o → h'.get? c = some o) :
    ∀ c o, s.heap.get? c = some o → h'.get? c = some o := fun c o e => by
  refine hk c o (fun hm => ?_) (Heap.get?_push_of_some _ (Heap.get?_push_of_some _ e))
  rcases List.mem_cons.mp hm with e1 | hm
  · have := Heap.lt_size e; rw [e1] at this; exact Nat.lt_irrefl _ (Nat.lt_of_succ_lt this)
  · cases hm
theorem max_two_strs {a b : Str} {t u : Tok} {Q : Value → Shared → Prop} (hh : A.handled = none)
    (h : ∀ h' tk, (∀ c o, s.heap.get? c = some o → h'.get? c = some o) → Q (if a.cps.toList < b.cps.toList then .str b u else .str a t) { s with heap := h', toks := tk }) :
    wpAny (model prog w) A (call (.builtin "max") [.str a t, .str b u]) Q E s := by
  have hT : (s.heap.push { cls := .type "tuple", data := .seq #[.str a t, .str b u] }).IsTuple s.heap.objs.size #[.str a t, .str b u] := ⟨_, Heap.get?_push_size _ rfl, rfl, 0, rfl⟩
  refine call_max_two (wpAny_pyIter_tuple hT ?_)
  have hsz : (s.heap.push { cls := .type "tuple", data := .seq #[.str a t, .str b u] }).objs.size = s.heap.objs.size + 1 := Heap.size_push ..
  refine ⟨_, [_, s.heap.objs.size], [_], _, _, _, _, rfl, Walks.tuple (A := A.in1) hh _ s.heap.objs.size (by rw [hsz]; exact Nat.ne_of_lt (Nat.lt_succ_self _)) #[.str a t, .str b u],
    ⟨⟨_, Heap.get?_push_size _ rfl, rfl, rfl⟩, hT.push _⟩, fun c hc => ?_, by simp, strs_gt (two a b) two_at, fun v h' tk hP hk => ?_⟩
  · show c < ((s.heap.push _).push _).objs.size
    rw [Heap.size_push, hsz]
    rcases List.mem_cons.mp hc with rfl | hc
    · rw [hsz]; exact Nat.lt_succ_self _
    · rcases List.mem_cons.mp hc with rfl | hc
      · exact Nat.lt_succ_of_lt (Nat.lt_succ_self _)
      · cases hc
  · have hold : ∀ c o, s.heap.get? c = some o → h'.get? c = some o := fun c o e => by
      refine hk c o (fun hm => ?_) (Heap.get?_push_of_some _ (Heap.get?_push_of_some _ e))
      rcases List.mem_cons.mp hm with e1 | hm
      · have := Heap.lt_size e; rw [e1, hsz] at this; exact Nat.lt_irrefl _ (Nat.lt_of_succ_lt this)
      · cases hm
    have := h h' tk hold
    have hv : v = if a.cps.toList < b.cps.toList then Value.str b u else Value.str a t := by
      have hP' : (#[Value.str a t, Value.str b u])[argBest (fun i j => decide ((two a b j).cps.toList < (two a b i).cps.toList)) 1]? = some v := hP
      by_cases hba : a.cps.toList < b.cps.toList
      · have e : argBest (fun i j => decide ((two a b j).cps.toList < (two a b i).cps.toList)) 1 = 1 := by simp [argBest, two, hba]
        rw [e] at hP'
        simpa [hba] using hP'.symm
      · have e : argBest (fun i j => decide ((two a b j).cps.toList < (two a b i).cps.toList)) 1 = 0 := by simp [argBest, two, hba]
        rw [e] at hP'
        simpa [hba] using hP'.symm
    rw [hv]; exact this
theorem min_two_strs {a b : Str} {t u : Tok} {Q : Value → Shared → Prop} (hh : A.handled = none)
    (h : ∀ h' tk, (∀ c o, s.heap.get? c = some o → h'.get? c = some o) → Q (if b.cps.toList < a.cps.toList then .str b u else .str a t) { s with heap := h', toks := tk }) :
    wpAny (model prog w) A (call (.builtin "min") [.str a t, .str b u]) Q E s := by
  have hT : (s.heap.push { cls := .type "tuple", data := .seq #[.str a t, .str b u] }).IsTuple s.heap.objs.size #[.str a t, .str b u] := ⟨_, Heap.get?_push_size _ rfl, rfl, 0, rfl⟩
  refine call_min_two (wpAny_pyIter_tuple hT ?_)
  have hsz : (s.heap.push { cls := .type "tuple", data := .seq #[.str a t, .str b u] }).objs.size = s.heap.objs.size + 1 := Heap.size_push ..
  refine ⟨_, [_, s.heap.objs.size], [_], _, _, _, _, rfl, Walks.tuple (A := A.in1) hh _ s.heap.objs.size (by rw [hsz]; exact Nat.ne_of_lt (Nat.lt_succ_self _)) #[.str a t, .str b u],
    ⟨⟨_, Heap.get?_push_size _ rfl, rfl, rfl⟩, hT.push _⟩, fun c hc => ?_, by simp, strs_lt (two a b) two_at, fun v h' tk hP hk => ?_⟩
  · show c < ((s.heap.push _).push _).objs.size
    rw [Heap.size_push, hsz]
    rcases List.mem_cons.mp hc with rfl | hc
    · rw [hsz]; exact Nat.lt_succ_self _
    · rcases List.mem_cons.mp hc with rfl | hc
      · exact Nat.lt_succ_of_lt (Nat.lt_succ_self _)
      · cases hc
  · have hold : ∀ c o, s.heap.get? c = some o → h'.get? c = some o := fun c o e => by
      refine hk c o (fun hm => ?_) (Heap.get?_push_of_some _ (Heap.get?_push_of_some _ e))
      rcases List.mem_cons.mp hm with e1 | hm
      · have := Heap.lt_size e; rw [e1, hsz] at this; exact Nat.lt_irrefl _ (Nat.lt_of_succ_lt this)
      · cases hm
    have := h h' tk hold
    have hv : v = if b.cps.toList < a.cps.toList then Value.str b u else Value.str a t := by
      have hP' : (#[Value.str a t, Value.str b u])[argBest (fun i j => decide ((two a b i).cps.toList < (two a b j).cps.toList)) 1]? = some v := hP
      by_cases hba : b.cps.toList < a.cps.toList
      · have e : argBest (fun i j => decide ((two a b i).cps.toList < (two a b j).cps.toList)) 1 = 1 := by simp [argBest, two, hba]
        rw [e] at hP'
        simpa [hba] using hP'.symm
      · have e : argBest (fun i j => decide ((two a b i).cps.toList < (two a b j).cps.toList)) 1 = 0 := by simp [argBest, two, hba]
        rw [e] at hP'
        simpa [hba] using hP'.symm
    rw [hv]; exact this
end
section
variable {X : Cx}
theorem call_maxS (hc : X.calm = true) : CallR X (.builtin "max") (fun xs H Q => ∃ i j : Str, xs = [.str i, .str j] ∧ Q (.str (if i.cps.toList < j.cps.toList then j else i)) H) := by
  intro pins s σ H xs us Q I r h
  obtain ⟨i, j, rfl, q⟩ := h
  obtain ⟨u, w', rfl, ⟨t, rfl⟩, ⟨t', rfl⟩⟩ := vals2 r
  refine max_two_strs (I.ok.hd hc) fun h' tk k => ⟨_, H, I.kept k, ?_, q⟩
  by_cases hj : i.cps.toList < j.cps.toList
  · rw [if_pos hj, if_pos hj]; exact ⟨_, rfl⟩
  · rw [if_neg hj, if_neg hj]; exact ⟨_, rfl⟩
theorem call_minS (hc : X.calm = true) : CallR X (.builtin "min") (fun xs H Q => ∃ i j : Str, xs = [.str i, .str j] ∧ Q (.str (if j.cps.toList < i.cps.toList then j else i)) H) := by
  intro pins s σ H xs us Q I r h
  obtain ⟨i, j, rfl, q⟩ := h
  obtain ⟨u, w', rfl, ⟨t, rfl⟩, ⟨t', rfl⟩⟩ := vals2 r
  refine min_two_strs (I.ok.hd hc) fun h' tk k => ⟨_, H, I.kept k, ?_, q⟩
  by_cases hj : j.cps.toList < i.cps.toList
  · rw [if_pos hj, if_pos hj]; exact ⟨_, rfl⟩
  · rw [if_neg hj, if_neg hj]; exact ⟨_, rfl⟩
end
/-! a sign, so often -/
theorem fold_sign (c : Nat) : ∀ (k : Nat) (acc : Array Nat), (List.replicate k (#[c] : Array Nat)).foldl (· ++ ·) acc = acc ++ (List.replicate k c).toArray
  | 0, acc => by simp
  | k + 1, acc => by
    rw [List.replicate_succ, List.foldl_cons, fold_sign c k, List.replicate_succ]
    apply Array.toList_inj.mp
    simp
theorem op_repS {X : Cx} : OpR X (binaryOp .Mult) (fun x y H Q => ∃ (c k : Nat), x = .str (SX.S [c]) ∧ y = .int (k : Nat) ∧ k ≤ 100000 ∧ Q (.str (SX.S (List.replicate k c))) H) := by
  intro pins s σ H x y v u Q I rx ry h
  obtain ⟨c, k, rfl, rfl, hk, q⟩ := h
  obtain ⟨t, rfl⟩ := rx
  obtain ⟨t', rfl⟩ := ry
  have l1 : (SX.S [c]).length = 1 := rfl
  refine PySem.P.mul_str ?_ ?_ ?_ ?_
  · rw [decide_eq_false (by omega), decide_eq_false (by omega)] <;> rfl
  · intro h1 h2
    rw [l1]
    have hk1 : 1 ≤ k := by omega
    intro h3
    have h5 : (1 : Int) ≤ (2 ^ 63 - 1) / (k : Int) := Int.le_ediv_of_mul_le (by omega) (by omega)
    omega
  · intro _ _
    rw [l1]
    exact decide_eq_false (by show ¬ (1 * ((k : Int)).toNat > sizeLine); rw [sizeLine_eq, show ((k : Int)).toNat = k from rfl]; omega)
  · by_cases h0 : (k : Int) < 1
    · rw [if_pos h0]
      have e : k = 0 := by omega
      subst e
      exact ⟨by decide, .str _, H, I.tok _, ⟨_, rfl⟩, q⟩
    · rw [if_neg h0]
      by_cases h1 : k = 1
      · subst h1
        rw [if_pos (by rfl)]
        exact ⟨.str _, H, I, ⟨_, rfl⟩, q⟩
      · have e1 : (((k : Int) == 1) || (SX.S [c]).length == 0) = false := by
          rw [l1]
          simp
          omega
        rw [if_neg (by rw [e1]; exact Bool.false_ne_true)]
        have e2 : (List.replicate ((k : Int)).toNat (SX.S [c]).cps).foldl (· ++ ·) #[] = (List.replicate k c).toArray := by
          have := fold_sign c k #[]
          rw [show ((k : Int)).toNat = k from rfl]
          show (List.replicate k (#[c] : Array Nat)).foldl (· ++ ·) #[] = _
          rw [this]
          simp
        rw [e2]
        refine ⟨?_, .str _, H, I.tok _, ⟨_, rfl⟩, q⟩
        show (SX.S (List.replicate k c)).length ≤ sizeLine
        rw [SX.S_len, List.length_replicate, sizeLine_eq]
        omega
end Fb
set_option maxRecDepth 100000
set_option maxHeartbeats 4000000
namespace Fb
open PySem PySem.Spec PyProof.Rows L2
open SX (S)
/-! the bits of a pattern, and where they stand -/
/-- signs without the dots -/
abbrev bt (l : List Nat) : List Nat := l.filter (fun c => c != 46)
def plc (l : List Nat) : List Nat := (List.range l.length).filter (fun i => l.getD i 0 != 46)
theorem plc_nil : plc [] = [] := rfl
theorem plc_dot (l : List Nat) : plc (46 :: l) = (plc l).map (· + 1) := by
  unfold plc
  rw [List.length_cons, List.range_succ_eq_map, List.filter_cons_of_neg (by simp), List.filter_map]
  rfl
theorem plc_bit {c : Nat} (l : List Nat) (h : c ≠ 46) : plc (c :: l) = 0 :: (plc l).map (· + 1) := by
  unfold plc
  rw [List.length_cons, List.range_succ_eq_map, List.filter_cons_of_pos (by simpa using h), List.filter_map]
  rfl
theorem plc_len : ∀ l : List Nat, (plc l).length = (bt l).length
  | [] => rfl
  | c :: l => by
    by_cases h : c = 46
    · subst h
      rw [plc_dot, List.length_map, plc_len l]
      simp
    · rw [plc_bit l h, List.length_cons, List.length_map, plc_len l]
      simp [h]
theorem plc_lt {l : List Nat} {i : Nat} (h : i ∈ plc l) : i < l.length := by
  unfold plc at h
  exact List.mem_range.mp (List.mem_filter.mp h).1
theorem plc_set : ∀ {l : List Nat} {b x : Nat}, x ≠ 46 → b < (bt l).length →
    bt (l.set ((plc l).getD b 0) x) = (bt l).set b x ∧ plc (l.set ((plc l).getD b 0) x) = plc l ∧ (∀ n, szA n (l.set ((plc l).getD b 0) x) = szA n l)
  | [], b, x, _, h => by simp at h
  | c :: l, b, x, hx, h => by
    by_cases e : c = 46
    · subst e
      have hb : b < (bt l).length := by simpa using h
      obtain ⟨h1, h2, h3⟩ := plc_set (l := l) hx hb
      have hb2 : b < (plc l).length := by rw [plc_len]; exact hb
      have g : (plc (46 :: l)).getD b 0 = (plc l).getD b 0 + 1 := by
        rw [plc_dot, List.getD_eq_getElem?_getD, List.getElem?_map, List.getElem?_eq_getElem hb2, List.getD_eq_getElem?_getD, List.getElem?_eq_getElem hb2]
        rfl
      rw [g, List.set_cons_succ]
      refine ⟨?_, ?_, fun n => ?_⟩
      · have : bt (46 :: l.set ((plc l).getD b 0) x) = bt (l.set ((plc l).getD b 0) x) := by simp
        rw [this, h1]
        simp
      · rw [plc_dot, plc_dot, h2]
      · show n :: szA 0 _ = n :: szA 0 _
        rw [h3]
    · cases b with
      | zero =>
        have g : (plc (c :: l)).getD 0 0 = 0 := by rw [plc_bit l e] <;> rfl
        rw [g, List.set_cons_zero]
        refine ⟨by simp [e, hx], by rw [plc_bit l e, plc_bit l hx], fun n => ?_⟩
        show (if x = 46 then _ else szA (n + 1) l) = (if c = 46 then _ else szA (n + 1) l)
        rw [if_neg hx, if_neg e]
      | succ b =>
        have hb : b < (bt l).length := by
          have : (bt (c :: l)).length = (bt l).length + 1 := by simp [e]
          omega
        obtain ⟨h1, h2, h3⟩ := plc_set (l := l) hx hb
        have hb2 : b < (plc l).length := by rw [plc_len]; exact hb
        have g : (plc (c :: l)).getD (b + 1) 0 = (plc l).getD b 0 + 1 := by
          rw [plc_bit l e, List.getD_eq_getElem?_getD, List.getElem?_cons_succ, List.getElem?_map, List.getElem?_eq_getElem hb2, List.getD_eq_getElem?_getD, List.getElem?_eq_getElem hb2]
          rfl
        rw [g, List.set_cons_succ]
        refine ⟨?_, ?_, fun n => ?_⟩
        · have e1 : bt (c :: l.set ((plc l).getD b 0) x) = c :: bt (l.set ((plc l).getD b 0) x) := by simp [e]
          have e2 : bt (c :: l) = c :: bt l := by simp [e]
          rw [e1, h1, e2, List.set_cons_succ]
        · rw [plc_bit _ e, plc_bit _ e, h2]
        · show (if c = 46 then _ else szA (n + 1) _) = (if c = 46 then _ else szA (n + 1) l)
          rw [if_neg e, if_neg e, h3]
theorem sg_set {l : List Nat} {i x : Nat} (h : Sg l) (hx : x = 48 ∨ x = 49 ∨ x = 46) : Sg (l.set i x) := fun c hc => by
  rcases List.mem_or_eq_of_mem_set hc with q | q
  · exact h c q
  · rw [q]; exact hx
/-- bits set to x, one behind the other -/
def fl (x : Nat) (l bs : List Nat) : List Nat := bs.foldl (fun m b => m.set ((plc l).getD b 0) x) l
def flB (x : Nat) (b bs : List Nat) : List Nat := bs.foldl (fun m i => m.set i x) b
theorem flB_len (x : Nat) : ∀ (bs b : List Nat), (flB x b bs).length = b.length
  | [], b => rfl
  | i :: bs, b => by
    show (flB x (b.set i x) bs).length = _
    rw [flB_len x bs, List.length_set]
theorem fl_go {x : Nat} (hx : x = 48 ∨ x = 49) : ∀ {bs m p : List Nat}, plc m = p → (∀ b ∈ bs, b < (bt m).length) →
    bt (bs.foldl (fun m b => m.set (p.getD b 0) x) m) = flB x (bt m) bs ∧ szs (bs.foldl (fun m b => m.set (p.getD b 0) x) m) = szs m ∧ (Sg m → Sg (bs.foldl (fun m b => m.set (p.getD b 0) x) m))
      ∧ (bs.foldl (fun m b => m.set (p.getD b 0) x) m).length = m.length
  | [], m, p, _, _ => ⟨rfl, rfl, fun h => h, rfl⟩
  | b :: bs, m, p, hp, h => by
    subst hp
    have x46 : x ≠ 46 := by omega
    obtain ⟨h1, h2, h3⟩ := plc_set (l := m) (b := b) x46 (h b List.mem_cons_self)
    have hb : ∀ c ∈ bs, c < (bt (m.set ((plc m).getD b 0) x)).length := fun c hc => by
      rw [h1, List.length_set]
      exact h c (List.mem_cons_of_mem _ hc)
    obtain ⟨g1, g2, g3, g4⟩ := fl_go hx (bs := bs) h2 hb
    rw [List.foldl_cons]
    refine ⟨?_, ?_, fun q => g3 (sg_set q (by omega)), by rw [g4, List.length_set]⟩
    · rw [g1, h1]
      rfl
    · rw [g2]
      exact h3 0
theorem fl_ok {x : Nat} {l bs : List Nat} (hx : x = 48 ∨ x = 49) (h : ∀ b ∈ bs, b < (bt l).length) : bt (fl x l bs) = flB x (bt l) bs ∧ szs (fl x l bs) = szs l ∧ (Sg l → Sg (fl x l bs)) ∧ (fl x l bs).length = l.length := fl_go hx rfl h
/-! a pattern by its sizes and its bits -/
def cut : List Nat → List Nat → List (List Nat)
  | [], _ => []
  | s :: ss, b => b.take s :: cut ss (b.drop s)
def jn (ss b : List Nat) : List Nat := TL.joinL [46] (cut ss b)
theorem cut_len : ∀ (ss b : List Nat), (cut ss b).length = ss.length
  | [], b => rfl
  | s :: ss, b => by
    show (cut ss _).length + 1 = _
    rw [cut_len ss]
    rfl
theorem cut_lens : ∀ {ss b : List Nat}, ss.sum ≤ b.length → (cut ss b).map List.length = ss
  | [], b, _ => rfl
  | s :: ss, b, h => by
    rw [List.sum_cons] at h
    show (b.take s).length :: (cut ss (b.drop s)).map List.length = _
    rw [cut_lens (by rw [List.length_drop]; omega), List.length_take]
    congr 1
    omega
theorem cut_mem : ∀ {ss b p : List Nat} {c : Nat}, p ∈ cut ss b → c ∈ p → c ∈ b
  | [], b, p, c, h, _ => by simp [cut] at h
  | s :: ss, b, p, c, h, hc => by
    rcases List.mem_cons.mp h with q | q
    · subst q
      exact List.mem_of_mem_take hc
    · exact List.mem_of_mem_drop (cut_mem q hc)
theorem cut_flat : ∀ {ss b : List Nat}, ss.sum = b.length → (cut ss b).flatten = b
  | [], b, h => by
    have : b = [] := List.length_eq_zero_iff.mp (by simpa using h.symm)
    rw [this]
    rfl
  | s :: ss, b, h => by
    rw [List.sum_cons] at h
    show (b.take s ++ (cut ss (b.drop s)).flatten) = b
    rw [cut_flat (by rw [List.length_drop]; omega), List.take_append_drop]
theorem bt_plain : ∀ {b : List Nat}, (∀ c ∈ b, c = 48 ∨ c = 49) → bt b = b := fun {b} h =>
  List.filter_eq_self.mpr fun c hc => by
    have := h c hc
    simp
    omega
theorem bt_join : ∀ {bs : List (List Nat)}, (∀ b ∈ bs, ∀ c ∈ b, c = 48 ∨ c = 49) → bt (TL.joinL [46] bs) = bs.flatten
  | [], _ => rfl
  | [b], h => by
    show bt b = [b].flatten
    rw [bt_plain (h b List.mem_cons_self)]
    simp
  | b :: d :: r, h => by
    have ih := bt_join (bs := d :: r) fun x hx => h x (List.mem_cons_of_mem _ hx)
    have e : TL.joinL [46] (b :: d :: r) = b ++ ([46] ++ TL.joinL [46] (d :: r)) := rfl
    rw [e, List.flatten_cons, ← ih]
    show List.filter _ (b ++ ([46] ++ _)) = _
    rw [List.filter_append, List.filter_append]
    have q := bt_plain (h b List.mem_cons_self)
    show bt b ++ ([] ++ _) = _
    rw [q]
    rfl
def Bits (b : List Nat) : Prop := ∀ c ∈ b, c = 48 ∨ c = 49
theorem Bits.bt {l : List Nat} (h : Sg l) : Bits (Fb.bt l) := fun c hc => by
  have h1 := List.mem_filter.mp hc
  have h2 := h c h1.1
  have h3 : ¬ c = 46 := by simpa using h1.2
  omega
theorem jn_sg {ss b : List Nat} (h : Bits b) : Sg (jn ss b) := sg_join fun p hp c hc => h c (cut_mem hp hc)
theorem jn_sz {ss b : List Nat} (h : Bits b) (hs : ss.sum ≤ b.length) (ne : ss ≠ []) : szs (jn ss b) = ss := by
  unfold jn
  rw [szs_join (fun e => ne (by have := congrArg List.length e; rw [cut_len] at this; exact List.length_eq_zero_iff.mp this)) (fun p hp c hc => h c (cut_mem hp hc)), cut_lens hs]
theorem jn_bt {ss b : List Nat} (h : Bits b) (hs : ss.sum = b.length) : bt (jn ss b) = b := by
  unfold jn
  rw [bt_join (fun p hp c hc => h c (cut_mem hp hc)), cut_flat hs]
theorem jn_go : ∀ (l : List Nat) (n : Nat) (pre : List Nat), pre.length = n → jn (szA n l) (pre ++ bt l) = pre ++ l
  | [], n, pre, h => by
    show TL.joinL [46] [(pre ++ []).take n] = pre ++ []
    rw [List.append_nil, ← h, List.take_length]
    rfl
  | c :: l, n, pre, h => by
    by_cases e : c = 46
    · subst e
      have ih := jn_go l 0 [] rfl
      have es : szA n (46 :: l) = n :: szA 0 l := rfl
      have eb : bt (46 :: l) = bt l := by simp
      rw [es, eb]
      unfold jn at *
      show TL.joinL [46] ((pre ++ bt l).take n :: cut (szA 0 l) ((pre ++ bt l).drop n)) = _
      rw [← h, List.take_left', List.drop_left']
      · rw [List.nil_append] at ih
        cases q : cut (szA 0 l) (bt l) with
        | nil =>
          have h1 := congrArg List.length q
          rw [cut_len] at h1
          have h2 := (szA_len l 0).1
          simp at h1
          rw [h1] at h2
          simp at h2
        | cons d r =>
          rw [q] at ih
          have e2 : TL.joinL [46] (pre :: d :: r) = pre ++ ([46] ++ TL.joinL [46] (d :: r)) := rfl
          rw [e2, ih]
          rfl
      · rfl
      · rfl
    · have ih := jn_go l (n + 1) (pre ++ [c]) (by rw [List.length_append, h] <;> rfl)
      have es : szA n (c :: l) = szA (n + 1) l := by
        show (if c = 46 then _ else _) = _
        rw [if_neg e]
      have eb : bt (c :: l) = c :: bt l := by simp [e]
      rw [es, eb]
      rw [List.append_assoc, List.append_assoc] at ih
      exact ih
theorem jn_of (l : List Nat) : jn (szs l) (bt l) = l := by
  have h := jn_go l 0 [] rfl
  exact h
/-- two patterns of the same sizes and bits are the same -/
theorem pat_ext {l m : List Nat} (h1 : szs l = szs m) (h2 : bt l = bt m) : l = m := by
  rw [← jn_of l, ← jn_of m, h1, h2]
theorem IsP.bits {l : List Nat} (h : IsP l) : Bits (bt l) := Bits.bt h.sg
theorem bt_sum (l : List Nat) : (bt l).length = (szs l).sum := by
  have h := szA_sum l 0
  rw [Nat.zero_add] at h
  exact h.symm
theorem isP_jn {l b : List Nat} (h : IsP l) (hb : Bits b) (hl : b.length = (bt l).length) : IsP (jn (szs l) b) ∧ szs (jn (szs l) b) = szs l ∧ bt (jn (szs l) b) = b := by
  have e := bt_sum l
  have ne : szs l ≠ [] := fun q => by
    have h2 := (szA_len l 0).1
    unfold szs at q
    rw [q] at h2
    simp at h2
  have z := jn_sz (ss := szs l) hb (by omega) ne
  have t := jn_bt (ss := szs l) hb (by omega)
  refine ⟨⟨jn_sg hb, by rw [z]; exact h.one, by rw [z]; exact h.few, ?_⟩, z, t⟩
  show (bt (jn (szs l) b)).length ≤ 120
  rw [t, hl]
  exact h.sum
theorem isP_fl {l bs : List Nat} {x : Nat} (h : IsP l) (hx : x = 48 ∨ x = 49) (hb : ∀ b ∈ bs, b < (bt l).length) : IsP (fl x l bs) ∧ szs (fl x l bs) = szs l ∧ bt (fl x l bs) = flB x (bt l) bs := by
  obtain ⟨h1, h2, h3, h4⟩ := fl_ok (l := l) hx hb
  refine ⟨⟨h3 h.sg, by rw [h2]; exact h.one, by rw [h2]; exact h.few, ?_⟩, h2, h1⟩
  show (bt _).length ≤ 120
  rw [h1, flB_len]
  exact h.sum
theorem flB_bits {x : Nat} (hx : x = 48 ∨ x = 49) : ∀ {bs b : List Nat}, Bits b → Bits (flB x b bs)
  | [], b, h => h
  | i :: bs, b, h => flB_bits hx (bs := bs) (b := b.set i x) fun c hc => by
    rcases List.mem_or_eq_of_mem_set hc with q | q
    · exact h c q
    · rw [q]; exact hx
theorem le_sum : ∀ {l : List Nat} {n : Nat}, n ∈ l → n ≤ l.sum
  | [], n, h => by simp at h
  | a :: l, n, h => by
    rw [List.sum_cons]
    rcases List.mem_cons.mp h with q | q
    · omega
    · have := le_sum q
      omega
/-! a block set -/
def upB (x f s : Nat) (b : List Nat) : List Nat := b.take f ++ List.replicate s x ++ b.drop (f + s)
theorem upB_go {x f : Nat} {b : List Nat} : ∀ s, f + s ≤ b.length → (List.range s).foldl (fun m j => m.set (f + j) x) b = upB x f s b
  | 0, h => by
    unfold upB
    simp
  | s + 1, h => by
    rw [List.range_succ, List.foldl_append, upB_go s (by omega), List.foldl_cons, List.foldl_nil]
    unfold upB
    have e : b.drop (f + s) = b[f + s]'(by omega) :: b.drop (f + s + 1) := List.drop_eq_getElem_cons (by omega)
    have l1 : (b.take f ++ List.replicate s x).length = f + s := by
      rw [List.length_append, List.length_take, List.length_replicate]
      omega
    rw [List.set_append_right _ _ (by omega), l1, Nat.sub_self, e, List.set_cons_zero, List.replicate_succ', ← Nat.add_assoc]
    simp
theorem upB_len {x f s : Nat} {b : List Nat} (h : f + s ≤ b.length) : (upB x f s b).length = b.length := by
  unfold upB
  rw [List.length_append, List.length_append, List.length_take, List.length_replicate, List.length_drop]
  omega
theorem upB_bits {x f s : Nat} {b : List Nat} (hx : x = 48 ∨ x = 49) (h : Bits b) : Bits (upB x f s b) := fun c hc => by
  unfold upB at hc
  rcases List.mem_append.mp hc with q | q
  · rcases List.mem_append.mp q with r | r
    · exact h c (List.mem_of_mem_take r)
    · rw [(List.mem_replicate.mp r).2]; exact hx
  · exact h c (List.mem_of_mem_drop q)
theorem cut_set {x : Nat} : ∀ {ss : List Nat} {b : List Nat} {k s : Nat}, ss[k]? = some s → ss.sum ≤ b.length → (cut ss b).set k (List.replicate s x) = cut ss (upB x (ss.take k).sum s b)
  | [], b, k, s, h, _ => by simp at h
  | t :: ss, b, 0, s, h, hl => by
    rw [List.sum_cons] at hl
    have e : t = s := by simpa using h
    subst e
    show List.replicate t x :: cut ss (b.drop t) = (upB x 0 t b).take t :: cut ss ((upB x 0 t b).drop t)
    unfold upB
    rw [List.take_zero, List.nil_append, Nat.zero_add, List.take_left' (by simp), List.drop_left' (by simp)]
  | t :: ss, b, k + 1, s, h, hl => by
    rw [List.sum_cons] at hl
    have h' : ss[k]? = some s := by simpa using h
    have ih := cut_set (x := x) (b := b.drop t) h' (by rw [List.length_drop]; omega)
    have hk : (ss.take k).sum + s ≤ ss.sum := by
      have e := List.take_append_drop k ss
      have e2 : ss.drop k = s :: ss.drop (k + 1) := by
        have hk := (List.getElem?_eq_some_iff.mp h').1
        rw [List.drop_eq_getElem_cons hk]
        congr 1
        exact (List.getElem?_eq_some_iff.mp h').2
      have e3 := congrArg List.sum e
      rw [List.sum_append, e2, List.sum_cons] at e3
      omega
    show b.take t :: (cut ss (b.drop t)).set k _ = (upB x (t + (ss.take k).sum) s b).take t :: cut ss ((upB x (t + (ss.take k).sum) s b).drop t)
    rw [ih]
    have lt : (b.take t).length = t := by rw [List.length_take]; omega
    have e : upB x (t + (ss.take k).sum) s b = b.take t ++ upB x (ss.take k).sum s (b.drop t) := by
      unfold upB
      rw [List.take_add, List.drop_drop, Nat.add_assoc]
      simp
    rw [e, List.take_left' lt, List.drop_left' lt]
/-- the parts of a pattern -/
theorem spl_cut (l : List Nat) : ∀ acc, TL.spl [46] 0 acc l = cut (szA acc.length l) (acc ++ bt l) := by
  induction l with
  | nil =>
    intro acc
    rw [TL.spl_nil]
    show [acc] = [(acc ++ []).take acc.length]
    rw [List.append_nil, List.take_length]
  | cons c l ih =>
    intro acc
    by_cases e : c = 46
    · subst e
      have hp : TL.pre [46] (46 :: l) = true := TL.pre_self [46] l
      rw [TL.spl_hit hp]
      have eb : bt (46 :: l) = bt l := by simp
      rw [eb]
      show acc :: TL.spl [46] 0 [] l = (acc ++ bt l).take acc.length :: cut (szA 0 l) ((acc ++ bt l).drop acc.length)
      rw [List.take_left' rfl, List.drop_left' rfl, ih []]
      rfl
    · have hp : TL.pre [46] (c :: l) = false := TL.pre_of_head _ _ fun q => e q
      rw [TL.spl_miss hp, ih (acc ++ [c])]
      have eb : bt (c :: l) = c :: bt l := by simp [e]
      have es : szA acc.length (c :: l) = szA (acc.length + 1) l := by
        show (if c = 46 then _ else _) = _
        rw [if_neg e]
      rw [eb, es, List.length_append, List.append_assoc]
      rfl
theorem split_cut (l : List Nat) : Txt.split (S l) "." = (cut (szs l) (bt l)).map S := by
  have e : ((".":Str)) = S [46] := by decide +kernel
  rw [e, SX.split_S (by simp) (by decide), spl_cut l []]
  rfl
theorem join_cut (bs : List (List Nat)) : Txt.join "." (bs.map S) = S (TL.joinL [46] bs) := by
  have e : ((".":Str)) = S [46] := by decide +kernel
  rw [e]
  exact SX.join_S [46] bs
theorem cut_rep : ∀ (ss : List Nat) (N x : Nat), ss.sum ≤ N → cut ss (List.replicate N x) = ss.map fun s => List.replicate s x
  | [], N, x, h => rfl
  | s :: ss, N, x, h => by
    rw [List.sum_cons] at h
    show (List.replicate N x).take s :: cut ss ((List.replicate N x).drop s) = _
    rw [List.take_replicate, List.drop_replicate, cut_rep ss (N - s) x (by omega), Nat.min_eq_left (by omega)]
    rfl
end Fb
set_option maxRecDepth 100000
set_option maxHeartbeats 4000000
namespace Fb
open PySem PySem.Spec PyProof.Rows L2
theorem ixN_at {n j : Nat} (hj : j < n) : ixN n (j : Int) = some j := by
  unfold ixN
  rw [if_pos (by omega), if_pos (by omega)]
  simp
theorem countIn_signs (c : Nat) : ∀ l : List Nat, countIn (.str ⟨#[c]⟩) (l.map fun n => PyData.str ⟨#[n]⟩) = ((l.count c : Nat) : Int)
  | [] => by simp [countIn]
  | n :: l => by
    rw [List.map_cons, countIn, countIn_signs c l, List.count_cons]
    by_cases h : n = c
    · subst h
      simp [same]
      omega
    · have e : same (PyData.str ⟨#[n]⟩) (.str ⟨#[c]⟩) = false := by
        simp [same]
        exact h
      rw [e]
      simp [h]
theorem count_ones (b : List Nat) : Txt.count (SX.S b) "1" = ((b.count 49 : Nat) : Int) := by
  have e : (("1" : Str)) = ⟨#[49]⟩ := by decide +kernel
  rw [e, count_is, show (SX.S b).cps.toList = b by simp [SX.S], countIn_signs]
/-! sum of a tuple; a class held by a local name; comprehensions over tuples -/
section
variable {X : Cx}
def rSumT (K : PySem.W.Frag) : List V → Hp → VK → Prop := fun vs H Q => ∃ (a : Addr) (ns : List Int), vs = [V.ref a] ∧ SqT K H a (ns.map V.int) ∧ Q (.int ns.sum) H
theorem cr_sumT (hc : X.calm = true) : CallR X (.builtin "sum") (rSumT X.K) := by
  intro pins s σ H vs us Q I r h
  obtain ⟨a, ns, rfl, hs, q⟩ := h
  obtain ⟨its, rv, hl, _⟩ := I.tuple hs
  rw [Vals.ref1 r]
  have hi := rv.ints
  obtain ⟨xs, e⟩ := hi.allInts.items
  have hn : numsOf (intItems xs).toList = ns := by rw [← e]; exact hi.numsOf
  rw [nums_intItems] at hn
  rw [e] at hl
  refine PySem.W.ktm_sumG (I.ok.hd hc) hl fun h' tk t' hk => ?_
  rw [preSum_eq, List.take_of_length_le (by simp), hn]
  exact ⟨.int _, H, I.kept hk, ⟨_, rfl⟩, q⟩
/-- C(..), C held by the i-th slot -/
def tMakeL (i : Nat) (C : Addr) (sp : Sp) (E : XK) (t : TA) : TE := fun σ H Q => σ[i]? = some (some (.ref C)) ∧ t σ H fun vs H1 => ∀ x dx, H1 x = none → H1 dx = none → dx ≠ x → sp (.ref x :: vs) (upd (upd H1 dx (.own x)) x (.ins C dx [])) (fun v H2 => v = .non ∧ Q (.ref x) H2) E
theorem pe_makeL {CX : CXT} {k i : Nat} {f C : Addr} {sp : Sp} {E : XK} {x : Str} {p pos : Pos} {e : Expr} {es : List Expr} {t : TA} (M : Mk X.K C f) (F : FnR X.prog X.w X.K X.mg X.base CX k f sp) (hr : Room (k + 1) X.A) (hN : X.N[i]? = some x) (hv : Vis X.env.scope x) (hx : Passes CX X E) (ha : PA X (e :: es) t) (hdb : (x == ("__debug__" : Str)) = false := by decide)
    (hcd : (x == ("__classdict__" : Str)) = false := by decide) (he : starEach (e :: es) X.env = (false, eval e X.env) :: starEach es X.env := by rfl) (hpl : (backTo pos (starEach es X.env)).any (·.1) = false := by rfl) : PE X (.Call (.Name x p) (e :: es) [] pos) (tMakeL i C sp E t) := by
  refine ⟨fun pins s σ H Q I h => ?_⟩
  obtain ⟨hs, ht⟩ := h
  refine wpAny_Call_Name_kw (thn ((pe_var (pos := p) hN hv hdb hcd).run pins s σ H (fun v H1 => v = .ref C ∧ H1 = H) I ⟨.ref C, hs, rfl, rfl⟩) fun u s1 ⟨v, H1, I1, r1, q1⟩ => ?_)
  obtain ⟨rfl, rfl⟩ := q1
  cases r1
  refine PySem.W.callWith_K (h₀ := X.base) I.ok.mod.kin M.kp (thn (ha.run pos pins s1 σ _ _ I1 ht) fun us s2 ⟨vs, H2, I2, r, q⟩ => ⟨I2.kIn, ?_⟩) he hpl
  exact StX.run_makeR M F hr hx I2 r q
end
section
variable {g : TG} {tt : TT} {te : TE} {vs : List Nat} {σ : L2.St} {H1 : Hp} {D : Addr} {Qd : Hp → Prop} (out : Nat → List V)
theorem lc_outU {K : PySem.W.Frag} {a : Addr} {xs : List V} (hD : H1 D = none) (hl : SqT K H1 a xs) (o0 : out 0 = []) (ol : ∀ i, i < xs.length → (out i).length < sizeLine)
    (hs : ∀ i x H (Kc : V → Hp → Prop) (K0 : Hp → Prop), xs[i]? = some x → Same H1 H → (∀ y H4, Same H H4 → out (i + 1) = out i ++ [y] → Kc y H4) → (∀ H4, Same H H4 → out (i + 1) = out i → K0 H4) →
      g x (wipe σ vs) H fun σ2 H2 => wipe σ2 vs = wipe σ vs ∧ tt σ2 H2 fun b H3 => if b = true then te σ2 H3 Kc else K0 H3)
    (hd : ∀ H, Same H1 H → H D = some (.lst (out xs.length)) → Qd H) :
    ∃ W : Nat → Nat → Hp → Prop, (∃ m, W 0 m (upd H1 D (.lst []))) ∧ ∀ i m H, W i m H →
      ((Itt K a).stop i H ∧ Qd H) ∨ ((Itt K a).go i H ∧ ∃ Nx : Hp → Prop, (∀ H', Nx H' → ∃ m', m' < m ∧ W (i + 1) m' H') ∧ ∀ x H', (Itt K a).yld i H x H' → g x (wipe σ vs) H' fun σ2 H2 => wipe σ2 vs = wipe σ vs ∧ tt σ2 H2 fun b H3 =>
        if b = true then te σ2 H3 fun y H4 => ∃ acc, H4 D = some (.lst acc) ∧ acc.length < sizeLine ∧ Nx (upd H4 D (.lst (acc ++ [y]))) else Nx H3) := by
  refine lc_tup (xs := xs) (fun i H => OutI H1 D (out i) H) (by rw [o0]; exact OutI.start hD) (fun i H _ h => sqT_same h.1 hl) (fun i x H e h => ?_) (fun H h => hd H h.1 h.2)
  have lt : i < xs.length := (List.getElem?_eq_some_iff.mp e).1
  exact hs i x H _ _ e h.1 (fun y H4 s q => ⟨out i, (h.stay s).2, ol i lt, by rw [q]; exact h.put hD s⟩) (fun H4 s q => by rw [q]; exact h.stay s)
end
end Fb
set_option maxRecDepth 100000
set_option maxHeartbeats 4000000
namespace Fb
open PySem PySem.Spec PyProof.Rows L2
open SX (S)
/-! lists of single signs -/
abbrev sgV (b : List Nat) : List V := b.map fun c => V.str (S [c])
theorem sgV_str (b : List Nat) : sgV b = (b.map fun c => S [c]).map V.str := by rw [List.map_map] <;> rfl
theorem countIn_strs (k : Str) : ∀ ys : List Str, countIn (.str k) (ys.map PyData.str) = ((ys.count k : Nat) : Int)
  | [] => by simp [countIn]
  | y :: ys => by
    rw [List.map_cons, countIn, countIn_strs k ys, List.count_cons]
    by_cases h : y = k
    · subst h
      simp [same]
      omega
    · have e : same (PyData.str y) (.str k) = false := by
        simp [same]
        exact h
      rw [e]
      simp [h]
section
variable {X : Cx}
def rCntS (K : PySem.W.Frag) : V → List V → Hp → VK → Prop := fun x xs H Q => ∃ (p : Addr) (ys : List Str) (k : Str), x = .ref p ∧ xs = [.str k] ∧ SqL K H p (ys.map V.str) ∧ Q (.int (ys.count k : Nat)) H
theorem mt_lcountS : MtR X "list.count" (rCntS X.K) := by
  intro pins s σ H x xs v us Q I rx rxs h
  obtain ⟨p, ys, k, rfl, rfl, hs, q⟩ := h
  cases rx
  obtain ⟨u, rfl, t, rfl⟩ := rxs.one
  obtain ⟨its, rv, ⟨ob, n, ho, hc, _, hdat⟩, _⟩ := I.list hs
  refine count_list_strs (vs := its) ⟨ob, ho, hc, n, hdat⟩ rv.strs ?_
  rw [countIn_strs]
  exact ⟨.int (ys.count k : Nat), H, I.tok _, ⟨_, rfl⟩, q⟩
end
theorem call_len_seqK {X : Cx} {K : PySem.W.Frag} (hK : X.K = K) : CallR X (.builtin "len") (fun xs H Q => ∃ p ys, xs = [.ref p] ∧ (SqL K H p ys ∨ SqT K H p ys) ∧ Q (.int ys.length) H) := by
  subst hK
  exact call_len_seq
theorem count_sg (b : List Nat) (c : Nat) : (b.map fun c => S [c]).count (S [c]) = b.count c := by
  induction b with
  | nil => rfl
  | cons a b ih =>
    rw [List.map_cons, List.count_cons, List.count_cons, ih, SX.S_beq_eq]
    by_cases h : a = c
    · subst h; simp
    · simp [h]
theorem inV_sgV (c : Nat) (b : List Nat) : inV (.str (S [c])) (sgV b) = decide (c ∈ b) := by
  induction b with
  | nil => rfl
  | cons a b ih =>
    have e : inV (.str (S [c])) (sgV (a :: b)) = (eqV (V.str (S [a])) (V.str (S [c])) || inV (.str (S [c])) (sgV b)) := rfl
    rw [e, ih]
    have e2 : eqV (V.str (S [a])) (V.str (S [c])) = decide (a = c) := by
      show (S [a] == S [c]) = _
      rw [SX.S_beq_eq]
      by_cases h : a = c
      · subst h; simp
      · simp [h]
    rw [e2]
    by_cases h : a = c
    · subst h; simp
    · have : ¬ c = a := fun q => h q.symm
      simp [h, this]
theorem flat_sgV : ∀ b : List Nat, (sgV b).all flatV = true
  | [] => rfl
  | c :: b => by
    show (flatV (V.str (S [c])) && (sgV b).all flatV) = true
    rw [flat_sgV b]
    rfl
theorem cut_get : ∀ {ss b : List Nat} {i s : Nat}, ss[i]? = some s → (cut ss b)[i]? = some ((b.drop (ss.take i).sum).take s)
  | [], b, i, s, h => by simp at h
  | t :: ss, b, 0, s, h => by
    have e : t = s := by simpa using h
    subst e
    rfl
  | t :: ss, b, i + 1, s, h => by
    have h' : ss[i]? = some s := by simpa using h
    show (cut ss (b.drop t))[i]? = some ((b.drop (t + (ss.take i).sum)).take s)
    rw [cut_get h', List.drop_drop]
theorem take_sum_s {ss : List Nat} {i s : Nat} (h : ss[i]? = some s) : (ss.take (i + 1)).sum = (ss.take i).sum + s := by
  rw [List.take_add_one, h, List.sum_append]
  simp
theorem take_sum_le (ss : List Nat) (i : Nat) : (ss.take i).sum ≤ ss.sum := by
  have e := congrArg List.sum (List.take_append_drop i ss)
  rw [List.sum_append] at e
  omega
theorem cutV_sg {b : List Nat} {f s : Nat} (h : f + s ≤ b.length) : cutV (sgV b) (some (f : Int)) (some ((f : Int) + (s : Int))) = sgV ((b.drop f).take s) := by
  unfold cutV
  have e : ((f : Int) + (s : Int)) = ((f + s : Nat) : Int) := by omega
  rw [e, HT.sIx_nat, HT.sIx_nat, List.length_map, Nat.min_eq_left h, Nat.min_eq_left (show f ≤ b.length by omega), Nat.add_sub_cancel_left, ← List.map_drop, ← List.map_take]
/-- a comprehension over a text -/
theorem lc_S {l : List Nat} {g : TG} {tt : TT} {te : TE} {vs : List Nat} {σ : L2.St} {H1 : Hp} {D : Addr} {Qd : Hp → Prop} (Pv : Nat → Hp → Prop) (h0 : Pv 0 (upd H1 D (.lst [])))
    (hs : ∀ i c H, l[i]? = some c → Pv i H → g (.str (S [c])) (wipe σ vs) H fun σ2 H2 => wipe σ2 vs = wipe σ vs ∧ tt σ2 H2 fun b H3 =>
      if b = true then te σ2 H3 fun y H4 => ∃ acc, H4 D = some (.lst acc) ∧ acc.length < sizeLine ∧ Pv (i + 1) (upd H4 D (.lst (acc ++ [y]))) else Pv (i + 1) H3) (hd : ∀ H, Pv l.length H → Qd H) :
    ∃ W : Nat → Nat → Hp → Prop, (∃ m, W 0 m (upd H1 D (.lst []))) ∧ ∀ i m H, W i m H →
      ((Its (S l)).stop i H ∧ Qd H) ∨ ((Its (S l)).go i H ∧ ∃ Nx : Hp → Prop, (∀ H', Nx H' → ∃ m', m' < m ∧ W (i + 1) m' H') ∧ ∀ x H', (Its (S l)).yld i H x H' → g x (wipe σ vs) H' fun σ2 H2 => wipe σ2 vs = wipe σ vs ∧ tt σ2 H2 fun b H3 =>
        if b = true then te σ2 H3 fun y H4 => ∃ acc, H4 D = some (.lst acc) ∧ acc.length < sizeLine ∧ Nx (upd H4 D (.lst (acc ++ [y]))) else Nx H3) := by
  have hz : (S l).cps.size = l.length := by simp [S]
  refine ⟨fun i m H => i + m = l.length ∧ Pv i H, ⟨l.length, by omega, h0⟩, fun i m H ⟨hm, p⟩ => ?_⟩
  by_cases lt : i < l.length
  · refine Or.inr ⟨by show i < (S l).cps.size; omega, Pv (i + 1), fun H' p' => ⟨m - 1, by omega, by omega, p'⟩, ?_⟩
    rintro x H' ⟨eH, c, hc, rfl⟩
    subst eH
    have e : l[i]? = some c := by simpa [S] using hc
    exact hs i c _ e p
  · obtain rfl : i = l.length := by omega
    exact Or.inl ⟨by show (S l).cps.size ≤ _; omega, hd H p⟩
/-! an exception that was caught and is kept, with fields or without -/
section
variable {X : Cx}
def rIsB (K : PySem.W.Frag) : List V → Hp → VK → Prop := fun xs H Q => ∃ (a C : Addr) (c : V) (cv : Value) (b : Bool), xs = [.ref a, c] ∧ XC K C ∧ XB K ∧ (H a = some (ExR (.ref C) none a) ∨ ∃ fs, XR H a C fs) ∧ ClsV c cv ∧ PySem.W.kitOne K (.ref C) cv = some b ∧ Q (.bl b) H
theorem call_isB : CallR X (.builtin "isinstance") (rIsB X.K) := by
  intro pins s σ H xs us Q I r h
  obtain ⟨a, C, c, cv, b, e, T, B, hE | ⟨fs, hE⟩, k, e2, q⟩ := h
  · exact call_isR pins s σ H xs us Q I r ⟨a, C, c, cv, b, e, T, B, hE, k, e2, q⟩
  · exact call_isQ pins s σ H xs us Q I r ⟨a, C, fs, c, cv, b, e, T, B, hE, k, e2, q⟩
end
end Fb
set_option maxRecDepth 100000
set_option maxHeartbeats 4000000
/-! a loop over range of a written number: within its body a token is out; calls and stores whose parts want one -/
namespace Fb
open PySem PySem.Spec PyProof.Rows L2
/-- what is walked, a token out behind it -/
def PIs (X : Cx) (tg iter : Expr) (wi : TI) : Prop :=
  ∀ (pins : List (Addr × Obj)) (s : Shared) (σ : L2.St) (H : Hp) (R : It → Hp → Prop), Inv X pins σ H s → wi σ H R →
    wpAny (model X.prog X.w) X.A (eval iter X.env) (fun v s1 => 1 ≤ s1.toks ∧ wpAny (model X.prog X.w) X.A (pyIter v) (PIE X pins σ tg R) X.xe s1) X.xe s
section
variable {X : Cx} {tg : Expr} {p c pos : Pos} {k : Int} {j : Nat}
theorem pis_range1 (hg : Gl X "range") (hm : X.mg "range" = none) : PIs X tg (.Call (.Name "range" p) [.Constant (.int k) j c] [] pos) (iRng1 (tCons (tC (.int k)) tNil)) := by
  intro pins s σ H R I h
  refine Call_ (ld_blt I hg hm boot_range (PyProof.Rows.callWith_type1 ?_ rfl rfl))
  show wpAny _ _ (spliced ((false, eval (.Constant (.int k) j c) X.env) :: backTo pos (starEach [] X.env))) _ _ s
  refine Calls.spliced_cons (wpAny_Constant_int (Calls.spliced_nil ?_))
  obtain ⟨i, e, q1, q2, q⟩ := h
  have e1 : k = i := by
    have := (List.cons.inj e).1
    exact V.int.inj this
  subst e1
  exact wpAny_mono (PySem.wpAny_toks_of (n := 1) (by show 1 ≤ s.toks + 1; omega) (call_range_1 (range_it (tg := tg) (R := R) (I.tok (s.toks + 1)) (by omega) (by omega) q1 q2 (by simpa using q)))) (fun _ _ z => z) fun _ _ z => z.2
theorem ps_forT {iter : Expr} {body : List Stmt} {wi : TI} {g : TG} {tb : TS} {pos : Pos} (hp : PassesOwn (model X.prog X.w) X.A X.env X.xe) (hc : X.calm = true) (hi : PIs X tg iter wi) (hg : PG X tg g) (hb : PSsT X body tb)
    (hs : ∀ x, foldedSetIterable iter X.env x = pure x := by intro _; rfl) : PS X (.For tg iter body [] pos) (tFor wi g tb) := by
  refine ⟨fun pins s σ H D I h => ?_⟩
  refine wpAny_For (thn (hi pins s σ H _ I h) fun v s1 ⟨t1, h1⟩ => wpAny_mono (PySem.wpAny_toks_of t1 h1) (fun itv s2 h2 => ?_) fun _ _ z => z.2) hs
  obtain ⟨t2, it, fp, tn, J, H2, e, I2, T, st2, f2, W, ⟨m0, w0⟩, turn⟩ := h2
  subst e
  have stat : ∀ {H' : Hp}, (∀ b ∈ fp, H' b = none) → ∀ b ∈ fp, FpOk X pins H' b := fun hn b hb => ⟨hn b hb, (f2 b hb).2⟩
  refine codeAny_forLoop_any (fun n s' => 1 ≤ s'.toks ∧ ∃ i σ' H', Inv X pins σ' H' s' ∧ tn i s'.heap ∧ (∀ b ∈ fp, H' b = none) ∧ W i n σ' H') ?_ m0 ⟨t2, 0, σ, H2, I2, st2, fun b hb => (f2 b hb).1, w0⟩
  rintro n s3 ⟨t3, i, σ3, H3, I3, st3, fr3, w3⟩
  rcases turn i n σ3 H3 w3 with ⟨stop, qn⟩ | ⟨go, N, hN, step⟩
  · refine wpAny_passesOwn hp (thn (T.done X rfl rfl rfl hc i pins s3 σ3 H3 X.xe I3 (stat fr3) st3 stop) fun r s4 ⟨hr, I4⟩ => ?_)
    subst hr
    exact wpAny_execs_nil ⟨σ3, H3, I4, qn⟩
  · refine wpAny_passesOwn hp (wpAny_mono (PySem.wpAny_toks_of t3 (T.item X rfl rfl rfl hc i pins s3 σ3 H3 X.xe I3 (stat fr3) st3 go)) (fun r s4 ⟨t4, u, hr, h4⟩ => ?_) fun _ _ z => z.2)
    subst hr
    refine wpAny_passesOwn hp (wpAny_mono (PySem.wpAny_toks_of t4 h4) (fun _ s5 ⟨t5, x, H5, I5, r5, y5, st5, fr5⟩ => ?_) fun _ _ z => z.2)
    have I5' := I5.pinned (stat fr5) (T.obj _ _ st5)
    refine wpAny_passesOwn hp (wpAny_mono (PySem.wpAny_toks_of t5 (hg.run _ s5 σ3 H5 x u _ I5' r5 (step x H5 y5))) (fun _ s6 ⟨t6, σ6, H6, I6, q6⟩ => ?_) fun _ _ z => z.2)
    refine wpAny_passesOwn hp (wpAny_mono (PySem.wpAny_toks_of t6 (hb _ s6 σ6 H6 _ t6 I6 q6)) (fun f s7 ⟨t7, q7⟩ => ?_) fun _ _ z => z.2)
    have again : ∀ {σ7 : L2.St} {H7 : Hp}, Inv X (pins ++ pinsAt fp s5.heap) σ7 H7 s7 → N σ7 H7 → ∃ m, m < n ∧ 1 ≤ s7.toks ∧ ∃ i σ' H', Inv X pins σ' H' s7 ∧ tn i s7.heap ∧ (∀ b ∈ fp, H' b = none) ∧ W i m σ' H' := fun {σ7 H7} I7 n7 => by
      obtain ⟨m', hm, w7⟩ := hN σ7 H7 n7
      refine ⟨m', hm, t7, i + 1, σ7, H7, I7.unpinned, T.keep _ _ _ st5 fun b hb o e => (I7.pin (b, o) (List.mem_append_right _ (List.mem_append_right _ (mem_pinsAt hb e)))).1, fun b hb => ?_, w7⟩
      obtain ⟨o, e, d⟩ := T.obj _ _ st5 b hb
      exact (I7.pin (b, o) (List.mem_append_right _ (List.mem_append_right _ (mem_pinsAt hb e)))).2.1
    cases f with
    | next => obtain ⟨σ7, H7, I7, n7⟩ := q7; exact again I7 n7
    | cont => obtain ⟨σ7, H7, I7, n7⟩ := q7; exact again I7 n7
    | brk => obtain ⟨σ7, H7, I7, q7⟩ := q7; exact ⟨σ7, H7, I7.unpinned, q7⟩
    | ret v => obtain ⟨x7, σ7, H7, I7, r7, q7⟩ := q7; exact ⟨x7, σ7, H7, I7.unpinned, r7, q7⟩
end
section
variable {X : Cx} {CX : CXT} {k : Nat} {f : Addr} {fd : FuncData} {ps : List Str} {sp : Sp} {ds : List Value} {dvs : List V} {E : XK} {x : Str} {p pos : Pos} {e : Expr} {es : List Expr} {t : TA}
theorem pet_call (F : FnOk X.prog X.w X.K X.mg X.base CX k f fd ps sp) (hr : Room k X.A) (hg : Gl X x) (hm : X.mg x = some (.ref f)) (hk : PySem.W.keepIn X.K (.ref f) = true) (hb : Binds X.K fd ps ds) (hd : Vals dvs ds) (hx : Passes CX X E)
    (ha : L2.PAT X (e :: es) t) (hdb : (x == ("__debug__" : Str)) = false := by decide) (he : starEach (e :: es) X.env = (false, eval e X.env) :: starEach es X.env := by rfl) (hpl : (backTo pos (starEach es X.env)).any (·.1) = false := by rfl) :
    L2.PET X (.Call (.Name x p) (e :: es) [] pos) (tCall sp dvs E t) := by
  intro pins s σ H Q h0 I h
  refine wpAny_Call_Name_kw (ld_glob I hg hm ?_ hdb)
  refine PySem.W.callWith_K (h₀ := X.base) I.ok.mod.kin hk (thn (ha pos pins s σ H _ h0 I h) fun us s1 ⟨vs, H1, I1, r, q⟩ => ⟨I1.kIn, ?_⟩) he hpl
  exact run_fn F hr hb hd hx I1 r q
theorem pst_set {i : Nat} {te : TE} {pos' : Pos} (hN : X.N.Nodup) (hi : X.N[i]? = some x) (hx : Loc X.env.scope x) (he : L2.PET X e te) (hs : swapsWith e (some (.Name x pos')) pos.line X.env = pure false := by rfl) (hf : X.fn x = true ∨ X.env.scope.names.lookup x = some .local := by first | exact .inl rfl | exact .inr rfl | assumption) :
    PST X (.Assign [.Name x pos'] e pos) (tAsg te (gName i)) := by
  intro pins s σ H D h0 I h
  refine wpAny_Assign_Name (thn (he pins s σ H _ h0 I h) fun v s1 ⟨y, H1, I1, r1, q1⟩ => ?_) hs
  exact store_ok I1 hN hi hx r1 (fun s2 I2 => ⟨_, H1, I2, q1⟩) hf
end
/-! in and not in, within a comprehension: the fragment named -/
theorem op_inK {X : Cx} {K : PySem.W.Frag} (hK : X.K = K) : OpR X (compareOp .In) (rIn K false) := by
  subst hK
  exact op_in_seq
theorem op_notInK {X : Cx} {K : PySem.W.Frag} (hK : X.K = K) : OpR X (compareOp .NotIn) (rIn K true) := by
  subst hK
  exact op_notIn_seq
end Fb
set_option maxRecDepth 100000
set_option maxHeartbeats 4000000
namespace Fb
open PySem PySem.Spec PyProof.Rows L2
open Sem (wp)
/-! enumerate(zip(text, text)), whose inner tuples stay out: the zip makes a new one each time -/
def ZF (h : Heap) (z TI TO : Addr) (v : Value) (f : Bool) : Prop := h.get? z = some { cls := .type "zip", dict := none, data := .fields #[v, .bool f, .bool false, .ref TI, .ref TO], slots := #[] }
def HV (v : Value) : Prop := v = .none ∨ ∃ T : Addr, v = rawInt T
section
variable {prog : Program} {w : World} {A : Around} {E : Value → Shared → Prop} {s : Shared} {z TI TO i1 i2 : Addr} {fp1 fp2 : List Addr} {n1 n2 i : Nat} {P1 P2 : Nat → Value → Prop} {St1 St2 : Nat → Heap → Prop} {a1 a2 v : Value} {f : Bool}
theorem free_any {Q : Bool → Shared → Prop} (hz : ZF s.heap z TI TO v f) (hv : HV v) (q1 : Q true s) (q0 : ∀ h', ZF h' z TI TO v true → Heap.SameBut z s.heap h' → Q false { s with heap := h' }) :
    wpAny (model prog w) A (Builtin.SmallTypes.ownedTupleIsFree (.ref z)) Q E s := by
  unfold Builtin.SmallTypes.ownedTupleIsFree
  rcases hv with rfl | ⟨T, rfl⟩
  · exact wpAny_bind (wpAny_field hz rfl (x := .none) rfl (wpAny_pure q1))
  refine wpAny_bind (wpAny_field hz rfl (x := rawInt T) rfl ?_)
  show wpAny _ _ (loadIfAlive ((T : Int).toNat) >>= fun r => _) _ _ _; rw [Int.toNat_natCast]
  refine wpAny_bind (fun _ _ _ => ?_)
  show wpAny _ _ (_ : Sem Bool) Q E s
  cases hT : s.heap.get? T with
  | none => simp only [Option.isNone_none, if_true]; exact wpAny_pure q1
  | some oT =>
    simp only [Option.isNone_some, Bool.false_eq_true, if_false]
    refine wpAny_bind (wpAny_field hz rfl (x := .bool f) rfl ?_)
    cases f
    · rw [if_pos (show (Value.bool false != Value.bool true) = true by rfl)]
      exact wpAny_bind (wpAny_setField_rec hz (by simp) fun g hg sg => wpAny_pure (q0 g hg sg))
    · rw [if_neg (show ¬ (Value.bool true != Value.bool true) = true by exact Bool.false_ne_true)]
      exact wpAny_pure (q0 _ hz (Heap.SameBut.refl _ _))
theorem ZF.put {h h' : Heap} {x : Addr} (e : ZF h z TI TO v f) (sb : Heap.SameBut x h h') (ne : z ≠ x) : ZF h' z TI TO v f := sb.extBut _ _ ne e
theorem zipN_item {Q : Value → Shared → Prop} (S : ZipSep2 z TI TO i1 i2 fp1 fp2) (D1 : Draws prog w A i1 fp1 n1 P1 St1) (D2 : Draws prog w A i2 fp2 n2 P2 St2)
    (hz : ZF s.heap z TI TO v f) (hv : HV v) (hTI : IsTupOf2 s.heap TI (.ref i1) (.ref i2)) (hTO : IsTupOf2 s.heap TO a1 a2) (st1 : St1 i s.heap) (st2 : St2 i s.heap) (lt1 : i < n1) (lt2 : i < n2)
    (k : ∀ x1 x2 h' tk v' f' b1 b2, P1 i x1 → P2 i x2 → HV v' → ZF h' z TI TO v' f' → IsTupOf2 h' TO b1 b2 → St1 (i + 1) h' → St2 (i + 1) h' → IsTupOf2 h' s.heap.objs.size x1 x2 → h'.objs.size = s.heap.objs.size + 1 →
      (∀ c o, c ≠ z → c ≠ TO → c ≠ i1 → c ≠ i2 → s.heap.get? c = some o → h'.get? c = some o) → Q (.ref s.heap.objs.size) { s with heap := h', toks := tk }) :
    wpAny (model prog w) A (Builtin.«zip.__next__» ⟨[.ref z], []⟩) (fun fin s' => ∃ v, fin = .done (.ret v) ∧ Q v s') E s := by
  obtain ⟨hp, g, d, t0, os⟩ := s
  show wpAny _ _ (field (.ref z) 2 >>= fun r => _) _ _ _; refine wpAny_bind (wpAny_field hz rfl (x := .bool false) rfl ?_)
  show wpAny _ _ (field (.ref z) 3 >>= fun r => _) _ _ _; refine wpAny_bind (wpAny_field hz rfl (x := .ref TI) rfl ?_)
  refine wpAny_bind (wpAny_seqItems hTI rfl ?_)
  show wpAny _ _ (Builtin.SmallTypes.ownedTupleIsFree (.ref z) >>= fun r => _) _ _ _
  refine wpAny_bind (free_any hz hv ?_ fun g0 zz0 s0 => ?_)
  · -- the tuple is free: it is filled again, a copy is given
    simp only [if_true]
    refine wpAny_bind (wpAny_rule (wpAny_bind (wpAny_field hz rfl (x := .ref TO) rfl ?_)))
    refine wpAny_bind (wpAny_setField_rec hz (by simp) fun g0 zz0 s0 => ?_)
    replace zz0 : ZF g0 z TI TO .ellipsis f := zz0; replace s0 : Heap.SameBut z hp g0 := s0
    refine wpAny_bind ?_; simp only [List.zipIdx_cons, List.zipIdx_nil, List.forIn_cons, List.forIn_nil]
    refine wpAny_bind (wpAny_bind (wpAny_onRaise ?_))
    show wpAny _ _ (Builtin.SmallTypes.nextOf (.ref i1) >>= fun r => _) _ _ ⟨g0, g, d, t0, os⟩
    refine wpAny_bind (D1.item i _ _ _ lt1 (D1.over st1 s0 S.zf1) fun x1 p1 t1 e1 y1 r1 => wpAny_pure ?_)
    replace r1 : Heap.SameBut i1 g0 p1 := r1
    have U1 : IsTupOf2 p1 TO a1 a2 := r1.extBut _ _ S.Ti1 (s0.extBut _ _ S.TOz hTO)
    refine wpAny_bind (wpAny_seqItems (s := ⟨p1, g, d, t1, os⟩) U1 rfl (wpAny_bind (updateSeq_IsTupOf2 (s := ⟨p1, g, d, t1, os⟩) U1 fun g1 V1 s1 => ?_)))
    replace V1 : IsTupOf2 g1 TO x1 a2 := V1; replace s1 : Heap.SameBut TO p1 g1 := s1
    refine wpAny_bind (wpAny_letGo (wpAny_pure (wpAny_bind (wpAny_bind (wpAny_onRaise ?_)))))
    show wpAny _ _ (Builtin.SmallTypes.nextOf (.ref i2) >>= fun r => _) _ _ ⟨g1, g, d, t1, os⟩
    refine wpAny_bind (D2.item i _ _ _ lt2 (D2.over (D2.over (D2.over st2 s0 S.zf2) r1 S.sep1_2) s1 S.Tf2) fun x2 p2 t2 e2 y2 r2 => wpAny_pure ?_)
    replace r2 : Heap.SameBut i2 g1 p2 := r2
    have U2 : IsTupOf2 p2 TO x1 a2 := r2.extBut _ _ S.Ti2 V1
    refine wpAny_bind (wpAny_seqItems (s := ⟨p2, g, d, t2, os⟩) U2 rfl (wpAny_bind (updateSeq_IsTupOf2 (s := ⟨p2, g, d, t2, os⟩) U2 fun g2 V2 s2 => ?_)))
    replace V2 : IsTupOf2 g2 TO x1 x2 := V2; replace s2 : Heap.SameBut TO p2 g2 := s2
    refine wpAny_bind (wpAny_letGo (wpAny_pure (wpAny_pure (wpAny_bind (wpAny_seqItems (s := ⟨g2, g, d, t2, os⟩) V2 rfl (wpAny_bind (wpAny_newTuple ?_)))))))
    have sz : g2.objs.size = hp.objs.size := by rw [s2.1, r2.1, s1.1, r1.1, s0.1]
    have Z2 : ZF g2 z TI TO .ellipsis f := (((zz0.put r1 S.zi1).put s1 S.TOz.symm).put r2 S.zi2).put s2 S.TOz.symm
    have all : ∀ c o, c ≠ z → c ≠ TO → c ≠ i1 → c ≠ i2 → hp.get? c = some o → g2.get? c = some o := fun c o cz cT c1 c2 e => s2.extBut _ _ cT (r2.extBut _ _ c2 (s1.extBut _ _ cT (r1.extBut _ _ c1 (s0.extBut _ _ cz e))))
    have j1 : St1 (i + 1) g2 := D1.over (D1.over (D1.over y1 s1 S.Tf1) r2 S.sep2_1) s2 S.Tf1
    have j2 : St2 (i + 1) g2 := D2.over y2 s2 S.Tf2
    have zlt : z < g2.objs.size := Heap.lt_size Z2
    show wpAny _ _ (Builtin.SmallTypes.ownedTupleHandOut (.ref z) (.ref g2.objs.size) >>= fun r => _) _ _ ⟨g2.push { cls := .type "tuple", data := .seq #[x1, x2] }, g, d, t2, os⟩
    refine wpAny_bind ?_; unfold Builtin.SmallTypes.ownedTupleHandOut
    have Z3 : ZF (g2.push { cls := .type "tuple", data := .seq #[x1, x2] }) z TI TO .ellipsis f := Heap.get?_push_of_some _ Z2
    refine wpAny_bind (wpAny_setField_rec Z3 (by simp) fun g4 Z4 s4 => ?_)
    replace Z4 : ZF g4 z TI TO (rawInt g2.objs.size) f := Z4
    refine wpAny_setField_rec Z4 (by simp) fun g5 Z5 s5 => ?_
    replace Z5 : ZF g5 z TI TO (rawInt g2.objs.size) false := Z5
    replace s4 : Heap.SameBut z (g2.push { cls := .type "tuple", data := .seq #[x1, x2] }) g4 := s4; replace s5 : Heap.SameBut z g4 g5 := s5
    have up : ∀ c o, c ≠ z → g2.get? c = some o → g5.get? c = some o := fun c o c1 e => s5.extBut _ _ c1 (s4.extBut _ _ c1 (Heap.get?_push_of_some _ e))
    have T5 : IsTupOf2 g5 g2.objs.size x1 x2 := s5.extBut _ _ (Nat.ne_of_gt zlt) (s4.extBut _ _ (Nat.ne_of_gt zlt) (Heap.get?_push_size _ rfl))
    have z5 : g5.objs.size = g2.objs.size + 1 := by rw [s5.1, s4.1, Heap.size_push]
    rw [sz] at T5 z5
    refine wpAny_pure ⟨_, rfl, ?_⟩
    show Q (.ref g2.objs.size) ⟨g5, g, d, t2, os⟩; rw [sz]
    exact k x1 x2 g5 t2 _ _ _ _ e1 e2 (.inr ⟨_, rfl⟩) Z5 (up _ _ S.TOz V2) (D1.frame _ _ _ j1 fun b hb o e => up b o (fun q => S.zf1 (q ▸ hb)) e) (D2.frame _ _ _ j2 fun b hb o e => up b o (fun q => S.zf2 (q ▸ hb)) e) T5 z5 fun c o cz cT c1 c2 e => up c o cz (all c o cz cT c1 c2 e)
  · -- it is still out: a new one
    replace s0 : Heap.SameBut z hp g0 := s0
    simp only [Bool.false_eq_true, if_false]
    refine wpAny_bind ?_; rw [← Array.forIn_toList]; simp only [List.forIn_cons, List.forIn_nil]
    refine wpAny_bind (wpAny_bind (wpAny_holding ?_))
    show wpAny _ _ (Builtin.SmallTypes.nextOf (.ref i1) >>= fun r => _) _ _ ⟨g0, g, d, t0, os⟩
    refine wpAny_bind (D1.item i _ _ _ lt1 (D1.over st1 s0 S.zf1) fun x1 p1 t1 e1 y1 r1 => wpAny_pure (wpAny_pure ?_))
    replace r1 : Heap.SameBut i1 g0 p1 := r1
    refine wpAny_bind (wpAny_bind (wpAny_holding ?_))
    show wpAny _ _ (Builtin.SmallTypes.nextOf (.ref i2) >>= fun r => _) _ _ ⟨p1, g, d, t1, os⟩
    refine wpAny_bind (D2.item i _ _ _ lt2 (D2.over (D2.over st2 s0 S.zf2) r1 S.sep1_2) fun x2 p2 t2 e2 y2 r2 => wpAny_pure (wpAny_pure (wpAny_pure ?_)))
    replace r2 : Heap.SameBut i2 p1 p2 := r2
    show wpAny _ _ (newTuple [x1, x2] >>= fun r => _) _ _ ⟨p2, g, d, t2, os⟩; refine wpAny_bind (wpAny_newTuple ?_)
    have sz : p2.objs.size = hp.objs.size := by rw [r2.1, r1.1, s0.1]
    have Z2 : ZF p2 z TI TO v true := (zz0.put r1 S.zi1).put r2 S.zi2
    have all : ∀ c o, c ≠ z → c ≠ i1 → c ≠ i2 → hp.get? c = some o → p2.get? c = some o := fun c o cz c1 c2 e => r2.extBut _ _ c2 (r1.extBut _ _ c1 (s0.extBut _ _ cz e))
    have up : ∀ c o, p2.get? c = some o → (p2.push { cls := .type "tuple", data := .seq #[x1, x2] }).get? c = some o := fun c o e => Heap.get?_push_of_some _ e
    have T5 : IsTupOf2 (p2.push { cls := .type "tuple", data := .seq #[x1, x2] }) p2.objs.size x1 x2 := Heap.get?_push_size _ rfl
    have z5 : (p2.push { cls := .type "tuple", data := .seq #[x1, x2] }).objs.size = p2.objs.size + 1 := Heap.size_push ..
    refine wpAny_pure ⟨_, rfl, ?_⟩
    show Q (.ref p2.objs.size) ⟨_, g, d, t2, os⟩; rw [sz] at T5 z5 ⊢
    exact k x1 x2 _ t2 _ _ _ _ e1 e2 hv (up _ _ Z2) (up _ _ (all _ _ S.TOz S.Ti1 S.Ti2 hTO)) (D1.frame _ _ _ (D1.over y1 r2 S.sep2_1) fun b hb o e => up b o e) (D2.frame _ _ _ y2 fun b hb o e => up b o e) T5 z5 fun c o cz cT c1 c2 e => up c o (all c o cz c1 c2 e)
theorem zipN_end {Q : Fin → Shared → Prop} (S : ZipSep2 z TI TO i1 i2 fp1 fp2) (D1 : Draws prog w A i1 fp1 n1 P1 St1) (D2 : Draws prog w A i2 fp2 n2 P2 St2)
    (hz : ZF s.heap z TI TO v f) (hv : HV v) (hTI : IsTupOf2 s.heap TI (.ref i1) (.ref i2)) (hTO : IsTupOf2 s.heap TO a1 a2) (st1 : St1 i s.heap) (st2 : St2 i s.heap) (le1 : i ≤ n1) (le2 : i ≤ n2) (hend : i = n1 ∨ i = n2)
    (k : ∀ h' tk e, (∀ c o, c ≠ z → c ≠ TO → c ≠ i1 → c ≠ i2 → s.heap.get? c = some o → h'.get? c = some o) → (∃ o, h'.get? e = some o ∧ o.cls = .type "StopIteration") → E (.ref e) { s with heap := h', toks := tk }) :
    wpAny (model prog w) A (Builtin.«zip.__next__» ⟨[.ref z], []⟩) Q E s := by
  obtain ⟨hp, g, d, t0, os⟩ := s
  show wpAny _ _ (field (.ref z) 2 >>= fun r => _) _ _ _; refine wpAny_bind (wpAny_field hz rfl (x := .bool false) rfl ?_)
  show wpAny _ _ (field (.ref z) 3 >>= fun r => _) _ _ _; refine wpAny_bind (wpAny_field hz rfl (x := .ref TI) rfl ?_)
  refine wpAny_bind (wpAny_seqItems hTI rfl ?_)
  show wpAny _ _ (Builtin.SmallTypes.ownedTupleIsFree (.ref z) >>= fun r => _) _ _ _
  refine wpAny_bind (free_any hz hv ?_ fun g0 zz0 s0 => ?_)
  · simp only [if_true]
    refine wpAny_bind (wpAny_rule (wpAny_bind (wpAny_field hz rfl (x := .ref TO) rfl ?_)))
    refine wpAny_bind (wpAny_setField_rec hz (by simp) fun g0 zz0 s0 => ?_)
    replace zz0 : ZF g0 z TI TO .ellipsis f := zz0; replace s0 : Heap.SameBut z hp g0 := s0
    refine wpAny_bind ?_; simp only [List.zipIdx_cons, List.zipIdx_nil, List.forIn_cons, List.forIn_nil]
    refine wpAny_bind (wpAny_bind (wpAny_onRaise ?_))
    show wpAny _ _ (Builtin.SmallTypes.nextOf (.ref i1) >>= fun r => _) _ _ ⟨g0, g, d, t0, os⟩
    by_cases lt1 : i < n1
    · refine wpAny_bind (D1.item i _ _ _ lt1 (D1.over st1 s0 S.zf1) fun x1 p1 t1 e1 y1 r1 => wpAny_pure ?_)
      replace r1 : Heap.SameBut i1 g0 p1 := r1
      have U1 : IsTupOf2 p1 TO a1 a2 := r1.extBut _ _ S.Ti1 (s0.extBut _ _ S.TOz hTO)
      refine wpAny_bind (wpAny_seqItems (s := ⟨p1, g, d, t1, os⟩) U1 rfl (wpAny_bind (updateSeq_IsTupOf2 (s := ⟨p1, g, d, t1, os⟩) U1 fun g1 V1 s1 => ?_)))
      replace s1 : Heap.SameBut TO p1 g1 := s1
      refine wpAny_bind (wpAny_letGo (wpAny_pure (wpAny_bind (wpAny_bind (wpAny_onRaise ?_)))))
      show wpAny _ _ (Builtin.SmallTypes.nextOf (.ref i2) >>= fun r => _) _ _ ⟨g1, g, d, t1, os⟩
      obtain rfl : i = n2 := by omega
      refine wpAny_bind (D2.done ⟨g1, g, d, t1, os⟩ _ _ (D2.over (D2.over (D2.over st2 s0 S.zf2) r1 S.sep1_2) s1 S.Tf2) fun q e xq oe => ?_)
      replace xq : Heap.ExtBut i2 g1 q := xq
      obtain ⟨ob, h1, h2⟩ := oe; replace h1 : q.get? e = some ob := h1
      have Zq : ZF q z TI TO .ellipsis f := xq _ _ S.zi2 ((zz0.put r1 S.zi1).put s1 S.TOz.symm)
      have nez : e ≠ z := fun x => by subst x; have y : q.get? e = _ := Zq; rw [y] at h1; cases h1; simp at h2
      refine wpAny_setField_rec (s := ⟨q, g, d, t1, os⟩) Zq (by simp) fun q' _ s' => ?_
      replace s' : Heap.SameBut z q q' := s'
      exact k q' t1 e (fun c o cz cT c1 c2 x => s'.extBut _ _ cz (xq _ _ c2 (s1.extBut _ _ cT (r1.extBut _ _ c1 (s0.extBut _ _ cz x))))) ⟨ob, s'.extBut _ _ nez h1, h2⟩
    · obtain rfl : i = n1 := by omega
      refine wpAny_bind (D1.done ⟨g0, g, d, t0, os⟩ _ _ (D1.over st1 s0 S.zf1) fun q e xq oe => ?_)
      replace xq : Heap.ExtBut i1 g0 q := xq
      obtain ⟨ob, h1, h2⟩ := oe; replace h1 : q.get? e = some ob := h1
      have Zq : ZF q z TI TO .ellipsis f := xq _ _ S.zi1 zz0
      have nez : e ≠ z := fun x => by subst x; have y : q.get? e = _ := Zq; rw [y] at h1; cases h1; simp at h2
      refine wpAny_setField_rec (s := ⟨q, g, d, t0, os⟩) Zq (by simp) fun q' _ s' => ?_
      replace s' : Heap.SameBut z q q' := s'
      exact k q' t0 e (fun c o cz cT c1 c2 x => s'.extBut _ _ cz (xq _ _ c1 (s0.extBut _ _ cz x))) ⟨ob, s'.extBut _ _ nez h1, h2⟩
  · replace s0 : Heap.SameBut z hp g0 := s0
    simp only [Bool.false_eq_true, if_false]
    refine wpAny_bind ?_; rw [← Array.forIn_toList]; simp only [List.forIn_cons, List.forIn_nil]
    refine wpAny_bind (wpAny_bind (wpAny_holding ?_))
    show wpAny _ _ (Builtin.SmallTypes.nextOf (.ref i1) >>= fun r => _) _ _ ⟨g0, g, d, t0, os⟩
    by_cases lt1 : i < n1
    · refine wpAny_bind (D1.item i _ _ _ lt1 (D1.over st1 s0 S.zf1) fun x1 p1 t1 e1 y1 r1 => wpAny_pure (wpAny_pure ?_))
      replace r1 : Heap.SameBut i1 g0 p1 := r1
      refine wpAny_bind (wpAny_bind (wpAny_holding ?_))
      show wpAny _ _ (Builtin.SmallTypes.nextOf (.ref i2) >>= fun r => _) _ _ ⟨p1, g, d, t1, os⟩
      obtain rfl : i = n2 := by omega
      refine wpAny_bind (D2.done ⟨p1, g, d, t1, os⟩ _ _ (D2.over (D2.over st2 s0 S.zf2) r1 S.sep1_2) fun q e xq oe => ?_)
      replace xq : Heap.ExtBut i2 p1 q := xq
      exact k q t1 e (fun c o cz cT c1 c2 x => xq _ _ c2 (r1.extBut _ _ c1 (s0.extBut _ _ cz x))) oe
    · obtain rfl : i = n1 := by omega
      refine wpAny_bind (D1.done ⟨g0, g, d, t0, os⟩ _ _ (D1.over st1 s0 S.zf1) fun q e xq oe => ?_)
      replace xq : Heap.ExtBut i1 g0 q := xq
      exact k q t0 e (fun c o cz cT c1 c2 x => xq _ _ c1 (s0.extBut _ _ cz x)) oe
theorem nextZ_item {Q : Value → Shared → Prop} (S : ZipSep2 z TI TO i1 i2 fp1 fp2) (D1 : Draws prog w A.in1 i1 fp1 n1 P1 St1) (D2 : Draws prog w A.in1 i2 fp2 n2 P2 St2)
    (hz : ZF s.heap z TI TO v f) (hv : HV v) (hTI : IsTupOf2 s.heap TI (.ref i1) (.ref i2)) (hTO : IsTupOf2 s.heap TO a1 a2) (st1 : St1 i s.heap) (st2 : St2 i s.heap) (lt1 : i < n1) (lt2 : i < n2)
    (k : ∀ x1 x2 h' tk v' f' b1 b2, P1 i x1 → P2 i x2 → HV v' → ZF h' z TI TO v' f' → IsTupOf2 h' TO b1 b2 → St1 (i + 1) h' → St2 (i + 1) h' → IsTupOf2 h' s.heap.objs.size x1 x2 → h'.objs.size = s.heap.objs.size + 1 →
      (∀ c o, c ≠ z → c ≠ TO → c ≠ i1 → c ≠ i2 → s.heap.get? c = some o → h'.get? c = some o) → Q (.ref s.heap.objs.size) { s with heap := h', toks := tk }) :
    wpAny (model prog w) A (Builtin.SmallTypes.nextOf (.ref z)) Q E s := by
  have hT : s.TypeIs (.ref z) "zip" := ⟨_, hz, rfl⟩
  unfold Builtin.SmallTypes.nextOf
  refine wpAny_bind (wpAny_callSpecial?_slot (name := Str.ofString "__next__") hT F.slot_zip_next (wpAny_call_entry F.slot_zip_next hT F.entry_zip_next ?_ (F.args_zip_next_1 _)))
  exact zipN_item S D1 D2 hz hv hTI hTO st1 st2 lt1 lt2 fun x1 x2 h' tk v' f' b1 b2 c1 c2 c3 c4 c5 c6 c7 c8 c9 c10 => wpAny_pure (k x1 x2 h' tk v' f' b1 b2 c1 c2 c3 c4 c5 c6 c7 c8 c9 c10)
theorem nextZ_end {Q : Value → Shared → Prop} (S : ZipSep2 z TI TO i1 i2 fp1 fp2) (D1 : Draws prog w A.in1 i1 fp1 n1 P1 St1) (D2 : Draws prog w A.in1 i2 fp2 n2 P2 St2)
    (hz : ZF s.heap z TI TO v f) (hv : HV v) (hTI : IsTupOf2 s.heap TI (.ref i1) (.ref i2)) (hTO : IsTupOf2 s.heap TO a1 a2) (st1 : St1 i s.heap) (st2 : St2 i s.heap) (le1 : i ≤ n1) (le2 : i ≤ n2) (hend : i = n1 ∨ i = n2)
    (k : ∀ h' tk e, (∀ c o, c ≠ z → c ≠ TO → c ≠ i1 → c ≠ i2 → s.heap.get? c = some o → h'.get? c = some o) → (∃ o, h'.get? e = some o ∧ o.cls = .type "StopIteration") → E (.ref e) { s with heap := h', toks := tk }) :
    wpAny (model prog w) A (Builtin.SmallTypes.nextOf (.ref z)) Q E s := by
  have hT : s.TypeIs (.ref z) "zip" := ⟨_, hz, rfl⟩
  unfold Builtin.SmallTypes.nextOf
  exact wpAny_bind (wpAny_callSpecial?_slot (name := Str.ofString "__next__") hT F.slot_zip_next (wpAny_call_entry F.slot_zip_next hT F.entry_zip_next (zipN_end S D1 D2 hz hv hTI hTO st1 st2 le1 le2 hend k) (F.args_zip_next_1 _)))
/-- the enumerate's step over such a zip -/
theorem enumZ_item {e : Addr} {old : Value} {Q : Option Value → Shared → Prop} (S : ZipSep2 z TI TO i1 i2 fp1 fp2) (D1 : Draws prog w A.in1.in1 i1 fp1 n1 P1 St1) (D2 : Draws prog w A.in1.in1 i2 fp2 n2 P2 St2)
    (he : IsEnum s.heap e z i old) (ez : e ≠ z) (eT : e ≠ TO) (e1 : e ∉ fp1) (e2 : e ∉ fp2)
    (hz : ZF s.heap z TI TO v f) (hv : HV v) (hTI : IsTupOf2 s.heap TI (.ref i1) (.ref i2)) (hTO : IsTupOf2 s.heap TO a1 a2) (st1 : St1 i s.heap) (st2 : St2 i s.heap) (lt1 : i < n1) (lt2 : i < n2)
    (k : ∀ x1 x2 h' tk t v' f' b1 b2, P1 i x1 → P2 i x2 → HV v' → ZF h' z TI TO v' f' → IsTupOf2 h' TO b1 b2 → St1 (i + 1) h' → St2 (i + 1) h' → IsTupOf2 h' s.heap.objs.size x1 x2 → h'.objs.size = s.heap.objs.size + 2 →
      IsTupOf2 h' (s.heap.objs.size + 1) (.int i t) (.ref s.heap.objs.size) → IsEnumOut h' e z ((i : Int) + 1) (.ref s.heap.objs.size) (s.heap.objs.size + 1) →
      (∀ c o, c ≠ e → c ≠ z → c ≠ TO → c ≠ i1 → c ≠ i2 → s.heap.get? c = some o → h'.get? c = some o) → Q (some (.ref (s.heap.objs.size + 1))) { s with heap := h', toks := tk }) :
    wpAny (model prog w) A (pyNext (.ref e)) Q E s := by
  have hT : s.TypeIs (.ref e) "enumerate" := ⟨_, he, rfl⟩
  unfold pyNext
  refine wpAny_bind (wpAny_attempt (wpAny_callSpecial?_slot (name := Str.ofString "__next__") hT F.slot_enumerate_next (wpAny_call_entry F.slot_enumerate_next hT F.entry_enumerate_next ?_ (F.args_enumerate_next_1 _))))
  obtain ⟨hp, g, d, t0, os⟩ := s
  have ei1 : e ≠ i1 := fun q => e1 (q ▸ S.mem1)
  have ei2 : e ≠ i2 := fun q => e2 (q ▸ S.mem2)
  have elt : e < hp.objs.size := Heap.lt_size he
  show wpAny _ _ (field (.ref e) 2 >>= fun r => _) _ _ _; refine wpAny_bind (wpAny_field he rfl (x := .ref z) rfl ?_)
  refine wpAny_bind (nextZ_item S D1 D2 hz hv hTI hTO st1 st2 lt1 lt2 fun x1 x2 q t v' f' b1 b2 c1 c2 c3 c4 c5 c6 c7 c8 c9 c10 => ?_)
  replace c8 : IsTupOf2 q hp.objs.size x1 x2 := c8; replace c9 : q.objs.size = hp.objs.size + 1 := c9; replace c10 : ∀ c o, c ≠ z → c ≠ TO → c ≠ i1 → c ≠ i2 → hp.get? c = some o → q.get? c = some o := c10
  have E1 : IsEnum q e z i old := c10 _ _ ez eT ei1 ei2 he
  show wpAny _ _ (field (.ref e) 3 >>= fun r => _) _ _ ⟨q, g, d, t, os⟩; refine wpAny_bind (wpAny_field E1 rfl (x := rawInt i) rfl ?_)
  show wpAny _ _ (field (.ref e) 4 >>= fun r => _) _ _ ⟨q, g, d, t, os⟩; refine wpAny_bind (wpAny_field E1 rfl (x := .none) rfl ?_)
  show wpAny _ _ (mkInt i >>= fun r => _) _ _ ⟨q, g, d, t, os⟩; refine wpAny_bind (wpAny_mkInt ?_)
  show wpAny _ _ (setField (.ref e) 3 (rawInt ((i : Int) + 1)) >>= fun r => _) _ _ ⟨q, g, d, t + 1, os⟩
  refine wpAny_bind (wpAny_setField_rec E1 (by simp) fun q2 E2 r2 => ?_)
  replace r2 : Heap.SameBut e q q2 := r2; replace E2 : IsEnum q2 e z ((i : Int) + 1) old := E2
  show wpAny _ _ (setField (.ref e) 4 .none >>= fun r => _) _ _ ⟨q2, g, d, t + 1, os⟩
  refine wpAny_bind (wpAny_setField_rec E2 (by simp) fun q3 E3 r3 => ?_)
  replace r3 : Heap.SameBut e q2 q3 := r3; replace E3 : IsEnum q3 e z ((i : Int) + 1) old := E3
  show wpAny _ _ (newTuple [.int i t, .ref hp.objs.size] >>= fun r => _) _ _ ⟨q3, g, d, t + 1, os⟩; refine wpAny_bind (wpAny_newTuple ?_)
  have E4 : IsEnum (q3.push { cls := .type "tuple", data := .seq #[.int i t, .ref hp.objs.size] }) e z ((i : Int) + 1) old := Heap.get?_push_of_some _ E3
  generalize eq4 : q3.push { cls := .type "tuple", data := .seq #[.int i t, .ref hp.objs.size] } = q4 at E4
  have z3 : q3.objs.size = hp.objs.size + 1 := by rw [r3.1, r2.1, c9]
  have T4 : IsTupOf2 q4 (hp.objs.size + 1) (.int i t) (.ref hp.objs.size) := by rw [← eq4, ← z3]; exact Heap.get?_push_size _ rfl
  have z4 : q4.objs.size = hp.objs.size + 2 := by rw [← eq4, Heap.size_push, z3]
  have up4 : ∀ c o, c ≠ e → q.get? c = some o → q4.get? c = some o := fun c o ce x => by rw [← eq4]; exact Heap.get?_push_of_some _ (r3.extBut _ _ ce (r2.extBut _ _ ce x))
  show wpAny _ _ (Builtin.SmallTypes.ownedTupleIsFree (.ref e) >>= fun r => _) _ _ ⟨q4, g, d, t + 1, os⟩
  rw [z3]; clear eq4 E3 r3 E2 r2 q2 z3 q3
  refine wpAny_bind ?_
  unfold Builtin.SmallTypes.ownedTupleIsFree
  refine wpAny_bind (wpAny_field E4 rfl (x := .none) rfl (wpAny_pure ?_)); simp only [if_true]
  refine wpAny_bind (wpAny_rule (wpAny_bind (wpAny_field E4 rfl (x := old) rfl (wpAny_bind (wpAny_setField_rec E4 (by simp) fun q5 E5 r5 => ?_)))))
  replace r5 : Heap.SameBut e q4 q5 := r5; replace E5 : IsEnum q5 e z ((i : Int) + 1) (.ref hp.objs.size) := E5
  show wpAny _ _ (Builtin.SmallTypes.ownedTupleHandOut (.ref e) (.ref (hp.objs.size + 1)) >>= fun r => _) _ _ ⟨q5, g, d, t + 1, os⟩
  refine wpAny_bind ?_; unfold Builtin.SmallTypes.ownedTupleHandOut
  refine wpAny_bind (wpAny_setField_rec E5 (by simp) fun q6 E6 r6 => ?_)
  replace r6 : Heap.SameBut e q5 q6 := r6; replace E6 : IsEnumOut q6 e z ((i : Int) + 1) (.ref hp.objs.size) (hp.objs.size + 1) := E6
  refine wpAny_setField_rec E6 (by simp) fun q7 E7 r7 => ?_
  replace r7 : Heap.SameBut e q6 q7 := r7; replace E7 : IsEnumOut q7 e z ((i : Int) + 1) (.ref hp.objs.size) (hp.objs.size + 1) := E7
  have up7 : ∀ c o, c ≠ e → q4.get? c = some o → q7.get? c = some o := fun c o ce x => r7.extBut _ _ ce (r6.extBut _ _ ce (r5.extBut _ _ ce x))
  have up : ∀ c o, c ≠ e → q.get? c = some o → q7.get? c = some o := fun c o ce x => up7 _ _ ce (up4 _ _ ce x)
  have z7 : q7.objs.size = hp.objs.size + 2 := by rw [r7.1, r6.1, r5.1, z4]
  refine wpAny_bind (wpAny_letGo (wpAny_pure ⟨_, rfl, wpAny_pure ?_⟩))
  exact k x1 x2 q7 (t + 1) t v' f' b1 b2 c1 c2 c3 (up _ _ ez.symm c4) (up _ _ eT.symm c5) (D1.frame _ _ _ c6 fun b hb o x => up b o (fun y => e1 (y ▸ hb)) x) (D2.frame _ _ _ c7 fun b hb o x => up b o (fun y => e2 (y ▸ hb)) x)
    (up _ _ (Nat.ne_of_gt elt) c8) z7 (up7 _ _ (Nat.ne_of_gt (Nat.lt_succ_of_lt elt)) T4) E7 fun c o ce cz cT d1 d2 x => up c o ce (c10 c o cz cT d1 d2 x)
theorem enumZ_end {e : Addr} {j : Int} {old : Value} {Q : Option Value → Shared → Prop} (S : ZipSep2 z TI TO i1 i2 fp1 fp2) (D1 : Draws prog w A.in1.in1 i1 fp1 n1 P1 St1) (D2 : Draws prog w A.in1.in1 i2 fp2 n2 P2 St2)
    (he : IsEnum s.heap e z j old) (hz : ZF s.heap z TI TO v f) (hv : HV v) (hTI : IsTupOf2 s.heap TI (.ref i1) (.ref i2)) (hTO : IsTupOf2 s.heap TO a1 a2) (st1 : St1 i s.heap) (st2 : St2 i s.heap) (le1 : i ≤ n1) (le2 : i ≤ n2) (hend : i = n1 ∨ i = n2)
    (k : ∀ h' tk, (∀ c o, c ≠ z → c ≠ TO → c ≠ i1 → c ≠ i2 → s.heap.get? c = some o → h'.get? c = some o) → Q none { s with heap := h', toks := tk }) :
    wpAny (model prog w) A (pyNext (.ref e)) Q E s := by
  have hT : s.TypeIs (.ref e) "enumerate" := ⟨_, he, rfl⟩
  unfold pyNext
  refine wpAny_bind (wpAny_attempt (wpAny_callSpecial?_slot (name := Str.ofString "__next__") hT F.slot_enumerate_next (wpAny_call_entry F.slot_enumerate_next hT F.entry_enumerate_next ?_ (F.args_enumerate_next_1 _))))
  show wpAny _ _ (field (.ref e) 2 >>= fun r => _) _ _ _; refine wpAny_bind (wpAny_field he rfl (x := .ref z) rfl ?_)
  refine wpAny_bind (nextZ_end S D1 D2 hz hv hTI hTO st1 st2 le1 le2 hend fun h' tk x kp hx => ?_)
  obtain ⟨o, ho, hc⟩ := hx
  refine wpAny_bind (wpAny_isInstance (T := "StopIteration") (b := true) ⟨o, ho, hc⟩ isSubtype_stop ?_)
  exact wpAny_pure (k h' tk kp)
theorem meets_enumZ (z : Addr) (TI TO : Addr) :
    Meets (Builtin.«enumerate.__new__» ⟨[.type "enumerate", .ref z], []⟩) (fun _ R s => IsZip s.heap z TI TO .none ∧
      R (.ok (.ret (.ref s.heap.objs.size))) { s with heap := s.heap.push { cls := .type "enumerate", data := .fields #[.none, .bool false, .ref z, rawInt 0, .none, .none] } }) :=
  .of_wp fun prog w A R s h => by
    obtain ⟨hp, g, d, tk, os⟩ := s; obtain ⟨h1, h⟩ := h
    have hsub := sub_enumerate
    have q1 : ∀ {A' : Around} {E : Value → Shared → Prop} {Q : Value → Shared → Prop}, Q (.ref z) ⟨hp, g, d, tk, os⟩ → wpAny (model prog w) A' (pyIter (.ref z)) Q E ⟨hp, g, d, tk, os⟩ := fun q => wpAny_pyIter_zip h1 q
    wp_walk using q1
    refine wpAny_stack_any fun st => wpAny_pure ?_
    split
    · rename_i c _ _ _ _ _
      cases (c == Value.type "enumerate") <;> (wp_walk using q1; exact ⟨_, rfl, h⟩)
    · wp_walk using q1
      exact ⟨_, rfl, h⟩
theorem call_enumZ {Q : Value → Shared → Prop} (hz : IsZip s.heap z TI TO .none)
    (k : ∀ h', IsEnum h' s.heap.objs.size z 0 .none → h'.objs.size = s.heap.objs.size + 1 → (∀ b o, s.heap.get? b = some o → h'.get? b = some o) → Q (.ref s.heap.objs.size) { s with heap := h' }) :
    wpAny (model prog w) A (call (.type "enumerate") [.ref z]) Q E s := by
  refine callType_new F.called_enumerate (by decide) (F.typeCall_enumerate_1 _) (F.newCall_enumerate_1 _) (fun obj => F.args_object_init_2 obj _) F.entry_enumerate_new (meets_enumZ z TI TO) ⟨hz, ?_⟩
  have he : IsEnum (s.heap.push { cls := .type "enumerate", data := .fields #[.none, .bool false, .ref z, rawInt 0, .none, .none] }) s.heap.objs.size z 0 .none := Heap.get?_push_size _ rfl
  exact ⟨⟨_, he, rfl⟩, k _ he (Heap.size_push ..) fun b o y => Heap.get?_push_of_some _ y⟩
end
/-- the turns: a pair of the number and a pair, both new -/
def ItZ (vals : Nat → List V) (n : Nat) : It := ⟨fun i _ => i < n, fun i H v H' => ∃ T T1, v = .ref T ∧ H T1 = none ∧ H T = none ∧ T ≠ T1 ∧ H' = upd (upd H T1 (.tup (vals i))) T (.tup [.int (i : Nat), .ref T1]), fun i _ => i = n⟩
/-- what an enumerate e over a zip z over two iterators is, behind i turns -/
def EZ (e z TI TO i1 i2 : Addr) (St1 St2 : Nat → Heap → Prop) (i : Nat) (h : Heap) : Prop :=
  (∃ old, IsEnum h e z i old) ∧ (∃ v f, HV v ∧ ZF h z TI TO v f) ∧ IsTupOf2 h TI (.ref i1) (.ref i2) ∧ (∃ a1 a2, IsTupOf2 h TO a1 a2) ∧ St1 i h ∧ St2 i h
theorem turn_Z {P : Program} {w : World} {K : PySem.W.Frag} {elts : List Expr} {kk : Nat} {tpos : Pos} {e z TI TO i1 i2 : Addr} {fp1 fp2 : List Addr} {n1 n2 : Nat} {P1 P2 : Nat → Value → Prop} {St1 St2 : Nat → Heap → Prop} {vals : Nat → List V}
    (S : ZipSep2 z TI TO i1 i2 fp1 fp2) (D1 : ∀ A : Around, A.handled = none → Draws P w A i1 fp1 n1 P1 St1) (D2 : ∀ A : Around, A.handled = none → Draws P w A i2 fp2 n2 P2 St2)
    (ez : e ≠ z) (eT : e ≠ TO) (eTI : e ≠ TI) (e1 : e ∉ fp1) (e2 : e ∉ fp2) (c1 : ∀ i h, St1 i h → ∀ b ∈ fp1, ∃ o, h.get? b = some o ∧ ∀ v, o.data ≠ .cell v) (c2 : ∀ i h, St2 i h → ∀ b ∈ fp2, ∃ o, h.get? b = some o ∧ ∀ v, o.data ≠ .cell v)
    (tell : ∀ i x y, P1 i x → P2 i y → Vals (vals i) [x, y]) (few : ∀ i, (vals i).length ≤ sizeLine) :
    Turn P w K (.Tuple elts kk tpos) (ItZ vals (min n1 n2)) (e :: z :: TI :: TO :: (fp1 ++ fp2)) e (EZ e z TI TO i1 i2 St1 St2) where
  mem := by simp
  obj := by
    rintro i h ⟨⟨old, he⟩, ⟨v, f, hv, hz⟩, hTI, ⟨a1, a2, hTO⟩, st1, st2⟩ b hb
    have hb' : b = e ∨ b = z ∨ b = TI ∨ b = TO ∨ b ∈ fp1 ∨ b ∈ fp2 := by simpa using hb
    rcases hb' with rfl | rfl | rfl | rfl | h1 | h1
    · exact ⟨_, he, fun v z => nomatch z⟩
    · exact ⟨_, hz, fun v z => nomatch z⟩
    · exact ⟨_, hTI, fun v z => nomatch z⟩
    · exact ⟨_, hTO, fun v z => nomatch z⟩
    · exact c1 i h st1 b h1
    · exact c2 i h st2 b h1
  keep := by
    rintro i h h' ⟨⟨old, he⟩, ⟨v, f, hv, hz⟩, hTI, ⟨a1, a2, hTO⟩, st1, st2⟩ k
    exact ⟨⟨old, k _ (by simp) _ he⟩, ⟨v, f, hv, k _ (by simp) _ hz⟩, k _ (by simp) _ hTI, ⟨a1, a2, k _ (by simp) _ hTO⟩, (D1 {} rfl).frame _ _ _ st1 fun b hb o x => k b (by simp [hb]) o x, (D2 {} rfl).frame _ _ _ st2 fun b hb o x => k b (by simp [hb]) o x⟩
  item := by
    rintro X rfl rfl rfl calm i pins s σ H E I apart ⟨⟨old, he⟩, ⟨v, f, hv, hz⟩, hTI, ⟨a1, a2, hTO⟩, st1, st2⟩ go
    have hh := I.ok.hd calm
    have lt1 : i < n1 := Nat.lt_of_lt_of_le go (Nat.min_le_left ..)
    have lt2 : i < n2 := Nat.lt_of_lt_of_le go (Nat.min_le_right ..)
    refine enumZ_item S (D1 _ hh) (D2 _ hh) he ez eT e1 e2 hz hv hTI hTO st1 st2 lt1 lt2 fun x1 x2 h' tk t v' f' b1 b2 p1 p2 hv' hz' hTO' s1' s2' hT1 hsz hT hE kp => ⟨_, rfl, ?_⟩
    refine wpAny_letOwnedTupleGo_enum hE fun h2 hE2 sb => ?_
    replace sb : Heap.SameBut e h' h2 := sb
    have elt : e < s.heap.objs.size := Heap.lt_size he
    have up : ∀ c o, c ≠ e → h'.get? c = some o → h2.get? c = some o := fun c o ce x => sb.extBut _ _ ce x
    have fp_e : ∀ b ∈ e :: z :: TI :: TO :: (fp1 ++ fp2), b < s.heap.objs.size := fun b hb => by
      have hb' : b = e ∨ b = z ∨ b = TI ∨ b = TO ∨ b ∈ fp1 ∨ b ∈ fp2 := by simpa using hb
      rcases hb' with rfl | rfl | rfl | rfl | q | q
      · exact elt
      · exact Heap.lt_size hz
      · exact Heap.lt_size hTI
      · exact Heap.lt_size hTO
      · obtain ⟨o, ho, _⟩ := c1 _ _ st1 _ q; exact Heap.lt_size ho
      · obtain ⟨o, ho, _⟩ := c2 _ _ st2 _ q; exact Heap.lt_size ho
    -- the inner tuple first
    have q1 : H s.heap.objs.size = none := I.hok.fresh (Nat.le_refl _)
    have I1 : Inv X pins σ (upd H s.heap.objs.size (.tup (vals i))) { s with heap := s.heap.push { cls := .type "tuple", data := .seq #[x1, x2] } } := by
      refine I.laid (t' := s.toks) (fun b u e => Heap.get?_push_of_some _ e) (Nat.le_refl _) ⟨few i, [x1, x2], tell i _ _ p1 p2, _, Heap.get?_push_size _ rfl, rfl, _, rfl⟩
    have n1' : s.heap.objs.size + 1 ≠ s.heap.objs.size := Nat.succ_ne_self _
    have I2 : Inv X pins σ (upd (upd H s.heap.objs.size (.tup (vals i))) (s.heap.objs.size + 1) (.tup [.int (i : Nat), .ref s.heap.objs.size])) { s with heap := h2, toks := tk } := by
      refine I1.turnedNew (ch := e :: z :: TI :: TO :: (fp1 ++ fp2)) (fun b u hb q => ?_) (fun b hb => ?_) (by show (s.heap.push _).objs.size ≤ _; rw [Heap.size_push]; exact Nat.le_refl _) ⟨by show 2 ≤ sizeLine; decide, [.int i t, .ref s.heap.objs.size], .cons ⟨t, rfl⟩ (.cons rfl .nil), _, up _ _ (Nat.ne_of_gt (Nat.lt_succ_of_lt elt)) hT, rfl, _, rfl⟩
      · have nb : b ≠ e ∧ b ≠ z ∧ b ≠ TI ∧ b ≠ TO ∧ b ∉ fp1 ∧ b ∉ fp2 := by simpa using hb
        replace q : (s.heap.push { cls := .type "tuple", data := .seq #[x1, x2] }).get? b = some u := q
        by_cases hbs : b = s.heap.objs.size
        · subst hbs
          have y := Heap.get?_push_size s.heap (o := { cls := .type "tuple", data := .seq #[x1, x2] }) rfl
          rw [y] at q
          cases q
          exact up _ _ nb.1 hT1
        · have y : s.heap.get? b = some u := by rw [← q]; exact (Heap.get?_push_ne _ _ _ hbs).symm
          exact up _ _ nb.1 (kp b u nb.1 nb.2.1 nb.2.2.2.1 (fun z => nb.2.2.2.2.1 (z ▸ S.mem1)) (fun z => nb.2.2.2.2.2 (z ▸ S.mem2)) y)
      · have a := apart b hb
        refine ⟨?_, a.2⟩
        rw [upd_ne (Nat.ne_of_lt (fp_e b hb))]
        exact a.1
    refine ⟨.ref (s.heap.objs.size + 1), _, I2, rfl, ⟨_, _, rfl, q1, I.hok.fresh (Nat.le_succ _), n1', rfl⟩, ⟨⟨_, by have y := hE2; push_cast at y ⊢; exact y⟩, ⟨v', f', hv', up _ _ ez.symm hz'⟩, up _ _ eTI.symm (kp _ _ eTI.symm S.TIz S.TITO S.TIi1 S.TIi2 hTI), ⟨b1, b2, up _ _ eT.symm hTO'⟩,
      (D1 {} rfl).frame _ _ _ s1' fun b hb o x => up b o (fun y => e1 (y ▸ hb)) x, (D2 {} rfl).frame _ _ _ s2' fun b hb o x => up b o (fun y => e2 (y ▸ hb)) x⟩, fun b hb => ?_⟩
    have lt := fp_e b hb
    rw [upd_ne (Nat.ne_of_lt (Nat.lt_succ_of_lt lt)), upd_ne (Nat.ne_of_lt lt)]
    exact (apart b hb).1
  done := by
    rintro X rfl rfl rfl calm i pins s σ H E I apart ⟨⟨old, he⟩, ⟨v, f, hv, hz⟩, hTI, ⟨a1, a2, hTO⟩, st1, st2⟩ stop
    have hh := I.ok.hd calm
    have eqi : i = min n1 n2 := stop
    refine enumZ_end S (D1 _ hh) (D2 _ hh) he hz hv hTI hTO st1 st2 (by rw [eqi]; exact Nat.min_le_left ..) (by rw [eqi]; exact Nat.min_le_right ..) (by omega) fun h' tk kp => ⟨rfl, ?_⟩
    refine I.turnedL (ch := e :: z :: TI :: TO :: (fp1 ++ fp2)) (fun b u hb q => ?_) apart
    have nb : b ≠ e ∧ b ≠ z ∧ b ≠ TI ∧ b ≠ TO ∧ b ∉ fp1 ∧ b ∉ fp2 := by simpa using hb
    exact kp b u nb.2.1 nb.2.2.2.1 (fun z => nb.2.2.2.2.1 (z ▸ S.mem1)) (fun z => nb.2.2.2.2.2 (z ▸ S.mem2)) q
  self := fun A i s Q E st q => wpAny_pyIter_enum st.1.choose_spec q
section
variable {X : Cx} {elts : List Expr} {kk : Nat} {tpos p pos p2 pos2 : Pos} {e1 e2 : Expr} {ta : TA}
def iEnumZ (ta : TA) : TI := fun σ H R => ta σ H fun vs H1 => ∃ x y : Str, vs = [.str x, .str y] ∧ R (ItZ (fun i => [.str (sgn x i), .str (sgn y i)]) (min x.cps.size y.cps.size)) H1
theorem pi_enumZ (hg : Gl X "enumerate") (hm : X.mg "enumerate" = none) (hg2 : Gl X "zip") (hm2 : X.mg "zip" = none) (ha : PA X [e1, e2] ta)
    (hs0 : starEach [Expr.Call (.Name "zip" p2) [e1, e2] [] pos2] X.env = [(false, eval (Expr.Call (.Name "zip" p2) [e1, e2] [] pos2) X.env)] := by rfl)
    (hs : starEach [e1, e2] X.env = (false, eval e1 X.env) :: starEach [e2] X.env := by rfl) (hp : (backTo pos2 (starEach [e2] X.env)).any (·.1) = false := by rfl) :
    PI X (.Tuple elts kk tpos) (.Call (.Name "enumerate" p) [.Call (.Name "zip" p2) [e1, e2] [] pos2] [] pos) (iEnumZ ta) := by
  constructor
  intro pins s σ H R I h
  refine Call_ (ld_blt I hg hm boot_enumerate (callWith_type1 ?_ hs0 rfl))
  rw [hs0]
  show wpAny _ _ (spliced ((false, eval (Expr.Call (.Name "zip" p2) [e1, e2] [] pos2) X.env) :: backTo pos [])) _ _ s
  refine Calls.spliced_cons (Call_ (ld_blt I hg2 hm2 PyProof.Rows.boot_zip (callWith_type1 ?_ hs hp)))
  apply thn (ha.run pos2 pins s σ H _ I h)
  rintro us s1 ⟨vs, H1, I1, rel, x, y, rfl, q⟩
  obtain ⟨u1, u2, rfl, r1, r2⟩ := vals2 rel
  obtain ⟨t1, rfl⟩ := (show ∃ t, u1 = Value.str x t from r1)
  obtain ⟨t2, rfl⟩ := (show ∃ t, u2 = Value.str y t from r2)
  apply zip_begins2 (begins_text x t1) (begins_text y t2) trivial trivial
  intro h' hz hTI hTO g1 g2 hsz keep
  refine Calls.spliced_nil ?_
  refine call_enumZ (s := { s1 with heap := h' }) hz fun h2 hE hsz2 keep2 => ?_
  replace hsz2 : h2.objs.size = h'.objs.size + 1 := hsz2; replace keep2 : ∀ b o, h'.get? b = some o → h2.get? b = some o := keep2
  replace hE : IsEnum h2 h'.objs.size (s1.heap.objs.size + 4) 0 .none := hE
  show wpAny _ _ (pyIter (.ref h'.objs.size)) _ _ _
  rw [hsz] at hE ⊢
  apply wpAny_pyIter_enum hE
  have I2 : Inv X pins σ H1 { s1 with heap := h2 } := I1.kept (t' := s1.toks) fun b u z => keep2 _ _ (keep _ _ z)
  have S := zip_sep2 (N := s1.heap.objs.size) (fp1 := []) (fp2 := []) (fun b z => nomatch z) (fun b z => nomatch z)
  have one : ∀ {b c : Addr}, b ∈ ([c] : List Addr) → b = c := fun z => List.mem_singleton.mp z
  refine ⟨s1.heap.objs.size + 5, _, _, _, H1, rfl, I2, turn_Z (e := s1.heap.objs.size + 5) S (fun A hh => draws_text hh _ x t1) (fun A hh => draws_text hh _ y t2) (by show (_ : Nat) ≠ _; omega) (by show (_ : Nat) ≠ _; omega) (by show (_ : Nat) ≠ _; omega) (fun z => absurd (one z) (by show (_ : Nat) ≠ _; omega)) (fun z => absurd (one z) (by show (_ : Nat) ≠ _; omega))
      (fun i h st b hb => by rw [one hb]; exact text_cell st) (fun i h st b hb => by rw [one hb]; exact text_cell st) (fun i a b pa pb => .cons (rel_sgn pa) (.cons (rel_sgn pb) .nil)) (fun i => by show 2 ≤ sizeLine; decide),
    ⟨⟨.none, hE⟩, ⟨.none, false, .inl rfl, keep2 _ _ hz⟩, keep2 _ _ hTI, ⟨_, _, keep2 _ _ hTO⟩, text_begun (keep2 _ _ g1), text_begun (keep2 _ _ g2)⟩, fun b hb => ?_, q⟩
  have hb' : b = s1.heap.objs.size + 5 ∨ b = s1.heap.objs.size + 4 ∨ b = s1.heap.objs.size + 2 ∨ b = s1.heap.objs.size + 3 ∨ b = s1.heap.objs.size ∨ b = s1.heap.objs.size + 1 := by simpa using hb
  have le : s1.heap.objs.size ≤ b := by rcases hb' with rfl | rfl | rfl | rfl | rfl | rfl <;> (show (_ : Nat) ≤ _; omega)
  exact I1.fpOk le (I1.hok.fresh le)
end
theorem lc_Z {vals : Nat → List V} {n : Nat} {g : TG} {tt : TT} {te : TE} {vs : List Nat} {σ : L2.St} {H1 : Hp} {D : Addr} {Qd : Hp → Prop} (Pv : Nat → Hp → Prop) (h0 : Pv 0 (upd H1 D (.lst [])))
    (hs : ∀ i T T1 H, i < n → Pv i H → H T1 = none → H T = none → T ≠ T1 → g (.ref T) (wipe σ vs) (upd (upd H T1 (.tup (vals i))) T (.tup [.int (i : Nat), .ref T1])) fun σ2 H2 => wipe σ2 vs = wipe σ vs ∧ tt σ2 H2 fun b H3 =>
      if b = true then te σ2 H3 fun y H4 => ∃ acc, H4 D = some (.lst acc) ∧ acc.length < sizeLine ∧ Pv (i + 1) (upd H4 D (.lst (acc ++ [y]))) else Pv (i + 1) H3) (hd : ∀ H, Pv n H → Qd H) :
    ∃ W : Nat → Nat → Hp → Prop, (∃ m, W 0 m (upd H1 D (.lst []))) ∧ ∀ i m H, W i m H →
      ((ItZ vals n).stop i H ∧ Qd H) ∨ ((ItZ vals n).go i H ∧ ∃ Nx : Hp → Prop, (∀ H', Nx H' → ∃ m', m' < m ∧ W (i + 1) m' H') ∧ ∀ x H', (ItZ vals n).yld i H x H' → g x (wipe σ vs) H' fun σ2 H2 => wipe σ2 vs = wipe σ vs ∧ tt σ2 H2 fun b H3 =>
        if b = true then te σ2 H3 fun y H4 => ∃ acc, H4 D = some (.lst acc) ∧ acc.length < sizeLine ∧ Nx (upd H4 D (.lst (acc ++ [y]))) else Nx H3) := by
  refine ⟨fun i m H => i + m = n ∧ Pv i H, ⟨n, by omega, h0⟩, fun i m H ⟨hm, p⟩ => ?_⟩
  by_cases lt : i < n
  · refine Or.inr ⟨lt, Pv (i + 1), fun H' p' => ⟨m - 1, by omega, by omega, p'⟩, ?_⟩
    rintro x H' ⟨T, T1, rfl, h1, h2, h3, rfl⟩
    exact hs i T T1 H lt p h1 h2 h3
  · obtain rfl : i = n := by omega
    exact Or.inl ⟨rfl, hd H p⟩
end Fb
set_option maxRecDepth 100000
set_option maxHeartbeats 4000000
namespace Fb
open PySem PySem.Spec PyProof.Rows L2
open SX (S)
/-! the numbers of unlike bits -/
def unlNs (l m : List Nat) : List Nat := (List.range (min (bt l).length (bt m).length)).filter fun i => decide ((bt l).getD i 0 ≠ (bt m).getD i 0)
def unlZ (l m : List Nat) : Nat := ((List.zipWith (fun a b => decide (a ≠ b)) l m).filter id).length
theorem unlZ_cons (a b : Nat) (l m : List Nat) : unlZ (a :: l) (b :: m) = (if a = b then 0 else 1) + unlZ l m := by
  unfold unlZ
  rw [List.zipWith_cons_cons]
  by_cases h : a = b
  · rw [List.filter_cons_of_neg (by simpa using h), if_pos h, Nat.zero_add]
  · rw [List.filter_cons_of_pos (by simpa using h), List.length_cons, if_neg h, Nat.add_comm]
theorem unlNs_bt (l m : List Nat) : (unlNs l m).length = unlZ (bt l) (bt m) := by
  unfold unlNs unlZ
  generalize bt l = l
  generalize bt m = m
  have e : List.zipWith (fun a b => decide (a ≠ b)) l m = (List.range (min l.length m.length)).map fun i => decide (l.getD i 0 ≠ m.getD i 0) := by
    refine List.ext_getElem? fun i => ?_
    by_cases hi : i < min l.length m.length
    · have z1 := List.getElem?_eq_getElem (show i < l.length by omega)
      have z2 := List.getElem?_eq_getElem (show i < m.length by omega)
      rw [List.getElem?_zipWith, List.getElem?_map, List.getElem?_range hi, z1, z2]
      show some (decide (l[i] ≠ m[i])) = some (decide (l.getD i 0 ≠ m.getD i 0))
      rw [List.getD_eq_getElem?_getD, List.getD_eq_getElem?_getD, z1, z2]
      rfl
    · rw [List.getElem?_eq_none (by rw [List.length_zipWith]; omega), List.getElem?_eq_none (by simpa using hi)]
  rw [e, List.filter_map, List.length_map]
  rfl
theorem unlZ_al : ∀ {l m : List Nat}, Al l m → unlZ (bt l) (bt m) = unlZ l m
  | _, _, .nil => rfl
  | a :: l, b :: m, .cons r t => by
    have ih := unlZ_al t
    rcases r with ⟨h1, h2⟩ | ⟨h1, h2⟩
    · subst h1 h2
      rw [unlZ_cons, if_pos rfl, Nat.zero_add]
      exact ih
    · have ha : a ≠ 46 := by rcases h1 with h | h <;> omega
      have hb : b ≠ 46 := by rcases h2 with h | h <;> omega
      have e1 : bt (a :: l) = a :: bt l := by unfold bt; rw [List.filter_cons_of_pos (by simpa using ha)]
      have e2 : bt (b :: m) = b :: bt m := by unfold bt; rw [List.filter_cons_of_pos (by simpa using hb)]
      rw [e1, e2, unlZ_cons, unlZ_cons, ih]
theorem unlNs_len {l m : List Nat} (h : Al l m) : (unlNs l m).length = unlZ l m := (unlNs_bt l m).trans (unlZ_al h)
theorem nums_ln (ns : List Nat) : (nums ns).length = ns.length := by unfold nums; rw [List.length_map]
theorem unlNs_le (l m : List Nat) : (unlNs l m).length ≤ l.length := by
  unfold unlNs
  refine Nat.le_trans (List.length_filter_le _ _) ?_
  rw [List.length_range]
  exact Nat.le_trans (Nat.min_le_left ..) (by unfold bt; exact List.length_filter_le _ _)
theorem lc_outZ {H1 : Hp} {D : Addr} (out : Nat → List V) {vals : Nat → List V} {n : Nat} {g : TG} {tt : TT} {te : TE} {vs : List Nat} {σ : L2.St} {Qd : Hp → Prop} (hD : H1 D = none) (o0 : out 0 = []) (ol : ∀ i, i < n → (out i).length < sizeLine)
    (hs : ∀ i T T1 H (Kc : V → Hp → Prop) (K0 : Hp → Prop), i < n → Same H1 H → H T = some (.tup [.int (i : Nat), .ref T1]) → H T1 = some (.tup (vals i)) → (∀ y H4, Same H H4 → out (i + 1) = out i ++ [y] → Kc y H4) → (∀ H4, Same H H4 → out (i + 1) = out i → K0 H4) →
      g (.ref T) (wipe σ vs) H fun σ2 H2 => wipe σ2 vs = wipe σ vs ∧ tt σ2 H2 fun b H3 => if b = true then te σ2 H3 Kc else K0 H3)
    (hd : ∀ H, Same H1 H → H D = some (.lst (out n)) → Qd H) :
    ∃ W : Nat → Nat → Hp → Prop, (∃ m, W 0 m (upd H1 D (.lst []))) ∧ ∀ i m H, W i m H →
      ((ItZ vals n).stop i H ∧ Qd H) ∨ ((ItZ vals n).go i H ∧ ∃ Nx : Hp → Prop, (∀ H', Nx H' → ∃ m', m' < m ∧ W (i + 1) m' H') ∧ ∀ x H', (ItZ vals n).yld i H x H' → g x (wipe σ vs) H' fun σ2 H2 => wipe σ2 vs = wipe σ vs ∧ tt σ2 H2 fun b H3 =>
        if b = true then te σ2 H3 fun y H4 => ∃ acc, H4 D = some (.lst acc) ∧ acc.length < sizeLine ∧ Nx (upd H4 D (.lst (acc ++ [y]))) else Nx H3) := by
  refine lc_Z (fun i H => OutI H1 D (out i) H) (by rw [o0]; exact OutI.start hD) (fun i T T1 H lt h h1 h2 ne => ?_) (fun H h => hd H h.1 h.2)
  have s0 : Same H (upd H T1 (.tup (vals i))) := smN (Same.refl _) h1
  have s1 : Same H (upd (upd H T1 (.tup (vals i))) T (.tup [.int (i : Nat), .ref T1])) := smN s0 (by rw [upd_ne ne]; exact h2)
  exact hs i T T1 _ _ _ lt (h.1.trans s1) upd_same (by rw [upd_ne (Ne.symm ne)]; exact upd_same) (fun y H4 s q => ⟨out i, (h.stay (s1.trans s)).2, ol i lt, by rw [q]; exact h.put hD (s1.trans s)⟩) (fun H4 s q => by rw [q]; exact h.stay (s1.trans s))
def spUnl : Sp := fun vs H Q _ => ∃ l m, vs = [.str (S l), .str (S m)] ∧ l.length ≤ 1000 ∧ m.length ≤ 1000 ∧ ∀ D H', Same H H' → H D = none → H' D = some (.lst (nums (unlNs l m))) → Q (.ref D) H'
end Fb
set_option maxRecDepth 100000
set_option maxHeartbeats 4000000
namespace Fb
open PySem PySem.Spec PyProof.Rows L2
open SX (S)
/-- an error with one field leaves -/
def OutX (C : Addr) (f : Str) (v : V) (H : Hp) (E : XK) : Prop := ∀ d H', Same H H' → H' d = some (.xd [(f, v)]) → E (.ref C) (some d) H'
theorem OutX.later {C : Addr} {f : Str} {v : V} {H H1 : Hp} {E : XK} (h : OutX C f v H E) (s : Same H H1) : OutX C f v H1 E := fun d H' s' e => h d H' (s.trans s') e
theorem mk_tail {C : Addr} {f : Str} {v : V} {H1 : Hp} {E : XK} (out : OutX C f v H1 E) :
    [v].length ≤ 1000 ∧ ∀ a, H1 a = none → spI1 C f (V.ref a :: ([v] ++ [])) (upd H1 a (exo a C none)) (fun v H2 => v = .non ∧ ∃ (d : Addr) (fs : List (Str × V)), H2 a = some (exo a C (some d)) ∧ H2 d = some (exd d fs) ∧ H1 d = none ∧ E (.ref C) (some d) (upd (del H2 a) d (.xd fs))) (fun _ _ _ => False) := by
  refine ⟨by show 1 ≤ 1000; decide, fun a ha => ⟨a, _, rfl, upd_same, fun d h1 h2 => ⟨rfl, d, _, upd_same, by rw [upd_ne h2]; exact upd_same, by rw [upd_ne h2] at h1; exact h1, ?_⟩⟩⟩
  have hd : H1 d = none := by rw [upd_ne h2] at h1; exact h1
  refine out d _ (fun b o eb => ?_) upd_same
  have nbd := ne_of_none eb hd
  have nba := ne_of_none eb ha
  rw [upd_ne nbd, del_ne nba, upd_ne nba, upd_ne nbd, upd_ne nba]
  exact eb
/-- the first wrong sign of a content of m signs -/
def cfa : List Nat → Nat → Nat → Option Nat
  | [], at_, m => if at_ < m then some at_ else none
  | c :: l, at_, m => if at_ = m ∨ ¬ (c = 48 ∨ c = 49) then some at_ else cfa l (at_ + 1) m
theorem cfa_none : ∀ {l : List Nat} {a m : Nat}, a ≤ m → (cfa l a m = none ↔ (a + l.length = m ∧ ∀ c ∈ l, c = 48 ∨ c = 49))
  | [], a, m, h => by
    unfold cfa
    by_cases e : a < m
    · rw [if_pos e]; simp; omega
    · rw [if_neg e]; simp; omega
  | c :: l, a, m, h => by
    unfold cfa
    by_cases e : a = m ∨ ¬ (c = 48 ∨ c = 49)
    · rw [if_pos e]
      simp only [List.length_cons, List.mem_cons, reduceCtorEq, false_iff]
      rintro ⟨h1, h2⟩
      rcases e with e | e
      · omega
      · exact e (h2 c (.inl rfl))
    · rw [if_neg e]
      have e1 : a ≠ m := fun z => e (.inl z)
      have e2 : c = 48 ∨ c = 49 := by
        by_cases q : c = 48 ∨ c = 49
        · exact q
        · exact absurd (.inr q) e
      rw [cfa_none (l := l) (a := a + 1) (m := m) (by omega)]
      simp only [List.length_cons, List.mem_cons, forall_eq_or_imp]
      constructor
      · rintro ⟨h1, h2⟩; exact ⟨by omega, e2, h2⟩
      · rintro ⟨h1, _, h2⟩; exact ⟨by omega, h2⟩
theorem ix_listK {X : Cx} {K : PySem.W.Frag} (h : X.K = K) : IxR X (rIxL K) := h ▸ ix_list
theorem ix_tupK {X : Cx} {K : PySem.W.Frag} (h : X.K = K) : IxR X (rIxT K) := h ▸ ix_tup
theorem range_getD (ks : List Nat) : (List.range ks.length).map (fun i => ks.getD i 0) = ks := by
  refine List.ext_getElem? fun i => ?_
  by_cases h : i < ks.length
  · rw [List.getElem?_map, List.getElem?_range h, List.getElem?_eq_getElem h]
    show some (ks.getD i 0) = _
    rw [List.getD_eq_getElem?_getD, List.getElem?_eq_getElem h] <;> rfl
  · rw [List.getElem?_eq_none (by simpa using h), List.getElem?_eq_none (by simpa using h)]
theorem outF_list (ks : List Nat) (p : Nat → Bool) (g : Nat → V) : outF (fun i => p (ks.getD i 0)) (fun i => g (ks.getD i 0)) ks.length = (ks.filter p).map g := by
  have e : (ks.filter p).map g = (((List.range ks.length).map (fun i => ks.getD i 0)).filter p).map g := by rw [range_getD]
  rw [e, List.filter_map, List.map_map]
  rfl
/-- the numbers of standing bits -/
def stb (b : List Nat) : List Nat := (List.range b.length).filter fun i => decide (b.getD i 0 = 49)
theorem stb_mem {b : List Nat} {i : Nat} : i ∈ stb b ↔ b[i]? = some 49 := by
  unfold stb
  rw [List.mem_filter, List.mem_range, decide_eq_true_eq, List.getD_eq_getElem?_getD]
  constructor
  · rintro ⟨h1, h2⟩
    rw [List.getElem?_eq_getElem h1] at h2 ⊢
    exact congrArg some h2
  · intro h
    have h1 := (List.getElem?_eq_some_iff.mp h).1
    refine ⟨h1, by rw [h] <;> rfl⟩
theorem inV_bits (c : Nat) : inV (.str (S [c])) [.str "0", .str "1"] = decide (c = 48 ∨ c = 49) := by
  rw [show ("0" : Str) = S [48] by decide +kernel, show ("1" : Str) = S [49] by decide +kernel]
  have e : ∀ a : Nat, eqV (V.str (S [a])) (V.str (S [c])) = decide (c = a) := fun a => by
    show (S [a] == S [c]) = _
    rw [SX.S_beq_eq]
    by_cases h : c = a
    · subst h; simp
    · rw [decide_eq_false h, decide_eq_false (fun z => h (by simpa using z.symm))]
  show ([V.str (S [48]), V.str (S [49])].any fun y => eqV y (V.str (S [c]))) = _
  simp only [List.any_cons, List.any_nil, e, Bool.or_false, Bool.decide_or]
end Fb
set_option maxRecDepth 100000
set_option maxHeartbeats 4000000
namespace Fb
open PySem PySem.Spec PyProof.Rows L2
open SX (S)

def top (i : Nat) : Stmt := PySem.Challenge.pw_fallenbits_k68_moves.main.body.getD i (.Pass ⟨0, 0, 0, 0⟩)

/-! the written part: addresses and defs of the program -/
structure Pz where
  fe : Addr
  cNoPattern : Addr
  a_npi : Addr
  d_npi : FuncData
  cUnlike : Addr
  cNoBit : Addr
  cForeign : Addr
  a_Foreigni : Addr
  d_Foreigni : FuncData
  C : Addr
  kMARKS : Addr
  a_is_whole : Addr
  d_is_whole : FuncData
  a_is_number : Addr
  d_is_number : FuncData
  a_has_pattern_form : Addr
  d_has_pattern_form : FuncData
  a_pattern_fault : Addr
  d_pattern_fault : FuncData
  a_first_wrong_sign : Addr
  d_first_wrong_sign : FuncData
  a_need_pattern : Addr
  d_need_pattern : FuncData
  a_sizes_of : Addr
  d_sizes_of : FuncData
  a_need_sizes : Addr
  d_need_sizes : FuncData
  a_need_bits : Addr
  d_need_bits : FuncData
  a_need_content : Addr
  d_need_content : FuncData
  a_bits_of : Addr
  d_bits_of : FuncData
  a_places_of : Addr
  d_places_of : FuncData
  a_with_fallen : Addr
  d_with_fallen : FuncData
  a_lies_below : Addr
  d_lies_below : FuncData
  a_unlike_sign : Addr
  d_unlike_sign : FuncData
  a_standing_bits : Addr
  d_standing_bits : FuncData
  a_need_rolling : Addr
  d_need_rolling : FuncData
  a_headers_of : Addr
  d_headers_of : FuncData
  a_contents_of : Addr
  d_contents_of : FuncData
  a_live_block : Addr
  d_live_block : FuncData
  a_held_content : Addr
  d_held_content : FuncData
  a_has_spoilt_header : Addr
  d_has_spoilt_header : FuncData
  a_live : Addr
  d_live : FuncData
  a_content : Addr
  d_content : FuncData
  a_can_move : Addr
  d_can_move : FuncData
  a_mark_behind : Addr
  d_mark_behind : FuncData
  a_move : Addr
  d_move : FuncData
abbrev s_NoPattern_init : Stmt := inClass (top 3) 0
theorem sc_NoPattern_init : FnScope ["self", "at"] ["self", "at"] (defScope s_NoPattern_init) := ⟨rfl, rfl, rfl, by decide +kernel, rfl, by decide +kernel, by decide +kernel⟩
abbrev s_Foreign_init : Stmt := inClass (top 6) 0
theorem sc_Foreign_init : FnScope ["self", "found"] ["self", "found"] (defScope s_Foreign_init) := ⟨rfl, rfl, rfl, by decide +kernel, rfl, by decide +kernel, by decide +kernel⟩
abbrev s_is_whole : Stmt := top 8
theorem sc_is_whole : FnScope ["thing"] ["thing"] (defScope s_is_whole) := ⟨rfl, rfl, rfl, by decide +kernel, rfl, by decide +kernel, by decide +kernel⟩
abbrev s_is_number : Stmt := top 9
theorem sc_is_number : FnScope ["thing", "many"] ["thing", "many"] (defScope s_is_number) := ⟨rfl, rfl, rfl, by decide +kernel, rfl, by decide +kernel, by decide +kernel⟩
abbrev s_has_pattern_form : Stmt := top 10
theorem sc_has_pattern_form : FnScope ["text", "parts", "bits"] ["text"] (defScope s_has_pattern_form) := ⟨rfl, rfl, rfl, by decide +kernel, rfl, by decide +kernel, by decide +kernel⟩
abbrev s_pattern_fault : Stmt := top 11
theorem sc_pattern_fault : FnScope ["thing"] ["thing"] (defScope s_pattern_fault) := ⟨rfl, rfl, rfl, by decide +kernel, rfl, by decide +kernel, by decide +kernel⟩
abbrev s_first_wrong_sign : Stmt := top 12
theorem sc_first_wrong_sign : FnScope ["thing", "bits", "blocks", "size", "at", "sign"] ["thing"] (defScope s_first_wrong_sign) := ⟨rfl, rfl, rfl, by decide +kernel, rfl, by decide +kernel, by decide +kernel⟩
abbrev s_need_pattern : Stmt := top 13
theorem sc_need_pattern : FnScope ["thing", "at"] ["thing"] (defScope s_need_pattern) := ⟨rfl, rfl, rfl, by decide +kernel, rfl, by decide +kernel, by decide +kernel⟩
abbrev s_sizes_of : Stmt := top 14
theorem sc_sizes_of : FnScope ["text", "part"] ["text"] (defScope s_sizes_of) := ⟨rfl, rfl, rfl, by decide +kernel, rfl, by decide +kernel, by decide +kernel⟩
abbrev s_need_sizes : Stmt := top 15
theorem sc_need_sizes : FnScope ["thing", "sizes"] ["thing", "sizes"] (defScope s_need_sizes) := ⟨rfl, rfl, rfl, by decide +kernel, rfl, by decide +kernel, by decide +kernel⟩
abbrev s_need_bits : Stmt := top 16
theorem sc_need_bits : FnScope ["thing", "many", "bit"] ["thing", "many"] (defScope s_need_bits) := ⟨rfl, rfl, rfl, by decide +kernel, rfl, by decide +kernel, by decide +kernel⟩
abbrev s_need_content : Stmt := top 17
theorem sc_need_content : FnScope ["thing", "many", "at", "sign"] ["thing", "many"] (defScope s_need_content) := ⟨rfl, rfl, rfl, by decide +kernel, rfl, by decide +kernel, by decide +kernel⟩
abbrev s_bits_of : Stmt := top 18
theorem sc_bits_of : FnScope ["text"] ["text"] (defScope s_bits_of) := ⟨rfl, rfl, rfl, by decide +kernel, rfl, by decide +kernel, by decide +kernel⟩
abbrev s_places_of : Stmt := top 19
theorem sc_places_of : FnScope ["text", "place", "sign"] ["text"] (defScope s_places_of) := ⟨rfl, rfl, rfl, by decide +kernel, rfl, by decide +kernel, by decide +kernel⟩
abbrev s_with_fallen : Stmt := top 20
theorem sc_with_fallen : FnScope ["text", "bits", "places", "signs", "bit"] ["text", "bits"] (defScope s_with_fallen) := ⟨rfl, rfl, rfl, by decide +kernel, rfl, by decide +kernel, by decide +kernel⟩
abbrev s_lies_below : Stmt := top 21
theorem sc_lies_below : FnScope ["one", "other", "a", "b"] ["one", "other"] (defScope s_lies_below) := ⟨rfl, rfl, rfl, by decide +kernel, rfl, by decide +kernel, by decide +kernel⟩
abbrev s_unlike_sign : Stmt := top 22
theorem sc_unlike_sign : FnScope ["a", "b"] ["a", "b"] (defScope s_unlike_sign) := ⟨rfl, rfl, rfl, by decide +kernel, rfl, by decide +kernel, by decide +kernel⟩
abbrev s_standing_bits : Stmt := top 25
theorem sc_standing_bits : FnScope ["x", "number", "bit"] ["x"] (defScope s_standing_bits) := ⟨rfl, rfl, rfl, by decide +kernel, rfl, by decide +kernel, by decide +kernel⟩
abbrev s_need_rolling : Stmt := top 32
theorem sc_need_rolling : FnScope ["x", "sizes"] ["x"] (defScope s_need_rolling) := ⟨rfl, rfl, rfl, by decide +kernel, rfl, by decide +kernel, by decide +kernel⟩
abbrev s_headers_of : Stmt := top 33
theorem sc_headers_of : FnScope ["x", "part"] ["x"] (defScope s_headers_of) := ⟨rfl, rfl, rfl, by decide +kernel, rfl, by decide +kernel, by decide +kernel⟩
abbrev s_contents_of : Stmt := top 34
theorem sc_contents_of : FnScope ["x", "part"] ["x"] (defScope s_contents_of) := ⟨rfl, rfl, rfl, by decide +kernel, rfl, by decide +kernel, by decide +kernel⟩
abbrev s_live_block : Stmt := top 35
theorem sc_live_block : FnScope ["x", "one", "other"] ["x"] (defScope s_live_block) := ⟨rfl, rfl, rfl, by decide +kernel, rfl, by decide +kernel, by decide +kernel⟩
abbrev s_held_content : Stmt := top 36
theorem sc_held_content : FnScope ["x", "at"] ["x"] (defScope s_held_content) := ⟨rfl, rfl, rfl, by decide +kernel, rfl, by decide +kernel, by decide +kernel⟩
abbrev s_has_spoilt_header : Stmt := top 37
theorem sc_has_spoilt_header : FnScope ["x"] ["x"] (defScope s_has_spoilt_header) := ⟨rfl, rfl, rfl, by decide +kernel, rfl, by decide +kernel, by decide +kernel⟩
abbrev s_live : Stmt := top 38
theorem sc_live : FnScope ["x"] ["x"] (defScope s_live) := ⟨rfl, rfl, rfl, by decide +kernel, rfl, by decide +kernel, by decide +kernel⟩
abbrev s_content : Stmt := top 39
theorem sc_content : FnScope ["x"] ["x"] (defScope s_content) := ⟨rfl, rfl, rfl, by decide +kernel, rfl, by decide +kernel, by decide +kernel⟩
abbrev s_can_move : Stmt := top 40
theorem sc_can_move : FnScope ["x"] ["x"] (defScope s_can_move) := ⟨rfl, rfl, rfl, by decide +kernel, rfl, by decide +kernel, by decide +kernel⟩
abbrev s_mark_behind : Stmt := top 41
theorem sc_mark_behind : FnScope ["headers", "at"] ["headers", "at"] (defScope s_mark_behind) := ⟨rfl, rfl, rfl, by decide +kernel, rfl, by decide +kernel, by decide +kernel⟩
abbrev s_move : Stmt := top 42
theorem sc_move : FnScope ["x", "fresh", "size", "at", "headers", "first", "kept", "writes", "falling", "bit", "sign"] ["x", "fresh"] (defScope s_move) := ⟨rfl, rfl, rfl, by decide +kernel, rfl, by decide +kernel, by decide +kernel⟩
structure Txp (K : PySem.W.Frag) (mg : Str → Option Value) (z : Pz) : Prop where
  xFallenError : mg "FallenError" = some (.ref z.fe)
  clF : (PySem.W.clsIn K z.fe).isSome = true
  tyF : PySem.W.typeIn K (.ref z.fe) = some (.type "type")
  sbF : PySem.W.subIn K (.ref z.fe) (.type "BaseException") = some true
  xb : XB K
  xNoPattern : XF K mg z.fe "NoPattern" z.cNoPattern
  F_npi : Fun K "__init__" "NoPattern.__init__" s_NoPattern_init z.a_npi z.d_npi
  b_npi : Binds K z.d_npi ["self", "at"] []
  iNP : PySem.W.findIn K (.ref z.cNoPattern) "__init__" = some (some (.ref z.a_npi))
  tNP : PySem.W.typeIn K (.ref z.a_npi) = some (.type "function")
  nNP : PySem.W.findIn K (.ref z.cNoPattern) "at" = some none
  xUnlike : XF K mg z.fe "Unlike" z.cUnlike
  eUnlike : PySem.W.excIn K z.cUnlike [.type "ValueError", .type "Exception", .type "BaseException", .type "object"] "ValueError.__new__" = true
  xNoBit : XF K mg z.fe "NoBit" z.cNoBit
  eNoBit : PySem.W.excIn K z.cNoBit [.type "ValueError", .type "Exception", .type "BaseException", .type "object"] "ValueError.__new__" = true
  xForeign : XF K mg z.fe "Foreign" z.cForeign
  F_Foreigni : Fun K "__init__" "Foreign.__init__" s_Foreign_init z.a_Foreigni z.d_Foreigni
  b_Foreigni : Binds K z.d_Foreigni ["self", "found"] []
  iForeign : PySem.W.findIn K (.ref z.cForeign) "__init__" = some (some (.ref z.a_Foreigni))
  tForeign : PySem.W.typeIn K (.ref z.a_Foreigni) = some (.type "function")
  nForeign_found : PySem.W.findIn K (.ref z.cForeign) "found" = some none
  ne_NoPattern_F : z.cNoPattern ≠ z.fe
  ne_NoPattern_Unlike : z.cNoPattern ≠ z.cUnlike
  ne_NoPattern_NoBit : z.cNoPattern ≠ z.cNoBit
  ne_NoPattern_Foreign : z.cNoPattern ≠ z.cForeign
  ne_Unlike_F : z.cUnlike ≠ z.fe
  ne_Unlike_NoPattern : z.cUnlike ≠ z.cNoPattern
  ne_Unlike_NoBit : z.cUnlike ≠ z.cNoBit
  ne_Unlike_Foreign : z.cUnlike ≠ z.cForeign
  ne_NoBit_F : z.cNoBit ≠ z.fe
  ne_NoBit_NoPattern : z.cNoBit ≠ z.cNoPattern
  ne_NoBit_Unlike : z.cNoBit ≠ z.cUnlike
  ne_NoBit_Foreign : z.cNoBit ≠ z.cForeign
  ne_Foreign_F : z.cForeign ≠ z.fe
  ne_Foreign_NoPattern : z.cForeign ≠ z.cNoPattern
  ne_Foreign_Unlike : z.cForeign ≠ z.cUnlike
  ne_Foreign_NoBit : z.cForeign ≠ z.cNoBit
  g_Pattern : mg "Pattern" = some (.ref z.C)
  crP : ClX.CRead K z.C (.type "type")
  vBITS : ∃ mc u, ClX.CRead K z.C mc ∧ ClX.CVal K z.C mc "BITS" (.int 120) u
  vBLOCKS : ∃ mc u, ClX.CRead K z.C mc ∧ ClX.CVal K z.C mc "BLOCKS" (.int 3) u
  g_HEADER : ∃ t, mg "HEADER" = some (.int 2 t)
  g_LEAST_SIZE : ∃ t, mg "LEAST_SIZE" = some (.int 3 t)
  g_MARKS : mg "MARKS" = some (.ref z.kMARKS)
  lkMARKS : ∃ (o : Obj) (its : Array Value) (n : Nat), K.lookup z.kMARKS = some o ∧ o.cls = .type "tuple" ∧ o.data = .seq its n ∧ its.size ≤ sizeLine ∧ Vals [V.str "10", V.str "01"] its.toList
  g_FREE : ∃ t, mg "FREE" = some (.str "11" t)
  g_SPOILT : ∃ t, mg "SPOILT" = some (.str "00" t)
  g_is_whole : mg "is_whole" = some (.ref z.a_is_whole)
  k_is_whole : PySem.W.keepIn K (.ref z.a_is_whole) = true
  b_is_whole : Binds K z.d_is_whole ["thing"] []
  F_is_whole : Fun K "is_whole" "is_whole" s_is_whole z.a_is_whole z.d_is_whole
  g_is_number : mg "is_number" = some (.ref z.a_is_number)
  k_is_number : PySem.W.keepIn K (.ref z.a_is_number) = true
  b_is_number : Binds K z.d_is_number ["thing", "many"] []
  F_is_number : Fun K "is_number" "is_number" s_is_number z.a_is_number z.d_is_number
  g_has_pattern_form : mg "has_pattern_form" = some (.ref z.a_has_pattern_form)
  k_has_pattern_form : PySem.W.keepIn K (.ref z.a_has_pattern_form) = true
  b_has_pattern_form : Binds K z.d_has_pattern_form ["text"] []
  F_has_pattern_form : Fun K "has_pattern_form" "has_pattern_form" s_has_pattern_form z.a_has_pattern_form z.d_has_pattern_form
  g_pattern_fault : mg "pattern_fault" = some (.ref z.a_pattern_fault)
  k_pattern_fault : PySem.W.keepIn K (.ref z.a_pattern_fault) = true
  b_pattern_fault : Binds K z.d_pattern_fault ["thing"] []
  F_pattern_fault : Fun K "pattern_fault" "pattern_fault" s_pattern_fault z.a_pattern_fault z.d_pattern_fault
  g_first_wrong_sign : mg "first_wrong_sign" = some (.ref z.a_first_wrong_sign)
  k_first_wrong_sign : PySem.W.keepIn K (.ref z.a_first_wrong_sign) = true
  b_first_wrong_sign : Binds K z.d_first_wrong_sign ["thing"] []
  F_first_wrong_sign : Fun K "first_wrong_sign" "first_wrong_sign" s_first_wrong_sign z.a_first_wrong_sign z.d_first_wrong_sign
  g_need_pattern : mg "need_pattern" = some (.ref z.a_need_pattern)
  k_need_pattern : PySem.W.keepIn K (.ref z.a_need_pattern) = true
  b_need_pattern : Binds K z.d_need_pattern ["thing"] []
  F_need_pattern : Fun K "need_pattern" "need_pattern" s_need_pattern z.a_need_pattern z.d_need_pattern
  g_sizes_of : mg "sizes_of" = some (.ref z.a_sizes_of)
  k_sizes_of : PySem.W.keepIn K (.ref z.a_sizes_of) = true
  b_sizes_of : Binds K z.d_sizes_of ["text"] []
  F_sizes_of : Fun K "sizes_of" "sizes_of" s_sizes_of z.a_sizes_of z.d_sizes_of
  g_need_sizes : mg "need_sizes" = some (.ref z.a_need_sizes)
  k_need_sizes : PySem.W.keepIn K (.ref z.a_need_sizes) = true
  b_need_sizes : Binds K z.d_need_sizes ["thing", "sizes"] []
  F_need_sizes : Fun K "need_sizes" "need_sizes" s_need_sizes z.a_need_sizes z.d_need_sizes
  g_need_bits : mg "need_bits" = some (.ref z.a_need_bits)
  k_need_bits : PySem.W.keepIn K (.ref z.a_need_bits) = true
  b_need_bits : Binds K z.d_need_bits ["thing", "many"] []
  F_need_bits : Fun K "need_bits" "need_bits" s_need_bits z.a_need_bits z.d_need_bits
  g_need_content : mg "need_content" = some (.ref z.a_need_content)
  k_need_content : PySem.W.keepIn K (.ref z.a_need_content) = true
  b_need_content : Binds K z.d_need_content ["thing", "many"] []
  F_need_content : Fun K "need_content" "need_content" s_need_content z.a_need_content z.d_need_content
  g_bits_of : mg "bits_of" = some (.ref z.a_bits_of)
  k_bits_of : PySem.W.keepIn K (.ref z.a_bits_of) = true
  b_bits_of : Binds K z.d_bits_of ["text"] []
  F_bits_of : Fun K "bits_of" "bits_of" s_bits_of z.a_bits_of z.d_bits_of
  g_places_of : mg "places_of" = some (.ref z.a_places_of)
  k_places_of : PySem.W.keepIn K (.ref z.a_places_of) = true
  b_places_of : Binds K z.d_places_of ["text"] []
  F_places_of : Fun K "places_of" "places_of" s_places_of z.a_places_of z.d_places_of
  g_with_fallen : mg "with_fallen" = some (.ref z.a_with_fallen)
  k_with_fallen : PySem.W.keepIn K (.ref z.a_with_fallen) = true
  b_with_fallen : Binds K z.d_with_fallen ["text", "bits"] []
  F_with_fallen : Fun K "with_fallen" "with_fallen" s_with_fallen z.a_with_fallen z.d_with_fallen
  g_lies_below : mg "lies_below" = some (.ref z.a_lies_below)
  k_lies_below : PySem.W.keepIn K (.ref z.a_lies_below) = true
  b_lies_below : Binds K z.d_lies_below ["one", "other"] []
  F_lies_below : Fun K "lies_below" "lies_below" s_lies_below z.a_lies_below z.d_lies_below
  g_unlike_sign : mg "unlike_sign" = some (.ref z.a_unlike_sign)
  k_unlike_sign : PySem.W.keepIn K (.ref z.a_unlike_sign) = true
  b_unlike_sign : Binds K z.d_unlike_sign ["a", "b"] []
  F_unlike_sign : Fun K "unlike_sign" "unlike_sign" s_unlike_sign z.a_unlike_sign z.d_unlike_sign
  g_standing_bits : mg "standing_bits" = some (.ref z.a_standing_bits)
  k_standing_bits : PySem.W.keepIn K (.ref z.a_standing_bits) = true
  b_standing_bits : Binds K z.d_standing_bits ["x"] []
  F_standing_bits : Fun K "standing_bits" "standing_bits" s_standing_bits z.a_standing_bits z.d_standing_bits
  g_need_rolling : mg "need_rolling" = some (.ref z.a_need_rolling)
  k_need_rolling : PySem.W.keepIn K (.ref z.a_need_rolling) = true
  b_need_rolling : Binds K z.d_need_rolling ["x"] []
  F_need_rolling : Fun K "need_rolling" "need_rolling" s_need_rolling z.a_need_rolling z.d_need_rolling
  g_headers_of : mg "headers_of" = some (.ref z.a_headers_of)
  k_headers_of : PySem.W.keepIn K (.ref z.a_headers_of) = true
  b_headers_of : Binds K z.d_headers_of ["x"] []
  F_headers_of : Fun K "headers_of" "headers_of" s_headers_of z.a_headers_of z.d_headers_of
  g_contents_of : mg "contents_of" = some (.ref z.a_contents_of)
  k_contents_of : PySem.W.keepIn K (.ref z.a_contents_of) = true
  b_contents_of : Binds K z.d_contents_of ["x"] []
  F_contents_of : Fun K "contents_of" "contents_of" s_contents_of z.a_contents_of z.d_contents_of
  g_live_block : mg "live_block" = some (.ref z.a_live_block)
  k_live_block : PySem.W.keepIn K (.ref z.a_live_block) = true
  b_live_block : Binds K z.d_live_block ["x"] []
  F_live_block : Fun K "live_block" "live_block" s_live_block z.a_live_block z.d_live_block
  g_held_content : mg "held_content" = some (.ref z.a_held_content)
  k_held_content : PySem.W.keepIn K (.ref z.a_held_content) = true
  b_held_content : Binds K z.d_held_content ["x"] []
  F_held_content : Fun K "held_content" "held_content" s_held_content z.a_held_content z.d_held_content
  g_has_spoilt_header : mg "has_spoilt_header" = some (.ref z.a_has_spoilt_header)
  k_has_spoilt_header : PySem.W.keepIn K (.ref z.a_has_spoilt_header) = true
  b_has_spoilt_header : Binds K z.d_has_spoilt_header ["x"] []
  F_has_spoilt_header : Fun K "has_spoilt_header" "has_spoilt_header" s_has_spoilt_header z.a_has_spoilt_header z.d_has_spoilt_header
  g_live : mg "live" = some (.ref z.a_live)
  k_live : PySem.W.keepIn K (.ref z.a_live) = true
  b_live : Binds K z.d_live ["x"] []
  F_live : Fun K "live" "live" s_live z.a_live z.d_live
  g_content : mg "content" = some (.ref z.a_content)
  k_content : PySem.W.keepIn K (.ref z.a_content) = true
  b_content : Binds K z.d_content ["x"] []
  F_content : Fun K "content" "content" s_content z.a_content z.d_content
  g_can_move : mg "can_move" = some (.ref z.a_can_move)
  k_can_move : PySem.W.keepIn K (.ref z.a_can_move) = true
  b_can_move : Binds K z.d_can_move ["x"] []
  F_can_move : Fun K "can_move" "can_move" s_can_move z.a_can_move z.d_can_move
  g_mark_behind : mg "mark_behind" = some (.ref z.a_mark_behind)
  k_mark_behind : PySem.W.keepIn K (.ref z.a_mark_behind) = true
  b_mark_behind : Binds K z.d_mark_behind ["headers", "at"] []
  F_mark_behind : Fun K "mark_behind" "mark_behind" s_mark_behind z.a_mark_behind z.d_mark_behind
  g_move : mg "move" = some (.ref z.a_move)
  k_move : PySem.W.keepIn K (.ref z.a_move) = true
  b_move : Binds K z.d_move ["x", "fresh"] []
  F_move : Fun K "move" "move" s_move z.a_move z.d_move
  n_abs : mg "abs" = none
  n_all : mg "all" = none
  n_bool : mg "bool" = none
  n_enumerate : mg "enumerate" = none
  n_int : mg "int" = none
  n_isinstance : mg "isinstance" = none
  n_len : mg "len" = none
  n_list : mg "list" = none
  n_range : mg "range" = none
  n_repr : mg "repr" = none
  n_str : mg "str" = none
  n_tuple : mg "tuple" = none
  n_zip : mg "zip" = none
/-! promises -/
def optI : Option Nat → V
  | none => .non
  | some k => .int (k : Nat)
def spForm : Sp := fun vs H Q _ => ∃ l, vs = [.str (S l)] ∧ l.length ≤ sizeLine - 2 ∧ ∀ H', Same H H' → Q (.bl (decide (pf l = none))) H'
def spFirst : Sp := fun vs H Q _ => ∃ l, vs = [.str (S l)] ∧ l.length ≤ sizeLine - 2 ∧ ∀ H', Same H H' → Q (.int (((pf l).getD l.length : Nat) : Int)) H'
def spFault (K : PySem.W.Frag) : Sp := fun vs H Q _ => (∃ l, vs = [.str (S l)] ∧ l.length ≤ sizeLine - 2 ∧ ∀ H', Same H H' → Q (optI (pf l)) H') ∨ (∃ x t, vs = [x] ∧ TyX K H x t ∧ PySem.W.kitOne K t (.type "str") = some false ∧ Q (.int 0) H)
def spNeed : Sp := fun vs H Q _ => ∃ l, vs = [.str (S l)] ∧ l.length ≤ sizeLine - 2 ∧ pf l = none ∧ ∀ H', Same H H' → Q .non H'
def spSizes : Sp := fun vs H Q _ => ∃ l, vs = [.str (S l)] ∧ l.length ≤ 1000 ∧ ∀ p H', Same H H' → H p = none → H' p = some (.tup (nums (szs l))) → Q (.ref p) H'
def spNeedS (K : PySem.W.Frag) (C : Addr) : Sp := fun vs H Q E => ∃ l t ns, vs = [.str (S l), .ref t] ∧ l.length ≤ 1000 ∧ pf l = none ∧ SqT K H t (nums ns) ∧ (if szs l = ns then ∀ H', Same H H' → Q .non H' else ∀ H', Same H H' → E (.ref C) none H')
def spBits : Sp := fun vs H Q _ => ∃ l, vs = [.str (S l)] ∧ l.length ≤ 1000 ∧ Q (.str (S (l.filter (fun c => c != 46)))) H
def spBelow : Sp := fun vs H Q _ => ∃ l m, vs = [.str (S l), .str (S m)] ∧ l.length ≤ 1000 ∧ ∀ H', Same H H' → Q (.bl (below l m)) H'
def spUnS : Sp := fun vs H Q _ => ∃ a b, vs = [.str (S [a]), .str (S [b])] ∧ Q (.str (S [fXor a b])) H
/-! small facts -/
theorem S_0 : ("0" : Str) = S [48] := by decide +kernel
theorem S_1 : ("1" : Str) = S [49] := by decide +kernel
theorem S_d : ("." : Str) = S [46] := by decide +kernel
theorem S_e : ("" : Str) = S [] := by decide +kernel
theorem S_eq {a b : List Nat} : (V.str (S a) = V.str (S b)) ↔ a = b := ⟨fun h => SX.S_inj (V.str.inj h), fun h => by rw [h]⟩
theorem inV_sg (c : Nat) : inV (.str (S [c])) [.str "0", .str "1", .str "."] = decide (c = 48 ∨ c = 49 ∨ c = 46) := by
  rw [S_0, S_1, S_d]
  have e : ∀ a : Nat, eqV (V.str (S [a])) (V.str (S [c])) = decide (c = a) := fun a => by
    show (S [a] == S [c]) = _
    rw [SX.S_beq_eq]
    by_cases h : c = a
    · subst h; simp
    · rw [decide_eq_false h, decide_eq_false (fun z => h (by simpa using z.symm))]
  show ([V.str (S [48]), V.str (S [49]), V.str (S [46])].any fun y => eqV y (V.str (S [c]))) = _
  simp only [List.any_cons, List.any_nil, e, Bool.or_false, Bool.decide_or]
theorem le3 : 3 ≤ sizeLine := by decide
theorem S_sz (l : List Nat) : (S l).cps.size = l.length := by simp [S]
theorem S_ln (l : List Nat) : (S l).length = l.length := SX.S_len l
theorem small1 (n : Nat) (h : n ≤ 1000) : n < sizeLine := small1000 h
/-! a text of a pattern, by its parts -/
theorem txt_parts (l : List Nat) : Txt.split (S l) "." = (cut (szs l) (bt l)).map S := split_cut l
theorem join_flat : ∀ ps : List (List Nat), TL.joinL [] ps = ps.flatten
  | [] => rfl
  | [p] => by simp [TL.joinL]
  | p :: q :: r => by
    have h := join_flat (q :: r)
    simp only [TL.joinL] at h ⊢
    rw [h]
    simp
theorem mem_tw {p : Nat → Bool} {x : Nat} : ∀ {l : List Nat}, x ∈ l.takeWhile p → p x = true
  | a :: l, h => by
    rw [List.takeWhile_cons] at h
    split at h
    · rename_i e
      rcases List.mem_cons.mp h with q | q
      · rw [q]; exact e
      · exact mem_tw q
    · simp at h
theorem tw_bad {p : Nat → Bool} : ∀ {l : List Nat} (h : (l.takeWhile p).length < l.length), p (l[(l.takeWhile p).length]'h) = false
  | [], h => by simp at h
  | a :: l, h => by
    by_cases e : p a = true
    · have e2 : (a :: l).takeWhile p = a :: l.takeWhile p := by rw [List.takeWhile_cons, if_pos e]
      have h2 : (l.takeWhile p).length < l.length := by rw [e2] at h; simpa using h
      have := tw_bad h2
      simpa [e2] using this
    · have e2 : (a :: l).takeWhile p = [] := by rw [List.takeWhile_cons, if_neg e]
      simpa [e2] using e
theorem tw_all {p : Nat → Bool} : ∀ {l : List Nat}, (∀ c ∈ l, p c = true) → l.takeWhile p = l
  | [], _ => rfl
  | a :: l, h => by rw [List.takeWhile_cons, if_pos (h a List.mem_cons_self), tw_all fun c hc => h c (List.mem_cons_of_mem _ hc)]
theorem join_parts (l : List Nat) : Txt.join "" ((cut (szs l) (bt l)).map S) = S (bt l) := by
  rw [S_e, SX.join_S, join_flat, cut_flat (bt_sum l).symm]
theorem inV_parts (ps : List (List Nat)) : inV (.str "") ((ps.map S).map V.str) = decide ([] ∈ ps) := by
  rw [S_e]
  show (((ps.map S).map V.str).any fun y => eqV y (V.str (S []))) = _
  rw [List.map_map, List.any_map]
  have e : (fun y => eqV y (V.str (S []))) ∘ (V.str ∘ S) = fun p : List Nat => decide (p = []) := by
    funext p
    show (S p == S []) = _
    rw [SX.S_beq_eq]
  rw [e]
  by_cases h : [] ∈ ps
  · rw [decide_eq_true h]
    exact List.any_eq_true.mpr ⟨[], h, by simp⟩
  · rw [decide_eq_false h]
    refine List.any_eq_false.mpr fun p hp => ?_
    simp only [decide_eq_true_eq]
    exact fun e => h (e ▸ hp)
theorem flat_parts (ps : List (List Nat)) : ((ps.map S).map V.str).all flatV = true := by
  rw [List.map_map, List.all_map]
  exact List.all_eq_true.mpr fun p _ => rfl
theorem nil_cut {l : List Nat} : [] ∈ cut (szs l) (bt l) ↔ 0 ∈ szs l := by
  have e := cut_lens (ss := szs l) (b := bt l) (Nat.le_of_eq (bt_sum l).symm)
  constructor
  · intro h
    rw [← e]
    exact List.mem_map.mpr ⟨[], h, rfl⟩
  · intro h
    rw [← e] at h
    obtain ⟨p, hp, e2⟩ := List.mem_map.mp h
    rw [List.length_eq_zero_iff.mp e2] at hp
    exact hp
theorem strip_bits (b : List Nat) : (Txt.stripChars (S b) "01" = S []) ↔ ∀ c ∈ b, c = 48 ∨ c = 49 := by
  have g : ("01" : Str).cps.contains = fun c => decide (c = 48 ∨ c = 49) := by
    funext c
    rw [show ("01" : Str) = S [48, 49] by decide +kernel]
    show (#[48, 49] : Array Nat).contains c = _
    simp [Bool.decide_or, eq_comm]
  generalize ep : (fun c : Nat => decide (c = 48 ∨ c = 49)) = p at g
  have hp : ∀ c, p c = true ↔ (c = 48 ∨ c = 49) := fun c => by rw [← ep]; simp
  have e : Txt.stripChars (S b) "01" = S ((b.drop (b.takeWhile p).length).take (b.length - ((b.drop (b.takeWhile p).length).reverse.takeWhile p).length - (b.takeWhile p).length)) := by
    unfold Txt.stripChars
    rw [stripBy_eq, g]
    show Builtin.Str.strSub (S b) (b.takeWhile p).length ((S b).length - ((b.drop (b.takeWhile p).length).reverse.takeWhile p).length) = _
    rw [S_ln]
    show (⟨(b.toArray).extract _ _⟩ : Str) = _
    rw [List.extract_toArray, List.extract_eq_drop_take] <;> rfl
  rw [e]
  constructor
  · intro h
    have h2 := SX.S_inj h
    by_cases hd : b.drop (b.takeWhile p).length = []
    · intro c hc
      have t : b.takeWhile p = b := by
        have := List.takeWhile_append_dropWhile (p := p) (l := b)
        have l1 : b.length ≤ (b.takeWhile p).length := by simpa using hd
        exact List.IsPrefix.eq_of_length_le (List.takeWhile_prefix p) l1
      rw [← t] at hc
      exact (hp c).mp (mem_tw hc)
    · exfalso
      have nz : (b.takeWhile p).length < b.length := by
        have : b.drop (b.takeWhile p).length ≠ [] := hd
        rw [Ne, List.drop_eq_nil_iff] at this
        omega
      -- the sign behind the first good ones is not good
      have bad : p (b[(b.takeWhile p).length]'nz) = false := by
        exact tw_bad nz
      have few : ((b.drop (b.takeWhile p).length).reverse.takeWhile p).length < (b.drop (b.takeWhile p).length).length := by
        refine Nat.lt_of_not_le fun le => ?_
        have t : (b.drop (b.takeWhile p).length).reverse.takeWhile p = (b.drop (b.takeWhile p).length).reverse :=
          List.IsPrefix.eq_of_length_le (List.takeWhile_prefix p) (by rw [List.length_reverse]; exact le)
        have m : b[(b.takeWhile p).length]'nz ∈ (b.drop (b.takeWhile p).length).reverse := by
          rw [List.mem_reverse, List.drop_eq_getElem_cons nz]
          exact List.mem_cons_self
        rw [← t] at m
        rw [mem_tw m] at bad
        cases bad
      have ln : ((b.drop (b.takeWhile p).length).take (b.length - ((b.drop (b.takeWhile p).length).reverse.takeWhile p).length - (b.takeWhile p).length)).length = 0 := by rw [h2] <;> rfl
      rw [List.length_take, List.length_drop] at ln
      rw [List.length_drop] at few
      omega
  · intro h
    have t : b.takeWhile p = b := tw_all fun c hc => (hp c).mpr (h c hc)
    rw [t, List.drop_length, List.take_nil]
theorem form_iff {l : List Nat} : pf l = none ↔ ((szs l).length ≤ 3 ∧ 0 ∉ szs l ∧ (bt l).length ≤ 120 ∧ ∀ c ∈ bt l, c = 48 ∨ c = 49) := by
  constructor
  · intro h
    have p := isP_pf h
    exact ⟨p.few, fun z => by have := p.one 0 z; omega, p.sum, p.bits⟩
  · rintro ⟨h1, h2, h3, h4⟩
    refine IsP.pf ⟨fun c hc => ?_, fun n hn => ?_, h1, h3⟩
    · by_cases d : c = 46
      · exact .inr (.inr d)
      · rcases h4 c (List.mem_filter.mpr ⟨hc, by simpa using d⟩) with e | e
        · exact .inl e
        · exact .inr (.inl e)
    · rcases Nat.eq_zero_or_pos n with e | e
      · exact absurd (e ▸ hn) h2
      · exact e
section
variable {P : Program} {wo : World} {K : PySem.W.Frag} {mg : Str → Option Value} {base : Heap} {z : Pz}
theorem ok_has_pattern_form (T : Txp K mg z) : FnOk P wo K mg base CX0 1 z.a_has_pattern_form z.d_has_pattern_form ["text"] spForm := by
  refine T.F_has_pattern_form.ok sc_has_pattern_form (fun vs H Q E h => ?_) (fun cdv A outer s H vs Q E hr h => ?_)
  · obtain ⟨l, rfl, _⟩ := h
    rfl
  · obtain ⟨l, rfl, hl, ret⟩ := h
    have hz : 2 ≤ sizeLine := by decide
    refine ⟨_, (pss_cons (ps_set (i := 1) sc_has_pattern_form.nd rfl (Or.inl rfl) (pe_bm PySem.F.plainAttrs_str PySem.F.slot_str_split PySem.F.type_str_split mt_split (pv 0) (pa_cons pe_str pa_nil)))
      (pss_cons (ps_set (i := 2) sc_has_pattern_form.nd rfl (Or.inl rfl) (pe_joinK (K := K) rfl pe_str (pa_cons (pv 1) pa_nil)))
      (pss_cons (ps_if (PW.pt (pw_or (pt_cmpR op_gt (pe_callB call_len_seq (by rfl) T.n_len (by decide +kernel) (pa_cons (pv 1) pa_nil)) (ClX.pe_cval (pe_glob (v := .ref z.C) rfl T.g_Pattern rfl)) (nomark _)) (pw_or (pt_cmpR (op_inK (K := K) rfl) pe_str (pv 1) rfl) (pw_or1 (pt_cmpR op_gt (pe_callB call_len_str (by rfl) T.n_len (by decide +kernel) (pa_cons (pv 2) pa_nil)) (ClX.pe_cval (pe_glob (v := .ref z.C) rfl T.g_Pattern rfl)) (nomark _))))))
        (pss_one (ps_ret pe_bl))
        pss_nil)
      (pss_one (ps_ret (pe_cmpR op_eq (pe_bm PySem.F.plainAttrs_str PySem.F.slot_str_strip PySem.F.type_str_strip mt_stripChars (pv 2) (pa_cons pe_str pa_nil)) pe_str (nomark _))))))), ?_⟩
    refine ⟨_, rfl, rfl, S l, ".", rfl, rfl, by decide, by rw [S_ln]; omega, fun p hp => ?_⟩
    rw [txt_parts]
    have s1 := smN (o := .lst (((cut (szs l) (bt l)).map S).map V.str)) (Same.refl H) hp
    have lp : (((cut (szs l) (bt l)).map S).map V.str).length = (szs l).length := by rw [List.length_map, List.length_map, cut_len]
    have out : ¬ ((szs l).length ≤ 3 ∧ 0 ∉ szs l ∧ (bt l).length ≤ 120 ∧ ∀ c ∈ bt l, c = 48 ∨ c = 49) → ∀ H', Same H H' → Q (.bl false) H' := fun h H' s' => by
      have q := ret H' s'
      rw [decide_eq_false (fun e => h (form_iff.mp e))] at q
      exact q
    have hb : (bt l).length ≤ l.length := List.length_filter_le _ _
    have sum : ((((cut (szs l) (bt l)).map S)).map fun w => w.length).sum = (bt l).length := by
      rw [SX.lens, cut_lens (Nat.le_of_eq (bt_sum l).symm), bt_sum]
    refine ⟨rfl, _, rfl, "", p, (cut (szs l) (bt l)).map S, rfl, rfl, .inl (SqL.of upd_same), ?_, ?_⟩
    · rw [sum]
      show (bt l).length + _ * 0 ≤ sizeLine
      omega
    rw [join_parts]
    obtain ⟨mk, uk, crk, cvk⟩ := T.vBLOCKS
    obtain ⟨mb, ub, crb, cvb⟩ := T.vBITS
    refine ⟨_, rfl, p, _, rfl, .inl (SqL.of upd_same), z.C, mk, _, uk, rfl, crk, cvk, _, _, rfl, rfl, _, rfl, ?_⟩
    rw [lp]
    refine ite2 (fun c1 => ?_) (fun c1 => ?_)
    · exact iteT (out (fun h => by have := of_decide_eq_true c1; have := h.1; omega) _ s1)
    refine ⟨_, rfl, p, _, rfl, .inl (SqL.of upd_same), rfl, flat_parts _, _, rfl, ?_⟩
    rw [inV_parts]
    refine ite2 (fun c2 => ?_) (fun c2 => ?_)
    · have c2' : decide ([] ∈ cut (szs l) (bt l)) = true := c2
      exact iteT (out (fun h => h.2.1 (nil_cut.mp (of_decide_eq_true c2'))) _ s1)
    refine ⟨_, rfl, _, rfl, by rw [S_ln]; omega, z.C, mb, _, ub, rfl, crb, cvb, _, _, rfl, rfl, _, rfl, ?_⟩
    rw [S_ln]
    refine ite2 (fun c3 => ?_) (fun c3 => ?_)
    · exact out (fun h => by have := of_decide_eq_true c3; have := h.2.2.1; omega) _ s1
    refine ⟨_, rfl, rfl, S (bt l), "01", rfl, rfl, by rw [S_ln]; omega, rfl, ?_⟩
    have c2' : ¬ decide ([] ∈ cut (szs l) (bt l)) = true := c2
    have e : decide (V.str (Txt.stripChars (S (bt l)) "01") = V.str "") = decide (pf l = none) := by
      rw [decide_eq_decide, S_e]
      constructor
      · intro h
        refine form_iff.mpr ⟨?_, ?_, ?_, (strip_bits _).mp (V.str.inj h)⟩
        · refine Nat.le_of_not_lt fun q => c1 (decide_eq_true ?_)
          omega
        · exact fun q => c2' (decide_eq_true (nil_cut.mpr q))
        · refine Nat.le_of_not_lt fun q => c3 (decide_eq_true ?_)
          omega
      · intro h
        rw [(strip_bits _).mpr (form_iff.mp h).2.2.2]
    rw [e]
    exact ret _ s1
theorem ok_first_wrong_sign (T : Txp K mg z) : FnOk P wo K mg base CX0 1 z.a_first_wrong_sign z.d_first_wrong_sign ["thing"] spFirst := by
  refine T.F_first_wrong_sign.ok sc_first_wrong_sign (fun vs H Q E h => ?_) (fun cdv A outer s H vs Q E hr h => ?_)
  · obtain ⟨l, rfl, _⟩ := h
    rfl
  · obtain ⟨l, rfl, hl, ret⟩ := h
    refine ⟨_, (pss_cons (ps_set (i := 1) sc_first_wrong_sign.nd rfl (Or.inl rfl) pe_int)
      (pss_cons (ps_set (i := 2) sc_first_wrong_sign.nd rfl (Or.inl rfl) pe_int)
      (pss_cons (ps_set (i := 3) sc_first_wrong_sign.nd rfl (Or.inl rfl) pe_int)
      (pss_cons (ps_for PassesOwn.never rfl (pi_enumS rfl T.n_enumerate (pa_cons (pv 0) pa_nil)) (pg_tup rfl (pgs_cons (pg_name (i := 4) sc_first_wrong_sign.nd rfl (Or.inl rfl)) (pgs_cons (pg_name (i := 5) sc_first_wrong_sign.nd rfl (Or.inl rfl)) pgs_nil)))
        (pss_cons (ps_if (PW.pt (pw_or (pt_cmpR (op_notInK (K := K) rfl) (pv 5) (pe_tup (pa_cons pe_str (pa_cons pe_str (pa_cons pe_str pa_nil)))) rfl) (pw_or1 (pt_cmpR op_eq (pv 1) (ClX.pe_cval (pe_glob (v := .ref z.C) rfl T.g_Pattern rfl)) (nomark _)))))
          (pss_one (ps_ret (pv 4)))
          pss_nil)
        (pss_one (ps_if (pt_cmpR op_eq (pv 5) pe_str (nomark _))
          (pss_cons (ps_if (PW.pt (pw_or (pt_cmpR op_eq (pv 3) pe_int (nomark _)) (pw_or1 (pt_cmpR op_eq (pv 2) (ClX.pe_cval (pe_glob (v := .ref z.C) rfl T.g_Pattern rfl)) (nomark _)))))
            (pss_one (ps_ret (pv 4)))
            pss_nil)
          (pss_cons (ps_aug (i := 2) sc_first_wrong_sign.nd rfl (Or.inl rfl) pe_int ip_add)
          (pss_one (ps_set (i := 3) sc_first_wrong_sign.nd rfl (Or.inl rfl) pe_int))))
          (pss_cons (ps_aug (i := 1) sc_first_wrong_sign.nd rfl (Or.inl rfl) pe_int ip_add)
          (pss_one (ps_aug (i := 3) sc_first_wrong_sign.nd rfl (Or.inl rfl) pe_int ip_add)))))))
      (pss_one (ps_ret (pe_callB call_len_str (by rfl) T.n_len (by decide +kernel) (pa_cons (pv 0) pa_nil)))))))), ?_⟩
    refine ⟨_, rfl, S l, rfl, ?_⟩
    rw [S_sz]
    refine for_T (fun i σ H' => Same H H' ∧ ∃ (b k n : Nat) (x4 x5 : Option V), σ = [some (.str (S l)), some (.int b), some (.int k), some (.int n), x4, x5] ∧ pfa (l.drop i) i b k n = pf l) ⟨Same.refl _, 0, 1, 0, none, none, rfl, rfl⟩ ?_ ?_
    · rintro i Tu σ H1 hi ⟨s1, b, k, n, x4, x5, rfl, e⟩ hT
      have hc : l[i]? = some l[i] := List.getElem?_eq_getElem hi
      have ed : l.drop i = l[i] :: l.drop (i + 1) := List.drop_eq_getElem_cons hi
      generalize l[i] = c at hc ed
      rw [ed] at e
      have es : sgn (S l) i = S [c] := S_sgn hc
      have s2 : Same H (upd H1 Tu (.tup [.int (i : Nat), .str (sgn (S l) i)])) := smN s1 hT
      refine ⟨Tu, [.int (i : Nat), .str (S [c])], rfl, SqT.of (by rw [upd_same, es]), rfl, ?_⟩
      refine ⟨_, _, rfl, ?_⟩
      refine ⟨_, _, rfl, ?_⟩
      refine ⟨rfl, ?_⟩
      refine ⟨_, rfl, le3, fun t ht => ⟨t, _, rfl, .inr (SqT.of upd_same), rfl, rfl, _, rfl, ?_⟩⟩
      have s3 := smN (o := .tup [.str "0", .str "1", .str "."]) s2 ht
      rw [inV_sg]
      unfold pfa at e
      by_cases h1 : c = 48 ∨ c = 49 ∨ c = 46
      · rw [decide_eq_true h1]
        refine iteF ?_
        obtain ⟨mc, u, cr, cv⟩ := T.vBITS
        refine ⟨_, rfl, z.C, mc, _, u, rfl, cr, cv, rfl, _, rfl, ?_⟩
        refine ite2 (fun h2 => ?_) (fun h2 => ?_)
        · have h3 : b = 120 := by have := of_decide_eq_true h2; have := V.int.inj this; omega
          rw [if_pos (.inr h3)] at e
          refine ⟨_, rfl, ?_⟩
          have q := ret _ s3
          rw [← e] at q
          exact q
        · have h3 : ¬ b = 120 := fun z => h2 (by rw [z] <;> rfl)
          rw [if_neg (by intro z; rcases z with z | z; exact z h1; exact h3 z)] at e
          refine ⟨_, rfl, rfl, _, rfl, ?_⟩
          refine ite2 (fun h4 => ?_) (fun h4 => ?_)
          · have h5 : c = 46 := by
              have := of_decide_eq_true h4
              rw [S_d] at this
              simpa using S_eq.mp this
            rw [if_pos h5] at e
            refine ⟨_, rfl, rfl, _, rfl, ?_⟩
            refine ite2 (fun h6 => ?_) (fun h6 => ?_)
            · have h7 : n = 0 := by have := of_decide_eq_true h6; have := V.int.inj this; omega
              refine iteT ?_
              rw [if_pos (.inl h7)] at e
              refine ⟨_, rfl, ?_⟩
              have q := ret _ s3
              rw [← e] at q
              exact q
            · have h7 : ¬ n = 0 := fun z => h6 (by rw [z] <;> rfl)
              obtain ⟨mc, u, cr, cv⟩ := T.vBLOCKS
              refine ⟨_, rfl, z.C, mc, _, u, rfl, cr, cv, rfl, _, rfl, ?_⟩
              refine ite2 (fun h8 => ?_) (fun h8 => ?_)
              · have h9 : k = 3 := by have := of_decide_eq_true h8; have := V.int.inj this; omega
                rw [if_pos (.inr h9)] at e
                refine ⟨_, rfl, ?_⟩
                have q := ret _ s3
                rw [← e] at q
                exact q
              · have h9 : ¬ k = 3 := fun z => h8 (by rw [z] <;> rfl)
                rw [if_neg (by intro z; rcases z with z | z; exact h7 z; exact h9 z)] at e
                refine ⟨_, rfl, _, _, rfl, rfl, ?_⟩
                exact ⟨s3, b, k + 1, 0, _, _, rfl, e⟩
          · have h5 : ¬ c = 46 := fun z => h4 (by rw [z, S_d] <;> exact decide_eq_true rfl)
            rw [if_neg h5] at e
            refine ⟨_, rfl, _, _, rfl, rfl, ?_⟩
            refine ⟨_, rfl, _, _, rfl, rfl, ?_⟩
            exact ⟨s3, b + 1, k, n + 1, _, _, rfl, e⟩
      · rw [decide_eq_false h1]
        refine iteT (iteT ?_)
        rw [if_pos (.inl h1)] at e
        refine ⟨_, rfl, ?_⟩
        have q := ret _ s3
        rw [← e] at q
        exact q
    · rintro σ H1 ⟨s1, b, k, n, x4, x5, rfl, e⟩
      rw [List.drop_length] at e
      unfold pfa at e
      refine ⟨_, rfl, S l, rfl, by rw [S_ln]; omega, ?_⟩
      rw [S_ln]
      have q := ret _ s1
      have g : (pf l).getD l.length = l.length := by
        rw [← e]
        split <;> rfl
      rw [g] at q
      exact q
theorem ok_pattern_fault (T : Txp K mg z) : FnOk P wo K mg base CX0 2 z.a_pattern_fault z.d_pattern_fault ["thing"] (spFault K) := by
  refine T.F_pattern_fault.ok sc_pattern_fault (fun vs H Q E h => ?_) (fun cdv A outer s H vs Q E hr h => ?_)
  · rcases h with ⟨l, rfl, _⟩ | ⟨x, t, rfl, _⟩ <;> rfl
  · have hr1 : Room 1 _ := hr
    have G_has_pattern_form : FnOk P wo K mg base CX0 1 z.a_has_pattern_form z.d_has_pattern_form ["text"] spForm := ok_has_pattern_form T
    have G_first_wrong_sign : FnOk P wo K mg base CX0 1 z.a_first_wrong_sign z.d_first_wrong_sign ["thing"] spFirst := ok_first_wrong_sign T
    refine ⟨_, (pss_cons (ps_if (pt_not (pt_val (pe_callB call_isi (by rfl) T.n_isinstance boot_isinstance (pa_cons (pv 0) (pa_cons (pe_bltn (v := .ty "str") rfl T.n_str (by decide +kernel) rfl) pa_nil)))))
        (pss_one (ps_ret pe_int))
        pss_nil)
      (pss_one (ps_ret (pe_ifExp (pt_val (pe_call G_has_pattern_form hr1 rfl T.g_has_pattern_form T.k_has_pattern_form T.b_has_pattern_form .nil pass0 (pa_cons (pv 0) pa_nil))) pe_non (pe_call G_first_wrong_sign hr1 rfl T.g_first_wrong_sign T.k_first_wrong_sign T.b_first_wrong_sign .nil pass0 (pa_cons (pv 0) pa_nil)))))), ?_⟩
    rcases h with ⟨l, rfl, hl, ret⟩ | ⟨x, t, rfl, ty, kt, ret⟩
    · refine ⟨_, rfl, _, _, _, _, true, rfl, .ty "str", .base (.str _), kit_ty (by decide +kernel), _, rfl, ?_⟩
      refine iteF ?_
      refine ⟨_, rfl, l, rfl, hl, fun H1 s1 => ⟨_, rfl, ?_⟩⟩
      by_cases e : pf l = none
      · rw [decide_eq_true e]
        refine iteT ?_
        have q := ret _ s1
        rw [e] at q
        exact q
      · rw [decide_eq_false e]
        refine iteF ?_
        refine ⟨_, rfl, l, rfl, hl, fun H2 s2 => ?_⟩
        obtain ⟨k, ek⟩ := Option.ne_none_iff_exists'.mp e
        have q := ret _ (s1.trans s2)
        rw [ek] at q ⊢
        exact q
    · refine ⟨_, rfl, _, _, _, _, false, rfl, .ty "str", ty, kt, _, rfl, ?_⟩
      exact iteT ret
end
end Fb
set_option maxRecDepth 100000
set_option maxHeartbeats 4000000
/-! comprehensions over two ranges; lists of whole numbers of any size as data -/
namespace Fb
open PySem PySem.Spec PyProof.Rows L2
section
variable {D : Addr} {σ : L2.St} {H1 : Hp} {wi1 : TI} {te : TE} {vs vs1 : List Nat} {i1 j1 : Nat} {Qd : Hp → Prop} {n m : Nat}
theorem lc2_ranges (Pv : Nat → Nat → Hp → Prop) (h0 : Pv 0 0 (upd H1 D (.lst [])))
    (hin : ∀ (x : V) (H : Hp) (R : It → Hp → Prop), R (Itr 0 m) H → wi1 ((wipe σ vs).set i1 (some x)) H R) (hw : ∀ x, wipe ((wipe σ vs).set i1 (some x)) vs = wipe σ vs)
    (hw1 : ∀ x y, wipe ((wipe ((wipe σ vs).set i1 (some x)) vs1).set j1 (some y)) vs1 = wipe ((wipe σ vs).set i1 (some x)) vs1)
    (step : ∀ (i j : Nat) (H : Hp), i < n → j < m → Pv i j H → te ((wipe ((wipe σ vs).set i1 (some (.int (0 + (i : Int))))) vs1).set j1 (some (.int (0 + (j : Int))))) H fun v H7 => ∃ acc, H7 D = some (.lst acc) ∧ acc.length < sizeLine ∧ Pv i (j + 1) (upd H7 D (.lst (acc ++ [v]))))
    (next : ∀ i H, i < n → Pv i m H → Pv (i + 1) 0 H) (hd : ∀ H, Pv n 0 H → Qd H) :
    ∃ W : Nat → Nat → Hp → Prop, (∃ m, W 0 m (upd H1 D (.lst []))) ∧ ∀ i m H, W i m H →
      ((Itr 0 n).stop i H ∧ Qd H) ∨ ((Itr 0 n).go i H ∧ ∃ Nx : Hp → Prop, (∀ H', Nx H' → ∃ m', m' < m ∧ W (i + 1) m' H') ∧ ∀ x H', (Itr 0 n).yld i H x H' → gName i1 x (wipe σ vs) H' fun σ2 H2 => wipe σ2 vs = wipe σ vs ∧ tYes σ2 H2 fun bb H3 =>
        if bb = true then wi1 σ2 H3 fun J1 H4 => ∃ W1 : Nat → Nat → Hp → Prop, (∃ m, W1 0 m H4) ∧ ∀ j k H, W1 j k H →
          (J1.stop j H ∧ Nx H) ∨ (J1.go j H ∧ ∃ Nx1 : Hp → Prop, (∀ H', Nx1 H' → ∃ k', k' < k ∧ W1 (j + 1) k' H') ∧ ∀ x H', J1.yld j H x H' → gName j1 x (wipe σ2 vs1) H' fun σ3 H5 => wipe σ3 vs1 = wipe σ2 vs1 ∧ tYes σ3 H5 fun bb H6 =>
            if bb = true then te σ3 H6 fun y H7 => ∃ acc, H7 D = some (.lst acc) ∧ acc.length < sizeLine ∧ Nx1 (upd H7 D (.lst (acc ++ [y]))) else Nx1 H6)
        else Nx H3) := by
  refine ⟨fun i k H => i + k = n ∧ Pv i 0 H, ⟨n, by omega, h0⟩, fun i k H ⟨hm, p⟩ => ?_⟩
  by_cases lt : i < n
  · refine Or.inr ⟨lt, Pv (i + 1) 0, fun H' p' => ⟨k - 1, by omega, by omega, p'⟩, ?_⟩
    intro x H' y
    obtain ⟨e, y⟩ := y
    subst e y
    refine ⟨hw _, yes1 ?_⟩
    refine hin _ _ _ ?_
    refine ⟨fun j k H => j + k = m ∧ Pv i j H, ⟨m, by omega, p⟩, fun j k H ⟨hk, p⟩ => ?_⟩
    by_cases lt2 : j < m
    · refine Or.inr ⟨lt2, Pv i (j + 1), fun H' p' => ⟨k - 1, by omega, by omega, p'⟩, ?_⟩
      intro x2 H' y2
      obtain ⟨e2, y2⟩ := y2
      subst e2 y2
      exact ⟨hw1 _ _, yes1 (step i j _ lt lt2 p)⟩
    · obtain rfl : j = m := by omega
      exact Or.inl ⟨Nat.le_refl _, next i H lt p⟩
  · obtain rfl : i = n := by omega
    exact Or.inl ⟨Nat.le_refl _, hd H p⟩
end
/-! numbers of any size -/
def intD (ns : List Int) : List PyData := ns.map .int
theorem dp_ints {K : PySem.W.Frag} {H : Hp} : ∀ ns : List Int, DpAll K H (ns.map V.int) (intD ns)
  | [] => .nil
  | n :: ns => .cons (.int _) (dp_ints ns)
theorem lay_ints : ∀ ns : List Int, PyData.canLayAll0 (intD ns) = true ∧ PyData.depthAll (intD ns) = 0
  | [] => ⟨rfl, rfl⟩
  | n :: ns => by
    obtain ⟨h1, h2⟩ := lay_ints ns
    unfold intD at *
    rw [List.map_cons]
    constructor
    · rw [PyData.canLayAll0, h1] <;> rfl
    · rw [PyData.depthAll, h2] <;> rfl
theorem eqv_ints_nil : ∀ ns : List Int, PyData.eqv (.list (intD ns)) (.list []) = decide (ns = [])
  | [] => by simp [intD, PyData.eqv, PyData.eqvAll]
  | n :: ns => by simp [intD, PyData.eqv, PyData.eqvAll]
end Fb
set_option maxRecDepth 100000
set_option maxHeartbeats 4000000
namespace Fb
open PySem PySem.Spec PyProof.Rows L2
open SX (S)
/-! faults of values -/
def Flt (K : PySem.W.Frag) (H : Hp) (x : V) (r : Option Nat) : Prop := (∃ l, x = .str (S l) ∧ l.length ≤ 1000 ∧ r = pf l) ∨ (∃ t, TyX K H x t ∧ PySem.W.kitOne K t (.type "str") = some false ∧ r = some 0)
theorem Flt.same {K : PySem.W.Frag} {H H' : Hp} {x : V} {r : Option Nat} (s : Same H H') (h : Flt K H x r) : Flt K H' x r := by
  rcases h with ⟨l, h⟩ | ⟨t, h1, h2, h3⟩
  · exact .inl ⟨l, h⟩
  · exact .inr ⟨t, tyX_same s h1, h2, h3⟩
theorem Flt.text {K : PySem.W.Frag} {H : Hp} {x : V} (h : Flt K H x none) : ∃ l, x = .str (S l) ∧ IsP l := by
  rcases h with ⟨l, h1, h2, h3⟩ | ⟨t, h1, h2, h3⟩
  · exact ⟨l, h1, isP_pf h3.symm⟩
  · cases h3
/-- NoPattern with this field leaves -/
def OutNP (C : Addr) (H : Hp) (E : XK) (k : Nat) : Prop := ∀ d H', Same H H' → H' d = some (.xd [("at", .int (k : Nat))]) → E (.ref C) (some d) H'
theorem OutNP.later {C : Addr} {H H1 : Hp} {E : XK} {k : Nat} (h : OutNP C H E k) (s : Same H H1) : OutNP C H1 E k := fun d H' s' e => h d H' (s.trans s') e
def spNeedX (K : PySem.W.Frag) (C : Addr) : Sp := fun vs H Q E => ∃ x r, vs = [x] ∧ Flt K H x r ∧ (r = none → ∀ H', Same H H' → Q .non H') ∧ ∀ k, r = some k → OutNP C H E k
section
variable {P : Program} {wo : World} {K : PySem.W.Frag} {mg : Str → Option Value} {base : Heap} {z : Pz}
theorem ok_npi (T : Txp K mg z) : FnOk P wo K mg base CX0 1 z.a_npi z.d_npi ["self", "at"] (spI1 z.cNoPattern "at") := by
  refine T.F_npi.ok sc_NoPattern_init (fun vs H Q E h => ?_) (fun cdv A outer s H vs Q E hr h => ?_)
  · obtain ⟨a, v, rfl, _⟩ := h
    rfl
  · obtain ⟨a, v, rfl, ha, k⟩ := h
    exact ⟨_, pss_one (ps_ost (pv 0) (pv 1)), _, rfl, _, rfl, a, z.cNoPattern, rfl, T.xNoPattern.oc, T.nNP, .inl ⟨ha, fun d h1 h2 => k d h1 h2⟩⟩
theorem ok_need_patternX (T : Txp K mg z) : FnOk P wo K mg base (L2.CX P wo) 3 z.a_need_pattern z.d_need_pattern ["thing"] (spNeedX K z.cNoPattern) := by
  refine T.F_need_pattern.okX sc_need_pattern (fun vs H Q E h => ?_) (fun cdv A outer s H vs Q E hr h => ?_)
  · obtain ⟨x, r, rfl, _⟩ := h
    rfl
  · obtain ⟨x, r, rfl, hf, ret, out⟩ := h
    have hr2 : Room 2 _ := hr
    have G_pattern_fault : FnOk P wo K mg base CX0 2 z.a_pattern_fault z.d_pattern_fault ["thing"] (spFault K) := ok_pattern_fault T
    refine ⟨_, (pss_cons (ps_set (i := 1) sc_need_pattern.nd rfl (Or.inl rfl) (pe_call G_pattern_fault hr2 rfl T.g_pattern_fault T.k_pattern_fault T.b_pattern_fault .nil pass0 (pa_cons (pv 0) pa_nil)))
      (pss_one (ps_if (pt_cmpR op_notN (pv 1) pe_non (nomark _))
        (pss_one (ps_raise rfl (takes_of rfl rfl rfl rfl) (pmk_oex T.xNoPattern.oc T.iNP T.tNP (ok_npi T) hr2 T.b_npi .nil pass0 rfl T.xNoPattern.g (pa_cons (pv 1) pa_nil))))
        pss_nil))), ?_⟩
    have go : ∀ H1, Same H H1 → ∀ r, (r = none → ∀ H', Same H H' → Q .non H') → (∀ k, r = some k → OutNP z.cNoPattern H E k) → tIfS (tTest (tOp (fun x y H Q => y = .non ∧ Q (.bl (!decide (x = .non))) H) (tVar 1) (tC .non))) (tSeq (fun _ σ H => tMkO z.cNoPattern (spI1 z.cNoPattern "at") [] (tCons (tVar 1) tNil) σ H fun cls d H' => E cls d H') tNext) tNext { nx := fun _ H' => Q .non H', rt := Q } [some x, some (optI r)] H1 := by
      intro H1 s1 r ret out
      refine ⟨_, rfl, rfl, _, rfl, ?_⟩
      cases r with
      | none => exact iteNS (show optI none = .non from rfl) (ret rfl _ s1)
      | some k =>
        have e : (!decide (optI (some k) = V.non)) = true := by
          rw [decide_eq_false (fun q => nomatch q)] <;> rfl
        rw [e]
        refine iteT ⟨_, rfl, by show 1 ≤ 1000; decide, fun a ha => ⟨a, _, rfl, upd_same, fun d h1 h2 => ⟨rfl, d, _, upd_same, by rw [upd_ne h2]; exact upd_same, by rw [upd_ne h2] at h1; exact h1, ?_⟩⟩⟩
        have hd : H1 d = none := by rw [upd_ne h2] at h1; exact h1
        refine out k rfl d _ (fun b o eb => ?_) upd_same
        have eb1 := s1 b o eb
        have nbd := ne_of_none eb1 hd
        have nba := ne_of_none eb1 ha
        rw [upd_ne nbd, del_ne nba, upd_ne nba, upd_ne nbd, upd_ne nba]
        exact eb1
    rcases hf with ⟨l, rfl, hl, rfl⟩ | ⟨t, ty, kt, rfl⟩
    · exact ⟨_, rfl, .inl ⟨l, rfl, Nat.le_trans hl (by decide), fun H1 s1 => go H1 s1 (pf l) ret out⟩⟩
    · exact ⟨_, rfl, .inr ⟨x, t, rfl, ty, kt, go H (Same.refl _) (some 0) ret out⟩⟩
theorem ok_sizes_of (T : Txp K mg z) : FnOk P wo K mg base CX0 1 z.a_sizes_of z.d_sizes_of ["text"] spSizes := by
  refine T.F_sizes_of.ok sc_sizes_of (fun vs H Q E h => ?_) (fun cdv A outer s H vs Q E hr h => ?_)
  · obtain ⟨l, rfl, _⟩ := h
    rfl
  · obtain ⟨l, rfl, hl, ret⟩ := h
    have hz : 1000 + 2 ≤ sizeLine := by decide
    have hsl := szA_len l 0
    have hlen : (Txt.split (S l) ".").length = (szs l).length := by rw [← split_lens l, List.length_map]
    have key : ∀ (i : Nat) (y : Str), (Txt.split (S l) ".")[i]? = some y → (szs l)[i]? = some y.length := fun i y e => by
      rw [← split_lens l, List.getElem?_map, e] <;> rfl
    refine ⟨_, (pss_one (ps_ret (pe_callTy call_tuple_of (by rfl) T.n_tuple (by decide +kernel) (pa_cons (by refine' pe_lc (own := [("part", 1)]) (tt := tYes) rfl sc_sizes_of.nd ?hi (blkOk_by (N := ["text", "part"]) (sc := defScope s_sizes_of) (by first | decide +kernel | kernel_rfl | rfl)) ?hg ?ht ?he (by intro _; rfl); (case hi => exact (pi_list (pe_bm PySem.F.plainAttrs_str PySem.F.slot_str_split PySem.F.type_str_split mt_split (pv 0) (pa_cons pe_str pa_nil)))); (case hg => exact fun _ _ _ _ _ => (pg_name (i := 1) sc_sizes_of.nd rfl (Or.inl rfl))); (case ht => exact fun _ _ _ _ _ => pts_nil); (case he => exact fun _ _ _ _ _ => (pe_callB call_len_str (by rfl) T.n_len (by decide +kernel) (pa_cons (pv 1) pa_nil)))) pa_nil)))), ?_⟩
    refine ⟨_, rfl, rfl, S l, ".", rfl, rfl, by decide, by rw [S_ln]; omega, fun p hp => ?_⟩
    refine ⟨p, rfl, ⟨_, SqL.of upd_same⟩, fun D hD => ?_⟩
    have s1 : Same H (upd H p (.lst ((Txt.split (S l) ".").map V.str))) := smN (Same.refl _) hp
    have few : (szs l).length ≤ 1001 := by unfold szs; omega
    refine lc_outL (xs := (Txt.split (S l) ".").map V.str) (outM fun i => V.int ((szs l).getD i 0 : Nat)) hD (SqL.of upd_same) outM_0 (fun i hi => by
        rw [outM_l]
        rw [List.length_map, hlen] at hi
        exact Nat.lt_of_lt_of_le (Nat.lt_of_lt_of_le hi few) (by decide)) (fun i x H2 Kc K0 e s2 kc k0 => ?_) (fun H2 s2 e2 => ?_)
    · rw [List.getElem?_map] at e
      cases q : (Txt.split (S l) ".")[i]? with
      | none => rw [q] at e; cases e
      | some y =>
        rw [q] at e
        cases e
        have e3 := key i y q
        have hy : y.length ≤ 1000 := by
          have m := PyProof.Rows.part_short (List.mem_of_getElem? q)
          rw [S_ln l] at m
          omega
        refine ⟨rfl, yes1 ?_⟩
        refine ⟨_, rfl, y, rfl, Nat.le_trans hy (by decide), kc _ _ (Same.refl _) ?_⟩
        rw [outM_s, List.getD_eq_getElem?_getD, e3] <;> rfl
    · have e4 : outM (fun i => V.int ((szs l).getD i 0 : Nat)) ((Txt.split (S l) ".").map V.str).length = nums (szs l) := outM_all (by rw [List.length_map, hlen]; unfold nums; rw [List.length_map]) fun i hi => by
        unfold nums
        rw [List.length_map, hlen] at hi
        rw [List.getElem?_map, List.getD_eq_getElem?_getD, List.getElem?_eq_getElem hi] <;> rfl
      rw [e4] at e2
      refine ⟨D, _, rfl, .inl ⟨SqL.of e2, fun q hq => ?_⟩⟩
      exact ret q _ (smN (s1.trans s2) hq) ((s1.trans s2).free hq) upd_same
theorem ok_bits_of (T : Txp K mg z) : FnOk P wo K mg base CX0 1 z.a_bits_of z.d_bits_of ["text"] spBits := by
  refine Fun.okT T.F_bits_of sc_bits_of (by decide +kernel) (by decide) (fun vs H Q E h => ?_) (fun cdv A outer s H vs Q E hr h => ?_)
  · obtain ⟨l, rfl, _⟩ := h
    rfl
  · obtain ⟨l, rfl, hl, ret⟩ := h
    refine ⟨_, CwR.psst_one (CwR.pst_ret (CwR.pet_replC (pv 0))), ?_⟩
    refine ⟨_, rfl, S l, rfl, ?_, ?_⟩
    · rw [S_ln]
      show l.length + (l.length + 1) * 0 ≤ 16777216
      omega
    · rw [replace_dots]
      exact ret
end
end Fb
set_option maxRecDepth 100000
set_option maxHeartbeats 4000000
namespace Fb
open PySem PySem.Spec PyProof.Rows L2
open SX (S)
abbrev txV (f : List (List Nat)) : List V := (f.map S).map V.str
theorem txV_len (F : List (List Nat)) : (txV F).length = F.length := by rw [List.length_map, List.length_map]
theorem txV_get {F : List (List Nat)} {i : Nat} {x : V} (e : (txV F)[i]? = some x) : ∃ t, F[i]? = some t ∧ x = .str (S t) := by
  rw [List.getElem?_map, List.getElem?_map] at e
  cases q : F[i]? with
  | none => rw [q] at e; cases e
  | some l => rw [q] at e; cases e; exact ⟨l, rfl, rfl⟩
theorem inV_txV (z : List Nat) (F : List (List Nat)) : inV (.str (S z)) (txV F) = decide (z ∈ F) := by
  show ((F.map S).map V.str).any (fun y => eqV y (V.str (S z))) = _
  rw [List.map_map, List.any_map]
  have e : (fun y => eqV y (V.str (S z))) ∘ (V.str ∘ S) = fun p : List Nat => decide (p = z) := by
    funext p
    show (S p == S z) = _
    rw [SX.S_beq_eq]
  rw [e]
  by_cases h : z ∈ F
  · rw [decide_eq_true h]
    exact List.any_eq_true.mpr ⟨z, h, by simp⟩
  · rw [decide_eq_false h]
    refine List.any_eq_false.mpr fun p hp => ?_
    simp only [decide_eq_true_eq]
    exact fun e => h (e ▸ hp)
theorem iteB0 {b : Bool} {A B : Prop} (e : b = false) (h : B) : if b = true then A else B := by
  rw [e]
  exact iteF h
theorem iteB1 {b : Bool} {A B : Prop} (e : b = true) (h : A) : if b = true then A else B := by
  rw [e]
  exact iteT h
theorem two_len {α : Type} {l : List α} (h : l.length = 2) : ∃ a b, l = [a, b] := by
  match l, h with
  | [a, b], _ => exact ⟨a, b, rfl⟩
/-! rolling patterns -/
/-- the blocks of a pattern -/
def pts (l : List Nat) : List (List Nat) := cut (szs l) (bt l)
theorem split_pts (l : List Nat) : Txt.split (S l) "." = (pts l).map S := split_cut l
theorem pts_len (l : List Nat) : (pts l).length = (szs l).length := cut_len _ _
theorem pts_lens (l : List Nat) : (pts l).map List.length = szs l := cut_lens (Nat.le_of_eq (bt_sum l).symm)
theorem pts_short {l p : List Nat} (h : p ∈ pts l) : p.length ≤ l.length := by
  have e : p.length ∈ szs l := by rw [← pts_lens l]; exact List.mem_map.mpr ⟨p, h, rfl⟩
  have e2 := le_sum e
  rw [← bt_sum] at e2
  exact Nat.le_trans e2 (List.length_filter_le _ _)
/-- two blocks of one size, of three bits or more -/
def roll (l : List Nat) : Bool := match szs l with
  | [a, b] => decide (a = b) && decide (3 ≤ a)
  | _ => false
theorem roll_two {l : List Nat} (h : roll l = true) : ∃ n A B, 3 ≤ n ∧ szs l = [n, n] ∧ pts l = [A, B] ∧ A.length = n ∧ B.length = n := by
  unfold roll at h
  have e := pts_lens l
  split at h
  · rename_i a b eq
    rw [Bool.and_eq_true] at h
    obtain ⟨h1, h2⟩ := h
    have h1 := of_decide_eq_true h1
    have h2 := of_decide_eq_true h2
    subst h1
    rw [eq] at e
    have ll : (pts l).length = 2 := by rw [← List.length_map (f := List.length), e] <;> rfl
    obtain ⟨A, B, hp⟩ := two_len ll
    rw [hp] at e
    simp only [List.map_cons, List.map_nil, List.cons.injEq, and_true] at e
    exact ⟨a, A, B, h2, eq, hp, e.1, e.2⟩
  · cases h
theorem cut_hd (x : List Nat) : cutS (S x) none (some 2) = S (x.take 2) := by
  unfold cutS
  have e : (S x).cps.toList = x := rfl
  have e2 : (S x).length = x.length := SX.S_len x
  rw [e, e2]
  show S _ = S _
  congr 1
  show (x.drop 0).take (min 2 x.length - 0) = x.take 2
  rw [List.drop_zero, Nat.sub_zero]
  by_cases h : 2 ≤ x.length
  · rw [Nat.min_eq_left h]
  · rw [Nat.min_eq_right (by omega), List.take_length, List.take_of_length_le (by omega)]
theorem cut_tl (x : List Nat) : cutS (S x) (some 2) none = S (x.drop 2) := by
  unfold cutS
  have e : (S x).cps.toList = x := rfl
  have e2 : (S x).length = x.length := SX.S_len x
  rw [e, e2]
  show S _ = S _
  congr 1
  show (x.drop (min 2 x.length)).take (x.length - min 2 x.length) = x.drop 2
  by_cases h : 2 ≤ x.length
  · rw [Nat.min_eq_left h, List.take_of_length_le (by rw [List.length_drop]; omega)]
  · rw [Nat.min_eq_right (by omega), List.drop_length, List.drop_of_length_le (by omega)] <;> simp
def mk2 (h : List Nat) : Bool := decide (h ∈ [[49, 48], [48, 49]])
theorem in_marks (h : List Nat) : inV (.str (S h)) [V.str "10", V.str "01"] = mk2 h := by
  rw [show ("10" : Str) = S [49, 48] by decide +kernel, show ("01" : Str) = S [48, 49] by decide +kernel]
  exact inV_txV h [[49, 48], [48, 49]]
/-- the live block -/
def lvB (A B : List Nat) : Option Nat := if mk2 (A.take 2) = true then (if mk2 (B.take 2) = true then some (if A.take 2 = B.take 2 then 0 else 1) else some 0) else if mk2 (B.take 2) = true then some 1 else none
def hdF (A B : List Nat) : V := match lvB A B with
  | none => .non
  | some k => .str (S ((if k = 0 then A else B).drop 2))
def firsts (n : Nat) : List Nat := [0, 1, n, n + 1]
def ordN (n : Nat) : List Nat := firsts n ++ (List.range (2 * n)).filter fun b => decide (b ∉ firsts n)
def spHeads : Sp := fun vs H Q _ => ∃ l, vs = [.str (S l)] ∧ l.length ≤ 1000 ∧ ∀ p H', Same H H' → H p = none → H' p = some (.lst (txV ((pts l).map (List.take 2)))) → Q (.ref p) H'
def spConts : Sp := fun vs H Q _ => ∃ l, vs = [.str (S l)] ∧ l.length ≤ 1000 ∧ ∀ p H', Same H H' → H p = none → H' p = some (.lst (txV ((pts l).map (List.drop 2)))) → Q (.ref p) H'
def spLB : Sp := fun vs H Q _ => ∃ l A B, vs = [.str (S l)] ∧ l.length ≤ 1000 ∧ pts l = [A, B] ∧ ∀ H', Same H H' → Q (optI (lvB A B)) H'
def spHeld : Sp := fun vs H Q _ => ∃ l A B, vs = [.str (S l)] ∧ l.length ≤ 1000 ∧ pts l = [A, B] ∧ ∀ H', Same H H' → Q (hdF A B) H'
def spNeedR (K : PySem.W.Frag) (cN cU : Addr) : Sp := fun vs H Q E => ∃ x r, vs = [x] ∧ Flt K H x r ∧ (∀ k, r = some k → OutNP cN H E k) ∧
  (r = none → ∀ l, x = .str (S l) → if roll l = true then ∀ H', Same H H' → Q .non H' else ∀ H', Same H H' → E (.ref cU) none H')
/-- what is asked of a value: refused, or of a rolling pattern -/
def spAsk (K : PySem.W.Frag) (cN cU : Addr) (ok : List Nat → List Nat → List Nat → Hp → VK → Prop) : Sp := fun vs H Q E => ∃ x r, vs = [x] ∧ Flt K H x r ∧ (∀ k, r = some k → OutNP cN H E k) ∧
  (r = none → ∀ l, x = .str (S l) → if roll l = true then ∀ A B, pts l = [A, B] → ok l A B H Q else ∀ H', Same H H' → E (.ref cU) none H')
def okLive : List Nat → List Nat → List Nat → Hp → VK → Prop := fun _ A B H Q => ∀ H', Same H H' → Q (optI (lvB A B)) H'
def okCont : List Nat → List Nat → List Nat → Hp → VK → Prop := fun _ A B H Q => ∀ H', Same H H' → Q (hdF A B) H'
def okOrd : List Nat → List Nat → List Nat → Hp → VK → Prop := fun _ A _ H Q => ∀ p H', Same H H' → H p = none → H' p = some (.tup (nums (ordN A.length))) → Q (.ref p) H'
section
variable {P : Program} {wo : World} {K : PySem.W.Frag} {mg : Str → Option Value} {base : Heap} {z : Pz}
theorem ok_need_rolling (T : Txp K mg z) : FnOk P wo K mg base (L2.CX P wo) 4 z.a_need_rolling z.d_need_rolling ["x"] (spNeedR K z.cNoPattern z.cUnlike) := by
  refine T.F_need_rolling.okX sc_need_rolling (fun vs H Q E h => ?_) (fun cdv A outer s H vs Q E hr h => ?_)
  · obtain ⟨x, r, rfl, _⟩ := h
    rfl
  · obtain ⟨x, r, rfl, hf, hx, ok⟩ := h
    have hr3 : Room 3 _ := hr
    have hr1 : Room 1 _ := hr.mono (by decide)
    have G_need_pattern : FnOk P wo K mg base (L2.CX P wo) 3 z.a_need_pattern z.d_need_pattern ["thing"] (spNeedX K z.cNoPattern) := ok_need_patternX T
    have G_sizes_of : FnOk P wo K mg base CX0 1 z.a_sizes_of z.d_sizes_of ["text"] spSizes := ok_sizes_of T
    obtain ⟨tL, gLEAST_SIZE⟩ := T.g_LEAST_SIZE
    refine ⟨_, (pss_cons (ps_expr (pe_call G_need_pattern hr3 rfl T.g_need_pattern T.k_need_pattern T.b_need_pattern .nil (passes_call (takes_of rfl rfl rfl rfl) (fun _ _ _ _ h => h)) (pa_cons (pv 0) pa_nil)))
      (pss_cons (ps_set (i := 1) sc_need_rolling.nd rfl (Or.inl rfl) (pe_call G_sizes_of hr1 rfl T.g_sizes_of T.k_sizes_of T.b_sizes_of .nil pass0 (pa_cons (pv 0) pa_nil)))
      (pss_one (ps_if (PW.pt (pw_or (pt_cmpR op_ne (pe_callB call_len_seq (by rfl) T.n_len (by decide +kernel) (pa_cons (pv 1) pa_nil)) pe_int (nomark _)) (pw_or (pt_cmpR op_ne (pe_ix ix_tup (pv 1) pe_int (fun _ _ => rfl)) (pe_ix ix_tup (pv 1) pe_int (fun _ _ => rfl)) (nomark _)) (pw_or1 (pt_cmpR op_lt (pe_ix ix_tup (pv 1) pe_int (fun _ _ => rfl)) (pe_glob (v := .int 3) rfl gLEAST_SIZE ⟨_, rfl⟩) (nomark _))))))
        (pss_one (ps_raise rfl (takes_of rfl rfl rfl rfl) (pmk_own PySem.F.excBase_ValueError T.eUnlike T.xUnlike.g T.xUnlike.kp (raises_own T.xUnlike.xc.sb T.xUnlike.ty) rfl)))
        pss_nil)))), ?_⟩
    refine ⟨_, rfl, x, r, rfl, hf, fun er H1 s1 => ?_, hx⟩
    subst er
    obtain ⟨l, rfl, hp⟩ := hf.text
    have ok := ok rfl l rfl
    have len := hp.len
    refine ⟨_, rfl, l, rfl, by omega, fun p H2 s2 np hp2 => ?_⟩
    have s12 := s1.trans s2
    have lz : (nums (szs l)).length = (szs l).length := by unfold nums; rw [List.length_map]
    have no : roll l = false → E (.ref z.cUnlike) none H2 := fun e => by
      rw [e, if_neg Bool.false_ne_true] at ok
      exact ok _ s12
    refine ⟨_, rfl, p, _, rfl, .inr (SqT.of hp2), rfl, _, rfl, ?_⟩
    rw [lz]
    by_cases c : (szs l).length = 2
    · rw [c]
      refine iteNS rfl ?_
      obtain ⟨a, b, eab⟩ := two_len c
      have er : roll l = (decide (a = b) && decide (3 ≤ a)) := by unfold roll; rw [eab]
      refine ⟨_, rfl, p, nums (szs l), 0, .int (a : Nat), rfl, rfl, SqT.of hp2, by rw [eab] <;> rfl, ?_⟩
      refine ⟨_, rfl, p, nums (szs l), 1, .int (b : Nat), rfl, rfl, SqT.of hp2, by rw [eab] <;> rfl, ?_⟩
      refine ⟨rfl, _, rfl, ?_⟩
      by_cases c2 : a = b
      · subst c2
        refine iteNS rfl ?_
        refine ⟨_, rfl, p, nums (szs l), 0, .int (a : Nat), rfl, rfl, SqT.of hp2, by rw [eab] <;> rfl, ?_⟩
        refine ⟨_, _, rfl, rfl, _, rfl, ?_⟩
        refine ite2 (fun c3 => ?_) (fun c3 => ?_)
        · have := of_decide_eq_true c3
          exact no (by rw [er, decide_eq_true rfl, decide_eq_false (by omega)] <;> rfl)
        · have c4 : 3 ≤ a := Nat.le_of_not_lt fun q => c3 (decide_eq_true (by omega))
          have er2 : roll l = true := by rw [er, decide_eq_true rfl, decide_eq_true c4] <;> rfl
          rw [er2, if_pos rfl] at ok
          exact ok _ s12
      · rw [decide_eq_false (fun q => c2 (by have := V.int.inj q; omega))]
        exact iteT (iteT (no (by rw [er, decide_eq_false c2] <;> rfl)))
    · rw [decide_eq_false (fun q => c (by have := V.int.inj q; omega))]
      refine iteT (iteT (no ?_))
      unfold roll
      split
      · rename_i eq
        rw [eq] at c
        exact absurd rfl c
      · rfl
theorem ok_headers_of (T : Txp K mg z) : FnOk P wo K mg base CX0 1 z.a_headers_of z.d_headers_of ["x"] spHeads := by
  refine T.F_headers_of.ok sc_headers_of (fun vs H Q E h => ?_) (fun cdv A outer s H vs Q E hr h => ?_)
  · obtain ⟨l, rfl, _⟩ := h
    rfl
  · obtain ⟨l, rfl, hl, ret⟩ := h
    have hz : 1000 + 2 ≤ sizeLine := by decide
    obtain ⟨tH, gHEADER⟩ := T.g_HEADER
    refine ⟨_, (pss_one (ps_ret (by refine' pe_lc (own := [("part", 1)]) (tt := tYes) rfl sc_headers_of.nd ?hi (blkOk_by (N := ["x", "part"]) (sc := defScope s_headers_of) (by first | decide +kernel | kernel_rfl | rfl)) ?hg ?ht ?he (by intro _; rfl); (case hi => exact (pi_list (pe_bm PySem.F.plainAttrs_str PySem.F.slot_str_split PySem.F.type_str_split mt_split (pv 0) (pa_cons pe_str pa_nil)))); (case hg => exact fun _ _ _ _ _ => (pg_name (i := 1) sc_headers_of.nd rfl (Or.inl rfl))); (case ht => exact fun _ _ _ _ _ => pts_nil); (case he => exact fun _ _ _ _ _ => (pe_slice sl_str (pv 1) po_none (po_some (pe_glob (v := .int 2) rfl gHEADER ⟨_, rfl⟩))))))), ?_⟩
    refine ⟨_, rfl, rfl, S l, ".", rfl, rfl, by decide, by rw [S_ln]; omega, fun p hp => ?_⟩
    rw [split_pts]
    have s1 := smN (o := .lst (txV (pts l))) (Same.refl H) hp
    refine ⟨p, rfl, ⟨_, SqL.of upd_same⟩, fun D hD => ?_⟩
    refine lc_outL (xs := txV (pts l)) (outM fun i => V.str (S (((pts l).getD i []).take 2))) hD (SqL.of upd_same) outM_0 (fun i hi => ?_) (fun i x H2 Kc K0 e s2 kc k0 => ?_) (fun H2 s2 e2 => ?_)
    · rw [outM_l]
      rw [txV_len, pts_len] at hi
      have := szA_len l 0
      unfold szs at hi
      omega
    · obtain ⟨t, et, rfl⟩ := txV_get e
      have lt := pts_short (List.mem_of_getElem? et)
      refine ⟨rfl, yes1 ?_⟩
      refine ⟨_, rfl, 2, rfl, S t, rfl, by rw [S_ln]; omega, kc _ _ (Same.refl _) ?_⟩
      rw [outM_s, cut_hd, List.getD_eq_getElem?_getD, et] <;> rfl
    · have e4 : outM (fun i => V.str (S (((pts l).getD i []).take 2))) (txV (pts l)).length = txV ((pts l).map (List.take 2)) := outM_all (by rw [txV_len, txV_len, List.length_map]) fun i hi => by
        rw [txV_len] at hi
        show ((((pts l).map (List.take 2)).map S).map V.str)[i]? = _
        rw [List.getElem?_map, List.getElem?_map, List.getElem?_map, List.getD_eq_getElem?_getD, List.getElem?_eq_getElem hi] <;> rfl
      rw [e4] at e2
      exact ret D H2 (s1.trans s2) (s1.free hD) e2
theorem ok_contents_of (T : Txp K mg z) : FnOk P wo K mg base CX0 1 z.a_contents_of z.d_contents_of ["x"] spConts := by
  refine T.F_contents_of.ok sc_contents_of (fun vs H Q E h => ?_) (fun cdv A outer s H vs Q E hr h => ?_)
  · obtain ⟨l, rfl, _⟩ := h
    rfl
  · obtain ⟨l, rfl, hl, ret⟩ := h
    have hz : 1000 + 2 ≤ sizeLine := by decide
    obtain ⟨tH, gHEADER⟩ := T.g_HEADER
    refine ⟨_, (pss_one (ps_ret (by refine' pe_lc (own := [("part", 1)]) (tt := tYes) rfl sc_contents_of.nd ?hi (blkOk_by (N := ["x", "part"]) (sc := defScope s_contents_of) (by first | decide +kernel | kernel_rfl | rfl)) ?hg ?ht ?he (by intro _; rfl); (case hi => exact (pi_list (pe_bm PySem.F.plainAttrs_str PySem.F.slot_str_split PySem.F.type_str_split mt_split (pv 0) (pa_cons pe_str pa_nil)))); (case hg => exact fun _ _ _ _ _ => (pg_name (i := 1) sc_contents_of.nd rfl (Or.inl rfl))); (case ht => exact fun _ _ _ _ _ => pts_nil); (case he => exact fun _ _ _ _ _ => (pe_slice sl_str (pv 1) (po_some (pe_glob (v := .int 2) rfl gHEADER ⟨_, rfl⟩)) po_none))))), ?_⟩
    refine ⟨_, rfl, rfl, S l, ".", rfl, rfl, by decide, by rw [S_ln]; omega, fun p hp => ?_⟩
    rw [split_pts]
    have s1 := smN (o := .lst (txV (pts l))) (Same.refl H) hp
    refine ⟨p, rfl, ⟨_, SqL.of upd_same⟩, fun D hD => ?_⟩
    refine lc_outL (xs := txV (pts l)) (outM fun i => V.str (S (((pts l).getD i []).drop 2))) hD (SqL.of upd_same) outM_0 (fun i hi => ?_) (fun i x H2 Kc K0 e s2 kc k0 => ?_) (fun H2 s2 e2 => ?_)
    · rw [outM_l]
      rw [txV_len, pts_len] at hi
      have := szA_len l 0
      unfold szs at hi
      omega
    · obtain ⟨t, et, rfl⟩ := txV_get e
      have lt := pts_short (List.mem_of_getElem? et)
      refine ⟨rfl, yes1 ?_⟩
      refine ⟨_, rfl, 2, rfl, S t, rfl, by rw [S_ln]; omega, kc _ _ (Same.refl _) ?_⟩
      rw [outM_s, cut_tl, List.getD_eq_getElem?_getD, et] <;> rfl
    · have e4 : outM (fun i => V.str (S (((pts l).getD i []).drop 2))) (txV (pts l)).length = txV ((pts l).map (List.drop 2)) := outM_all (by rw [txV_len, txV_len, List.length_map]) fun i hi => by
        rw [txV_len] at hi
        show ((((pts l).map (List.drop 2)).map S).map V.str)[i]? = _
        rw [List.getElem?_map, List.getElem?_map, List.getElem?_map, List.getD_eq_getElem?_getD, List.getElem?_eq_getElem hi] <;> rfl
      rw [e4] at e2
      exact ret D H2 (s1.trans s2) (s1.free hD) e2
theorem ok_live_block (T : Txp K mg z) : FnOk P wo K mg base CX0 2 z.a_live_block z.d_live_block ["x"] spLB := by
  refine T.F_live_block.ok sc_live_block (fun vs H Q E h => ?_) (fun cdv A outer s H vs Q E hr h => ?_)
  · obtain ⟨l, A, B, rfl, _⟩ := h
    rfl
  · obtain ⟨l, A, B, rfl, hl, hp, ret⟩ := h
    have hr1 : Room 1 _ := hr
    have G_headers_of : FnOk P wo K mg base CX0 1 z.a_headers_of z.d_headers_of ["x"] spHeads := ok_headers_of T
    refine ⟨_, (pss_cons (ps_asg (pe_call G_headers_of hr1 rfl T.g_headers_of T.k_headers_of T.b_headers_of .nil pass0 (pa_cons (pv 0) pa_nil)) (pg_lst rfl (pgs_cons (pg_name (i := 1) sc_live_block.nd rfl (Or.inl rfl)) (pgs_cons (pg_name (i := 2) sc_live_block.nd rfl (Or.inl rfl)) pgs_nil))))
      (pss_cons (ps_if (PW.pt (pw_and (pt_cmpR (op_inK (K := K) rfl) (pv 1) (pe_glob (v := .ref z.kMARKS) rfl T.g_MARKS rfl) rfl) (pw_and1 (pt_cmpR (op_inK (K := K) rfl) (pv 2) (pe_glob (v := .ref z.kMARKS) rfl T.g_MARKS rfl) rfl))))
        (pss_one (ps_ret (pe_ifExp (pt_cmpR op_eq (pv 1) (pv 2) (nomark _)) pe_int pe_int)))
        pss_nil)
      (pss_cons (ps_if (pt_cmpR (op_inK (K := K) rfl) (pv 1) (pe_glob (v := .ref z.kMARKS) rfl T.g_MARKS rfl) rfl)
        (pss_one (ps_ret pe_int))
        pss_nil)
      (pss_one (ps_ret (pe_ifExp (pt_cmpR (op_inK (K := K) rfl) (pv 2) (pe_glob (v := .ref z.kMARKS) rfl T.g_MARKS rfl) rfl) pe_int pe_non)))))), ?_⟩
    refine ⟨_, rfl, l, rfl, hl, fun p H1 s1 np hp1 => ?_⟩
    rw [hp] at hp1
    refine ⟨p, _, rfl, SqL.of hp1, rfl, ?_⟩
    refine ⟨_, _, rfl, ?_⟩
    refine ⟨_, _, rfl, ?_⟩
    refine ⟨rfl, ?_⟩
    have q := ret _ s1
    unfold lvB at q
    refine ⟨_, rfl, z.kMARKS, _, rfl, .inr (.inr T.lkMARKS), rfl, rfl, _, rfl, ?_⟩
    rw [in_marks]
    refine ite2 (fun c1 => ?_) (fun c1 => ?_)
    · have c1' : mk2 (A.take 2) = true := c1
      rw [if_pos c1'] at q
      refine ⟨_, rfl, z.kMARKS, _, rfl, .inr (.inr T.lkMARKS), rfl, rfl, _, rfl, ?_⟩
      rw [in_marks]
      refine ite2 (fun c2 => ?_) (fun c2 => ?_)
      · have c2' : mk2 (B.take 2) = true := c2
        rw [if_pos c2'] at q
        refine ⟨_, rfl, _, rfl, rfl, _, rfl, ?_⟩
        by_cases c3 : A.take 2 = B.take 2
        · rw [if_pos c3] at q
          rw [c3]
          exact iteB1 (decide_eq_true rfl) q
        · rw [if_neg c3] at q
          exact iteB0 (decide_eq_false fun e => c3 (by simpa using S_eq.mp e)) q
      · have c2' : ¬ mk2 (B.take 2) = true := c2
        rw [if_neg c2'] at q
        refine ⟨_, rfl, z.kMARKS, _, rfl, .inr (.inr T.lkMARKS), rfl, rfl, _, rfl, ?_⟩
        rw [in_marks]
        exact iteB1 c1 q
    · have c1' : ¬ mk2 (A.take 2) = true := c1
      rw [if_neg c1'] at q
      refine iteF ?_
      refine ⟨_, rfl, z.kMARKS, _, rfl, .inr (.inr T.lkMARKS), rfl, rfl, _, rfl, ?_⟩
      rw [in_marks]
      refine iteB0 (by simpa using c1') ?_
      refine ⟨_, rfl, z.kMARKS, _, rfl, .inr (.inr T.lkMARKS), rfl, rfl, _, rfl, ?_⟩
      rw [in_marks]
      refine ite2 (fun c2 => ?_) (fun c2 => ?_)
      · have c2' : mk2 (B.take 2) = true := c2
        rw [if_pos c2'] at q
        exact q
      · have c2' : ¬ mk2 (B.take 2) = true := c2
        rw [if_neg c2'] at q
        exact q
theorem ok_held_content (T : Txp K mg z) : FnOk P wo K mg base CX0 3 z.a_held_content z.d_held_content ["x"] spHeld := by
  refine T.F_held_content.ok sc_held_content (fun vs H Q E h => ?_) (fun cdv A outer s H vs Q E hr h => ?_)
  · obtain ⟨l, A, B, rfl, _⟩ := h
    rfl
  · obtain ⟨l, A, B, rfl, hl, hp, ret⟩ := h
    have hr2 : Room 2 _ := hr
    have hr1 : Room 1 _ := hr.mono (by decide)
    have G_live_block : FnOk P wo K mg base CX0 2 z.a_live_block z.d_live_block ["x"] spLB := ok_live_block T
    have G_contents_of : FnOk P wo K mg base CX0 1 z.a_contents_of z.d_contents_of ["x"] spConts := ok_contents_of T
    refine ⟨_, (pss_cons (ps_set (i := 1) sc_held_content.nd rfl (Or.inl rfl) (pe_call G_live_block hr2 rfl T.g_live_block T.k_live_block T.b_live_block .nil pass0 (pa_cons (pv 0) pa_nil)))
      (pss_one (ps_ret (pe_ifExp (pt_cmpR op_isN (pv 1) pe_non (nomark _)) pe_non (pe_ix ix_list (pe_call G_contents_of hr1 rfl T.g_contents_of T.k_contents_of T.b_contents_of .nil pass0 (pa_cons (pv 0) pa_nil)) (pv 1) (fun _ _ => rfl)))))), ?_⟩
    refine ⟨_, rfl, l, A, B, rfl, hl, hp, fun H1 s1 => ?_⟩
    unfold hdF at ret
    cases e : lvB A B with
    | none =>
      rw [e] at ret
      refine ⟨_, rfl, rfl, _, rfl, iteB1 (decide_eq_true rfl) ?_⟩
      exact ret _ s1
    | some k =>
      rw [e] at ret
      have k01 : k = 0 ∨ k = 1 := by
        unfold lvB at e
        repeat (first | (split at e) | (cases e; simp) | cases e)
      refine ⟨_, rfl, rfl, _, rfl, iteB0 (decide_eq_false fun z => nomatch z) ?_⟩
      refine ⟨_, rfl, l, rfl, hl, fun p H2 s2 np hp2 => ?_⟩
      rw [hp] at hp2
      refine ⟨_, rfl, p, _, (k : Int), .str (S ((if k = 0 then A else B).drop 2)), rfl, rfl, SqL.of hp2, ?_, ret _ (s1.trans s2)⟩
      rcases k01 with rfl | rfl <;> rfl
theorem ok_live (T : Txp K mg z) : FnOk P wo K mg base (L2.CX P wo) 5 z.a_live z.d_live ["x"] (spAsk K z.cNoPattern z.cUnlike okLive) := by
  refine T.F_live.okX sc_live (fun vs H Q E h => ?_) (fun cdv A outer s H vs Q E hr h => ?_)
  · obtain ⟨x, r, rfl, _⟩ := h
    rfl
  · obtain ⟨x, r, rfl, hf, hx, ok⟩ := h
    have hr4 : Room 4 _ := hr
    have hr2 : Room 2 _ := hr.mono (by decide)
    have G_need_rolling : FnOk P wo K mg base (L2.CX P wo) 4 z.a_need_rolling z.d_need_rolling ["x"] (spNeedR K z.cNoPattern z.cUnlike) := ok_need_rolling T
    have G_live_block : FnOk P wo K mg base CX0 2 z.a_live_block z.d_live_block ["x"] spLB := ok_live_block T
    refine ⟨_, (pss_cons (ps_expr (pe_call G_need_rolling hr4 rfl T.g_need_rolling T.k_need_rolling T.b_need_rolling .nil (passes_call (takes_of rfl rfl rfl rfl) (fun _ _ _ _ h => h)) (pa_cons (pv 0) pa_nil)))
      (pss_one (ps_ret (pe_call G_live_block hr2 rfl T.g_live_block T.k_live_block T.b_live_block .nil pass0 (pa_cons (pv 0) pa_nil))))), ?_⟩
    refine ⟨_, rfl, x, r, rfl, hf, hx, fun er l el => ?_⟩
    have ok1 := ok er l el
    clear ok
    by_cases c : roll l = true
    · rw [if_pos c] at ok1 ⊢
      obtain ⟨n, A, B, h3, es, ep, _⟩ := roll_two c
      subst el er
      obtain ⟨l', e', hp⟩ := hf.text
      have len := hp.len
      cases S_eq.mp e'
      refine fun H1 s1 => ⟨_, rfl, l, A, B, rfl, by omega, ep, fun H2 s2 => ok1 A B ep _ (s1.trans s2)⟩
    · rw [if_neg c] at ok1 ⊢
      exact ok1
theorem ok_content (T : Txp K mg z) : FnOk P wo K mg base (L2.CX P wo) 5 z.a_content z.d_content ["x"] (spAsk K z.cNoPattern z.cUnlike okCont) := by
  refine T.F_content.okX sc_content (fun vs H Q E h => ?_) (fun cdv A outer s H vs Q E hr h => ?_)
  · obtain ⟨x, r, rfl, _⟩ := h
    rfl
  · obtain ⟨x, r, rfl, hf, hx, ok⟩ := h
    have hr4 : Room 4 _ := hr
    have hr3 : Room 3 _ := hr.mono (by decide)
    have G_need_rolling : FnOk P wo K mg base (L2.CX P wo) 4 z.a_need_rolling z.d_need_rolling ["x"] (spNeedR K z.cNoPattern z.cUnlike) := ok_need_rolling T
    have G_held_content : FnOk P wo K mg base CX0 3 z.a_held_content z.d_held_content ["x"] spHeld := ok_held_content T
    refine ⟨_, (pss_cons (ps_expr (pe_call G_need_rolling hr4 rfl T.g_need_rolling T.k_need_rolling T.b_need_rolling .nil (passes_call (takes_of rfl rfl rfl rfl) (fun _ _ _ _ h => h)) (pa_cons (pv 0) pa_nil)))
      (pss_one (ps_ret (pe_call G_held_content hr3 rfl T.g_held_content T.k_held_content T.b_held_content .nil pass0 (pa_cons (pv 0) pa_nil))))), ?_⟩
    refine ⟨_, rfl, x, r, rfl, hf, hx, fun er l el => ?_⟩
    have ok1 := ok er l el
    clear ok
    by_cases c : roll l = true
    · rw [if_pos c] at ok1 ⊢
      obtain ⟨n, A, B, h3, es, ep, _⟩ := roll_two c
      subst el er
      obtain ⟨l', e', hp⟩ := hf.text
      have len := hp.len
      cases S_eq.mp e'
      refine fun H1 s1 => ⟨_, rfl, l, A, B, rfl, by omega, ep, fun H2 s2 => ok1 A B ep _ (s1.trans s2)⟩
    · rw [if_neg c] at ok1 ⊢
      exact ok1
end
end Fb
set_option maxRecDepth 100000
set_option maxHeartbeats 4000000
namespace Fb
open PySem PySem.Spec PyProof.Rows L2
open SX (S)
/-! contents, moves -/
def CFlt (K : PySem.W.Frag) (H : Hp) (x : V) (m : Nat) (r : Option Nat) : Prop := (∃ l, x = .str (S l) ∧ l.length ≤ 1000 ∧ r = cfa l 0 m) ∨ (∃ t, TyX K H x t ∧ PySem.W.kitOne K t (.type "str") = some false ∧ r = some 0)
theorem CFlt.same {K : PySem.W.Frag} {H H' : Hp} {x : V} {m : Nat} {r : Option Nat} (s : Same H H') (h : CFlt K H x m r) : CFlt K H' x m r := by
  rcases h with ⟨l, h⟩ | ⟨t, h1, h2, h3⟩
  · exact .inl ⟨l, h⟩
  · exact .inr ⟨t, tyX_same s h1, h2, h3⟩
theorem CFlt.text {K : PySem.W.Frag} {H : Hp} {x : V} {m : Nat} (h : CFlt K H x m none) : ∃ l, x = .str (S l) ∧ l.length = m ∧ ∀ c ∈ l, c = 48 ∨ c = 49 := by
  rcases h with ⟨l, h1, h2, h3⟩ | ⟨t, h1, h2, h3⟩
  · obtain ⟨q1, q2⟩ := (cfa_none (Nat.zero_le m)).mp h3.symm
    exact ⟨l, h1, by omega, q2⟩
  · cases h3
def spCont (K : PySem.W.Frag) (cN : Addr) : Sp := fun vs H Q E => ∃ x m r, vs = [x, .int (m : Nat)] ∧ m ≤ 1000 ∧ CFlt K H x m r ∧ (r = none → ∀ H', Same H H' → Q .non H') ∧ ∀ k, r = some k → OutNP cN H E k
def spStb : Sp := fun vs H Q _ => ∃ l, vs = [.str (S l)] ∧ l.length ≤ 1000 ∧ ∀ D H', Same H H' → H D = none → H' D = some (.lst (nums (stb (bt l)))) → Q (.ref D) H'
def spoiltP (l : List Nat) : Bool := decide ([48, 48] ∈ (pts l).map (List.take 2))
def spSpoilt : Sp := fun vs H Q _ => ∃ l, vs = [.str (S l)] ∧ l.length ≤ 1000 ∧ ∀ H', Same H H' → Q (.bl (spoiltP l)) H'
def canM (A B : List Nat) : Bool := (lvB A B).isSome && !(decide (A.take 2 = [48, 48]) || decide (B.take 2 = [48, 48]))
def spCan : Sp := fun vs H Q _ => ∃ l A B, vs = [.str (S l)] ∧ l.length ≤ 1000 ∧ pts l = [A, B] ∧ ∀ H', Same H H' → Q (.bl (canM A B)) H'
/-- the mark behind a move -/
def mkb (a b : List Nat) (at_ : Nat) : List Nat := if at_ = 1 then b else if a = [49, 48] then [48, 49] else [49, 48]
def spMkb (K : PySem.W.Frag) : Sp := fun vs H Q _ => ∃ p a b at_, vs = [.ref p, .int (at_ : Nat)] ∧ H p = some (.lst (txV [a, b])) ∧ at_ ≤ 1 ∧ Q (.str (S (mkb a b at_))) H
section
variable {P : Program} {wo : World} {K : PySem.W.Frag} {mg : Str → Option Value} {base : Heap} {z : Pz}
theorem ok_Foreigni (T : Txp K mg z) : FnOk P wo K mg base CX0 1 z.a_Foreigni z.d_Foreigni ["self", "found"] (spI1 z.cForeign "found") := by
  refine T.F_Foreigni.ok sc_Foreign_init (fun vs H Q E h => ?_) (fun cdv A outer s H vs Q E hr h => ?_)
  · obtain ⟨a, v, rfl, _⟩ := h
    rfl
  · obtain ⟨a, v, rfl, ha, k⟩ := h
    exact ⟨_, pss_one (ps_ost (pv 0) (pv 1)), _, rfl, _, rfl, a, z.cForeign, rfl, T.xForeign.oc, T.nForeign_found, .inl ⟨ha, fun d h1 h2 => k d h1 h2⟩⟩
theorem ok_need_content (T : Txp K mg z) : FnOk P wo K mg base (L2.CX P wo) 3 z.a_need_content z.d_need_content ["thing", "many"] (spCont K z.cNoPattern) := by
  refine T.F_need_content.okX sc_need_content (fun vs H Q E h => ?_) (fun cdv A outer s H vs Q E hr h => ?_)
  · obtain ⟨x, m, r, rfl, _⟩ := h
    rfl
  · obtain ⟨x, m, r, rfl, hm, hf, ret, out⟩ := h
    have hr2 : Room 2 _ := hr
    refine ⟨_, (pss_cons (ps_if (pt_not (pt_val (pe_callB call_isi (by rfl) T.n_isinstance boot_isinstance (pa_cons (pv 0) (pa_cons (pe_bltn (v := .ty "str") rfl T.n_str (by decide +kernel) rfl) pa_nil)))))
        (pss_one (ps_raise rfl (takes_of rfl rfl rfl rfl) (pmk_oex T.xNoPattern.oc T.iNP T.tNP (ok_npi T) hr2 T.b_npi .nil pass0 rfl T.xNoPattern.g (pa_cons pe_int pa_nil))))
        pss_nil)
      (pss_cons (ps_for (passes_of rfl) rfl (pi_enumS rfl T.n_enumerate (pa_cons (pv 0) pa_nil)) (pg_tup rfl (pgs_cons (pg_name (i := 2) sc_need_content.nd rfl (Or.inl rfl)) (pgs_cons (pg_name (i := 3) sc_need_content.nd rfl (Or.inl rfl)) pgs_nil)))
        (pss_one (ps_if (PW.pt (pw_or (pt_cmpR op_eq (pv 2) (pv 1) (nomark _)) (pw_or1 (pt_cmpR (op_notInK (K := K) rfl) (pv 3) (pe_tup (pa_cons pe_str (pa_cons pe_str pa_nil))) rfl))))
          (pss_one (ps_raise rfl (takes_of rfl rfl rfl rfl) (pmk_oex T.xNoPattern.oc T.iNP T.tNP (ok_npi T) hr2 T.b_npi .nil pass0 rfl T.xNoPattern.g (pa_cons (pv 2) pa_nil))))
          pss_nil)))
      (pss_one (ps_if (pt_cmpR op_lt (pe_callB call_len_str (by rfl) T.n_len (by decide +kernel) (pa_cons (pv 0) pa_nil)) (pv 1) (nomark _))
        (pss_one (ps_raise rfl (takes_of rfl rfl rfl rfl) (pmk_oex T.xNoPattern.oc T.iNP T.tNP (ok_npi T) hr2 T.b_npi .nil pass0 rfl T.xNoPattern.g (pa_cons (pe_callB call_len_str (by rfl) T.n_len (by decide +kernel) (pa_cons (pv 0) pa_nil)) pa_nil))))
        pss_nil)))), ?_⟩
    rcases hf with ⟨l, rfl, hl, er⟩ | ⟨t, ty, kt, rfl⟩
    · refine ⟨_, rfl, _, _, _, _, true, rfl, .ty "str", .base (.str _), kit_ty (by decide +kernel), _, rfl, iteF ?_⟩
      refine ⟨_, rfl, S l, rfl, ?_⟩
      rw [S_sz]
      refine for_T (fun i σ H' => Same H H' ∧ ∃ (x2 x3 : Option V), σ = [some (.str (S l)), some (.int (m : Nat)), x2, x3] ∧ i ≤ m ∧ cfa (l.drop i) i m = r) ⟨Same.refl _, none, none, rfl, Nat.zero_le _, er.symm⟩ ?_ ?_
      · rintro i Tu σ H1 hi ⟨s1, x2, x3, rfl, im, e⟩ hT
        have hc : l[i]? = some l[i] := List.getElem?_eq_getElem hi
        have ed : l.drop i = l[i] :: l.drop (i + 1) := List.drop_eq_getElem_cons hi
        generalize l[i] = c at hc ed
        rw [ed] at e
        unfold cfa at e
        have es : sgn (S l) i = S [c] := S_sgn hc
        have s2 : Same H (upd H1 Tu (.tup [.int (i : Nat), .str (sgn (S l) i)])) := smN s1 hT
        refine ⟨Tu, [.int (i : Nat), .str (S [c])], rfl, SqT.of (by rw [upd_same, es]), rfl, ?_⟩
        refine ⟨_, _, rfl, ?_⟩
        refine ⟨_, _, rfl, ?_⟩
        refine ⟨rfl, ?_⟩
        refine ⟨_, rfl, _, rfl, rfl, _, rfl, ?_⟩
        refine ite2 (fun h1 => ?_) (fun h1 => ?_)
        · have h2 : i = m := by have := of_decide_eq_true h1; have := V.int.inj this; omega
          rw [if_pos (.inl h2)] at e
          refine iteT ⟨_, rfl, ?_⟩
          exact mk_tail (OutNP.later (out i e.symm) s2)
        · have h2 : ¬ i = m := fun z => h1 (by rw [z] <;> exact decide_eq_true rfl)
          refine ⟨_, rfl, by show 2 ≤ sizeLine; decide, fun t ht => ⟨t, _, rfl, .inr (SqT.of upd_same), rfl, rfl, _, rfl, ?_⟩⟩
          have s3 := smN (o := .tup [.str "0", .str "1"]) s2 ht
          rw [inV_bits]
          by_cases h3 : c = 48 ∨ c = 49
          · rw [decide_eq_true h3]
            rw [if_neg (by rintro (q | q); exact h2 q; exact q h3)] at e
            exact iteF ⟨s3, _, _, rfl, by omega, e⟩
          · rw [decide_eq_false h3]
            rw [if_pos (.inr h3)] at e
            refine iteT ⟨_, rfl, ?_⟩
            exact mk_tail (OutNP.later (out i e.symm) s3)
      · rintro σ H1 ⟨s1, x2, x3, rfl, im, e⟩
        rw [List.drop_length] at e
        unfold cfa at e
        have lz : (S l).length ≤ sizeLine := by rw [S_ln]; exact Nat.le_trans hl (by decide)
        refine ⟨_, rfl, S l, rfl, lz, ?_⟩
        rw [S_ln]
        refine ⟨_, rfl, _, _, rfl, rfl, _, rfl, ?_⟩
        refine ite2 (fun h1 => ?_) (fun h1 => ?_)
        · have h2 : l.length < m := by have := of_decide_eq_true h1; omega
          rw [if_pos h2] at e
          refine ⟨_, rfl, S l, rfl, lz, ?_⟩
          rw [S_ln]
          exact mk_tail (OutNP.later (out _ e.symm) s1)
        · have h2 : ¬ l.length < m := fun z => h1 (decide_eq_true (by omega))
          rw [if_neg h2] at e
          exact ret e.symm _ s1
    · refine ⟨_, rfl, _, _, _, _, false, rfl, .ty "str", ty, kt, _, rfl, iteT ?_⟩
      exact mk_tail (out 0 rfl)
theorem ok_standing_bits (T : Txp K mg z) : FnOk P wo K mg base CX0 2 z.a_standing_bits z.d_standing_bits ["x"] spStb := by
  refine T.F_standing_bits.ok sc_standing_bits (fun vs H Q E h => ?_) (fun cdv A outer s H vs Q E hr h => ?_)
  · obtain ⟨l, rfl, _⟩ := h
    rfl
  · obtain ⟨l, rfl, hl, ret⟩ := h
    have hr1 : Room 1 _ := hr
    have G_bits_of : FnOk P wo K mg base CX0 1 z.a_bits_of z.d_bits_of ["text"] spBits := ok_bits_of T
    refine ⟨_, (pss_one (ps_ret (by refine' pe_lc (own := [("number", 1), ("bit", 2)]) (g := (gTup K 2 (gCons (gName 1) (gCons (gName 2) gNil)))) rfl sc_standing_bits.nd ?hi (blkOk_by (N := ["x", "number", "bit"]) (sc := defScope s_standing_bits) (by first | decide +kernel | kernel_rfl | rfl)) ?hg ?ht ?he (by intro _; rfl); (case hi => exact (pi_enumS rfl T.n_enumerate (pa_cons (pe_call G_bits_of hr1 rfl T.g_bits_of T.k_bits_of T.b_bits_of .nil pass0 (pa_cons (pv 0) pa_nil)) pa_nil))); (case hg => exact fun _ _ _ _ _ => (pg_tup rfl (pgs_cons (pg_name (i := 1) sc_standing_bits.nd rfl (Or.inl rfl) (.inr rfl)) (pgs_cons (pg_name (i := 2) sc_standing_bits.nd rfl (Or.inl rfl) (.inr rfl)) pgs_nil)))); (case ht => exact fun _ _ _ _ _ => (pts_one (pt_cmpR op_eq (pv 2) pe_str (nomark _)))); (case he => exact fun _ _ _ _ _ => (pv 1))))), ?_⟩
    refine ⟨_, rfl, l, rfl, hl, ?_⟩
    rw [show l.filter (fun c => c != 46) = bt l from rfl]
    have bl : (bt l).length ≤ l.length := List.length_filter_le _ _
    generalize bt l = b at bl ret
    refine ⟨S b, rfl, fun D hD => ?_⟩
    rw [S_sz]
    refine lc_outT (outF (fun i => decide (b.getD i 0 = 49)) fun i => V.int (i : Nat)) hD outF_0 (fun i hi => Nat.lt_of_le_of_lt outF_l (small1 i (by omega))) (fun i Tu H2 Kc K0 lt s2 hT kc k0 => ?_) (fun H2 s2 e2 => ?_)
    · have g1 : b[i]? = some b[i] := List.getElem?_eq_getElem (by omega)
      have d1 : b.getD i 0 = b[i] := by rw [List.getD_eq_getElem?_getD, g1] <;> rfl
      refine ⟨Tu, [.int (i : Nat), .str (S [b[i]])], rfl, SqT.of (by rw [hT]; rw [show sgn (S b) i = S [b[i]] from S_sgn g1]), rfl, ?_⟩
      refine ⟨_, _, rfl, ?_⟩
      refine ⟨_, _, rfl, ?_⟩
      refine ⟨rfl, ?_⟩
      have st := outF_t (p := fun i => decide (b.getD i 0 = 49)) (f := fun i => V.int (i : Nat)) (i := i)
      have sf := outF_f (p := fun i => decide (b.getD i 0 = 49)) (f := fun i => V.int (i : Nat)) (i := i)
      rw [d1] at st sf
      generalize b[i] = a at st sf
      refine ⟨rfl, _, rfl, rfl, _, rfl, ?_⟩
      refine ite2 (fun h => ?_) (fun h => ?_)
      · have ne : a = 49 := by have := of_decide_eq_true h; rw [S_1] at this; simpa using S_eq.mp this
        exact ⟨_, rfl, kc _ _ (Same.refl _) (st (decide_eq_true ne))⟩
      · have ne : ¬ a = 49 := fun e => h (by rw [e, S_1] <;> exact decide_eq_true rfl)
        exact k0 _ (Same.refl _) (sf (decide_eq_false ne))
    · exact ret D H2 s2 hD e2
theorem ok_has_spoilt_header (T : Txp K mg z) : FnOk P wo K mg base CX0 2 z.a_has_spoilt_header z.d_has_spoilt_header ["x"] spSpoilt := by
  refine T.F_has_spoilt_header.ok sc_has_spoilt_header (fun vs H Q E h => ?_) (fun cdv A outer s H vs Q E hr h => ?_)
  · obtain ⟨l, rfl, _⟩ := h
    rfl
  · obtain ⟨l, rfl, hl, ret⟩ := h
    have hr1 : Room 1 _ := hr
    have G_headers_of : FnOk P wo K mg base CX0 1 z.a_headers_of z.d_headers_of ["x"] spHeads := ok_headers_of T
    obtain ⟨tS, gSPOILT⟩ := T.g_SPOILT
    refine ⟨_, (pss_one (ps_ret (pe_cmpR (op_inK (K := K) rfl) (pe_glob (v := .str "00") rfl gSPOILT ⟨_, rfl⟩) (pe_call G_headers_of hr1 rfl T.g_headers_of T.k_headers_of T.b_headers_of .nil pass0 (pa_cons (pv 0) pa_nil)) rfl))), ?_⟩
    refine ⟨_, rfl, l, rfl, hl, fun p H1 s1 np hp => ?_⟩
    refine ⟨p, _, rfl, .inl (SqL.of hp), rfl, flat_parts _, ?_⟩
    rw [show ("00" : Str) = S [48, 48] by decide +kernel]
    have e0 : (if false = true then !inV (V.str (S [48, 48])) (txV ((pts l).map (List.take 2))) else inV (V.str (S [48, 48])) (txV ((pts l).map (List.take 2)))) = spoiltP l := inV_txV _ _
    have q := ret _ s1
    rw [← e0] at q
    exact q
theorem spoilt_two {l A B : List Nat} (h : pts l = [A, B]) : spoiltP l = (decide (A.take 2 = [48, 48]) || decide (B.take 2 = [48, 48])) := by
  unfold spoiltP
  rw [h]
  simp only [List.map_cons, List.map_nil, List.mem_cons, List.not_mem_nil, or_false, Bool.decide_or]
  congr 1 <;> exact decide_eq_decide.mpr eq_comm
theorem ok_can_move (T : Txp K mg z) : FnOk P wo K mg base CX0 3 z.a_can_move z.d_can_move ["x"] spCan := by
  refine T.F_can_move.ok sc_can_move (fun vs H Q E h => ?_) (fun cdv A outer s H vs Q E hr h => ?_)
  · obtain ⟨l, A, B, rfl, _⟩ := h
    rfl
  · obtain ⟨l, Ab, B, rfl, hl, hp, ret⟩ := h
    have hr2 : Room 2 _ := hr
    have G_live_block : FnOk P wo K mg base CX0 2 z.a_live_block z.d_live_block ["x"] spLB := ok_live_block T
    have G_has_spoilt_header : FnOk P wo K mg base CX0 2 z.a_has_spoilt_header z.d_has_spoilt_header ["x"] spSpoilt := ok_has_spoilt_header T
    refine ⟨_, (pss_one (ps_ret (pe_and (pe_cmpR op_notN (pe_call G_live_block hr2 rfl T.g_live_block T.k_live_block T.b_live_block .nil pass0 (pa_cons (pv 0) pa_nil)) pe_non (nomark _)) (pe_one (pe_not (pe_call G_has_spoilt_header hr2 rfl T.g_has_spoilt_header T.k_has_spoilt_header T.b_has_spoilt_header .nil pass0 (pa_cons (pv 0) pa_nil))))))), ?_⟩
    refine ⟨_, rfl, l, Ab, B, rfl, hl, hp, fun H1 s1 => ⟨rfl, _, rfl, ?_⟩⟩
    unfold canM at ret
    cases e : lvB Ab B with
    | none =>
      rw [e] at ret
      exact ret _ s1
    | some k =>
      rw [e] at ret
      refine ⟨_, rfl, l, rfl, hl, fun H2 s2 => ⟨_, rfl, ?_⟩⟩
      rw [spoilt_two hp]
      exact ret _ (s1.trans s2)
theorem ok_mark_behind (T : Txp K mg z) : FnOk P wo K mg base CX0 1 z.a_mark_behind z.d_mark_behind ["headers", "at"] (spMkb K) := by
  refine T.F_mark_behind.ok sc_mark_behind (fun vs H Q E h => ?_) (fun cdv A outer s H vs Q E hr h => ?_)
  · obtain ⟨p, a, b, at_, rfl, _⟩ := h
    rfl
  · obtain ⟨p, a, b, at_, rfl, hp, h1, ret⟩ := h
    refine ⟨_, (pss_cons (ps_if (pt_cmpR op_eq (pv 1) pe_int (nomark _))
        (pss_one (ps_ret (pe_ix ix_list (pv 0) pe_int (fun _ _ => rfl))))
        pss_nil)
      (pss_one (ps_ret (pe_ifExp (pt_cmpR op_eq (pe_ix ix_list (pv 0) pe_int (fun _ _ => rfl)) (pe_ix ix_tup (pe_glob (v := .ref z.kMARKS) rfl T.g_MARKS rfl) pe_int (fun _ _ => rfl)) (nomark _)) (pe_ix ix_tup (pe_glob (v := .ref z.kMARKS) rfl T.g_MARKS rfl) pe_int (fun _ _ => rfl)) (pe_ix ix_tup (pe_glob (v := .ref z.kMARKS) rfl T.g_MARKS rfl) pe_int (fun _ _ => rfl)))))), ?_⟩
    unfold mkb at ret
    refine ⟨_, rfl, rfl, _, rfl, ?_⟩
    have c01 : at_ = 0 ∨ at_ = 1 := by omega
    rcases c01 with rfl | rfl
    · refine iteB0 (by decide) ?_
      rw [if_neg (by decide)] at ret
      refine ⟨_, rfl, p, _, 0, .str (S a), rfl, rfl, SqL.of hp, rfl, ?_⟩
      refine ⟨z.kMARKS, _, 0, .str "10", rfl, rfl, .inr T.lkMARKS, rfl, rfl, _, rfl, ?_⟩
      rw [show ("10" : Str) = S [49, 48] by decide +kernel]
      by_cases c : a = [49, 48]
      · rw [if_pos c] at ret
        refine iteB1 (by rw [c] <;> exact decide_eq_true rfl) ?_
        refine ⟨z.kMARKS, _, 1, .str "01", rfl, rfl, .inr T.lkMARKS, rfl, ?_⟩
        rw [show ("01" : Str) = S [48, 49] by decide +kernel]
        exact ret
      · rw [if_neg c] at ret
        refine iteB0 (decide_eq_false fun e => c (S_eq.mp e)) ?_
        refine ⟨z.kMARKS, _, 0, .str "10", rfl, rfl, .inr T.lkMARKS, rfl, ?_⟩
        rw [show ("10" : Str) = S [49, 48] by decide +kernel]
        exact ret
    · refine iteB1 (by decide) ?_
      rw [if_pos rfl] at ret
      exact ⟨_, rfl, p, _, 1, .str (S b), rfl, rfl, SqL.of hp, rfl, ret⟩
end
end Fb
set_option maxRecDepth 100000
set_option maxHeartbeats 4000000
namespace Fb
open PySem PySem.Spec PyProof.Rows L2
open SX (S)
theorem same_put {H H1 : Hp} {p : Addr} {o : HO} (s : Same H H1) (h : H p = none) : Same H (upd H1 p o) := fun b u e => by rw [upd_ne (ne_of_none e h)]; exact s _ _ e
/-! writes as values -/
def Wr (H : Hp) (v : V) (d : PyData) : Prop := ∃ t, v = .ref t ∧ ((∃ o : Nat, H t = some (.tup [.str "erase", .int (o : Nat)]) ∧ d = .tuple [.str "erase", .int (o : Nat)]) ∨
  (∃ q ns, H t = some (.tup [.str "fall", .ref q]) ∧ H q = some (.tup (nums ns)) ∧ d = .tuple [.str "fall", .tuple (numD ns)]))
theorem Wr.keep {H H' : Hp} {v : V} {d : PyData} (h : Wr H v d) (k : ∀ c xs, H c = some (.tup xs) → H' c = some (.tup xs)) : Wr H' v d := by
  obtain ⟨t, e, ⟨o, h1, h2⟩ | ⟨q, ns, h1, h2, h3⟩⟩ := h
  · exact ⟨t, e, .inl ⟨o, k _ _ h1, h2⟩⟩
  · exact ⟨t, e, .inr ⟨q, ns, k _ _ h1, k _ _ h2, h3⟩⟩
theorem wrs_keep {H H' : Hp} (k : ∀ c xs, H c = some (.tup xs) → H' c = some (.tup xs)) : ∀ {vs : List V} {ds : List PyData}, Paired (Wr H) vs ds → Paired (Wr H') vs ds
  | [], [], .nil => .nil
  | _ :: _, _ :: _, .cons h t => .cons (h.keep k) (wrs_keep k t)
theorem wrs_snoc {H : Hp} {v : V} {d : PyData} (h : Wr H v d) : ∀ {vs : List V} {ds : List PyData}, Paired (Wr H) vs ds → Paired (Wr H) (vs ++ [v]) (ds ++ [d])
  | [], [], .nil => .cons h .nil
  | _ :: _, _ :: _, .cons x t => .cons x (wrs_snoc h t)
theorem Wr.dp {K : PySem.W.Frag} {H : Hp} {v : V} {d : PyData} (h : Wr H v d) : Dp K H v d := by
  obtain ⟨t, rfl, ⟨o, h1, rfl⟩ | ⟨q, ns, h1, h2, rfl⟩⟩ := h
  · exact .tup (SqT.of h1) (.cons (.str _) (.cons (.int _) .nil))
  · exact .tup (SqT.of h1) (.cons (.str _) (.cons (.tup (SqT.of h2) (dp_nums _)) .nil))
theorem wrs_dp {K : PySem.W.Frag} {H : Hp} : ∀ {vs : List V} {ds : List PyData}, Paired (Wr H) vs ds → DpAll K H vs ds
  | [], [], .nil => .nil
  | _ :: _, _ :: _, .cons h t => .cons h.dp (wrs_dp t)
theorem keepS {H H' : Hp} (s : Same H H') : ∀ c xs, H c = some (.tup xs) → H' c = some (.tup xs) := fun c _ e => s _ _ e
theorem keepL {H : Hp} {p : Addr} {xs ys : List V} (h : H p = some (.lst xs)) : ∀ c zs, H c = some (.tup zs) → (upd H p (.lst ys)) c = some (.tup zs) := fun c zs e => by
  rw [upd_ne (ne_of e h fun z => nomatch z)]; exact e
/-! a move -/
def mvO (A B : List Nat) (k : Nat) : List Nat := if k = 0 then B else A
def mvNeed (O f : List Nat) : Bool := decide (O.take 2 ≠ [49, 49]) || !((List.zipWith (fun a b => decide (a = 49) || decide (b = 48)) (O.drop 2) f).all id)
def mvKept (O f : List Nat) : List Nat := if mvNeed O f = true then List.replicate f.length 49 else O.drop 2
def mvFirst (k n : Nat) : Nat := if k = 1 then 0 else n
def mvFal (kept f : List Nat) (first : Nat) : List Nat := ((stb kept).filter fun b => decide (f.getD b 0 = 48)).map fun b => first + 2 + b
def mk0 (m : List Nat) : Nat := if m = [49, 48] then 1 else 0
def mvK (A B : List Nat) : Nat := (lvB A B).getD 0
def mvD (A B f : List Nat) : List PyData :=
  (if mvNeed (mvO A B (mvK A B)) f = true then [.tuple [.str "erase", .int ((1 - mvK A B : Nat) : Nat)]] else []) ++
  (if mvFal (mvKept (mvO A B (mvK A B)) f) f (mvFirst (mvK A B) A.length) = [] then [] else [.tuple [.str "fall", .tuple (numD (mvFal (mvKept (mvO A B (mvK A B)) f) f (mvFirst (mvK A B) A.length)))]]) ++
  [.tuple [.str "fall", .tuple (numD [mvFirst (mvK A B) A.length + mk0 (mkb (A.take 2) (B.take 2) (mvK A B))])]]
def spMove (K : PySem.W.Frag) (cN cU cF : Addr) : Sp := fun vs H Q E => ∃ x y r, vs = [x, y] ∧ Flt K H x r ∧ (∀ k, r = some k → OutNP cN H E k) ∧
  (r = none → ∀ l, x = .str (S l) → if roll l = true then ∀ A B, pts l = [A, B] → ∃ rc, CFlt K H y (A.length - 2) rc ∧ (∀ k, rc = some k → OutNP cN H E k) ∧
      (rc = none → ∀ f, y = .str (S f) → if canM A B = true then ∀ p ws H', Same H H' → H p = none → H' p = some (.lst ws) → Paired (Wr H') ws (mvD A B f) → Q (.ref p) H' else OutX cF "found" x H E)
    else ∀ H', Same H H' → E (.ref cU) none H')
theorem canM_k {A B : List Nat} (h : canM A B = true) : ∃ k, lvB A B = some k ∧ (k = 0 ∨ k = 1) ∧ mk2 (mkb (A.take 2) (B.take 2) k) = true ∧ mvK A B = k := by
  unfold canM at h
  rw [Bool.and_eq_true] at h
  obtain ⟨k, ek⟩ := Option.isSome_iff_exists.mp h.1
  refine ⟨k, ek, ?_, ?_, by unfold mvK; rw [ek] <;> rfl⟩
  · unfold lvB at ek
    repeat (first | (split at ek) | (cases ek; simp) | cases ek)
  · unfold lvB at ek
    unfold mkb
    split at ek
    · split at ek
      · rename_i a b
        split at ek
        · cases ek
          rw [if_neg (by decide)]
          split <;> decide +kernel
        · cases ek
          rw [if_pos rfl]
          exact b
      · cases ek
        rw [if_neg (by decide)]
        split <;> decide +kernel
    · split at ek
      · rename_i b
        cases ek
        rw [if_pos rfl]
        exact b
      · cases ek
theorem mk2_two {m : List Nat} (h : mk2 m = true) : m = [49, 48] ∨ m = [48, 49] := by
  unfold mk2 at h
  have := of_decide_eq_true h
  simpa using this
theorem idx0 {m : List Nat} (h : mk2 m = true) : ∃ rest, Builtin.Str.occurrences (S m) "0" 0 (S m).length 1 = mk0 m :: rest := by
  rcases mk2_two h with rfl | rfl
  · exact ⟨[], by decide +kernel⟩
  · exact ⟨[], by decide +kernel⟩
section
variable {P : Program} {wo : World} {K : PySem.W.Frag} {mg : Str → Option Value} {base : Heap} {z : Pz}
theorem ok_move (T : Txp K mg z) : FnOk P wo K mg base (L2.CX P wo) 5 z.a_move z.d_move ["x", "fresh"] (spMove K z.cNoPattern z.cUnlike z.cForeign) := by
  refine T.F_move.okX sc_move (fun vs H Q E h => ?_) (fun cdv A outer s H vs Q E hr h => ?_)
  · obtain ⟨x, y, r, rfl, _⟩ := h
    rfl
  · obtain ⟨x, y, r, rfl, hf, hx, ok⟩ := h
    have hr4 : Room 4 _ := hr
    have hr3 : Room 3 _ := hr.mono (by decide)
    have hr2 : Room 2 _ := hr.mono (by decide)
    have hr1 : Room 1 _ := hr.mono (by decide)
    have G_need_rolling : FnOk P wo K mg base (L2.CX P wo) 4 z.a_need_rolling z.d_need_rolling ["x"] (spNeedR K z.cNoPattern z.cUnlike) := ok_need_rolling T
    have G_need_content : FnOk P wo K mg base (L2.CX P wo) 3 z.a_need_content z.d_need_content ["thing", "many"] (spCont K z.cNoPattern) := ok_need_content T
    have G_sizes_of : FnOk P wo K mg base CX0 1 z.a_sizes_of z.d_sizes_of ["text"] spSizes := ok_sizes_of T
    have G_live_block : FnOk P wo K mg base CX0 2 z.a_live_block z.d_live_block ["x"] spLB := ok_live_block T
    have G_can_move : FnOk P wo K mg base CX0 3 z.a_can_move z.d_can_move ["x"] spCan := ok_can_move T
    have G_headers_of : FnOk P wo K mg base CX0 1 z.a_headers_of z.d_headers_of ["x"] spHeads := ok_headers_of T
    have G_contents_of : FnOk P wo K mg base CX0 1 z.a_contents_of z.d_contents_of ["x"] spConts := ok_contents_of T
    have G_standing_bits : FnOk P wo K mg base CX0 2 z.a_standing_bits z.d_standing_bits ["x"] spStb := ok_standing_bits T
    have G_mark_behind : FnOk P wo K mg base CX0 1 z.a_mark_behind z.d_mark_behind ["headers", "at"] (spMkb K) := ok_mark_behind T
    obtain ⟨tH, gHEADER⟩ := T.g_HEADER
    obtain ⟨tF, gFREE⟩ := T.g_FREE
    refine ⟨_, (pss_cons (ps_expr (pe_call G_need_rolling hr4 rfl T.g_need_rolling T.k_need_rolling T.b_need_rolling .nil (passes_call (takes_of rfl rfl rfl rfl) (fun _ _ _ _ h => h)) (pa_cons (pv 0) pa_nil)))
      (pss_cons (ps_set (i := 2) sc_move.nd rfl (Or.inl rfl) (pe_ix ix_tup (pe_call G_sizes_of hr1 rfl T.g_sizes_of T.k_sizes_of T.b_sizes_of .nil pass0 (pa_cons (pv 0) pa_nil)) pe_int (fun _ _ => rfl)))
      (pss_cons (ps_expr (pe_call G_need_content hr3 rfl T.g_need_content T.k_need_content T.b_need_content .nil (passes_call (takes_of rfl rfl rfl rfl) (fun _ _ _ _ h => h)) (pa_cons (pv 1) (pa_cons (pe_op op_sub (pv 2) (pe_glob (v := .int 2) rfl gHEADER ⟨_, rfl⟩)) pa_nil))))
      (pss_cons (ps_if (pt_not (pt_val (pe_call G_can_move hr3 rfl T.g_can_move T.k_can_move T.b_can_move .nil pass0 (pa_cons (pv 0) pa_nil))))
        (pss_one (ps_raise rfl (takes_of rfl rfl rfl rfl) (pmk_oex T.xForeign.oc T.iForeign T.tForeign (ok_Foreigni T) hr2 T.b_Foreigni .nil pass0 rfl T.xForeign.g (pa_cons (pv 0) pa_nil))))
        pss_nil)
      (pss_cons (ps_set (i := 3) sc_move.nd rfl (Or.inl rfl) (pe_call G_live_block hr2 rfl T.g_live_block T.k_live_block T.b_live_block .nil pass0 (pa_cons (pv 0) pa_nil)))
      (pss_cons (ps_set (i := 4) sc_move.nd rfl (Or.inl rfl) (pe_call G_headers_of hr1 rfl T.g_headers_of T.k_headers_of T.b_headers_of .nil pass0 (pa_cons (pv 0) pa_nil)))
      (C8.pss_cut (ps_set (i := 5) sc_move.nd rfl (Or.inr rfl) (pe_ifExp (pt_cmpR op_eq (pv 3) pe_int (nomark _)) pe_int (pv 2)))
      (pss_cons (ps_set (i := 6) sc_move.nd rfl (Or.inl rfl) (pe_ix ix_list (pe_call G_contents_of hr1 rfl T.g_contents_of T.k_contents_of T.b_contents_of .nil pass0 (pa_cons (pv 0) pa_nil)) (pe_op op_sub pe_int (pv 3)) (fun _ _ => rfl)))
      (pss_cons (ps_set (i := 7) sc_move.nd rfl (Or.inl rfl) (pe_lst pa_nil))
      (C8.pss_cut (ps_if (PW.pt (pw_or (pt_cmpR op_ne (pe_ix ix_list (pv 4) (pe_op op_sub pe_int (pv 3)) (fun _ _ => rfl)) (pe_glob (v := .str "11") rfl gFREE ⟨_, rfl⟩) (nomark _)) (pw_or1 (pt_not (pt_val (pe_callB (cr_all rfl) (by rfl) T.n_all (by decide +kernel) (pa_cons (by refine' pe_lc (own := [("bit", 9), ("sign", 10)]) (tt := tYes) (g := (gTup K 2 (gCons (gName 9) (gCons (gName 10) gNil)))) rfl sc_move.nd ?hi (blkOk_by (N := ["x", "fresh", "size", "at", "headers", "first", "kept", "writes", "falling", "bit", "sign"]) (sc := defScope s_move) (by first | decide +kernel | kernel_rfl | rfl)) ?hg ?ht ?he (by intro _; rfl); (case hi => exact (pi_zipS2 rfl T.n_zip (pa_cons (pv 6) (pa_cons (pv 1) pa_nil)))); (case hg => exact fun _ _ _ _ _ => (pg_tup rfl (pgs_cons (pg_name (i := 9) sc_move.nd rfl (Or.inl rfl) (.inr rfl)) (pgs_cons (pg_name (i := 10) sc_move.nd rfl (Or.inl rfl) (.inr rfl)) pgs_nil)))); (case ht => exact fun _ _ _ _ _ => pts_nil); (case he => exact fun _ _ _ _ _ => (pe_or (pe_cmpR op_eq (pv 9) pe_str (nomark _)) (pe_one (pe_cmpR op_eq (pv 10) pe_str (nomark _)))))) pa_nil)))))))
        (pss_cons (ps_expr (pe_bm PySem.F.plainAttrs_list PySem.F.slot_list_append PySem.F.type_list_append mt_append (pv 7) (pa_cons (pe_tup (pa_cons pe_str (pa_cons (pe_op op_sub pe_int (pv 3)) pa_nil))) pa_nil)))
        (pss_one (ps_set (i := 6) sc_move.nd rfl (Or.inl rfl) (pe_op op_repS pe_str (pe_callB call_len_str (by rfl) T.n_len (by decide +kernel) (pa_cons (pv 1) pa_nil))))))
        pss_nil)
      (pss_cons (by refine' ps_setLc (own := [("bit", 9)]) (i := 8) rfl sc_move.nd rfl rfl (sw_true rfl rfl rfl (by decide +kernel)) ?hi (blkOk_by (N := ["x", "fresh", "size", "at", "headers", "first", "kept", "writes", "falling", "bit", "sign"]) (sc := defScope s_move) (by first | decide +kernel | kernel_rfl | rfl)) ?hg ?ht ?he (by intro _; rfl); (case hi => exact (pi_list (pe_call G_standing_bits hr2 rfl T.g_standing_bits T.k_standing_bits T.b_standing_bits .nil pass0 (pa_cons (pv 6) pa_nil)))); (case hg => exact fun _ _ _ _ _ => (pg_name (i := 9) sc_move.nd rfl (Or.inl rfl))); (case ht => exact fun _ _ _ _ _ => (pts_one (pt_cmpR op_eq (pe_ix ix_str (pv 1) (pv 9) (fun _ _ => rfl)) pe_str (nomark _)))); (case he => exact fun _ _ _ _ _ => (pe_op op_add (pe_op op_add (pv 5) (pe_glob (v := .int 2) rfl gHEADER ⟨_, rfl⟩)) (pv 9))))
      (C8.pss_cut (ps_if (pt_truth (pv 8) (by intro _; rfl))
        (pss_one (ps_expr (pe_bm PySem.F.plainAttrs_list PySem.F.slot_list_append PySem.F.type_list_append mt_append (pv 7) (pa_cons (pe_tup (pa_cons pe_str (pa_cons (pe_callTy call_tuple_of (by rfl) T.n_tuple (by decide +kernel) (pa_cons (pv 8) pa_nil)) pa_nil))) pa_nil))))
        pss_nil)
      (pss_cons (ps_expr (pe_bm PySem.F.plainAttrs_list PySem.F.slot_list_append PySem.F.type_list_append mt_append (pv 7) (pa_cons (pe_tup (pa_cons pe_str (pa_cons (pe_tup (pa_cons (pe_op op_add (pv 5) (pe_bm PySem.F.plainAttrs_str PySem.F.slot_str_index PySem.F.type_str_index mt_sindex (pe_call G_mark_behind hr1 rfl T.g_mark_behind T.k_mark_behind T.b_mark_behind .nil pass0 (pa_cons (pv 4) (pa_cons (pv 3) pa_nil))) (pa_cons pe_str pa_nil))) pa_nil)) pa_nil))) pa_nil)))
      (pss_one (ps_ret (pv 7)))))))))))))))), ?_⟩
    refine ⟨_, rfl, x, r, rfl, hf, hx, fun er l el => ?_⟩
    have ok1 := ok er l el
    clear ok
    by_cases c : roll l = true
    rotate_left
    · rw [if_neg c] at ok1 ⊢
      exact ok1
    rw [if_pos c] at ok1 ⊢
    obtain ⟨n, Ab, B, h3, es, ep, lA, lB⟩ := roll_two c
    subst el er
    obtain ⟨l', e', hp⟩ := hf.text
    have len := hp.len
    cases S_eq.mp e'
    obtain ⟨rc, hc, outc, okc⟩ := ok1 Ab B ep
    rw [lA] at hc
    have nb : n ≤ 122 := by
      have := pts_short (l := l) (p := Ab) (by rw [ep]; exact List.mem_cons_self)
      omega
    refine fun H1 s1 => ?_
    refine ⟨_, rfl, l, rfl, by omega, fun p H2 s2 np hp2 => ?_⟩
    refine ⟨p, nums (szs l), 0, .int (n : Nat), rfl, rfl, SqT.of hp2, by rw [es] <;> rfl, ?_⟩
    have s12 := s1.trans s2
    refine ⟨_, rfl, _, rfl, _, _, rfl, rfl, y, n - 2, rc, by show [y, V.int (((n : Nat) : Int) - 2)] = [y, V.int ((n - 2 : Nat) : Int)]; rw [show ((n : Nat) : Int) - 2 = ((n - 2 : Nat) : Int) by omega], by omega, hc.same s12, fun erc H3 s3 => ?_, fun k ek => (outc k ek).later s12⟩
    subst erc
    obtain ⟨f, rfl, lf, bf⟩ := hc.text
    have ok2 := okc rfl f rfl
    clear okc outc hc
    have s13 := s12.trans s3
    refine ⟨_, rfl, l, Ab, B, rfl, by omega, ep, fun H4 s4 => ?_⟩
    have s14 := s13.trans s4
    refine ⟨_, rfl, ?_⟩
    by_cases cm : canM Ab B = true
    rotate_left
    · rw [if_neg cm] at ok2
      refine iteB1 (by simpa using cm) ?_
      exact ⟨_, rfl, mk_tail (OutX.later ok2 s14)⟩
    rw [if_pos cm] at ok2
    refine iteB0 (by rw [cm] <;> rfl) ?_
    obtain ⟨k, ek, k01, mkk, kk⟩ := canM_k cm
    unfold mvD at ok2
    rw [kk, lA] at ok2
    refine ⟨_, rfl, l, Ab, B, rfl, by omega, ep, fun H5 s5 => ?_⟩
    rw [ek]
    refine ⟨_, rfl, l, rfl, by omega, fun ph H6 s6 nph hph => ?_⟩
    rw [ep] at hph
    have s56 := s5.trans s6
    have s16 := s14.trans s56
    -- first
    refine ⟨fun σ H' => H' = H6 ∧ σ = [some (.str (S l)), some (.str (S f)), some (.int (n : Nat)), some (.int (k : Nat)), some (.ref ph), some (.int (mvFirst k n : Nat)), none, none, none, none, none], ?_, ?_⟩
    · refine ⟨_, rfl, rfl, _, rfl, ?_⟩
      rcases k01 with rfl | rfl
      · exact iteB0 (by decide) ⟨_, rfl, rfl, rfl⟩
      · exact iteB1 (by decide) ⟨rfl, rfl⟩
    rintro σ H6' ⟨rfl, rfl⟩
    -- kept
    refine ⟨_, rfl, l, rfl, by omega, fun pc H7 s7 npc hpc => ?_⟩
    rw [ep] at hpc
    refine ⟨_, rfl, _, _, rfl, rfl, pc, _, (1 : Int) - (k : Nat), .str (S ((mvO Ab B k).drop 2)), rfl, rfl, SqL.of hpc, by rcases k01 with rfl | rfl <;> rfl, ?_⟩
    refine ⟨by show 0 ≤ sizeLine; decide, fun pw hw => ?_⟩
    have s17 := s16.trans s7
    have hwn : H pw = none := s17.free hw
    have s18 : Same H (upd H7 pw (.lst [])) := same_put s17 hwn
    have hph8 : (upd H7 pw (.lst [])) ph = some (.lst (txV [Ab.take 2, B.take 2])) := by rw [upd_ne (ne_of_none (s7 _ _ hph) hw)]; exact s7 _ _ hph
    have hw8 : (upd H7 pw (.lst [])) pw = some (.lst []) := upd_same
    have npw : ph ≠ pw := ne_of_none (s7 _ _ hph) hw
    generalize upd H7 pw (.lst []) = H8 at s18 hph8 hw8
    generalize hO : mvO Ab B k = O at ok2
    have lO : O.length = n := by rw [← hO]; rcases k01 with rfl | rfl; exact lB; exact lA
    have lOd : (O.drop 2).length = n - 2 := by rw [List.length_drop, lO]
    have eO : (mvO Ab B k).take 2 = O.take 2 := by rw [hO]
    have zz : ∀ k : Nat, k ≤ 1000 → k ≤ sizeLine := fun k h => Nat.le_trans h (by decide)
    have e1k : V.int ((1 : Int) - (k : Nat)) = V.int ((1 - k : Nat) : Int) := congrArg V.int (by omega)
    -- an erase
    refine ⟨fun σ H' => ∃ ws, Same H H' ∧ H' ph = some (.lst (txV [Ab.take 2, B.take 2])) ∧ H' pw = some (.lst ws) ∧ ws.length ≤ 1 ∧ Paired (Wr H') ws (if mvNeed O f = true then [.tuple [.str "erase", .int ((1 - k : Nat) : Nat)]] else []) ∧
      σ = [some (.str (S l)), some (.str (S f)), some (.int (n : Nat)), some (.int (k : Nat)), some (.ref ph), some (.int (mvFirst k n : Nat)), some (.str (S (mvKept O f))), some (.ref pw), none, none, none], ?_, ?_⟩
    · refine ⟨_, rfl, _, rfl, _, _, rfl, rfl, ph, _, (1 : Int) - (k : Nat), .str (S (O.take 2)), rfl, rfl, SqL.of hph8, by rw [← eO]; rcases k01 with rfl | rfl <;> rfl, rfl, _, rfl, ?_⟩
      rw [show ("11" : Str) = S [49, 49] by decide +kernel]
      by_cases cH : O.take 2 = [49, 49]
      · refine iteB0 (by rw [cH, decide_eq_true rfl] <;> rfl) ?_
        refine ⟨_, rfl, _, rfl, S (O.drop 2), S f, rfl, fun D hD => ?_⟩
        rw [S_sz, S_sz]
        refine lc_outT (outM fun i => V.bl (decide ((O.drop 2).getD i 0 = 49) || decide (f.getD i 0 = 48))) hD outM_0 (fun i hi => by rw [outM_l]; exact small1 i (by omega)) (fun i Tu H2 Kc K0 lt s2 hT kc k0 => ?_) (fun H9 s9 e9 => ?_)
        · have h1 : (O.drop 2)[i]? = some ((O.drop 2)[i]'(by omega)) := List.getElem?_eq_getElem (by omega)
          have h2 : f[i]? = some (f[i]'(by omega)) := List.getElem?_eq_getElem (by omega)
          have d1 : (O.drop 2).getD i 0 = (O.drop 2)[i]'(by omega) := by rw [List.getD_eq_getElem?_getD, h1] <;> rfl
          have d2 : f.getD i 0 = f[i]'(by omega) := by rw [List.getD_eq_getElem?_getD, h2] <;> rfl
          refine ⟨Tu, [.str (S [(O.drop 2)[i]'(by omega)]), .str (S [f[i]'(by omega)])], rfl, SqT.of (by rw [hT]; rw [show sgn (S (O.drop 2)) i = S [(O.drop 2)[i]'(by omega)] from S_sgn h1, show sgn (S f) i = S [f[i]'(by omega)] from S_sgn h2]), rfl, ?_⟩
          refine ⟨_, _, rfl, ?_⟩
          refine ⟨_, _, rfl, ?_⟩
          refine ⟨rfl, ?_⟩
          refine ⟨rfl, yes1 ?_⟩
          have os := outM_s (f := fun i => V.bl (decide ((O.drop 2).getD i 0 = 49) || decide (f.getD i 0 = 48))) (i := i)
          rw [d1, d2] at os
          generalize (O.drop 2)[i]'(by omega) = a at os
          generalize f[i]'(by omega) = b at os
          refine ⟨_, rfl, rfl, _, rfl, ?_⟩
          rw [S_1]
          by_cases q : a = 49
          · rw [decide_eq_true q] at os
            refine iteB1 (by rw [q] <;> exact decide_eq_true rfl) (kc _ _ (Same.refl _) os)
          · rw [decide_eq_false q] at os
            refine iteB0 (decide_eq_false fun e => q (by simpa using S_eq.mp e)) ?_
            refine ⟨_, rfl, rfl, ?_⟩
            rw [S_0]
            refine kc _ _ (Same.refl _) ?_
            rw [show decide (V.str (S [b]) = V.str (S [48])) = decide (b = 48) from decide_eq_decide.mpr (by rw [S_eq]; simp)]
            exact os
        · have e4 : outM (fun i => V.bl (decide ((O.drop 2).getD i 0 = 49) || decide (f.getD i 0 = 48))) (min (O.drop 2).length f.length) = (List.zipWith (fun a b => decide (a = 49) || decide (b = 48)) (O.drop 2) f).map V.bl := outM_all (by rw [List.length_map, List.length_zipWith]) fun i hi => by
            rw [List.getElem?_map, List.getElem?_zipWith, List.getD_eq_getElem?_getD, List.getD_eq_getElem?_getD, List.getElem?_eq_getElem (show i < (O.drop 2).length by omega), List.getElem?_eq_getElem (show i < f.length by omega)] <;> rfl
          rw [e4] at e9
          have en : (List.zipWith (fun a b => decide (a = 49) || decide (b = 48)) (O.drop 2) f).all id = !mvNeed O f := by unfold mvNeed; rw [decide_eq_false (fun z => z cH), Bool.false_or, Bool.not_not]
          refine ⟨D, _, rfl, SqL.of e9, _, rfl, ?_⟩
          rw [en]
          have hw9 := s9 _ _ hw8
          cases nd : mvNeed O f with
          | false =>
            refine iteB0 rfl ⟨[], s18.trans s9, s9 _ _ hph8, hw9, by decide, by rw [if_neg Bool.false_ne_true]; exact .nil, ?_⟩
            unfold mvKept
            rw [nd, if_neg Bool.false_ne_true]
            rfl
          | true =>
            refine iteB1 rfl ?_
            refine ⟨_, rfl, .inl ⟨rfl, _, SqL.of hw9⟩, _, rfl, _, _, rfl, rfl, by show 2 ≤ sizeLine; decide, fun t ht => ?_⟩
            have sA := smN (o := .tup [.str "erase", .int ((1 : Int) - (k : Nat))]) s9 ht
            have hwA := sA _ _ hw8
            refine ⟨pw, [], .ref t, rfl, rfl, hwA, by decide, ?_⟩
            refine ⟨_, rfl, S f, rfl, by rw [S_ln]; exact zz _ (by omega), ?_⟩
            rw [S_ln]
            refine ⟨49, f.length, rfl, rfl, by omega, ?_⟩
            refine ⟨[.ref t], same_put (s18.trans sA) hwn, ?_, upd_same, Nat.le_refl 1, ?_, ?_⟩
            · rw [upd_ne npw]
              exact sA _ _ hph8
            · rw [if_pos rfl]
              exact .cons ⟨t, rfl, .inl ⟨1 - k, by rw [upd_ne (ne_of upd_same hwA fun z => nomatch z), upd_same]; exact congrArg (fun v => some (HO.tup [V.str "erase", v])) e1k, rfl⟩⟩ .nil
            · unfold mvKept
              rw [nd, if_pos rfl]
              rfl
      · have nd : mvNeed O f = true := by unfold mvNeed; rw [decide_eq_true cH] <;> rfl
        refine iteB1 (by rw [decide_eq_false (fun e => cH (S_eq.mp e))] <;> rfl) ?_
        refine ⟨_, rfl, .inl ⟨rfl, _, SqL.of hw8⟩, _, rfl, _, _, rfl, rfl, by show 2 ≤ sizeLine; decide, fun t ht => ?_⟩
        have sA := smN (o := .tup [.str "erase", .int ((1 : Int) - (k : Nat))]) (Same.refl H8) ht
        have hwA := sA _ _ hw8
        refine ⟨pw, [], .ref t, rfl, rfl, hwA, by decide, ?_⟩
        refine ⟨_, rfl, S f, rfl, by rw [S_ln]; exact zz _ (by omega), ?_⟩
        rw [S_ln]
        refine ⟨49, f.length, rfl, rfl, by omega, ?_⟩
        refine ⟨[.ref t], same_put (s18.trans sA) hwn, ?_, upd_same, Nat.le_refl 1, ?_, ?_⟩
        · rw [upd_ne npw]
          exact sA _ _ hph8
        · rw [nd, if_pos rfl]
          exact .cons ⟨t, rfl, .inl ⟨1 - k, by rw [upd_ne (ne_of upd_same hwA fun z => nomatch z), upd_same]; exact congrArg (fun v => some (HO.tup [V.str "erase", v])) e1k, rfl⟩⟩ .nil
        · unfold mvKept
          rw [nd, if_pos rfl]
          rfl
    rintro σ H9 ⟨ws, s19, hph9, hw9, lw9, W9, rfl⟩
    -- the bits that fall
    have bO : ∀ c ∈ O, c = 48 ∨ c = 49 := fun c hc => hp.bits c (by
      have : O ∈ pts l := by rw [ep, ← hO]; rcases k01 with rfl | rfl <;> simp [mvO]
      unfold pts at this
      have fl := cut_flat (ss := szs l) (b := bt l) (bt_sum l).symm
      rw [← fl]
      exact List.mem_flatten.mpr ⟨O, this, hc⟩)
    have bK : ∀ c ∈ mvKept O f, c = 48 ∨ c = 49 := fun c hc => by
      unfold mvKept at hc
      split at hc
      · exact .inr (List.eq_of_mem_replicate hc)
      · exact bO c (List.mem_of_mem_drop hc)
    have lK : (mvKept O f).length = n - 2 := by
      unfold mvKept
      split
      · rw [List.length_replicate, lf]
      · exact lOd
    have ok3 := ok2
    clear ok2
    generalize mvKept O f = Kp at bK lK ok3
    refine ⟨_, rfl, Kp, rfl, by omega, fun D0 Ha sa nD0 d0 => ?_⟩
    rw [bt_plain bK] at d0
    have stK : ∀ b ∈ stb Kp, b < f.length := fun b hb => by
      have := (List.getElem?_eq_some_iff.mp (stb_mem.mp hb)).1
      omega
    have lS : (stb Kp).length ≤ 1000 := by
      unfold stb
      exact Nat.le_trans (List.length_filter_le _ _) (by rw [List.length_range]; omega)
    refine ⟨D0, rfl, ⟨_, SqL.of d0⟩, fun D hD => ?_⟩
    refine lc_outL (xs := nums (stb Kp)) (outF (fun i => decide (f.getD ((stb Kp).getD i 0) 0 = 48)) fun i => V.int (mvFirst k n + 2 + (stb Kp).getD i 0 : Nat)) hD (SqL.of d0) outF_0 (fun i hi => Nat.lt_of_le_of_lt outF_l (small1 i (by rw [nums_ln] at hi; omega))) (fun i x H2 Kc K0 e s2 kc k0 => ?_) (fun Hb sb eb => ?_)
    · unfold nums at e
      rw [List.getElem?_map] at e
      cases q : (stb Kp)[i]? with
      | none => rw [q] at e; cases e
      | some b =>
        rw [q] at e
        cases e
        have hb := stK b (List.mem_of_getElem? q)
        have gd : (stb Kp).getD i 0 = b := by rw [List.getD_eq_getElem?_getD, q] <;> rfl
        have h2 : f[b]? = some (f[b]'hb) := List.getElem?_eq_getElem hb
        have d2 : f.getD b 0 = f[b]'hb := by rw [List.getD_eq_getElem?_getD, h2] <;> rfl
        have st := outF_t (p := fun i => decide (f.getD ((stb Kp).getD i 0) 0 = 48)) (f := fun i => V.int (mvFirst k n + 2 + (stb Kp).getD i 0 : Nat)) (i := i)
        have sf := outF_f (p := fun i => decide (f.getD ((stb Kp).getD i 0) 0 = 48)) (f := fun i => V.int (mvFirst k n + 2 + (stb Kp).getD i 0 : Nat)) (i := i)
        rw [gd, d2] at st sf
        refine ⟨rfl, _, rfl, _, rfl, S f, (b : Int), f[b]'hb, rfl, rfl, by rw [S_ln]; exact zz _ (by omega), atI_nat h2, rfl, _, rfl, ?_⟩
        generalize f[b]'hb = c at st sf
        rw [show (⟨#[c]⟩ : Str) = S [c] from rfl, S_0]
        refine ite2 (fun h => ?_) (fun h => ?_)
        · have c48 : c = 48 := by simpa using S_eq.mp (of_decide_eq_true h)
          refine ⟨_, rfl, _, _, rfl, rfl, _, rfl, _, _, rfl, rfl, kc _ _ (Same.refl _) ?_⟩
          exact st (decide_eq_true c48)
        · have c48 : ¬ c = 48 := fun e => h (by rw [e] <;> exact decide_eq_true rfl)
          exact k0 _ (Same.refl _) (sf (decide_eq_false c48))
    have eF : outF (fun i => decide (f.getD ((stb Kp).getD i 0) 0 = 48)) (fun i => V.int (mvFirst k n + 2 + (stb Kp).getD i 0 : Nat)) (nums (stb Kp)).length = nums (mvFal Kp f (mvFirst k n)) := by
      rw [nums_ln, outF_list (stb Kp) (fun b => decide (f.getD b 0 = 48)) (fun b => V.int (mvFirst k n + 2 + b : Nat))]
      unfold mvFal nums
      rw [List.map_map]
      rfl
    rw [eF] at eb
    have lFal : (mvFal Kp f (mvFirst k n)).length ≤ 1000 := by
      unfold mvFal
      rw [List.length_map]
      exact Nat.le_trans (List.length_filter_le _ _) lS
    have s9b : Same H9 Hb := sa.trans sb
    have s1b := s19.trans s9b
    have hphb := s9b _ _ hph9
    have hwb := s9b _ _ hw9
    have Wb := wrs_keep (keepS s9b) W9
    generalize mvFal Kp f (mvFirst k n) = Fl at eb lFal ok3
    generalize (if mvNeed O f = true then [PyData.tuple [.str "erase", .int ((1 - k : Nat) : Nat)]] else []) = ds1 at Wb ok3
    -- they fall
    refine ⟨fun σ H' => ∃ ws, Same H H' ∧ H' ph = some (.lst (txV [Ab.take 2, B.take 2])) ∧ H' pw = some (.lst ws) ∧ ws.length ≤ 2 ∧ Paired (Wr H') ws (ds1 ++ (if Fl = [] then [] else [.tuple [.str "fall", .tuple (numD Fl)]])) ∧
      ∃ x8 : Option V, σ = [some (.str (S l)), some (.str (S f)), some (.int (n : Nat)), some (.int (k : Nat)), some (.ref ph), some (.int (mvFirst k n : Nat)), some (.str (S Kp)), some (.ref pw), x8, none, none], ?_, ?_⟩
    · refine ⟨_, rfl, _, .inl ⟨_, SqL.of eb, rfl⟩, ?_⟩
      by_cases cf : Fl = []
      · rw [if_pos cf, List.append_nil]
        refine iteB0 (by rw [cf] <;> rfl) ⟨ws, s1b, hphb, hwb, by omega, Wb, _, rfl⟩
      · rw [if_neg cf]
        refine iteB1 (by cases Fl with | nil => exact absurd rfl cf | cons a b => rfl) ?_
        refine ⟨_, rfl, .inl ⟨rfl, _, SqL.of hwb⟩, _, rfl, D, _, rfl, .inl ⟨SqL.of eb, fun q hq => ?_⟩⟩
        have sq := smN (o := .tup (nums Fl)) (Same.refl Hb) hq
        refine ⟨by show 2 ≤ sizeLine; decide, fun t ht => ?_⟩
        have st := smN (o := .tup [.str "fall", .ref q]) sq ht
        have qt : (upd (upd Hb q (.tup (nums Fl))) t (.tup [.str "fall", .ref q])) q = some (.tup (nums Fl)) := smN (Same.refl _) ht _ _ upd_same
        have tt : (upd (upd Hb q (.tup (nums Fl))) t (.tup [.str "fall", .ref q])) t = some (.tup [.str "fall", .ref q]) := upd_same
        generalize upd (upd Hb q (.tup (nums Fl))) t (.tup [.str "fall", .ref q]) = Hc at st qt tt
        have hwc := st _ _ hwb
        refine ⟨pw, ws, .ref t, rfl, rfl, hwc, Nat.lt_of_le_of_lt lw9 (by decide), ?_⟩
        refine ⟨ws ++ [.ref t], same_put (s1b.trans st) hwn, by rw [upd_ne npw]; exact st _ _ hphb, upd_same, by rw [List.length_append]; show _ + 1 ≤ 2; omega, ?_, _, rfl⟩
        exact wrs_keep (keepL hwc) (wrs_snoc ⟨t, rfl, .inr ⟨q, Fl, tt, qt, rfl⟩⟩ (wrs_keep (keepS st) Wb))
    rintro σ Hd ⟨ws2, s1d, hphd, hwd, lw2, Wd, x8, rfl⟩
    -- the mark
    refine ⟨_, rfl, .inl ⟨rfl, _, SqL.of hwd⟩, _, rfl, _, rfl, _, rfl, ph, Ab.take 2, B.take 2, k, rfl, hphd, by omega, ?_⟩
    obtain ⟨rest, occ⟩ := idx0 mkk
    refine ⟨rfl, S (mkb (Ab.take 2) (B.take 2) k), "0", mk0 (mkb (Ab.take 2) (B.take 2) k), rest, rfl, rfl, occ, ?_⟩
    generalize mk0 (mkb (Ab.take 2) (B.take 2) k) = j at ok3
    refine ⟨_, _, rfl, rfl, ?_⟩
    refine ⟨by show 1 ≤ sizeLine; decide, fun q hq => ?_⟩
    have sq := smN (o := .tup (nums [mvFirst k n + j])) (Same.refl Hd) hq
    refine ⟨by show 2 ≤ sizeLine; decide, fun t ht => ?_⟩
    have st : Same Hd (upd (upd Hd q (.tup (nums [mvFirst k n + j]))) t (.tup [.str "fall", .ref q])) := smN sq ht
    have qt : (upd (upd Hd q (.tup (nums [mvFirst k n + j]))) t (.tup [.str "fall", .ref q])) q = some (.tup (nums [mvFirst k n + j])) := smN (Same.refl _) ht _ _ upd_same
    have tt : (upd (upd Hd q (.tup (nums [mvFirst k n + j]))) t (.tup [.str "fall", .ref q])) t = some (.tup [.str "fall", .ref q]) := upd_same
    have hwc := st _ _ hwd
    refine ⟨pw, ws2, .ref t, rfl, rfl, hwc, Nat.lt_of_le_of_lt lw2 (by decide), ?_⟩
    refine ⟨_, rfl, ok3 pw (ws2 ++ [.ref t]) _ (same_put (s1d.trans st) hwn) hwn upd_same ?_⟩
    exact wrs_keep (keepL hwc) (wrs_snoc ⟨t, rfl, .inr ⟨q, _, tt, qt, rfl⟩⟩ (wrs_keep (keepS st) Wd))
end
end Fb
set_option maxRecDepth 100000
set_option maxHeartbeats 4000000
namespace Fb
open PySem PySem.Spec PyProof.Rows L2
open SX (S)
/-! the written part: the law's own defs -/
structure Lz where
  a_Lpen : Addr
  d_Lpen : FuncData
  a_Ldraw : Addr
  d_Ldraw : FuncData
  a_Lpick : Addr
  d_Lpick : FuncData
  a_Lcontent : Addr
  d_Lcontent : FuncData
  a_Llive : Addr
  d_Llive : FuncData
  a_Lblocks : Addr
  d_Lblocks : FuncData
  a_Lfresh : Addr
  d_Lfresh : FuncData
  a_Lwith : Addr
  d_Lwith : FuncData
  a_Lmove : Addr
  d_Lmove : FuncData
  a_Lheard : Addr
  d_Lheard : FuncData
  a_Lrefused : Addr
  d_Lrefused : FuncData
  a_law : Addr
  d_law : FuncData
abbrev s_Lpen : Stmt := top 44
theorem sc_Lpen : FnScope ["_law_script"] ["_law_script"] (defScope s_Lpen) := ⟨rfl, rfl, rfl, by decide +kernel, rfl, by decide +kernel, by decide +kernel⟩
abbrev s_Ldraw : Stmt := top 45
theorem sc_Ldraw : FnScope ["_law_pen_here", "_law_many", "_law_digit", "_law_at", "_law_cell", "_law_great", "_law_mixed"] ["_law_pen_here", "_law_many"] (defScope s_Ldraw) := ⟨rfl, rfl, rfl, by decide +kernel, rfl, by decide +kernel, by decide +kernel⟩
abbrev s_Lpick : Stmt := top 46
theorem sc_Lpick : FnScope ["_law_pen_here", "_law_some"] ["_law_pen_here", "_law_some"] (defScope s_Lpick) := ⟨rfl, rfl, rfl, by decide +kernel, rfl, by decide +kernel, by decide +kernel⟩
abbrev s_Lcontent : Stmt := top 47
theorem sc_Lcontent : FnScope ["_law_pen_here", "_law_many", "_law_way", "_law_k"] ["_law_pen_here", "_law_many"] (defScope s_Lcontent) := ⟨rfl, rfl, rfl, by decide +kernel, rfl, by decide +kernel, by decide +kernel⟩
abbrev s_Llive : Stmt := top 48
theorem sc_Llive : FnScope ["_law_blocks_here", "_law_used", "_law_block"] ["_law_blocks_here"] (defScope s_Llive) := ⟨rfl, rfl, rfl, by decide +kernel, rfl, by decide +kernel, by decide +kernel⟩
abbrev s_Lblocks : Stmt := top 49
theorem sc_Lblocks : FnScope ["_law_pen_here", "_law_many", "_law_some", "_law_marks", "_law_k"] ["_law_pen_here", "_law_many"] (defScope s_Lblocks) := ⟨rfl, rfl, rfl, by decide +kernel, rfl, by decide +kernel, by decide +kernel⟩
abbrev s_Lfresh : Stmt := top 50
theorem sc_Lfresh : FnScope ["_law_pen_here", "_law_blocks_here", "_law_at", "_law_near", "_law_many", "_law_k", "_law_turned"] ["_law_pen_here", "_law_blocks_here"] (defScope s_Lfresh) := ⟨rfl, rfl, rfl, by decide +kernel, rfl, by decide +kernel, by decide +kernel⟩
abbrev s_Lwith : Stmt := top 51
theorem sc_Lwith : FnScope ["_law_blocks_here", "_law_at", "_law_text", "_law_k"] ["_law_blocks_here", "_law_at", "_law_text"] (defScope s_Lwith) := ⟨rfl, rfl, rfl, by decide +kernel, rfl, by decide +kernel, by decide +kernel⟩
abbrev s_Lmove : Stmt := top 52
theorem sc_Lmove : FnScope ["_law_blocks_here", "_law_fresh_here", "_law_at", "_law_other", "_law_size", "_law_now", "_law_found", "_law_lacking", "_law_falls", "_law_mark", "_law_k"] ["_law_blocks_here", "_law_fresh_here"] (defScope s_Lmove) := ⟨rfl, rfl, rfl, by decide +kernel, rfl, by decide +kernel, by decide +kernel⟩
abbrev s_Lheard : Stmt := top 53
theorem sc_Lheard : FnScope ["_law_x", "_law_fresh_here", "_law_caught", "_law_found", "e"] ["_law_x", "_law_fresh_here"] (defScope s_Lheard) := ⟨rfl, rfl, rfl, by decide +kernel, rfl, by decide +kernel, by decide +kernel⟩
abbrev s_Lrefused : Stmt := top 54
theorem sc_Lrefused : FnScope ["_law_pen_here", "_law_blocks_here", "_law_fresh_here", "_law_x", "_law_many", "_law_k", "_law_some", "_law_odd", "_law_where", "_law_marks", "_law_foreign", "_law_heard_here", "_law_due", "_law_at"] ["_law_pen_here", "_law_blocks_here", "_law_fresh_here"] (defScope s_Lrefused) := ⟨rfl, rfl, rfl, by decide +kernel, rfl, by decide +kernel, by decide +kernel⟩
abbrev s_law : Stmt := top 55
theorem sc_law : FnScope ["_law_script", "_law_pen_here", "_law_turn", "_law_blocks_here", "_law_fresh_here", "_law_x", "_law_due", "_law_again", "_law_found", "_law_later", "_law_row"] ["_law_script"] (defScope s_law) := ⟨rfl, rfl, rfl, by decide +kernel, rfl, by decide +kernel, by decide +kernel⟩
structure TxL (K : PySem.W.Frag) (mg : Str → Option Value) (z : Pz) (w : Lz) : Prop extends Txp K mg z where
  g_Lpen : mg "_law_pen" = some (.ref w.a_Lpen)
  k_Lpen : PySem.W.keepIn K (.ref w.a_Lpen) = true
  b_Lpen : Binds K w.d_Lpen ["_law_script"] []
  F_Lpen : Fun K "_law_pen" "_law_pen" s_Lpen w.a_Lpen w.d_Lpen
  g_Ldraw : mg "_law_draw" = some (.ref w.a_Ldraw)
  k_Ldraw : PySem.W.keepIn K (.ref w.a_Ldraw) = true
  b_Ldraw : Binds K w.d_Ldraw ["_law_pen_here", "_law_many"] []
  F_Ldraw : Fun K "_law_draw" "_law_draw" s_Ldraw w.a_Ldraw w.d_Ldraw
  g_Lpick : mg "_law_pick" = some (.ref w.a_Lpick)
  k_Lpick : PySem.W.keepIn K (.ref w.a_Lpick) = true
  b_Lpick : Binds K w.d_Lpick ["_law_pen_here", "_law_some"] []
  F_Lpick : Fun K "_law_pick" "_law_pick" s_Lpick w.a_Lpick w.d_Lpick
  g_Lcontent : mg "_law_content" = some (.ref w.a_Lcontent)
  k_Lcontent : PySem.W.keepIn K (.ref w.a_Lcontent) = true
  b_Lcontent : Binds K w.d_Lcontent ["_law_pen_here", "_law_many"] []
  F_Lcontent : Fun K "_law_content" "_law_content" s_Lcontent w.a_Lcontent w.d_Lcontent
  g_Llive : mg "_law_live" = some (.ref w.a_Llive)
  k_Llive : PySem.W.keepIn K (.ref w.a_Llive) = true
  b_Llive : Binds K w.d_Llive ["_law_blocks_here"] []
  F_Llive : Fun K "_law_live" "_law_live" s_Llive w.a_Llive w.d_Llive
  g_Lblocks : mg "_law_blocks" = some (.ref w.a_Lblocks)
  k_Lblocks : PySem.W.keepIn K (.ref w.a_Lblocks) = true
  b_Lblocks : Binds K w.d_Lblocks ["_law_pen_here", "_law_many"] []
  F_Lblocks : Fun K "_law_blocks" "_law_blocks" s_Lblocks w.a_Lblocks w.d_Lblocks
  g_Lfresh : mg "_law_fresh" = some (.ref w.a_Lfresh)
  k_Lfresh : PySem.W.keepIn K (.ref w.a_Lfresh) = true
  b_Lfresh : Binds K w.d_Lfresh ["_law_pen_here", "_law_blocks_here"] []
  F_Lfresh : Fun K "_law_fresh" "_law_fresh" s_Lfresh w.a_Lfresh w.d_Lfresh
  g_Lwith : mg "_law_with" = some (.ref w.a_Lwith)
  k_Lwith : PySem.W.keepIn K (.ref w.a_Lwith) = true
  b_Lwith : Binds K w.d_Lwith ["_law_blocks_here", "_law_at", "_law_text"] []
  F_Lwith : Fun K "_law_with" "_law_with" s_Lwith w.a_Lwith w.d_Lwith
  g_Lmove : mg "_law_move" = some (.ref w.a_Lmove)
  k_Lmove : PySem.W.keepIn K (.ref w.a_Lmove) = true
  b_Lmove : Binds K w.d_Lmove ["_law_blocks_here", "_law_fresh_here"] []
  F_Lmove : Fun K "_law_move" "_law_move" s_Lmove w.a_Lmove w.d_Lmove
  g_Lheard : mg "_law_heard" = some (.ref w.a_Lheard)
  k_Lheard : PySem.W.keepIn K (.ref w.a_Lheard) = true
  b_Lheard : Binds K w.d_Lheard ["_law_x", "_law_fresh_here"] []
  F_Lheard : Fun K "_law_heard" "_law_heard" s_Lheard w.a_Lheard w.d_Lheard
  g_Lrefused : mg "_law_refused" = some (.ref w.a_Lrefused)
  k_Lrefused : PySem.W.keepIn K (.ref w.a_Lrefused) = true
  b_Lrefused : Binds K w.d_Lrefused ["_law_pen_here", "_law_blocks_here", "_law_fresh_here"] []
  F_Lrefused : Fun K "_law_refused" "_law_refused" s_Lrefused w.a_Lrefused w.d_Lrefused
/-! the pen that is a list -/
def PenN (H : Hp) (p l : Addr) (n : Nat) : Prop := ∃ (cs : List Int) (a r : Int), H p = some (.lst [.ref l, .int a, .int r]) ∧ H l = some (.lst (cs.map V.int)) ∧ 0 ≤ a ∧ a ≤ n ∧ 0 ≤ r
theorem PenN.mono {H : Hp} {p l : Addr} {n m : Nat} (h : PenN H p l n) (le : n ≤ m) : PenN H p l m := by
  obtain ⟨cs, a, r, h1, h2, h3, h4, h5⟩ := h
  exact ⟨cs, a, r, h1, h2, h3, by omega, h5⟩
theorem PenN.same {H H' : Hp} {p l : Addr} {n : Nat} (h : PenN H p l n) (s : Same H H') : PenN H' p l n := by
  obtain ⟨cs, a, r, h1, h2, h3⟩ := h
  exact ⟨cs, a, r, s _ _ h1, s _ _ h2, h3⟩
theorem PenN.nep {H : Hp} {p l q : Addr} {n : Nat} (h : PenN H p l n) (hq : H q = none) : p ≠ q := by
  obtain ⟨cs, a, r, h1, _⟩ := h
  exact ne_of_none h1 hq
theorem PenN.nel {H : Hp} {p l q : Addr} {n : Nat} (h : PenN H p l n) (hq : H q = none) : l ≠ q := by
  obtain ⟨cs, a, r, h1, h2, _⟩ := h
  exact ne_of_none h2 hq
theorem PenN.put {H : Hp} {p l q : Addr} {n : Nat} {o : HO} (h : PenN H p l n) (n1 : p ≠ q) (n2 : l ≠ q) : PenN (upd H q o) p l n := by
  obtain ⟨cs, a, r, h1, h2, h3⟩ := h
  exact ⟨cs, a, r, by rw [upd_ne n1]; exact h1, by rw [upd_ne n2]; exact h2, h3⟩
theorem PenN.new {H : Hp} {p l q : Addr} {n : Nat} {o : HO} (h : PenN H p l n) (hq : H q = none) : PenN (upd H q o) p l n := h.put (h.nep hq) (h.nel hq)
theorem PenN.ext {H H' : Hp} {p l : Addr} {n : Nat} (e : LamX.ExtN H H') (h : PenN H p l n) : PenN H' p l n := by
  obtain ⟨cs, a, r, h1, h2, h3⟩ := h
  exact ⟨cs, a, r, e _ _ h1 (fun ps q => nomatch q), e _ _ h2 (fun ps q => nomatch q), h3⟩
def spPenN (K : PySem.W.Frag) : Sp := fun vs H Q _ => ∃ (a : Addr) (ns : List Int), vs = [.ref a] ∧ SqL K H a (ns.map V.int) ∧ ns.length ≤ 63 ∧
  ∀ (p l : Addr) (H' : Hp), H p = none → H l = none → Same H H' → PenN H' p l 0 → Q (.ref p) H'
def spDraw : Sp := fun vs H Q _ => ∃ (p l : Addr) (m : Int) (n : Nat), vs = [.ref p, .int m] ∧ 0 < m ∧ m < 1073741824 ∧ n < 100000 ∧ PenN H p l n ∧
  ∀ (d : Int) (H' : Hp), 0 ≤ d → d < m → PenN H' p l (n + 1) → But p H H' → Q (.int d) H'
section
variable {P : Program} {wo : World} {K : PySem.W.Frag} {mg : Str → Option Value} {base : Heap} {z : Pz} {w : Lz}
theorem ok_Lpen (T : TxL K mg z w) : FnOk P wo K mg base CX0 1 w.a_Lpen w.d_Lpen ["_law_script"] (spPenN K) := by
  refine T.F_Lpen.ok sc_Lpen (fun vs H Q E h => ?_) (fun cdv A outer s H vs Q E hr h => ?_)
  · obtain ⟨a, ns, rfl, _⟩ := h
    rfl
  · obtain ⟨a, ns, rfl, hS, hl, ret⟩ := h
    refine ⟨_, (pss_one (ps_ret (pe_lst (pa_cons (pe_callTy call_list_of (by rfl) T.n_list (by decide +kernel) (pa_cons (pe_slice sl_list (pv 0) po_none (po_some pe_int)) pa_nil)) (pa_cons pe_int (pa_cons pe_int pa_nil)))))), ?_⟩
    obtain ⟨ms, hms, hml⟩ := cut_map ns none (some 63)
    refine ⟨_, rfl, 63, rfl, a, _, rfl, hS, fun q hq => ?_⟩
    rw [hms]
    have s1 := smN (o := .lst (ms.map V.int)) (Same.refl H) hq
    refine ⟨q, _, rfl, .inl (SqL.of upd_same), fun l hl => ?_⟩
    have s2 := smN (o := .lst (ms.map V.int)) s1 hl
    refine ⟨by show 3 ≤ sizeLine; decide, fun p hp => ?_⟩
    have s3 := smN (o := .lst [.ref l, .int 0, .int 0]) s2 hp
    exact ret p l _ (s2.free hp) (s1.free hl) s3 ⟨ms, 0, 0, upd_same, smN (Same.refl _) hp _ _ upd_same, by decide, by decide, by decide⟩
theorem ok_Ldraw (T : TxL K mg z w) : FnOk P wo K mg base CX0 1 w.a_Ldraw w.d_Ldraw ["_law_pen_here", "_law_many"] spDraw := by
  refine T.F_Ldraw.ok sc_Ldraw (fun vs H Q E h => ?_) (fun cdv A outer s H vs Q E hr h => ?_)
  · obtain ⟨p, l, m, n, rfl, _⟩ := h
    rfl
  · obtain ⟨p, l, m, n, rfl, hm0, hm1, hn, ⟨cs, a, r, hp, hl, ha0, ha1, hr0⟩, k⟩ := h
    have hu64 : (A.deeper (envOfC "_law_draw" (defScope s_Ldraw) s.heap.objs.size w.a_Ldraw cdv)).units + 64 < cLine := hr.units
    have npl : l ≠ p := ne_of hl hp (by intro z; injection z with z; have := congrArg List.length z; simp at this; have e := z; cases cs with | nil => cases e | cons c cs => cases e)
    refine ⟨_, (pss_cons (ps_if (pt_cmpR op_gt (pe_ix ix_list (pv 0) pe_int (fun _ _ => rfl)) pe_int (nomark _))
        (pss_cons (ps_set (i := 2) sc_Ldraw.nd rfl (Or.inl rfl) (pe_op op_mod (pe_callTy call_int1 (by rfl) T.n_int (by decide +kernel) (pa_cons (pe_ix ix_list (pv 0) pe_int (fun _ _ => rfl)) pa_nil)) (pv 1)))
        (pss_cons (ps_asg (pe_op op_fdiv (pe_callTy call_int1 (by rfl) T.n_int (by decide +kernel) (pa_cons (pe_ix ix_list (pv 0) pe_int (fun _ _ => rfl)) pa_nil)) (pv 1)) (pg_sub (pv 0) pe_int set_list))
        (pss_one (ps_ret (pv 2)))))
        pss_nil)
      (pss_cons (ps_set (i := 3) sc_Ldraw.nd rfl (Or.inl rfl) (pe_ix ix_list (pv 0) pe_int (fun _ _ => rfl)))
      (pss_cons (ps_asg (pe_op op_add (pv 3) pe_int) (pg_sub (pv 0) pe_int set_list))
      (pss_cons (ps_set (i := 4) sc_Ldraw.nd rfl (Or.inl rfl) (pe_op op_add (pe_op op_mul pe_int (pv 3)) pe_int))
      (C8.pss_cut (ps_if (pt_cmpR (op_neD hu64) (pe_ix ix_list (pv 0) pe_int (fun _ _ => rfl)) (pe_lst pa_nil) (nomark _))
        (pss_one (ps_set (i := 4) sc_Ldraw.nd rfl (Or.inl rfl) (pe_ix ix_list (pe_ix ix_list (pv 0) pe_int (fun _ _ => rfl)) (pe_op op_mod (pe_callTy call_int1 (by rfl) T.n_int (by decide +kernel) (pa_cons (pv 3) pa_nil)) (pe_callB call_len_seq (by rfl) T.n_len (by decide +kernel) (pa_cons (pe_ix ix_list (pv 0) pe_int (fun _ _ => rfl)) pa_nil))) (fun _ _ => rfl))))
        pss_nil)
      (C8.pss_cut (ps_if (PW.pt (pw_and (pt_cmpR op_lt (pv 3) (pe_callB call_len_seq (by rfl) T.n_len (by decide +kernel) (pa_cons (pe_ix ix_list (pv 0) pe_int (fun _ _ => rfl)) pa_nil)) (nomark _)) (pw_and1 (pt_cmpR op_ge (pe_callB call_abs (by rfl) T.n_abs (by decide +kernel) (pa_cons (pv 4) pa_nil)) (pe_op op_pow pe_int pe_int) (nomark _)))))
        (pss_cons (ps_set (i := 5) sc_Ldraw.nd rfl (Or.inl rfl) (pe_op op_add (pe_op op_mul pe_int (pe_op op_sub (pe_callB call_abs (by rfl) T.n_abs (by decide +kernel) (pa_cons (pv 4) pa_nil)) (pe_op op_pow pe_int pe_int))) (pe_callTy call_int1 (by rfl) T.n_int (by decide +kernel) (pa_cons (pe_cmpR op_lt (pv 4) pe_int (nomark _)) pa_nil))))
        (pss_cons (ps_asg (pe_op op_fdiv (pe_callTy call_int1 (by rfl) T.n_int (by decide +kernel) (pa_cons (pv 5) pa_nil)) (pv 1)) (pg_sub (pv 0) pe_int set_list))
        (pss_one (ps_ret (pe_op op_mod (pe_callTy call_int1 (by rfl) T.n_int (by decide +kernel) (pa_cons (pv 5) pa_nil)) (pv 1))))))
        pss_nil)
      (pss_cons (ps_set (i := 6) sc_Ldraw.nd rfl (Or.inl rfl) (pe_op op_mod (pe_callTy call_int1 (by rfl) T.n_int (by decide +kernel) (pa_cons (pe_op op_pow (pe_op op_add (pe_op op_add (pe_op op_mod (pe_callTy call_int1 (by rfl) T.n_int (by decide +kernel) (pa_cons (pv 4) pa_nil)) pe_int) (pe_op op_mul pe_int (pv 3))) pe_int) pe_int) pa_nil)) pe_int))
      (pss_cons (ps_set (i := 6) sc_Ldraw.nd rfl (Or.inl rfl) (pe_op op_mod (pe_callTy call_int1 (by rfl) T.n_int (by decide +kernel) (pa_cons (pe_op op_pow (pe_op op_add (pe_op op_add (pe_op op_mul (pv 6) (pe_op op_add (pe_op op_mul pe_int (pv 3)) pe_int)) (pe_op op_mul (pe_op op_mul pe_int (pv 3)) (pv 3))) pe_int) pe_int) pa_nil)) pe_int))
      (pss_one (ps_ret (pe_op op_mod (pe_callTy call_int1 (by rfl) T.n_int (by decide +kernel) (pa_cons (pe_op op_fdiv (pv 6) pe_int) pa_nil)) (pv 1)))))))))))), ?_⟩
    -- if pen[2] > 0
    refine ⟨_, rfl, p, _, 2, .int r, rfl, rfl, SqL.of hp, rfl, _, _, rfl, rfl, _, rfl, ?_⟩
    refine ite2 (fun h1 => ?_) (fun h1 => ?_)
    · refine ⟨_, rfl, p, _, 2, .int r, rfl, rfl, SqL.of hp, rfl, .inl ⟨_, rfl, ?_⟩⟩
      refine ⟨_, rfl, _, _, rfl, rfl, hm0, ?_⟩
      refine ⟨_, rfl, p, _, 2, .int r, rfl, rfl, SqL.of hp, rfl, .inl ⟨_, rfl, ?_⟩⟩
      refine ⟨_, rfl, _, _, rfl, rfl, ⟨hm0, hm1⟩, ?_⟩
      refine ⟨_, rfl, p, _, 2, 2, rfl, rfl, hp, rfl, ?_⟩
      refine ⟨_, rfl, ?_⟩
      exact k _ _ (Int.emod_nonneg _ (by omega)) (Int.emod_lt_of_pos _ hm0) ⟨cs, a, r / m, upd_same, by rw [upd_ne npl]; exact hl, ha0, by omega, Int.ediv_nonneg hr0 (by omega)⟩ (fun c o hc e => by rw [upd_ne hc]; exact e)
    · refine ⟨_, rfl, p, _, 1, .int a, rfl, rfl, SqL.of hp, rfl, ?_⟩
      refine ⟨_, rfl, _, _, rfl, rfl, _, rfl, p, _, 1, 1, rfl, rfl, hp, rfl, ?_⟩
      refine ⟨_, rfl, _, _, rfl, rfl, .inl ⟨by decide, by decide⟩, _, _, rfl, rfl, ?_⟩
      have b1 : But p H (upd H p (.lst [.ref l, .int (a + 1), .int r])) := fun c o hc e => by rw [upd_ne hc]; exact e
      have hp1 : (upd H p (.lst [.ref l, .int (a + 1), .int r])) p = some (.lst [.ref l, .int (a + 1), .int r]) := upd_same
      have hl1 : (upd H p (.lst [.ref l, .int (a + 1), .int r])) l = some (.lst (cs.map V.int)) := by rw [upd_ne npl]; exact hl
      refine ⟨fun σ H' => But p H H' ∧ H' p = some (.lst [.ref l, .int (a + 1), .int r]) ∧ H' l = some (.lst (cs.map V.int)) ∧ ∃ c : Int, σ = [some (.ref p), some (.int m), none, some (.int a), some (.int c), none, none], ?_, ?_⟩
      · refine ⟨_, rfl, p, _, 0, .ref l, rfl, rfl, SqL.of hp1, rfl, by show 0 ≤ sizeLine; decide, fun q hq => ?_⟩
        have s2 := smN (o := .lst []) (Same.refl _) hq
        refine ⟨.list (intD cs), .list [], .lst (SqL.of (s2 _ _ hl1)) (dp_ints _), .lst (SqL.of upd_same) .nil, shaped_lst (lay_ints _), by decide +kernel, _, rfl, ?_⟩
        rw [eqv_ints_nil]
        have b2 := b1.trans (But.of s2)
        have hp2 := s2 _ _ hp1
        have hl2 := s2 _ _ hl1
        by_cases c0 : cs = []
        · rw [decide_eq_true c0]
          exact iteF ⟨b2, hp2, hl2, _, rfl⟩
        · rw [decide_eq_false c0]
          refine iteT ?_
          have ln : 0 < cs.length := List.length_pos_iff.mpr c0
          refine ⟨_, rfl, p, _, 0, .ref l, rfl, rfl, SqL.of hp2, rfl, ?_⟩
          refine ⟨_, rfl, .inl ⟨_, rfl, ?_⟩⟩
          refine ⟨_, rfl, p, _, 0, .ref l, rfl, rfl, SqL.of hp2, rfl, ?_⟩
          refine ⟨l, _, rfl, .inl (SqL.of hl2), ?_⟩
          rw [List.length_map]
          refine ⟨_, _, rfl, rfl, by omega, ?_⟩
          have e1 := Int.emod_nonneg a (show ((cs.length : Nat) : Int) ≠ 0 by omega)
          have e2 := Int.emod_lt_of_pos a (show (0 : Int) < ((cs.length : Nat) : Int) by omega)
          obtain ⟨j, ej⟩ : ∃ j : Nat, a % ((cs.length : Nat) : Int) = (j : Int) := ⟨(a % ((cs.length : Nat) : Int)).toNat, by omega⟩
          rw [ej] at e1 e2
          refine ⟨l, _, (j : Int), .int (cs[j]'(by omega)), rfl, by rw [← ej], SqL.of hl2, atI_nat (by rw [List.getElem?_map, List.getElem?_eq_getElem (show j < cs.length by omega)] <;> rfl), ?_⟩
          exact ⟨b2, hp2, hl2, _, rfl⟩
      · rintro σ H2 ⟨b2, hp2, hl2, c, rfl⟩
        refine ⟨fun σ H' => But p H H' ∧ H' p = some (.lst [.ref l, .int (a + 1), .int r]) ∧ H' l = some (.lst (cs.map V.int)) ∧ ∃ c : Int, σ = [some (.ref p), some (.int m), none, some (.int a), some (.int c), none, none], ?_, ?_⟩
        · refine ⟨_, rfl, _, rfl, p, _, 0, .ref l, rfl, rfl, SqL.of hp2, rfl, ?_⟩
          refine ⟨l, _, rfl, .inl (SqL.of hl2), _, _, rfl, rfl, _, rfl, ?_⟩
          refine ite2 (fun h2 => ?_) (fun h2 => ?_)
          · refine ⟨_, rfl, _, rfl, _, _, rfl, rfl, ⟨by decide, by decide, by decide⟩, _, _, rfl, rfl, _, rfl, ?_⟩
            refine ite2 (fun h3 => ?_) (fun h3 => ?_)
            · have h4 := of_decide_eq_true h3
              have e18 : (10 : Int) ^ ((18 : Int).toNat) = 1000000000000000000 := by decide
              rw [e18] at h4
              have hg : 0 ≤ 2 * ((if c < 0 then -c else c) - (10 : Int) ^ ((18 : Int).toNat)) + (if decide (c < 0) = true then (1 : Int) else 0) := by
                rw [e18]
                split <;> split <;> split at h4 <;> omega
              refine ⟨_, rfl, _, rfl, _, _, rfl, rfl, ⟨by decide, by decide, by decide⟩, _, _, rfl, rfl, _, _, rfl, rfl, .inl ⟨by decide, by decide⟩, ?_⟩
              refine ⟨_, rfl, _, _, rfl, rfl, .inr ⟨_, rfl, ?_⟩⟩
              refine ⟨_, _, rfl, rfl, ?_⟩
              refine ⟨_, rfl, .inl ⟨_, rfl, ?_⟩⟩
              refine ⟨_, rfl, _, _, rfl, rfl, ⟨hm0, hm1⟩, ?_⟩
              refine ⟨_, rfl, p, _, 2, 2, rfl, rfl, hp2, rfl, ?_⟩
              refine ⟨_, rfl, .inl ⟨_, rfl, ?_⟩⟩
              refine ⟨_, rfl, _, _, rfl, rfl, hm0, ?_⟩
              exact k _ _ (Int.emod_nonneg _ (by omega)) (Int.emod_lt_of_pos _ hm0) ⟨cs, a + 1, _, upd_same, by rw [upd_ne npl]; exact hl2, by omega, by omega, Int.ediv_nonneg hg (by omega)⟩ (fun c o hc e => by rw [upd_ne hc]; exact b2 c o hc e)
            · exact ⟨b2, hp2, hl2, _, rfl⟩
          · exact iteF ⟨b2, hp2, hl2, _, rfl⟩
        · rintro σ H3 ⟨b3, hp3, hl3, c, rfl⟩
          refine ⟨_, rfl, .inl ⟨_, rfl, ?_⟩⟩
          refine ⟨_, _, rfl, rfl, (show (0 : Int) < 2147483549 by decide), ?_⟩
          refine ⟨_, rfl, _, _, rfl, rfl, .inl ⟨by decide, by decide⟩, ?_⟩
          refine ⟨_, _, rfl, rfl, ?_⟩
          refine ⟨_, _, rfl, rfl, ?_⟩
          have e1 := Int.emod_nonneg c (show (2147483549 : Int) ≠ 0 by decide)
          have e2 := Int.emod_lt_of_pos c (show (0 : Int) < 2147483549 by decide)
          refine ⟨_, _, rfl, rfl, ⟨by decide, by decide, ?_⟩, ?_⟩
          · omega
          refine .inl ⟨_, rfl, ?_⟩
          refine ⟨_, _, rfl, rfl, (show (0 : Int) < 2147483629 by decide), ?_⟩
          generalize hx : (c % 2147483549 + 72019 * a + 213) ^ (5 : Int).toNat % 2147483629 = x
          have e3 : 0 ≤ x := by rw [← hx]; exact Int.emod_nonneg _ (by decide)
          have e4 : x < 2147483629 := by rw [← hx]; exact Int.emod_lt_of_pos _ (by decide)
          refine ⟨_, rfl, ?_⟩
          refine ⟨_, rfl, _, _, rfl, rfl, .inl ⟨by decide, by decide⟩, _, _, rfl, rfl, _, _, rfl, rfl, .inl ⟨by omega, by omega⟩, ?_⟩
          refine ⟨_, rfl, _, _, rfl, rfl, .inl ⟨by decide, by decide⟩, _, rfl, _, _, rfl, rfl, .inr ⟨by omega, by omega⟩, _, _, rfl, rfl, _, _, rfl, rfl, ?_⟩
          have f1 : 0 ≤ x * (2 * a + 313) := Int.mul_nonneg e3 (by omega)
          have f2 : x * (2 * a + 313) ≤ 2147483629 * 300000 := Int.mul_le_mul (by omega) (by omega) (by omega) (by decide)
          have e5 : 0 ≤ 83059 * a * a := Int.mul_nonneg (by omega) ha0
          have e6 : 83059 * a * a ≤ 83059 * 100000 * 100000 := Int.mul_le_mul (by omega) (by omega) ha0 (by decide)
          refine ⟨_, _, rfl, rfl, ⟨by decide, by decide, ?_⟩, ?_⟩
          · show Int.natAbs ((c % 2147483549 + 72019 * a + 213) ^ (5 : Int).toNat % 2147483629 * (2 * a + 313) + 83059 * a * a + 11) < 2 ^ 64
            rw [hx]
            generalize 83059 * a * a = y at *
            generalize x * (2 * a + 313) = y2 at *
            omega
          refine .inl ⟨_, rfl, ?_⟩
          refine ⟨_, _, rfl, rfl, (show (0 : Int) < 2147483587 by decide), ?_⟩
          refine ⟨_, rfl, _, _, rfl, rfl, ⟨by decide, by decide⟩, .inl ⟨_, rfl, ?_⟩⟩
          refine ⟨_, rfl, _, _, rfl, rfl, hm0, ?_⟩
          exact k _ _ (Int.emod_nonneg _ (by omega)) (Int.emod_lt_of_pos _ hm0) ⟨cs, a + 1, r, hp3, hl3, by omega, by omega, hr0⟩ b3
end
end Fb
set_option maxRecDepth 100000
set_option maxHeartbeats 4000000
namespace Fb
open PySem PySem.Spec PyProof.Rows L2
open SX (S)
theorem stepL {H : Hp} {a : Addr} {xs : List V} (h : H a = none) : Same H (upd H a (.lst xs)) ∧ (upd H a (.lst xs)) a = some (.lst xs) := ⟨smN (Same.refl H) h, upd_same⟩
def spPick (K : PySem.W.Frag) : Sp := fun vs H Q _ => ∃ (p l q : Addr) (n : Nat) (xs : List V), vs = [.ref p, .ref q] ∧ H q = some (.lst xs) ∧ q ≠ p ∧ 1 ≤ xs.length ∧ xs.length ≤ 1000 ∧ n < 90000 ∧ PenN H p l n ∧
  ∀ (j : Nat) v H', xs[j]? = some v → But p H H' → PenN H' p l (n + 1) → Q v H'
def spContent : Sp := fun vs H Q _ => ∃ (p l : Addr) (n m : Nat), vs = [.ref p, .int (m : Nat)] ∧ m ≤ 60 ∧ n < 90000 ∧ PenN H p l n ∧
  ∀ b H', b.length = m → (∀ c ∈ b, c = 48 ∨ c = 49) → But p H H' → PenN H' p l (n + 61) → Q (.str (S b)) H'
def spLvL : Sp := fun vs H Q _ => ∃ q A B, vs = [.ref q] ∧ H q = some (.lst (txV [A, B])) ∧ A.length ≤ 1000 ∧ B.length ≤ 1000 ∧ ∀ H', Same H H' → Q (optI (lvB A B)) H'
theorem mk2_in (h : List Nat) : inV (.str (S h)) [V.str "10", V.str "01"] = mk2 h := in_marks h
section
variable {P : Program} {wo : World} {K : PySem.W.Frag} {mg : Str → Option Value} {base : Heap} {z : Pz} {w : Lz}
theorem ok_Lpick (T : TxL K mg z w) : FnOk P wo K mg base CX0 2 w.a_Lpick w.d_Lpick ["_law_pen_here", "_law_some"] (spPick K) := by
  refine T.F_Lpick.ok sc_Lpick (fun vs H Q E h => ?_) (fun cdv A outer s H vs Q E hr h => ?_)
  · obtain ⟨p, l, q, n, xs, rfl, _⟩ := h
    rfl
  · obtain ⟨p, l, q, n, xs, rfl, hq, nqp, h1, h2, hn, hP, ret⟩ := h
    have hr1 : Room 1 _ := hr
    have G_Ldraw : FnOk P wo K mg base CX0 1 w.a_Ldraw w.d_Ldraw ["_law_pen_here", "_law_many"] spDraw := ok_Ldraw T
    refine ⟨_, (pss_one (ps_ret (pe_ix ix_list (pv 1) (pe_call G_Ldraw hr1 rfl T.g_Ldraw T.k_Ldraw T.b_Ldraw .nil pass0 (pa_cons (pv 0) (pa_cons (pe_callB call_len_seq (by rfl) T.n_len (by decide +kernel) (pa_cons (pv 1) pa_nil)) pa_nil))) (fun _ _ => rfl)))), ?_⟩
    refine ⟨_, rfl, _, rfl, _, rfl, q, _, rfl, .inl (SqL.of hq), ?_⟩
    refine ⟨p, l, _, n, rfl, by omega, by omega, by omega, hP, fun d H1 hd0 hd1 P1 B1 => ?_⟩
    obtain ⟨k, rfl⟩ : ∃ k : Nat, d = (k : Int) := ⟨d.toNat, by omega⟩
    have hk : k < xs.length := by omega
    have ev := List.getElem?_eq_getElem hk
    exact ⟨q, _, (k : Int), _, rfl, rfl, SqL.of (B1 _ _ nqp hq), atI_nat ev, ret k _ _ ev B1 P1⟩
theorem ok_Lcontent (T : TxL K mg z w) : FnOk P wo K mg base CX0 2 w.a_Lcontent w.d_Lcontent ["_law_pen_here", "_law_many"] spContent := by
  refine T.F_Lcontent.ok sc_Lcontent (fun vs H Q E h => ?_) (fun cdv A outer s H vs Q E hr h => ?_)
  · obtain ⟨p, l, n, m, rfl, _⟩ := h
    rfl
  · obtain ⟨p, l, n, m, rfl, hm, hn, hP, ret⟩ := h
    have hr1 : Room 1 _ := hr
    have G_Ldraw : FnOk P wo K mg base CX0 1 w.a_Ldraw w.d_Ldraw ["_law_pen_here", "_law_many"] spDraw := ok_Ldraw T
    refine ⟨_, (pss_cons (ps_set (i := 2) sc_Lcontent.nd rfl (Or.inl rfl) (pe_call G_Ldraw hr1 rfl T.g_Ldraw T.k_Ldraw T.b_Ldraw .nil pass0 (pa_cons (pv 0) (pa_cons pe_int pa_nil))))
      (pss_cons (ps_if (pt_cmpR op_lt (pv 2) pe_int (nomark _))
        (pss_one (ps_ret (pe_op op_repS (pe_ix ix_str pe_str (pv 2) (fun _ _ => rfl)) (pv 1))))
        pss_nil)
      (pss_one (ps_ret (pe_joinK (K := K) rfl pe_str (pa_cons (by refine' pe_lc (own := [("_law_k", 3)]) (tt := tYes) rfl sc_Lcontent.nd ?hi (blkOk_by (N := ["_law_pen_here", "_law_many", "_law_way", "_law_k"]) (sc := defScope s_Lcontent) (by first | decide +kernel | kernel_rfl | rfl)) ?hg ?ht ?he (by intro _; rfl); (case hi => exact (pi_range1 rfl T.n_range (pa_cons (pv 1) pa_nil))); (case hg => exact fun _ _ _ _ _ => (pg_name (i := 3) sc_Lcontent.nd rfl (Or.inl rfl))); (case ht => exact fun _ _ _ _ _ => pts_nil); (case he => exact fun _ _ _ _ _ => (pe_ix ix_str pe_str (pe_call G_Ldraw hr1 rfl T.g_Ldraw T.k_Ldraw T.b_Ldraw .nil pass0 (pa_cons (pv 0) (pa_cons pe_int pa_nil))) (fun _ _ => rfl)))) pa_nil)))))), ?_⟩
    refine ⟨_, rfl, p, l, 4, n, rfl, by decide, by decide, by omega, hP, fun d H1 hd0 hd1 P1 B1 => ?_⟩
    refine ⟨_, rfl, _, _, rfl, rfl, _, rfl, ?_⟩
    refine ite2 (fun c => ?_) (fun c => ?_)
    · have c := of_decide_eq_true c
      have fin : ∀ x : Nat, (x = 48 ∨ x = 49) → Q (.str (S (List.replicate m x))) H1 := fun x hx => ret _ _ (by simp) (fun y hy => by rw [List.eq_of_mem_replicate hy]; exact hx) B1 (P1.mono (by omega))
      have : d = 0 ∨ d = 1 := by omega
      rcases this with rfl | rfl
      · refine ⟨_, rfl, "10", 0, 49, rfl, rfl, by decide, by decide +kernel, ?_⟩
        exact ⟨_, rfl, 49, m, rfl, rfl, Nat.le_trans hm (by decide), fin 49 (.inr rfl)⟩
      · refine ⟨_, rfl, "10", 1, 48, rfl, rfl, by decide, by decide +kernel, ?_⟩
        exact ⟨_, rfl, 48, m, rfl, rfl, Nat.le_trans hm (by decide), fin 48 (.inl rfl)⟩
    · refine ⟨rfl, _, rfl, (m : Int), rfl, by omega, by omega, fun D hD => ?_⟩
      rw [show ((m : Int)).toNat = m from rfl]
      have nDp := P1.nep hD
      have nDl := P1.nel hD
      refine lc_range (fun j H' => ∃ b : List Nat, b.length = j ∧ (∀ c ∈ b, c = 48 ∨ c = 49) ∧ But p H1 H' ∧ PenN H' p l (n + 1 + j) ∧ H' D = some (.lst ((b.map fun c => S [c]).map V.str))) ⟨[], rfl, (fun c hc => by simp at hc), But.refl.new hD, P1.put nDp nDl, upd_same⟩ (fun j H4 hj h3 => ?_) (fun H4 h3 => ?_)
      · obtain ⟨b, b1, b2, B5, P5, hb3⟩ := h3
        refine ⟨rfl, yes1 ?_⟩
        refine ⟨_, rfl, p, l, 2, n + 1 + j, rfl, by decide, by decide, by omega, P5, fun d H5 hd0 hd1 P6 B6 => ?_⟩
        have hd : d = 0 ∨ d = 1 := by omega
        have acc : H5 D = some (.lst ((b.map fun c => S [c]).map V.str)) := B6 _ _ (Ne.symm nDp) hb3
        have len : ((b.map fun c => S [c]).map V.str).length < sizeLine := by rw [List.length_map, List.length_map, b1]; exact small1 _ (by omega)
        have fin : ∀ c : Nat, (c = 48 ∨ c = 49) → ∃ b' : List Nat, b'.length = j + 1 ∧ (∀ c ∈ b', c = 48 ∨ c = 49) ∧ But p H1 (upd H5 D (.lst ((b.map fun c => S [c]).map V.str ++ [.str (S [c])]))) ∧ PenN (upd H5 D (.lst ((b.map fun c => S [c]).map V.str ++ [.str (S [c])]))) p l (n + 1 + (j + 1)) ∧ (upd H5 D (.lst ((b.map fun c => S [c]).map V.str ++ [.str (S [c])]))) D = some (.lst ((b'.map fun c => S [c]).map V.str)) := fun c hc =>
          ⟨b ++ [c], by rw [List.length_append, b1] <;> rfl, (fun x hx => by rcases List.mem_append.mp hx with h | h; exact b2 x h; exact (List.mem_singleton.mp h) ▸ hc), (B5.trans B6).put hD, (P6.mono (by omega)).put nDp nDl, by rw [upd_same, List.map_append, List.map_append] <;> rfl⟩
        rcases hd with rfl | rfl
        · exact ⟨"10", 0, 49, rfl, rfl, by decide, by decide +kernel, _, acc, len, fin 49 (.inr rfl)⟩
        · exact ⟨"10", 1, 48, rfl, rfl, by decide, by decide +kernel, _, acc, len, fin 48 (.inl rfl)⟩
      · obtain ⟨b, b1, b2, B5, P5, hb3⟩ := h3
        refine ⟨"", D, b.map fun c => S [c], rfl, rfl, .inl (SqL.of hb3), ?_, ?_⟩
        · rw [List.map_map, sum_signs, List.length_map, b1]
          show _ + _ * 0 ≤ _
          omega
        · rw [join_signs]
          exact ret b _ b1 b2 (B1.trans B5) (P5.mono (by omega))
theorem ok_Llive (T : TxL K mg z w) : FnOk P wo K mg base CX0 1 w.a_Llive w.d_Llive ["_law_blocks_here"] spLvL := by
  refine T.F_Llive.ok sc_Llive (fun vs H Q E h => ?_) (fun cdv A outer s H vs Q E hr h => ?_)
  · obtain ⟨q, A, B, rfl, _⟩ := h
    rfl
  · obtain ⟨qa, Ab, B, rfl, hq, hA, hB, ret⟩ := h
    have hu64 : (A.deeper (envOfC "_law_live" (defScope s_Llive) s.heap.objs.size w.a_Llive cdv)).units + 64 < cLine := hr.units
    refine ⟨_, (pss_cons (by refine' ps_setLc (own := [("_law_block", 2)]) (tt := tYes) (i := 1) rfl sc_Llive.nd rfl rfl (sw_true rfl rfl rfl (by decide +kernel)) ?hi (blkOk_by (N := ["_law_blocks_here", "_law_used", "_law_block"]) (sc := defScope s_Llive) (by first | decide +kernel | kernel_rfl | rfl)) ?hg ?ht ?he (by intro _; rfl); (case hi => exact (pi_list (pv 0))); (case hg => exact fun _ _ _ _ _ => (pg_name (i := 2) sc_Llive.nd rfl (Or.inl rfl))); (case ht => exact fun _ _ _ _ _ => pts_nil); (case he => exact fun _ _ _ _ _ => (pe_cmpR (op_inK (K := K) rfl) (pe_slice sl_str (pv 2) po_none (po_some pe_int)) (pe_tup (pa_cons pe_str (pa_cons pe_str pa_nil))) rfl)))
      (pss_cons (ps_if (pt_cmpR (op_eqD hu64) (pv 1) (pe_lst (pa_cons pe_bl (pa_cons pe_bl pa_nil))) (nomark _))
        (pss_one (ps_ret (pe_callTy call_int1 (by rfl) T.n_int (by decide +kernel) (pa_cons (pe_cmpR op_ne (pe_slice sl_str (pe_ix ix_list (pv 0) pe_int (fun _ _ => rfl)) po_none (po_some pe_int)) (pe_slice sl_str (pe_ix ix_list (pv 0) pe_int (fun _ _ => rfl)) po_none (po_some pe_int)) (nomark _)) pa_nil))))
        pss_nil)
      (pss_one (ps_ret (pe_ifExp (pt_cmpR (op_inK (K := K) rfl) pe_bl (pv 1) rfl) (pe_bm PySem.F.plainAttrs_list PySem.F.slot_list_index PySem.F.type_list_index mt_index (pv 1) (pa_cons pe_bl pa_nil)) pe_non))))), ?_⟩
    refine ⟨_, rfl, qa, rfl, ⟨_, SqL.of hq⟩, fun D hD => ?_⟩
    refine lc_outL (xs := txV [Ab, B]) (outM fun i => V.bl (mk2 ((([Ab, B] : List (List Nat)).getD i []).take 2))) hD (SqL.of hq) outM_0 (fun i hi => ?_) (fun i x H2 Kc K0 e s2 kc k0 => ?_) (fun H2 s2 e2 => ?_)
    · rw [outM_l]
      exact Nat.lt_of_lt_of_le hi (show 2 ≤ sizeLine by decide)
    · obtain ⟨t, et, rfl⟩ := txV_get e
      have lt : t.length ≤ 1000 := by
        rcases List.mem_cons.mp (List.mem_of_getElem? et) with e | e
        · rw [e]; exact hA
        · rw [List.mem_singleton.mp e]; exact hB
      refine ⟨rfl, yes1 ?_⟩
      refine ⟨_, rfl, 2, rfl, S t, rfl, by rw [S_ln]; exact Nat.le_trans lt (by decide), ?_⟩
      rw [cut_hd]
      refine ⟨by show 2 ≤ sizeLine; decide, fun tt htt => ?_⟩
      have s3 := smN (o := .tup [.str "10", .str "01"]) (Same.refl H2) htt
      refine ⟨tt, _, rfl, .inr (SqT.of upd_same), rfl, rfl, ?_⟩
      have e0 : (if false = true then !inV (V.str (S (t.take 2))) [V.str "10", V.str "01"] else inV (V.str (S (t.take 2))) [V.str "10", V.str "01"]) = mk2 (t.take 2) := in_marks _
      refine kc _ _ s3 ?_
      rw [outM_s, List.getD_eq_getElem?_getD, et]
      exact congrArg (fun b => outM _ i ++ [V.bl b]) e0.symm
    · have e2 : H2 D = some (.lst (bools [mk2 (Ab.take 2), mk2 (B.take 2)])) := e2
      have hq2 := s2 _ _ hq
      have q := ret
      unfold lvB at q
      have ia : ∀ H' : Hp, atI (txV [Ab, B]) (0 : Int) = some (.str (S Ab)) := fun _ => rfl
      generalize mk2 (Ab.take 2) = x at e2 q
      generalize mk2 (B.take 2) = y at e2 q
      have la : (S Ab).length ≤ sizeLine := by rw [S_ln]; exact Nat.le_trans hA (by decide)
      have lb : (S B).length ≤ sizeLine := by rw [S_ln]; exact Nat.le_trans hB (by decide)
      refine ⟨_, rfl, by show 2 ≤ sizeLine; decide, fun c hc => ?_⟩
      have s3 := smN (o := .lst (bools [true, true])) (Same.refl H2) hc
      have s23 := s2.trans s3
      have e3 := s3 _ _ e2
      have hq3 := s3 _ _ hq2
      refine ⟨.list (boolD [x, y]), .list (boolD [true, true]), .lst (SqL.of e3) (dp_bls [x, y]), .lst (SqL.of upd_same) (dp_bls [true, true]), shaped_lst (lay_bools _), shaped_lst (lay_bools _), _, rfl, ?_⟩
      cases x with
      | true =>
        cases y with
        | true =>
          refine iteB1 (by decide +kernel) ?_
          refine ⟨_, rfl, qa, _, 0, .str (S Ab), rfl, rfl, SqL.of hq3, rfl, 2, rfl, S Ab, rfl, la, ?_⟩
          rw [cut_hd]
          refine ⟨_, rfl, qa, _, 1, .str (S B), rfl, rfl, SqL.of hq3, rfl, 2, rfl, S B, rfl, lb, ?_⟩
          rw [cut_hd]
          have q := q _ s23
          rw [if_pos rfl, if_pos rfl] at q
          refine ⟨rfl, .inr ⟨_, rfl, ?_⟩⟩
          by_cases c3 : Ab.take 2 = B.take 2
          · rw [if_pos c3] at q
            rw [c3, decide_eq_true rfl]
            exact q
          · rw [if_neg c3] at q
            rw [decide_eq_false (fun e => c3 (S_eq.mp e))]
            exact q
        | false =>
          refine iteB0 (by decide +kernel) ?_
          refine ⟨_, rfl, D, _, rfl, .inl (SqL.of e3), rfl, rfl, _, rfl, iteB1 (by decide +kernel) ?_⟩
          refine ⟨_, rfl, .inl ⟨rfl, _, SqL.of e3⟩, D, bools [true, false], .bl true, 0, .bl true, rfl, rfl, SqL.of e3, rfl, rfl, rfl, rfl, fun m z' hm => by omega, ?_⟩
          exact q _ s23
      | false =>
        cases y with
        | true =>
          refine iteB0 (by decide +kernel) ?_
          refine ⟨_, rfl, D, _, rfl, .inl (SqL.of e3), rfl, rfl, _, rfl, iteB1 (by decide +kernel) ?_⟩
          refine ⟨_, rfl, .inl ⟨rfl, _, SqL.of e3⟩, D, bools [false, true], .bl true, 1, .bl true, rfl, rfl, SqL.of e3, rfl, rfl, rfl, rfl, fun m z' hm e => ?_, ?_⟩
          · obtain rfl : m = 0 := by omega
            cases e
            rfl
          · exact q _ s23
        | false =>
          refine iteB0 (by decide +kernel) ?_
          refine ⟨_, rfl, D, _, rfl, .inl (SqL.of e3), rfl, rfl, _, rfl, iteB0 (by decide +kernel) ?_⟩
          exact q _ s23
end
end Fb
set_option maxRecDepth 100000
set_option maxHeartbeats 4000000
namespace Fb
open PySem PySem.Spec PyProof.Rows L2
open SX (S)
theorem cut_to (x : List Nat) (a : Nat) : cutS (S x) none (some (a : Int)) = S (x.take a) := by
  unfold cutS
  have e : (S x).cps.toList = x := rfl
  have e2 : (S x).length = x.length := SX.S_len x
  have i1 : HT.sIx x.length x.length (some (a : Int)) = min a x.length := by
    unfold HT.sIx
    simp [show ¬ ((a : Int) < 0) by omega]
  have i0 : HT.sIx x.length 0 none = 0 := rfl
  rw [e, e2, i1, i0]
  show S _ = S _
  congr 1
  rw [List.drop_zero, Nat.sub_zero]
  by_cases h : a ≤ x.length
  · rw [Nat.min_eq_left h]
  · rw [Nat.min_eq_right (by omega), List.take_length, List.take_of_length_le (by omega)]
theorem cut_from (x : List Nat) (a : Nat) : cutS (S x) (some (a : Int)) none = S (x.drop a) := by
  unfold cutS
  have e : (S x).cps.toList = x := rfl
  have e2 : (S x).length = x.length := SX.S_len x
  have i1 : HT.sIx x.length 0 (some (a : Int)) = min a x.length := by
    unfold HT.sIx
    simp [show ¬ ((a : Int) < 0) by omega]
  have i0 : HT.sIx x.length x.length none = x.length := rfl
  rw [e, e2, i1, i0]
  show S _ = S _
  congr 1
  by_cases h : a ≤ x.length
  · rw [Nat.min_eq_left h, List.take_of_length_le (by rw [List.length_drop]; omega)]
  · rw [Nat.min_eq_right (by omega), List.drop_length, List.drop_of_length_le (by omega)] <;> simp
structure BlkOk (m : Nat) (A B : List Nat) : Prop where
  la : A.length = 2 + m
  lb : B.length = 2 + m
  ba : ∀ c ∈ A, c = 48 ∨ c = 49
  bb : ∀ c ∈ B, c = 48 ∨ c = 49
  can : canM A B = true
def spBlks : Sp := fun vs H Q _ => ∃ (p l : Addr) (n m : Nat), vs = [.ref p, .int (m : Nat)] ∧ m ≤ 60 ∧ n < 80000 ∧ PenN H p l n ∧
  ∀ D A B H', But p H H' → PenN H' p l (n + 130) → D ≠ p → H' D = some (.lst (txV [A, B])) → BlkOk m A B → Q (.ref D) H'
def spFresh : Sp := fun vs H Q _ => ∃ (p l q : Addr) (n m : Nat) (A B : List Nat), vs = [.ref p, .ref q] ∧ q ≠ p ∧ H q = some (.lst (txV [A, B])) ∧ BlkOk m A B ∧ 1 ≤ m ∧ m ≤ 60 ∧ n < 80000 ∧ PenN H p l n ∧
  ∀ f H', f.length = m → (∀ c ∈ f, c = 48 ∨ c = 49) → But p H H' → PenN H' p l (n + 65) → Q (.str (S f)) H'
def spWith : Sp := fun vs H Q _ => ∃ (q : Addr) (A B t : List Nat) (o : Nat), vs = [.ref q, .int (o : Nat), .str (S t)] ∧ H q = some (.lst (txV [A, B])) ∧ o ≤ 1 ∧
  ∀ D H', Same H H' → H D = none → H' D = some (.lst (txV (if o = 0 then [t, B] else [A, t]))) → Q (.ref D) H'
def marks8 : List (V × V) := [(.str "10", .str "10"), (.str "10", .str "01"), (.str "01", .str "10"), (.str "01", .str "01"), (.str "10", .str "11"), (.str "01", .str "11"), (.str "11", .str "10"), (.str "11", .str "01")]
theorem marks8_ok {x y : V} (h : (x, y) ∈ marks8) : ∃ a b : List Nat, x = .str (S a) ∧ y = .str (S b) ∧ a.length = 2 ∧ b.length = 2 ∧ (∀ c ∈ a, c = 48 ∨ c = 49) ∧ (∀ c ∈ b, c = 48 ∨ c = 49) ∧ ∀ u v, canM (a ++ u) (b ++ v) = true := by
  have e1 : ("10" : Str) = S [49, 48] := by decide +kernel
  have e2 : ("01" : Str) = S [48, 49] := by decide +kernel
  have e3 : ("11" : Str) = S [49, 49] := by decide +kernel
  have go : ∀ a b : List Nat, a.length = 2 → b.length = 2 → canM a b = true → ∀ u v, canM (a ++ u) (b ++ v) = true := fun a b la lb h u v => by
    have t1 : (a ++ u).take 2 = a.take 2 := by rw [← la, List.take_left, List.take_length]
    have t2 : (b ++ v).take 2 = b.take 2 := by rw [← lb, List.take_left, List.take_length]
    unfold canM lvB at h ⊢
    rw [t1, t2]
    exact h
  unfold marks8 at h
  simp only [List.mem_cons, Prod.mk.injEq, List.not_mem_nil, or_false] at h
  rw [e1, e2, e3] at h
  rcases h with h | h | h | h | h | h | h | h <;> obtain ⟨rfl, rfl⟩ := h <;>
    exact ⟨_, _, rfl, rfl, rfl, rfl, by simp, by simp, go _ _ rfl rfl (by decide +kernel)⟩
def GoodM (p : Addr) (H : Hp) (v : V) : Prop := ∃ q x y, v = .ref q ∧ q ≠ p ∧ H q = some (.lst [x, y]) ∧ (x, y) ∈ marks8
theorem gm_new {p c : Addr} {H : Hp} {o : HO} {xs : List V} (h : ∀ v ∈ xs, GoodM p H v) (hc : H c = none) : ∀ v ∈ xs, GoodM p (upd H c o) v := fun v hv => by
  obtain ⟨q, x, y, e, n, h1, h2⟩ := h v hv
  exact ⟨q, x, y, e, n, by rw [upd_ne (ne_of_none h1 hc)]; exact h1, h2⟩
theorem gm_add {p c : Addr} {H : Hp} {x y : V} {xs : List V} (h : ∀ v ∈ xs, GoodM p H v) (hc : H c = none) (np : c ≠ p) (m : (x, y) ∈ marks8) : ∀ v ∈ xs ++ [.ref c], GoodM p (upd H c (.lst [x, y])) v := fun v hv => by
  rcases List.mem_append.mp hv with q | q
  · exact gm_new h hc v q
  · rw [List.mem_singleton.mp q]
    exact ⟨c, x, y, rfl, np, upd_same, m⟩
def turnD : List (Key × V) := [(.inr "0", .str "1"), (.inr "1", .str "0")]
theorem merge_turn : mergeK [] [(.inr "0", .str "1"), (.inr "1", .str "0")] = turnD := by
  unfold mergeK turnD
  rfl
theorem get_turn {H : Hp} {p : Addr} {c : Nat} (h : c = 48 ∨ c = 49) (e : H p = some (.dK turnD)) : DGet H p (.str (S [c])) (some (.str (S [97 - c]))) := by
  rcases h with rfl | rfl
  · exact DGet.k (k := .inr (S [48])) e
  · exact DGet.k (k := .inr (S [49])) e
section
variable {P : Program} {wo : World} {K : PySem.W.Frag} {mg : Str → Option Value} {base : Heap} {z : Pz} {w : Lz}
theorem ok_Lblocks (T : TxL K mg z w) : FnOk P wo K mg base CX0 3 w.a_Lblocks w.d_Lblocks ["_law_pen_here", "_law_many"] spBlks := by
  refine T.F_Lblocks.ok sc_Lblocks (fun vs H Q E h => ?_) (fun cdv A outer s H vs Q E hr h => ?_)
  · obtain ⟨p, l, n, m, rfl, _⟩ := h
    rfl
  · obtain ⟨p, l, n, m, rfl, hm, hn, hP, ret⟩ := h
    have hr2 : Room 2 _ := hr
    have G_Lpick : FnOk P wo K mg base CX0 2 w.a_Lpick w.d_Lpick ["_law_pen_here", "_law_some"] (spPick K) := ok_Lpick T
    have G_Lcontent : FnOk P wo K mg base CX0 2 w.a_Lcontent w.d_Lcontent ["_law_pen_here", "_law_many"] spContent := ok_Lcontent T
    refine ⟨_, (pss_cons (ps_set (i := 2) sc_Lblocks.nd rfl (Or.inl rfl) (pe_lst (pa_cons (pe_lst (pa_cons pe_str (pa_cons pe_str pa_nil))) (pa_cons (pe_lst (pa_cons pe_str (pa_cons pe_str pa_nil))) (pa_cons (pe_lst (pa_cons pe_str (pa_cons pe_str pa_nil))) (pa_cons (pe_lst (pa_cons pe_str (pa_cons pe_str pa_nil))) pa_nil))))))
      (pss_cons (ps_set (i := 2) sc_Lblocks.nd rfl (Or.inl rfl) (pe_op op_cat (pv 2) (pe_lst (pa_cons (pe_lst (pa_cons pe_str (pa_cons pe_str pa_nil))) (pa_cons (pe_lst (pa_cons pe_str (pa_cons pe_str pa_nil))) (pa_cons (pe_lst (pa_cons pe_str (pa_cons pe_str pa_nil))) (pa_cons (pe_lst (pa_cons pe_str (pa_cons pe_str pa_nil))) pa_nil)))))))
      (pss_cons (ps_set (i := 3) sc_Lblocks.nd rfl (Or.inr rfl) (pe_call G_Lpick hr2 rfl T.g_Lpick T.k_Lpick T.b_Lpick .nil pass0 (pa_cons (pv 0) (pa_cons (pv 2) pa_nil))))
      (pss_one (ps_ret (by refine' pe_lc (own := [("_law_k", 4)]) (tt := tYes) rfl sc_Lblocks.nd ?hi (blkOk_by (N := ["_law_pen_here", "_law_many", "_law_some", "_law_marks", "_law_k"]) (sc := defScope s_Lblocks) (by first | decide +kernel | kernel_rfl | rfl)) ?hg ?ht ?he (by intro _; rfl); (case hi => exact (pi_range1 rfl T.n_range (pa_cons pe_int pa_nil))); (case hg => exact fun _ _ _ _ _ => (pg_name (i := 4) sc_Lblocks.nd rfl (Or.inl rfl))); (case ht => exact fun _ _ _ _ _ => pts_nil); (case he => exact fun _ _ _ _ _ => (pe_op op_add_str (pe_ix (ix_listK (K := K) rfl) (pv 3) (pv 4) (fun _ _ => rfl)) (pe_call G_Lcontent hr2 rfl T.g_Lcontent T.k_Lcontent T.b_Lcontent .nil pass0 (pa_cons (pv 0) (pa_cons (pv 1) pa_nil))))))))))), ?_⟩
    refine ⟨by show 2 ≤ sizeLine; decide, fun q1 h1 => ?_⟩
    have g1 := gm_add (p := p) (xs := []) (x := .str "10") (y := .str "10") (fun v hv => by cases hv) h1 (Ne.symm (hP.nep h1)) (by simp [marks8])
    have P1 := hP.new (o := .lst [.str "10", .str "10"]) h1
    refine ⟨by show 2 ≤ sizeLine; decide, fun q2 h2 => ?_⟩
    have g2 := gm_add (x := .str "10") (y := .str "01") g1 h2 (Ne.symm (P1.nep h2)) (by simp [marks8])
    have P2 := P1.new (o := .lst [.str "10", .str "01"]) h2
    refine ⟨by show 2 ≤ sizeLine; decide, fun q3 h3 => ?_⟩
    have g3 := gm_add (x := .str "01") (y := .str "10") g2 h3 (Ne.symm (P2.nep h3)) (by simp [marks8])
    have P3 := P2.new (o := .lst [.str "01", .str "10"]) h3
    refine ⟨by show 2 ≤ sizeLine; decide, fun q4 h4 => ?_⟩
    have g4 := gm_add (x := .str "01") (y := .str "01") g3 h4 (Ne.symm (P3.nep h4)) (by simp [marks8])
    have P4 := P3.new (o := .lst [.str "01", .str "01"]) h4
    refine ⟨by show 4 ≤ sizeLine; decide, fun q5 h5 => ?_⟩
    have g5 := gm_new (o := .lst [.ref q1, .ref q2, .ref q3, .ref q4]) g4 h5
    have P5 := P4.new (o := .lst [.ref q1, .ref q2, .ref q3, .ref q4]) h5
    refine ⟨_, rfl, ?_⟩
    refine ⟨by show 2 ≤ sizeLine; decide, fun q6 h6 => ?_⟩
    have g6 := gm_add (x := .str "10") (y := .str "11") g5 h6 (Ne.symm (P5.nep h6)) (by simp [marks8])
    have P6 := P5.new (o := .lst [.str "10", .str "11"]) h6
    refine ⟨by show 2 ≤ sizeLine; decide, fun q7 h7 => ?_⟩
    have g7 := gm_add (x := .str "01") (y := .str "11") g6 h7 (Ne.symm (P6.nep h7)) (by simp [marks8])
    have P7 := P6.new (o := .lst [.str "01", .str "11"]) h7
    refine ⟨by show 2 ≤ sizeLine; decide, fun q8 h8 => ?_⟩
    have g8 := gm_add (x := .str "11") (y := .str "10") g7 h8 (Ne.symm (P7.nep h8)) (by simp [marks8])
    have P8 := P7.new (o := .lst [.str "11", .str "10"]) h8
    refine ⟨by show 2 ≤ sizeLine; decide, fun q9 h9 => ?_⟩
    have g9 := gm_add (x := .str "11") (y := .str "01") g8 h9 (Ne.symm (P8.nep h9)) (by simp [marks8])
    have P9 := P8.new (o := .lst [.str "11", .str "01"]) h9
    refine ⟨by show 4 ≤ sizeLine; decide, fun qa ha => ?_⟩
    have ga := gm_new (o := .lst [.ref q6, .ref q7, .ref q8, .ref q9]) g9 ha
    have Pa := P9.new (o := .lst [.ref q6, .ref q7, .ref q8, .ref q9]) ha
    have b5 := (((((But.refl : But p H H).new (o := .lst [.str "10", .str "10"]) h1).new (o := .lst [.str "10", .str "01"]) h2).new (o := .lst [.str "01", .str "10"]) h3).new (o := .lst [.str "01", .str "01"]) h4).new (o := .lst [.ref q1, .ref q2, .ref q3, .ref q4]) h5
    have ba := ((((b5.new (o := .lst [.str "10", .str "11"]) h6).new (o := .lst [.str "01", .str "11"]) h7).new (o := .lst [.str "11", .str "10"]) h8).new (o := .lst [.str "11", .str "01"]) h9).new (o := .lst [.ref q6, .ref q7, .ref q8, .ref q9]) ha
    have m5 := (((((smN (o := .lst [.str "10", .str "11"]) (Same.refl _) h6).trans (smN (o := .lst [.str "01", .str "11"]) (Same.refl _) h7)).trans (smN (o := .lst [.str "11", .str "10"]) (Same.refl _) h8)).trans (smN (o := .lst [.str "11", .str "01"]) (Same.refl _) h9)).trans (smN (o := .lst [.ref q6, .ref q7, .ref q8, .ref q9]) (Same.refl _) ha)) _ _ (upd_same (H := _) (a := q5))
    refine ⟨q5, qa, _, _, rfl, rfl, m5, upd_same, by show 4 + 4 ≤ sizeLine; decide, fun qb hb => ?_⟩
    have gb := gm_new (o := .lst ([.ref q1, .ref q2, .ref q3, .ref q4] ++ [.ref q6, .ref q7, .ref q8, .ref q9])) ga hb
    have Pb := Pa.new (o := .lst ([.ref q1, .ref q2, .ref q3, .ref q4] ++ [.ref q6, .ref q7, .ref q8, .ref q9])) hb
    have bb := ba.new (o := .lst ([.ref q1, .ref q2, .ref q3, .ref q4] ++ [.ref q6, .ref q7, .ref q8, .ref q9])) hb
    have nb := Ne.symm (Pa.nep hb)
    refine ⟨_, rfl, _, rfl, p, l, qb, n, _, rfl, upd_same, nb, by show 1 ≤ 8; decide, by show 8 ≤ 1000; decide, by omega, Pb, fun j v H1 ev B1 P1 => ?_⟩
    obtain ⟨q, x, y, rfl, nq, hq, mem⟩ := gb v (List.mem_of_getElem? (by simpa using ev))
    have hq1 := B1 _ _ nq hq
    obtain ⟨a, b, rfl, rfl, la, lb, bta, btb, can⟩ := marks8_ok mem
    have B01 := bb.trans B1
    clear gb g1 g2 g3 g4 g5 g6 g7 g8 g9 ga
    refine ⟨2, rfl, by decide, by decide, fun D hD => ?_⟩
    have nDp := P1.nep hD
    have nDl := P1.nel hD
    have nDq := ne_of_none hq1 hD
    refine lc_range (n := 2) (fun k H' => ∃ bs : List (List Nat), bs.length = k ∧ (∀ i t, bs[i]? = some t → ∃ u, t = (if i = 0 then a else b) ++ u ∧ u.length = m ∧ ∀ c ∈ u, c = 48 ∨ c = 49) ∧ But p H1 H' ∧ PenN H' p l (n + 1 + 61 * k) ∧ H' q = some (.lst [.str (S a), .str (S b)]) ∧ H' D = some (.lst (txV bs)))
      ⟨[], rfl, (fun i t e => by simp at e), But.refl.new hD, P1.put nDp nDl, by rw [upd_ne nDq]; exact hq1, upd_same⟩ (fun k H4 hk h3 => ?_) (fun H4 h3 => ?_)
    · obtain ⟨bs, b1, b2, B5, P5, hq5, hb3⟩ := h3
      refine ⟨rfl, yes1 ?_⟩
      refine ⟨_, rfl, _, rfl, q, _, ((0 : Int) + (k : Nat)), .str (S (if k = 0 then a else b)), rfl, rfl, SqL.of hq5, ?_, ?_⟩
      · have : k = 0 ∨ k = 1 := by omega
        rcases this with rfl | rfl <;> rfl
      refine ⟨_, rfl, _, rfl, p, l, n + 1 + 61 * k, m, rfl, hm, by omega, P5, fun u H7 lu hu B7 P7 => ?_⟩
      have lh : (if k = 0 then a else b).length = 2 := by split; exact la; exact lb
      refine ⟨S (if k = 0 then a else b), S u, rfl, rfl, by rw [S_ln, S_ln, lh, lu]; exact Nat.le_trans (show 2 + m ≤ 1000 by omega) (by decide), ?_⟩
      refine ⟨_, B7 _ _ (Ne.symm nDp) hb3, by rw [txV_len, b1]; exact small1 _ (by omega), bs ++ [(if k = 0 then a else b) ++ u], by rw [List.length_append, b1] <;> rfl, fun i t e => ?_, (B5.trans B7).put hD, (P7.mono (by omega)).put nDp nDl, ?_, ?_⟩
      · by_cases hi : i < bs.length
        · rw [List.getElem?_append_left hi] at e
          exact b2 i t e
        · rw [List.getElem?_append_right (by omega)] at e
          have : i = k := by
            have := (List.getElem?_eq_some_iff.mp e).1
            simp at this
            omega
          subst this
          rw [b1, Nat.sub_self] at e
          cases e
          exact ⟨u, rfl, lu, hu⟩
      · rw [upd_ne nDq]
        exact B7 _ _ nq hq5
      · rw [upd_same, SX.S_cat]
        simp [txV]
    · obtain ⟨bs, b1, b2, B5, P5, hq5, hb3⟩ := h3
      obtain ⟨Ab, Bb, rfl⟩ := two_len b1
      obtain ⟨u, eu, lu, bu⟩ := b2 0 Ab rfl
      obtain ⟨v, ev2, lv, bv⟩ := b2 1 Bb rfl
      rw [if_pos rfl] at eu
      rw [if_neg (by decide)] at ev2
      subst eu ev2
      refine ret D _ _ _ (B01.trans B5) (P5.mono (by omega)) (Ne.symm nDp) hb3 ⟨by rw [List.length_append, la, lu], by rw [List.length_append, lb, lv], fun c hc => ?_, fun c hc => ?_, can u v⟩
      · rcases List.mem_append.mp hc with q | q
        · exact bta c q
        · exact bu c q
      · rcases List.mem_append.mp hc with q | q
        · exact btb c q
        · exact bv c q
theorem ok_Lwith (T : TxL K mg z w) : FnOk P wo K mg base CX0 1 w.a_Lwith w.d_Lwith ["_law_blocks_here", "_law_at", "_law_text"] spWith := by
  refine T.F_Lwith.ok sc_Lwith (fun vs H Q E h => ?_) (fun cdv A outer s H vs Q E hr h => ?_)
  · obtain ⟨q, A, B, t, o, rfl, _⟩ := h
    rfl
  · obtain ⟨q, Ab, B, t, o, rfl, hq, ho, ret⟩ := h
    refine ⟨_, (pss_one (ps_ret (by refine' pe_lc (own := [("_law_k", 3)]) (tt := tYes) rfl sc_Lwith.nd ?hi (blkOk_by (N := ["_law_blocks_here", "_law_at", "_law_text", "_law_k"]) (sc := defScope s_Lwith) (by first | decide +kernel | kernel_rfl | rfl)) ?hg ?ht ?he (by intro _; rfl); (case hi => exact (pi_range1 rfl T.n_range (pa_cons pe_int pa_nil))); (case hg => exact fun _ _ _ _ _ => (pg_name (i := 3) sc_Lwith.nd rfl (Or.inl rfl))); (case ht => exact fun _ _ _ _ _ => pts_nil); (case he => exact fun _ _ _ _ _ => (pe_ifExp (pt_cmpR op_eq (pv 3) (pv 1) (nomark _)) (pv 2) (pe_ix (ix_listK (K := K) rfl) (pv 0) (pv 3) (fun _ _ => rfl))))))), ?_⟩
    refine ⟨2, rfl, by decide, by decide, fun D hD => ?_⟩
    refine lc_outR (n := 2) (outM fun i => V.str (S (if i = o then t else ([Ab, B] : List (List Nat)).getD i []))) hD outM_0 (fun i hi => by rw [outM_l]; exact small1 i (by omega)) (fun i H4 Kc K0 lt s4 kc k0 => ?_) (fun H4 s4 e4 => ?_)
    · refine ⟨rfl, yes1 ?_⟩
      refine ⟨_, rfl, _, rfl, rfl, _, rfl, ?_⟩
      by_cases c : i = o
      · refine iteB1 (by rw [c, Int.zero_add] <;> exact decide_eq_true rfl) ?_
        exact ⟨_, rfl, kc _ _ (Same.refl _) (by rw [outM_s, if_pos c])⟩
      · refine iteB0 (decide_eq_false fun e => c (by have := V.int.inj e; omega)) ?_
        refine ⟨_, rfl, _, rfl, q, _, ((0 : Int) + (i : Nat)), .str (S (([Ab, B] : List (List Nat)).getD i [])), rfl, rfl, SqL.of (s4 _ _ hq), ?_, kc _ _ (Same.refl _) (by rw [outM_s, if_neg c])⟩
        have : i = 0 ∨ i = 1 := by omega
        rcases this with rfl | rfl <;> rfl
    · refine ret D H4 s4 hD ?_
      rw [e4]
      have : o = 0 ∨ o = 1 := by omega
      rcases this with rfl | rfl <;> rfl
theorem ok_Lfresh (T : TxL K mg z w) : FnOk P wo K mg base CX0 3 w.a_Lfresh w.d_Lfresh ["_law_pen_here", "_law_blocks_here"] spFresh := by
  refine T.F_Lfresh.ok sc_Lfresh (fun vs H Q E h => ?_) (fun cdv A outer s H vs Q E hr h => ?_)
  · obtain ⟨p, l, q, n, m, A, B, rfl, _⟩ := h
    rfl
  · obtain ⟨p, l, q, n, m, Ab, B, rfl, nqp, hq, ok, h1, hm, hn, hP, ret⟩ := h
    have hr2 : Room 2 _ := hr
    have hr1 : Room 1 _ := hr.mono (by decide)
    have hu := hu_of hr
    have G_Ldraw : FnOk P wo K mg base CX0 1 w.a_Ldraw w.d_Ldraw ["_law_pen_here", "_law_many"] spDraw := ok_Ldraw T
    have G_Llive : FnOk P wo K mg base CX0 1 w.a_Llive w.d_Llive ["_law_blocks_here"] spLvL := ok_Llive T
    have G_Lpick : FnOk P wo K mg base CX0 2 w.a_Lpick w.d_Lpick ["_law_pen_here", "_law_some"] (spPick K) := ok_Lpick T
    have G_Lcontent : FnOk P wo K mg base CX0 2 w.a_Lcontent w.d_Lcontent ["_law_pen_here", "_law_many"] spContent := ok_Lcontent T
    obtain ⟨k, ek, k01, _, _⟩ := canM_k ok.can
    have la := ok.la
    have lb := ok.lb
    have zz : ∀ k : Nat, k ≤ 1000 → k ≤ sizeLine := fun k h => Nat.le_trans h (by decide)
    refine ⟨_, (pss_cons (ps_set (i := 2) sc_Lfresh.nd rfl (Or.inl rfl) (pe_call G_Llive hr1 rfl T.g_Llive T.k_Llive T.b_Llive .nil pass0 (pa_cons (pv 1) pa_nil)))
      (pss_cons (ps_set (i := 3) sc_Lfresh.nd rfl (Or.inl rfl) (pe_slice sl_str (pe_ix ix_list (pv 1) (pe_op op_sub pe_int (pv 2)) (fun _ _ => rfl)) (po_some pe_int) po_none))
      (pss_cons (ps_set (i := 4) sc_Lfresh.nd rfl (Or.inl rfl) (pe_callB call_len_str (by rfl) T.n_len (by decide +kernel) (pa_cons (pv 3) pa_nil)))
      (pss_cons (ps_set (i := 5) sc_Lfresh.nd rfl (Or.inl rfl) (pe_call G_Ldraw hr1 rfl T.g_Ldraw T.k_Ldraw T.b_Ldraw .nil pass0 (pa_cons (pv 0) (pa_cons (pv 4) pa_nil))))
      (pss_cons (ps_set (i := 6) sc_Lfresh.nd rfl (Or.inl rfl) (pe_op op_add_str (pe_op op_add_str (pe_slice sl_str (pv 3) po_none (po_some (pv 5))) (pe_dget hu (pe_disp (pps_cons pe_str pe_str (pps_cons pe_str pe_str pps_nil)) rfl rfl (by decide) (by decide)) (pe_ix ix_str (pv 3) (pv 5) (fun _ _ => rfl)) (fun _ _ => rfl))) (pe_slice sl_str (pv 3) (po_some (pe_op op_add (pv 5) pe_int)) po_none)))
      (pss_one (ps_ret (pe_call G_Lpick hr2 rfl T.g_Lpick T.k_Lpick T.b_Lpick .nil pass0 (pa_cons (pv 0) (pa_cons (pe_lst (pa_cons (pe_call G_Lcontent hr2 rfl T.g_Lcontent T.k_Lcontent T.b_Lcontent .nil pass0 (pa_cons (pv 0) (pa_cons (pv 4) pa_nil))) (pa_cons (pv 3) (pa_cons (pv 6) (pa_cons (pe_slice sl_str (pe_ix ix_list (pv 1) (pv 2) (fun _ _ => rfl)) (po_some pe_int) po_none) (pa_cons (pe_op op_repS pe_str (pv 4)) (pa_cons (pe_op op_repS pe_str (pv 4)) pa_nil))))))) pa_nil)))))))))), ?_⟩
    refine ⟨_, rfl, q, Ab, B, rfl, hq, by omega, by omega, fun H1 s1 => ?_⟩
    rw [ek]
    have hq1 := s1 _ _ hq
    have lO : (mvO Ab B k).length = 2 + m := by rcases k01 with rfl | rfl; exact lb; exact la
    have bO : ∀ c ∈ mvO Ab B k, c = 48 ∨ c = 49 := by rcases k01 with rfl | rfl; exact ok.bb; exact ok.ba
    refine ⟨_, rfl, _, rfl, _, _, rfl, rfl, q, _, (1 : Int) - (k : Nat), .str (S (mvO Ab B k)), rfl, rfl, SqL.of hq1, by rcases k01 with rfl | rfl <;> rfl, 2, rfl, S (mvO Ab B k), rfl, by rw [S_ln]; exact zz _ (by omega), ?_⟩
    rw [cut_tl]
    have lN : ((mvO Ab B k).drop 2).length = m := by rw [List.length_drop, lO]; omega
    have bN : ∀ c ∈ (mvO Ab B k).drop 2, c = 48 ∨ c = 49 := fun c hc => bO c (List.mem_of_mem_drop hc)
    generalize (mvO Ab B k).drop 2 = N at lN bN
    refine ⟨_, rfl, S N, rfl, by rw [S_ln]; exact zz _ (by omega), ?_⟩
    rw [S_ln, lN]
    refine ⟨_, rfl, _, rfl, p, l, (m : Int), n, rfl, by omega, by omega, by omega, hP.same s1, fun d H2 hd0 hd1 P2 B2 => ?_⟩
    obtain ⟨j, rfl⟩ : ∃ j : Nat, d = (j : Int) := ⟨d.toNat, by omega⟩
    have hj : j < N.length := by omega
    have hq2 := B2 _ _ nqp hq1
    have ec : N[j]? = some N[j] := List.getElem?_eq_getElem hj
    have bc : N[j] = 48 ∨ N[j] = 49 := bN _ (List.getElem_mem hj)
    have lz : (S N).length ≤ sizeLine := by rw [S_ln]; exact zz _ (by omega)
    -- one bit turned
    refine ⟨_, rfl, _, rfl, (j : Int), rfl, S N, rfl, lz, ?_⟩
    rw [cut_to]
    refine fun pd hpd => ⟨upd_same, [(.inr "0", .str "1"), (.inr "1", .str "0")], rfl, by decide, ?_⟩
    rw [merge_turn]
    have sp : Same H2 (upd (upd H2 pd (.dK [])) pd (.dK turnD)) := fun b o e => by rw [upd_ne (ne_of_none e hpd), upd_ne (ne_of_none e hpd)]; exact e
    have Pp := P2.same sp
    have hq3 := sp _ _ hq2
    refine ⟨_, rfl, _, rfl, S N, (j : Int), N[j], rfl, rfl, lz, atI_nat ec, ?_⟩
    refine ⟨pd, _, rfl, get_turn bc upd_same, ?_⟩
    generalize N[j] = c at bc
    have lt : (N.take j).length = j := by rw [List.length_take]; omega
    refine ⟨_, _, rfl, rfl, by rw [S_ln, S_ln, lt]; exact zz _ (by show j + 1 ≤ 1000; omega), ?_⟩
    rw [SX.S_cat]
    refine ⟨_, rfl, _, rfl, _, _, rfl, rfl, ((j + 1 : Nat) : Int), rfl, S N, rfl, lz, ?_⟩
    rw [cut_from]
    refine ⟨_, _, rfl, rfl, by rw [S_ln, S_ln, List.length_append, lt, List.length_drop]; exact zz _ (by show j + 1 + (N.length - (j + 1)) ≤ 1000; omega), ?_⟩
    rw [SX.S_cat]
    have lTu : (N.take j ++ [97 - c] ++ N.drop (j + 1)).length = m := by rw [List.length_append, List.length_append, lt, List.length_drop]; show j + 1 + _ = m; omega
    have bTu : ∀ x ∈ N.take j ++ [97 - c] ++ N.drop (j + 1), x = 48 ∨ x = 49 := fun x hx => by
      rcases List.mem_append.mp hx with h | h
      · rcases List.mem_append.mp h with h | h
        · exact bN x (List.mem_of_mem_take h)
        · rw [List.mem_singleton.mp h]; omega
      · exact bN x (List.mem_of_mem_drop h)
    generalize N.take j ++ [97 - c] ++ N.drop (j + 1) = Tu at lTu bTu
    refine ⟨_, rfl, _, rfl, _, rfl, p, l, n + 1, m, rfl, hm, by omega, Pp, fun b H4 lb4 bb4 B4 P4 => ?_⟩
    have hq4 := B4 _ _ nqp hq3
    have lX : (if k = 0 then Ab else B).length = 2 + m := by split; exact la; exact lb
    have bX : ∀ c ∈ (if k = 0 then Ab else B), c = 48 ∨ c = 49 := by split; exact ok.ba; exact ok.bb
    refine ⟨_, rfl, _, rfl, _, rfl, _, rfl, q, _, (k : Int), .str (S (if k = 0 then Ab else B)), rfl, rfl, SqL.of hq4, by rcases k01 with rfl | rfl <;> rfl, 2, rfl, S (if k = 0 then Ab else B), rfl, by rw [S_ln]; exact zz _ (by omega), ?_⟩
    rw [cut_tl]
    refine ⟨_, rfl, 48, m, rfl, rfl, by omega, _, rfl, 49, m, rfl, rfl, by omega, by show 6 ≤ sizeLine; decide, fun cc hc => ?_⟩
    have Pc := P4.new (o := .lst [.str (S b), .str (S N), .str (S Tu), .str (S ((if k = 0 then Ab else B).drop 2)), .str (S (List.replicate m 48)), .str (S (List.replicate m 49))]) hc
    have b14 := (((But.of s1 : But p H H1).trans B2).trans (But.of sp)).trans B4
    refine ⟨p, l, cc, n + 1 + 61, _, rfl, upd_same, Ne.symm (P4.nep hc), by show 1 ≤ 6; decide, by show 6 ≤ 1000; decide, by omega, Pc, fun i v H5 ev B5 P5 => ?_⟩
    have all : ∀ v ∈ ([.str (S b), .str (S N), .str (S Tu), .str (S ((if k = 0 then Ab else B).drop 2)), .str (S (List.replicate m 48)), .str (S (List.replicate m 49))] : List V), ∃ f : List Nat, v = .str (S f) ∧ f.length = m ∧ ∀ c ∈ f, c = 48 ∨ c = 49 := fun v hv => by
      simp only [List.mem_cons, List.not_mem_nil, or_false] at hv
      rcases hv with rfl | rfl | rfl | rfl | rfl | rfl
      · exact ⟨b, rfl, lb4, bb4⟩
      · exact ⟨N, rfl, lN, bN⟩
      · exact ⟨Tu, rfl, lTu, bTu⟩
      · exact ⟨_, rfl, by rw [List.length_drop, lX]; omega, fun c hc => bX c (List.mem_of_mem_drop hc)⟩
      · exact ⟨_, rfl, List.length_replicate, fun c hc => .inl (List.eq_of_mem_replicate hc)⟩
      · exact ⟨_, rfl, List.length_replicate, fun c hc => .inr (List.eq_of_mem_replicate hc)⟩
    obtain ⟨f, rfl, lf, bf⟩ := all v (List.mem_of_getElem? ev)
    exact ret f H5 lf bf ((b14.new hc).trans B5) (P5.mono (by omega))
end
end Fb
set_option maxRecDepth 100000
set_option maxHeartbeats 4000000
namespace Fb
open PySem PySem.Spec PyProof.Rows L2
open SX (S)
/-! the law's own move -/
def Row (H : Hp) (v : V) (d : PyData) : Prop := ∃ t wv b, v = .ref t ∧ H t = some (.tup [wv, .ref b]) ∧ Wr H wv d
theorem Row.keep {H H' : Hp} {v : V} {d : PyData} (h : Row H v d) (k : ∀ c xs, H c = some (.tup xs) → H' c = some (.tup xs)) : Row H' v d := by
  obtain ⟨t, wv, b, e, h1, h2⟩ := h
  exact ⟨t, wv, b, e, k _ _ h1, h2.keep k⟩
theorem rows_keep {H H' : Hp} (k : ∀ c xs, H c = some (.tup xs) → H' c = some (.tup xs)) : ∀ {vs : List V} {ds : List PyData}, Paired (Row H) vs ds → Paired (Row H') vs ds
  | [], [], .nil => .nil
  | _ :: _, _ :: _, .cons h t => .cons (h.keep k) (rows_keep k t)
theorem rows_snoc {H : Hp} {v : V} {d : PyData} (h : Row H v d) : ∀ {vs : List V} {ds : List PyData}, Paired (Row H) vs ds → Paired (Row H) (vs ++ [v]) (ds ++ [d])
  | [], [], .nil => .cons h .nil
  | _ :: _, _ :: _, .cons x t => .cons x (rows_snoc h t)
def lastB (A B f : List Nat) : List (List Nat) := if mvK A B = 0 then [A, mkb (A.take 2) (B.take 2) 0 ++ f] else [mkb (A.take 2) (B.take 2) 1 ++ f, B]
def spLMove : Sp := fun vs H Q _ => ∃ (q : Addr) (m : Nat) (A B f : List Nat), vs = [.ref q, .str (S f)] ∧ H q = some (.lst (txV [A, B])) ∧ BlkOk m A B ∧ 1 ≤ m ∧ m ≤ 60 ∧ f.length = m ∧ (∀ c ∈ f, c = 48 ∨ c = 49) ∧
  ∀ D ws t wv b H', Same H H' → H D = none → H' D = some (.lst (ws ++ [.ref t])) → H' t = some (.tup [wv, .ref b]) → H' b = some (.lst (txV (lastB A B f))) → Paired (Row H') (ws ++ [.ref t]) (mvD A B f) → Q (.ref D) H'
theorem need_lack {O f : List Nat} (lf : (O.drop 2).length = f.length) (bO : ∀ c ∈ O, c = 48 ∨ c = 49) (bf : ∀ c ∈ f, c = 48 ∨ c = 49) :
    mvNeed O f = (decide (O.take 2 ≠ [49, 49]) || !decide ((List.range f.length).filter (fun i => decide (f.getD i 0 = 49) && decide ((O.drop 2).getD i 0 = 48)) = [])) := by
  unfold mvNeed
  congr 1
  congr 1
  have bD : ∀ c ∈ O.drop 2, c = 48 ∨ c = 49 := fun c hc => bO c (List.mem_of_mem_drop hc)
  generalize O.drop 2 = U at lf bD
  rw [Bool.eq_iff_iff, List.all_eq_true, decide_eq_true_eq, List.filter_eq_nil_iff]
  constructor
  · intro h i hi
    have hi := List.mem_range.mp hi
    have h1 := List.getElem?_eq_getElem (show i < U.length by omega)
    have h2 := List.getElem?_eq_getElem hi
    have := h (decide (U[i] = 49) || decide (f[i] = 48)) (List.mem_iff_getElem?.mpr ⟨i, by rw [List.getElem?_zipWith, h1, h2]⟩)
    rw [List.getD_eq_getElem?_getD, List.getD_eq_getElem?_getD, h1, h2]
    simp at this ⊢
    omega
  · intro h b hb
    obtain ⟨i, hi⟩ := List.mem_iff_getElem?.mp hb
    rw [List.getElem?_zipWith] at hi
    have li : i < f.length := by
      by_cases q : i < f.length
      · exact q
      · rw [List.getElem?_eq_none (l := f) (by omega)] at hi
        cases hu : U[i]? <;> rw [hu] at hi <;> cases hi
    have h1 := List.getElem?_eq_getElem (show i < U.length by omega)
    have h2 := List.getElem?_eq_getElem li
    rw [h1, h2] at hi
    cases hi
    have := h i (List.mem_range.mpr li)
    rw [List.getD_eq_getElem?_getD, List.getD_eq_getElem?_getD, h1, h2] at this
    have b1 := bD _ (List.getElem_mem (show i < U.length by omega))
    have b2 := bf _ (List.getElem_mem li)
    simp at this ⊢
    rcases b1 with b1 | b1 <;> rcases b2 with b2 | b2 <;> simp_all
theorem fal_law {Kp f : List Nat} (lf : Kp.length = f.length) (first : Nat) :
    mvFal Kp f first = ((List.range f.length).filter (fun i => decide (f.getD i 0 = 48) && decide (Kp.getD i 0 = 49))).map fun b => first + 2 + b := by
  unfold mvFal stb
  rw [List.filter_filter, lf]
def swapD : List (Key × V) := [(.inr "10", .str "01"), (.inr "01", .str "10")]
theorem merge_swap : mergeK [] [(.inr "10", .str "01"), (.inr "01", .str "10")] = swapD := by
  unfold mergeK swapD
  rfl
theorem get_swap {H : Hp} {p : Addr} {a b : List Nat} (h : mk2 a = true) (e : H p = some (.dK swapD)) : DGet H p (.str (S a)) (some (.str (S (mkb a b 0)))) := by
  rcases mk2_two h with rfl | rfl
  · exact DGet.k (k := .inr (S [49, 48])) e
  · exact DGet.k (k := .inr (S [48, 49])) e
def nowL (O f : List Nat) (m : Nat) : List Nat := if mvNeed O f = true then List.replicate (m + 2) 49 else O
theorem now_kept {O f : List Nat} {m : Nat} (lf : f.length = m) : (nowL O f m).drop 2 = mvKept O f := by
  unfold nowL mvKept
  split
  · rw [List.drop_replicate, lf] <;> rfl
  · rfl
section
variable {P : Program} {wo : World} {K : PySem.W.Frag} {mg : Str → Option Value} {base : Heap} {z : Pz} {w : Lz}
theorem ok_Lmove (T : TxL K mg z w) : FnOk P wo K mg base CX0 2 w.a_Lmove w.d_Lmove ["_law_blocks_here", "_law_fresh_here"] spLMove := by
  refine T.F_Lmove.ok sc_Lmove (fun vs H Q E h => ?_) (fun cdv A outer s H vs Q E hr h => ?_)
  · obtain ⟨q, m, A, B, f, rfl, _⟩ := h
    rfl
  · obtain ⟨q, m, Ab, B, f, rfl, hq, ok, h1, hm, lf, bf, ret⟩ := h
    have hr1 : Room 1 _ := hr
    have hu := hu_of hr
    have hu64 : (A.deeper (envOfC "_law_move" (defScope s_Lmove) s.heap.objs.size w.a_Lmove cdv)).units + 64 < cLine := hr.units
    have G_Llive : FnOk P wo K mg base CX0 1 w.a_Llive w.d_Llive ["_law_blocks_here"] spLvL := ok_Llive T
    have G_Lwith : FnOk P wo K mg base CX0 1 w.a_Lwith w.d_Lwith ["_law_blocks_here", "_law_at", "_law_text"] spWith := ok_Lwith T
    obtain ⟨k, ek, k01, mkk, kk⟩ := canM_k ok.can
    have la := ok.la
    have lb := ok.lb
    have zz : ∀ k : Nat, k ≤ 1000 → k ≤ sizeLine := fun k h => Nat.le_trans h (by decide)
    have lz : (S f).length ≤ sizeLine := by rw [S_ln]; exact zz _ (by omega)
    have lO : (mvO Ab B k).length = 2 + m := by rcases k01 with rfl | rfl; exact lb; exact la
    have bO : ∀ c ∈ mvO Ab B k, c = 48 ∨ c = 49 := by rcases k01 with rfl | rfl; exact ok.bb; exact ok.ba
    obtain ⟨o, eo⟩ : ∃ o, o = 1 - k := ⟨_, rfl⟩
    have o01 : (k = 0 ∧ o = 1) ∨ (k = 1 ∧ o = 0) := by omega
    have eat : ∀ H' : Hp, atI (txV [Ab, B]) (o : Int) = some (.str (S (mvO Ab B k))) := fun _ => by rcases o01 with ⟨rfl, rfl⟩ | ⟨rfl, rfl⟩ <;> rfl
    have fst : mvFirst k (m + 2) = o * (m + 2) := by rcases o01 with ⟨rfl, rfl⟩ | ⟨rfl, rfl⟩ <;> simp [mvFirst]
    unfold lastB mvD at ret
    rw [kk, la, show 2 + m = m + 2 from Nat.add_comm _ _, fst, ← eo] at ret
    refine ⟨_, (pss_cons (ps_set (i := 2) sc_Lmove.nd rfl (Or.inl rfl) (pe_call G_Llive hr1 rfl T.g_Llive T.k_Llive T.b_Llive .nil pass0 (pa_cons (pv 0) pa_nil)))
      (C8.pss_cut (ps_set (i := 3) sc_Lmove.nd rfl (Or.inr rfl) (pe_op op_sub pe_int (pv 2)))
      (pss_cons (ps_set (i := 4) sc_Lmove.nd rfl (Or.inr rfl) (pe_op op_add (pe_callB call_len_str (by rfl) T.n_len (by decide +kernel) (pa_cons (pv 1) pa_nil)) pe_int))
      (pss_cons (ps_set (i := 5) sc_Lmove.nd rfl (Or.inr rfl) (pe_ix ix_list (pv 0) (pv 3) (fun _ _ => rfl)))
      (pss_cons (ps_set (i := 6) sc_Lmove.nd rfl (Or.inl rfl) (pe_lst pa_nil))
      (pss_cons (by refine' ps_setLc (own := [("_law_k", 10)]) (i := 7) rfl sc_Lmove.nd rfl rfl (sw_true rfl rfl rfl (by decide +kernel)) ?hi (blkOk_by (N := ["_law_blocks_here", "_law_fresh_here", "_law_at", "_law_other", "_law_size", "_law_now", "_law_found", "_law_lacking", "_law_falls", "_law_mark", "_law_k"]) (sc := defScope s_Lmove) (by first | decide +kernel | kernel_rfl | rfl)) ?hg ?ht ?he (by intro _; rfl); (case hi => exact (pi_range1 rfl T.n_range (pa_cons (pe_callB call_len_str (by rfl) T.n_len (by decide +kernel) (pa_cons (pv 1) pa_nil)) pa_nil))); (case hg => exact fun _ _ _ _ _ => (pg_name (i := 10) sc_Lmove.nd rfl (Or.inl rfl))); (case ht => exact fun _ _ _ _ _ => (pts_one (PW.pt (pw_and (pt_cmpR op_eq (pe_ix ix_str (pv 1) (pv 10) (fun _ _ => rfl)) pe_str (nomark _)) (pw_and1 (pt_cmpR op_eq (pe_ix ix_str (pv 5) (pe_op op_add (pv 10) pe_int) (fun _ _ => rfl)) pe_str (nomark _))))))); (case he => exact fun _ _ _ _ _ => (pv 10)))
      (C8.pss_cut (ps_if (PW.pt (pw_or (pt_cmpR op_ne (pe_slice sl_str (pv 5) po_none (po_some pe_int)) pe_str (nomark _)) (pw_or1 (pt_cmpR (op_neD hu64) (pv 7) (pe_lst pa_nil) (nomark _)))))
        (pss_cons (ps_set (i := 5) sc_Lmove.nd rfl (Or.inr rfl) (pe_op op_repS pe_str (pv 4)))
        (pss_one (ps_expr (pe_bm PySem.F.plainAttrs_list PySem.F.slot_list_append PySem.F.type_list_append mt_append (pv 6) (pa_cons (pe_tup (pa_cons (pe_tup (pa_cons pe_str (pa_cons (pv 3) pa_nil))) (pa_cons (pe_call G_Lwith hr1 rfl T.g_Lwith T.k_Lwith T.b_Lwith .nil pass0 (pa_cons (pv 0) (pa_cons (pv 3) (pa_cons (pv 5) pa_nil)))) pa_nil))) pa_nil)))))
        pss_nil)
      (pss_cons (by refine' ps_setLc (own := [("_law_k", 10)]) (i := 8) rfl sc_Lmove.nd rfl rfl (sw_true rfl rfl rfl (by decide +kernel)) ?hi (blkOk_by (N := ["_law_blocks_here", "_law_fresh_here", "_law_at", "_law_other", "_law_size", "_law_now", "_law_found", "_law_lacking", "_law_falls", "_law_mark", "_law_k"]) (sc := defScope s_Lmove) (by first | decide +kernel | kernel_rfl | rfl)) ?hg ?ht ?he (by intro _; rfl); (case hi => exact (pi_range1 rfl T.n_range (pa_cons (pe_callB call_len_str (by rfl) T.n_len (by decide +kernel) (pa_cons (pv 1) pa_nil)) pa_nil))); (case hg => exact fun _ _ _ _ _ => (pg_name (i := 10) sc_Lmove.nd rfl (Or.inl rfl))); (case ht => exact fun _ _ _ _ _ => (pts_one (PW.pt (pw_and (pt_cmpR op_eq (pe_ix ix_str (pv 1) (pv 10) (fun _ _ => rfl)) pe_str (nomark _)) (pw_and1 (pt_cmpR op_eq (pe_ix ix_str (pv 5) (pe_op op_add (pv 10) pe_int) (fun _ _ => rfl)) pe_str (nomark _))))))); (case he => exact fun _ _ _ _ _ => (pv 10)))
      (C8.pss_cut (ps_if (pt_cmpR (op_neD hu64) (pv 8) (pe_lst pa_nil) (nomark _))
        (pss_one (ps_expr (pe_bm PySem.F.plainAttrs_list PySem.F.slot_list_append PySem.F.type_list_append mt_append (pv 6) (pa_cons (pe_tup (pa_cons (pe_tup (pa_cons pe_str (pa_cons (pe_callTy call_tuple_of (by rfl) T.n_tuple (by decide +kernel) (pa_cons (by refine' pe_lc (own := [("_law_k", 10)]) (tt := tYes) rfl sc_Lmove.nd ?hi (blkOk_by (N := ["_law_blocks_here", "_law_fresh_here", "_law_at", "_law_other", "_law_size", "_law_now", "_law_found", "_law_lacking", "_law_falls", "_law_mark", "_law_k"]) (sc := defScope s_Lmove) (by first | decide +kernel | kernel_rfl | rfl)) ?hg ?ht ?he (by intro _; rfl); (case hi => exact (pi_list (pv 8))); (case hg => exact fun _ _ _ _ _ => (pg_name (i := 10) sc_Lmove.nd rfl (Or.inl rfl))); (case ht => exact fun _ _ _ _ _ => pts_nil); (case he => exact fun _ _ _ _ _ => (pe_op op_add (pe_op op_add (pe_op op_mul (pv 3) (pv 4)) pe_int) (pv 10)))) pa_nil)) pa_nil))) (pa_cons (pe_call G_Lwith hr1 rfl T.g_Lwith T.k_Lwith T.b_Lwith .nil pass0 (pa_cons (pv 0) (pa_cons (pv 3) (pa_cons (pe_op op_add_str pe_str (pv 1)) pa_nil)))) pa_nil))) pa_nil))))
        pss_nil)
      (pss_cons (ps_set (i := 9) sc_Lmove.nd rfl (Or.inl rfl) (pe_slice sl_str (pe_ix ix_list (pv 0) (pv 2) (fun _ _ => rfl)) po_none (po_some pe_int)))
      (C8.pss_cut (ps_if (pt_cmpR op_eq (pv 3) pe_int (nomark _))
        (pss_one (ps_set (i := 9) sc_Lmove.nd rfl (Or.inl rfl) (pe_dget hu (pe_disp (pps_cons pe_str pe_str (pps_cons pe_str pe_str pps_nil)) rfl rfl (by decide) (by decide)) (pv 9) (fun _ _ => rfl))))
        pss_nil)
      (pss_cons (ps_expr (pe_bm PySem.F.plainAttrs_list PySem.F.slot_list_append PySem.F.type_list_append mt_append (pv 6) (pa_cons (pe_tup (pa_cons (pe_tup (pa_cons pe_str (pa_cons (pe_tup (pa_cons (pe_op op_add (pe_op op_mul (pv 3) (pv 4)) (pe_bm PySem.F.plainAttrs_str PySem.F.slot_str_index PySem.F.type_str_index mt_sindex (pv 9) (pa_cons pe_str pa_nil))) pa_nil)) pa_nil))) (pa_cons (pe_call G_Lwith hr1 rfl T.g_Lwith T.k_Lwith T.b_Lwith .nil pass0 (pa_cons (pv 0) (pa_cons (pv 3) (pa_cons (pe_op op_add_str (pv 9) (pv 1)) pa_nil)))) pa_nil))) pa_nil)))
      (pss_one (ps_ret (pv 6))))))))))))))), ?_⟩
    refine ⟨_, rfl, q, Ab, B, rfl, hq, by omega, by omega, fun H1 s1 => ?_⟩
    rw [ek]
    -- the other one
    refine ⟨fun σ H' => H' = H1 ∧ σ = [some (.ref q), some (.str (S f)), some (.int (k : Nat)), some (.int (o : Nat)), none, none, none, none, none, none, none], ⟨_, rfl, _, _, rfl, rfl, rfl, ?_⟩, ?_⟩
    · rcases o01 with ⟨rfl, rfl⟩ | ⟨rfl, rfl⟩ <;> rfl
    rintro σ H1' ⟨rfl, rfl⟩
    refine ⟨_, rfl, S f, rfl, lz, ?_⟩
    rw [S_ln, lf]
    refine ⟨_, _, rfl, rfl, ?_⟩
    refine ⟨_, rfl, _, rfl, q, _, (o : Int), .str (S (mvO Ab B k)), rfl, rfl, SqL.of (s1 _ _ hq), eat H1', ?_⟩
    generalize hO : mvO Ab B k = O at ret lO bO
    have lzO : (S O).length ≤ sizeLine := by rw [S_ln]; exact zz _ (by omega)
    have lD : (O.drop 2).length = f.length := by rw [List.length_drop, lO]; omega
    refine ⟨by show 0 ≤ sizeLine; decide, fun pw hw => ?_⟩
    have hwn : H pw = none := s1.free hw
    have s2 : Same H (upd H1' pw (.lst [])) := same_put s1 hwn
    have hw2 : (upd H1' pw (.lst [])) pw = some (.lst []) := upd_same
    generalize upd H1' pw (.lst []) = H2 at s2 hw2
    -- what is lacking
    refine ⟨_, rfl, S f, rfl, lz, (m : Int), by rw [S_ln, lf], by omega, by omega, fun D hD => ?_⟩
    rw [show ((m : Int)).toNat = m from rfl]
    refine lc_outR (n := m) (outF (fun i => decide (f.getD i 0 = 49) && decide ((O.drop 2).getD i 0 = 48)) fun i => V.int (i : Nat)) hD outF_0 (fun i hi => Nat.lt_of_le_of_lt outF_l (small1 i (by omega))) (fun i H4 Kc K0 lt s4 kc k0 => ?_) (fun H3 s3 e3 => ?_)
    · have h1 : f[i]? = some (f[i]'(by omega)) := List.getElem?_eq_getElem (by omega)
      have h2 : O[i + 2]? = some (O[i + 2]'(by omega)) := List.getElem?_eq_getElem (by omega)
      have d1 : f.getD i 0 = f[i]'(by omega) := by rw [List.getD_eq_getElem?_getD, h1] <;> rfl
      have d2 : (O.drop 2).getD i 0 = O[i + 2]'(by omega) := by rw [List.getD_eq_getElem?_getD, List.getElem?_drop, Nat.add_comm 2 i, h2] <;> rfl
      have st := outF_t (p := fun i => decide (f.getD i 0 = 49) && decide ((O.drop 2).getD i 0 = 48)) (f := fun i => V.int (i : Nat)) (i := i)
      have sf := outF_f (p := fun i => decide (f.getD i 0 = 49) && decide ((O.drop 2).getD i 0 = 48)) (f := fun i => V.int (i : Nat)) (i := i)
      rw [d1, d2] at st sf
      refine ⟨rfl, _, rfl, _, rfl, S f, ((0 : Int) + (i : Nat)), f[i]'(by omega), rfl, rfl, lz, by rw [Int.zero_add]; exact atI_nat h1, rfl, _, rfl, ?_⟩
      generalize f[i]'(by omega) = a at st sf
      rw [show (⟨#[a]⟩ : Str) = S [a] from rfl, S_1]
      refine ite2 (fun q1 => ?_) (fun q1 => ?_)
      · have ea : a = 49 := by simpa using S_eq.mp (of_decide_eq_true q1)
        refine ⟨_, rfl, _, rfl, _, _, rfl, rfl, S O, ((0 : Int) + (i : Nat) + 2), O[i + 2]'(by omega), rfl, rfl, lzO, by rw [Int.zero_add]; exact atI_nat (j := i + 2) h2, rfl, _, rfl, ?_⟩
        generalize O[i + 2]'(by omega) = b at st sf
        rw [show (⟨#[b]⟩ : Str) = S [b] from rfl, S_0]
        refine ite2 (fun q2 => ?_) (fun q2 => ?_)
        · have eb : b = 48 := by simpa using S_eq.mp (of_decide_eq_true q2)
          refine ⟨_, rfl, kc _ _ (Same.refl _) ?_⟩
          rw [Int.zero_add]
          exact st (by rw [ea, eb] <;> rfl)
        · have eb : ¬ b = 48 := fun e => q2 (by rw [e] <;> exact decide_eq_true rfl)
          exact k0 _ (Same.refl _) (sf (by rw [decide_eq_false eb, Bool.and_false]))
      · have ea : ¬ a = 49 := fun e => q1 (by rw [e] <;> exact decide_eq_true rfl)
        exact k0 _ (Same.refl _) (sf (by rw [decide_eq_false ea, Bool.false_and]))
    have e3 : H3 D = some (.lst (nums ((List.range m).filter fun i => decide (f.getD i 0 = 49) && decide ((O.drop 2).getD i 0 = 48)))) := e3
    have nl := need_lack lD bO bf
    rw [lf] at nl
    have s23 := s2.trans s3
    have hw3 := s3 _ _ hw2
    -- an erase
    refine ⟨fun σ H' => ∃ ws, Same H H' ∧ H' pw = some (.lst ws) ∧ ws.length ≤ 1 ∧ Paired (Row H') ws (if mvNeed O f = true then [.tuple [.str "erase", .int (o : Nat)]] else []) ∧ ∃ x7 : Option V,
      σ = [some (.ref q), some (.str (S f)), some (.int (k : Nat)), some (.int (o : Nat)), some (.int (m + 2 : Nat)), some (.str (S (nowL O f m))), some (.ref pw), x7, none, none, none], ?_, ?_⟩
    · refine ⟨_, rfl, 2, rfl, S O, rfl, lzO, ?_⟩
      rw [cut_hd]
      refine ⟨rfl, _, rfl, ?_⟩
      rw [show ("11" : Str) = S [49, 49] by decide +kernel]
      by_cases cH : O.take 2 = [49, 49]
      · refine iteB0 (by rw [cH, decide_eq_true rfl] <;> rfl) ?_
        rw [decide_eq_false (fun z => z cH), Bool.false_or] at nl
        refine ⟨_, rfl, by show 0 ≤ sizeLine; decide, fun c hc => ?_⟩
        have sc := smN (o := .lst []) (Same.refl H3) hc
        refine ⟨.list (numD _), .list (numD []), .lst (SqL.of (sc _ _ e3)) (dp_nums _), .lst (SqL.of upd_same) .nil, shaped_lst (lay_nums _), shaped_lst (lay_nums []), _, rfl, ?_⟩
        have sx := s23.trans sc
        have hwx := sc _ _ hw3
        rw [eqv_numL]
        cases nd : mvNeed O f with
        | false =>
          rw [nd] at nl
          refine iteB0 (by rw [← nl] <;> rfl) ⟨[], sx, hwx, by decide, by rw [if_neg Bool.false_ne_true]; exact .nil, _, by unfold nowL; rw [nd, if_neg Bool.false_ne_true] <;> rfl⟩
        | true =>
          rw [nd] at nl
          refine iteB1 (by rw [← nl] <;> rfl) ?_
          generalize upd H3 c (.lst []) = Hx at sx hwx
          refine ⟨_, rfl, 49, m + 2, rfl, rfl, by omega, ?_⟩
          refine ⟨_, rfl, .inl ⟨rfl, _, SqL.of hwx⟩, _, rfl, by show 2 ≤ sizeLine; decide, fun t1 ht1 => ?_⟩
          have st1 := smN (o := .tup [.str "erase", .int (o : Nat)]) (Same.refl _) ht1
          refine ⟨_, rfl, _, rfl, _, rfl, q, Ab, B, List.replicate (m + 2) 49, o, rfl, (sx.trans st1) _ _ hq, by omega, fun bD Hy sy nbD hbD => ?_⟩
          have m1 := sy _ _ (upd_same (H := Hx) (a := t1) (o := .tup [.str "erase", .int (o : Nat)]))
          refine ⟨by show 2 ≤ sizeLine; decide, fun t ht => ?_⟩
          have st := smN (o := .tup [.ref t1, .ref bD]) (Same.refl Hy) ht
          have hwy := st _ _ (sy _ _ (st1 _ _ hwx))
          refine ⟨pw, [], .ref t, rfl, rfl, hwy, by decide, ?_⟩
          refine ⟨[.ref t], same_put (((sx.trans st1).trans sy).trans st) hwn, upd_same, Nat.le_refl 1, ?_, _, by unfold nowL; rw [nd, if_pos rfl] <;> rfl⟩
          first | rw [nd, if_pos rfl] | rw [if_pos rfl]
          exact .cons ⟨t, .ref t1, bD, rfl, keepL hwy _ _ upd_same, t1, rfl, .inl ⟨o, keepL hwy _ _ (st _ _ m1), rfl⟩⟩ .nil
      · have nd : mvNeed O f = true := by rw [nl, decide_eq_true cH] <;> rfl
        refine iteB1 (by rw [decide_eq_false (fun e => cH (S_eq.mp e))] <;> rfl) ?_
        have sx := s23
        have hwx := hw3
        generalize H3 = Hx at sx hwx
        refine ⟨_, rfl, 49, m + 2, rfl, rfl, by omega, ?_⟩
        refine ⟨_, rfl, .inl ⟨rfl, _, SqL.of hwx⟩, _, rfl, by show 2 ≤ sizeLine; decide, fun t1 ht1 => ?_⟩
        have st1 := smN (o := .tup [.str "erase", .int (o : Nat)]) (Same.refl _) ht1
        refine ⟨_, rfl, _, rfl, _, rfl, q, Ab, B, List.replicate (m + 2) 49, o, rfl, (sx.trans st1) _ _ hq, by omega, fun bD Hy sy nbD hbD => ?_⟩
        have m1 := sy _ _ (upd_same (H := Hx) (a := t1) (o := .tup [.str "erase", .int (o : Nat)]))
        refine ⟨by show 2 ≤ sizeLine; decide, fun t ht => ?_⟩
        have st := smN (o := .tup [.ref t1, .ref bD]) (Same.refl Hy) ht
        have hwy := st _ _ (sy _ _ (st1 _ _ hwx))
        refine ⟨pw, [], .ref t, rfl, rfl, hwy, by decide, ?_⟩
        refine ⟨[.ref t], same_put (((sx.trans st1).trans sy).trans st) hwn, upd_same, Nat.le_refl 1, ?_, _, by unfold nowL; rw [nd, if_pos rfl] <;> rfl⟩
        first | rw [nd, if_pos rfl] | rw [if_pos rfl]
        exact .cons ⟨t, .ref t1, bD, rfl, keepL hwy _ _ upd_same, t1, rfl, .inl ⟨o, keepL hwy _ _ (st _ _ m1), rfl⟩⟩ .nil
    rintro σ H5 ⟨ws, s5, hw5, lw5, R5, x7, rfl⟩
    -- what falls
    have lNw : (nowL O f m).length = m + 2 := by unfold nowL; split; exact List.length_replicate; omega
    have bNw : ∀ c ∈ nowL O f m, c = 48 ∨ c = 49 := fun c hc => by
      unfold nowL at hc
      split at hc
      · exact .inr (List.eq_of_mem_replicate hc)
      · exact bO c hc
    have eK := now_kept (O := O) (f := f) lf
    rw [← eK] at ret
    rw [fal_law (by rw [List.length_drop]; omega)] at ret
    rw [lf] at ret
    have lzN : (S (nowL O f m)).length ≤ sizeLine := by rw [S_ln]; exact zz _ (by omega)
    generalize nowL O f m = Nw at ret lNw bNw lzN
    refine ⟨_, rfl, S f, rfl, lz, (m : Int), by rw [S_ln, lf], by omega, by omega, fun D8 hD8 => ?_⟩
    rw [show ((m : Int)).toNat = m from rfl]
    refine lc_outR (n := m) (outF (fun i => decide (f.getD i 0 = 48) && decide ((Nw.drop 2).getD i 0 = 49)) fun i => V.int (i : Nat)) hD8 outF_0 (fun i hi => Nat.lt_of_le_of_lt outF_l (small1 i (by omega))) (fun i H4 Kc K0 lt s4 kc k0 => ?_) (fun H6 s6 e6 => ?_)
    · have h1 : f[i]? = some (f[i]'(by omega)) := List.getElem?_eq_getElem (by omega)
      have h2 : Nw[i + 2]? = some (Nw[i + 2]'(by omega)) := List.getElem?_eq_getElem (by omega)
      have d1 : f.getD i 0 = f[i]'(by omega) := by rw [List.getD_eq_getElem?_getD, h1] <;> rfl
      have d2 : (Nw.drop 2).getD i 0 = Nw[i + 2]'(by omega) := by rw [List.getD_eq_getElem?_getD, List.getElem?_drop, Nat.add_comm 2 i, h2] <;> rfl
      have st := outF_t (p := fun i => decide (f.getD i 0 = 48) && decide ((Nw.drop 2).getD i 0 = 49)) (f := fun i => V.int (i : Nat)) (i := i)
      have sf := outF_f (p := fun i => decide (f.getD i 0 = 48) && decide ((Nw.drop 2).getD i 0 = 49)) (f := fun i => V.int (i : Nat)) (i := i)
      rw [d1, d2] at st sf
      refine ⟨rfl, _, rfl, _, rfl, S f, ((0 : Int) + (i : Nat)), f[i]'(by omega), rfl, rfl, lz, by rw [Int.zero_add]; exact atI_nat h1, rfl, _, rfl, ?_⟩
      generalize f[i]'(by omega) = a at st sf
      rw [show (⟨#[a]⟩ : Str) = S [a] from rfl, S_0]
      refine ite2 (fun q1 => ?_) (fun q1 => ?_)
      · have ea : a = 48 := by simpa using S_eq.mp (of_decide_eq_true q1)
        refine ⟨_, rfl, _, rfl, _, _, rfl, rfl, S Nw, ((0 : Int) + (i : Nat) + 2), Nw[i + 2]'(by omega), rfl, rfl, lzN, by rw [Int.zero_add]; exact atI_nat (j := i + 2) h2, rfl, _, rfl, ?_⟩
        generalize Nw[i + 2]'(by omega) = b at st sf
        rw [show (⟨#[b]⟩ : Str) = S [b] from rfl, S_1]
        refine ite2 (fun q2 => ?_) (fun q2 => ?_)
        · have eb : b = 49 := by simpa using S_eq.mp (of_decide_eq_true q2)
          refine ⟨_, rfl, kc _ _ (Same.refl _) ?_⟩
          rw [Int.zero_add]
          exact st (by rw [ea, eb] <;> rfl)
        · have eb : ¬ b = 49 := fun e => q2 (by rw [e] <;> exact decide_eq_true rfl)
          exact k0 _ (Same.refl _) (sf (by rw [decide_eq_false eb, Bool.and_false]))
      · have ea : ¬ a = 48 := fun e => q1 (by rw [e] <;> exact decide_eq_true rfl)
        exact k0 _ (Same.refl _) (sf (by rw [decide_eq_false ea, Bool.false_and]))
    have e6 : H6 D8 = some (.lst (nums ((List.range m).filter fun i => decide (f.getD i 0 = 48) && decide ((Nw.drop 2).getD i 0 = 49)))) := e6
    have lFs : ((List.range m).filter fun i => decide (f.getD i 0 = 48) && decide ((Nw.drop 2).getD i 0 = 49)).length ≤ m := by
      have := List.length_filter_le (fun i => decide (f.getD i 0 = 48) && decide ((Nw.drop 2).getD i 0 = 49)) (List.range m)
      rw [List.length_range] at this
      exact this
    generalize ((List.range m).filter fun i => decide (f.getD i 0 = 48) && decide ((Nw.drop 2).getD i 0 = 49)) = Fs at e6 lFs ret
    generalize (if mvNeed O f = true then [PyData.tuple [.str "erase", .int (o : Nat)]] else []) = ds1 at R5 ret
    have s56 := s5.trans s6
    have hw6 := s6 _ _ hw5
    have R6 := rows_keep (keepS s6) R5
    -- they fall
    refine ⟨fun σ H' => ∃ ws, Same H H' ∧ H' pw = some (.lst ws) ∧ ws.length ≤ 2 ∧ Paired (Row H') ws (ds1 ++ (if (Fs.map fun b => o * (m + 2) + 2 + b) = [] then [] else [.tuple [.str "fall", .tuple (numD (Fs.map fun b => o * (m + 2) + 2 + b))]])) ∧ ∃ x5 x7 x8 : Option V,
      σ = [some (.ref q), some (.str (S f)), some (.int (k : Nat)), some (.int (o : Nat)), some (.int (m + 2 : Nat)), x5, some (.ref pw), x7, x8, none, none], ?_, ?_⟩
    · refine ⟨_, rfl, by show 0 ≤ sizeLine; decide, fun c hc => ?_⟩
      have sc := smN (o := .lst []) (Same.refl H6) hc
      refine ⟨.list (numD _), .list (numD []), .lst (SqL.of (sc _ _ e6)) (dp_nums _), .lst (SqL.of upd_same) .nil, shaped_lst (lay_nums _), shaped_lst (lay_nums []), _, rfl, ?_⟩
      rw [eqv_numL]
      have sx := s56.trans sc
      have hwx := sc _ _ hw6
      have Rx := rows_keep (keepS sc) R6
      have ex := sc _ _ e6
      generalize upd H6 c (.lst []) = Hx at sx hwx Rx ex
      by_cases cf : Fs = []
      · subst cf
        rw [List.map_nil, if_pos rfl, List.append_nil]
        exact iteB0 (by decide) ⟨ws, sx, hwx, by omega, Rx, _, _, _, rfl⟩
      · have ne : ¬ (Fs.map fun b => o * (m + 2) + 2 + b) = [] := fun e => cf (List.map_eq_nil_iff.mp e)
        rw [if_neg ne]
        refine iteB1 (by rw [decide_eq_false cf] <;> rfl) ?_
        refine ⟨_, rfl, .inl ⟨rfl, _, SqL.of hwx⟩, _, rfl, D8, rfl, ⟨_, SqL.of ex⟩, fun D9 hD9 => ?_⟩
        refine lc_outL (xs := nums Fs) (outM fun i => V.int (o * (m + 2) + 2 + Fs.getD i 0 : Nat)) hD9 (SqL.of ex) outM_0 (fun i hi => by rw [outM_l]; exact small1 i (by rw [nums_ln] at hi; omega)) (fun i x H4 Kc K0 e s4 kc k0 => ?_) (fun H7 s7 e7 => ?_)
        · unfold nums at e
          rw [List.getElem?_map] at e
          cases g : Fs[i]? with
          | none => rw [g] at e; cases e
          | some b =>
            rw [g] at e
            cases e
            refine ⟨rfl, yes1 ?_⟩
            refine ⟨_, rfl, _, rfl, _, _, rfl, rfl, .inl ⟨by omega, by omega⟩, _, _, rfl, rfl, _, rfl, _, _, rfl, rfl, kc _ _ (Same.refl _) ?_⟩
            rw [outM_s, List.getD_eq_getElem?_getD, g]
            rfl
        have eM : outM (fun i => V.int (o * (m + 2) + 2 + Fs.getD i 0 : Nat)) (nums Fs).length = nums (Fs.map fun b => o * (m + 2) + 2 + b) := outM_all (by rw [nums_ln, nums_ln, List.length_map]) fun i hi => by
          rw [nums_ln] at hi
          unfold nums
          rw [List.map_map, List.getElem?_map, List.getD_eq_getElem?_getD, List.getElem?_eq_getElem hi]
          rfl
        rw [eM] at e7
        generalize (Fs.map fun b => o * (m + 2) + 2 + b) = Gs at e7 ret ne
        refine ⟨D9, _, rfl, .inl ⟨SqL.of e7, fun tq htq => ?_⟩⟩
        have st0 := smN (o := .tup (nums Gs)) s7 htq
        refine ⟨by show 2 ≤ sizeLine; decide, fun t1 ht1 => ?_⟩
        have st1 := smN (o := .tup [.str "fall", .ref tq]) st0 ht1
        have m0 : (upd (upd H7 tq (.tup (nums Gs))) t1 (.tup [.str "fall", .ref tq])) tq = some (.tup (nums Gs)) := smN (Same.refl _) ht1 _ _ upd_same
        have m1 : (upd (upd H7 tq (.tup (nums Gs))) t1 (.tup [.str "fall", .ref tq])) t1 = some (.tup [.str "fall", .ref tq]) := upd_same
        generalize upd (upd H7 tq (.tup (nums Gs))) t1 (.tup [.str "fall", .ref tq]) = H8 at st1 m0 m1
        have lzz : ("11" : Str).length + (S f).length ≤ sizeLine := by rw [S_ln, show ("11" : Str) = S [49, 49] by decide +kernel, S_ln]; exact zz _ (by show 2 + f.length ≤ 1000; omega)
        refine ⟨_, rfl, _, rfl, _, rfl, "11", S f, rfl, rfl, lzz, ?_⟩
        rw [show ("11" : Str) = S [49, 49] by decide +kernel, SX.S_cat]
        refine ⟨q, Ab, B, [49, 49] ++ f, o, rfl, (sx.trans st1) _ _ hq, by omega, fun bD Hy sy nbD hbD => ?_⟩
        refine ⟨by show 2 ≤ sizeLine; decide, fun t ht => ?_⟩
        have st := smN (o := .tup [.ref t1, .ref bD]) (Same.refl Hy) ht
        have hwy := st _ _ (sy _ _ (st1 _ _ hwx))
        refine ⟨pw, ws, .ref t, rfl, rfl, hwy, Nat.lt_of_le_of_lt lw5 (by decide), ?_⟩
        refine ⟨ws ++ [.ref t], same_put (((sx.trans st1).trans sy).trans st) hwn, upd_same, by rw [List.length_append]; show _ + 1 ≤ 2; omega, ?_, _, _, _, rfl⟩
        exact rows_snoc ⟨t, .ref t1, bD, rfl, keepL hwy _ _ upd_same, t1, rfl, .inr ⟨tq, Gs, keepL hwy _ _ (st _ _ (sy _ _ m1)), keepL hwy _ _ (st _ _ (sy _ _ m0)), rfl⟩⟩ (rows_keep (keepL hwy) (rows_keep (keepS ((st1.trans sy).trans st)) Rx))
    rintro σ H9 ⟨ws2, s9, hw9, lw9, R9, x5, x7b, x8, rfl⟩
    generalize (ds1 ++ (if (Fs.map fun b => o * (m + 2) + 2 + b) = [] then [] else [PyData.tuple [.str "fall", .tuple (numD (Fs.map fun b => o * (m + 2) + 2 + b))]])) = ds2 at R9 ret
    -- the mark
    have lX : (if k = 0 then Ab else B).length = 2 + m := by split; exact la; exact lb
    refine ⟨_, rfl, _, rfl, q, _, (k : Int), .str (S (if k = 0 then Ab else B)), rfl, rfl, SqL.of (s9 _ _ hq), by rcases k01 with rfl | rfl <;> rfl, 2, rfl, S (if k = 0 then Ab else B), rfl, by rw [S_ln]; exact zz _ (by omega), ?_⟩
    rw [cut_hd]
    refine ⟨fun σ H' => Same H9 H' ∧ σ = [some (.ref q), some (.str (S f)), some (.int (k : Nat)), some (.int (o : Nat)), some (.int (m + 2 : Nat)), x5, some (.ref pw), x7b, x8, some (.str (S (mkb (Ab.take 2) (B.take 2) k))), none], ?_, ?_⟩
    · refine ⟨_, rfl, rfl, _, rfl, ?_⟩
      rcases o01 with ⟨rfl, rfl⟩ | ⟨rfl, rfl⟩
      · refine iteB1 (by decide) ?_
        refine fun pd hpd => ⟨upd_same, [(.inr "10", .str "01"), (.inr "01", .str "10")], rfl, by decide, ?_⟩
        rw [merge_swap]
        have sp : Same H9 (upd (upd H9 pd (.dK [])) pd (.dK swapD)) := fun b o e => by rw [upd_ne (ne_of_none e hpd), upd_ne (ne_of_none e hpd)]; exact e
        have mA : mk2 (Ab.take 2) = true := by
          unfold lvB at ek
          split at ek
          · assumption
          · split at ek <;> cases ek
        exact ⟨_, rfl, pd, _, rfl, get_swap mA upd_same, sp, rfl⟩
      · exact iteB0 (by decide) ⟨Same.refl _, rfl⟩
    rintro σ Ha ⟨sa, rfl⟩
    have s9a := s9.trans sa
    have hwa := sa _ _ hw9
    have Ra := rows_keep (keepS sa) R9
    obtain ⟨rest, occ⟩ := idx0 mkk
    refine ⟨_, rfl, .inl ⟨rfl, _, SqL.of hwa⟩, _, rfl, _, rfl, _, _, rfl, rfl, .inl ⟨by omega, by omega⟩, _, rfl, rfl, S (mkb (Ab.take 2) (B.take 2) k), "0", mk0 (mkb (Ab.take 2) (B.take 2) k), rest, rfl, rfl, occ, ?_⟩
    have lM : (mkb (Ab.take 2) (B.take 2) k).length = 2 := by rcases mk2_two mkk with e | e <;> rw [e] <;> rfl
    refine ⟨_, _, rfl, rfl, by show 1 ≤ sizeLine; decide, fun tq htq => ?_⟩
    have st0 := smN (o := .tup (nums [o * (m + 2) + mk0 (mkb (Ab.take 2) (B.take 2) k)])) (Same.refl Ha) htq
    refine ⟨by show 2 ≤ sizeLine; decide, fun t1 ht1 => ?_⟩
    have st1 : Same Ha (upd (upd Ha tq (.tup (nums [o * (m + 2) + mk0 (mkb (Ab.take 2) (B.take 2) k)]))) t1 (.tup [.str "fall", .ref tq])) := smN st0 ht1
    have m0 : (upd (upd Ha tq (.tup (nums [o * (m + 2) + mk0 (mkb (Ab.take 2) (B.take 2) k)]))) t1 (.tup [.str "fall", .ref tq])) tq = some (.tup (nums [o * (m + 2) + mk0 (mkb (Ab.take 2) (B.take 2) k)])) := smN (Same.refl _) ht1 _ _ upd_same
    have m1 : (upd (upd Ha tq (.tup (nums [o * (m + 2) + mk0 (mkb (Ab.take 2) (B.take 2) k)]))) t1 (.tup [.str "fall", .ref tq])) t1 = some (.tup [.str "fall", .ref tq]) := upd_same
    have lzz : (S (mkb (Ab.take 2) (B.take 2) k)).length + (S f).length ≤ sizeLine := by rw [S_ln, S_ln, lM]; exact zz _ (by omega)
    refine ⟨_, rfl, _, rfl, _, rfl, _, rfl, S (mkb (Ab.take 2) (B.take 2) k), S f, rfl, rfl, lzz, ?_⟩
    rw [SX.S_cat]
    refine ⟨q, Ab, B, mkb (Ab.take 2) (B.take 2) k ++ f, o, rfl, (s9a.trans st1) _ _ hq, by omega, fun bD Hy sy nbD hbD => ?_⟩
    refine ⟨by show 2 ≤ sizeLine; decide, fun t ht => ?_⟩
    have st := smN (o := .tup [.ref t1, .ref bD]) (Same.refl Hy) ht
    have hwy := st _ _ (sy _ _ (st1 _ _ hwa))
    refine ⟨pw, ws2, .ref t, rfl, rfl, hwy, Nat.lt_of_le_of_lt lw9 (by decide), ?_⟩
    have nbw : bD ≠ pw := fun e => by
      rw [e] at nbD
      have h3 : (some (HO.lst ws2) : Option HO) = none := (st1 _ _ hwa).symm.trans nbD
      cases h3
    refine ⟨_, rfl, ret pw ws2 t (.ref t1) bD _ (same_put (((s9a.trans st1).trans sy).trans st) hwn) hwn upd_same (keepL hwy _ _ upd_same) ?_ ?_⟩
    · rw [upd_ne nbw]
      refine st _ _ ?_
      rw [hbD]
      rcases o01 with ⟨rfl, rfl⟩ | ⟨rfl, rfl⟩ <;> rfl
    · exact rows_snoc ⟨t, .ref t1, bD, rfl, keepL hwy _ _ upd_same, t1, rfl, .inr ⟨tq, _, keepL hwy _ _ (st _ _ (sy _ _ m1)), keepL hwy _ _ (st _ _ (sy _ _ m0)), rfl⟩⟩ (rows_keep (keepL hwy) (rows_keep (keepS ((st1.trans sy).trans st)) Ra))
end
end Fb
set_option maxRecDepth 100000
set_option maxHeartbeats 4000000
namespace Fb
open PySem PySem.Spec PyProof.Rows L2
open SX (S)
theorem XF.exm {K : PySem.W.Frag} {mg : Str → Option Value} {fe C : Addr} {x : Str} (T : XF K mg fe x C) (hc : (PySem.W.clsIn K fe).isSome = true) (ht : PySem.W.typeIn K (.ref fe) = some (.type "type")) (hs : PySem.W.subIn K (.ref fe) (.type "BaseException") = some true) : PySem.W.exmOne K (.ref C) (.ref fe) = some true := by
  unfold PySem.W.exmOne
  rw [hs, if_pos (by simp)]
  unfold PySem.W.kitCls
  have e2 : ((PySem.W.clsIn K fe).isSome && PySem.W.typeIn K (.ref fe) == some (.type "type")) = true := by
    rw [hc, ht] <;> rfl
  show (if ((PySem.W.clsIn K fe).isSome && PySem.W.typeIn K (.ref fe) == some (.type "type")) = true then PySem.W.subIn K (.ref C) (.ref fe) else none) = _
  rw [if_pos e2]
  show PySem.W.mroIn K C (.ref fe) = _
  rw [T.mro]
  simp
/-- a rule of two -/
theorem callR_or {X : Cx} {f : Value} {r1 r2 : List V → Hp → VK → Prop} (h1 : CallR X f r1) (h2 : CallR X f r2) : CallR X f (fun xs H Q => r1 xs H Q ∨ r2 xs H Q) := fun pins s σ H xs us Q I r q => by
  rcases q with q | q
  · exact h1 pins s σ H xs us Q I r q
  · exact h2 pins s σ H xs us Q I r q
theorem none_kit {K : PySem.W.Frag} {mg : Str → Option Value} {fe C : Addr} {x : Str} (T : XF K mg fe x C) : PySem.W.kitOne K (.type "NoneType") (.ref C) = some false := by
  unfold PySem.W.kitOne
  have e1 : (Value.type "NoneType" == Value.ref C) = false := rfl
  rw [e1, if_neg Bool.false_ne_true]
  unfold PySem.W.kitCls
  have e2 : ((PySem.W.clsIn K C).isSome && PySem.W.typeIn K (.ref C) == some (.type "type")) = true := by
    obtain ⟨cd, c1, _⟩ := T.cls
    rw [c1, T.ty] <;> rfl
  show (if ((PySem.W.clsIn K C).isSome && PySem.W.typeIn K (.ref C) == some (.type "type")) = true then PySem.W.subIn K (.type "NoneType") (.ref C) else none) = _
  rw [if_pos e2]
  have e : fastBuiltinMro "NoneType" = some [.type "NoneType", .type "object"] := by decide +kernel
  show (fastBuiltinMro "NoneType").map (·.contains (.ref C)) = some false
  rw [e]
  first
    | rfl
    | simp
/-! what is heard -/
def TT8 (z : Pz) (Q : VK) : XK := fun cls d H' => (∃ (dd : Addr) (k : Nat), cls = .ref z.cNoPattern ∧ d = some dd ∧ H' dd = some (.xd [("at", .int (k : Nat))]) ∧ ∀ a' p, H' a' = none → (upd H' a' (ExR cls d a')) p = none → Q (.ref p) (upd (upd H' a' (ExR cls d a')) p (.tup [.str "pattern", .int (k : Nat)]))) ∨
    (∃ (dd : Addr) (v : V), cls = .ref z.cForeign ∧ d = some dd ∧ H' dd = some (.xd [("found", v)]) ∧ ∀ a' p, H' a' = none → (upd H' a' (ExR cls d a')) p = none → Q (.ref p) (upd (upd H' a' (ExR cls d a')) p (.tup [.str "foreign", v]))) ∨
    (cls = .ref z.cUnlike ∧ d = none ∧ ∀ a' p, H' a' = none → (upd H' a' (ExR cls d a')) p = none → Q (.ref p) (upd (upd H' a' (ExR cls d a')) p (.tup [.str "unlike"])))
theorem move_mono {K : PySem.W.Frag} {cN cU cF : Addr} {vs : List V} {H : Hp} {Q Q2 : VK} {E E2 : XK} (h : spMove K cN cU cF vs H Q E) (hQ : ∀ v H', Q v H' → Q2 v H') (hE : ∀ c d H', E c d H' → E2 c d H') : spMove K cN cU cF vs H Q2 E2 := by
  obtain ⟨x, y, r, rfl, hf, hx, ok⟩ := h
  refine ⟨x, y, r, rfl, hf, fun k e d H' s m => hE _ _ _ (hx k e d H' s m), fun er l el => ?_⟩
  have ok := ok er l el
  by_cases c : roll l = true
  · rw [if_pos c] at ok ⊢
    intro A B ep
    obtain ⟨rc, hc, hy, ok2⟩ := ok A B ep
    refine ⟨rc, hc, fun k e d H' s m => hE _ _ _ (hy k e d H' s m), fun erc f ef => ?_⟩
    have ok2 := ok2 erc f ef
    by_cases cm : canM A B = true
    · rw [if_pos cm] at ok2 ⊢
      exact fun p ws H' s n m w => hQ _ _ (ok2 p ws H' s n m w)
    · rw [if_neg cm] at ok2 ⊢
      exact fun d H' s m => hE _ _ _ (ok2 d H' s m)
  · rw [if_neg c] at ok ⊢
    exact fun H' s => hE _ _ _ (ok H' s)
def spHeardM (K : PySem.W.Frag) (z : Pz) : Sp := fun vs H Q _ => ∃ x y, vs = [x, y] ∧ ∀ tt, H tt = none → spMove K z.cNoPattern z.cUnlike z.cForeign [x, y] (upd H tt (.tup [.non, .non])) (fun v H1 => ∀ p, H1 p = none → Q (.ref p) (upd H1 p (.lst [v]))) (TT8 z Q)
section
variable {P : Program} {wo : World} {K : PySem.W.Frag} {mg : Str → Option Value} {base : Heap} {z : Pz} {w : Lz}
theorem ok_Lheard (T : TxL K mg z w) : FnOk P wo K mg base CX0 6 w.a_Lheard w.d_Lheard ["_law_x", "_law_fresh_here"] (spHeardM K z) := by
  refine T.F_Lheard.ok sc_Lheard (fun vs H Q E h => ?_) (fun cdv A outer s H vs Q E hr h => ?_)
  · obtain ⟨x, y, rfl, _⟩ := h
    rfl
  · obtain ⟨x, y, rfl, h⟩ := h
    have hr5 : Room 5 _ := hr
    have G_move : FnOk P wo K mg base (L2.CX P wo) 5 z.a_move z.d_move ["x", "fresh"] (spMove K z.cNoPattern z.cUnlike z.cForeign) := ok_move T.toTxp
    have kUN : PySem.W.kitOne K (.ref z.cUnlike) (.ref z.cNoPattern) = some false := by rw [T.xUnlike.is T.xNoPattern T.ne_NoPattern_F, decide_eq_false T.ne_Unlike_NoPattern]
    have kUF : PySem.W.kitOne K (.ref z.cUnlike) (.ref z.cForeign) = some false := by rw [T.xUnlike.is T.xForeign T.ne_Foreign_F, decide_eq_false T.ne_Unlike_Foreign]
    have kFN : PySem.W.kitOne K (.ref z.cForeign) (.ref z.cNoPattern) = some false := by rw [T.xForeign.is T.xNoPattern T.ne_NoPattern_F, decide_eq_false T.ne_Foreign_NoPattern]
    refine ⟨_, (pss_cons (ps_asg (pe_tup (pa_cons pe_non (pa_cons pe_non pa_nil))) (pg_tup rfl (pgs_cons (pg_name (i := 2) sc_Lheard.nd rfl (Or.inl rfl)) (pgs_cons (pg_name (i := 3) sc_Lheard.nd rfl (Or.inl rfl)) pgs_nil))))
      (pss_cons (ps_try_hold (i := 4) (j := 2) rfl rfl rfl sc_Lheard.nd rfl rfl rfl rfl ⟨rfl, by decide, .inl T.xFallenError⟩ LamX.takes0 rfl rfl (fun W pn xe tk _ => (pss_one (ps_set (i := 3) sc_Lheard.nd rfl (Or.inl rfl) (pe_callS G_move hr5 rfl T.g_move T.k_move T.b_move (fun σ => passAt tk σ) (pa_cons (pv 0) (pa_cons (pv 1) pa_nil)))))))
      (pss_cons (ps_if (pt_val (pe_callB (callR_or call_isB call_isi) (by rfl) T.n_isinstance boot_isinstance (pa_cons (pv 2) (pa_cons (pe_glob (v := .ref z.cNoPattern) rfl T.xNoPattern.g rfl) pa_nil)))) (pss_one (ps_ret (pe_tup (pa_cons pe_str (pa_cons (pe_xar (pv 2)) pa_nil))))) pss_nil)
      (pss_cons (ps_if (pt_val (pe_callB (callR_or call_isB call_isi) (by rfl) T.n_isinstance boot_isinstance (pa_cons (pv 2) (pa_cons (pe_glob (v := .ref z.cForeign) rfl T.xForeign.g rfl) pa_nil)))) (pss_one (ps_ret (pe_tup (pa_cons pe_str (pa_cons (pe_xar (pv 2)) pa_nil))))) pss_nil)
      (pss_cons (ps_if (pt_val (pe_callB (callR_or call_isB call_isi) (by rfl) T.n_isinstance boot_isinstance (pa_cons (pv 2) (pa_cons (pe_glob (v := .ref z.cUnlike) rfl T.xUnlike.g rfl) pa_nil)))) (pss_one (ps_ret (pe_tup (pa_cons pe_str pa_nil)))) pss_nil)
      (pss_one (ps_ret (pe_ifExp (pt_cmpR op_isN (pv 2) pe_non (nomark _)) (pe_lst (pa_cons (pv 3) pa_nil)) (pe_tup (pa_cons pe_str pa_nil)))))))))), ?_⟩
    refine ⟨by show 2 ≤ sizeLine; decide, fun tt htt => ?_⟩
    refine ⟨tt, _, rfl, SqT.of upd_same, rfl, ?_⟩
    refine ⟨_, _, rfl, ?_⟩
    refine ⟨_, _, rfl, ?_⟩
    refine ⟨rfl, ?_⟩
    refine ⟨_, rfl, _, rfl, ?_⟩
    dsimp only [tCons, tNil, tVar]
    refine move_mono (h tt htt) (fun v H1 q => ?_) (fun cls d H' hE => ?_)
    · refine ⟨_, rfl, .inr ⟨_, _, _, _, false, rfl, .own z.cNoPattern, .base .non, none_kit T.xNoPattern, _, rfl, iteB0 rfl ?_⟩⟩
      refine ⟨_, rfl, .inr ⟨_, _, _, _, false, rfl, .own z.cForeign, .base .non, none_kit T.xForeign, _, rfl, iteB0 rfl ?_⟩⟩
      refine ⟨_, rfl, .inr ⟨_, _, _, _, false, rfl, .own z.cUnlike, .base .non, none_kit T.xUnlike, _, rfl, iteB0 rfl ?_⟩⟩
      refine ⟨_, rfl, rfl, _, rfl, iteB1 (decide_eq_true rfl) ?_⟩
      exact ⟨_, rfl, by show 1 ≤ sizeLine; decide, fun p hp => q p hp⟩
    · rcases hE with ⟨dd, k, rfl, rfl, hd, ret⟩ | ⟨dd, v, rfl, rfl, hd, ret⟩ | ⟨rfl, rfl, ret⟩
      · refine ⟨true, T.xNoPattern.exm T.clF T.tyF T.sbF, fun _ a ha => ?_, fun z => nomatch z⟩
        have nd : dd ≠ a := ne_of_none hd ha
        have xr : XR (upd H' a (ExR (.ref z.cNoPattern) (some dd) a)) a z.cNoPattern [("at", .int (k : Nat))] := ⟨dd, upd_same, by rw [upd_ne nd]; exact hd⟩
        refine ⟨_, rfl, .inl ⟨a, z.cNoPattern, _, _, true, rfl, T.xNoPattern.xc, T.xb, .inr ⟨_, xr⟩, .own z.cNoPattern, by unfold PySem.W.kitOne; simp, ?_⟩⟩
        refine ⟨_, rfl, iteB1 rfl ?_⟩
        refine ⟨_, rfl, a, z.cNoPattern, _, _, rfl, T.xNoPattern.xc, T.nNP, xr, rfl, by show 2 ≤ sizeLine; decide, fun p hp => ret a p ha hp⟩
      · refine ⟨true, T.xForeign.exm T.clF T.tyF T.sbF, fun _ a ha => ?_, fun z => nomatch z⟩
        have nd : dd ≠ a := ne_of_none hd ha
        have xr : XR (upd H' a (ExR (.ref z.cForeign) (some dd) a)) a z.cForeign [("found", v)] := ⟨dd, upd_same, by rw [upd_ne nd]; exact hd⟩
        refine ⟨_, rfl, .inl ⟨a, z.cForeign, _, _, false, rfl, T.xForeign.xc, T.xb, .inr ⟨_, xr⟩, .own z.cNoPattern, kFN, ?_⟩⟩
        refine ⟨_, rfl, iteB0 rfl ?_⟩
        refine ⟨_, rfl, .inl ⟨a, z.cForeign, _, _, true, rfl, T.xForeign.xc, T.xb, .inr ⟨_, xr⟩, .own z.cForeign, by unfold PySem.W.kitOne; simp, ?_⟩⟩
        refine ⟨_, rfl, iteB1 rfl ?_⟩
        refine ⟨_, rfl, a, z.cForeign, _, _, rfl, T.xForeign.xc, T.nForeign_found, xr, rfl, by show 2 ≤ sizeLine; decide, fun p hp => ret a p ha hp⟩
      · refine ⟨true, T.xUnlike.exm T.clF T.tyF T.sbF, fun _ a ha => ?_, fun z => nomatch z⟩
        refine ⟨_, rfl, .inl ⟨a, z.cUnlike, _, _, false, rfl, T.xUnlike.xc, T.xb, .inl upd_same, .own z.cNoPattern, kUN, ?_⟩⟩
        refine ⟨_, rfl, iteB0 rfl ?_⟩
        refine ⟨_, rfl, .inl ⟨a, z.cUnlike, _, _, false, rfl, T.xUnlike.xc, T.xb, .inl upd_same, .own z.cForeign, kUF, ?_⟩⟩
        refine ⟨_, rfl, iteB0 rfl ?_⟩
        refine ⟨_, rfl, .inl ⟨a, z.cUnlike, _, _, true, rfl, T.xUnlike.xc, T.xb, .inl upd_same, .own z.cUnlike, by unfold PySem.W.kitOne; simp, ?_⟩⟩
        refine ⟨_, rfl, iteB1 rfl ?_⟩
        exact ⟨by show 1 ≤ sizeLine; decide, fun p hp => ret a p ha hp⟩
end
end Fb
set_option maxRecDepth 100000
set_option maxHeartbeats 4000000
namespace Fb
open PySem PySem.Spec PyProof.Rows L2
open SX (S)
theorem cut_back : ∀ bs : List (List Nat), cut (bs.map List.length) bs.flatten = bs
  | [] => rfl
  | b :: bs => by
    have ih := cut_back bs
    rw [List.map_cons, List.flatten_cons]
    show (b ++ bs.flatten).take b.length :: cut (bs.map List.length) ((b ++ bs.flatten).drop b.length) = _
    rw [List.take_left, List.drop_left, ih]
theorem join_two {A B : List Nat} (hA : ∀ c ∈ A, c = 48 ∨ c = 49) (hB : ∀ c ∈ B, c = 48 ∨ c = 49) {n : Nat} (lA : A.length = n) (lB : B.length = n) (h3 : 3 ≤ n) (h60 : n ≤ 60) :
    IsP (TL.joinL [46] [A, B]) ∧ roll (TL.joinL [46] [A, B]) = true ∧ pts (TL.joinL [46] [A, B]) = [A, B] := by
  have hb : ∀ b ∈ [A, B], ∀ c ∈ b, c = 48 ∨ c = 49 := fun b h => by
    rcases List.mem_cons.mp h with e | e
    · rw [e]; exact hA
    · rw [List.mem_singleton.mp e]; exact hB
  have sz := szs_join (bs := [A, B]) (by simp) hb
  have bt := bt_join (bs := [A, B]) hb
  have sg := sg_join (bs := [A, B]) hb
  have pt : pts (TL.joinL [46] [A, B]) = [A, B] := by
    unfold pts
    rw [sz, bt]
    exact cut_back [A, B]
  have sz2 : szs (TL.joinL [46] [A, B]) = [n, n] := by rw [sz]; simp [lA, lB]
  refine ⟨⟨sg, fun k hk => ?_, ?_, ?_⟩, ?_, pt⟩
  · rw [sz2] at hk
    simp at hk
    omega
  · rw [sz2]; show 2 ≤ 3; decide
  · show (Fb.bt (TL.joinL [46] [A, B])).length ≤ 120
    rw [bt]
    simp [lA, lB]
    omega
  · unfold roll
    rw [sz2]
    simp
    exact h3
def Oddv (K : PySem.W.Frag) (H : Hp) (x : V) : Prop := ∃ t, TyOf K H x t ∧ PySem.W.kitOne K t (.type "str") = some false
theorem PenN.ne_tup {H : Hp} {p l c : Addr} {n : Nat} {xs : List V} (h : PenN H p l n) (e : H c = some (.tup xs)) : c ≠ p := by
  obtain ⟨cs, a, r, h1, _⟩ := h
  exact ne_of e h1 (fun z => nomatch z)
theorem Oddv.but {K : PySem.W.Frag} {H H' : Hp} {x : V} {p l : Addr} {n m : Nat} (h : Oddv K H x) (b : But p H H') (P : PenN H p l n) (P' : PenN H' p l m) : Oddv K H' x := by
  obtain ⟨t, h1, h2⟩ := h
  obtain ⟨cs, a, r, e0, _⟩ := P
  obtain ⟨cs', a', r', e1, _⟩ := P'
  refine ⟨t, ?_, h2⟩
  have ne : ∀ {c : Addr} {o : HO}, H c = some o → (∀ xs, o ≠ .lst xs) → H' c = some o := fun {c o} e hn => b c o (fun z => by rw [z, e0] at e; cases e; exact hn _ rfl) e
  cases h1 with
  | non => exact .non
  | bl x => exact .bl x
  | int i => exact .int i
  | str x => exact .str x
  | flt x => exact .flt x
  | lst e =>
    rename_i c xs
    by_cases z : c = p
    · rw [z]; exact .lst e1
    · exact .lst (b _ _ z e)
  | frz e => exact .frz (ne e fun _ z => nomatch z)
  | tup e => exact .tup (ne e fun _ z => nomatch z)
  | dK e => exact .dK (ne e fun _ z => nomatch z)
  | dT e => exact .dT (ne e fun _ z => nomatch z)
  | ins e cl ha hn ht hm => exact .ins (ne e fun _ z => nomatch z) cl ha hn ht hm
/-! what is refused -/
theorem cfa_pre : ∀ {u r : List Nat} {a m : Nat}, (∀ c ∈ u, c = 48 ∨ c = 49) → a + u.length ≤ m → cfa (u ++ r) a m = cfa r (a + u.length) m
  | [], r, a, m, _, _ => rfl
  | c :: u, r, a, m, h, l => by
    rw [List.length_cons] at l
    have e : ¬ (a = m ∨ ¬ (c = 48 ∨ c = 49)) := by
      rintro (q | q)
      · omega
      · exact q (h c List.mem_cons_self)
    show (if a = m ∨ ¬ (c = 48 ∨ c = 49) then some a else cfa (u ++ r) (a + 1) m) = _
    rw [if_neg e, cfa_pre (fun d hd => h d (List.mem_cons_of_mem _ hd)) (by omega), List.length_cons, show a + 1 + u.length = a + (u.length + 1) by omega]
def COdd (K : PySem.W.Frag) (m : Nat) (H : Hp) (x : V) (k : Nat) : Prop := (∃ l, x = .str (S l) ∧ l.length ≤ 1000 ∧ cfa l 0 m = some k) ∨ (Oddv K H x ∧ k = 0)
theorem COdd.flt {K : PySem.W.Frag} {m : Nat} {H : Hp} {x : V} {k : Nat} (h : COdd K m H x k) : CFlt K H x m (some k) := by
  rcases h with ⟨l, h1, h2, h3⟩ | ⟨⟨t, h1, h2⟩, rfl⟩
  · exact .inl ⟨l, h1, h2, h3.symm⟩
  · exact .inr ⟨t, .base h1, h2, rfl⟩
theorem COdd.same {K : PySem.W.Frag} {m : Nat} {H H' : Hp} {x : V} {k : Nat} (s : Same H H') (h : COdd K m H x k) : COdd K m H' x k := by
  rcases h with h | ⟨⟨t, h1, h2⟩, e⟩
  · exact .inl h
  · exact .inr ⟨⟨t, tyOf_same s h1, h2⟩, e⟩
theorem COdd.but {K : PySem.W.Frag} {j : Nat} {H H' : Hp} {x : V} {k : Nat} {p l : Addr} {n m : Nat} (h : COdd K j H x k) (b : But p H H') (P : PenN H p l n) (P' : PenN H' p l m) : COdd K j H' x k := by
  rcases h with h | ⟨h, e⟩
  · exact .inl h
  · exact .inr ⟨h.but b P P', e⟩
def GoodC (K : PySem.W.Frag) (m : Nat) (H : Hp) (v : V) : Prop := ∃ (t : Addr) (x : V) (k : Nat), v = .ref t ∧ H t = some (.tup [x, .int (k : Nat)]) ∧ COdd K m H x k
theorem gc_new {K : PySem.W.Frag} {m : Nat} {H H' : Hp} {xs : List V} (s : Same H H') (h : ∀ v ∈ xs, GoodC K m H v) : ∀ v ∈ xs, GoodC K m H' v := fun v hv => by
  obtain ⟨t, x, k, e, h1, h2⟩ := h v hv
  exact ⟨t, x, k, e, s _ _ h1, h2.same s⟩
theorem gc_add {K : PySem.W.Frag} {m : Nat} {H : Hp} {c : Addr} {x : V} {k : Nat} {xs : List V} (h : ∀ v ∈ xs, GoodC K m H v) (hc : H c = none) (o : COdd K m H x k) : ∀ v ∈ xs ++ [.ref c], GoodC K m (upd H c (.tup [x, .int (k : Nat)])) v := fun v hv => by
  have s := smN (o := .tup [x, .int (k : Nat)]) (Same.refl H) hc
  rcases List.mem_append.mp hv with q | q
  · exact gc_new s h v q
  · rw [List.mem_singleton.mp q]
    exact ⟨c, x, k, rfl, upd_same, o.same s⟩
def bad5 : List (V × V) := [(.str "11", .str "11"), (.str "00", .str "11"), (.str "00", .str "00"), (.str "10", .str "00"), (.str "00", .str "01")]
theorem bad5_ok {x y : V} (h : (x, y) ∈ bad5) : ∃ a b : List Nat, x = .str (S a) ∧ y = .str (S b) ∧ a.length = 2 ∧ b.length = 2 ∧ (∀ c ∈ a, c = 48 ∨ c = 49) ∧ (∀ c ∈ b, c = 48 ∨ c = 49) ∧ ∀ u v, canM (a ++ u) (b ++ v) = false := by
  have e0 : ("00" : Str) = S [48, 48] := by decide +kernel
  have e1 : ("10" : Str) = S [49, 48] := by decide +kernel
  have e2 : ("01" : Str) = S [48, 49] := by decide +kernel
  have e3 : ("11" : Str) = S [49, 49] := by decide +kernel
  have go : ∀ a b : List Nat, a.length = 2 → b.length = 2 → canM a b = false → ∀ u v, canM (a ++ u) (b ++ v) = false := fun a b la lb h u v => by
    have t1 : (a ++ u).take 2 = a.take 2 := by rw [← la, List.take_left, List.take_length]
    have t2 : (b ++ v).take 2 = b.take 2 := by rw [← lb, List.take_left, List.take_length]
    unfold canM lvB at h ⊢
    rw [t1, t2]
    exact h
  unfold bad5 at h
  simp only [List.mem_cons, Prod.mk.injEq, List.not_mem_nil, or_false] at h
  rw [e0, e1, e2, e3] at h
  rcases h with h | h | h | h | h <;> obtain ⟨rfl, rfl⟩ := h <;>
    exact ⟨_, _, rfl, rfl, rfl, rfl, by simp, by simp, go _ _ rfl rfl (by decide +kernel)⟩
def GoodX (L : List (V × V)) (p : Addr) (H : Hp) (v : V) : Prop := ∃ q x y, v = .ref q ∧ q ≠ p ∧ H q = some (.lst [x, y]) ∧ (x, y) ∈ L
theorem gx_new {L : List (V × V)} {p c : Addr} {H : Hp} {o : HO} {xs : List V} (h : ∀ v ∈ xs, GoodX L p H v) (hc : H c = none) : ∀ v ∈ xs, GoodX L p (upd H c o) v := fun v hv => by
  obtain ⟨q, x, y, e, n, h1, h2⟩ := h v hv
  exact ⟨q, x, y, e, n, by rw [upd_ne (ne_of_none h1 hc)]; exact h1, h2⟩
theorem gx_add {L : List (V × V)} {p c : Addr} {H : Hp} {x y : V} {xs : List V} (h : ∀ v ∈ xs, GoodX L p H v) (hc : H c = none) (np : c ≠ p) (m : (x, y) ∈ L) : ∀ v ∈ xs ++ [.ref c], GoodX L p (upd H c (.lst [x, y])) v := fun v hv => by
  rcases List.mem_append.mp hv with q | q
  · exact gx_new h hc v q
  · rw [List.mem_singleton.mp q]
    exact ⟨c, x, y, rfl, np, upd_same, m⟩
/-! what is heard in each case -/
theorem heard_cont {K : PySem.W.Frag} {z : Pz} {l A B : List Nat} {m k : Nat} {y : V} {H : Hp} {Q0 Q : VK} (hp : IsP l) (hr : roll l = true) (ep : pts l = [A, B]) (lA : A.length = 2 + m) (h : COdd K m H y k)
    (ret : ∀ q H', Same H H' → H' q = some (.tup [.str "pattern", .int (k : Nat)]) → Q (.ref q) H') : spMove K z.cNoPattern z.cUnlike z.cForeign [.str (S l), y] H Q0 (TT8 z Q) := by
  refine ⟨_, y, none, rfl, .inl ⟨l, rfl, by have := hp.len; omega, hp.pf.symm⟩, (fun k e => nomatch e), fun _ l' el => ?_⟩
  cases S_eq.mp el
  rw [if_pos hr]
  intro A' B' ep'
  rw [ep] at ep'
  cases ep'
  refine ⟨some k, by rw [lA, show 2 + m - 2 = m by omega]; exact h.flt, fun k' ek dd H' s hd => ?_, fun e => nomatch e⟩
  cases ek
  exact .inl ⟨dd, k, rfl, rfl, hd, fun a' p ha hpp => ret p _ (smN (smN s ha) hpp) upd_same⟩
theorem heard_for {K : PySem.W.Frag} {z : Pz} {l A B f : List Nat} {m : Nat} {H : Hp} {Q0 Q : VK} (hp : IsP l) (hr : roll l = true) (ep : pts l = [A, B]) (lA : A.length = 2 + m) (cm : canM A B = false) (lf : f.length = m) (l60 : m ≤ 60) (bf : ∀ c ∈ f, c = 48 ∨ c = 49)
    (ret : ∀ q H', Same H H' → H' q = some (.tup [.str "foreign", .str (S l)]) → Q (.ref q) H') : spMove K z.cNoPattern z.cUnlike z.cForeign [.str (S l), .str (S f)] H Q0 (TT8 z Q) := by
  refine ⟨_, _, none, rfl, .inl ⟨l, rfl, by have := hp.len; omega, hp.pf.symm⟩, (fun k e => nomatch e), fun _ l' el => ?_⟩
  cases S_eq.mp el
  rw [if_pos hr]
  intro A' B' ep'
  rw [ep] at ep'
  cases ep'
  refine ⟨none, .inl ⟨f, rfl, by omega, ((cfa_none (Nat.zero_le _)).mpr ⟨by omega, bf⟩).symm⟩, (fun k e => nomatch e), fun _ f' ef => ?_⟩
  cases S_eq.mp ef
  rw [if_neg (by rw [cm]; exact Bool.false_ne_true)]
  exact fun dd H' s hd => .inr (.inl ⟨dd, _, rfl, rfl, hd, fun a' p ha hpp => ret p _ (smN (smN s ha) hpp) upd_same⟩)
theorem heard_unl {K : PySem.W.Frag} {z : Pz} {l : List Nat} {y : V} {H : Hp} {Q0 Q : VK} (ll : l.length ≤ 1000) (hp : pf l = none) (hr : roll l = false)
    (ret : ∀ q H', Same H H' → H' q = some (.tup [.str "unlike"]) → Q (.ref q) H') : spMove K z.cNoPattern z.cUnlike z.cForeign [.str (S l), y] H Q0 (TT8 z Q) := by
  refine ⟨_, _, none, rfl, .inl ⟨l, rfl, ll, hp.symm⟩, (fun k e => nomatch e), fun _ l' el => ?_⟩
  cases S_eq.mp el
  rw [if_neg (by rw [hr]; exact Bool.false_ne_true)]
  exact fun H' s => .inr (.inr ⟨rfl, rfl, fun a' p ha hpp => ret p _ (smN (smN s ha) hpp) upd_same⟩)
theorem heard_pat {K : PySem.W.Frag} {z : Pz} {l : List Nat} {k : Nat} {y : V} {H : Hp} {Q0 Q : VK} (ll : l.length ≤ 1000) (hp : pf l = some k)
    (ret : ∀ q H', Same H H' → H' q = some (.tup [.str "pattern", .int (k : Nat)]) → Q (.ref q) H') : spMove K z.cNoPattern z.cUnlike z.cForeign [.str (S l), y] H Q0 (TT8 z Q) := by
  refine ⟨_, _, some k, rfl, .inl ⟨l, rfl, ll, hp.symm⟩, fun k' ek dd H' s hd => ?_, fun e => nomatch e⟩
  cases ek
  exact .inl ⟨dd, k, rfl, rfl, hd, fun a' p ha hpp => ret p _ (smN (smN s ha) hpp) upd_same⟩
def duD (k : Nat) (l : List Nat) : PyData := .list [.tuple [.str "pattern", .int (k : Nat)], .tuple [.str "pattern", .int (k : Nat)], .tuple [.str "foreign", .str (S l)], .tuple [.str "unlike"], .tuple [.str "pattern", .int ((1 : Nat) : Int)]]
theorem duD_sh {k : Nat} {l : List Nat} (hl : Sg l) : SeqAt.shaped (duD k l) = true := by
  have ok : PyData.strOk (S l) = true := by
    unfold PyData.strOk
    simp only [S, List.all_toArray, List.all_eq_true, decide_eq_true_eq]
    intro c hc
    have := hl c hc
    omega
  unfold SeqAt.shaped duD
  simp [PyData.canLay0, PyData.canLayAll0, PyData.depth, PyData.depthAll, ok, show PyData.strOk ("pattern" : Str) = true by decide +kernel, show PyData.strOk ("foreign" : Str) = true by decide +kernel, show PyData.strOk ("unlike" : Str) = true by decide +kernel]
def spRefM (K : PySem.W.Frag) : Sp := fun vs H Q _ => ∃ (p l q : Addr) (n m : Nat) (A B f : List Nat), vs = [.ref p, .ref q, .str (S f)] ∧ q ≠ p ∧ H q = some (.lst (txV [A, B])) ∧ BlkOk m A B ∧ 1 ≤ m ∧ m ≤ 50 ∧ f.length = m ∧ (∀ c ∈ f, c = 48 ∨ c = 49) ∧ n < 80000 ∧ PenN H p l n ∧
  ∀ H', But p H H' → PenN H' p l (n + 3) → Q (.bl true) H'
section
variable {P : Program} {wo : World} {K : PySem.W.Frag} {mg : Str → Option Value} {base : Heap} {z : Pz} {w : Lz}
theorem ok_Lrefused (T : TxL K mg z w) : FnOk P wo K mg base CX0 7 w.a_Lrefused w.d_Lrefused ["_law_pen_here", "_law_blocks_here", "_law_fresh_here"] (spRefM K) := by
  refine T.F_Lrefused.ok sc_Lrefused (fun vs H Q E h => ?_) (fun cdv A outer s H vs Q E hr h => ?_)
  · obtain ⟨p, l, q, n, m, A, B, f, rfl, _⟩ := h
    rfl
  · obtain ⟨p, l, q, n, m, Ab, B, f, rfl, nqp, hq, ok, h1, hm, lf, bf, hn, hP, ret⟩ := h
    have hr6 : Room 6 _ := hr
    have hr2 : Room 2 _ := hr.mono (by decide)
    have hr1 : Room 1 _ := hr.mono (by decide)
    have hu64 : (A.deeper (envOfC "_law_refused" (defScope s_Lrefused) s.heap.objs.size w.a_Lrefused cdv)).units + 64 < cLine := hr.units
    have G_Ldraw : FnOk P wo K mg base CX0 1 w.a_Ldraw w.d_Ldraw ["_law_pen_here", "_law_many"] spDraw := ok_Ldraw T
    have G_Lpick : FnOk P wo K mg base CX0 2 w.a_Lpick w.d_Lpick ["_law_pen_here", "_law_some"] (spPick K) := ok_Lpick T
    have G_Lheard : FnOk P wo K mg base CX0 6 w.a_Lheard w.d_Lheard ["_law_x", "_law_fresh_here"] (spHeardM K z) := ok_Lheard T
    have la := ok.la
    have lb := ok.lb
    have zz : ∀ k : Nat, k ≤ 1000 → k ≤ sizeLine := fun k h => Nat.le_trans h (by decide)
    have lz : (S f).length ≤ sizeLine := by rw [S_ln]; exact zz _ (by omega)
    obtain ⟨hp, hro, hpt⟩ := join_two ok.ba ok.bb (n := 2 + m) la lb (by omega) (by omega)
    refine ⟨_, (pss_cons (ps_par (i := 3) (j := 4) rfl sc_Lrefused.nd rfl rfl (by decide) rfl rfl (pa_cons (pe_joinK (K := K) rfl pe_str (pa_cons (pv 1) pa_nil)) (pa_cons (pe_callB call_len_str (by rfl) T.n_len (by decide +kernel) (pa_cons (pv 2) pa_nil)) pa_nil)) (by rfl))
      (pss_cons (ps_set (i := 5) sc_Lrefused.nd rfl (Or.inl rfl) (pe_call G_Ldraw hr1 rfl T.g_Ldraw T.k_Ldraw T.b_Ldraw .nil pass0 (pa_cons (pv 0) (pa_cons (pv 4) pa_nil))))
      (pss_cons (ps_set (i := 6) sc_Lrefused.nd rfl (Or.inl rfl) (pe_lst (pa_cons (pe_tup (pa_cons pe_non (pa_cons pe_int pa_nil))) (pa_cons (pe_tup (pa_cons pe_int (pa_cons pe_int pa_nil))) (pa_cons (pe_tup (pa_cons (pe_lst (pa_cons pe_str pa_nil)) (pa_cons pe_int pa_nil))) (pa_cons (pe_tup (pa_cons pe_str (pa_cons pe_int pa_nil))) (pa_cons (pe_tup (pa_cons (pe_slice sl_str (pv 2) po_none (po_some (pv 5))) (pa_cons (pv 5) pa_nil))) (pa_cons (pe_tup (pa_cons (pe_op op_add_str (pv 2) pe_str) (pa_cons (pv 4) pa_nil))) pa_nil))))))))
      (pss_cons (ps_set (i := 6) sc_Lrefused.nd rfl (Or.inl rfl) (pe_op op_cat (pv 6) (pe_lst (pa_cons (pe_tup (pa_cons (pe_op op_add_str (pe_op op_add_str (pe_slice sl_str (pv 2) po_none (po_some (pv 5))) pe_str) (pe_slice sl_str (pv 2) (po_some (pe_op op_add (pv 5) pe_int)) po_none)) (pa_cons (pv 5) pa_nil))) (pa_cons (pe_tup (pa_cons (pe_op op_add_str (pe_op op_add_str (pe_slice sl_str (pv 2) po_none (po_some (pv 5))) pe_str) (pe_slice sl_str (pv 2) (po_some (pv 5)) po_none)) (pa_cons (pv 5) pa_nil))) (pa_cons (pe_tup (pa_cons (pe_op op_add_str (pv 2) pe_str) (pa_cons (pv 4) pa_nil))) pa_nil))))))
      (pss_cons (ps_asg (pe_call G_Lpick hr2 rfl T.g_Lpick T.k_Lpick T.b_Lpick .nil pass0 (pa_cons (pv 0) (pa_cons (pv 6) pa_nil))) (pg_tup rfl (pgs_cons (pg_name (i := 7) sc_Lrefused.nd rfl (Or.inl rfl)) (pgs_cons (pg_name (i := 8) sc_Lrefused.nd rfl (Or.inl rfl)) pgs_nil))))
      (pss_cons (ps_set (i := 9) sc_Lrefused.nd rfl (Or.inr rfl) (pe_call G_Lpick hr2 rfl T.g_Lpick T.k_Lpick T.b_Lpick .nil pass0 (pa_cons (pv 0) (pa_cons (pe_lst (pa_cons (pe_lst (pa_cons pe_str (pa_cons pe_str pa_nil))) (pa_cons (pe_lst (pa_cons pe_str (pa_cons pe_str pa_nil))) (pa_cons (pe_lst (pa_cons pe_str (pa_cons pe_str pa_nil))) (pa_cons (pe_lst (pa_cons pe_str (pa_cons pe_str pa_nil))) (pa_cons (pe_lst (pa_cons pe_str (pa_cons pe_str pa_nil))) pa_nil)))))) pa_nil))))
      (pss_cons (ps_set (i := 10) sc_Lrefused.nd rfl (Or.inl rfl) (pe_joinK (K := K) rfl pe_str (pa_cons (by refine' pe_lc (own := [("_law_at", 13)]) (tt := tYes) rfl sc_Lrefused.nd ?hi (blkOk_by (N := ["_law_pen_here", "_law_blocks_here", "_law_fresh_here", "_law_x", "_law_many", "_law_k", "_law_some", "_law_odd", "_law_where", "_law_marks", "_law_foreign", "_law_heard_here", "_law_due", "_law_at"]) (sc := defScope s_Lrefused) (by first | decide +kernel | kernel_rfl | rfl)) ?hg ?ht ?he (by intro _; rfl); (case hi => exact (pi_range1 rfl T.n_range (pa_cons pe_int pa_nil))); (case hg => exact fun _ _ _ _ _ => (pg_name (i := 13) sc_Lrefused.nd rfl (Or.inl rfl))); (case ht => exact fun _ _ _ _ _ => pts_nil); (case he => exact fun _ _ _ _ _ => (pe_op op_add_str (pe_ix (ix_listK (K := K) rfl) (pv 9) (pv 13) (fun _ _ => rfl)) (pe_slice sl_str (pe_ix (ix_listK (K := K) rfl) (pv 1) (pv 13) (fun _ _ => rfl)) (po_some pe_int) po_none)))) pa_nil)))
      (pss_cons (ps_set (i := 11) sc_Lrefused.nd rfl (Or.inl rfl) (pe_lst (pa_cons (pe_call G_Lheard hr6 rfl T.g_Lheard T.k_Lheard T.b_Lheard .nil pass0 (pa_cons (pv 3) (pa_cons (pv 7) pa_nil))) (pa_cons (pe_call G_Lheard hr6 rfl T.g_Lheard T.k_Lheard T.b_Lheard .nil pass0 (pa_cons (pv 10) (pa_cons (pv 7) pa_nil))) (pa_cons (pe_call G_Lheard hr6 rfl T.g_Lheard T.k_Lheard T.b_Lheard .nil pass0 (pa_cons (pv 10) (pa_cons (pv 2) pa_nil))) (pa_cons (pe_call G_Lheard hr6 rfl T.g_Lheard T.k_Lheard T.b_Lheard .nil pass0 (pa_cons pe_str (pa_cons (pv 7) pa_nil))) pa_nil))))))
      (pss_cons (ps_expr (pe_bm PySem.F.plainAttrs_list PySem.F.slot_list_append PySem.F.type_list_append mt_append (pv 11) (pa_cons (pe_call G_Lheard hr6 rfl T.g_Lheard T.k_Lheard T.b_Lheard .nil pass0 (pa_cons pe_str (pa_cons (pv 7) pa_nil))) pa_nil)))
      (pss_cons (ps_set (i := 12) sc_Lrefused.nd rfl (Or.inl rfl) (pe_lst (pa_cons (pe_tup (pa_cons pe_str (pa_cons (pv 8) pa_nil))) (pa_cons (pe_tup (pa_cons pe_str (pa_cons (pv 8) pa_nil))) (pa_cons (pe_tup (pa_cons pe_str (pa_cons (pv 10) pa_nil))) (pa_cons (pe_tup (pa_cons pe_str pa_nil)) (pa_cons (pe_tup (pa_cons pe_str (pa_cons pe_int pa_nil))) pa_nil)))))))
      (pss_one (ps_ret (pe_cmpR (op_eqD hu64) (pv 11) (pv 12) (nomark _)))))))))))))), ?_⟩
    refine ⟨rfl, _, rfl, ".", q, [Ab, B].map S, rfl, rfl, .inl (SqL.of hq), ?_, ?_⟩
    · rw [SX.lens]
      show [Ab.length, B.length].sum + 2 * 1 ≤ sizeLine
      exact zz _ (by simp; omega)
    have ej : Txt.join "." ([Ab, B].map S) = S (TL.joinL [46] [Ab, B]) := by rw [S_d, SX.join_S]
    rw [ej]
    generalize TL.joinL [46] [Ab, B] = x at hp hro hpt
    have lx := hp.len
    refine ⟨_, rfl, S f, rfl, lz, ?_⟩
    rw [S_ln, lf]
    refine ⟨_, _, rfl, ?_⟩
    refine ⟨_, rfl, _, rfl, p, l, (m : Int), n, rfl, by omega, by omega, by omega, hP, fun d H1 hd0 hd1 P1 B1 => ?_⟩
    obtain ⟨j, rfl⟩ : ∃ j : Nat, d = (j : Int) := ⟨d.toNat, by omega⟩
    have hj : j < m := by omega
    have hq1 := B1 _ _ nqp hq
    have bt : ∀ c ∈ f.take j, c = 48 ∨ c = 49 := fun c hc => bf c (List.mem_of_mem_take hc)
    have lt : (f.take j).length = j := by rw [List.length_take]; omega
    -- the odd ones
    refine ⟨by show 2 ≤ sizeLine; decide, fun t1 h1' => ?_⟩
    have g1 := gc_add (K := K) (m := m) (xs := []) (x := .non) (k := 0) (fun v hv => by cases hv) h1' (.inr ⟨⟨_, .non, kit_ty (by decide +kernel)⟩, rfl⟩)
    have s1 := smN (o := .tup [.non, .int ((0 : Nat) : Int)]) (Same.refl _) h1'
    refine ⟨by show 2 ≤ sizeLine; decide, fun t2 h2 => ?_⟩
    have g2 := gc_add (x := .int 1) (k := 0) g1 h2 (.inr ⟨⟨_, .int _, kit_ty (by decide +kernel)⟩, rfl⟩)
    have s2 := smN (o := .tup [.int 1, .int ((0 : Nat) : Int)]) s1 h2
    refine ⟨by show 1 ≤ sizeLine; decide, fun q3 hq3 => ?_⟩
    have s3a := smN (o := .lst [.str "1"]) s2 hq3
    have g3a := gc_new (smN (o := .lst [.str "1"]) (Same.refl _) hq3) g2
    refine ⟨by show 2 ≤ sizeLine; decide, fun t3 h3 => ?_⟩
    have g3 := gc_add (x := .ref q3) (k := 0) g3a h3 (.inr ⟨⟨_, .lst upd_same, kit_ty (by decide +kernel)⟩, rfl⟩)
    have s3 := smN (o := .tup [.ref q3, .int ((0 : Nat) : Int)]) s3a h3
    refine ⟨by show 2 ≤ sizeLine; decide, fun t4 h4 => ?_⟩
    have g4 := gc_add (x := .str "") (k := 0) g3 h4 (.inl ⟨[], by rw [S_e], by decide, by show (if 0 < m then some 0 else none) = some 0; rw [if_pos (by omega)]⟩)
    have s4 := smN (o := .tup [.str "", .int ((0 : Nat) : Int)]) s3 h4
    refine ⟨_, rfl, _, rfl, (j : Int), rfl, S f, rfl, lz, ?_⟩
    rw [cut_to]
    refine ⟨_, rfl, by show 2 ≤ sizeLine; decide, fun t5 h5 => ?_⟩
    have g5 := gc_add (x := .str (S (f.take j))) (k := j) g4 h5 (.inl ⟨_, rfl, by omega, by
      have e := cfa_pre (u := f.take j) (r := []) (a := 0) (m := m) bt (by omega)
      rw [List.append_nil] at e
      rw [e, lt]
      show (if 0 + j < m then some (0 + j) else none) = some j
      rw [if_pos (by omega), Nat.zero_add]⟩)
    have s5 := smN (o := .tup [.str (S (f.take j)), .int (j : Nat)]) s4 h5
    refine ⟨_, rfl, S f, "1", rfl, rfl, by rw [S_1, S_ln, S_ln, lf]; exact zz _ (by show m + 1 ≤ 1000; omega), ?_⟩
    rw [S_1, SX.S_cat]
    refine ⟨_, rfl, by show 2 ≤ sizeLine; decide, fun t6 h6 => ?_⟩
    have g6 := gc_add (x := .str (S (f ++ [49]))) (k := m) g5 h6 (.inl ⟨_, rfl, by rw [List.length_append]; show _ + 1 ≤ 1000; omega, by
      rw [cfa_pre bf (by omega), lf]
      show (if 0 + m = m ∨ ¬ (49 = 48 ∨ 49 = 49) then some (0 + m) else cfa [] (0 + m + 1) m) = some m
      rw [if_pos (.inl (Nat.zero_add m)), Nat.zero_add]⟩)
    have s6 := smN (o := .tup [.str (S (f ++ [49])), .int (m : Nat)]) s5 h6
    refine ⟨by show 6 ≤ sizeLine; decide, fun L1 hL1 => ?_⟩
    have g6' := gc_new (smN (o := .lst [.ref t1, .ref t2, .ref t3, .ref t4, .ref t5, .ref t6]) (Same.refl _) hL1) g6
    have s6' := smN (o := .lst [.ref t1, .ref t2, .ref t3, .ref t4, .ref t5, .ref t6]) s6 hL1
    refine ⟨_, rfl, ?_⟩
    refine ⟨_, rfl, _, rfl, (j : Int), rfl, S f, rfl, lz, ?_⟩
    rw [cut_to]
    refine ⟨_, _, rfl, rfl, by rw [S_d, S_ln, S_ln, lt]; exact zz _ (by show j + 1 ≤ 1000; omega), ?_⟩
    rw [S_d, SX.S_cat]
    refine ⟨_, rfl, _, rfl, _, _, rfl, rfl, ((j + 1 : Nat) : Int), rfl, S f, rfl, lz, ?_⟩
    rw [cut_from]
    refine ⟨_, _, rfl, rfl, by rw [S_ln, S_ln, List.length_append, lt, List.length_drop]; exact zz _ (by show j + 1 + (f.length - (j + 1)) ≤ 1000; omega), ?_⟩
    rw [SX.S_cat]
    refine ⟨_, rfl, by show 2 ≤ sizeLine; decide, fun t7 h7 => ?_⟩
    have g7 := gc_add (x := .str (S (f.take j ++ [46] ++ f.drop (j + 1)))) (k := j) g6' h7 (.inl ⟨_, rfl, by rw [List.length_append, List.length_append, lt, List.length_drop]; show j + 1 + _ ≤ 1000; omega, by
      rw [List.append_assoc, cfa_pre bt (by omega), lt]
      show (if 0 + j = m ∨ ¬ (46 = 48 ∨ 46 = 49) then some (0 + j) else cfa _ (0 + j + 1) m) = some j
      rw [if_pos (.inr (by decide)), Nat.zero_add]⟩)
    have s7 := smN (o := .tup [.str (S (f.take j ++ [46] ++ f.drop (j + 1))), .int (j : Nat)]) (Same.refl _) h7
    refine ⟨_, rfl, _, rfl, (j : Int), rfl, S f, rfl, lz, ?_⟩
    rw [cut_to]
    have ex : ("x" : Str) = S [120] := by decide +kernel
    refine ⟨_, _, rfl, rfl, by rw [ex, S_ln, S_ln, lt]; exact zz _ (by show j + 1 ≤ 1000; omega), ?_⟩
    rw [ex, SX.S_cat]
    refine ⟨_, rfl, _, rfl, (j : Int), rfl, S f, rfl, lz, ?_⟩
    rw [cut_from]
    refine ⟨_, _, rfl, rfl, by rw [S_ln, S_ln, List.length_append, lt, List.length_drop]; exact zz _ (by show j + 1 + (f.length - j) ≤ 1000; omega), ?_⟩
    rw [SX.S_cat]
    refine ⟨_, rfl, by show 2 ≤ sizeLine; decide, fun t8 h8 => ?_⟩
    have g8 := gc_add (x := .str (S (f.take j ++ [120] ++ f.drop j))) (k := j) g7 h8 (.inl ⟨_, rfl, by rw [List.length_append, List.length_append, lt, List.length_drop]; show j + 1 + _ ≤ 1000; omega, by
      rw [List.append_assoc, cfa_pre bt (by omega), lt]
      show (if 0 + j = m ∨ ¬ (120 = 48 ∨ 120 = 49) then some (0 + j) else cfa _ (0 + j + 1) m) = some j
      rw [if_pos (.inr (by decide)), Nat.zero_add]⟩)
    have s8 := smN (o := .tup [.str (S (f.take j ++ [120] ++ f.drop j)), .int (j : Nat)]) s7 h8
    have eb : (" " : Str) = S [32] := by decide +kernel
    refine ⟨_, rfl, S f, " ", rfl, rfl, by rw [eb, S_ln, S_ln, lf]; exact zz _ (by show m + 1 ≤ 1000; omega), ?_⟩
    rw [eb, SX.S_cat]
    refine ⟨_, rfl, by show 2 ≤ sizeLine; decide, fun t9 h9 => ?_⟩
    have g9 := gc_add (x := .str (S (f ++ [32]))) (k := m) g8 h9 (.inl ⟨_, rfl, by rw [List.length_append]; show _ + 1 ≤ 1000; omega, by
      rw [cfa_pre bf (by omega), lf]
      show (if 0 + m = m ∨ ¬ (32 = 48 ∨ 32 = 49) then some (0 + m) else cfa [] (0 + m + 1) m) = some m
      rw [if_pos (.inl (Nat.zero_add m)), Nat.zero_add]⟩)
    have s9 := smN (o := .tup [.str (S (f ++ [32])), .int (m : Nat)]) s8 h9
    refine ⟨by show 3 ≤ sizeLine; decide, fun L2 hL2 => ?_⟩
    have g9' := gc_new (smN (o := .lst [.ref t7, .ref t8, .ref t9]) (Same.refl _) hL2) g9
    have s9' := smN (o := .lst [.ref t7, .ref t8, .ref t9]) s9 hL2
    have m1 := s9' _ _ (upd_same (a := L1))
    refine ⟨L1, L2, _, _, rfl, rfl, m1, upd_same, by show 6 + 3 ≤ sizeLine; decide, fun L3 hL3 => ?_⟩
    have gA := gc_new (smN (o := .lst ([.ref t1, .ref t2, .ref t3, .ref t4, .ref t5, .ref t6] ++ [.ref t7, .ref t8, .ref t9])) (Same.refl _) hL3) g9'
    have sA := smN (o := .lst ([.ref t1, .ref t2, .ref t3, .ref t4, .ref t5, .ref t6] ++ [.ref t7, .ref t8, .ref t9])) (s6'.trans s9') hL3
    have PA0 := P1.same (s6'.trans s9')
    have PA := P1.same sA
    clear g1 g2 g3a g3 g4 g5 g6 g6' g7 g8 g9 g9' s1 s2 s3a s3 s4 s5 s6 s7 s8 s9
    refine ⟨_, rfl, _, rfl, p, l, L3, n + 1, _, rfl, upd_same, Ne.symm (PA0.nep hL3), by show 1 ≤ 9; decide, by show 9 ≤ 1000; decide, by omega, PA, fun i v H2 ev B2 P2 => ?_⟩
    obtain ⟨t, y, k, rfl, ht, oy⟩ := gA v (List.mem_of_getElem? (by simpa using ev))
    have oy2 := oy.but B2 PA P2
    have hq2 := B2 _ _ nqp (sA _ _ hq1)
    refine ⟨t, _, rfl, SqT.of (B2 _ _ (PA.ne_tup ht) ht), rfl, ?_⟩
    refine ⟨_, _, rfl, ?_⟩
    refine ⟨_, _, rfl, ?_⟩
    refine ⟨rfl, ?_⟩
    have b02 := (B1.trans (But.of sA)).trans B2
    clear gA oy ht
    -- foreign headers
    refine ⟨_, rfl, ?_⟩
    refine ⟨by show 2 ≤ sizeLine; decide, fun q1 h1 => ?_⟩
    have g1 := gx_add (L := bad5) (p := p) (xs := []) (x := .str "11") (y := .str "11") (fun v hv => by cases hv) h1 (Ne.symm (P2.nep h1)) (by simp [bad5])
    have P3 := P2.new (o := .lst [.str "11", .str "11"]) h1
    have c1 := smN (o := .lst [.str "11", .str "11"]) (Same.refl H2) h1
    refine ⟨by show 2 ≤ sizeLine; decide, fun q2 h2 => ?_⟩
    have g2 := gx_add (x := .str "00") (y := .str "11") g1 h2 (Ne.symm (P3.nep h2)) (by simp [bad5])
    have P4 := P3.new (o := .lst [.str "00", .str "11"]) h2
    have c2 := smN (o := .lst [.str "00", .str "11"]) c1 h2
    refine ⟨by show 2 ≤ sizeLine; decide, fun q3 h3 => ?_⟩
    have g3 := gx_add (x := .str "00") (y := .str "00") g2 h3 (Ne.symm (P4.nep h3)) (by simp [bad5])
    have P5 := P4.new (o := .lst [.str "00", .str "00"]) h3
    have c3 := smN (o := .lst [.str "00", .str "00"]) c2 h3
    refine ⟨by show 2 ≤ sizeLine; decide, fun q4 h4 => ?_⟩
    have g4 := gx_add (x := .str "10") (y := .str "00") g3 h4 (Ne.symm (P5.nep h4)) (by simp [bad5])
    have P6 := P5.new (o := .lst [.str "10", .str "00"]) h4
    have c4 := smN (o := .lst [.str "10", .str "00"]) c3 h4
    refine ⟨by show 2 ≤ sizeLine; decide, fun q5 h5 => ?_⟩
    have g5 := gx_add (x := .str "00") (y := .str "01") g4 h5 (Ne.symm (P6.nep h5)) (by simp [bad5])
    have P7 := P6.new (o := .lst [.str "00", .str "01"]) h5
    have c5 := smN (o := .lst [.str "00", .str "01"]) c4 h5
    refine ⟨by show 5 ≤ sizeLine; decide, fun L5 hL5 => ?_⟩
    have g6 := gx_new (o := .lst [.ref q1, .ref q2, .ref q3, .ref q4, .ref q5]) g5 hL5
    have P8 := P7.new (o := .lst [.ref q1, .ref q2, .ref q3, .ref q4, .ref q5]) hL5
    have c6 := smN (o := .lst [.ref q1, .ref q2, .ref q3, .ref q4, .ref q5]) c5 hL5
    refine ⟨p, l, L5, n + 1 + 1, _, rfl, upd_same, Ne.symm (P7.nep hL5), by show 1 ≤ 5; decide, by show 5 ≤ 1000; decide, by omega, P8, fun i v H3 ev B3 P9 => ?_⟩
    obtain ⟨qm, xa, xb, rfl, nqm, hqm, mem⟩ := g6 v (List.mem_of_getElem? (by simpa using ev))
    have hqm3 := B3 _ _ nqm hqm
    obtain ⟨a, b, rfl, rfl, la2, lb2, bta, btb, can⟩ := bad5_ok mem
    have hq3 := B3 _ _ nqp (c6 _ _ hq2)
    have oy3 := (oy2.same c6).but B3 P8 P9
    have b03 := (b02.trans (But.of c6)).trans B3
    clear g1 g2 g3 g4 g5 g6 c1 c2 c3 c4 c5 c6 hqm
    refine ⟨rfl, 2, rfl, by decide, by decide, fun D hD => ?_⟩
    refine lc_outR (n := 2) (outM fun i => V.str (S ((if i = 0 then a else b) ++ (([Ab, B] : List (List Nat)).getD i []).drop 2))) hD outM_0 (fun i hi => by rw [outM_l]; exact small1 i (by omega)) (fun i H4 Kc K0 lt s4 kc k0 => ?_) (fun H4 s4 e4 => ?_)
    · have i01 : i = 0 ∨ i = 1 := by omega
      have lA2 : (if i = 0 then a else b).length = 2 := by split; exact la2; exact lb2
      have lB2 : (([Ab, B] : List (List Nat)).getD i []).length = 2 + m := by rcases i01 with rfl | rfl; exact la; exact lb
      refine ⟨rfl, yes1 ?_⟩
      refine ⟨_, rfl, _, rfl, qm, _, ((0 : Int) + (i : Nat)), .str (S (if i = 0 then a else b)), rfl, rfl, SqL.of (s4 _ _ hqm3), by rcases i01 with rfl | rfl <;> rfl, ?_⟩
      refine ⟨_, rfl, _, rfl, q, _, ((0 : Int) + (i : Nat)), .str (S (([Ab, B] : List (List Nat)).getD i [])), rfl, rfl, SqL.of (s4 _ _ hq3), by rcases i01 with rfl | rfl <;> rfl, 2, rfl, S (([Ab, B] : List (List Nat)).getD i []), rfl, by rw [S_ln, lB2]; exact zz _ (by omega), ?_⟩
      rw [cut_tl]
      refine ⟨_, _, rfl, rfl, by rw [S_ln, S_ln, lA2, List.length_drop, lB2]; exact zz _ (by show 2 + (2 + m - 2) ≤ 1000; omega), kc _ _ (Same.refl _) ?_⟩
      rw [outM_s, SX.S_cat]
    have e4 : H4 D = some (.lst (txV [a ++ Ab.drop 2, b ++ B.drop 2])) := e4
    have bfa : ∀ c ∈ a ++ Ab.drop 2, c = 48 ∨ c = 49 := fun c hc => by
      rcases List.mem_append.mp hc with h | h
      · exact bta c h
      · exact ok.ba c (List.mem_of_mem_drop h)
    have bfb : ∀ c ∈ b ++ B.drop 2, c = 48 ∨ c = 49 := fun c hc => by
      rcases List.mem_append.mp hc with h | h
      · exact btb c h
      · exact ok.bb c (List.mem_of_mem_drop h)
    have lfa : (a ++ Ab.drop 2).length = 2 + m := by rw [List.length_append, List.length_drop]; omega
    have lfb : (b ++ B.drop 2).length = 2 + m := by rw [List.length_append, List.length_drop]; omega
    obtain ⟨hpf, hrof, hptf⟩ := join_two bfa bfb (n := 2 + m) lfa lfb (by omega) (by omega)
    have canf := can (Ab.drop 2) (B.drop 2)
    generalize a ++ Ab.drop 2 = Fa at e4 bfa lfa hpf hrof hptf canf
    generalize b ++ B.drop 2 = Fb2 at e4 bfb lfb hpf hrof hptf canf
    refine ⟨".", D, [Fa, Fb2].map S, rfl, rfl, .inl (SqL.of e4), ?_, ?_⟩
    · rw [SX.lens]
      show [Fa.length, Fb2.length].sum + 2 * 1 ≤ sizeLine
      exact zz _ (by simp; omega)
    have ejf : Txt.join "." ([Fa, Fb2].map S) = S (TL.joinL [46] [Fa, Fb2]) := by rw [S_d, SX.join_S]
    rw [ejf]
    generalize TL.joinL [46] [Fa, Fb2] = fo at hpf hrof hptf
    have oy4 := oy3.same s4
    -- what is heard
    refine ⟨_, rfl, _, rfl, _, _, rfl, fun u1 k1 => heard_cont hp hro hpt la (oy4.same (smN (Same.refl _) k1)) fun r1 Ha sa ma => ?_⟩
    have ta := (smN (o := .tup [.non, .non]) (Same.refl H4) k1).trans sa
    refine ⟨_, rfl, _, rfl, _, _, rfl, fun u2 k2 => heard_cont hpf hrof hptf lfa ((oy4.same ta).same (smN (Same.refl _) k2)) fun r2 Hb sb mb => ?_⟩
    have tb := (smN (o := .tup [.non, .non]) (Same.refl Ha) k2).trans sb
    refine ⟨_, rfl, _, rfl, _, _, rfl, fun u3 k3 => heard_for hpf hrof hptf lfa canf lf (by omega) bf fun r3 Hc sc mc => ?_⟩
    have tc := (smN (o := .tup [.non, .non]) (Same.refl Hb) k3).trans sc
    refine ⟨_, rfl, _, _, (by rw [show ("1.1" : Str) = S [49, 46, 49] by decide +kernel] <;> rfl), fun u4 k4 => heard_unl (by decide) (by decide +kernel) (by decide +kernel) fun r4 Hd sd md => ?_⟩
    have td := (smN (o := .tup [.non, .non]) (Same.refl Hc) k4).trans sd
    refine ⟨by show 4 ≤ sizeLine; decide, fun L6 hL6 => ?_⟩
    have te := smN (o := .lst [.ref r1, .ref r2, .ref r3, .ref r4]) (Same.refl Hd) hL6
    refine ⟨_, rfl, .inl ⟨rfl, _, SqL.of upd_same⟩, _, rfl, _, _, (by rw [show ("1x" : Str) = S [49, 120] by decide +kernel] <;> rfl), fun u5 k5 => heard_pat (k := 1) (by decide) (by decide +kernel) fun r5 He se me => ?_⟩
    have tf := (smN (o := .tup [.non, .non]) (Same.refl _) k5).trans se
    have mL := tf _ _ (upd_same (a := L6) (H := Hd) (o := .lst [.ref r1, .ref r2, .ref r3, .ref r4]))
    refine ⟨L6, _, .ref r5, rfl, rfl, mL, by show 4 < sizeLine; decide, ?_⟩
    have bcde := ((tb.trans tc).trans td).trans (te.trans tf)
    have kp : ∀ c xs, He c = some (.tup xs) → (upd He L6 (.lst ([.ref r1, .ref r2, .ref r3, .ref r4] ++ [.ref r5]))) c = some (.tup xs) := keepL mL
    have n1 := kp _ _ (bcde _ _ ma)
    have n2 := kp _ _ (((tc.trans td).trans (te.trans tf)) _ _ mb)
    have n3 := kp _ _ ((td.trans (te.trans tf)) _ _ mc)
    have n4 := kp _ _ ((te.trans tf) _ _ md)
    have n5 := kp _ _ me
    have nL : (upd He L6 (.lst ([.ref r1, .ref r2, .ref r3, .ref r4] ++ [.ref r5]))) L6 = some (.lst [.ref r1, .ref r2, .ref r3, .ref r4, .ref r5]) := upd_same
    have hL4 : H4 L6 = none := by
      cases h : H4 L6 with
      | none => rfl
      | some o =>
        have := (((ta.trans tb).trans tc).trans td) _ _ h
        rw [this] at hL6
        cases hL6
    have s4f : Same H4 (upd He L6 (.lst ([.ref r1, .ref r2, .ref r3, .ref r4] ++ [.ref r5]))) := same_put (ta.trans bcde) hL4
    generalize upd He L6 (.lst ([.ref r1, .ref r2, .ref r3, .ref r4] ++ [.ref r5])) = Hf at n1 n2 n3 n4 n5 nL s4f
    -- as it is due
    refine ⟨_, rfl, by show 2 ≤ sizeLine; decide, fun d1 hd1 => ?_⟩
    have v1 := smN (o := .tup [.str "pattern", .int (k : Nat)]) (Same.refl Hf) hd1
    have w1 : (upd Hf d1 (.tup [.str "pattern", .int (k : Nat)])) d1 = some (.tup [.str "pattern", .int (k : Nat)]) := upd_same
    generalize upd Hf d1 (.tup [.str "pattern", .int (k : Nat)]) = Hg at v1 w1
    refine ⟨_, rfl, by show 2 ≤ sizeLine; decide, fun d2 hd2 => ?_⟩
    have v2 := smN (o := .tup [.str "pattern", .int (k : Nat)]) (Same.refl Hg) hd2
    have w2 : (upd Hg d2 (.tup [.str "pattern", .int (k : Nat)])) d2 = some (.tup [.str "pattern", .int (k : Nat)]) := upd_same
    generalize upd Hg d2 (.tup [.str "pattern", .int (k : Nat)]) = Hh at v2 w2
    refine ⟨_, rfl, by show 2 ≤ sizeLine; decide, fun d3 hd3 => ?_⟩
    have v3 := smN (o := .tup [.str "foreign", .str (S fo)]) (Same.refl Hh) hd3
    have w3 : (upd Hh d3 (.tup [.str "foreign", .str (S fo)])) d3 = some (.tup [.str "foreign", .str (S fo)]) := upd_same
    generalize upd Hh d3 (.tup [.str "foreign", .str (S fo)]) = Hi at v3 w3
    refine ⟨by show 1 ≤ sizeLine; decide, fun d4 hd4 => ?_⟩
    have v4 := smN (o := .tup [.str "unlike"]) (Same.refl Hi) hd4
    have w4 : (upd Hi d4 (.tup [.str "unlike"])) d4 = some (.tup [.str "unlike"]) := upd_same
    generalize upd Hi d4 (.tup [.str "unlike"]) = Hj at v4 w4
    refine ⟨by show 2 ≤ sizeLine; decide, fun d5 hd5 => ?_⟩
    have v5 := smN (o := .tup [.str "pattern", .int 1]) (Same.refl Hj) hd5
    have w5 : (upd Hj d5 (.tup [.str "pattern", .int 1])) d5 = some (.tup [.str "pattern", .int 1]) := upd_same
    generalize upd Hj d5 (.tup [.str "pattern", .int 1]) = Hk at v5 w5
    refine ⟨by show 5 ≤ sizeLine; decide, fun L7 hL7 => ?_⟩
    have v6 := smN (o := .lst [.ref d1, .ref d2, .ref d3, .ref d4, .ref d5]) (Same.refl Hk) hL7
    have vA := (((v1.trans v2).trans v3).trans v4).trans (v5.trans v6)
    have sg : Sg fo := hpf.sg
    refine ⟨_, rfl, _, rfl, duD k fo, duD k fo,
      .lst (SqL.of (vA _ _ nL)) (.cons (.tup (SqT.of (vA _ _ n1)) (.cons (.str _) (.cons (.int _) .nil))) (.cons (.tup (SqT.of (vA _ _ n2)) (.cons (.str _) (.cons (.int _) .nil))) (.cons (.tup (SqT.of (vA _ _ n3)) (.cons (.str _) (.cons (.str _) .nil))) (.cons (.tup (SqT.of (vA _ _ n4)) (.cons (.str _) .nil)) (.cons (.tup (SqT.of (vA _ _ n5)) (.cons (.str _) (.cons (.int _) .nil))) .nil))))),
      .lst (SqL.of upd_same) (.cons (.tup (SqT.of (((((v2.trans v3).trans v4).trans v5).trans v6) _ _ w1)) (.cons (.str _) (.cons (.int _) .nil))) (.cons (.tup (SqT.of ((((v3.trans v4).trans v5).trans v6) _ _ w2)) (.cons (.str _) (.cons (.int _) .nil))) (.cons (.tup (SqT.of (((v4.trans v5).trans v6) _ _ w3)) (.cons (.str _) (.cons (.str _) .nil))) (.cons (.tup (SqT.of ((v5.trans v6) _ _ w4)) (.cons (.str _) .nil)) (.cons (.tup (SqT.of (v6 _ _ w5)) (.cons (.str _) (.cons (.int _) .nil))) .nil))))),
      duD_sh sg, duD_sh sg, ?_⟩
    have eq : PyData.eqv (duD k fo) (duD k fo) = true := by unfold duD; simp [PyData.eqv, PyData.eqvAll]
    rw [eq]
    have s3f := (s4.trans s4f).trans vA
    exact ret _ (b03.trans (But.of s3f)) ((P9.same s3f).mono (by omega))
end
end Fb
set_option maxRecDepth 100000
set_option maxHeartbeats 4000000
namespace Fb
open PySem PySem.Spec PyProof.Rows L2
open SX (S)
/-! data that is shown -/
theorem shown_tab : ∀ n, n < 200 → (PyData.shown (.int ((n : Nat) : Int))).length ≤ 13 := by decide +kernel
theorem intD_small {n : Nat} (h : n < 1024) : ((n : Int)).natAbs.log2 < 10 := by
  show n.log2 < 10
  by_cases e : n = 0
  · subst e; decide
  · rw [Nat.log2_lt e]
    exact h
theorem numD_ok : ∀ ns : List Nat, (∀ n ∈ ns, n < 200) → PyData.showableAll (numD ns) = true ∧ PyData.hasDictAll (numD ns) = false ∧ PyData.weightAll (numD ns) ≤ 12 * ns.length ∧ PyData.intsShortAll 13 (numD ns) = true
  | [], _ => ⟨rfl, rfl, Nat.le_refl _, by simp [numD, PyData.intsShortAll]⟩
  | n :: ns, h => by
    obtain ⟨h1, h2, h3, h4⟩ := numD_ok ns fun x hx => h x (List.mem_cons_of_mem _ hx)
    have hn2 := h n List.mem_cons_self
    have hn := intD_small (Nat.lt_trans hn2 (by decide))
    unfold numD at *
    rw [List.map_cons]
    refine ⟨?_, ?_, ?_, ?_⟩
    · rw [PyData.showableAll, h1, PyData.showable, Bool.and_true]
      exact decide_eq_true (by omega)
    · rw [PyData.hasDictAll, h2, PyData.hasDict] <;> rfl
    · rw [PyData.weightAll, PyData.weight, List.length_cons]
      split <;> omega
    · simp only [PyData.intsShortAll, h4, Bool.and_true, PyData.intsShort]
      exact decide_eq_true (shown_tab n hn2)
def DOk (d : PyData) : Prop := d.showable = true ∧ d.hasDict = false ∧ d.depth = 0 ∧ d.canLay0 = true ∧ d.weight ≤ 200 ∧ PyData.intsShort 13 d = true
theorem dok_none : DOk .none := by unfold DOk; decide +kernel
theorem dok_str {t : List Nat} (sg : Sg t) (ll : t.length ≤ 100) : DOk (.str (S t)) := by
  refine ⟨rfl, rfl, rfl, ?_, ?_, rfl⟩
  · show PyData.strOk (S t) = true
    unfold PyData.strOk
    simp only [S, List.all_toArray, List.all_eq_true, decide_eq_true_eq]
    intro c hc
    have := sg c hc
    omega
  · show (S t).cps.size ≤ 200
    rw [S_sz]
    omega
theorem wrs_len {H : Hp} : ∀ {vs : List V} {ds : List PyData}, Paired (Wr H) vs ds → vs.length = ds.length
  | [], [], .nil => rfl
  | _ :: _, _ :: _, .cons _ t => by rw [List.length_cons, List.length_cons, wrs_len t]
theorem atI_lastV {vs : List V} {v : V} : atI (vs ++ [v]) (-1) = some v := atI_last vs v
/-! data of writes that is shown -/
def WDk (d : PyData) : Prop := d.showable = true ∧ d.hasDict = false ∧ d.depth ≤ 2 ∧ d.canLay0 = true ∧ d.weight ≤ 2000 ∧ PyData.intsShort 13 d = true
theorem wdk_all : ∀ ds : List PyData, (∀ d ∈ ds, WDk d) → PyData.showableAll ds = true ∧ PyData.hasDictAll ds = false ∧ PyData.depthAll ds ≤ 2 ∧ PyData.canLayAll0 ds = true ∧ PyData.weightAll ds ≤ 2001 * ds.length ∧ PyData.intsShortAll 13 ds = true
  | [], _ => ⟨rfl, rfl, by decide, rfl, by decide, by simp [PyData.intsShortAll]⟩
  | d :: ds, h => by
    obtain ⟨h1, h2, h3, h4, h5, h6⟩ := wdk_all ds fun x hx => h x (List.mem_cons_of_mem _ hx)
    obtain ⟨g1, g2, g3, g4, g5, g6⟩ := h d List.mem_cons_self
    refine ⟨?_, ?_, ?_, ?_, ?_, ?_⟩
    · rw [PyData.showableAll, g1, h1] <;> rfl
    · rw [PyData.hasDictAll, g2, h2] <;> rfl
    · rw [PyData.depthAll]; omega
    · rw [PyData.canLayAll0, g4, h4] <;> rfl
    · rw [PyData.weightAll, List.length_cons]; omega
    · simp only [PyData.intsShortAll, g6, h6, Bool.and_true]
theorem wdk_list {ds : List PyData} (h : ∀ d ∈ ds, WDk d) (l : ds.length ≤ 10) : (PyData.list ds).showable = true ∧ (PyData.list ds).hasDict = false ∧ (PyData.list ds).depth ≤ 60 ∧ (PyData.list ds).shown.length ≤ sizeLine := by
  obtain ⟨h1, h2, h3, h4, h5, h6⟩ := wdk_all ds h
  have d0 : (PyData.list ds).depth ≤ 3 := by rw [PyData.depth]; omega
  refine ⟨by rw [PyData.showable]; exact h1, by rw [PyData.hasDict]; exact h2, by omega, ?_⟩
  have lay : PyData.layable0 (.list ds) = true := by
    have c0 : (PyData.list ds).canLay0 = true := by rw [PyData.canLay0]; exact h4
    have w0 : (PyData.list ds).weight ≤ 2 ^ 20 := by rw [PyData.weight]; omega
    unfold PyData.layable0
    rw [c0, decide_eq_true (show (PyData.list ds).depth ≤ 64 by omega), decide_eq_true w0] <;> rfl
  have sh : PyData.intsShort 13 (.list ds) = true := by rw [PyData.intsShort]; exact h6
  exact Nat.le_trans (shown_le13 lay sh) (by decide)
theorem wdk_erase {o : Nat} (h : o ≤ 1) : WDk (.tuple [.str "erase", .int (o : Nat)]) := by
  have : o = 0 ∨ o = 1 := by omega
  unfold WDk
  rcases this with rfl | rfl <;> decide +kernel
theorem wdk_fall {ns : List Nat} (hn : ∀ n ∈ ns, n < 200) (l : ns.length ≤ 100) : WDk (.tuple [.str "fall", .tuple (numD ns)]) := by
  obtain ⟨n1, n2, n3, n4⟩ := numD_ok ns hn
  obtain ⟨n5, n6⟩ := lay_nums ns
  have fs : PyData.strOk ("fall" : Str) = true := by decide +kernel
  refine ⟨by simp [PyData.showable, PyData.showableAll, n1, fs], by simp [PyData.hasDict, PyData.hasDictAll, n2], by simp [PyData.depth, PyData.depthAll, n6], by simp [PyData.canLay0, PyData.canLayAll0, n5, fs], ?_, by simp [PyData.intsShort, PyData.intsShortAll, n4]⟩
  have w : PyData.weight (.str "fall") ≤ 100 := by decide +kernel
  simp only [PyData.weight, PyData.weightAll] at w ⊢
  omega
theorem mvD_ok {A B f : List Nat} {m : Nat} (ok : BlkOk m A B) (hm : m ≤ 60) (lf : f.length = m) : (∀ d ∈ mvD A B f, WDk d) ∧ (mvD A B f).length ≤ 3 := by
  obtain ⟨k, ek, k01, mkk, kk⟩ := canM_k ok.can
  have la := ok.la
  have lb := ok.lb
  have fst : mvFirst k A.length ≤ 62 := by unfold mvFirst; split <;> omega
  have lO : (mvO A B k).length = 2 + m := by unfold mvO; split; exact lb; exact la
  have lK : (mvKept (mvO A B k) f).length = m := by
    unfold mvKept
    split
    · rw [List.length_replicate, lf]
    · rw [List.length_drop, lO]; omega
  have stl : (stb (mvKept (mvO A B k) f)).length ≤ m := by
    unfold stb
    exact Nat.le_trans (List.length_filter_le _ _) (by rw [List.length_range, lK]; exact Nat.le_refl _)
  have m0 : mk0 (mkb (A.take 2) (B.take 2) k) ≤ 1 := by unfold mk0; split <;> omega
  unfold mvD
  rw [kk]
  constructor
  · intro d hd
    rcases List.mem_append.mp hd with h | h
    · rcases List.mem_append.mp h with h | h
      · split at h
        · rw [List.mem_singleton.mp h]
          exact wdk_erase (by omega)
        · cases h
      · split at h
        · cases h
        · rw [List.mem_singleton.mp h]
          refine wdk_fall (fun n hn => ?_) ?_
          · unfold mvFal at hn
            obtain ⟨b, hb, rfl⟩ := List.mem_map.mp hn
            have := (List.getElem?_eq_some_iff.mp (stb_mem.mp (List.mem_filter.mp hb).1)).1
            omega
          · unfold mvFal
            rw [List.length_map]
            exact Nat.le_trans (List.length_filter_le _ _) (by omega)
    · rw [List.mem_singleton.mp h]
      refine wdk_fall (fun n hn => ?_) (by show 1 ≤ 100; decide)
      rw [List.mem_singleton.mp hn]
      omega
  · rw [List.length_append, List.length_append]
    have e1 : (if mvNeed (mvO A B k) f = true then [PyData.tuple [.str "erase", .int ((1 - k : Nat) : Nat)]] else []).length ≤ 1 := by split <;> simp
    have e2 : (if mvFal (mvKept (mvO A B k) f) f (mvFirst k A.length) = [] then [] else [PyData.tuple [.str "fall", .tuple (numD (mvFal (mvKept (mvO A B k) f) f (mvFirst k A.length)))]]).length ≤ 1 := by split <;> simp
    show _ + _ + 1 ≤ 3
    omega
/-- the first ones of the rows -/
theorem rows_get {H : Hp} : ∀ {vs : List V} {ds : List PyData}, Paired (Row H) vs ds → ∃ ws : List V, Paired (Wr H) ws ds ∧ ws.length = vs.length ∧ ∀ (i : Nat) (v : V), vs[i]? = some v → ∃ (t b : Addr) (wv : V), v = .ref t ∧ H t = some (.tup [wv, .ref b]) ∧ ws[i]? = some wv
  | [], [], .nil => ⟨[], .nil, rfl, fun i v e => by simp at e⟩
  | v :: vs, d :: ds, .cons h t => by
    obtain ⟨ws, h1, h2, h3⟩ := rows_get t
    obtain ⟨tt, wv, b, e, g1, g2⟩ := h
    refine ⟨wv :: ws, .cons g2 h1, by rw [List.length_cons, List.length_cons, h2], fun i x ex => ?_⟩
    cases i with
    | zero => cases ex; exact ⟨tt, b, wv, e, g1, rfl⟩
    | succ i => exact h3 i x (by simpa using ex)
theorem lv_last {A B f : List Nat} {m : Nat} (ok : BlkOk m A B) (lf : f.length = m) (bf : ∀ c ∈ f, c = 48 ∨ c = 49) : ∃ k A' B', lvB A B = some k ∧ k ≤ 1 ∧ lastB A B f = [A', B'] ∧ A'.length = 2 + m ∧ B'.length = 2 + m ∧ (∀ c ∈ A', c = 48 ∨ c = 49) ∧ (∀ c ∈ B', c = 48 ∨ c = 49) ∧ lvB A' B' = some (1 - k) ∧ (if 1 - k = 0 then A' else B').drop 2 = f := by
  obtain ⟨k, ek, k01, mkk, kk⟩ := canM_k ok.can
  have la := ok.la
  have lb := ok.lb
  have mk : ∀ x : List Nat, mk2 x = true → x.length = 2 ∧ ∀ c ∈ x, c = 48 ∨ c = 49 := fun x h => by
    rcases mk2_two h with rfl | rfl <;> simp
  have tk : ∀ x : List Nat, x.length = 2 → (x ++ f).take 2 = x ∧ (x ++ f).drop 2 = f := fun x h => ⟨by rw [← h, List.take_left], by rw [← h, List.drop_left]⟩
  have bits : ∀ x : List Nat, (∀ c ∈ x, c = 48 ∨ c = 49) → ∀ c ∈ x ++ f, c = 48 ∨ c = 49 := fun x h c hc => by
    rcases List.mem_append.mp hc with q | q
    · exact h c q
    · exact bf c q
  unfold lastB
  rw [kk]
  rcases k01 with rfl | rfl
  · obtain ⟨l2, b2⟩ := mk _ mkk
    obtain ⟨t1, t2⟩ := tk _ l2
    have mA : mk2 (A.take 2) = true := by
      unfold lvB at ek
      split at ek
      · assumption
      · split at ek <;> cases ek
    refine ⟨0, _, _, ek, by decide, by rw [if_pos rfl], la, by rw [List.length_append, l2, lf], ok.ba, bits _ b2, ?_, by rw [if_neg (by decide)]; exact t2⟩
    unfold lvB
    rw [t1, mA, if_pos rfl, mkk, if_pos rfl]
    have ne : A.take 2 ≠ mkb (A.take 2) (B.take 2) 0 := by
      rcases mk2_two mA with e | e <;> rw [e] <;> (intro h; unfold mkb at h; simp at h)
    rw [if_neg ne]
  · obtain ⟨l2, b2⟩ := mk _ mkk
    obtain ⟨t1, t2⟩ := tk _ l2
    have eB : mkb (A.take 2) (B.take 2) 1 = B.take 2 := rfl
    refine ⟨1, _, _, ek, by decide, by rw [if_neg (by decide)], by rw [List.length_append, l2, lf], lb, bits _ b2, ok.bb, ?_, by rw [if_pos rfl]; exact t2⟩
    unfold lvB
    have mkk' : mk2 (B.take 2) = true := mkk
    rw [t1, eB, mkk', if_pos rfl, if_pos rfl, if_pos rfl]
def spLaw (K : PySem.W.Frag) : Sp := fun vs H Q _ => ∃ (a : Addr) (ns : List Int), vs = [.ref a] ∧ SqL K H a (ns.map V.int) ∧ ns.length ≤ 63 ∧ ∀ H', Q (.bl true) H'
section
variable {P : Program} {wo : World} {K : PySem.W.Frag} {mg : Str → Option Value} {base : Heap} {z : Pz} {w : Lz}
theorem ok_law {f : Addr} {fd : FuncData} (F : Fun K "law" "law" s_law f fd) (T : TxL K mg z w) : FnG P wo K mg base CX0 8 f fd ["_law_script"] (spLaw K) := by
  refine Fun.okG0 F sc_law (fun {vs H Q E} h => ?_) (fun {cdv A outer s H vs Q E} hq hr h => ?_)
  · obtain ⟨a, ns, rfl, _⟩ := h
    rfl
  · obtain ⟨a, ns, rfl, hS, hlen, kk⟩ := h
    have hr7 : Room 7 _ := hr
    have hr5 : Room 5 _ := hr.mono (by decide)
    have hr3 : Room 3 _ := hr.mono (by decide)
    have hr2 : Room 2 _ := hr.mono (by decide)
    have hr1 : Room 1 _ := hr.mono (by decide)
    have hu64 : (A.deeper (envOfC "law" (defScope s_law) s.heap.objs.size f cdv)).units + 64 < cLine := hr.units
    have G_Lpen : FnOk P wo K mg base CX0 1 w.a_Lpen w.d_Lpen ["_law_script"] (spPenN K) := ok_Lpen T
    have G_Ldraw : FnOk P wo K mg base CX0 1 w.a_Ldraw w.d_Ldraw ["_law_pen_here", "_law_many"] spDraw := ok_Ldraw T
    have G_Llive : FnOk P wo K mg base CX0 1 w.a_Llive w.d_Llive ["_law_blocks_here"] spLvL := ok_Llive T
    have G_Lblocks : FnOk P wo K mg base CX0 3 w.a_Lblocks w.d_Lblocks ["_law_pen_here", "_law_many"] spBlks := ok_Lblocks T
    have G_Lfresh : FnOk P wo K mg base CX0 3 w.a_Lfresh w.d_Lfresh ["_law_pen_here", "_law_blocks_here"] spFresh := ok_Lfresh T
    have G_Lmove : FnOk P wo K mg base CX0 2 w.a_Lmove w.d_Lmove ["_law_blocks_here", "_law_fresh_here"] spLMove := ok_Lmove T
    have G_Lrefused : FnOk P wo K mg base CX0 7 w.a_Lrefused w.d_Lrefused ["_law_pen_here", "_law_blocks_here", "_law_fresh_here"] (spRefM K) := ok_Lrefused T
    have G_move : FnOk P wo K mg base (L2.CX P wo) 5 z.a_move z.d_move ["x", "fresh"] (spMove K z.cNoPattern z.cUnlike z.cForeign) := ok_move T.toTxp
    have G_live : FnOk P wo K mg base (L2.CX P wo) 5 z.a_live z.d_live ["x"] (spAsk K z.cNoPattern z.cUnlike okLive) := ok_live T.toTxp
    have G_content : FnOk P wo K mg base (L2.CX P wo) 5 z.a_content z.d_content ["x"] (spAsk K z.cNoPattern z.cUnlike okCont) := ok_content T.toTxp
    have zz : ∀ k : Nat, k ≤ 1000 → k ≤ sizeLine := fun k h => Nat.le_trans h (by decide)
    refine ⟨_, (pss_cons (ps_set (i := 1) sc_law.nd rfl (Or.inl rfl) (pe_call G_Lpen hr1 rfl T.g_Lpen T.k_Lpen T.b_Lpen .nil pass0 (pa_cons (pv 0) pa_nil)))
      (pss_cons (ps_for PassesOwn.never rfl (pi_range1 rfl T.n_range (pa_cons pe_int pa_nil)) (pg_name (i := 2) sc_law.nd rfl (Or.inl rfl))
        (pss_cons (ps_set (i := 3) sc_law.nd rfl (Or.inl rfl) (pe_call G_Lblocks hr3 rfl T.g_Lblocks T.k_Lblocks T.b_Lblocks .nil pass0 (pa_cons (pv 1) (pa_cons (pe_op op_add pe_int (pe_call G_Ldraw hr1 rfl T.g_Ldraw T.k_Ldraw T.b_Ldraw .nil pass0 (pa_cons (pv 1) (pa_cons (pe_ix ix_list (pe_lst (pa_cons pe_int (pa_cons pe_int (pa_cons pe_int pa_nil)))) (pe_call G_Ldraw hr1 rfl T.g_Ldraw T.k_Ldraw T.b_Ldraw .nil pass0 (pa_cons (pv 1) (pa_cons pe_int pa_nil))) (fun _ _ => rfl)) pa_nil)))) pa_nil))))
        (pss_cons (ps_set (i := 4) sc_law.nd rfl (Or.inl rfl) (pe_call G_Lfresh hr3 rfl T.g_Lfresh T.k_Lfresh T.b_Lfresh .nil pass0 (pa_cons (pv 1) (pa_cons (pv 3) pa_nil))))
        (pss_cons (ps_par (i := 5) (j := 6) rfl sc_law.nd rfl rfl (by decide) rfl rfl (pa_cons (pe_joinK (K := K) rfl pe_str (pa_cons (pv 3) pa_nil)) (pa_cons (pe_call G_Lmove hr2 rfl T.g_Lmove T.k_Lmove T.b_Lmove .nil pass0 (pa_cons (pv 3) (pa_cons (pv 4) pa_nil))) pa_nil)) (by rfl))
        (pss_cons (ps_for PassesOwn.never rfl (pi_range1 rfl T.n_range (pa_cons pe_int pa_nil)) (pg_name (i := 7) sc_law.nd rfl (Or.inl rfl))
          (pss_cons (ps_set (i := 8) sc_law.nd rfl (Or.inl rfl) (pe_call G_move hr5 rfl T.g_move T.k_move T.b_move .nil passL (pa_cons (pv 5) (pa_cons (pv 4) pa_nil))))
          (pss_cons (ps_if (pt_cmpR op_ne (pe_callB (call_repr hq hu64) (by rfl) T.n_repr (by decide +kernel) (pa_cons (pv 8) pa_nil)) (pe_callB (call_repr hq hu64) (by rfl) T.n_repr (by decide +kernel) (pa_cons (by refine' pe_lc (own := [("_law_row", 10)]) (tt := tYes) rfl sc_law.nd ?hi (blkOk_by (N := ["_law_script", "_law_pen_here", "_law_turn", "_law_blocks_here", "_law_fresh_here", "_law_x", "_law_due", "_law_again", "_law_found", "_law_later", "_law_row"]) (sc := defScope s_law) (by first | decide +kernel | kernel_rfl | rfl)) ?hg ?ht ?he (by intro _; rfl); (case hi => exact (pi_list (pv 6))); (case hg => exact fun _ _ _ _ _ => (pg_name (i := 10) sc_law.nd rfl (Or.inl rfl))); (case ht => exact fun _ _ _ _ _ => pts_nil); (case he => exact fun _ _ _ _ _ => (pe_ix (ix_tupK (K := K) rfl) (pv 10) pe_int (fun _ _ => rfl)))) pa_nil)) (nomark _))
            (pss_one (ps_ret pe_bl))
            pss_nil)
          (pss_one (ps_expr (pe_bm0 PySem.F.plainAttrs_list PySem.F.slot_list_clear PySem.F.type_list_clear mt_clear (pv 8)))))))
        (pss_cons (ps_set (i := 9) sc_law.nd rfl (Or.inl rfl) (pe_joinK (K := K) rfl pe_str (pa_cons (pe_ix ix_tup (pe_ix ix_list (pv 6) (pe_un un_neg pe_int) (fun _ _ => rfl)) pe_int (fun _ _ => rfl)) pa_nil)))
        (pss_cons (ps_if (pt_cmpR op_ne (pe_callB (call_repr hq hu64) (by rfl) T.n_repr (by decide +kernel) (pa_cons (pe_lst (pa_cons (pe_call G_live hr5 rfl T.g_live T.k_live T.b_live .nil passL (pa_cons (pv 9) pa_nil)) (pa_cons (pe_call G_content hr5 rfl T.g_content T.k_content T.b_content .nil passL (pa_cons (pv 9) pa_nil)) pa_nil))) pa_nil)) (pe_callB (call_repr hq hu64) (by rfl) T.n_repr (by decide +kernel) (pa_cons (pe_lst (pa_cons (pe_op op_sub pe_int (pe_call G_Llive hr1 rfl T.g_Llive T.k_Llive T.b_Llive .nil pass0 (pa_cons (pv 3) pa_nil))) (pa_cons (pv 4) pa_nil))) pa_nil)) (nomark _))
          (pss_one (ps_ret pe_bl))
          pss_nil)
        (pss_one (ps_if (pt_not (pt_val (pe_call G_Lrefused hr7 rfl T.g_Lrefused T.k_Lrefused T.b_Lrefused .nil pass0 (pa_cons (pv 1) (pa_cons (pv 3) (pa_cons (pv 4) pa_nil))))))
          (pss_one (ps_ret pe_bl))
          pss_nil)))))))))
      (pss_one (ps_ret pe_bl)))), ?_⟩
    refine ⟨_, rfl, a, ns, rfl, hS, hlen, fun p l H1 hp1 hl1 s1 P1 => ?_⟩
    refine ⟨6, rfl, by decide, by decide, for_range (n := 6) (fun i σ H' => PenN H' p l (300 * i) ∧ ∃ x2 x3 x4 x5 x6 x7 x8 x9 : Option V, σ = [some (.ref a), some (.ref p), x2, x3, x4, x5, x6, x7, x8, x9, none])
      ⟨P1, none, none, none, none, none, none, none, none, rfl⟩ ?_ ?_⟩
    · rintro i σ H2 hi ⟨P2, x2, x3, x4, x5, x6, x7, x8, x9, rfl⟩
      refine ⟨_, rfl, _, rfl, by show 3 ≤ sizeLine; decide, fun q0 h0 => ?_⟩
      have P3 := P2.new (o := .lst [.int 2, .int 5, .int 24]) h0
      have n0 := Ne.symm (P2.nep h0)
      refine ⟨_, rfl, p, l, 3, 300 * i, rfl, by decide, by decide, by omega, P3, fun d0 H4 hd0 hd1 P4 B4 => ?_⟩
      obtain ⟨m0, hm0, em0⟩ : ∃ m0 : Nat, (1 ≤ m0 ∧ m0 ≤ 24) ∧ atI [V.int 2, V.int 5, V.int 24] d0 = some (.int (m0 : Nat)) := by
        have : d0 = 0 ∨ d0 = 1 ∨ d0 = 2 := by omega
        rcases this with rfl | rfl | rfl
        · exact ⟨2, by decide, rfl⟩
        · exact ⟨5, by decide, rfl⟩
        · exact ⟨24, by decide, rfl⟩
      refine ⟨q0, _, d0, _, rfl, rfl, SqL.of (B4 _ _ n0 upd_same), em0, ?_⟩
      refine ⟨p, l, m0, 300 * i + 1, rfl, by omega, by omega, by omega, P4, fun d1 H5 hd2 hd3 P5 B5 => ?_⟩
      obtain ⟨e, rfl⟩ : ∃ e : Nat, d1 = (e : Int) := ⟨d1.toNat, by omega⟩
      refine ⟨_, _, rfl, rfl, ?_⟩
      obtain ⟨m, em⟩ : ∃ m, m = 1 + e := ⟨_, rfl⟩
      refine ⟨p, l, 300 * i + 1 + 1, m, by rw [em] <;> rfl, by omega, by omega, P5, fun q Ab B H6 B6 P6 nqp hq ok => ?_⟩
      have la := ok.la
      have lb := ok.lb
      refine ⟨_, rfl, _, rfl, p, l, q, _, m, Ab, B, rfl, nqp, hq, ok, by omega, by omega, by omega, P6, fun fr H7 lf bf B7 P7 => ?_⟩
      have hq7 := B7 _ _ nqp hq
      obtain ⟨hp, hro, hpt⟩ := join_two ok.ba ok.bb (n := 2 + m) la lb (by omega) (by omega)
      refine ⟨rfl, _, rfl, ".", q, [Ab, B].map S, rfl, rfl, .inl (SqL.of hq7), ?_, ?_⟩
      · rw [SX.lens]
        show [Ab.length, B.length].sum + 2 * 1 ≤ sizeLine
        exact zz _ (by simp; omega)
      have ej : Txt.join "." ([Ab, B].map S) = S (TL.joinL [46] [Ab, B]) := by rw [S_d, SX.join_S]
      rw [ej]
      generalize TL.joinL [46] [Ab, B] = x at hp hro hpt
      have lx := hp.len
      refine ⟨_, rfl, _, rfl, q, m, Ab, B, fr, rfl, hq7, ok, by omega, by omega, lf, bf, fun D ws t wv bb H8 s8 nD hD ht hb hR => ?_⟩
      refine ⟨_, _, rfl, ?_⟩
      obtain ⟨mo, ml⟩ := mvD_ok ok (by omega) lf
      obtain ⟨sh1, sh2, sh3, sh4⟩ := wdk_list mo (by omega)
      obtain ⟨us, U1, U2, U3⟩ := rows_get hR
      have lU : us.length ≤ 3 := by rw [wrs_len U1]; exact ml
      -- the move, twice
      refine ⟨2, rfl, by decide, by decide, for_range (n := 2) (fun j σ H' => Same H8 H' ∧ ∃ x7 x8 : Option V, σ = [some (.ref a), some (.ref p), some (.int (0 + (i : Nat))), some (.ref q), some (.str (S fr)), some (.str (S x)), some (.ref D), x7, x8, x9, none])
        ⟨Same.refl _, _, _, rfl⟩ ?_ ?_⟩
      · rintro j σ H9 hj ⟨s9, y7, y8, rfl⟩
        refine ⟨_, rfl, _, rfl, _, _, none, rfl, .inl ⟨x, rfl, by omega, hp.pf.symm⟩, (fun k e => nomatch e), fun _ l' el => ?_⟩
        cases S_eq.mp el
        rw [if_pos hro]
        intro A' B' ep'
        rw [hpt] at ep'
        cases ep'
        refine ⟨none, .inl ⟨fr, rfl, by omega, ((cfa_none (Nat.zero_le _)).mpr ⟨by omega, bf⟩).symm⟩, (fun k e => nomatch e), fun _ f' ef => ?_⟩
        cases S_eq.mp ef
        rw [if_pos ok.can]
        intro pm wm Ha sa nm hm Wm
        refine ⟨_, rfl, _, .list (mvD Ab B fr), rfl, .lst (SqL.of hm) (wrs_dp Wm), sh1, sh2, sh3, sh4, ?_⟩
        have s8a := s9.trans sa
        refine ⟨_, rfl, D, rfl, ⟨_, SqL.of (s8a _ _ hD)⟩, fun D2 hD2 => ?_⟩
        refine lc_outL (xs := ws ++ [.ref t]) (outM fun i => us.getD i .non) hD2 (SqL.of (s8a _ _ hD)) outM_0 (fun i hi => by rw [outM_l]; exact small1 i (by omega)) (fun i v H4 Kc K0 e s4 kc k0 => ?_) (fun Hb sb eb => ?_)
        · obtain ⟨tt, b, wv, rfl, h1, h2⟩ := U3 i v e
          refine ⟨rfl, yes1 ?_⟩
          refine ⟨_, rfl, tt, _, 0, wv, rfl, rfl, SqT.of (s4 _ _ (s8a _ _ h1)), rfl, kc _ _ (Same.refl _) ?_⟩
          rw [outM_s, List.getD_eq_getElem?_getD, h2] <;> rfl
        have eM : outM (fun i => us.getD i .non) (ws ++ [V.ref t]).length = us := outM_all U2.symm fun i hi => by
          rw [List.getD_eq_getElem?_getD, List.getElem?_eq_getElem (by omega)] <;> rfl
        rw [eM] at eb
        have s8b := s8a.trans sb
        refine ⟨_, .list (mvD Ab B fr), rfl, .lst (SqL.of eb) (wrs_dp (wrs_keep (keepS s8b) U1)), sh1, sh2, sh3, sh4, rfl, _, rfl, ?_⟩
        generalize PyData.shown _ = shw
        rw [decide_eq_true (show V.str shw = V.str shw from rfl)]
        refine iteF ?_
        have hmb := sb _ _ hm
        refine ⟨_, rfl, .inl ⟨rfl, _, SqL.of hmb⟩, pm, _, rfl, rfl, hmb, ?_⟩
        have nm8 : H8 pm = none := by
          cases hh : H8 pm with
          | none => rfl
          | some o => rw [s9 _ _ hh] at nm; cases nm
        exact ⟨same_put s8b nm8, _, _, rfl⟩
      · rintro σ H9 ⟨s9, y7, y8, rfl⟩
        obtain ⟨k, A', B', ek, hk, el2, lA', lB', bA', bB', elv, efr⟩ := lv_last ok lf bf
        rw [el2] at hb
        have hb9 := s9 _ _ hb
        obtain ⟨hp2, hro2, hpt2⟩ := join_two bA' bB' (n := 2 + m) lA' lB' (by omega) (by omega)
        refine ⟨rfl, _, rfl, _, rfl, D, _, (-1 : Int), .ref t, rfl, rfl, SqL.of (s9 _ _ hD), atI_lastV, t, _, 1, .ref bb, rfl, rfl, SqT.of (s9 _ _ ht), rfl, ?_⟩
        refine ⟨".", bb, [A', B'].map S, rfl, rfl, .inl (SqL.of hb9), ?_, ?_⟩
        · rw [SX.lens]
          show [A'.length, B'.length].sum + 2 * 1 ≤ sizeLine
          exact zz _ (by simp; omega)
        have ej2 : Txt.join "." ([A', B'].map S) = S (TL.joinL [46] [A', B']) := by rw [S_d, SX.join_S]
        rw [ej2]
        generalize TL.joinL [46] [A', B'] = x2 at hp2 hro2 hpt2
        have lx2 := hp2.len
        have flt : ∀ H : Hp, Flt K H (.str (S x2)) none := fun H => .inl ⟨x2, rfl, by omega, hp2.pf.symm⟩
        refine ⟨_, rfl, _, none, rfl, flt _, (fun k ek => nomatch ek), fun _ l1 el1 => ?_⟩
        cases S_eq.mp el1
        rw [if_pos hro2]
        intro A1 B1 ep1
        rw [hpt2] at ep1
        cases ep1
        refine fun Ha sa => ?_
        refine ⟨_, rfl, _, none, rfl, flt _, (fun k ek => nomatch ek), fun _ l2 el2' => ?_⟩
        cases S_eq.mp el2'
        rw [if_pos hro2]
        intro A2 B2 ep2
        rw [hpt2] at ep2
        cases ep2
        refine fun Hb sb => ?_
        unfold hdF
        rw [elv]
        have efr' : (V.str (S ((if 1 - k = 0 then A' else B').drop 2))) = V.str (S fr) := by rw [efr]
        refine ⟨by show 2 ≤ sizeLine; decide, fun lA hlA => ?_⟩
        have r1 := smN (o := .lst [optI (some (1 - k)), .str (S ((if 1 - k = 0 then A' else B').drop 2))]) (Same.refl Hb) hlA
        have sgf : Sg fr := fun c hc => by rcases bf c hc with q | q <;> omega
        have kw : 1 - k = 0 ∨ 1 - k = 1 := by omega
        have okA : ∀ d ∈ [PyData.int ((1 - k : Nat) : Nat), .str (S fr)], WDk d := fun d hd => by
          simp only [List.mem_cons, List.not_mem_nil, or_false] at hd
          rcases hd with rfl | rfl
          · unfold WDk
            rcases kw with e | e <;> rw [e] <;> decide +kernel
          · obtain ⟨g1, g2, g3, g4, g5, g6⟩ := dok_str sgf (by omega)
            exact ⟨g1, g2, by omega, g4, by omega, g6⟩
        obtain ⟨w1, w2, w3, w4⟩ := wdk_list okA (by show 2 ≤ 10; decide)
        refine ⟨_, .list [.int ((1 - k : Nat) : Nat), .str (S fr)], rfl, .lst (SqL.of (by rw [upd_same]; exact congrArg (fun v => some (HO.lst [V.int ((1 - k : Nat) : Int), v])) efr')) (.cons (.int _) (.cons (.str _) .nil)), w1, w2, w3, w4, ?_⟩
        have s7b : Same H7 (upd Hb lA (.lst [optI (some (1 - k)), .str (S ((if 1 - k = 0 then A' else B').drop 2))])) := (((s8.trans s9).trans sa).trans sb).trans r1
        refine ⟨_, rfl, q, Ab, B, rfl, s7b _ _ hq7, by omega, by omega, fun Hc sc => ?_⟩
        rw [ek]
        refine ⟨_, _, rfl, rfl, _, rfl, by show 2 ≤ sizeLine; decide, fun lB hlB => ?_⟩
        refine ⟨_, .list [.int ((1 - k : Nat) : Nat), .str (S fr)], rfl, .lst (SqL.of (by rw [upd_same]; exact congrArg (fun v => some (HO.lst [v, V.str (S fr)])) (congrArg V.int (show (1 : Int) - (k : Nat) = ((1 - k : Nat) : Int) by omega)))) (.cons (.int _) (.cons (.str _) .nil)), w1, w2, w3, w4, rfl, _, rfl, ?_⟩
        generalize PyData.shown _ = shw
        rw [decide_eq_true (show V.str shw = V.str shw from rfl)]
        refine iteF ?_
        have r2 := smN (o := .lst [.int ((1 : Int) - (k : Nat)), .str (S fr)]) sc hlB
        have s7c := s7b.trans r2
        have Pc := P7.same s7c
        refine ⟨_, rfl, _, rfl, _, rfl, p, l, q, _, m, Ab, B, fr, rfl, nqp, s7c _ _ hq7, ok, by omega, by omega, lf, bf, by omega, Pc, fun Hd Bd Pd => ⟨_, rfl, iteB0 rfl ?_⟩⟩
        exact ⟨Pd.mono (by omega), _, _, _, _, _, _, _, _, rfl⟩
    · rintro σ H2 ⟨P2, x2, x3, x4, x5, x6, x7, x8, x9, rfl⟩
      exact kk _
end
end Fb
set_option maxRecDepth 100000
set_option maxHeartbeats 4000000
namespace Fb
open PySem PySem.Spec PyProof.Rows L2
open SX (S)

theorem all_mk {l : PySem.W.OpenLaw} {w : World} {K : PySem.W.Frag} {h : Heap} {mg : Str → Option Value} {fa : Addr} (X : K.In h) (G : h.Ns mainGlobals mg) (hfa : mg "law" = some (.ref fa))
    {fe : Addr}
    {cNoPattern : Addr} {NxNoPattern : Addr} {nmxNoPattern qxNoPattern : Str} {bsxNoPattern : List Value} {snxNoPattern : List Str} {subxNoPattern : List Value} {abxNoPattern : Bool} {colxNoPattern : Option Bool} {ddxNoPattern : Option Addr} {k0xNoPattern k1xNoPattern k2xNoPattern k3xNoPattern k5xNoPattern : Option Value}
    {a_npi : Addr} {od_npi an_npi : Option Addr} {sl_npi : Array (Option Value)} {oc_npi kV_npi dc_npi pm_npi cd_npi ct_npi : Value}
    {cUnlike : Addr} {NxUnlike : Addr} {nmxUnlike qxUnlike : Str} {bsxUnlike : List Value} {snxUnlike : List Str} {subxUnlike : List Value} {abxUnlike : Bool} {colxUnlike : Option Bool} {ddxUnlike : Option Addr} {k0xUnlike k1xUnlike k2xUnlike k3xUnlike k5xUnlike : Option Value}
    {cNoBit : Addr} {NxNoBit : Addr} {nmxNoBit qxNoBit : Str} {bsxNoBit : List Value} {snxNoBit : List Str} {subxNoBit : List Value} {abxNoBit : Bool} {colxNoBit : Option Bool} {ddxNoBit : Option Addr} {k0xNoBit k1xNoBit k2xNoBit k3xNoBit k5xNoBit : Option Value}
    {cForeign : Addr} {NxForeign : Addr} {nmxForeign qxForeign : Str} {bsxForeign : List Value} {snxForeign : List Str} {subxForeign : List Value} {abxForeign : Bool} {colxForeign : Option Bool} {ddxForeign : Option Addr} {k0xForeign k1xForeign k2xForeign k3xForeign k5xForeign : Option Value}
    {a_Foreigni : Addr} {od_Foreigni an_Foreigni : Option Addr} {sl_Foreigni : Array (Option Value)} {oc_Foreigni kV_Foreigni dc_Foreigni pm_Foreigni cd_Foreigni ct_Foreigni : Value}
    {C : Addr}
    {tvBITS : Tok}
    {tvBLOCKS : Tok}
    {tkHEADER : Tok}
    {tkLEAST_SIZE : Tok}
    {kMARKS : Addr} {okMARKS : Obj} {ikMARKS : Array Value} {nkMARKS : Nat}
    {tkFREE : Tok}
    {tkSPOILT : Tok}
    {a_is_whole : Addr} {od_is_whole an_is_whole : Option Addr} {sl_is_whole : Array (Option Value)} {oc_is_whole kV_is_whole dc_is_whole pm_is_whole cd_is_whole ct_is_whole : Value}
    {a_is_number : Addr} {od_is_number an_is_number : Option Addr} {sl_is_number : Array (Option Value)} {oc_is_number kV_is_number dc_is_number pm_is_number cd_is_number ct_is_number : Value}
    {a_has_pattern_form : Addr} {od_has_pattern_form an_has_pattern_form : Option Addr} {sl_has_pattern_form : Array (Option Value)} {oc_has_pattern_form kV_has_pattern_form dc_has_pattern_form pm_has_pattern_form cd_has_pattern_form ct_has_pattern_form : Value}
    {a_pattern_fault : Addr} {od_pattern_fault an_pattern_fault : Option Addr} {sl_pattern_fault : Array (Option Value)} {oc_pattern_fault kV_pattern_fault dc_pattern_fault pm_pattern_fault cd_pattern_fault ct_pattern_fault : Value}
    {a_first_wrong_sign : Addr} {od_first_wrong_sign an_first_wrong_sign : Option Addr} {sl_first_wrong_sign : Array (Option Value)} {oc_first_wrong_sign kV_first_wrong_sign dc_first_wrong_sign pm_first_wrong_sign cd_first_wrong_sign ct_first_wrong_sign : Value}
    {a_need_pattern : Addr} {od_need_pattern an_need_pattern : Option Addr} {sl_need_pattern : Array (Option Value)} {oc_need_pattern kV_need_pattern dc_need_pattern pm_need_pattern cd_need_pattern ct_need_pattern : Value}
    {a_sizes_of : Addr} {od_sizes_of an_sizes_of : Option Addr} {sl_sizes_of : Array (Option Value)} {oc_sizes_of kV_sizes_of dc_sizes_of pm_sizes_of cd_sizes_of ct_sizes_of : Value}
    {a_need_sizes : Addr} {od_need_sizes an_need_sizes : Option Addr} {sl_need_sizes : Array (Option Value)} {oc_need_sizes kV_need_sizes dc_need_sizes pm_need_sizes cd_need_sizes ct_need_sizes : Value}
    {a_need_bits : Addr} {od_need_bits an_need_bits : Option Addr} {sl_need_bits : Array (Option Value)} {oc_need_bits kV_need_bits dc_need_bits pm_need_bits cd_need_bits ct_need_bits : Value}
    {a_need_content : Addr} {od_need_content an_need_content : Option Addr} {sl_need_content : Array (Option Value)} {oc_need_content kV_need_content dc_need_content pm_need_content cd_need_content ct_need_content : Value}
    {a_bits_of : Addr} {od_bits_of an_bits_of : Option Addr} {sl_bits_of : Array (Option Value)} {oc_bits_of kV_bits_of dc_bits_of pm_bits_of cd_bits_of ct_bits_of : Value}
    {a_places_of : Addr} {od_places_of an_places_of : Option Addr} {sl_places_of : Array (Option Value)} {oc_places_of kV_places_of dc_places_of pm_places_of cd_places_of ct_places_of : Value}
    {a_with_fallen : Addr} {od_with_fallen an_with_fallen : Option Addr} {sl_with_fallen : Array (Option Value)} {oc_with_fallen kV_with_fallen dc_with_fallen pm_with_fallen cd_with_fallen ct_with_fallen : Value}
    {a_lies_below : Addr} {od_lies_below an_lies_below : Option Addr} {sl_lies_below : Array (Option Value)} {oc_lies_below kV_lies_below dc_lies_below pm_lies_below cd_lies_below ct_lies_below : Value}
    {a_unlike_sign : Addr} {od_unlike_sign an_unlike_sign : Option Addr} {sl_unlike_sign : Array (Option Value)} {oc_unlike_sign kV_unlike_sign dc_unlike_sign pm_unlike_sign cd_unlike_sign ct_unlike_sign : Value}
    {a_standing_bits : Addr} {od_standing_bits an_standing_bits : Option Addr} {sl_standing_bits : Array (Option Value)} {oc_standing_bits kV_standing_bits dc_standing_bits pm_standing_bits cd_standing_bits ct_standing_bits : Value}
    {a_need_rolling : Addr} {od_need_rolling an_need_rolling : Option Addr} {sl_need_rolling : Array (Option Value)} {oc_need_rolling kV_need_rolling dc_need_rolling pm_need_rolling cd_need_rolling ct_need_rolling : Value}
    {a_headers_of : Addr} {od_headers_of an_headers_of : Option Addr} {sl_headers_of : Array (Option Value)} {oc_headers_of kV_headers_of dc_headers_of pm_headers_of cd_headers_of ct_headers_of : Value}
    {a_contents_of : Addr} {od_contents_of an_contents_of : Option Addr} {sl_contents_of : Array (Option Value)} {oc_contents_of kV_contents_of dc_contents_of pm_contents_of cd_contents_of ct_contents_of : Value}
    {a_live_block : Addr} {od_live_block an_live_block : Option Addr} {sl_live_block : Array (Option Value)} {oc_live_block kV_live_block dc_live_block pm_live_block cd_live_block ct_live_block : Value}
    {a_held_content : Addr} {od_held_content an_held_content : Option Addr} {sl_held_content : Array (Option Value)} {oc_held_content kV_held_content dc_held_content pm_held_content cd_held_content ct_held_content : Value}
    {a_has_spoilt_header : Addr} {od_has_spoilt_header an_has_spoilt_header : Option Addr} {sl_has_spoilt_header : Array (Option Value)} {oc_has_spoilt_header kV_has_spoilt_header dc_has_spoilt_header pm_has_spoilt_header cd_has_spoilt_header ct_has_spoilt_header : Value}
    {a_live : Addr} {od_live an_live : Option Addr} {sl_live : Array (Option Value)} {oc_live kV_live dc_live pm_live cd_live ct_live : Value}
    {a_content : Addr} {od_content an_content : Option Addr} {sl_content : Array (Option Value)} {oc_content kV_content dc_content pm_content cd_content ct_content : Value}
    {a_can_move : Addr} {od_can_move an_can_move : Option Addr} {sl_can_move : Array (Option Value)} {oc_can_move kV_can_move dc_can_move pm_can_move cd_can_move ct_can_move : Value}
    {a_mark_behind : Addr} {od_mark_behind an_mark_behind : Option Addr} {sl_mark_behind : Array (Option Value)} {oc_mark_behind kV_mark_behind dc_mark_behind pm_mark_behind cd_mark_behind ct_mark_behind : Value}
    {a_move : Addr} {od_move an_move : Option Addr} {sl_move : Array (Option Value)} {oc_move kV_move dc_move pm_move cd_move ct_move : Value}
    {a_Lpen : Addr} {od_Lpen an_Lpen : Option Addr} {sl_Lpen : Array (Option Value)} {oc_Lpen kV_Lpen dc_Lpen pm_Lpen cd_Lpen ct_Lpen : Value}
    {a_Ldraw : Addr} {od_Ldraw an_Ldraw : Option Addr} {sl_Ldraw : Array (Option Value)} {oc_Ldraw kV_Ldraw dc_Ldraw pm_Ldraw cd_Ldraw ct_Ldraw : Value}
    {a_Lpick : Addr} {od_Lpick an_Lpick : Option Addr} {sl_Lpick : Array (Option Value)} {oc_Lpick kV_Lpick dc_Lpick pm_Lpick cd_Lpick ct_Lpick : Value}
    {a_Lcontent : Addr} {od_Lcontent an_Lcontent : Option Addr} {sl_Lcontent : Array (Option Value)} {oc_Lcontent kV_Lcontent dc_Lcontent pm_Lcontent cd_Lcontent ct_Lcontent : Value}
    {a_Llive : Addr} {od_Llive an_Llive : Option Addr} {sl_Llive : Array (Option Value)} {oc_Llive kV_Llive dc_Llive pm_Llive cd_Llive ct_Llive : Value}
    {a_Lblocks : Addr} {od_Lblocks an_Lblocks : Option Addr} {sl_Lblocks : Array (Option Value)} {oc_Lblocks kV_Lblocks dc_Lblocks pm_Lblocks cd_Lblocks ct_Lblocks : Value}
    {a_Lfresh : Addr} {od_Lfresh an_Lfresh : Option Addr} {sl_Lfresh : Array (Option Value)} {oc_Lfresh kV_Lfresh dc_Lfresh pm_Lfresh cd_Lfresh ct_Lfresh : Value}
    {a_Lwith : Addr} {od_Lwith an_Lwith : Option Addr} {sl_Lwith : Array (Option Value)} {oc_Lwith kV_Lwith dc_Lwith pm_Lwith cd_Lwith ct_Lwith : Value}
    {a_Lmove : Addr} {od_Lmove an_Lmove : Option Addr} {sl_Lmove : Array (Option Value)} {oc_Lmove kV_Lmove dc_Lmove pm_Lmove cd_Lmove ct_Lmove : Value}
    {a_Lheard : Addr} {od_Lheard an_Lheard : Option Addr} {sl_Lheard : Array (Option Value)} {oc_Lheard kV_Lheard dc_Lheard pm_Lheard cd_Lheard ct_Lheard : Value}
    {a_Lrefused : Addr} {od_Lrefused an_Lrefused : Option Addr} {sl_Lrefused : Array (Option Value)} {oc_Lrefused kV_Lrefused dc_Lrefused pm_Lrefused cd_Lrefused ct_Lrefused : Value}
    {a_law : Addr} {od_law an_law : Option Addr} {sl_law : Array (Option Value)} {oc_law kV_law dc_law pm_law cd_law ct_law : Value}
    (gF : PySem.W.nsIn K mainGlobals "FallenError" = some (some (.ref fe)))
    (clF : PySem.W.isClsIn K fe = true)
    (tyF : PySem.W.typeIn K (.ref fe) = some (.type "type"))
    (sbF : PySem.W.subIn K (.ref fe) (.type "BaseException") = some true)
    (hn : PySem.W.specialIn K (.builtin "object.__class__") "__get__" = some (some (.builtin "getset_descriptor.__get__")))
    (ht : PySem.W.takesIn K (.builtin "object.__class__") = some true)
    (gxNoPattern : PySem.W.nsIn K mainGlobals "NoPattern" = some (some (.ref cNoPattern)))
    (oxNoPattern : K.lookup cNoPattern = some (excClassObj nmxNoPattern qxNoPattern cNoPattern NxNoPattern bsxNoPattern (bmX fe) true snxNoPattern subxNoPattern abxNoPattern colxNoPattern ddxNoPattern k0xNoPattern k1xNoPattern k2xNoPattern k3xNoPattern k5xNoPattern "ValueError.__new__"))
    (kpxNoPattern : PySem.W.keepIn K (.ref cNoPattern) = true)
    (tyxNoPattern : PySem.W.typeIn K (.ref cNoPattern) = some (.type "type"))
    (saxNoPattern : PySem.W.findIn K (.ref cNoPattern) "__setattr__" = some (some (.builtin "object.__setattr__")))
    (gaxNoPattern : PySem.W.findIn K (.ref cNoPattern) "__getattribute__" = some (some (.builtin "BaseException.__getattribute__")))
    (ggxNoPattern : PySem.W.findIn K (.ref cNoPattern) "__getattr__" = some none)
    (caxNoPattern : PySem.W.findIn K (.ref cNoPattern) "__class__" = some (some (.builtin "object.__class__")))
    (iNP : PySem.W.findIn K (.ref cNoPattern) "__init__" = some (some (.ref a_npi)))
    (tNP : PySem.W.typeIn K (.ref a_npi) = some (.type "function"))
    (l_npi : K.lookup a_npi = some ⟨oc_npi, od_npi, .func (PySem.W.fnOf "__init__" "NoPattern.__init__" (defArgs s_NoPattern_init) (defBody s_NoPattern_init) (defScope s_NoPattern_init) .none kV_npi dc_npi pm_npi an_npi cd_npi ct_npi), sl_npi⟩)
    (c_npi : PySem.W.codeIn K cd_npi "NoPattern.__init__" = true)
    (k_npi : PySem.W.keepIn K (.ref a_npi) = true)
    (nNP : PySem.W.findIn K (.ref cNoPattern) "at" = some none)
    (gxUnlike : PySem.W.nsIn K mainGlobals "Unlike" = some (some (.ref cUnlike)))
    (oxUnlike : K.lookup cUnlike = some (excClassObj nmxUnlike qxUnlike cUnlike NxUnlike bsxUnlike (bmX fe) true snxUnlike subxUnlike abxUnlike colxUnlike ddxUnlike k0xUnlike k1xUnlike k2xUnlike k3xUnlike k5xUnlike "ValueError.__new__"))
    (kpxUnlike : PySem.W.keepIn K (.ref cUnlike) = true)
    (tyxUnlike : PySem.W.typeIn K (.ref cUnlike) = some (.type "type"))
    (saxUnlike : PySem.W.findIn K (.ref cUnlike) "__setattr__" = some (some (.builtin "object.__setattr__")))
    (gaxUnlike : PySem.W.findIn K (.ref cUnlike) "__getattribute__" = some (some (.builtin "BaseException.__getattribute__")))
    (ggxUnlike : PySem.W.findIn K (.ref cUnlike) "__getattr__" = some none)
    (caxUnlike : PySem.W.findIn K (.ref cUnlike) "__class__" = some (some (.builtin "object.__class__")))
    (exUnlike : PySem.W.excIn K cUnlike [.type "ValueError", .type "Exception", .type "BaseException", .type "object"] "ValueError.__new__" = true)
    (gxNoBit : PySem.W.nsIn K mainGlobals "NoBit" = some (some (.ref cNoBit)))
    (oxNoBit : K.lookup cNoBit = some (excClassObj nmxNoBit qxNoBit cNoBit NxNoBit bsxNoBit (bmX fe) true snxNoBit subxNoBit abxNoBit colxNoBit ddxNoBit k0xNoBit k1xNoBit k2xNoBit k3xNoBit k5xNoBit "ValueError.__new__"))
    (kpxNoBit : PySem.W.keepIn K (.ref cNoBit) = true)
    (tyxNoBit : PySem.W.typeIn K (.ref cNoBit) = some (.type "type"))
    (saxNoBit : PySem.W.findIn K (.ref cNoBit) "__setattr__" = some (some (.builtin "object.__setattr__")))
    (gaxNoBit : PySem.W.findIn K (.ref cNoBit) "__getattribute__" = some (some (.builtin "BaseException.__getattribute__")))
    (ggxNoBit : PySem.W.findIn K (.ref cNoBit) "__getattr__" = some none)
    (caxNoBit : PySem.W.findIn K (.ref cNoBit) "__class__" = some (some (.builtin "object.__class__")))
    (exNoBit : PySem.W.excIn K cNoBit [.type "ValueError", .type "Exception", .type "BaseException", .type "object"] "ValueError.__new__" = true)
    (gxForeign : PySem.W.nsIn K mainGlobals "Foreign" = some (some (.ref cForeign)))
    (oxForeign : K.lookup cForeign = some (excClassObj nmxForeign qxForeign cForeign NxForeign bsxForeign (bmX fe) true snxForeign subxForeign abxForeign colxForeign ddxForeign k0xForeign k1xForeign k2xForeign k3xForeign k5xForeign "ValueError.__new__"))
    (kpxForeign : PySem.W.keepIn K (.ref cForeign) = true)
    (tyxForeign : PySem.W.typeIn K (.ref cForeign) = some (.type "type"))
    (saxForeign : PySem.W.findIn K (.ref cForeign) "__setattr__" = some (some (.builtin "object.__setattr__")))
    (gaxForeign : PySem.W.findIn K (.ref cForeign) "__getattribute__" = some (some (.builtin "BaseException.__getattribute__")))
    (ggxForeign : PySem.W.findIn K (.ref cForeign) "__getattr__" = some none)
    (caxForeign : PySem.W.findIn K (.ref cForeign) "__class__" = some (some (.builtin "object.__class__")))
    (iForeign : PySem.W.findIn K (.ref cForeign) "__init__" = some (some (.ref a_Foreigni)))
    (tForeign : PySem.W.typeIn K (.ref a_Foreigni) = some (.type "function"))
    (l_Foreigni : K.lookup a_Foreigni = some ⟨oc_Foreigni, od_Foreigni, .func (PySem.W.fnOf "__init__" "Foreign.__init__" (defArgs s_Foreign_init) (defBody s_Foreign_init) (defScope s_Foreign_init) .none kV_Foreigni dc_Foreigni pm_Foreigni an_Foreigni cd_Foreigni ct_Foreigni), sl_Foreigni⟩)
    (c_Foreigni : PySem.W.codeIn K cd_Foreigni "Foreign.__init__" = true)
    (k_Foreigni : PySem.W.keepIn K (.ref a_Foreigni) = true)
    (nForeign_found : PySem.W.findIn K (.ref cForeign) "found" = some none)
    (ne_NoPattern_F : cNoPattern ≠ fe)
    (ne_NoPattern_Unlike : cNoPattern ≠ cUnlike)
    (ne_NoPattern_NoBit : cNoPattern ≠ cNoBit)
    (ne_NoPattern_Foreign : cNoPattern ≠ cForeign)
    (ne_Unlike_F : cUnlike ≠ fe)
    (ne_Unlike_NoPattern : cUnlike ≠ cNoPattern)
    (ne_Unlike_NoBit : cUnlike ≠ cNoBit)
    (ne_Unlike_Foreign : cUnlike ≠ cForeign)
    (ne_NoBit_F : cNoBit ≠ fe)
    (ne_NoBit_NoPattern : cNoBit ≠ cNoPattern)
    (ne_NoBit_Unlike : cNoBit ≠ cUnlike)
    (ne_NoBit_Foreign : cNoBit ≠ cForeign)
    (ne_Foreign_F : cForeign ≠ fe)
    (ne_Foreign_NoPattern : cForeign ≠ cNoPattern)
    (ne_Foreign_Unlike : cForeign ≠ cUnlike)
    (ne_Foreign_NoBit : cForeign ≠ cNoBit)
    (gC : PySem.W.nsIn K mainGlobals "Pattern" = some (some (.ref C)))
    (rdC : PySem.W.readsIn K C (.type "type") = true)
    (gaC : PySem.W.specialIn K (.ref C) "__getattribute__" = some (some (.builtin "type.__getattribute__")))
    (vBITS : PySem.W.findCls K (.ref C) (.type "type") "BITS" = some (.val (.int 120 tvBITS)))
    (vBLOCKS : PySem.W.findCls K (.ref C) (.type "type") "BLOCKS" = some (.val (.int 3 tvBLOCKS)))
    (gkHEADER : PySem.W.nsIn K mainGlobals "HEADER" = some (some (.int 2 tkHEADER)))
    (gkLEAST_SIZE : PySem.W.nsIn K mainGlobals "LEAST_SIZE" = some (some (.int 3 tkLEAST_SIZE)))
    (gkMARKS : PySem.W.nsIn K mainGlobals "MARKS" = some (some (.ref kMARKS)))
    (lkMARKS : K.lookup kMARKS = some okMARKS)
    (ckMARKS : okMARKS.cls = .type "tuple")
    (dkMARKS : okMARKS.data = .seq ikMARKS nkMARKS)
    (zkMARKS : ikMARKS.size ≤ sizeLine)
    (rkMARKS : Vals [V.str "10", V.str "01"] ikMARKS.toList)
    (gkFREE : PySem.W.nsIn K mainGlobals "FREE" = some (some (.str "11" tkFREE)))
    (gkSPOILT : PySem.W.nsIn K mainGlobals "SPOILT" = some (some (.str "00" tkSPOILT)))
    (g_is_whole : PySem.W.nsIn K mainGlobals "is_whole" = some (some (.ref a_is_whole)))
    (l_is_whole : K.lookup a_is_whole = some ⟨oc_is_whole, od_is_whole, .func (PySem.W.fnOf "is_whole" "is_whole" (defArgs s_is_whole) (defBody s_is_whole) (defScope s_is_whole) .none kV_is_whole dc_is_whole pm_is_whole an_is_whole cd_is_whole ct_is_whole), sl_is_whole⟩)
    (c_is_whole : PySem.W.codeIn K cd_is_whole "is_whole" = true)
    (k_is_whole : PySem.W.keepIn K (.ref a_is_whole) = true)
    (g_is_number : PySem.W.nsIn K mainGlobals "is_number" = some (some (.ref a_is_number)))
    (l_is_number : K.lookup a_is_number = some ⟨oc_is_number, od_is_number, .func (PySem.W.fnOf "is_number" "is_number" (defArgs s_is_number) (defBody s_is_number) (defScope s_is_number) .none kV_is_number dc_is_number pm_is_number an_is_number cd_is_number ct_is_number), sl_is_number⟩)
    (c_is_number : PySem.W.codeIn K cd_is_number "is_number" = true)
    (k_is_number : PySem.W.keepIn K (.ref a_is_number) = true)
    (g_has_pattern_form : PySem.W.nsIn K mainGlobals "has_pattern_form" = some (some (.ref a_has_pattern_form)))
    (l_has_pattern_form : K.lookup a_has_pattern_form = some ⟨oc_has_pattern_form, od_has_pattern_form, .func (PySem.W.fnOf "has_pattern_form" "has_pattern_form" (defArgs s_has_pattern_form) (defBody s_has_pattern_form) (defScope s_has_pattern_form) .none kV_has_pattern_form dc_has_pattern_form pm_has_pattern_form an_has_pattern_form cd_has_pattern_form ct_has_pattern_form), sl_has_pattern_form⟩)
    (c_has_pattern_form : PySem.W.codeIn K cd_has_pattern_form "has_pattern_form" = true)
    (k_has_pattern_form : PySem.W.keepIn K (.ref a_has_pattern_form) = true)
    (g_pattern_fault : PySem.W.nsIn K mainGlobals "pattern_fault" = some (some (.ref a_pattern_fault)))
    (l_pattern_fault : K.lookup a_pattern_fault = some ⟨oc_pattern_fault, od_pattern_fault, .func (PySem.W.fnOf "pattern_fault" "pattern_fault" (defArgs s_pattern_fault) (defBody s_pattern_fault) (defScope s_pattern_fault) .none kV_pattern_fault dc_pattern_fault pm_pattern_fault an_pattern_fault cd_pattern_fault ct_pattern_fault), sl_pattern_fault⟩)
    (c_pattern_fault : PySem.W.codeIn K cd_pattern_fault "pattern_fault" = true)
    (k_pattern_fault : PySem.W.keepIn K (.ref a_pattern_fault) = true)
    (g_first_wrong_sign : PySem.W.nsIn K mainGlobals "first_wrong_sign" = some (some (.ref a_first_wrong_sign)))
    (l_first_wrong_sign : K.lookup a_first_wrong_sign = some ⟨oc_first_wrong_sign, od_first_wrong_sign, .func (PySem.W.fnOf "first_wrong_sign" "first_wrong_sign" (defArgs s_first_wrong_sign) (defBody s_first_wrong_sign) (defScope s_first_wrong_sign) .none kV_first_wrong_sign dc_first_wrong_sign pm_first_wrong_sign an_first_wrong_sign cd_first_wrong_sign ct_first_wrong_sign), sl_first_wrong_sign⟩)
    (c_first_wrong_sign : PySem.W.codeIn K cd_first_wrong_sign "first_wrong_sign" = true)
    (k_first_wrong_sign : PySem.W.keepIn K (.ref a_first_wrong_sign) = true)
    (g_need_pattern : PySem.W.nsIn K mainGlobals "need_pattern" = some (some (.ref a_need_pattern)))
    (l_need_pattern : K.lookup a_need_pattern = some ⟨oc_need_pattern, od_need_pattern, .func (PySem.W.fnOf "need_pattern" "need_pattern" (defArgs s_need_pattern) (defBody s_need_pattern) (defScope s_need_pattern) .none kV_need_pattern dc_need_pattern pm_need_pattern an_need_pattern cd_need_pattern ct_need_pattern), sl_need_pattern⟩)
    (c_need_pattern : PySem.W.codeIn K cd_need_pattern "need_pattern" = true)
    (k_need_pattern : PySem.W.keepIn K (.ref a_need_pattern) = true)
    (g_sizes_of : PySem.W.nsIn K mainGlobals "sizes_of" = some (some (.ref a_sizes_of)))
    (l_sizes_of : K.lookup a_sizes_of = some ⟨oc_sizes_of, od_sizes_of, .func (PySem.W.fnOf "sizes_of" "sizes_of" (defArgs s_sizes_of) (defBody s_sizes_of) (defScope s_sizes_of) .none kV_sizes_of dc_sizes_of pm_sizes_of an_sizes_of cd_sizes_of ct_sizes_of), sl_sizes_of⟩)
    (c_sizes_of : PySem.W.codeIn K cd_sizes_of "sizes_of" = true)
    (k_sizes_of : PySem.W.keepIn K (.ref a_sizes_of) = true)
    (g_need_sizes : PySem.W.nsIn K mainGlobals "need_sizes" = some (some (.ref a_need_sizes)))
    (l_need_sizes : K.lookup a_need_sizes = some ⟨oc_need_sizes, od_need_sizes, .func (PySem.W.fnOf "need_sizes" "need_sizes" (defArgs s_need_sizes) (defBody s_need_sizes) (defScope s_need_sizes) .none kV_need_sizes dc_need_sizes pm_need_sizes an_need_sizes cd_need_sizes ct_need_sizes), sl_need_sizes⟩)
    (c_need_sizes : PySem.W.codeIn K cd_need_sizes "need_sizes" = true)
    (k_need_sizes : PySem.W.keepIn K (.ref a_need_sizes) = true)
    (g_need_bits : PySem.W.nsIn K mainGlobals "need_bits" = some (some (.ref a_need_bits)))
    (l_need_bits : K.lookup a_need_bits = some ⟨oc_need_bits, od_need_bits, .func (PySem.W.fnOf "need_bits" "need_bits" (defArgs s_need_bits) (defBody s_need_bits) (defScope s_need_bits) .none kV_need_bits dc_need_bits pm_need_bits an_need_bits cd_need_bits ct_need_bits), sl_need_bits⟩)
    (c_need_bits : PySem.W.codeIn K cd_need_bits "need_bits" = true)
    (k_need_bits : PySem.W.keepIn K (.ref a_need_bits) = true)
    (g_need_content : PySem.W.nsIn K mainGlobals "need_content" = some (some (.ref a_need_content)))
    (l_need_content : K.lookup a_need_content = some ⟨oc_need_content, od_need_content, .func (PySem.W.fnOf "need_content" "need_content" (defArgs s_need_content) (defBody s_need_content) (defScope s_need_content) .none kV_need_content dc_need_content pm_need_content an_need_content cd_need_content ct_need_content), sl_need_content⟩)
    (c_need_content : PySem.W.codeIn K cd_need_content "need_content" = true)
    (k_need_content : PySem.W.keepIn K (.ref a_need_content) = true)
    (g_bits_of : PySem.W.nsIn K mainGlobals "bits_of" = some (some (.ref a_bits_of)))
    (l_bits_of : K.lookup a_bits_of = some ⟨oc_bits_of, od_bits_of, .func (PySem.W.fnOf "bits_of" "bits_of" (defArgs s_bits_of) (defBody s_bits_of) (defScope s_bits_of) .none kV_bits_of dc_bits_of pm_bits_of an_bits_of cd_bits_of ct_bits_of), sl_bits_of⟩)
    (c_bits_of : PySem.W.codeIn K cd_bits_of "bits_of" = true)
    (k_bits_of : PySem.W.keepIn K (.ref a_bits_of) = true)
    (g_places_of : PySem.W.nsIn K mainGlobals "places_of" = some (some (.ref a_places_of)))
    (l_places_of : K.lookup a_places_of = some ⟨oc_places_of, od_places_of, .func (PySem.W.fnOf "places_of" "places_of" (defArgs s_places_of) (defBody s_places_of) (defScope s_places_of) .none kV_places_of dc_places_of pm_places_of an_places_of cd_places_of ct_places_of), sl_places_of⟩)
    (c_places_of : PySem.W.codeIn K cd_places_of "places_of" = true)
    (k_places_of : PySem.W.keepIn K (.ref a_places_of) = true)
    (g_with_fallen : PySem.W.nsIn K mainGlobals "with_fallen" = some (some (.ref a_with_fallen)))
    (l_with_fallen : K.lookup a_with_fallen = some ⟨oc_with_fallen, od_with_fallen, .func (PySem.W.fnOf "with_fallen" "with_fallen" (defArgs s_with_fallen) (defBody s_with_fallen) (defScope s_with_fallen) .none kV_with_fallen dc_with_fallen pm_with_fallen an_with_fallen cd_with_fallen ct_with_fallen), sl_with_fallen⟩)
    (c_with_fallen : PySem.W.codeIn K cd_with_fallen "with_fallen" = true)
    (k_with_fallen : PySem.W.keepIn K (.ref a_with_fallen) = true)
    (g_lies_below : PySem.W.nsIn K mainGlobals "lies_below" = some (some (.ref a_lies_below)))
    (l_lies_below : K.lookup a_lies_below = some ⟨oc_lies_below, od_lies_below, .func (PySem.W.fnOf "lies_below" "lies_below" (defArgs s_lies_below) (defBody s_lies_below) (defScope s_lies_below) .none kV_lies_below dc_lies_below pm_lies_below an_lies_below cd_lies_below ct_lies_below), sl_lies_below⟩)
    (c_lies_below : PySem.W.codeIn K cd_lies_below "lies_below" = true)
    (k_lies_below : PySem.W.keepIn K (.ref a_lies_below) = true)
    (g_unlike_sign : PySem.W.nsIn K mainGlobals "unlike_sign" = some (some (.ref a_unlike_sign)))
    (l_unlike_sign : K.lookup a_unlike_sign = some ⟨oc_unlike_sign, od_unlike_sign, .func (PySem.W.fnOf "unlike_sign" "unlike_sign" (defArgs s_unlike_sign) (defBody s_unlike_sign) (defScope s_unlike_sign) .none kV_unlike_sign dc_unlike_sign pm_unlike_sign an_unlike_sign cd_unlike_sign ct_unlike_sign), sl_unlike_sign⟩)
    (c_unlike_sign : PySem.W.codeIn K cd_unlike_sign "unlike_sign" = true)
    (k_unlike_sign : PySem.W.keepIn K (.ref a_unlike_sign) = true)
    (g_standing_bits : PySem.W.nsIn K mainGlobals "standing_bits" = some (some (.ref a_standing_bits)))
    (l_standing_bits : K.lookup a_standing_bits = some ⟨oc_standing_bits, od_standing_bits, .func (PySem.W.fnOf "standing_bits" "standing_bits" (defArgs s_standing_bits) (defBody s_standing_bits) (defScope s_standing_bits) .none kV_standing_bits dc_standing_bits pm_standing_bits an_standing_bits cd_standing_bits ct_standing_bits), sl_standing_bits⟩)
    (c_standing_bits : PySem.W.codeIn K cd_standing_bits "standing_bits" = true)
    (k_standing_bits : PySem.W.keepIn K (.ref a_standing_bits) = true)
    (g_need_rolling : PySem.W.nsIn K mainGlobals "need_rolling" = some (some (.ref a_need_rolling)))
    (l_need_rolling : K.lookup a_need_rolling = some ⟨oc_need_rolling, od_need_rolling, .func (PySem.W.fnOf "need_rolling" "need_rolling" (defArgs s_need_rolling) (defBody s_need_rolling) (defScope s_need_rolling) .none kV_need_rolling dc_need_rolling pm_need_rolling an_need_rolling cd_need_rolling ct_need_rolling), sl_need_rolling⟩)
    (c_need_rolling : PySem.W.codeIn K cd_need_rolling "need_rolling" = true)
    (k_need_rolling : PySem.W.keepIn K (.ref a_need_rolling) = true)
    (g_headers_of : PySem.W.nsIn K mainGlobals "headers_of" = some (some (.ref a_headers_of)))
    (l_headers_of : K.lookup a_headers_of = some ⟨oc_headers_of, od_headers_of, .func (PySem.W.fnOf "headers_of" "headers_of" (defArgs s_headers_of) (defBody s_headers_of) (defScope s_headers_of) .none kV_headers_of dc_headers_of pm_headers_of an_headers_of cd_headers_of ct_headers_of), sl_headers_of⟩)
    (c_headers_of : PySem.W.codeIn K cd_headers_of "headers_of" = true)
    (k_headers_of : PySem.W.keepIn K (.ref a_headers_of) = true)
    (g_contents_of : PySem.W.nsIn K mainGlobals "contents_of" = some (some (.ref a_contents_of)))
    (l_contents_of : K.lookup a_contents_of = some ⟨oc_contents_of, od_contents_of, .func (PySem.W.fnOf "contents_of" "contents_of" (defArgs s_contents_of) (defBody s_contents_of) (defScope s_contents_of) .none kV_contents_of dc_contents_of pm_contents_of an_contents_of cd_contents_of ct_contents_of), sl_contents_of⟩)
    (c_contents_of : PySem.W.codeIn K cd_contents_of "contents_of" = true)
    (k_contents_of : PySem.W.keepIn K (.ref a_contents_of) = true)
    (g_live_block : PySem.W.nsIn K mainGlobals "live_block" = some (some (.ref a_live_block)))
    (l_live_block : K.lookup a_live_block = some ⟨oc_live_block, od_live_block, .func (PySem.W.fnOf "live_block" "live_block" (defArgs s_live_block) (defBody s_live_block) (defScope s_live_block) .none kV_live_block dc_live_block pm_live_block an_live_block cd_live_block ct_live_block), sl_live_block⟩)
    (c_live_block : PySem.W.codeIn K cd_live_block "live_block" = true)
    (k_live_block : PySem.W.keepIn K (.ref a_live_block) = true)
    (g_held_content : PySem.W.nsIn K mainGlobals "held_content" = some (some (.ref a_held_content)))
    (l_held_content : K.lookup a_held_content = some ⟨oc_held_content, od_held_content, .func (PySem.W.fnOf "held_content" "held_content" (defArgs s_held_content) (defBody s_held_content) (defScope s_held_content) .none kV_held_content dc_held_content pm_held_content an_held_content cd_held_content ct_held_content), sl_held_content⟩)
    (c_held_content : PySem.W.codeIn K cd_held_content "held_content" = true)
    (k_held_content : PySem.W.keepIn K (.ref a_held_content) = true)
    (g_has_spoilt_header : PySem.W.nsIn K mainGlobals "has_spoilt_header" = some (some (.ref a_has_spoilt_header)))
    (l_has_spoilt_header : K.lookup a_has_spoilt_header = some ⟨oc_has_spoilt_header, od_has_spoilt_header, .func (PySem.W.fnOf "has_spoilt_header" "has_spoilt_header" (defArgs s_has_spoilt_header) (defBody s_has_spoilt_header) (defScope s_has_spoilt_header) .none kV_has_spoilt_header dc_has_spoilt_header pm_has_spoilt_header an_has_spoilt_header cd_has_spoilt_header ct_has_spoilt_header), sl_has_spoilt_header⟩)
    (c_has_spoilt_header : PySem.W.codeIn K cd_has_spoilt_header "has_spoilt_header" = true)
    (k_has_spoilt_header : PySem.W.keepIn K (.ref a_has_spoilt_header) = true)
    (g_live : PySem.W.nsIn K mainGlobals "live" = some (some (.ref a_live)))
    (l_live : K.lookup a_live = some ⟨oc_live, od_live, .func (PySem.W.fnOf "live" "live" (defArgs s_live) (defBody s_live) (defScope s_live) .none kV_live dc_live pm_live an_live cd_live ct_live), sl_live⟩)
    (c_live : PySem.W.codeIn K cd_live "live" = true)
    (k_live : PySem.W.keepIn K (.ref a_live) = true)
    (g_content : PySem.W.nsIn K mainGlobals "content" = some (some (.ref a_content)))
    (l_content : K.lookup a_content = some ⟨oc_content, od_content, .func (PySem.W.fnOf "content" "content" (defArgs s_content) (defBody s_content) (defScope s_content) .none kV_content dc_content pm_content an_content cd_content ct_content), sl_content⟩)
    (c_content : PySem.W.codeIn K cd_content "content" = true)
    (k_content : PySem.W.keepIn K (.ref a_content) = true)
    (g_can_move : PySem.W.nsIn K mainGlobals "can_move" = some (some (.ref a_can_move)))
    (l_can_move : K.lookup a_can_move = some ⟨oc_can_move, od_can_move, .func (PySem.W.fnOf "can_move" "can_move" (defArgs s_can_move) (defBody s_can_move) (defScope s_can_move) .none kV_can_move dc_can_move pm_can_move an_can_move cd_can_move ct_can_move), sl_can_move⟩)
    (c_can_move : PySem.W.codeIn K cd_can_move "can_move" = true)
    (k_can_move : PySem.W.keepIn K (.ref a_can_move) = true)
    (g_mark_behind : PySem.W.nsIn K mainGlobals "mark_behind" = some (some (.ref a_mark_behind)))
    (l_mark_behind : K.lookup a_mark_behind = some ⟨oc_mark_behind, od_mark_behind, .func (PySem.W.fnOf "mark_behind" "mark_behind" (defArgs s_mark_behind) (defBody s_mark_behind) (defScope s_mark_behind) .none kV_mark_behind dc_mark_behind pm_mark_behind an_mark_behind cd_mark_behind ct_mark_behind), sl_mark_behind⟩)
    (c_mark_behind : PySem.W.codeIn K cd_mark_behind "mark_behind" = true)
    (k_mark_behind : PySem.W.keepIn K (.ref a_mark_behind) = true)
    (g_move : PySem.W.nsIn K mainGlobals "move" = some (some (.ref a_move)))
    (l_move : K.lookup a_move = some ⟨oc_move, od_move, .func (PySem.W.fnOf "move" "move" (defArgs s_move) (defBody s_move) (defScope s_move) .none kV_move dc_move pm_move an_move cd_move ct_move), sl_move⟩)
    (c_move : PySem.W.codeIn K cd_move "move" = true)
    (k_move : PySem.W.keepIn K (.ref a_move) = true)
    (b_abs : PySem.W.nsIn K mainGlobals "abs" = some none)
    (b_all : PySem.W.nsIn K mainGlobals "all" = some none)
    (b_bool : PySem.W.nsIn K mainGlobals "bool" = some none)
    (b_enumerate : PySem.W.nsIn K mainGlobals "enumerate" = some none)
    (b_int : PySem.W.nsIn K mainGlobals "int" = some none)
    (b_isinstance : PySem.W.nsIn K mainGlobals "isinstance" = some none)
    (b_len : PySem.W.nsIn K mainGlobals "len" = some none)
    (b_list : PySem.W.nsIn K mainGlobals "list" = some none)
    (b_range : PySem.W.nsIn K mainGlobals "range" = some none)
    (b_repr : PySem.W.nsIn K mainGlobals "repr" = some none)
    (b_str : PySem.W.nsIn K mainGlobals "str" = some none)
    (b_tuple : PySem.W.nsIn K mainGlobals "tuple" = some none)
    (b_zip : PySem.W.nsIn K mainGlobals "zip" = some none)
    (g_Lpen : PySem.W.nsIn K mainGlobals "_law_pen" = some (some (.ref a_Lpen)))
    (l_Lpen : K.lookup a_Lpen = some ⟨oc_Lpen, od_Lpen, .func (PySem.W.fnOf "_law_pen" "_law_pen" (defArgs s_Lpen) (defBody s_Lpen) (defScope s_Lpen) .none kV_Lpen dc_Lpen pm_Lpen an_Lpen cd_Lpen ct_Lpen), sl_Lpen⟩)
    (c_Lpen : PySem.W.codeIn K cd_Lpen "_law_pen" = true)
    (k_Lpen : PySem.W.keepIn K (.ref a_Lpen) = true)
    (g_Ldraw : PySem.W.nsIn K mainGlobals "_law_draw" = some (some (.ref a_Ldraw)))
    (l_Ldraw : K.lookup a_Ldraw = some ⟨oc_Ldraw, od_Ldraw, .func (PySem.W.fnOf "_law_draw" "_law_draw" (defArgs s_Ldraw) (defBody s_Ldraw) (defScope s_Ldraw) .none kV_Ldraw dc_Ldraw pm_Ldraw an_Ldraw cd_Ldraw ct_Ldraw), sl_Ldraw⟩)
    (c_Ldraw : PySem.W.codeIn K cd_Ldraw "_law_draw" = true)
    (k_Ldraw : PySem.W.keepIn K (.ref a_Ldraw) = true)
    (g_Lpick : PySem.W.nsIn K mainGlobals "_law_pick" = some (some (.ref a_Lpick)))
    (l_Lpick : K.lookup a_Lpick = some ⟨oc_Lpick, od_Lpick, .func (PySem.W.fnOf "_law_pick" "_law_pick" (defArgs s_Lpick) (defBody s_Lpick) (defScope s_Lpick) .none kV_Lpick dc_Lpick pm_Lpick an_Lpick cd_Lpick ct_Lpick), sl_Lpick⟩)
    (c_Lpick : PySem.W.codeIn K cd_Lpick "_law_pick" = true)
    (k_Lpick : PySem.W.keepIn K (.ref a_Lpick) = true)
    (g_Lcontent : PySem.W.nsIn K mainGlobals "_law_content" = some (some (.ref a_Lcontent)))
    (l_Lcontent : K.lookup a_Lcontent = some ⟨oc_Lcontent, od_Lcontent, .func (PySem.W.fnOf "_law_content" "_law_content" (defArgs s_Lcontent) (defBody s_Lcontent) (defScope s_Lcontent) .none kV_Lcontent dc_Lcontent pm_Lcontent an_Lcontent cd_Lcontent ct_Lcontent), sl_Lcontent⟩)
    (c_Lcontent : PySem.W.codeIn K cd_Lcontent "_law_content" = true)
    (k_Lcontent : PySem.W.keepIn K (.ref a_Lcontent) = true)
    (g_Llive : PySem.W.nsIn K mainGlobals "_law_live" = some (some (.ref a_Llive)))
    (l_Llive : K.lookup a_Llive = some ⟨oc_Llive, od_Llive, .func (PySem.W.fnOf "_law_live" "_law_live" (defArgs s_Llive) (defBody s_Llive) (defScope s_Llive) .none kV_Llive dc_Llive pm_Llive an_Llive cd_Llive ct_Llive), sl_Llive⟩)
    (c_Llive : PySem.W.codeIn K cd_Llive "_law_live" = true)
    (k_Llive : PySem.W.keepIn K (.ref a_Llive) = true)
    (g_Lblocks : PySem.W.nsIn K mainGlobals "_law_blocks" = some (some (.ref a_Lblocks)))
    (l_Lblocks : K.lookup a_Lblocks = some ⟨oc_Lblocks, od_Lblocks, .func (PySem.W.fnOf "_law_blocks" "_law_blocks" (defArgs s_Lblocks) (defBody s_Lblocks) (defScope s_Lblocks) .none kV_Lblocks dc_Lblocks pm_Lblocks an_Lblocks cd_Lblocks ct_Lblocks), sl_Lblocks⟩)
    (c_Lblocks : PySem.W.codeIn K cd_Lblocks "_law_blocks" = true)
    (k_Lblocks : PySem.W.keepIn K (.ref a_Lblocks) = true)
    (g_Lfresh : PySem.W.nsIn K mainGlobals "_law_fresh" = some (some (.ref a_Lfresh)))
    (l_Lfresh : K.lookup a_Lfresh = some ⟨oc_Lfresh, od_Lfresh, .func (PySem.W.fnOf "_law_fresh" "_law_fresh" (defArgs s_Lfresh) (defBody s_Lfresh) (defScope s_Lfresh) .none kV_Lfresh dc_Lfresh pm_Lfresh an_Lfresh cd_Lfresh ct_Lfresh), sl_Lfresh⟩)
    (c_Lfresh : PySem.W.codeIn K cd_Lfresh "_law_fresh" = true)
    (k_Lfresh : PySem.W.keepIn K (.ref a_Lfresh) = true)
    (g_Lwith : PySem.W.nsIn K mainGlobals "_law_with" = some (some (.ref a_Lwith)))
    (l_Lwith : K.lookup a_Lwith = some ⟨oc_Lwith, od_Lwith, .func (PySem.W.fnOf "_law_with" "_law_with" (defArgs s_Lwith) (defBody s_Lwith) (defScope s_Lwith) .none kV_Lwith dc_Lwith pm_Lwith an_Lwith cd_Lwith ct_Lwith), sl_Lwith⟩)
    (c_Lwith : PySem.W.codeIn K cd_Lwith "_law_with" = true)
    (k_Lwith : PySem.W.keepIn K (.ref a_Lwith) = true)
    (g_Lmove : PySem.W.nsIn K mainGlobals "_law_move" = some (some (.ref a_Lmove)))
    (l_Lmove : K.lookup a_Lmove = some ⟨oc_Lmove, od_Lmove, .func (PySem.W.fnOf "_law_move" "_law_move" (defArgs s_Lmove) (defBody s_Lmove) (defScope s_Lmove) .none kV_Lmove dc_Lmove pm_Lmove an_Lmove cd_Lmove ct_Lmove), sl_Lmove⟩)
    (c_Lmove : PySem.W.codeIn K cd_Lmove "_law_move" = true)
    (k_Lmove : PySem.W.keepIn K (.ref a_Lmove) = true)
    (g_Lheard : PySem.W.nsIn K mainGlobals "_law_heard" = some (some (.ref a_Lheard)))
    (l_Lheard : K.lookup a_Lheard = some ⟨oc_Lheard, od_Lheard, .func (PySem.W.fnOf "_law_heard" "_law_heard" (defArgs s_Lheard) (defBody s_Lheard) (defScope s_Lheard) .none kV_Lheard dc_Lheard pm_Lheard an_Lheard cd_Lheard ct_Lheard), sl_Lheard⟩)
    (c_Lheard : PySem.W.codeIn K cd_Lheard "_law_heard" = true)
    (k_Lheard : PySem.W.keepIn K (.ref a_Lheard) = true)
    (g_Lrefused : PySem.W.nsIn K mainGlobals "_law_refused" = some (some (.ref a_Lrefused)))
    (l_Lrefused : K.lookup a_Lrefused = some ⟨oc_Lrefused, od_Lrefused, .func (PySem.W.fnOf "_law_refused" "_law_refused" (defArgs s_Lrefused) (defBody s_Lrefused) (defScope s_Lrefused) .none kV_Lrefused dc_Lrefused pm_Lrefused an_Lrefused cd_Lrefused ct_Lrefused), sl_Lrefused⟩)
    (c_Lrefused : PySem.W.codeIn K cd_Lrefused "_law_refused" = true)
    (k_Lrefused : PySem.W.keepIn K (.ref a_Lrefused) = true)
    (g_law : PySem.W.nsIn K mainGlobals "law" = some (some (.ref a_law)))
    (l_law : K.lookup a_law = some ⟨oc_law, od_law, .func (PySem.W.fnOf "law" "law" (defArgs s_law) (defBody s_law) (defScope s_law) .none kV_law dc_law pm_law an_law cd_law ct_law), sl_law⟩)
    (c_law : PySem.W.codeIn K cd_law "law" = true)
    (k_law : PySem.W.keepIn K (.ref a_law) = true)
    : ∃ fd : FuncData, (∀ (s : Shared) (u : Value), BindsTo s fd ⟨[u], []⟩ [("_law_script", u)]) ∧ ∀ base : Heap, K.In base → base.Ns mainGlobals mg → FnG l.prog w K mg base CX0 8 fa fd ["_law_script"] (spLaw K) := by
  have e := hfa.symm.trans (PySem.W.mg_of X G g_law)
  cases e
  have F_npi := fun_mk (st := s_NoPattern_init) l_npi c_npi k_npi
  have B_npi := F_npi.binds (ps := ["self", "at"]) fun _ _ _ _ _ _ us hl => match us, hl with | [_, _], _ => rfl
  have F_Foreigni := fun_mk (st := s_Foreign_init) l_Foreigni c_Foreigni k_Foreigni
  have B_Foreigni := F_Foreigni.binds (ps := ["self", "found"]) fun _ _ _ _ _ _ us hl => match us, hl with | [_, _], _ => rfl
  have F_is_whole := fun_mk (st := s_is_whole) l_is_whole c_is_whole k_is_whole
  have B_is_whole := F_is_whole.binds (ps := ["thing"]) fun _ _ _ _ _ _ us hl => match us, hl with | [_], _ => rfl
  have F_is_number := fun_mk (st := s_is_number) l_is_number c_is_number k_is_number
  have B_is_number := F_is_number.binds (ps := ["thing", "many"]) fun _ _ _ _ _ _ us hl => match us, hl with | [_, _], _ => rfl
  have F_has_pattern_form := fun_mk (st := s_has_pattern_form) l_has_pattern_form c_has_pattern_form k_has_pattern_form
  have B_has_pattern_form := F_has_pattern_form.binds (ps := ["text"]) fun _ _ _ _ _ _ us hl => match us, hl with | [_], _ => rfl
  have F_pattern_fault := fun_mk (st := s_pattern_fault) l_pattern_fault c_pattern_fault k_pattern_fault
  have B_pattern_fault := F_pattern_fault.binds (ps := ["thing"]) fun _ _ _ _ _ _ us hl => match us, hl with | [_], _ => rfl
  have F_first_wrong_sign := fun_mk (st := s_first_wrong_sign) l_first_wrong_sign c_first_wrong_sign k_first_wrong_sign
  have B_first_wrong_sign := F_first_wrong_sign.binds (ps := ["thing"]) fun _ _ _ _ _ _ us hl => match us, hl with | [_], _ => rfl
  have F_need_pattern := fun_mk (st := s_need_pattern) l_need_pattern c_need_pattern k_need_pattern
  have B_need_pattern := F_need_pattern.binds (ps := ["thing"]) fun _ _ _ _ _ _ us hl => match us, hl with | [_], _ => rfl
  have F_sizes_of := fun_mk (st := s_sizes_of) l_sizes_of c_sizes_of k_sizes_of
  have B_sizes_of := F_sizes_of.binds (ps := ["text"]) fun _ _ _ _ _ _ us hl => match us, hl with | [_], _ => rfl
  have F_need_sizes := fun_mk (st := s_need_sizes) l_need_sizes c_need_sizes k_need_sizes
  have B_need_sizes := F_need_sizes.binds (ps := ["thing", "sizes"]) fun _ _ _ _ _ _ us hl => match us, hl with | [_, _], _ => rfl
  have F_need_bits := fun_mk (st := s_need_bits) l_need_bits c_need_bits k_need_bits
  have B_need_bits := F_need_bits.binds (ps := ["thing", "many"]) fun _ _ _ _ _ _ us hl => match us, hl with | [_, _], _ => rfl
  have F_need_content := fun_mk (st := s_need_content) l_need_content c_need_content k_need_content
  have B_need_content := F_need_content.binds (ps := ["thing", "many"]) fun _ _ _ _ _ _ us hl => match us, hl with | [_, _], _ => rfl
  have F_bits_of := fun_mk (st := s_bits_of) l_bits_of c_bits_of k_bits_of
  have B_bits_of := F_bits_of.binds (ps := ["text"]) fun _ _ _ _ _ _ us hl => match us, hl with | [_], _ => rfl
  have F_places_of := fun_mk (st := s_places_of) l_places_of c_places_of k_places_of
  have B_places_of := F_places_of.binds (ps := ["text"]) fun _ _ _ _ _ _ us hl => match us, hl with | [_], _ => rfl
  have F_with_fallen := fun_mk (st := s_with_fallen) l_with_fallen c_with_fallen k_with_fallen
  have B_with_fallen := F_with_fallen.binds (ps := ["text", "bits"]) fun _ _ _ _ _ _ us hl => match us, hl with | [_, _], _ => rfl
  have F_lies_below := fun_mk (st := s_lies_below) l_lies_below c_lies_below k_lies_below
  have B_lies_below := F_lies_below.binds (ps := ["one", "other"]) fun _ _ _ _ _ _ us hl => match us, hl with | [_, _], _ => rfl
  have F_unlike_sign := fun_mk (st := s_unlike_sign) l_unlike_sign c_unlike_sign k_unlike_sign
  have B_unlike_sign := F_unlike_sign.binds (ps := ["a", "b"]) fun _ _ _ _ _ _ us hl => match us, hl with | [_, _], _ => rfl
  have F_standing_bits := fun_mk (st := s_standing_bits) l_standing_bits c_standing_bits k_standing_bits
  have B_standing_bits := F_standing_bits.binds (ps := ["x"]) fun _ _ _ _ _ _ us hl => match us, hl with | [_], _ => rfl
  have F_need_rolling := fun_mk (st := s_need_rolling) l_need_rolling c_need_rolling k_need_rolling
  have B_need_rolling := F_need_rolling.binds (ps := ["x"]) fun _ _ _ _ _ _ us hl => match us, hl with | [_], _ => rfl
  have F_headers_of := fun_mk (st := s_headers_of) l_headers_of c_headers_of k_headers_of
  have B_headers_of := F_headers_of.binds (ps := ["x"]) fun _ _ _ _ _ _ us hl => match us, hl with | [_], _ => rfl
  have F_contents_of := fun_mk (st := s_contents_of) l_contents_of c_contents_of k_contents_of
  have B_contents_of := F_contents_of.binds (ps := ["x"]) fun _ _ _ _ _ _ us hl => match us, hl with | [_], _ => rfl
  have F_live_block := fun_mk (st := s_live_block) l_live_block c_live_block k_live_block
  have B_live_block := F_live_block.binds (ps := ["x"]) fun _ _ _ _ _ _ us hl => match us, hl with | [_], _ => rfl
  have F_held_content := fun_mk (st := s_held_content) l_held_content c_held_content k_held_content
  have B_held_content := F_held_content.binds (ps := ["x"]) fun _ _ _ _ _ _ us hl => match us, hl with | [_], _ => rfl
  have F_has_spoilt_header := fun_mk (st := s_has_spoilt_header) l_has_spoilt_header c_has_spoilt_header k_has_spoilt_header
  have B_has_spoilt_header := F_has_spoilt_header.binds (ps := ["x"]) fun _ _ _ _ _ _ us hl => match us, hl with | [_], _ => rfl
  have F_live := fun_mk (st := s_live) l_live c_live k_live
  have B_live := F_live.binds (ps := ["x"]) fun _ _ _ _ _ _ us hl => match us, hl with | [_], _ => rfl
  have F_content := fun_mk (st := s_content) l_content c_content k_content
  have B_content := F_content.binds (ps := ["x"]) fun _ _ _ _ _ _ us hl => match us, hl with | [_], _ => rfl
  have F_can_move := fun_mk (st := s_can_move) l_can_move c_can_move k_can_move
  have B_can_move := F_can_move.binds (ps := ["x"]) fun _ _ _ _ _ _ us hl => match us, hl with | [_], _ => rfl
  have F_mark_behind := fun_mk (st := s_mark_behind) l_mark_behind c_mark_behind k_mark_behind
  have B_mark_behind := F_mark_behind.binds (ps := ["headers", "at"]) fun _ _ _ _ _ _ us hl => match us, hl with | [_, _], _ => rfl
  have F_move := fun_mk (st := s_move) l_move c_move k_move
  have B_move := F_move.binds (ps := ["x", "fresh"]) fun _ _ _ _ _ _ us hl => match us, hl with | [_, _], _ => rfl
  have F_Lpen := fun_mk (st := s_Lpen) l_Lpen c_Lpen k_Lpen
  have B_Lpen := F_Lpen.binds (ps := ["_law_script"]) fun _ _ _ _ _ _ us hl => match us, hl with | [_], _ => rfl
  have F_Ldraw := fun_mk (st := s_Ldraw) l_Ldraw c_Ldraw k_Ldraw
  have B_Ldraw := F_Ldraw.binds (ps := ["_law_pen_here", "_law_many"]) fun _ _ _ _ _ _ us hl => match us, hl with | [_, _], _ => rfl
  have F_Lpick := fun_mk (st := s_Lpick) l_Lpick c_Lpick k_Lpick
  have B_Lpick := F_Lpick.binds (ps := ["_law_pen_here", "_law_some"]) fun _ _ _ _ _ _ us hl => match us, hl with | [_, _], _ => rfl
  have F_Lcontent := fun_mk (st := s_Lcontent) l_Lcontent c_Lcontent k_Lcontent
  have B_Lcontent := F_Lcontent.binds (ps := ["_law_pen_here", "_law_many"]) fun _ _ _ _ _ _ us hl => match us, hl with | [_, _], _ => rfl
  have F_Llive := fun_mk (st := s_Llive) l_Llive c_Llive k_Llive
  have B_Llive := F_Llive.binds (ps := ["_law_blocks_here"]) fun _ _ _ _ _ _ us hl => match us, hl with | [_], _ => rfl
  have F_Lblocks := fun_mk (st := s_Lblocks) l_Lblocks c_Lblocks k_Lblocks
  have B_Lblocks := F_Lblocks.binds (ps := ["_law_pen_here", "_law_many"]) fun _ _ _ _ _ _ us hl => match us, hl with | [_, _], _ => rfl
  have F_Lfresh := fun_mk (st := s_Lfresh) l_Lfresh c_Lfresh k_Lfresh
  have B_Lfresh := F_Lfresh.binds (ps := ["_law_pen_here", "_law_blocks_here"]) fun _ _ _ _ _ _ us hl => match us, hl with | [_, _], _ => rfl
  have F_Lwith := fun_mk (st := s_Lwith) l_Lwith c_Lwith k_Lwith
  have B_Lwith := F_Lwith.binds (ps := ["_law_blocks_here", "_law_at", "_law_text"]) fun _ _ _ _ _ _ us hl => match us, hl with | [_, _, _], _ => rfl
  have F_Lmove := fun_mk (st := s_Lmove) l_Lmove c_Lmove k_Lmove
  have B_Lmove := F_Lmove.binds (ps := ["_law_blocks_here", "_law_fresh_here"]) fun _ _ _ _ _ _ us hl => match us, hl with | [_, _], _ => rfl
  have F_Lheard := fun_mk (st := s_Lheard) l_Lheard c_Lheard k_Lheard
  have B_Lheard := F_Lheard.binds (ps := ["_law_x", "_law_fresh_here"]) fun _ _ _ _ _ _ us hl => match us, hl with | [_, _], _ => rfl
  have F_Lrefused := fun_mk (st := s_Lrefused) l_Lrefused c_Lrefused k_Lrefused
  have B_Lrefused := F_Lrefused.binds (ps := ["_law_pen_here", "_law_blocks_here", "_law_fresh_here"]) fun _ _ _ _ _ _ us hl => match us, hl with | [_, _, _], _ => rfl
  have F_law := fun_mk (st := s_law) l_law c_law k_law
  let z : Pz := { fe := fe, cNoPattern := cNoPattern, a_npi := a_npi, d_npi := (PySem.W.fnOf "__init__" "NoPattern.__init__" (defArgs s_NoPattern_init) (defBody s_NoPattern_init) (defScope s_NoPattern_init) .none kV_npi dc_npi pm_npi an_npi cd_npi ct_npi), cUnlike := cUnlike, cNoBit := cNoBit, cForeign := cForeign, a_Foreigni := a_Foreigni, d_Foreigni := (PySem.W.fnOf "__init__" "Foreign.__init__" (defArgs s_Foreign_init) (defBody s_Foreign_init) (defScope s_Foreign_init) .none kV_Foreigni dc_Foreigni pm_Foreigni an_Foreigni cd_Foreigni ct_Foreigni), C := C, kMARKS := kMARKS, a_is_whole := a_is_whole, d_is_whole := (PySem.W.fnOf "is_whole" "is_whole" (defArgs s_is_whole) (defBody s_is_whole) (defScope s_is_whole) .none kV_is_whole dc_is_whole pm_is_whole an_is_whole cd_is_whole ct_is_whole), a_is_number := a_is_number, d_is_number := (PySem.W.fnOf "is_number" "is_number" (defArgs s_is_number) (defBody s_is_number) (defScope s_is_number) .none kV_is_number dc_is_number pm_is_number an_is_number cd_is_number ct_is_number), a_has_pattern_form := a_has_pattern_form, d_has_pattern_form := (PySem.W.fnOf "has_pattern_form" "has_pattern_form" (defArgs s_has_pattern_form) (defBody s_has_pattern_form) (defScope s_has_pattern_form) .none kV_has_pattern_form dc_has_pattern_form pm_has_pattern_form an_has_pattern_form cd_has_pattern_form ct_has_pattern_form), a_pattern_fault := a_pattern_fault, d_pattern_fault := (PySem.W.fnOf "pattern_fault" "pattern_fault" (defArgs s_pattern_fault) (defBody s_pattern_fault) (defScope s_pattern_fault) .none kV_pattern_fault dc_pattern_fault pm_pattern_fault an_pattern_fault cd_pattern_fault ct_pattern_fault), a_first_wrong_sign := a_first_wrong_sign, d_first_wrong_sign := (PySem.W.fnOf "first_wrong_sign" "first_wrong_sign" (defArgs s_first_wrong_sign) (defBody s_first_wrong_sign) (defScope s_first_wrong_sign) .none kV_first_wrong_sign dc_first_wrong_sign pm_first_wrong_sign an_first_wrong_sign cd_first_wrong_sign ct_first_wrong_sign), a_need_pattern := a_need_pattern, d_need_pattern := (PySem.W.fnOf "need_pattern" "need_pattern" (defArgs s_need_pattern) (defBody s_need_pattern) (defScope s_need_pattern) .none kV_need_pattern dc_need_pattern pm_need_pattern an_need_pattern cd_need_pattern ct_need_pattern), a_sizes_of := a_sizes_of, d_sizes_of := (PySem.W.fnOf "sizes_of" "sizes_of" (defArgs s_sizes_of) (defBody s_sizes_of) (defScope s_sizes_of) .none kV_sizes_of dc_sizes_of pm_sizes_of an_sizes_of cd_sizes_of ct_sizes_of), a_need_sizes := a_need_sizes, d_need_sizes := (PySem.W.fnOf "need_sizes" "need_sizes" (defArgs s_need_sizes) (defBody s_need_sizes) (defScope s_need_sizes) .none kV_need_sizes dc_need_sizes pm_need_sizes an_need_sizes cd_need_sizes ct_need_sizes), a_need_bits := a_need_bits, d_need_bits := (PySem.W.fnOf "need_bits" "need_bits" (defArgs s_need_bits) (defBody s_need_bits) (defScope s_need_bits) .none kV_need_bits dc_need_bits pm_need_bits an_need_bits cd_need_bits ct_need_bits), a_need_content := a_need_content, d_need_content := (PySem.W.fnOf "need_content" "need_content" (defArgs s_need_content) (defBody s_need_content) (defScope s_need_content) .none kV_need_content dc_need_content pm_need_content an_need_content cd_need_content ct_need_content), a_bits_of := a_bits_of, d_bits_of := (PySem.W.fnOf "bits_of" "bits_of" (defArgs s_bits_of) (defBody s_bits_of) (defScope s_bits_of) .none kV_bits_of dc_bits_of pm_bits_of an_bits_of cd_bits_of ct_bits_of), a_places_of := a_places_of, d_places_of := (PySem.W.fnOf "places_of" "places_of" (defArgs s_places_of) (defBody s_places_of) (defScope s_places_of) .none kV_places_of dc_places_of pm_places_of an_places_of cd_places_of ct_places_of), a_with_fallen := a_with_fallen, d_with_fallen := (PySem.W.fnOf "with_fallen" "with_fallen" (defArgs s_with_fallen) (defBody s_with_fallen) (defScope s_with_fallen) .none kV_with_fallen dc_with_fallen pm_with_fallen an_with_fallen cd_with_fallen ct_with_fallen), a_lies_below := a_lies_below, d_lies_below := (PySem.W.fnOf "lies_below" "lies_below" (defArgs s_lies_below) (defBody s_lies_below) (defScope s_lies_below) .none kV_lies_below dc_lies_below pm_lies_below an_lies_below cd_lies_below ct_lies_below), a_unlike_sign := a_unlike_sign, d_unlike_sign := (PySem.W.fnOf "unlike_sign" "unlike_sign" (defArgs s_unlike_sign) (defBody s_unlike_sign) (defScope s_unlike_sign) .none kV_unlike_sign dc_unlike_sign pm_unlike_sign an_unlike_sign cd_unlike_sign ct_unlike_sign), a_standing_bits := a_standing_bits, d_standing_bits := (PySem.W.fnOf "standing_bits" "standing_bits" (defArgs s_standing_bits) (defBody s_standing_bits) (defScope s_standing_bits) .none kV_standing_bits dc_standing_bits pm_standing_bits an_standing_bits cd_standing_bits ct_standing_bits), a_need_rolling := a_need_rolling, d_need_rolling := (PySem.W.fnOf "need_rolling" "need_rolling" (defArgs s_need_rolling) (defBody s_need_rolling) (defScope s_need_rolling) .none kV_need_rolling dc_need_rolling pm_need_rolling an_need_rolling cd_need_rolling ct_need_rolling), a_headers_of := a_headers_of, d_headers_of := (PySem.W.fnOf "headers_of" "headers_of" (defArgs s_headers_of) (defBody s_headers_of) (defScope s_headers_of) .none kV_headers_of dc_headers_of pm_headers_of an_headers_of cd_headers_of ct_headers_of), a_contents_of := a_contents_of, d_contents_of := (PySem.W.fnOf "contents_of" "contents_of" (defArgs s_contents_of) (defBody s_contents_of) (defScope s_contents_of) .none kV_contents_of dc_contents_of pm_contents_of an_contents_of cd_contents_of ct_contents_of), a_live_block := a_live_block, d_live_block := (PySem.W.fnOf "live_block" "live_block" (defArgs s_live_block) (defBody s_live_block) (defScope s_live_block) .none kV_live_block dc_live_block pm_live_block an_live_block cd_live_block ct_live_block), a_held_content := a_held_content, d_held_content := (PySem.W.fnOf "held_content" "held_content" (defArgs s_held_content) (defBody s_held_content) (defScope s_held_content) .none kV_held_content dc_held_content pm_held_content an_held_content cd_held_content ct_held_content), a_has_spoilt_header := a_has_spoilt_header, d_has_spoilt_header := (PySem.W.fnOf "has_spoilt_header" "has_spoilt_header" (defArgs s_has_spoilt_header) (defBody s_has_spoilt_header) (defScope s_has_spoilt_header) .none kV_has_spoilt_header dc_has_spoilt_header pm_has_spoilt_header an_has_spoilt_header cd_has_spoilt_header ct_has_spoilt_header), a_live := a_live, d_live := (PySem.W.fnOf "live" "live" (defArgs s_live) (defBody s_live) (defScope s_live) .none kV_live dc_live pm_live an_live cd_live ct_live), a_content := a_content, d_content := (PySem.W.fnOf "content" "content" (defArgs s_content) (defBody s_content) (defScope s_content) .none kV_content dc_content pm_content an_content cd_content ct_content), a_can_move := a_can_move, d_can_move := (PySem.W.fnOf "can_move" "can_move" (defArgs s_can_move) (defBody s_can_move) (defScope s_can_move) .none kV_can_move dc_can_move pm_can_move an_can_move cd_can_move ct_can_move), a_mark_behind := a_mark_behind, d_mark_behind := (PySem.W.fnOf "mark_behind" "mark_behind" (defArgs s_mark_behind) (defBody s_mark_behind) (defScope s_mark_behind) .none kV_mark_behind dc_mark_behind pm_mark_behind an_mark_behind cd_mark_behind ct_mark_behind), a_move := a_move, d_move := (PySem.W.fnOf "move" "move" (defArgs s_move) (defBody s_move) (defScope s_move) .none kV_move dc_move pm_move an_move cd_move ct_move) }
  let w1 : Lz := { a_Lpen := a_Lpen, d_Lpen := (PySem.W.fnOf "_law_pen" "_law_pen" (defArgs s_Lpen) (defBody s_Lpen) (defScope s_Lpen) .none kV_Lpen dc_Lpen pm_Lpen an_Lpen cd_Lpen ct_Lpen), a_Ldraw := a_Ldraw, d_Ldraw := (PySem.W.fnOf "_law_draw" "_law_draw" (defArgs s_Ldraw) (defBody s_Ldraw) (defScope s_Ldraw) .none kV_Ldraw dc_Ldraw pm_Ldraw an_Ldraw cd_Ldraw ct_Ldraw), a_Lpick := a_Lpick, d_Lpick := (PySem.W.fnOf "_law_pick" "_law_pick" (defArgs s_Lpick) (defBody s_Lpick) (defScope s_Lpick) .none kV_Lpick dc_Lpick pm_Lpick an_Lpick cd_Lpick ct_Lpick), a_Lcontent := a_Lcontent, d_Lcontent := (PySem.W.fnOf "_law_content" "_law_content" (defArgs s_Lcontent) (defBody s_Lcontent) (defScope s_Lcontent) .none kV_Lcontent dc_Lcontent pm_Lcontent an_Lcontent cd_Lcontent ct_Lcontent), a_Llive := a_Llive, d_Llive := (PySem.W.fnOf "_law_live" "_law_live" (defArgs s_Llive) (defBody s_Llive) (defScope s_Llive) .none kV_Llive dc_Llive pm_Llive an_Llive cd_Llive ct_Llive), a_Lblocks := a_Lblocks, d_Lblocks := (PySem.W.fnOf "_law_blocks" "_law_blocks" (defArgs s_Lblocks) (defBody s_Lblocks) (defScope s_Lblocks) .none kV_Lblocks dc_Lblocks pm_Lblocks an_Lblocks cd_Lblocks ct_Lblocks), a_Lfresh := a_Lfresh, d_Lfresh := (PySem.W.fnOf "_law_fresh" "_law_fresh" (defArgs s_Lfresh) (defBody s_Lfresh) (defScope s_Lfresh) .none kV_Lfresh dc_Lfresh pm_Lfresh an_Lfresh cd_Lfresh ct_Lfresh), a_Lwith := a_Lwith, d_Lwith := (PySem.W.fnOf "_law_with" "_law_with" (defArgs s_Lwith) (defBody s_Lwith) (defScope s_Lwith) .none kV_Lwith dc_Lwith pm_Lwith an_Lwith cd_Lwith ct_Lwith), a_Lmove := a_Lmove, d_Lmove := (PySem.W.fnOf "_law_move" "_law_move" (defArgs s_Lmove) (defBody s_Lmove) (defScope s_Lmove) .none kV_Lmove dc_Lmove pm_Lmove an_Lmove cd_Lmove ct_Lmove), a_Lheard := a_Lheard, d_Lheard := (PySem.W.fnOf "_law_heard" "_law_heard" (defArgs s_Lheard) (defBody s_Lheard) (defScope s_Lheard) .none kV_Lheard dc_Lheard pm_Lheard an_Lheard cd_Lheard ct_Lheard), a_Lrefused := a_Lrefused, d_Lrefused := (PySem.W.fnOf "_law_refused" "_law_refused" (defArgs s_Lrefused) (defBody s_Lrefused) (defScope s_Lrefused) .none kV_Lrefused dc_Lrefused pm_Lrefused an_Lrefused cd_Lrefused ct_Lrefused), a_law := fa, d_law := (PySem.W.fnOf "law" "law" (defArgs s_law) (defBody s_law) (defScope s_law) .none kV_law dc_law pm_law an_law cd_law ct_law) }
  have T : TxL K mg z w1 := { xFallenError := PySem.W.mg_of X G gF, clF := clF, tyF := tyF, sbF := sbF, xb := ⟨hn, ht⟩, xNoPattern := XF.of X G gxNoPattern oxNoPattern kpxNoPattern tyxNoPattern saxNoPattern gaxNoPattern ggxNoPattern caxNoPattern, F_npi := F_npi, b_npi := B_npi, iNP := iNP, tNP := tNP, nNP := nNP, xUnlike := XF.of X G gxUnlike oxUnlike kpxUnlike tyxUnlike saxUnlike gaxUnlike ggxUnlike caxUnlike, eUnlike := exUnlike, xNoBit := XF.of X G gxNoBit oxNoBit kpxNoBit tyxNoBit saxNoBit gaxNoBit ggxNoBit caxNoBit, eNoBit := exNoBit, xForeign := XF.of X G gxForeign oxForeign kpxForeign tyxForeign saxForeign gaxForeign ggxForeign caxForeign, F_Foreigni := F_Foreigni, b_Foreigni := B_Foreigni, iForeign := iForeign, tForeign := tForeign, nForeign_found := nForeign_found, ne_NoPattern_F := ne_NoPattern_F, ne_NoPattern_Unlike := ne_NoPattern_Unlike, ne_NoPattern_NoBit := ne_NoPattern_NoBit, ne_NoPattern_Foreign := ne_NoPattern_Foreign, ne_Unlike_F := ne_Unlike_F, ne_Unlike_NoPattern := ne_Unlike_NoPattern, ne_Unlike_NoBit := ne_Unlike_NoBit, ne_Unlike_Foreign := ne_Unlike_Foreign, ne_NoBit_F := ne_NoBit_F, ne_NoBit_NoPattern := ne_NoBit_NoPattern, ne_NoBit_Unlike := ne_NoBit_Unlike, ne_NoBit_Foreign := ne_NoBit_Foreign, ne_Foreign_F := ne_Foreign_F, ne_Foreign_NoPattern := ne_Foreign_NoPattern, ne_Foreign_Unlike := ne_Foreign_Unlike, ne_Foreign_NoBit := ne_Foreign_NoBit, g_Pattern := PySem.W.mg_of X G gC, crP := ⟨rdC, gaC⟩, vBITS := ⟨_, _, ⟨rdC, gaC⟩, ⟨vBITS, ⟨_, rfl⟩⟩⟩, vBLOCKS := ⟨_, _, ⟨rdC, gaC⟩, ⟨vBLOCKS, ⟨_, rfl⟩⟩⟩, g_HEADER := ⟨_, PySem.W.mg_of X G gkHEADER⟩, g_LEAST_SIZE := ⟨_, PySem.W.mg_of X G gkLEAST_SIZE⟩, g_MARKS := PySem.W.mg_of X G gkMARKS, lkMARKS := ⟨okMARKS, ikMARKS, nkMARKS, lkMARKS, ckMARKS, dkMARKS, zkMARKS, rkMARKS⟩, g_FREE := ⟨_, PySem.W.mg_of X G gkFREE⟩, g_SPOILT := ⟨_, PySem.W.mg_of X G gkSPOILT⟩, g_is_whole := PySem.W.mg_of X G g_is_whole, k_is_whole := k_is_whole, b_is_whole := B_is_whole, F_is_whole := F_is_whole, g_is_number := PySem.W.mg_of X G g_is_number, k_is_number := k_is_number, b_is_number := B_is_number, F_is_number := F_is_number, g_has_pattern_form := PySem.W.mg_of X G g_has_pattern_form, k_has_pattern_form := k_has_pattern_form, b_has_pattern_form := B_has_pattern_form, F_has_pattern_form := F_has_pattern_form, g_pattern_fault := PySem.W.mg_of X G g_pattern_fault, k_pattern_fault := k_pattern_fault, b_pattern_fault := B_pattern_fault, F_pattern_fault := F_pattern_fault, g_first_wrong_sign := PySem.W.mg_of X G g_first_wrong_sign, k_first_wrong_sign := k_first_wrong_sign, b_first_wrong_sign := B_first_wrong_sign, F_first_wrong_sign := F_first_wrong_sign, g_need_pattern := PySem.W.mg_of X G g_need_pattern, k_need_pattern := k_need_pattern, b_need_pattern := B_need_pattern, F_need_pattern := F_need_pattern, g_sizes_of := PySem.W.mg_of X G g_sizes_of, k_sizes_of := k_sizes_of, b_sizes_of := B_sizes_of, F_sizes_of := F_sizes_of, g_need_sizes := PySem.W.mg_of X G g_need_sizes, k_need_sizes := k_need_sizes, b_need_sizes := B_need_sizes, F_need_sizes := F_need_sizes, g_need_bits := PySem.W.mg_of X G g_need_bits, k_need_bits := k_need_bits, b_need_bits := B_need_bits, F_need_bits := F_need_bits, g_need_content := PySem.W.mg_of X G g_need_content, k_need_content := k_need_content, b_need_content := B_need_content, F_need_content := F_need_content, g_bits_of := PySem.W.mg_of X G g_bits_of, k_bits_of := k_bits_of, b_bits_of := B_bits_of, F_bits_of := F_bits_of, g_places_of := PySem.W.mg_of X G g_places_of, k_places_of := k_places_of, b_places_of := B_places_of, F_places_of := F_places_of, g_with_fallen := PySem.W.mg_of X G g_with_fallen, k_with_fallen := k_with_fallen, b_with_fallen := B_with_fallen, F_with_fallen := F_with_fallen, g_lies_below := PySem.W.mg_of X G g_lies_below, k_lies_below := k_lies_below, b_lies_below := B_lies_below, F_lies_below := F_lies_below, g_unlike_sign := PySem.W.mg_of X G g_unlike_sign, k_unlike_sign := k_unlike_sign, b_unlike_sign := B_unlike_sign, F_unlike_sign := F_unlike_sign, g_standing_bits := PySem.W.mg_of X G g_standing_bits, k_standing_bits := k_standing_bits, b_standing_bits := B_standing_bits, F_standing_bits := F_standing_bits, g_need_rolling := PySem.W.mg_of X G g_need_rolling, k_need_rolling := k_need_rolling, b_need_rolling := B_need_rolling, F_need_rolling := F_need_rolling, g_headers_of := PySem.W.mg_of X G g_headers_of, k_headers_of := k_headers_of, b_headers_of := B_headers_of, F_headers_of := F_headers_of, g_contents_of := PySem.W.mg_of X G g_contents_of, k_contents_of := k_contents_of, b_contents_of := B_contents_of, F_contents_of := F_contents_of, g_live_block := PySem.W.mg_of X G g_live_block, k_live_block := k_live_block, b_live_block := B_live_block, F_live_block := F_live_block, g_held_content := PySem.W.mg_of X G g_held_content, k_held_content := k_held_content, b_held_content := B_held_content, F_held_content := F_held_content, g_has_spoilt_header := PySem.W.mg_of X G g_has_spoilt_header, k_has_spoilt_header := k_has_spoilt_header, b_has_spoilt_header := B_has_spoilt_header, F_has_spoilt_header := F_has_spoilt_header, g_live := PySem.W.mg_of X G g_live, k_live := k_live, b_live := B_live, F_live := F_live, g_content := PySem.W.mg_of X G g_content, k_content := k_content, b_content := B_content, F_content := F_content, g_can_move := PySem.W.mg_of X G g_can_move, k_can_move := k_can_move, b_can_move := B_can_move, F_can_move := F_can_move, g_mark_behind := PySem.W.mg_of X G g_mark_behind, k_mark_behind := k_mark_behind, b_mark_behind := B_mark_behind, F_mark_behind := F_mark_behind, g_move := PySem.W.mg_of X G g_move, k_move := k_move, b_move := B_move, F_move := F_move, n_abs := PySem.W.mg_none_of X G b_abs, n_all := PySem.W.mg_none_of X G b_all, n_bool := PySem.W.mg_none_of X G b_bool, n_enumerate := PySem.W.mg_none_of X G b_enumerate, n_int := PySem.W.mg_none_of X G b_int, n_isinstance := PySem.W.mg_none_of X G b_isinstance, n_len := PySem.W.mg_none_of X G b_len, n_list := PySem.W.mg_none_of X G b_list, n_range := PySem.W.mg_none_of X G b_range, n_repr := PySem.W.mg_none_of X G b_repr, n_str := PySem.W.mg_none_of X G b_str, n_tuple := PySem.W.mg_none_of X G b_tuple, n_zip := PySem.W.mg_none_of X G b_zip, g_Lpen := PySem.W.mg_of X G g_Lpen, k_Lpen := k_Lpen, b_Lpen := B_Lpen, F_Lpen := F_Lpen, g_Ldraw := PySem.W.mg_of X G g_Ldraw, k_Ldraw := k_Ldraw, b_Ldraw := B_Ldraw, F_Ldraw := F_Ldraw, g_Lpick := PySem.W.mg_of X G g_Lpick, k_Lpick := k_Lpick, b_Lpick := B_Lpick, F_Lpick := F_Lpick, g_Lcontent := PySem.W.mg_of X G g_Lcontent, k_Lcontent := k_Lcontent, b_Lcontent := B_Lcontent, F_Lcontent := F_Lcontent, g_Llive := PySem.W.mg_of X G g_Llive, k_Llive := k_Llive, b_Llive := B_Llive, F_Llive := F_Llive, g_Lblocks := PySem.W.mg_of X G g_Lblocks, k_Lblocks := k_Lblocks, b_Lblocks := B_Lblocks, F_Lblocks := F_Lblocks, g_Lfresh := PySem.W.mg_of X G g_Lfresh, k_Lfresh := k_Lfresh, b_Lfresh := B_Lfresh, F_Lfresh := F_Lfresh, g_Lwith := PySem.W.mg_of X G g_Lwith, k_Lwith := k_Lwith, b_Lwith := B_Lwith, F_Lwith := F_Lwith, g_Lmove := PySem.W.mg_of X G g_Lmove, k_Lmove := k_Lmove, b_Lmove := B_Lmove, F_Lmove := F_Lmove, g_Lheard := PySem.W.mg_of X G g_Lheard, k_Lheard := k_Lheard, b_Lheard := B_Lheard, F_Lheard := F_Lheard, g_Lrefused := PySem.W.mg_of X G g_Lrefused, k_Lrefused := k_Lrefused, b_Lrefused := B_Lrefused, F_Lrefused := F_Lrefused }
  exact ⟨(PySem.W.fnOf "law" "law" (defArgs s_law) (defBody s_law) (defScope s_law) .none kV_law dc_law pm_law an_law cd_law ct_law), fun s v => .of_eq rfl, fun base _ _ => ok_law F_law T⟩
theorem walk {l : PySem.W.OpenLaw} {q : Program} {loose : List Str} {XP : (Str → Option Value) → Heap → Prop} {YP : World → Heap → Prop} {d : DefRec} {K : Params → PySem.W.Frag} (hn : l.most = some 63) (hdf : d.params.defaults = []) (hY : ∀ (w : World) (h : Heap), YP w h → (K w.params).In h)
    (F : ∀ (w : World) (mg : Str → Option Value) (fa : Addr) (h : Heap), (K w.params).In h → h.Ns mainGlobals mg → mg d.name = some (.ref fa) →
      ∃ fd : FuncData, (∀ (s : Shared) (u : Value), BindsTo s fd ⟨[u], []⟩ [("_law_script", u)]) ∧ ∀ base : Heap, (K w.params).In base → base.Ns mainGlobals mg → FnG l.prog w (K w.params) mg base CX0 8 fa fd ["_law_script"] (spLaw (K w.params))) :
    PySem.W.WalkO q loose XP YP l.row.toRowW d [] (fun f vs => PySem.call f vs) :=
  walk_ofG (n := 63) (k := 8) (x := "_law_script") (CX := fun _ => CX0) (sp := fun w => spLaw (K w.params)) hn (by decide) hdf ⟨rfl, by decide, by decide⟩ hY F (fun _ _ a ns hl _ hS => ⟨a, ns, rfl, hS, hl, fun _ => rfl⟩) fun _ _ _ _ _ z => z
end Fb
open PySem PySem.W PyProof.Rows
set_option maxRecDepth 100000 in
set_option maxHeartbeats 0 in
theorem PySem.Challenge.cw_fallenbits_k68_moves_holds : PySem.Challenge.rw_fallenbits_k68_moves.Holds := by
  w_on; o_law; k_head; (case hw => w_witness2)
  k_fill
  refine Fb.walk (l := PySem.Challenge.rw_fallenbits_k68_moves) rfl rfl (fun w h Y => PySem.W.kIn_of Y) ?F
  case F =>
    intro w mg fa h KX G hmg
    refine' Fb.all_mk KX G hmg ?zz_gF ?zz_clF ?zz_tyF ?zz_sbF ?zz_hn ?zz_ht ?zz_gxNoPattern ?zz_oxNoPattern ?zz_kpxNoPattern ?zz_tyxNoPattern ?zz_saxNoPattern ?zz_gaxNoPattern ?zz_ggxNoPattern ?zz_caxNoPattern ?zz_iNP ?zz_tNP ?zz_l_npi ?zz_c_npi ?zz_k_npi ?zz_nNP ?zz_gxUnlike ?zz_oxUnlike ?zz_kpxUnlike ?zz_tyxUnlike ?zz_saxUnlike ?zz_gaxUnlike ?zz_ggxUnlike ?zz_caxUnlike ?zz_exUnlike ?zz_gxNoBit ?zz_oxNoBit ?zz_kpxNoBit ?zz_tyxNoBit ?zz_saxNoBit ?zz_gaxNoBit ?zz_ggxNoBit ?zz_caxNoBit ?zz_exNoBit ?zz_gxForeign ?zz_oxForeign ?zz_kpxForeign ?zz_tyxForeign ?zz_saxForeign ?zz_gaxForeign ?zz_ggxForeign ?zz_caxForeign ?zz_iForeign ?zz_tForeign ?zz_l_Foreigni ?zz_c_Foreigni ?zz_k_Foreigni ?zz_nForeign_found ?zz_ne_NoPattern_F ?zz_ne_NoPattern_Unlike ?zz_ne_NoPattern_NoBit ?zz_ne_NoPattern_Foreign ?zz_ne_Unlike_F ?zz_ne_Unlike_NoPattern ?zz_ne_Unlike_NoBit ?zz_ne_Unlike_Foreign ?zz_ne_NoBit_F ?zz_ne_NoBit_NoPattern ?zz_ne_NoBit_Unlike ?zz_ne_NoBit_Foreign ?zz_ne_Foreign_F ?zz_ne_Foreign_NoPattern ?zz_ne_Foreign_Unlike ?zz_ne_Foreign_NoBit ?zz_gC ?zz_rdC ?zz_gaC ?zz_vBITS ?zz_vBLOCKS ?zz_gkHEADER ?zz_gkLEAST_SIZE ?zz_gkMARKS ?zz_lkMARKS ?zz_ckMARKS ?zz_dkMARKS ?zz_zkMARKS ?zz_rkMARKS ?zz_gkFREE ?zz_gkSPOILT ?zz_g_is_whole ?zz_l_is_whole ?zz_c_is_whole ?zz_k_is_whole ?zz_g_is_number ?zz_l_is_number ?zz_c_is_number ?zz_k_is_number ?zz_g_has_pattern_form ?zz_l_has_pattern_form ?zz_c_has_pattern_form ?zz_k_has_pattern_form ?zz_g_pattern_fault ?zz_l_pattern_fault ?zz_c_pattern_fault ?zz_k_pattern_fault ?zz_g_first_wrong_sign ?zz_l_first_wrong_sign ?zz_c_first_wrong_sign ?zz_k_first_wrong_sign ?zz_g_need_pattern ?zz_l_need_pattern ?zz_c_need_pattern ?zz_k_need_pattern ?zz_g_sizes_of ?zz_l_sizes_of ?zz_c_sizes_of ?zz_k_sizes_of ?zz_g_need_sizes ?zz_l_need_sizes ?zz_c_need_sizes ?zz_k_need_sizes ?zz_g_need_bits ?zz_l_need_bits ?zz_c_need_bits ?zz_k_need_bits ?zz_g_need_content ?zz_l_need_content ?zz_c_need_content ?zz_k_need_content ?zz_g_bits_of ?zz_l_bits_of ?zz_c_bits_of ?zz_k_bits_of ?zz_g_places_of ?zz_l_places_of ?zz_c_places_of ?zz_k_places_of ?zz_g_with_fallen ?zz_l_with_fallen ?zz_c_with_fallen ?zz_k_with_fallen ?zz_g_lies_below ?zz_l_lies_below ?zz_c_lies_below ?zz_k_lies_below ?zz_g_unlike_sign ?zz_l_unlike_sign ?zz_c_unlike_sign ?zz_k_unlike_sign ?zz_g_standing_bits ?zz_l_standing_bits ?zz_c_standing_bits ?zz_k_standing_bits ?zz_g_need_rolling ?zz_l_need_rolling ?zz_c_need_rolling ?zz_k_need_rolling ?zz_g_headers_of ?zz_l_headers_of ?zz_c_headers_of ?zz_k_headers_of ?zz_g_contents_of ?zz_l_contents_of ?zz_c_contents_of ?zz_k_contents_of ?zz_g_live_block ?zz_l_live_block ?zz_c_live_block ?zz_k_live_block ?zz_g_held_content ?zz_l_held_content ?zz_c_held_content ?zz_k_held_content ?zz_g_has_spoilt_header ?zz_l_has_spoilt_header ?zz_c_has_spoilt_header ?zz_k_has_spoilt_header ?zz_g_live ?zz_l_live ?zz_c_live ?zz_k_live ?zz_g_content ?zz_l_content ?zz_c_content ?zz_k_content ?zz_g_can_move ?zz_l_can_move ?zz_c_can_move ?zz_k_can_move ?zz_g_mark_behind ?zz_l_mark_behind ?zz_c_mark_behind ?zz_k_mark_behind ?zz_g_move ?zz_l_move ?zz_c_move ?zz_k_move ?zz_b_abs ?zz_b_all ?zz_b_bool ?zz_b_enumerate ?zz_b_int ?zz_b_isinstance ?zz_b_len ?zz_b_list ?zz_b_range ?zz_b_repr ?zz_b_str ?zz_b_tuple ?zz_b_zip ?zz_g_Lpen ?zz_l_Lpen ?zz_c_Lpen ?zz_k_Lpen ?zz_g_Ldraw ?zz_l_Ldraw ?zz_c_Ldraw ?zz_k_Ldraw ?zz_g_Lpick ?zz_l_Lpick ?zz_c_Lpick ?zz_k_Lpick ?zz_g_Lcontent ?zz_l_Lcontent ?zz_c_Lcontent ?zz_k_Lcontent ?zz_g_Llive ?zz_l_Llive ?zz_c_Llive ?zz_k_Llive ?zz_g_Lblocks ?zz_l_Lblocks ?zz_c_Lblocks ?zz_k_Lblocks ?zz_g_Lfresh ?zz_l_Lfresh ?zz_c_Lfresh ?zz_k_Lfresh ?zz_g_Lwith ?zz_l_Lwith ?zz_c_Lwith ?zz_k_Lwith ?zz_g_Lmove ?zz_l_Lmove ?zz_c_Lmove ?zz_k_Lmove ?zz_g_Lheard ?zz_l_Lheard ?zz_c_Lheard ?zz_k_Lheard ?zz_g_Lrefused ?zz_l_Lrefused ?zz_c_Lrefused ?zz_k_Lrefused ?zz_g_law ?zz_l_law ?zz_c_law ?zz_k_law
    (case zz_gF => k_is)
    (case zz_clF => k_is)
    (case zz_tyF => k_is)
    (case zz_sbF => k_is)
    (case zz_hn => k_is)
    (case zz_ht => k_is)
    (case zz_gxNoPattern => k_is)
    (case zz_oxNoPattern => k_is)
    (case zz_kpxNoPattern => k_is)
    (case zz_tyxNoPattern => k_is)
    (case zz_saxNoPattern => k_is)
    (case zz_gaxNoPattern => k_is)
    (case zz_ggxNoPattern => k_is)
    (case zz_caxNoPattern => k_is)
    (case zz_iNP => k_is)
    (case zz_tNP => k_is)
    (case zz_l_npi => k_is)
    (case zz_c_npi => k_is)
    (case zz_k_npi => k_is)
    (case zz_nNP => k_is)
    (case zz_gxUnlike => k_is)
    (case zz_oxUnlike => k_is)
    (case zz_kpxUnlike => k_is)
    (case zz_tyxUnlike => k_is)
    (case zz_saxUnlike => k_is)
    (case zz_gaxUnlike => k_is)
    (case zz_ggxUnlike => k_is)
    (case zz_caxUnlike => k_is)
    (case zz_exUnlike => k_exc)
    (case zz_gxNoBit => k_is)
    (case zz_oxNoBit => k_is)
    (case zz_kpxNoBit => k_is)
    (case zz_tyxNoBit => k_is)
    (case zz_saxNoBit => k_is)
    (case zz_gaxNoBit => k_is)
    (case zz_ggxNoBit => k_is)
    (case zz_caxNoBit => k_is)
    (case zz_exNoBit => k_exc)
    (case zz_gxForeign => k_is)
    (case zz_oxForeign => k_is)
    (case zz_kpxForeign => k_is)
    (case zz_tyxForeign => k_is)
    (case zz_saxForeign => k_is)
    (case zz_gaxForeign => k_is)
    (case zz_ggxForeign => k_is)
    (case zz_caxForeign => k_is)
    (case zz_iForeign => k_is)
    (case zz_tForeign => k_is)
    (case zz_l_Foreigni => k_is)
    (case zz_c_Foreigni => k_is)
    (case zz_k_Foreigni => k_is)
    (case zz_nForeign_found => k_is)
    (case zz_ne_NoPattern_F => decide)
    (case zz_ne_NoPattern_Unlike => decide)
    (case zz_ne_NoPattern_NoBit => decide)
    (case zz_ne_NoPattern_Foreign => decide)
    (case zz_ne_Unlike_F => decide)
    (case zz_ne_Unlike_NoPattern => decide)
    (case zz_ne_Unlike_NoBit => decide)
    (case zz_ne_Unlike_Foreign => decide)
    (case zz_ne_NoBit_F => decide)
    (case zz_ne_NoBit_NoPattern => decide)
    (case zz_ne_NoBit_Unlike => decide)
    (case zz_ne_NoBit_Foreign => decide)
    (case zz_ne_Foreign_F => decide)
    (case zz_ne_Foreign_NoPattern => decide)
    (case zz_ne_Foreign_Unlike => decide)
    (case zz_ne_Foreign_NoBit => decide)
    (case zz_gC => k_is)
    (case zz_rdC => k_is)
    (case zz_gaC => k_is)
    (case zz_vBITS => k_is)
    (case zz_vBLOCKS => k_is)
    (case zz_gkHEADER => k_is)
    (case zz_gkLEAST_SIZE => k_is)
    (case zz_gkMARKS => k_is)
    (case zz_lkMARKS => k_is)
    (case zz_ckMARKS => rfl)
    (case zz_dkMARKS => rfl)
    (case zz_zkMARKS => decide +kernel)
    (case zz_rkMARKS => exact (.cons ⟨_, rfl⟩ (.cons ⟨_, rfl⟩ .nil)))
    (case zz_gkFREE => k_is)
    (case zz_gkSPOILT => k_is)
    (case zz_g_is_whole => k_is)
    (case zz_l_is_whole => k_is)
    (case zz_c_is_whole => k_is)
    (case zz_k_is_whole => k_is)
    (case zz_g_is_number => k_is)
    (case zz_l_is_number => k_is)
    (case zz_c_is_number => k_is)
    (case zz_k_is_number => k_is)
    (case zz_g_has_pattern_form => k_is)
    (case zz_l_has_pattern_form => k_is)
    (case zz_c_has_pattern_form => k_is)
    (case zz_k_has_pattern_form => k_is)
    (case zz_g_pattern_fault => k_is)
    (case zz_l_pattern_fault => k_is)
    (case zz_c_pattern_fault => k_is)
    (case zz_k_pattern_fault => k_is)
    (case zz_g_first_wrong_sign => k_is)
    (case zz_l_first_wrong_sign => k_is)
    (case zz_c_first_wrong_sign => k_is)
    (case zz_k_first_wrong_sign => k_is)
    (case zz_g_need_pattern => k_is)
    (case zz_l_need_pattern => k_is)
    (case zz_c_need_pattern => k_is)
    (case zz_k_need_pattern => k_is)
    (case zz_g_sizes_of => k_is)
    (case zz_l_sizes_of => k_is)
    (case zz_c_sizes_of => k_is)
    (case zz_k_sizes_of => k_is)
    (case zz_g_need_sizes => k_is)
    (case zz_l_need_sizes => k_is)
    (case zz_c_need_sizes => k_is)
    (case zz_k_need_sizes => k_is)
    (case zz_g_need_bits => k_is)
    (case zz_l_need_bits => k_is)
    (case zz_c_need_bits => k_is)
    (case zz_k_need_bits => k_is)
    (case zz_g_need_content => k_is)
    (case zz_l_need_content => k_is)
    (case zz_c_need_content => k_is)
    (case zz_k_need_content => k_is)
    (case zz_g_bits_of => k_is)
    (case zz_l_bits_of => k_is)
    (case zz_c_bits_of => k_is)
    (case zz_k_bits_of => k_is)
    (case zz_g_places_of => k_is)
    (case zz_l_places_of => k_is)
    (case zz_c_places_of => k_is)
    (case zz_k_places_of => k_is)
    (case zz_g_with_fallen => k_is)
    (case zz_l_with_fallen => k_is)
    (case zz_c_with_fallen => k_is)
    (case zz_k_with_fallen => k_is)
    (case zz_g_lies_below => k_is)
    (case zz_l_lies_below => k_is)
    (case zz_c_lies_below => k_is)
    (case zz_k_lies_below => k_is)
    (case zz_g_unlike_sign => k_is)
    (case zz_l_unlike_sign => k_is)
    (case zz_c_unlike_sign => k_is)
    (case zz_k_unlike_sign => k_is)
    (case zz_g_standing_bits => k_is)
    (case zz_l_standing_bits => k_is)
    (case zz_c_standing_bits => k_is)
    (case zz_k_standing_bits => k_is)
    (case zz_g_need_rolling => k_is)
    (case zz_l_need_rolling => k_is)
    (case zz_c_need_rolling => k_is)
    (case zz_k_need_rolling => k_is)
    (case zz_g_headers_of => k_is)
    (case zz_l_headers_of => k_is)
    (case zz_c_headers_of => k_is)
    (case zz_k_headers_of => k_is)
    (case zz_g_contents_of => k_is)
    (case zz_l_contents_of => k_is)
    (case zz_c_contents_of => k_is)
    (case zz_k_contents_of => k_is)
    (case zz_g_live_block => k_is)
    (case zz_l_live_block => k_is)
    (case zz_c_live_block => k_is)
    (case zz_k_live_block => k_is)
    (case zz_g_held_content => k_is)
    (case zz_l_held_content => k_is)
    (case zz_c_held_content => k_is)
    (case zz_k_held_content => k_is)
    (case zz_g_has_spoilt_header => k_is)
    (case zz_l_has_spoilt_header => k_is)
    (case zz_c_has_spoilt_header => k_is)
    (case zz_k_has_spoilt_header => k_is)
    (case zz_g_live => k_is)
    (case zz_l_live => k_is)
    (case zz_c_live => k_is)
    (case zz_k_live => k_is)
    (case zz_g_content => k_is)
    (case zz_l_content => k_is)
    (case zz_c_content => k_is)
    (case zz_k_content => k_is)
    (case zz_g_can_move => k_is)
    (case zz_l_can_move => k_is)
    (case zz_c_can_move => k_is)
    (case zz_k_can_move => k_is)
    (case zz_g_mark_behind => k_is)
    (case zz_l_mark_behind => k_is)
    (case zz_c_mark_behind => k_is)
    (case zz_k_mark_behind => k_is)
    (case zz_g_move => k_is)
    (case zz_l_move => k_is)
    (case zz_c_move => k_is)
    (case zz_k_move => k_is)
    (case zz_b_abs => k_is)
    (case zz_b_all => k_is)
    (case zz_b_bool => k_is)
    (case zz_b_enumerate => k_is)
    (case zz_b_int => k_is)
    (case zz_b_isinstance => k_is)
    (case zz_b_len => k_is)
    (case zz_b_list => k_is)
    (case zz_b_range => k_is)
    (case zz_b_repr => k_is)
    (case zz_b_str => k_is)
    (case zz_b_tuple => k_is)
    (case zz_b_zip => k_is)
    (case zz_g_Lpen => k_is)
    (case zz_l_Lpen => k_is)
    (case zz_c_Lpen => k_is)
    (case zz_k_Lpen => k_is)
    (case zz_g_Ldraw => k_is)
    (case zz_l_Ldraw => k_is)
    (case zz_c_Ldraw => k_is)
    (case zz_k_Ldraw => k_is)
    (case zz_g_Lpick => k_is)
    (case zz_l_Lpick => k_is)
    (case zz_c_Lpick => k_is)
    (case zz_k_Lpick => k_is)
    (case zz_g_Lcontent => k_is)
    (case zz_l_Lcontent => k_is)
    (case zz_c_Lcontent => k_is)
    (case zz_k_Lcontent => k_is)
    (case zz_g_Llive => k_is)
    (case zz_l_Llive => k_is)
    (case zz_c_Llive => k_is)
    (case zz_k_Llive => k_is)
    (case zz_g_Lblocks => k_is)
    (case zz_l_Lblocks => k_is)
    (case zz_c_Lblocks => k_is)
    (case zz_k_Lblocks => k_is)
    (case zz_g_Lfresh => k_is)
    (case zz_l_Lfresh => k_is)
    (case zz_c_Lfresh => k_is)
    (case zz_k_Lfresh => k_is)
    (case zz_g_Lwith => k_is)
    (case zz_l_Lwith => k_is)
    (case zz_c_Lwith => k_is)
    (case zz_k_Lwith => k_is)
    (case zz_g_Lmove => k_is)
    (case zz_l_Lmove => k_is)
    (case zz_c_Lmove => k_is)
    (case zz_k_Lmove => k_is)
    (case zz_g_Lheard => k_is)
    (case zz_l_Lheard => k_is)
    (case zz_c_Lheard => k_is)
    (case zz_k_Lheard => k_is)
    (case zz_g_Lrefused => k_is)
    (case zz_l_Lrefused => k_is)
    (case zz_c_Lrefused => k_is)
    (case zz_k_Lrefused => k_is)
    (case zz_g_law => k_is)
    (case zz_l_law => k_is)
    (case zz_c_law => k_is)
    (case zz_k_law => k_is)
