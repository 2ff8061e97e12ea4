import PyProof.Rows.All
import Wide.All
import OpenK.AllK
import Wide.FinOn
import HandS.ForMost
import HandS.ForExc
import PyProof.ReprReads
import PyProof.ReprRoads
import PyProof.Rows.CountFlat
import HandS.EndTab
import HandS.Wide
import HandS.Codes
import HandS.ExcInit
import HandS.ExcValue
import HandS.ExcIs
import HandS.IsInst
import HandS.SetFor
import KE.KExcIs
import KE.GoesEnum
import KE.GoesZip
import KE.GoesMore
import HandS.SlotsOwn
import HandS.Property
import HandS.ClsMeth
import KE.KCallOwn
import HandS.Replace
import HandS.ReplaceDef
import HandS.ReplaceLit
import HandS.WordsExc
import HandS.ReplaceList
import HandS.Lambda
import PyProof.StrOps2
import PyProof.WalkInts
import PyProof.FString5
import HandS.Star
import KE.KTupSum
import PyProof.Rows.StrCountLaw
import HandS.Base
import HandS.Call
import PyProof.ToksMono
import HandS.List
import HandS.Conv
import HandS.ExcOwn
import HandS.Zip
import HandS.Walk
import HandS.TryOnly
import KE.KUnpackStar
import PyProof.MakeMany
import HandS.RaiseMore
import HandS.StrMore
import HandS.Small
import KE.OsRunLaw
import KE.KNestM
import PySem.Challenge.RW_fallenbits_k81_texts_of_stores_refused
set_option Elab.async false
set_option linter.all false
set_option maxRecDepth 100000
set_option maxHeartbeats 4000000
namespace Fb
open PySem PySem.Spec PyProof.Rows L2
/-! defs whose promise is asked only where no repr is under way -/
/-- no repr is under way -/
abbrev Q0 (A : Around) : Prop := A.guards = some []
structure FnG (P : Program) (w : World) (K : PySem.W.Frag) (mg : Str → Option Value) (base : Heap) (CX : CXT) (k : Nat) (f : Addr) (fd : FuncData) (ps : List Str) (sp : Sp) : Prop where
  many : ∀ {vs H Q E}, sp vs H Q E → vs.length = ps.length
  go : ∀ {A : Around} {outer : List Env} {s : Shared} {H : Hp} {args : Args} {us : List Value} {vs : List V} {Q : VK} {E : XK}, Q0 A → Room k A → Env0 P w K mg base A outer s H →
    BindsTo s fd args (ps.zip us) → Vals vs us → sp vs H Q E → codeAny (model P w) A (.call (.ref f) args) (CR CX outer P w H s Q E) s
section
variable {P : Program} {w : World} {K : PySem.W.Frag} {mg : Str → Option Value} {base : Heap} {CX : CXT} {k : Nat} {f : Addr} {fd : FuncData} {ps : List Str} {sp : Sp}
theorem FnG.of (F : FnOk P w K mg base CX k f fd ps sp) : FnG P w K mg base CX k f fd ps sp :=
  ⟨fun h => F.len _ _ _ _ h, fun _ hr he hb hv h => F.run _ _ _ _ _ _ _ _ _ hr he hb hv h⟩
theorem q0_deeper {A : Around} {env : Env} (h : Q0 A) : Q0 (A.deeper env) := by
  first
    | exact h
    | (obtain ⟨hd, d, fr, gs, u⟩ := A; simp_all [Around.deeper, pushGuards])
end
/-- the rule for a def, its body told where no repr is under way -/
theorem Fun.okG {P : Program} {w : World} {K : PySem.W.Frag} {mg : Str → Option Value} {base : Heap} {CX : CXT} {x qual : Str} {st : Stmt} {f : Addr} {fd : FuncData} {N ps : List Str} {k : Nat} {sp : Sp} (F : Fun K x qual st f fd) (S : FnScope N ps (defScope st))
    (len : ∀ {vs H Q E}, sp vs H Q E → vs.length = ps.length)
    (body : ∀ {cdv : Value} {A : Around} {outer : List Env} {s : Shared} {H : Hp} {vs : List V} {Q : VK} {E : XK}, Q0 (A.deeper (envOfC qual (defScope st) s.heap.objs.size f cdv)) → Room k (A.deeper (envOfC qual (defScope st) s.heap.objs.size f cdv)) → sp vs H Q E →
      ∃ t, PSs (cxOf CX P w K mg base N qual (defScope st) f cdv A outer s H E) (defBody st) t ∧ t { nx := fun _ H' => Q .non H', rt := Q } (start N vs) H) : FnG P w K mg base CX (k + 1) f fd ps sp := by
  obtain ⟨oc, od, kV, doc, pm, an, cdv, ct, osl, rfl, lk, hcd⟩ := F.ex
  refine ⟨len, ?_⟩
  intro A outer s H args us vs Q E hg room env bnd rel asked
  have stays : ∀ b o, base.get? b = some o → s.heap.get? b = some o := fun b o z => (env.bs b o z).1
  have kin : K.In s.heap := env.mod.kin.keeps stays
  have kinds : ∀ y ∈ ps.zip us, (defScope st).names.lookup y.1 = some .local ∨ ((defScope st).names.lookup y.1 = some .cell ∧ ((cellsFrom (s.heap.objs.size + 1) (defScope st).names []).lookup y.1).isSome = true) := by
    rintro ⟨n, v⟩ hy
    rcases S.par n (List.of_mem_zip hy).1 with z | z
    · exact Or.inl z
    · exact Or.inr ⟨z, PySem.W.cellsFrom_some _ _ _ (Or.inl z)⟩
  refine codeAny_call_function room.depth (kin _ _ lk) rfl S.co S.gen rfl (PySem.W.codeRec_of kin hcd) (bnd _ _ _ _ (wpAny_newFunctionEnv_cells S.kind kinds ?_))
  rintro _ rfl s1 born
  refine ⟨(env.mod.nolimit.keeps stays).keeps born.toInCall.keep, codeAny_func ?_⟩
  obtain ⟨t, ht, asked2⟩ := body (outer := outer) (s := s) (q0_deeper hg) (room.deeper _) asked
  have I := inv_start (CX := CX) (E := E) S room.hd env (len asked) rel born
  refine wpAny_mono (ht.run [] s1 _ H _ I asked2) ?_ (fun _ _ z => z)
  intro fl s' z
  cases fl with
  | brk =>
    obtain ⟨_, _, _, q⟩ := z
    exact (show False from q).elim
  | cont =>
    obtain ⟨_, _, _, q⟩ := z
    exact (show False from q).elim
  | next =>
    obtain ⟨σ', H', J, q⟩ := z
    exact ⟨.non, H', J.os, J.bare, J.base, J.hok, rfl, q⟩
  | ret u =>
    obtain ⟨v, σ', H', J, rv, q⟩ := z
    exact ⟨v, H', J.os, J.bare, J.base, J.hok, rv, q⟩
/-- .. that lets no exception out -/
theorem Fun.okG0 {P : Program} {w : World} {K : PySem.W.Frag} {mg : Str → Option Value} {base : Heap} {x qual : Str} {st : Stmt} {f : Addr} {fd : FuncData} {N ps : List Str} {k : Nat} {sp : Sp} (F : Fun K x qual st f fd) (S : FnScope N ps (defScope st))
    (len : ∀ {vs H Q E}, sp vs H Q E → vs.length = ps.length)
    (body : ∀ {cdv : Value} {A : Around} {outer : List Env} {s : Shared} {H : Hp} {vs : List V} {Q : VK} {E : XK}, Q0 (A.deeper (envOfC qual (defScope st) s.heap.objs.size f cdv)) → Room k (A.deeper (envOfC qual (defScope st) s.heap.objs.size f cdv)) → sp vs H Q E →
      ∃ t, PSs (cxOf CX0 P w K mg base N qual (defScope st) f cdv A outer s H E).nox (defBody st) t ∧ t { nx := fun _ H' => Q .non H', rt := Q } (start N vs) H) : FnG P w K mg base CX0 (k + 1) f fd ps sp :=
  Fun.okG F S len fun hg hr h => by
    obtain ⟨t, a, b⟩ := body hg hr h
    exact ⟨t, a.nox, b⟩
section
variable {X : Cx} {CX : CXT} {k : Nat} {f : Addr} {fd : FuncData} {ps : List Str} {sp : Sp} {dvs : List V} {ds : List Value} {E : XK} {x : Str} {p pos : Pos} {e : Expr} {es : List Expr} {t : TA}
/-- f(e, ..), no repr under way -/
theorem pe_callG (hq : Q0 X.A) (F : FnG X.prog X.w X.K X.mg X.base CX k f fd ps sp) (hr : Room k X.A) (hg : Gl X x) (hm : X.mg x = some (.ref f)) (hk : PySem.W.keepIn X.K (.ref f) = true) (hb : Binds X.K fd ps ds) (hd : Vals dvs ds) (hx : Passes CX X E)
    (ha : PA X (e :: es) t) (hdb : (x == ("__debug__" : Str)) = false := by decide) (he : starEach (e :: es) X.env = (false, eval e X.env) :: starEach es X.env := by rfl) (hpl : (backTo pos (starEach es X.env)).any (·.1) = false := by rfl) :
    PE X (.Call (.Name x p) (e :: es) [] pos) (tCall sp dvs E t) := by
  constructor
  intro pins s σ H Q I h
  apply wpAny_Call_Name_kw
  refine ld_glob I hg hm ?_ hdb
  apply PySem.W.callWith_K (h₀ := X.base) I.ok.mod.kin hk ?_ he hpl
  apply thn (ha.run pos pins s σ H _ I h)
  rintro us s1 ⟨vs, H1, I1, rel, asked⟩
  have rel2 : Vals (vs ++ dvs) (us ++ ds) := rel.append hd
  have hl : (us ++ ds).length = ps.length := rel2.length.symm.trans (F.many asked)
  refine ⟨I1.kIn, wpAny_call (codeAny_mono (F.go hq hr I1.env0 (hb s1 us I1.kIn hl) rel2 asked) ?_)⟩
  intro r s' z
  cases r with
  | error er => exact hx pins σ _ _ er s' I1 z
  | ok fl =>
    cases fl with
    | ret u => exact I1.after z
    | brk => exact (show False from z).elim
    | cont => exact (show False from z).elim
    | next => exact (show False from z).elim
end
/-! the law's own call -/
section
variable {P : Program} {w : World} {K : PySem.W.Frag} {mg mb : Str → Option Value} {CX : CXT} {k : Nat} {fa a : Addr} {fd : FuncData} {x : Str} {sp : Sp} {s₁ : Shared} {vs : List Value} {ns : List Int}
/-- what the law's def is asked from outside, H telling of nothing but the script -/
theorem law_core (kin : K.In s₁.heap) (hns : s₁.heap.Ns mainGlobals mg) (hb : s₁.heap.Ns builtinsNs mb) (hbb : ∀ x : Str, x ≠ "__name__" → mb x = bootBuiltins x) (hlim : s₁.heap.NoLimit) (hg : s₁.gens = #[])
    (ha : s₁.heap.get? a = some { cls := .type "list", data := .seq vs.toArray }) (room : Room k callerA)
    (F : ∀ base : Heap, K.In base → base.Ns mainGlobals mg → FnG P w K mg base CX k fa fd [x] sp) (bnd : ∀ (s : Shared) (u : Value), BindsTo s fd ⟨[u], []⟩ [(x, u)])
    (hCX : ∀ H e s', CX [] H s₁ (fun _ _ _ => False) e s' → False) {H : Hp} (only : Only H) (asked : sp [.ref a] H (fun v _ => v = .bl true) fun _ _ _ => False) (hok : HOk P w H s₁.heap)
    (hA : ∀ {b u}, H b = some u → b = a) (hK : ∀ {u}, H a = some u → K.lookup a = none) :
    codeAny (model P w) callerA (.call (.ref fa) ⟨[.ref a], []⟩) (fun r s' => r = .ok (.ret (.bool true)) ∧ OldK s₁.heap s'.heap ∧ s'.os = s₁.os ∧ AllBare s'.gens) s₁ := by
  have seen : ∀ {b : Addr} {o : Obj}, s₁.heap.get? b = some o → (∀ u, H b = some u → False) → (hidT s₁.heap H).get? b = some o := fun {b o} z n =>
    hidT_get z (by cases q : H b with | none => rfl | some u => exact (n u q).elim)
  have seenNs : ∀ {b : Addr} {m : Str → Option Value}, s₁.heap.Ns b m → (hidT s₁.heap H).Ns b m := by
    rintro b m ⟨o, es, ep, z, d, r⟩
    refine ⟨o, es, ep, seen z fun u q => ?_, d, r⟩
    have e := hA q
    subst e
    rw [ha] at z
    cases z
    exact nomatch d
  have kin2 : K.In (hidT s₁.heap H) := fun b o z => seen (kin b o z) fun u q => by
    have e := hA q
    subst e
    rw [hK q] at z
    cases z
  obtain ⟨mc, l1, l2⟩ := hlim
  have e0 : Env0 P w K mg (hidT s₁.heap H) callerA [] s₁ H := ⟨rfl, ⟨kin2, seenNs hns, ⟨mb, seenNs hb, hbb⟩, ⟨mc, seenNs l1, l2⟩⟩, fun b o z => of_hidT z, Nat.le_of_eq (hidT_size _ _), trivial, (fun b z => nomatch z), hok, .of_eq hg⟩
  refine codeAny_mono ((F _ kin2 (seenNs hns)).go (show Q0 callerA from rfl) room e0 (us := [.ref a]) (vs := [.ref a]) (bnd s₁ (.ref a)) (.cons rfl .nil) asked) ?_
  intro r s' z
  cases r with
  | error e => exact (hCX H e s' z).elim
  | ok fl =>
    cases fl with
    | brk => exact (show False from z).elim
    | cont => exact (show False from z).elim
    | next => exact (show False from z).elim
    | ret u =>
      obtain ⟨v, H', os, bare, un, hok', rv, rfl⟩ := z
      cases (show u = Value.bool true from rv)
      refine ⟨rfl, OldK.of_keep fun b o z => ?_, os, bare⟩
      rcases only b with n | ⟨ob, xs, n⟩
      · exact un.keep b o z n (fun q => nomatch q) (fun q => nomatch q)
      · obtain ⟨z1, _⟩ := hok b _ n
        obtain ⟨z2, _⟩ := hok' b _ (un.frzs b ob _ n)
        rw [z2, ← z1, z]
theorem law_callG (kin : K.In s₁.heap) (hns : s₁.heap.Ns mainGlobals mg) (hb : s₁.heap.Ns builtinsNs mb) (hbb : ∀ x : Str, x ≠ "__name__" → mb x = bootBuiltins x) (hlim : s₁.heap.NoLimit) (hg : s₁.gens = #[])
    (ha : s₁.heap.get? a = some { cls := .type "list", data := .seq vs.toArray }) (hi : IntsAre vs ns) (hl : ns.length ≤ sizeLine) (room : Room k callerA)
    (F : ∀ base : Heap, K.In base → base.Ns mainGlobals mg → FnG P w K mg base CX k fa fd [x] sp) (bnd : ∀ (s : Shared) (u : Value), BindsTo s fd ⟨[u], []⟩ [(x, u)])
    (hsp : ∀ H : Hp, Only H → SqL K H a (ns.map V.int) → sp [.ref a] H (fun v _ => v = .bl true) fun _ _ _ => False)
    (hCX : ∀ H e s', CX [] H s₁ (fun _ _ _ => False) e s' → False) :
    codeAny (model P w) callerA (.call (.ref fa) ⟨[.ref a], []⟩) (fun r s' => r = .ok (.ret (.bool true)) ∧ OldK s₁.heap s'.heap ∧ s'.os = s₁.os ∧ AllBare s'.gens) s₁ := by
  have rel : Vals (ns.map V.int) vs := vals_ints hi
  cases hk : K.lookup a with
  | some o =>
    have z := kin a o hk
    rw [ha] at z
    cases z
    have only : Only (fun _ => none) := fun _ => Or.inl rfl
    refine law_core kin hns hb hbb hlim hg ha room F bnd hCX only (hsp _ only (Or.inr ⟨_, vs.toArray, _, hk, rfl, rfl, rfl, ?_, ?_⟩)) ?_ ?_ ?_
    · rw [List.size_toArray, hi.length]
      exact hl
    · simpa using rel
    · exact fun b u z => nomatch z
    · exact fun z => nomatch z
    · exact fun z => nomatch z
  | none =>
    let H0 : Hp := fun b => if b = a then some (.frz { cls := .type "list", data := .seq vs.toArray } (.lst (ns.map V.int))) else none
    have at0 : H0 a = some (.frz { cls := .type "list", data := .seq vs.toArray } (.lst (ns.map V.int))) := if_pos rfl
    have off : ∀ {b u}, H0 b = some u → b = a := fun {b u} z => by
      by_cases e : b = a
      · exact e
      · have z2 : H0 b = none := if_neg e
        rw [z2] at z
        cases z
    have only : Only H0 := fun b => by
      by_cases e : b = a
      · rw [e]
        exact Or.inr ⟨_, _, at0⟩
      · exact Or.inl (if_neg e)
    refine law_core kin hns hb hbb hlim hg ha room F bnd hCX only (hsp _ only (Or.inl (Or.inr ⟨_, at0⟩))) (fun b u z => ?_) off (fun _ => hk)
    have e := off z
    subst e
    rw [at0] at z
    cases z
    exact ⟨ha, by rw [List.length_map]; exact hl, vs, _, rel, ha⟩
end
/-- the goal that k_head leaves, from the law's promise over FnG -/
theorem walk_ofG {l : PySem.W.OpenLaw} {n k : Nat} {q : Program} {loose : List Str} {XP : (Str → Option Value) → Heap → Prop} {YP : World → Heap → Prop} {d : DefRec} {K : Params → PySem.W.Frag} {CX : World → CXT} {sp : World → Sp} {x : Str}
    (hn : l.most = some n) (hn2 : n ≤ sizeLine) (hdf : d.params.defaults = []) (hr : Room k callerA) (hY : ∀ (w : World) (h : Heap), YP w h → (K w.params).In h)
    (F : ∀ (w : World) (mg : Str → Option Value) (fa : Addr) (h : Heap), (K w.params).In h → h.Ns mainGlobals mg → mg d.name = some (.ref fa) →
      ∃ fd : FuncData, (∀ (s : Shared) (u : Value), BindsTo s fd ⟨[u], []⟩ [(x, u)]) ∧ ∀ base : Heap, (K w.params).In base → base.Ns mainGlobals mg → FnG l.prog w (K w.params) mg base (CX w) k fa fd [x] (sp w))
    (hsp : ∀ (w : World) (H : Hp) (a : Addr) (ns : List Int), ns.length ≤ n → Only H → SqL (K w.params) H a (ns.map V.int) → sp w [.ref a] H (fun v _ => v = .bl true) fun _ _ _ => False)
    (hCX : ∀ (w : World) (H : Hp) (s : Shared) (e : Value) (s' : Shared), CX w [] H s (fun _ _ _ => False) e s' → False) : PySem.W.WalkO q loose XP YP l.row.toRowW d [] (fun f vs => PySem.call f vs) := by
  apply Att.attach_call hn hdf
  intro w s₀ s₁ mg mb fa o pm cd doc a vs ns G Y _ _ _ hmg hobj hints hlen hg
  obtain ⟨fd, bnd, hF⟩ := F w mg fa _ (hY w _ Y) G.T.g hmg
  exact law_callG (hY w _ Y) G.T.g G.T.b G.T.builtins G.T.nolimit hg hobj hints (Nat.le_trans hlen hn2) hr hF bnd (fun H only hS => hsp w H a ns hlen only hS) (fun H e s' => hCX w H s₁ e s')
/-! repr of data; how often a truth value stands in a list -/
section
variable {X : Cx}
def rRepr (K : PySem.W.Frag) : List V → Hp → VK → Prop := fun xs H Q => ∃ (x : V) (d : PyData), xs = [x] ∧ Dp K H x d ∧ d.showable = true ∧ d.hasDict = false ∧ d.depth ≤ 60 ∧ d.shown.length ≤ sizeLine ∧ Q (.str d.shown) H
theorem call_repr (hq : Q0 X.A) (hu : X.A.units + 64 < cLine) : CallR X (.builtin "repr") (rRepr X.K) := by
  intro pins s σ H xs us Q I r h
  obtain ⟨x, d, rfl, hd, hs, hnd, hdep, hsz, q⟩ := h
  obtain ⟨u, rfl, ru⟩ := vals1 r
  have done : ∀ (h' : Heap) (t tk : Tok), (∀ b o, s.heap.get? b = some o → h'.get? b = some o) → EP X pins σ Q (.str d.shown t) { s with heap := h', toks := tk } :=
    fun h' t tk k => ⟨.str d.shown, H, I.kept k, ⟨t, rfl⟩, q⟩
  cases hd with
  | non =>
    cases (show u = Value.none from ru)
    exact PySem.P.repr_of_none (done s.heap _ _ fun _ _ z => z)
  | bl b =>
    cases (show u = Value.bool b from ru)
    have e : PyData.shown (.bool b) = (if b then "True" else "False" : Str) := by simp only [PyData.shown]
    rw [e] at done
    exact PySem.P.repr_of_bool (by cases b <;> exact done s.heap _ _ fun _ _ z => z)
  | int i =>
    obtain ⟨t, rfl⟩ := (show ∃ t, u = Value.int i t from ru)
    have e : PyData.shown (.int i) = toString i := by simp only [PyData.shown]
    rw [e] at done
    exact PySem.P.repr_of_int (by simpa [PyData.showable] using hs) (done s.heap _ _ fun _ _ z => z)
  | str y =>
    obtain ⟨t, rfl⟩ := (show ∃ t, u = Value.str y t from ru)
    have e : PyData.shown (.str y) = reprText y := by simp only [PyData.shown]
    rw [e] at done hsz
    exact PySem.P.repr_of_str (done s.heap _ _ fun _ _ z => z) hsz
  | @lst a ys ds h1 h2 =>
    obtain ⟨as, rd⟩ := Dp.reads I (.list ds) _ u (.lst h1 h2) ru
    cases (show u = Value.ref a from ru)
    exact PySem.repr_of_reads' rd hs (PyData.noDict_hsm hnd) hq (by omega) (fun _ _ z => z) (fun h' t tk k => done h' t tk k) hsz
  | @tup a ys ds h1 h2 =>
    obtain ⟨as, rd⟩ := Dp.reads I (.tuple ds) _ u (.tup h1 h2) ru
    cases (show u = Value.ref a from ru)
    exact PySem.repr_of_reads' rd hs (PyData.noDict_hsm hnd) hq (by omega) (fun _ _ z => z) (fun h' t tk k => done h' t tk k) hsz
theorem dp_bools {K : PySem.W.Frag} {H : Hp} : ∀ bs : List Bool, DpAll K H (bs.map V.bl) (bs.map PyData.bool)
  | [] => .nil
  | b :: bs => .cons (.bl b) (dp_bools bs)
theorem countIn_bools (k : Bool) : ∀ bs : List Bool, countIn (.bool k) (bs.map PyData.bool) = ((bs.count k : Nat) : Int)
  | [] => by simp [countIn]
  | b :: bs => by
    rw [List.map_cons, countIn, countIn_bools k bs, List.count_cons]
    simp only [same]
    cases b <;> cases k <;> simp <;> omega
def rCntB (K : PySem.W.Frag) : V → List V → Hp → VK → Prop := fun x xs H Q => ∃ (p : Addr) (bs : List Bool) (k : Bool), x = .ref p ∧ xs = [.bl k] ∧ SqL K H p (bs.map V.bl) ∧ Q (.int (bs.count k : Nat)) H
theorem mt_lcountB : MtR X "list.count" (rCntB X.K) := by
  intro pins s σ H x xs v us Q I rx rxs h
  obtain ⟨p, bs, k, rfl, rfl, hs, q⟩ := h
  cases rx
  obtain ⟨u, rfl, ru⟩ := rxs.one
  cases (show u = Value.bool k from ru)
  obtain ⟨its, rv, ⟨ob, n, ho, hc, _, hdat⟩, _⟩ := I.list hs
  obtain ⟨as, rd⟩ := Dp.readsAll I _ _ its (dp_bools bs) rv
  have all : (bs.map PyData.bool).all Shape.bool.has = true := by
    rw [List.all_eq_true]
    intro d hd
    obtain ⟨b, _, rfl⟩ := List.mem_map.mp hd
    rfl
  refine count_list_bools (vs := its) ⟨ob, ho, hc, n, hdat⟩ rd all ?_
  rw [countIn_bools]
  exact ⟨.int (bs.count k : Nat), H, I.tok _, ⟨_, rfl⟩, q⟩
end
end Fb
set_option maxRecDepth 100000
set_option maxHeartbeats 4000000
/-! the end of a law that is asked only where no repr is under way, with tables of code objects -/
namespace Fb
open PySem PySem.Spec PyProof.Rows L2
section
variable {P : Program} {w : World} {K : PySem.W.Frag} {mg mb : Str → Option Value} {CX : CXT} {k : Nat} {fa a : Addr} {cs : List (Addr × Addr)} {fd : FuncData} {x : Str} {sp : Sp} {s₁ : Shared} {vs : List Value} {ns : List Int}
theorem law_coreT (kin : K.In s₁.heap) (hns : s₁.heap.Ns mainGlobals mg) (hb : s₁.heap.Ns builtinsNs mb) (hbb : ∀ x : Str, x ≠ "__name__" → mb x = bootBuiltins x) (hlim : s₁.heap.NoLimit) (hg : s₁.gens = #[])
    (tabs : ∀ q ∈ cs, s₁.heap.get? q.2 = some { cls := .none, data := .fields #[] }) (out : ∀ q ∈ cs, K.lookup q.2 = none) (heads : ∀ q ∈ cs, PySem.W.CodeHd s₁.heap q.1 q.2)
    (hbm : ∃ (bm : Addr) (ob : Obj), mg "__builtins__" = some (.ref bm) ∧ bm ≠ builtinsNs ∧ s₁.heap.get? bm = some ob ∧ ob.cls = .type "module" ∧ ob.dict = some builtinsNs ∧ ob.data = .plain)
    (ha : s₁.heap.get? a = some { cls := .type "list", data := .seq vs.toArray }) (room : Room k callerA)
    (F : ∀ base : Heap, K.In base → base.Ns mainGlobals mg → (∀ q ∈ cs, LamX.TabB base mg q.1 q.2) → FnG P w K mg base CX k fa fd [x] sp) (bnd : ∀ (s : Shared) (u : Value), BindsTo s fd ⟨[u], []⟩ [(x, u)])
    (hCX : ∀ H e s', CX [] H s₁ (fun _ _ _ => False) e s' → False) {H : Hp} (tb : ∀ q ∈ cs, H q.2 = some (.tbl #[])) (only : ∀ b, H b = none ∨ b ∈ cs.map (·.2) ∨ ∃ o xs, H b = some (.frz o (.lst xs)))
    (asked : sp [.ref a] H (fun v _ => v = .bl true) fun _ _ _ => False) (hok : HOk P w H s₁.heap) (hA : ∀ {b u}, H b = some u → b = a ∨ b ∈ cs.map (·.2)) (hK : ∀ {u}, H a = some u → K.lookup a = none) :
    codeAny (model P w) callerA (.call (.ref fa) ⟨[.ref a], []⟩) (fun r s' => r = .ok (.ret (.bool true)) ∧ OldK s₁.heap s'.heap ∧ s'.os = s₁.os ∧ AllBare s'.gens) s₁ := by
  have tab : ∀ {b : Addr}, b ∈ cs.map (·.2) → s₁.heap.get? b = some { cls := .none, data := .fields #[] } := fun {b} m => by
    obtain ⟨q, hq, rfl⟩ := List.mem_map.mp m
    exact tabs q hq
  have seen : ∀ {b : Addr} {o : Obj}, s₁.heap.get? b = some o → (∀ u, H b = some u → False) → (hidT s₁.heap H).get? b = some o := fun {b o} z n =>
    hidT_get z (by cases q : H b with | none => rfl | some u => exact (n u q).elim)
  have off : ∀ {b : Addr} {o : Obj}, s₁.heap.get? b = some o → (∀ ws n, o.data = .seq ws n → False) → (o.data = .fields #[] → False) → ∀ u, H b = some u → False := fun {b o} z n1 n2 u q => by
    rcases hA q with e | e
    · subst e
      rw [ha] at z
      cases z
      exact n1 _ _ rfl
    · rw [tab e] at z
      cases z
      exact n2 rfl
  have seenNs : ∀ {b : Addr} {m : Str → Option Value}, s₁.heap.Ns b m → (hidT s₁.heap H).Ns b m := by
    rintro b m ⟨o, es, ep, z, d, r⟩
    exact ⟨o, es, ep, seen z (off z (fun ws n q => by rw [d] at q; cases q) fun q => by rw [d] at q; cases q), d, r⟩
  have kin2 : K.In (hidT s₁.heap H) := fun b o z => seen (kin b o z) fun u q => by
    rcases hA q with e | e
    · subst e
      rw [hK q] at z
      cases z
    · obtain ⟨t, ht, rfl⟩ := List.mem_map.mp e
      rw [out t ht] at z
      cases z
  have TB : ∀ q ∈ cs, LamX.TabB (hidT s₁.heap H) mg q.1 q.2 := fun q hq => by
    obtain ⟨o, us, file, tf, flags, tg, inF, text, tt, z, c1, c2, c3, rest⟩ := heads q hq
    obtain ⟨bm, ob, m1, m2, m3, m4, m5, m6⟩ := hbm
    obtain ⟨og, eg, pg, zg, dg, _⟩ := id hns
    refine ⟨⟨o, us, file, tf, flags, tg, inF, text, tt, seen z (off z (fun ws n y => by rw [c2] at y; cases y) fun y => by rw [c2] at y; cases y; simp at c3), c1, c2, c3, rest⟩, ⟨bm, ob, m1, m2, fun y => ?_, fun y => ?_, seen m3 (off m3 (fun ws n y => by rw [m6] at y; cases y) fun y => by rw [m6] at y; cases y), m4, m5, m6⟩, fun y => ?_⟩
    · rw [y, zg] at m3
      cases m3
      rw [dg] at m6
      cases m6
    · rw [y, tabs q hq] at m3
      cases m3
      cases m6
    · rw [y, tabs q hq] at zg
      cases zg
      cases dg
  obtain ⟨mc, l1, l2⟩ := hlim
  have e0 : Env0 P w K mg (hidT s₁.heap H) callerA [] s₁ H := ⟨rfl, ⟨kin2, seenNs hns, ⟨mb, seenNs hb, hbb⟩, ⟨mc, seenNs l1, l2⟩⟩, fun b o z => of_hidT z, Nat.le_of_eq (hidT_size _ _), trivial, (fun b z => nomatch z), hok, .of_eq hg⟩
  refine codeAny_mono ((F _ kin2 (seenNs hns) TB).go (show Q0 callerA from rfl) room e0 (us := [.ref a]) (vs := [.ref a]) (bnd s₁ (.ref a)) (.cons rfl .nil) asked) ?_
  intro r s' z
  cases r with
  | error e => exact (hCX H e s' z).elim
  | ok fl =>
    cases fl with
    | brk => exact (show False from z).elim
    | cont => exact (show False from z).elim
    | next => exact (show False from z).elim
    | ret u =>
      obtain ⟨v, H', os, bare, un, hok', rv, rfl⟩ := z
      cases (show u = Value.bool true from rv)
      have stay : ∀ {b : Addr} {o : Obj}, b ∉ cs.map (·.2) → s₁.heap.get? b = some o → s'.heap.get? b = some o := fun {b o} nb z => by
        rcases only b with n | n | ⟨ob, xs, n⟩
        · exact un.keep b o z n (fun q => nomatch q) (fun q => nomatch q)
        · exact absurd n nb
        · obtain ⟨z1, _⟩ := hok b _ n
          obtain ⟨z2, _⟩ := hok' b _ (un.frzs b ob _ n)
          rw [z2, ← z1, z]
      have grew : ∀ q ∈ cs, ∃ more : Array Value, s'.heap.get? q.2 = some { cls := .none, data := .fields more } := fun q hq => by
        obtain ⟨more, y⟩ := un.tbls q.2 #[] (tb q hq)
        exact ⟨_, hok' q.2 _ y⟩
      refine ⟨rfl, ⟨fun b o z => ?_, fun b o z => ?_⟩, os, bare⟩
      · by_cases m : b ∈ cs.map (·.2)
        · obtain ⟨q, hq, rfl⟩ := List.mem_map.mp m
          obtain ⟨more, y⟩ := grew q hq
          rw [tabs q hq] at z
          cases z
          exact Or.inr (Or.inl ⟨((heads q hq).tab (tabs q hq)).isCodeTable, rfl, #[], more, rfl, by rw [Array.empty_append]; exact y⟩)
        · exact Or.inl (stay m z)
      · by_cases m : b ∈ cs.map (·.2)
        · obtain ⟨q, hq, rfl⟩ := List.mem_map.mp m
          obtain ⟨more, y⟩ := grew q hq
          exact ⟨_, y⟩
        · exact ⟨o, stay m z⟩
theorem law_callGT (kin : K.In s₁.heap) (hns : s₁.heap.Ns mainGlobals mg) (hb : s₁.heap.Ns builtinsNs mb) (hbb : ∀ x : Str, x ≠ "__name__" → mb x = bootBuiltins x) (hlim : s₁.heap.NoLimit) (hg : s₁.gens = #[])
    (tabs : ∀ q ∈ cs, s₁.heap.get? q.2 = some { cls := .none, data := .fields #[] }) (out : ∀ q ∈ cs, K.lookup q.2 = none) (heads : ∀ q ∈ cs, PySem.W.CodeHd s₁.heap q.1 q.2)
    (hbm : ∃ (bm : Addr) (ob : Obj), mg "__builtins__" = some (.ref bm) ∧ bm ≠ builtinsNs ∧ s₁.heap.get? bm = some ob ∧ ob.cls = .type "module" ∧ ob.dict = some builtinsNs ∧ ob.data = .plain)
    (ha : s₁.heap.get? a = some { cls := .type "list", data := .seq vs.toArray }) (hi : IntsAre vs ns) (hl : ns.length ≤ sizeLine) (room : Room k callerA)
    (F : ∀ base : Heap, K.In base → base.Ns mainGlobals mg → (∀ q ∈ cs, LamX.TabB base mg q.1 q.2) → FnG P w K mg base CX k fa fd [x] sp) (bnd : ∀ (s : Shared) (u : Value), BindsTo s fd ⟨[u], []⟩ [(x, u)])
    (ask : ∀ H : Hp, (∀ q ∈ cs, H q.2 = some (.tbl #[])) → SqL K H a (ns.map V.int) → sp [.ref a] H (fun v _ => v = .bl true) fun _ _ _ => False) (hCX : ∀ H e s', CX [] H s₁ (fun _ _ _ => False) e s' → False) :
    codeAny (model P w) callerA (.call (.ref fa) ⟨[.ref a], []⟩) (fun r s' => r = .ok (.ret (.bool true)) ∧ OldK s₁.heap s'.heap ∧ s'.os = s₁.os ∧ AllBare s'.gens) s₁ := by
  have rel : Vals (ns.map V.int) vs := vals_ints hi
  have tab : ∀ {b : Addr}, b ∈ cs.map (·.2) → s₁.heap.get? b = some { cls := .none, data := .fields #[] } := fun {b} m => by
    obtain ⟨q, hq, rfl⟩ := List.mem_map.mp m
    exact tabs q hq
  have na : a ∉ cs.map (·.2) := fun m => by
    have z := tab m
    rw [ha] at z
    cases z
  have isIn : ∀ {q : Addr × Addr}, q ∈ cs → q.2 ∈ cs.map (·.2) := fun {q} hq => List.mem_map.mpr ⟨q, hq, rfl⟩
  cases hk : K.lookup a with
  | some o =>
    have z := kin a o hk
    rw [ha] at z
    cases z
    let H0 : Hp := fun b => if b ∈ cs.map (·.2) then some (.tbl #[]) else none
    have on : ∀ {b : Addr}, b ∈ cs.map (·.2) → H0 b = some (.tbl #[]) := fun m => if_pos m
    have no : ∀ {b : Addr}, b ∉ cs.map (·.2) → H0 b = none := fun m => if_neg m
    have inv : ∀ {b u}, H0 b = some u → b ∈ cs.map (·.2) ∧ u = .tbl #[] := fun {b u} y => by
      by_cases m : b ∈ cs.map (·.2)
      · rw [on m] at y; cases y; exact ⟨m, rfl⟩
      · rw [no m] at y; cases y
    refine law_coreT (H := H0) kin hns hb hbb hlim hg tabs out heads hbm ha room F bnd hCX (fun q hq => on (isIn hq)) (fun b => ?_) (ask _ (fun q hq => on (isIn hq)) (Or.inr ⟨_, vs.toArray, _, hk, rfl, rfl, rfl, ?_, ?_⟩)) (fun b u y => ?_) (fun y => Or.inr (inv y).1) (fun y => absurd (inv y).1 na)
    · by_cases m : b ∈ cs.map (·.2)
      · exact Or.inr (Or.inl m)
      · exact Or.inl (no m)
    · rw [List.size_toArray, hi.length]
      exact hl
    · simpa using rel
    · obtain ⟨m, rfl⟩ := inv y
      exact tab m
  | none =>
    let H0 : Hp := fun b => if b = a then some (.frz { cls := .type "list", data := .seq vs.toArray } (.lst (ns.map V.int))) else if b ∈ cs.map (·.2) then some (.tbl #[]) else none
    have at0 : H0 a = some (.frz { cls := .type "list", data := .seq vs.toArray } (.lst (ns.map V.int))) := if_pos rfl
    have on : ∀ {b : Addr}, b ∈ cs.map (·.2) → H0 b = some (.tbl #[]) := fun {b} m => by
      have nb : ¬ b = a := fun z => na (z ▸ m)
      show (if b = a then _ else if b ∈ cs.map (·.2) then _ else _) = _
      rw [if_neg nb, if_pos m]
    have no : ∀ {b : Addr}, ¬ b = a → b ∉ cs.map (·.2) → H0 b = none := fun {b} nb m => by
      show (if b = a then _ else if b ∈ cs.map (·.2) then _ else _) = _
      rw [if_neg nb, if_neg m]
    refine law_coreT (H := H0) kin hns hb hbb hlim hg tabs out heads hbm ha room F bnd hCX (fun q hq => on (isIn hq)) (fun b => ?_) (ask _ (fun q hq => on (isIn hq)) (Or.inl (Or.inr ⟨_, at0⟩))) (fun b u y => ?_) (fun {b u} y => ?_) (fun _ => hk)
    · by_cases e : b = a
      · rw [e]
        exact Or.inr (Or.inr ⟨_, _, at0⟩)
      · by_cases m : b ∈ cs.map (·.2)
        · exact Or.inr (Or.inl m)
        · exact Or.inl (no e m)
    · by_cases e : b = a
      · subst e
        rw [at0] at y
        cases y
        exact ⟨ha, by rw [List.length_map]; exact hl, vs, _, rel, ha⟩
      · by_cases m : b ∈ cs.map (·.2)
        · rw [on m] at y
          cases y
          exact tab m
        · rw [no e m] at y
          cases y
    · by_cases e : b = a
      · exact Or.inl e
      · by_cases m : b ∈ cs.map (·.2)
        · exact Or.inr m
        · rw [no e m] at y
          cases y
end
/-- what the end wants of a law: its def, its code objects with their tables, its promise -/
def LawG (l : PySem.W.OpenLaw) (w : World) (K : PySem.W.Frag) (CX : CXT) (k n : Nat) (x : Str) (mg : Str → Option Value) (fa : Addr) (h : Heap) : Prop :=
  ∃ (fd : FuncData) (cs : List (Addr × Addr)) (sp : Sp), (∀ q ∈ cs, h.get? q.2 = some { cls := .none, data := .fields #[] }) ∧ (∀ q ∈ cs, K.lookup q.2 = none) ∧ (∀ q ∈ cs, PySem.W.CodeHd h q.1 q.2) ∧ (∀ (s : Shared) (u : Value), BindsTo s fd ⟨[u], []⟩ [(x, u)]) ∧
    (∀ (H : Hp) (a : Addr) (ns : List Int), ns.length ≤ n → (∀ q ∈ cs, H q.2 = some (.tbl #[])) → SqL K H a (ns.map V.int) → sp [.ref a] H (fun v _ => v = .bl true) fun _ _ _ => False) ∧
    ∀ base : Heap, K.In base → base.Ns mainGlobals mg → (∀ q ∈ cs, LamX.TabB base mg q.1 q.2) → FnG l.prog w K mg base CX k fa fd [x] sp
theorem walk_ofTG {l : PySem.W.OpenLaw} {n k : Nat} {q : Program} {loose : List Str} {XP : (Str → Option Value) → Heap → Prop} {YP : World → Heap → Prop} {d : DefRec} {K : Params → PySem.W.Frag} {CX : World → CXT} {x : Str}
    (hn : l.most = some n) (hn2 : n ≤ sizeLine) (hdf : d.params.defaults = []) (hr : Room k callerA) (hY : ∀ (w : World) (h : Heap), YP w h → (K w.params).In h)
    (F : ∀ (w : World) (mg : Str → Option Value) (fa : Addr) (h : Heap), YP w h → (K w.params).In h → h.Ns mainGlobals mg → mg d.name = some (.ref fa) → LawG l w (K w.params) (CX w) k n x mg fa h)
    (hCX : ∀ (w : World) (H : Hp) (s : Shared) (e : Value) (s' : Shared), CX w [] H s (fun _ _ _ => False) e s' → False) : PySem.W.WalkO q loose XP YP l.row.toRowW d [] (fun f vs => PySem.call f vs) := by
  apply Att.attach_callB hn hdf
  intro w s₀ s₁ mg mb fa o pm cd doc a vs ns G Y _ _ _ hmg hobj hints hlen _ hg
  obtain ⟨fd, cs, sp, tabs, out, heads, bnd, ask, hF⟩ := F w mg fa _ Y (hY w _ Y) G.T.g hmg
  exact law_callGT (hY w _ Y) G.T.g G.T.b G.T.builtins G.T.nolimit hg tabs out heads G.T.bmain hobj hints (Nat.le_trans hlen hn2) hr hF bnd (fun H tb hS => ask H a ns hlen tb hS) fun H e s' => hCX w H s₁ e s'
end Fb
set_option maxRecDepth 100000
set_option maxHeartbeats 4000000
namespace Fb
open PySem PySem.Spec PyProof.Rows L2
/-! the pen -/
def penK (l : Addr) (a r f : Int) : List (Key × V) := [(.inr "cells", .ref l), (.inr "at", .int a), (.inr "rest", .int r), (.inr "fold", .int f)]
theorem ne1 : ¬ (("cells" : Str) = "rest") := by decide +kernel
theorem ne2 : ¬ (("at" : Str) = "rest") := by decide +kernel
theorem ne3 : ¬ (("cells" : Str) = "at") := by decide +kernel
theorem ne4 : ¬ (("cells" : Str) = "fold") := by decide +kernel
theorem ne5 : ¬ (("at" : Str) = "fold") := by decide +kernel
theorem ne6 : ¬ (("rest" : Str) = "fold") := by decide +kernel
theorem ne7 : ¬ (("rest" : Str) = "at") := by decide +kernel
theorem ne8 : ¬ (("fold" : Str) = "at") := by decide +kernel
theorem ne9 : ¬ (("fold" : Str) = "rest") := by decide +kernel
theorem inr_ne {a b : Str} (h : ¬ a = b) : ¬ ((Sum.inr a : Key) = Sum.inr b) := fun e => h (Sum.inr.inj e)
section
variable {H : Hp} {p l : Addr} {a r f x : Int}
theorem penK_cells : valV (penK l a r f) (.inr "cells") = some (.ref l) := by
  unfold penK; exact valV_pos rfl
theorem penK_at : valV (penK l a r f) (.inr "at") = some (.int a) := by
  unfold penK; rw [valV_neg (inr_ne ne3)]; exact valV_pos rfl
theorem penK_rest : valV (penK l a r f) (.inr "rest") = some (.int r) := by
  unfold penK; rw [valV_neg (inr_ne ne1), valV_neg (inr_ne ne2)]; exact valV_pos rfl
theorem penK_fold : valV (penK l a r f) (.inr "fold") = some (.int f) := by
  unfold penK; rw [valV_neg (inr_ne ne4), valV_neg (inr_ne ne5), valV_neg (inr_ne ne6)]; exact valV_pos rfl
theorem penK_put_at : putK (penK l a r f) (.inr "at") (.int x) = penK l x r f := by
  unfold putK
  rw [valV_any, penK_at, Option.isSome_some, if_pos rfl]
  unfold penK
  simp only [List.map_cons, List.map_nil, if_neg (inr_ne ne3), if_neg (inr_ne ne7), if_neg (inr_ne ne8), if_true]
theorem penK_put_rest : putK (penK l a r f) (.inr "rest") (.int x) = penK l a x f := by
  unfold putK
  rw [valV_any, penK_rest, Option.isSome_some, if_pos rfl]
  unfold penK
  simp only [List.map_cons, List.map_nil, if_neg (inr_ne ne1), if_neg (inr_ne ne2), if_neg (inr_ne ne9), if_true]
theorem g_cells (e : H p = some (.dK (penK l a r f))) : DGet H p (.str "cells") (some (.ref l)) := by
  have h := DGet.k (k := .inr "cells") e
  rw [penK_cells] at h; exact h
theorem g_at (e : H p = some (.dK (penK l a r f))) : DGet H p (.str "at") (some (.int a)) := by
  have h := DGet.k (k := .inr "at") e
  rw [penK_at] at h; exact h
theorem g_rest (e : H p = some (.dK (penK l a r f))) : DGet H p (.str "rest") (some (.int r)) := by
  have h := DGet.k (k := .inr "rest") e
  rw [penK_rest] at h; exact h
theorem g_fold (e : H p = some (.dK (penK l a r f))) : DGet H p (.str "fold") (some (.int f)) := by
  have h := DGet.k (k := .inr "fold") e
  rw [penK_fold] at h; exact h
theorem pen_sz : (penK l a r f).length < sizeLine := by
  show 4 < sizeLine
  rw [sizeLine_eq]; decide
theorem p_at (e : H p = some (.dK (penK l a r f))) : DPut H p (.str "at") (.int x) (upd H p (.dK (penK l x r f))) := by
  have h := DPut.k (k := .inr "at") (v := .int x) e pen_sz
  rw [penK_put_at] at h; exact h
theorem p_rest (e : H p = some (.dK (penK l a r f))) : DPut H p (.str "rest") (.int x) (upd H p (.dK (penK l a x f))) := by
  have h := DPut.k (k := .inr "rest") (v := .int x) e pen_sz
  rw [penK_put_rest] at h; exact h
end
/-- a pen at p, its cells at l, that has been asked at most n times -/
def PenL (H : Hp) (p l : Addr) (n : Nat) : Prop := ∃ (cs : List Int) (a r f : Int), H p = some (.dK (penK l a r f)) ∧ H l = some (.lst (cs.map V.int)) ∧ 0 ≤ a ∧ a ≤ n ∧ 0 ≤ r ∧ 0 ≤ f ∧ f < 2147483629
theorem PenL.mono {H : Hp} {p l : Addr} {n m : Nat} (h : PenL H p l n) (le : n ≤ m) : PenL H p l m := by
  obtain ⟨cs, a, r, f, h1, h2, h3, h4, h5⟩ := h
  exact ⟨cs, a, r, f, h1, h2, h3, by omega, h5⟩
theorem PenL.same {H H' : Hp} {p l : Addr} {n : Nat} (h : PenL H p l n) (s : Same H H') : PenL H' p l n := by
  obtain ⟨cs, a, r, f, h1, h2, h3⟩ := h
  exact ⟨cs, a, r, f, s _ _ h1, s _ _ h2, h3⟩
def spTake : Sp := fun vs H Q _ => ∃ (p l : Addr) (m : Int) (n : Nat), vs = [.ref p, .int m] ∧ 0 < m ∧ m < 1073741824 ∧ n < 1000000 ∧ PenL H p l n ∧
  ∀ (d : Int) (H' : Hp), 0 ≤ d → d < m → PenL H' p l (n + 1) → (∀ c, c ≠ p → H' c = H c) → Q (.int d) H'
structure TxP (mg : Str → Option Value) : Prop where
  n_int : mg "int" = none
  n_len : mg "len" = none
  n_abs : mg "abs" = none
  n_list : mg "list" = none
section
variable {P : Program} {w : World} {K : PySem.W.Frag} {mg : Str → Option Value} {base : Heap}
/-! the pen's making -/
theorem cut_map (ns : List Int) (lo hi : Option Int) : ∃ ms : List Int, cutV (ns.map V.int) lo hi = ms.map V.int ∧ ms.length ≤ ns.length := by
  unfold cutV
  refine ⟨(ns.drop (HT.sIx (ns.map V.int).length 0 lo)).take (HT.sIx (ns.map V.int).length (ns.map V.int).length hi - HT.sIx (ns.map V.int).length 0 lo), ?_, ?_⟩
  · rw [List.map_take, List.map_drop]
  · rw [List.length_take, List.length_drop]; omega
theorem putK_newS {kvs : List (Key × V)} {x : Str} {v : V} (h : valV kvs (.inr x) = none) : putK kvs (.inr x) v = kvs ++ [(.inr x, v)] := putK_new v h
theorem merge_pen {l : Addr} {a r f : Int} : mergeK [] [(.inr "cells", .ref l), (.inr "at", .int a), (.inr "rest", .int r), (.inr "fold", .int f)] = penK l a r f := by
  unfold mergeK
  simp only [List.foldl_cons, List.foldl_nil]
  rw [putK_newS (x := "cells") valV_nil]
  rw [putK_newS (x := "at") (by rw [List.nil_append, valV_neg (inr_ne ne3)]; exact valV_nil)]
  rw [putK_newS (x := "rest") (by simp only [List.nil_append, List.cons_append]; rw [valV_neg (inr_ne ne1), valV_neg (inr_ne ne2)]; exact valV_nil)]
  rw [putK_newS (x := "fold") (by simp only [List.nil_append, List.cons_append]; rw [valV_neg (inr_ne ne4), valV_neg (inr_ne ne5), valV_neg (inr_ne ne6)]; exact valV_nil)]
  rfl
def spPen (K : PySem.W.Frag) : Sp := fun vs H Q _ => ∃ (a : Addr) (ns : List Int), vs = [.ref a] ∧ SqL K H a (ns.map V.int) ∧ ns.length ≤ 63 ∧
  ∀ (p l : Addr) (H' : Hp), H p = none → H l = none → Same H H' → PenL H' p l 0 → Q (.ref p) H'
theorem smN {H H' : Hp} {p : Addr} {o : HO} (s : Same H H') (h : H' p = none) : Same H (upd H' p o) := fun b u e => by
  rw [upd_ne (ne_of_none (s b u e) h)]
  exact s b u e
end
end Fb
set_option maxRecDepth 100000
set_option maxHeartbeats 4000000
namespace Fb
open PySem PySem.Spec PyProof.Rows L2
/-! own exceptions as values -/
/-- C(e, ..), C's own __init__ keeping sp: a new exception, held -/
def tExI (C : Addr) (sp : Sp) (dvs : List V) (ta : TA) : TE := fun σ H Q => ta σ H fun vs H1 => vs.length ≤ 1000 ∧ ∀ a, H1 a = none → sp (.ref a :: (vs ++ dvs)) (upd H1 a (exo a C none)) (fun v H2 => v = .non ∧ Q (.ref a) H2) (fun _ _ _ => False)
section
variable {X : Cx} {e : Expr} {es : List Expr} {ta : TA} {p pos : Pos}
theorem pe_exI {CX : CXT} {x : Str} {C fI : Addr} {k : Nat} {fd : FuncData} {ps : List Str} {sp : Sp} {ds : List Value} {dvs : List V} (T : OexC X.K C) (own : PySem.W.findIn X.K (.ref C) "__init__" = some (some (.ref fI))) (isf : PySem.W.typeIn X.K (.ref fI) = some (.type "function"))
    (G : FnOk X.prog X.w X.K X.mg X.base CX k fI fd ps sp) (room : Room (k + 1) X.A) (bnd : Binds X.K fd ps ds) (dfl : Vals dvs ds) (out : Passes CX X (fun _ _ _ => False)) (gl : Gl X x) (at_ : X.mg x = some (.ref C)) (ha : PA X (e :: es) ta)
    (h1 : (x == ("__debug__" : Str)) = false := by decide) (h2 : starEach (e :: es) X.env = (false, eval e X.env) :: starEach es X.env := by rfl) (h3 : (backTo pos (starEach es X.env)).any (·.1) = false := by rfl) :
    PE X (.Call (.Name x p) (e :: es) [] pos) (tExI C sp dvs ta) := by
  constructor
  intro pins s σ H Q I asked
  obtain ⟨_, _, _, _, bm, _, _, _, _, _, _, _, _, _, _, cls, refs⟩ := T.cls
  apply wpAny_Call_Name_kw
  refine ld_glob I gl at_ ?_ h1
  apply PySem.W.callWith_K (h₀ := X.base) I.ok.mod.kin T.kC ?_ h2 h3
  apply thn (ha.run pos pins s σ H _ I asked)
  rintro us ⟨hp, g, dr, tk, os⟩ ⟨vs, H1, I1, rel, few, next⟩
  refine ⟨I1.kIn, ?_⟩
  show wpAny _ _ (call (.ref C) us) _ _ _
  have above : hp.objs.size ≤ hp.objs.size + 1 := Nat.le_succ _
  have q := next (hp.objs.size + 1) (I1.hok.fresh above)
  have made : ((hp.push (PySem.W.kdv_tup us)).push (PySem.HandSPX.excO C hp.objs.size)).get? (hp.objs.size + 1) = some (PySem.HandSPX.excO C hp.objs.size) := by heap_get
  have I2 := I1.laid (t' := tk) (fun b o z => Heap.get?_push_of_some _ (Heap.get?_push_of_some (PySem.W.kdv_tup us) z)) above (exo_ok (H := upd H1 (hp.objs.size + 1) (exo (hp.objs.size + 1) C none)) (P := X.prog) (w := X.w) made)
  have rel2 : Vals (V.ref (hp.objs.size + 1) :: (vs ++ dvs)) (Value.ref (hp.objs.size + 1) :: (us ++ ds)) := .cons rfl (rel.append dfl)
  have len : (Value.ref (hp.objs.size + 1) :: us ++ ds).length = ps.length := rel2.length.symm.trans (G.len _ _ _ _ q)
  have small : us.length ≤ sizeLine := by
    rw [sizeLine_eq, ← Paired.length rel]
    omega
  apply wpAny_call
  refine PySem.HandSPX.call_own PySem.F.excBase_ValueError (fun Y => PySem.HandSPX.refsVE_contains Y bm refs) (I1.kIn _ _ cls) (PySem.W.looks_findIn I1.kIn own) (fun self => PySem.W.bind_fn I1.kIn self isf) small ?_
  refine codeAny_mono (G.run _ X.stack _ _ ⟨Value.ref (hp.objs.size + 1) :: us, []⟩ _ _ _ (fun _ _ _ => False) (room.make C us []) (I2.env0.make C us []) (bnd _ (Value.ref (hp.objs.size + 1) :: us) I2.kIn len) rel2 q) ?_
  intro r s' z
  cases r with
  | error er => exact out pins σ _ _ er s' I2 z
  | ok fl =>
    cases fl with
    | brk => exact (show False from z).elim
    | cont => exact (show False from z).elim
    | next => exact (show False from z).elim
    | ret u =>
      obtain ⟨v, H', I3, rv, rfl, q3⟩ := I2.after z
      exact ⟨rv, V.ref (hp.objs.size + 1), H', I3, rfl, q3⟩
end
/-- at a an exception of the class at C stands, with its own dict or without -/
def ExAt (H : Hp) (a C : Addr) : Prop := H a = some (ExO (.ref C) a) ∨ ∃ (d : Addr) (fs : List (Str × V)), H a = some (exo a C (some d)) ∧ H d = some (exd d fs)
/-- .. with a field -/
def ExFld (H : Hp) (a C : Addr) (fs : List (Str × V)) : Prop := ∃ d : Addr, H a = some (exo a C (some d)) ∧ H d = some (exd d fs)
theorem ExFld.at {H : Hp} {a C : Addr} {fs : List (Str × V)} (h : ExFld H a C fs) : ExAt H a C := by
  obtain ⟨d, h1, h2⟩ := h
  exact .inr ⟨d, fs, h1, h2⟩
theorem ExFld.same {H H' : Hp} {a C : Addr} {fs : List (Str × V)} (h : ExFld H a C fs) (s : Same H H') : ExFld H' a C fs := by
  obtain ⟨d, h1, h2⟩ := h
  exact ⟨d, s _ _ h1, s _ _ h2⟩
theorem ExAt.same {H H' : Hp} {a C : Addr} (h : ExAt H a C) (s : Same H H') : ExAt H' a C := by
  rcases h with h | ⟨d, fs, h1, h2⟩
  · exact .inl (s _ _ h)
  · exact .inr ⟨d, fs, s _ _ h1, s _ _ h2⟩
/-- what the written part says of an exception class, for isinstance and fields -/
structure XC (K : PySem.W.Frag) (C : Addr) : Prop where
  cl : (PySem.W.clsIn K C).isSome = true
  ga : PySem.W.findIn K (.ref C) "__getattribute__" = some (some (.builtin "BaseException.__getattribute__"))
  gg : PySem.W.findIn K (.ref C) "__getattr__" = some none
  sb : PySem.W.subIn K (.ref C) (.type "BaseException") = some true
  ca : PySem.W.findIn K (.ref C) "__class__" = some (some (.builtin "object.__class__"))
  ob : PySem.W.mroIn K C (.type "object") = some true
  hd : PySem.W.hasDictIn K C = true
structure XB (K : PySem.W.Frag) : Prop where
  hn : PySem.W.specialIn K (.builtin "object.__class__") "__get__" = some (some (.builtin "getset_descriptor.__get__"))
  ht : PySem.W.takesIn K (.builtin "object.__class__") = some true
section
variable {X : Cx} {pins : List (Addr × Obj)} {σ : L2.St} {H : Hp} {s : Shared}
theorem ExAt.inst {a C : Addr} (I : Inv X pins σ H s) (h : ExAt H a C) : ∃ ox od, PySem.W.InstAt s.heap a ox C od := by
  rcases h with h | ⟨d, fs, h1, h2⟩
  · obtain ⟨⟨oe, vs, ho, hz, hd, _⟩, _, _⟩ := I.hok a _ h
    refine ⟨oe, none, ho, hz.1, ?_, ?_⟩
    · unfold PySem.W.notCls; rw [hd] <;> rfl
    · rw [hz.2] <;> trivial
  · obtain ⟨t1, ho⟩ := exo_at I.hok h1
    obtain ⟨mA, ⟨o, es, ep, e1, _⟩, _⟩ := exd_at I.hok h2
    exact ⟨_, some o, ho, rfl, rfl, e1⟩
def rIsX (K : PySem.W.Frag) : List V → Hp → VK → Prop := fun xs H Q => ∃ (a C : Addr) (c : V) (cv : Value) (b : Bool), xs = [.ref a, c] ∧ XC K C ∧ XB K ∧ ExAt H a C ∧ ClsV c cv ∧ PySem.W.kitOne K (.ref C) cv = some b ∧ Q (.bl b) H
theorem call_isX : CallR X (.builtin "isinstance") (rIsX X.K) := by
  intro pins s σ H xs us Q I r h
  obtain ⟨a, C, c, cv, b, rfl, T, B, hE, k, e, q⟩ := h
  obtain ⟨u1, u2, rfl, r1, r2⟩ := vals2 r
  have e2 := k.eq r2
  subst e2
  cases (show u1 = Value.ref a from r1)
  obtain ⟨ox, od, J⟩ := hE.inst I
  exact PySem.W.kia_one (PySem.W.kitx_exc T.cl T.ga T.gg T.sb T.ca B.hn B.ht T.ob) I.kIn J e (fun z => nomatch z) fun tk => ⟨.bl b, H, I.tok tk, rfl, q⟩
/-- e.f of an exception that is held -/
def tXat (K : PySem.W.Frag) (f : Str) (te : TE) : TE := fun σ H Q => te σ H fun x H1 => ∃ (a C : Addr) (fs : List (Str × V)) (v : V), x = .ref a ∧ XC K C ∧ PySem.W.findIn K (.ref C) f = some none ∧ ExFld H1 a C fs ∧ fs.lookup f = some v ∧ Q v H1
theorem pe_xat {e : Expr} {te : TE} {f : Str} {pos : Pos} (he : PE X e te) (hb : attributeBase e f X.env (eval e X.env) = eval e X.env := by rfl) : PE X (.Attribute e f pos) (tXat X.K f te) := by
  refine ⟨fun pins s σ H Q I h => ?_⟩
  refine attr_of hb (thn (he.run pins s σ H _ I h) fun u s1 hh => ?_)
  obtain ⟨x, H1, I1, rx, a, C, fs, v, ex, T, hno, ⟨d, h1, h2⟩, hl, q⟩ := hh
  subst ex
  obtain rfl : u = Value.ref a := rx
  obtain ⟨t1, ho⟩ := exo_at I1.hok h1
  obtain ⟨mA, hns, hr⟩ := exd_at I1.hok h2
  obtain ⟨od, hod, hlk⟩ := lookIn_ns hns
  obtain ⟨u, hu, ru⟩ := RelO.some_of (v := v) (o := mA f) (by rw [← hl]; exact hr f)
  have J : PySem.W.InstAt s1.heap a { cls := .ref C, dict := some d, data := .fields #[.ref t1, .none, .none, .none, .bool false, .none] } C (some od) := ⟨ho, rfl, rfl, hod⟩
  exact HandSPX.exc_get I1.kIn J T.ga T.gg T.sb (PySem.W.findObj_own T.hd hno rfl (by rw [hlk, hu])) (handed_of ru) ⟨v, H1, I1.tok _, ru, q⟩
end
end Fb
set_option maxRecDepth 100000
set_option maxHeartbeats 4000000
namespace Fb
open PySem PySem.Spec PyProof.Rows L2
/-! an exception that was caught and is kept: try: .. except X as e: y = e -/
/-- at a: an exception of the class cls, its own dict at d -/
def ExR (cls : Value) (d : Option Addr) (a : Addr) : HO := .ext fun h => ∃ (oe : Obj) (vs : Array Value), h.get? a = some oe ∧ oe.cls = cls ∧ oe.dict = d ∧ oe.data = .fields vs
section
variable {X : Cx} {pins : List (Addr × Obj)} {σ : L2.St} {H : Hp} {s : Shared}
/-- an object of ours that nothing tells of is taken up -/
theorem adopt {a : Addr} {oe : Obj} {vs : Array Value} {cls : Value} {d : Option Addr} (I : Inv X ((a, oe) :: pins) σ H s) (new : ∀ o, X.s_0.heap.get? a = some o → False) (np : ∀ p ∈ X.pn ++ pins, p.1 ≠ a) (z : Zc cls d oe) (dat : oe.data = .fields vs) : Inv X pins σ (upd H a (ExR cls d a)) s := by
  obtain ⟨he, hn, hL, hF, _⟩ := I.pin (a, oe) (List.mem_append_right _ List.mem_cons_self)
  have old : ∀ {b : Addr} {o : HO}, H b = some o → upd H a (ExR cls d a) b = some o := fun {b o} q => (upd_ne (ne_of_none q hn)).trans q
  have off : ∀ {b : Addr}, b ≠ a → H b = none → upd H a (ExR cls d a) b = none := fun q n => (upd_ne q).trans n
  have nc : ∀ {x : Str} {c : Addr}, X.env.cells.lookup x = some c → c ≠ a := by
    intro x c e q
    obtain ⟨v, o, ho, hd⟩ := I.cell x c e
    subst q
    have he' : s.heap.get? c = some oe := he
    rw [ho] at he'
    cases he'
    rw [dat] at hd
    cases hd
  have n0 : ∀ {b : Addr} {o : Obj}, X.s_0.heap.get? b = some o → b ≠ a := fun {b o} q e => new o (by rw [← e]; exact q)
  constructor
  · exact I.ok
  · exact I.os
  · exact I.bare
  · constructor
    · exact I.base.keep
    · exact I.base.slot
    · exact fun b o q n x => off (n0 q) (I.base.free b o q n x)
    · exact I.base.there
    · exact fun b xs q => old (I.base.tups b xs q)
    · exact fun b o u q => old (I.base.frzs b o u q)
    · intro b ps q
      obtain ⟨more, e⟩ := I.base.tbls b ps q
      exact ⟨more, old e⟩
  · exact I.loc
  · exact I.cell
  · exact off (Ne.symm hL) I.free
  · exact fun x c e => off (nc e) (I.freeC x c e)
  · intro p hp
    have hp' : p ∈ X.pn ++ (a, oe) :: pins := by
      rcases List.mem_append.mp hp with h | h
      · exact List.mem_append_left _ h
      · exact List.mem_append_right _ (List.mem_cons_of_mem _ h)
    obtain ⟨h1, h2, h3, h4, h5⟩ := I.pin p hp'
    exact ⟨h1, off (np p hp) h2, h3, h4, h5⟩
  · intro b o q
    by_cases e : b = a
    · subst e
      rw [upd_same] at q
      cases q
      exact ⟨⟨oe, vs, he, z.1, z.2, dat⟩, ⟨oe, he⟩, fun h1 h2 ⟨o', v', q, r⟩ k => ⟨o', v', k _ q, r⟩⟩
    · rw [upd_ne e] at q
      exact (I.hok b o q).stay (fun c u _ r => r) (fun c r => old r) (fun c xs r => old r)
  · exact I.len
end
/-- what the clause does: y holds the exception, its own name goes -/
def wHold (K : PySem.W.Frag) (c : Value) (i j : Nat) (Wout : WX) (D : Ends) : WX := fun cls d σ H =>
  ∃ b, PySem.W.exmOne K cls c = some b ∧ (b = true → ∀ a, H a = none → D.nx (((σ.set i (some (.ref a))).set j (some (.ref a))).set i none) (upd H a (ExR cls d a))) ∧ (b = false → Wout cls d σ H)
section
variable {X : Cx} {x n y : Str} {c : Value} {i j : Nat} {body : List Stmt} {np pos pos' p1 p2 p3 : Pos} {tb : WX → TS} {Wout : WX}
theorem ps_try_hold (hs : X.stack = X.env :: X.outer) (hf : X.env.frame = some X.env.locals) (hex : X.ex = []) (hN : X.N.Nodup) (hi : X.N[i]? = some n) (hj : X.N[j]? = some y) (hln : X.env.kindOf n = some .local) (hly : X.env.scope.names.lookup y = some .local) (hc : Names X x c) (tk : Takes X Wout)
    (hdn : (n == ("__debug__" : Str)) = false) (hcn : (n == ("__classdict__" : Str)) = false)
    (hb : ∀ (W : WX) (pn : List (Addr × Obj)) (xe : Value → Shared → Prop), Takes (X.tr pn xe) W → PassesOwn (model X.prog X.w) X.A X.env xe → PSs (X.tr pn xe) body (tb W)) :
    PS X (.Try body [.ExceptHandler (some (.Name x np)) (some n) [.Assign [.Name y p1] (.Name n p2) p3] pos'] [] [] pos) (fun D σ H => tb (wHold X.K c i j Wout D) D σ H) := by
  constructor
  intro pins s σ H D I asked
  have ok := I.ok
  have frames : X.A.frames = some (X.env :: X.outer) := by rw [ok.frames, hs]
  apply wpAny_Try_except
  let clauses : List ExceptHandler := [.ExceptHandler (some (.Name x np)) (some n) [.Assign [.Name y p1] (.Name n p2) p3] pos']
  let behind : Value → Shared → Prop := fun e s₁ => wpAny (model X.prog X.w) X.A (noteFrame e X.env) (fun _ s₂ => wpAny (model X.prog X.w) X.A (setFlight e none) (fun _ s₃ => wpAny (model X.prog X.w) X.A (handleBy e X.env clauses) (SP X pins D) X.xe s₃) X.xe s₂) X.xe s₁
  have caught : Takes (X.tr (X.pn ++ pins) behind) (wHold X.K c i j Wout D) := by
    rintro u s' ⟨a, B, sI, pins', σ', H', cls, d, rfl, J', ground, up, sky, na, os, ag, b, eb, yes, no⟩
    have J : Inv X pins σ' H' sI := J'.ofTry ok
    have Ba : B.get? a = none := by
      rcases sky with h | h | h
      · exact h.2.1
      · exact h.2.1
      · exact h.2.1
    have sky' : Sky B (X.env :: X.outer) a (Zc cls d) X.env.locals s'.heap := by rw [← hs]; exact sky
    show wpAny (model X.prog X.w) X.A (noteFrame (.ref a) X.env) _ _ _
    refine Sky.land Zc.steady frames hf sky' fun h3 fl3 up3 => ?_
    have J3 : Inv X pins σ' H' { s' with heap := h3 } := J.landed ground fl3.1 (up.trans up3) os ag
    obtain ⟨oe3, vs3, he3, hz3, hd3⟩ := fl3.there
    have nofr : a ∉ frs (X.env :: X.outer) := by
      intro hm
      obtain ⟨_, o', e', hnf⟩ := fl3.2.2.1.mem hm
      rw [he3] at e'
      cases e'
      exact hnf _ hd3
    have nL : a ≠ X.env.locals := fun q => nofr (List.mem_filterMap.mpr ⟨X.env, List.mem_cons_self, by rw [hf, q]⟩)
    have nF : a ∉ X.fs := by
      intro hm
      obtain ⟨e, he, q⟩ := List.mem_filterMap.mp hm
      exact nofr (List.mem_filterMap.mpr ⟨e, List.mem_cons_of_mem _ he, q⟩)
    have inI : ∀ {o : Obj}, sI.heap.get? a = some o → False := fun {o} q => by
      have z := ground a o q (by rw [hs]; exact nofr)
      rw [Ba] at z
      cases z
    have new : ∀ o, X.s_0.heap.get? a = some o → False := fun o q => by
      obtain ⟨o', q'⟩ := J.base.there a o q (by rw [hex]; exact fun z => nomatch z)
      exact inI q'
    have others : ∀ p ∈ X.pn ++ pins, p.1 ≠ a := fun p hp q => by
      have z := (J.pin p hp).1
      rw [q] at z
      exact inI z
    have S3 := J3.suite he3 hd3 na nL nF
    refine wpAny_handleBy_cons (codeAny_handlers_test ?_) (fun q => by cases q)
    have LT1 : PySem.W.Looks (model X.prog X.w) h3 (typeOf (.ref a)) cls := fun A Q E s k q => wpAny_typeOf_ref (k _ _ he3) (by rw [hz3.1]; exact q)
    have LT2 := PySem.W.exm_one (M := model X.prog X.w) J3.kIn LT1 eb
    have name : ∀ {Q : Value → Shared → Prop} {E : Value → Shared → Prop}, Q c { s' with heap := h3 } → wpAny (model X.prog X.w) (X.A.mark (some (.ref a))) (eval (.Name x np) X.env) Q E { s' with heap := h3 } := by
      intro Q E q
      obtain ⟨g1, g2, g3 | ⟨g3, g4, g5⟩⟩ := hc
      · exact ld_glob (X := X.suite a ((a, oe3) :: (X.pn ++ pins))) S3 g1 g3 q g2
      · exact ld_blt (X := X.suite a ((a, oe3) :: (X.pn ++ pins))) S3 g1 g3 g4 q g5 g2
    refine name (LT2.here ?_)
    cases b with
    | true =>
      refine codeAny_handlers_suite_as (HandSPX.lands_againZ fl3 fun h4 fl4 up4 => ?_)
      have J4 : Inv X pins σ' H' { s' with heap := h4 } := J.landed ground fl4.1 ((up.trans up3).trans up4) os ag
      obtain ⟨oe4, vs4, he4, hz4, hd4⟩ := fl4.there
      have S4 := J4.suite he4 hd4 na nL nF
      refine store_ok (X := X.suite a ((a, oe4) :: (X.pn ++ pins))) (v := .ref a) S4 hN hi (Or.inl hln) rfl (fun s5 S5 => ?_) (Or.inr hln)
      have rd : PE (X.suite a ((a, oe4) :: (X.pn ++ pins))) (.Name n p2) (tVar i) := pe_var hi (Or.inl hln) hdn hcn
      have st : PSs (X.suite a ((a, oe4) :: (X.pn ++ pins))) [.Assign [.Name y p1] (.Name n p2) p3] (tAsg (tVar i) (gName j)) := pss_one (ps_set hN hj (Or.inl hly) rd (by rfl) (Or.inr hly))
      have li : i < σ'.length := by
        rw [J.len]
        exact (List.getElem?_eq_some_iff.mp hi).1
      refine wpAny_mono (st.run [] s5 _ H' { nx := fun σ6 H6 => σ6 = (σ'.set i (some (.ref a))).set j (some (.ref a)) ∧ H6 = H', rt := fun _ _ => False, bk := fun _ _ => False, ct := fun _ _ => False } S5 ⟨_, List.getElem?_set_self li, rfl, rfl⟩) ?_ (fun _ _ z => (show False from z).elim)
      intro f s6 z
      have J6 : ∀ {σ6 : L2.St} {H6 : Hp}, Inv (X.suite a ((a, oe4) :: (X.pn ++ pins))) [] σ6 H6 s6 → Inv X ((a, oe4) :: pins) σ6 H6 s6 := fun {σ6 H6} I6 =>
        ⟨ok, I6.os, I6.bare, I6.base, I6.loc, I6.cell, I6.free, I6.freeC, fun p hp => I6.pin p (by
          rw [List.append_nil]
          rcases List.mem_append.mp hp with h | h
          · exact List.mem_cons_of_mem _ (List.mem_append_left _ h)
          · rcases List.mem_cons.mp h with h | h
            · rw [h]; exact List.mem_cons_self
            · exact List.mem_cons_of_mem _ (List.mem_append_right _ h)), I6.hok, I6.len⟩
      cases f with
      | next =>
        obtain ⟨σ6, H6, S6, rfl, rfl⟩ := z
        refine gone_ok (J6 S6) hN hi hln fun s7 J7 => ?_
        exact ⟨_, _, adopt J7 new others hz4 hd4, yes rfl a na⟩
      | brk =>
        obtain ⟨_, _, _, q⟩ := z
        exact (show False from q).elim
      | cont =>
        obtain ⟨_, _, _, q⟩ := z
        exact (show False from q).elim
      | ret u =>
        obtain ⟨_, _, _, _, _, q⟩ := z
        exact (show False from q).elim
    | false =>
      show wpAny _ X.A (handleBy (.ref a) X.env []) _ _ _
      apply wpAny_handleBy_nil
      obtain ⟨_, _, _, oe, vs, T, oT, ts', he, hz, hd, h1, hr⟩ := id fl3
      have up_ : wpAny (model X.prog X.w) X.A (setFlight (.ref a) X.env.frame) (fun _ s4 => wpAny (model X.prog X.w) X.A (throw (.ref a) : Sem Flow) (SP X pins D) X.xe s4) X.xe { s' with heap := h3 } := by
        rw [hf]
        refine HandSPX.setFlight_upZ fl3 fun h4 hh4 up4 => wpAny_throw (tk _ _ ?_)
        exact ⟨a, B, sI, pins, σ', H', cls, d, rfl, J, ground, (up.trans up3).trans up4, Or.inr (Or.inr (by rw [hs]; exact hh4)), na, os, ag, no rfl⟩
      unfold PySem.passOn
      refine wpAny_bind (wpAny_field he hd h1 ?_)
      rw [if_neg (show ¬ ((Value.ref T == Value.none) = true) from by simp)]
      first
        | exact wpAny_bind (wpAny_pure (wpAny_bind up_))
        | exact wpAny_bind up_
  refine wpAny_mono ((hb _ _ behind caught PassesOwn.looking).run [] s σ H D (I.toTry _) asked) ?_ (fun e s1 he => he)
  intro f s1 z
  cases f with
  | next =>
    obtain ⟨σ', H', J', q⟩ := z
    exact wpAny_execs_nil ⟨σ', H', J'.ofTry ok, q⟩
  | brk =>
    obtain ⟨σ', H', J', q⟩ := z
    exact ⟨σ', H', J'.ofTry ok, q⟩
  | cont =>
    obtain ⟨σ', H', J', q⟩ := z
    exact ⟨σ', H', J'.ofTry ok, q⟩
  | ret u =>
    obtain ⟨v, σ', H', J', r, q⟩ := z
    exact ⟨v, σ', H', J'.ofTry ok, r, q⟩
end
end Fb
set_option maxRecDepth 100000
set_option maxHeartbeats 4000000
namespace Fb
open PySem PySem.Spec PyProof.Rows L2
/-! walks that yield new tuples of what is known beforehand: enumerate(text), zip(text, text), zip of three -/
def ItT (vals : Nat → List V) (n : Nat) : It := ⟨fun i _ => i < n, fun i H v H' => ∃ T, v = .ref T ∧ H T = none ∧ H' = upd H T (.tup (vals i)), fun i _ => i = n⟩
theorem turn_T {P : Program} {w : World} {K : PySem.W.Frag} {elts : List Expr} {kk : Nat} {tpos : Pos} {it : Addr} {fp wr : List Addr} {n : Nat} {Pt : Nat → Array Value → Prop} {St : Nat → Heap → Prop} {Mid : Nat → Addr → Heap → Prop} {vals : Nat → List V}
    (W : ∀ A : Around, A.handled = none → WalksT P w A it fp wr n Pt St Mid) (mem : it ∈ fp) (obj : ∀ i h, St i h → ∀ b ∈ fp, ∃ o, h.get? b = some o ∧ ∀ v, o.data ≠ .cell v)
    (tell : ∀ i a, Pt i a → Vals (vals i) a.toList) (few : ∀ i, (vals i).length ≤ sizeLine)
    (self : ∀ (A : Around) (i : Nat) (s : Shared) (Q : Value → Shared → Prop) (E : Value → Shared → Prop), St i s.heap → Q (.ref it) s → wpAny (model P w) A (pyIter (.ref it)) Q E s) : Turn P w K (.Tuple elts kk tpos) (ItT vals n) fp it St where
  mem := mem
  obj := obj
  keep := fun i h h' st k => (W {} rfl).frame i h h' st k
  item := by
    rintro X rfl rfl rfl calm i pins s σ H E I apart st go
    have w := W X.A (I.ok.hd calm)
    refine w.item i s _ _ go st fun T a h' tk pt young isT mid keep => ⟨_, rfl, w.go elts kk tpos i T _ _ _ mid fun h'' st' keep2 => ?_⟩
    obtain ⟨o, ho, hc, m, hd⟩ := isT
    have ho2 : h''.get? T = some o := keep2 T o (w.apart i T _ mid) ho
    have J : Inv X pins σ (upd H T (.tup (vals i))) { s with heap := h'', toks := tk } := by
      refine I.turnedNew (ch := wr) (fun b u hb q => keep2 b u hb (keep b u hb q)) (fun b hb => apart b (w.sub b hb)) young ⟨few i, a.toList, tell i a pt, o, ho2, hc, m, ?_⟩
      rw [hd]
    refine ⟨.ref T, _, J, rfl, ⟨T, rfl, I.hok.fresh young, rfl⟩, st', fun b hb => ?_⟩
    obtain ⟨ob, hb2, _⟩ := obj i _ st b hb
    rw [upd_ne (Nat.ne_of_lt (Nat.lt_of_lt_of_le (Heap.lt_size hb2) young))]
    exact (apart b hb).1
  done := by
    rintro X rfl rfl rfl calm i pins s σ H E I apart st stop
    have w := W X.A (I.ok.hd calm)
    cases (show i = n from stop)
    exact w.done s _ _ st fun h' tk keep => ⟨rfl, I.turnedL (ch := wr) keep fun b hb => apart b (w.sub b hb)⟩
  self := self
/-- the sign of a text at a place -/
def sgn (x : Str) (i : Nat) : Str := ⟨#[x.cps.getD i 0]⟩
theorem sgn_at {x : Str} {i c : Nat} (h : x.cps[i]? = some c) : (⟨#[c]⟩ : Str) = sgn x i := by
  unfold sgn
  rw [Array.getD_eq_getD_getElem?, h] <;> rfl
abbrev PTx (x : Str) : Nat → Value → Prop := fun i v => ∃ c u, x.cps[i]? = some c ∧ v = .str ⟨#[c]⟩ u
theorem draws_text {prog : Program} {w : World} {A : Around} (hh : A.handled = none) (it : Addr) (x : Str) (t : Tok) : Draws prog w A it [it] x.cps.size (PTx x) (fun i h => h.IsStrIter it (strIterType x) x t i) := by
  unfold strIterType
  cases h : x.cps.all (· < 128)
  · exact Draws.strWide hh it x t
  · exact Draws.strAscii hh it x t
theorem text_begun {x : Str} {t : Tok} {h : Heap} {it : Addr} (e : h.get? it = some { cls := .type (strIterType x), data := .fields #[.str x t, .int 0 0] }) : h.IsStrIter it (strIterType x) x t 0 := ⟨_, e, rfl, rfl⟩
theorem text_cell {ty : String} {x : Str} {t : Tok} {i : Nat} {h : Heap} {it : Addr} (e : h.IsStrIter it ty x t i) : ∃ o, h.get? it = some o ∧ ∀ v, o.data ≠ .cell v := by
  obtain ⟨o, e1, _, e2⟩ := e
  exact ⟨o, e1, fun v z => by rw [e2] at z; cases z⟩
theorem rel_sgn {x : Str} {i : Nat} {v : Value} (h : PTx x i v) : RelV (.str (sgn x i)) v := by
  obtain ⟨c, u, e, rfl⟩ := h
  rw [← sgn_at e]
  exact ⟨u, rfl⟩
section
variable {X : Cx} {elts : List Expr} {kk : Nat} {tpos p pos : Pos} {e e1 e2 e3 : Expr} {ta : TA}
def iEnumS (ta : TA) : TI := fun σ H R => ta σ H fun vs H1 => ∃ x : Str, vs = [.str x] ∧ R (ItT (fun i => [.int (i : Nat), .str (sgn x i)]) x.cps.size) H1
theorem pi_enumS (hg : Gl X "enumerate") (hm : X.mg "enumerate" = none) (ha : PA X [e] ta) (hs : starEach [e] X.env = [(false, eval e X.env)] := by rfl) :
    PI X (.Tuple elts kk tpos) (.Call (.Name "enumerate" p) [e] [] pos) (iEnumS ta) := by
  constructor
  intro pins s σ H R I h
  refine Call_ (ld_blt I hg hm boot_enumerate (callWith_type1 ?_ hs rfl))
  apply thn (ha.run pos pins s σ H _ I h)
  rintro us s1 ⟨vs, H1, I1, rel, x, rfl, q⟩
  obtain ⟨u, rfl, ru⟩ := vals1 rel
  obtain ⟨t, rfl⟩ := (show ∃ t, u = Value.str x t from ru)
  apply call_enumerate_str
  intro h' he hit hsz keep
  apply wpAny_pyIter_enum he
  have I2 : Inv X pins σ H1 { s1 with heap := h' } := I1.kept (t' := s1.toks) keep
  have ne : s1.heap.objs.size + 1 ≠ s1.heap.objs.size := Nat.succ_ne_self _
  refine ⟨s1.heap.objs.size + 1, [s1.heap.objs.size + 1, s1.heap.objs.size], _, _, H1, rfl, I2,
    turn_T (fun A hh => WalksT.enumerateD (draws_text (A := A.in1) hh s1.heap.objs.size x t) (s1.heap.objs.size + 1) ne (fun z => ne (by simpa using z)) (by simp)) (by simp) ?_ ?_ (fun i => by show 2 ≤ sizeLine; decide) (fun A i s Q E st q => wpAny_pyIter_enum st.1.choose_spec q), ⟨⟨.none, he⟩, hit⟩, ?_, q⟩
  · rintro i h ⟨⟨old, h1⟩, h2⟩ b hb
    have hb' : b = s1.heap.objs.size + 1 ∨ b = s1.heap.objs.size := by simpa using hb
    rcases hb' with rfl | rfl
    · exact ⟨_, h1, fun v z => nomatch z⟩
    · exact text_cell h2
  · rintro i a ⟨t2, v, hv, rfl⟩
    exact .cons ⟨t2, rfl⟩ (.cons (rel_sgn hv) .nil)
  · intro b hb
    have hb' : b = s1.heap.objs.size + 1 ∨ b = s1.heap.objs.size := by simpa using hb
    have le : s1.heap.objs.size ≤ b := by rcases hb' with rfl | rfl <;> omega
    exact I1.fpOk le (I1.hok.fresh le)
def iZipS2 (ta : TA) : TI := fun σ H R => ta σ H fun vs H1 => ∃ x y : Str, vs = [.str x, .str y] ∧ R (ItT (fun i => [.str (sgn x i), .str (sgn y i)]) (min x.cps.size y.cps.size)) H1
theorem pi_zipS2 (hg : Gl X "zip") (hm : X.mg "zip" = none) (ha : PA X [e1, e2] ta) (hs : starEach [e1, e2] X.env = (false, eval e1 X.env) :: starEach [e2] X.env := by rfl) (hp : (backTo pos (starEach [e2] X.env)).any (·.1) = false := by rfl) :
    PI X (.Tuple elts kk tpos) (.Call (.Name "zip" p) [e1, e2] [] pos) (iZipS2 ta) := by
  constructor
  intro pins s σ H R I h
  refine Call_ (ld_blt I hg hm PyProof.Rows.boot_zip (callWith_type1 ?_ hs hp))
  apply thn (ha.run pos pins s σ H _ I h)
  rintro us s1 ⟨vs, H1, I1, rel, x, y, rfl, q⟩
  obtain ⟨u1, u2, rfl, r1, r2⟩ := vals2 rel
  obtain ⟨t1, rfl⟩ := (show ∃ t, u1 = Value.str x t from r1)
  obtain ⟨t2, rfl⟩ := (show ∃ t, u2 = Value.str y t from r2)
  apply zip_begins2 (begins_text x t1) (begins_text y t2) trivial trivial
  intro h' hz hTI hTO g1 g2 hsz keep
  apply wpAny_pyIter_zip hz
  have I2 : Inv X pins σ H1 { s1 with heap := h' } := I1.kept (t' := s1.toks) keep
  have S := zip_sep2 (N := s1.heap.objs.size) (fp1 := []) (fp2 := []) (fun b z => nomatch z) (fun b z => nomatch z)
  have five : ∀ {b : Addr}, b ∈ (s1.heap.objs.size + 4) :: (s1.heap.objs.size + 2) :: (s1.heap.objs.size + 3) :: ([s1.heap.objs.size] ++ [s1.heap.objs.size + 1]) → b = s1.heap.objs.size + 4 ∨ b = s1.heap.objs.size + 2 ∨ b = s1.heap.objs.size + 3 ∨ b = s1.heap.objs.size ∨ b = s1.heap.objs.size + 1 := fun z => by simpa using z
  refine ⟨s1.heap.objs.size + 4, _, _, _, H1, rfl, I2, turn_T (fun A hh => WalksT.zipD2 S (draws_text (A := A.in1) hh _ x t1) (draws_text (A := A.in1) hh _ y t2)) (by simp) ?_ ?_ (fun i => by show 2 ≤ sizeLine; decide) (fun A i s Q E st q => wpAny_pyIter_zip st.1 q),
    ⟨hz, hTI, ⟨_, _, hTO⟩, text_begun g1, text_begun g2⟩, ?_, q⟩
  · rintro i h ⟨h1, h2, ⟨_, _, h3⟩, h4, h5⟩ b hb
    rcases five hb with rfl | rfl | rfl | rfl | rfl
    · exact ⟨_, h1, fun v z => nomatch z⟩
    · exact ⟨_, h2, fun v z => nomatch z⟩
    · exact ⟨_, h3, fun v z => nomatch z⟩
    · exact text_cell h4
    · exact text_cell h5
  · rintro i a ⟨v1, v2, hv1, hv2, rfl⟩
    exact .cons (rel_sgn hv1) (.cons (rel_sgn hv2) .nil)
  · intro b hb
    have le : s1.heap.objs.size ≤ b := by rcases five hb with rfl | rfl | rfl | rfl | rfl <;> omega
    exact I1.fpOk le (I1.hok.fresh le)
def iZipS3 (ta : TA) : TI := fun σ H R => ta σ H fun vs H1 => ∃ x y z : Str, vs = [.str x, .str y, .str z] ∧ R (ItT (fun i => [.str (sgn x i), .str (sgn y i), .str (sgn z i)]) (min (min x.cps.size y.cps.size) z.cps.size)) H1
theorem pi_zipS3 (hg : Gl X "zip") (hm : X.mg "zip" = none) (ha : PA X [e1, e2, e3] ta) (hs : starEach [e1, e2, e3] X.env = (false, eval e1 X.env) :: starEach [e2, e3] X.env := by rfl) (hp : (backTo pos (starEach [e2, e3] X.env)).any (·.1) = false := by rfl) :
    PI X (.Tuple elts kk tpos) (.Call (.Name "zip" p) [e1, e2, e3] [] pos) (iZipS3 ta) := by
  constructor
  intro pins s σ H R I h
  refine Call_ (ld_blt I hg hm PyProof.Rows.boot_zip (callWith_type1 ?_ hs hp))
  apply thn (ha.run pos pins s σ H _ I h)
  rintro us s1 ⟨vs, H1, I1, rel, x, y, z, rfl, q⟩
  cases rel with
  | cons r1 rr =>
    rename_i u1 us
    obtain ⟨u2, u3, rfl, r2, r3⟩ := vals2 rr
    obtain ⟨t1, rfl⟩ := (show ∃ t, u1 = Value.str x t from r1)
    obtain ⟨t2, rfl⟩ := (show ∃ t, u2 = Value.str y t from r2)
    obtain ⟨t3, rfl⟩ := (show ∃ t, u3 = Value.str z t from r3)
    apply zip_begins3 (begins_text x t1) (begins_text y t2) (begins_text z t3) trivial trivial trivial
    intro h' hz hTI hTO g1 g2 g3 hsz keep
    apply wpAny_pyIter_zip hz
    have I2 : Inv X pins σ H1 { s1 with heap := h' } := I1.kept (t' := s1.toks) keep
    have S := zip_sep3 (N := s1.heap.objs.size) (fp1 := []) (fp2 := []) (fp3 := []) (fun b z => nomatch z) (fun b z => nomatch z) (fun b z => nomatch z)
    have six : ∀ {b : Addr}, b ∈ (s1.heap.objs.size + 5) :: (s1.heap.objs.size + 3) :: (s1.heap.objs.size + 4) :: ([s1.heap.objs.size] ++ [s1.heap.objs.size + 1] ++ [s1.heap.objs.size + 2]) → b = s1.heap.objs.size + 5 ∨ b = s1.heap.objs.size + 3 ∨ b = s1.heap.objs.size + 4 ∨ b = s1.heap.objs.size ∨ b = s1.heap.objs.size + 1 ∨ b = s1.heap.objs.size + 2 := fun z => by simpa using z
    refine ⟨s1.heap.objs.size + 5, _, _, _, H1, rfl, I2, turn_T (fun A hh => WalksT.zipD3 S (draws_text (A := A.in1) hh _ x t1) (draws_text (A := A.in1) hh _ y t2) (draws_text (A := A.in1) hh _ z t3)) (by simp) ?_ ?_ (fun i => by show 3 ≤ sizeLine; decide) (fun A i s Q E st q => wpAny_pyIter_zip st.1 q),
      ⟨hz, hTI, ⟨_, _, _, hTO⟩, text_begun g1, text_begun g2, text_begun g3⟩, ?_, q⟩
    · rintro i h ⟨h1, h2, ⟨_, _, _, h3⟩, h4, h5, h6⟩ b hb
      rcases six hb with rfl | rfl | rfl | rfl | rfl | rfl
      · exact ⟨_, h1, fun v z => nomatch z⟩
      · exact ⟨_, h2, fun v z => nomatch z⟩
      · exact ⟨_, h3, fun v z => nomatch z⟩
      · exact text_cell h4
      · exact text_cell h5
      · exact text_cell h6
    · rintro i a ⟨v1, v2, v3, hv1, hv2, hv3, rfl⟩
      exact .cons (rel_sgn hv1) (.cons (rel_sgn hv2) (.cons (rel_sgn hv3) .nil))
    · intro b hb
      have le : s1.heap.objs.size ≤ b := by rcases six hb with rfl | rfl | rfl | rfl | rfl | rfl <;> omega
      exact I1.fpOk le (I1.hok.fresh le)
end
/-! loops and comprehensions over such a walk -/
theorem for_T {vals : Nat → List V} {n : Nat} {g : TG} {tb : TS} {D : Ends} {σ : L2.St} {H : Hp} (Pv : Nat → L2.St → Hp → Prop) (h0 : Pv 0 σ H)
    (hs : ∀ i T σ H, i < n → Pv i σ H → H T = none → g (.ref T) σ (upd H T (.tup (vals i))) fun σ2 H2 => tb { D with nx := Pv (i + 1), ct := Pv (i + 1), bk := D.nx } σ2 H2) (hd : ∀ σ H, Pv n σ H → D.nx σ H) :
    ∃ W : Nat → Nat → L2.St → Hp → Prop, (∃ m, W 0 m σ H) ∧ ∀ i m σ H, W i m σ H →
      ((ItT vals n).stop i H ∧ D.nx σ H) ∨ ((ItT vals n).go i H ∧ ∃ N : L2.St → Hp → Prop, (∀ σ' H', N σ' H' → ∃ m', m' < m ∧ W (i + 1) m' σ' H') ∧ ∀ x H', (ItT vals n).yld i H x H' → g x σ H' fun σ2 H2 => tb { D with nx := N, ct := N, bk := D.nx } σ2 H2) := by
  refine ⟨fun i m σ H => i + m = n ∧ Pv i σ H, ⟨n, by omega, h0⟩, fun i m σ H ⟨hm, p⟩ => ?_⟩
  by_cases lt : i < n
  · refine Or.inr ⟨lt, Pv (i + 1), fun σ' H' p' => ⟨m - 1, by omega, by omega, p'⟩, ?_⟩
    rintro x H' ⟨T, rfl, hT, rfl⟩
    exact hs i T σ H lt p hT
  · obtain rfl : i = n := by omega
    exact Or.inl ⟨rfl, hd σ H p⟩
theorem lc_T {vals : Nat → List V} {n : Nat} {g : TG} {tt : TT} {te : TE} {vs : List Nat} {σ : L2.St} {H1 : Hp} {D : Addr} {Qd : Hp → Prop} (Pv : Nat → Hp → Prop) (h0 : Pv 0 (upd H1 D (.lst [])))
    (hs : ∀ i T H, i < n → Pv i H → H T = none → g (.ref T) (wipe σ vs) (upd H T (.tup (vals i))) fun σ2 H2 => wipe σ2 vs = wipe σ vs ∧ tt σ2 H2 fun b H3 =>
      if b = true then te σ2 H3 fun y H4 => ∃ acc, H4 D = some (.lst acc) ∧ acc.length < sizeLine ∧ Pv (i + 1) (upd H4 D (.lst (acc ++ [y]))) else Pv (i + 1) H3) (hd : ∀ H, Pv n H → Qd H) :
    ∃ W : Nat → Nat → Hp → Prop, (∃ m, W 0 m (upd H1 D (.lst []))) ∧ ∀ i m H, W i m H →
      ((ItT vals n).stop i H ∧ Qd H) ∨ ((ItT vals n).go i H ∧ ∃ Nx : Hp → Prop, (∀ H', Nx H' → ∃ m', m' < m ∧ W (i + 1) m' H') ∧ ∀ x H', (ItT vals n).yld i H x H' → g x (wipe σ vs) H' fun σ2 H2 => wipe σ2 vs = wipe σ vs ∧ tt σ2 H2 fun b H3 =>
        if b = true then te σ2 H3 fun y H4 => ∃ acc, H4 D = some (.lst acc) ∧ acc.length < sizeLine ∧ Nx (upd H4 D (.lst (acc ++ [y]))) else Nx H3) := by
  refine ⟨fun i m H => i + m = n ∧ Pv i H, ⟨n, by omega, h0⟩, fun i m H ⟨hm, p⟩ => ?_⟩
  by_cases lt : i < n
  · refine Or.inr ⟨lt, Pv (i + 1), fun H' p' => ⟨m - 1, by omega, by omega, p'⟩, ?_⟩
    rintro x H' ⟨T, rfl, hT, rfl⟩
    exact hs i T H lt p hT
  · obtain rfl : i = n := by omega
    exact Or.inl ⟨rfl, hd H p⟩
end Fb
set_option maxRecDepth 100000
set_option maxHeartbeats 4000000
namespace Fb
open PySem PySem.Spec PyProof.Rows L2
/-! what own classes say of operators: instances with a dict -/
/-- what never comes to pass needs no reading -/
theorem ps_no {X : Cx} {st : Stmt} : PS X st (fun _ _ _ => False) := ⟨fun _ _ _ _ _ _ h => h.elim⟩
theorem pss_no {X : Cx} {sts : List Stmt} : PSs X sts (fun _ _ _ => False) := ⟨fun _ _ _ _ _ _ h => h.elim⟩
theorem pe_no {X : Cx} {e : Expr} : PE X e (fun _ _ _ => False) := ⟨fun _ _ _ _ _ _ h => h.elim⟩
section
variable {X : Cx} {CX : CXT} {pins : List (Addr × Obj)} {σ : L2.St} {H : Hp} {s : Shared} {a C dx g : Addr} {fs : List (Str × V)} {n : Nat} {sp : Sp} {E : XK}
theorem ins_at (I : Inv X pins σ H s) (e : H a = some (.ins C dx fs)) : ∃ od, PySem.W.InstAt s.heap a (PySem.W.instObj C dx) C (some od) := by
  obtain ⟨mA, O, _⟩ := ins_get I.hok e
  obtain ⟨od, J, _⟩ := O.look
  exact ⟨od, J⟩
/-- the type of what may stand on the right -/
inductive RTy (H : Hp) : V → Value → Prop where
  | non : RTy H .non (.type "NoneType")
  | str (x : Str) : RTy H (.str x) (.type "str")
  | ins {b C' dy : Addr} {gs : List (Str × V)} (e : H b = some (.ins C' dy gs)) : RTy H (.ref b) (.ref C')
theorem RTy.looks {y : V} {t u : Value} (I : Inv X pins σ H s) (r : RTy H y t) (ry : RelV y u) : PySem.W.Looks (model X.prog X.w) s.heap (typeOf u) t := by
  cases r with
  | non =>
    cases (show u = Value.none from ry)
    exact fun A Q E s k q => wpAny_typeOf (show s.TypeIs .none "NoneType" from rfl) q
  | str x =>
    obtain ⟨t, rfl⟩ := (show ∃ t, u = Value.str x t from ry)
    exact fun A Q E s k q => wpAny_typeOf (show s.TypeIs (.str x t) "str" from rfl) q
  | ins e =>
    cases (show u = Value.ref _ from ry)
    obtain ⟨od, J⟩ := ins_at I e
    exact J.type
theorem first_str {K : PySem.W.Frag} {C : Addr} : PySem.W.notFirst K C (.type "str") = true := by
  have e : fastBuiltinMro "str" = some [.type "str", .type "object"] := by decide +kernel
  have h : PySem.W.subIn K (.type "str") (.ref C) = some false := by
    show (fastBuiltinMro "str").map (·.contains (.ref C)) = some false
    rw [e]
    first
      | rfl
      | simp
  unfold PySem.W.notFirst
  rw [h]
  simp
theorem first_non {K : PySem.W.Frag} {C : Addr} : PySem.W.notFirst K C (.type "NoneType") = true := by
  unfold PySem.W.notFirst
  rw [HN.sub_none]
  simp
theorem first_self {K : PySem.W.Frag} {C : Addr} : PySem.W.notFirst K C (.ref C) = true := by
  unfold PySem.W.notFirst
  simp
/-- x op y by the def of x's class -/
def rCmpI (K : PySem.W.Frag) (C : Addr) (sp : Sp) (E : XK) : R2 := fun x y H Q => ∃ a dx fs t, x = .ref a ∧ H a = some (.ins C dx fs) ∧ RTy H y t ∧ PySem.W.notFirst K C t = true ∧ sp [x, y] H Q E
theorem op_cmpI {op : CmpOp} (hop : ∀ a b, compareOp op a b = richCompare op a b) (hs : PySem.W.findIn X.K (.ref C) (cmpInfo op).2.1 = some (some (.ref g))) (hf : PySem.W.isFn X.K (.ref g) = true) (F : FnR X.prog X.w X.K X.mg X.base CX n g sp)
    (hr : Room n X.A) (hx : Passes CX X E) : OpR X (compareOp op) (rCmpI X.K C sp E) := by
  intro pins s σ H x y v u Q I rx ry h
  obtain ⟨a, dx, fs, t, rfl, ha, hb, hn, q⟩ := h
  cases (show v = Value.ref a from rx)
  obtain ⟨od, J⟩ := ins_at I ha
  obtain ⟨m, hF⟩ := I.fr
  rw [hop]
  refine PySem.W.cmp_K (op := op) (tb := t) hr.units0 hF I.ok.mod.kin J (hb.looks I ry) hn hs hf ?_
  refine wpAny_mono (wpAny_call (run_fnR (us := [.ref a, u]) (vs := [.ref a, y]) F hr hx I (.cons rfl (.cons ry .nil)) q)) (fun w s' z => ?_) fun _ _ x => x
  obtain ⟨z', H', I', rz, qz⟩ := z
  exact SlX.cmpback rz ⟨z', H', I', rz, qz⟩
/-- two instances of C -/
def rBinI (C : Addr) (sp : Sp) (E : XK) : R2 := fun x y H Q => ∃ a dx fs b dy gs, x = .ref a ∧ H a = some (.ins C dx fs) ∧ y = .ref b ∧ H b = some (.ins C dy gs) ∧ sp [x, y] H Q E
theorem op_binI {op : Operator} (hc : PySem.W.selfFirst X.K C = true) (hs : PySem.W.findIn X.K (.ref C) (PySem.dunder op.info.2) = some (some (.ref g))) (hf : PySem.W.isFn X.K (.ref g) = true) (F : FnR X.prog X.w X.K X.mg X.base CX n g sp)
    (hr : Room n X.A) (hx : Passes CX X E) : OpR X (binaryOp op) (rBinI C sp E) := by
  intro pins s σ H x y v u Q I rx ry h
  obtain ⟨a, dx, fs, b, dy, gs, rfl, ha, rfl, hb, q⟩ := h
  cases (show v = Value.ref a from rx)
  cases (show u = Value.ref b from ry)
  obtain ⟨od, J⟩ := ins_at I ha
  obtain ⟨od', J'⟩ := ins_at I hb
  obtain ⟨m, hF⟩ := I.fr
  refine PySem.W.binop_K (op := op) hF I.ok.mod.kin J J'.type hc hs hf ?_
  refine wpAny_mono (wpAny_call (run_fnR (us := [.ref a, .ref b]) (vs := [.ref a, .ref b]) F hr hx I (.cons rfl (.cons rfl .nil)) q)) (fun w s' z => ?_) fun _ _ x => x
  obtain ⟨z', H', I', rz, qz⟩ := z
  exact SlX.cmpback rz ⟨z', H', I', rz, qz⟩
/-! str(x), len(x) -/
theorem relv_str {v : Value} {y : Str} (r : RelV (.str y) v) : ∃ t, v = .str y t := r
def rStrI (C : Addr) (sp : Sp) (E : XK) : List V → Hp → VK → Prop := fun xs H Q => ∃ a dx fs, xs = [.ref a] ∧ H a = some (.ins C dx fs) ∧ sp [.ref a] H (fun z H' => ∃ y, z = .str y ∧ Q (.str y) H') E
theorem call_strI (hs : PySem.W.findIn X.K (.ref C) "__str__" = some (some (.ref g))) (hf : PySem.W.isFn X.K (.ref g) = true) (F : FnR X.prog X.w X.K X.mg X.base CX n g sp) (hr : Room (n + 2) X.A) (hx : Passes CX X E) : CallR X (.type "str") (rStrI C sp E) := by
  intro pins s σ H xs us Q I r h
  obtain ⟨a, dx, fs, rfl, ha, q⟩ := h
  obtain ⟨u, rfl, ru⟩ := r.one
  cases (show u = Value.ref a from ru)
  obtain ⟨od, J⟩ := ins_at I ha
  have hr2 : Room n X.A.in1.in1 := (show Room (n + 1) X.A.in1 from Room.in1 hr).in1
  refine PySem.W.kso_call hr2.units0 I.kIn J hs hf (wpAny_mono (wpAny_call (SlX.run_at (us := [.ref a]) (ws := [.ref a]) F hr2 I.env0.in1.in1 hx I (.cons rfl .nil) q)) (fun w s' z => ?_) fun _ _ x => x)
  obtain ⟨z', H', I', rz, y, ey, qz⟩ := z
  subst ey
  obtain ⟨t, e⟩ := relv_str rz
  cases e
  exact ⟨.str y, H', I', ⟨t, rfl⟩, qz⟩
def rLenI (C : Addr) (sp : Sp) (E : XK) : List V → Hp → VK → Prop := fun xs H Q => ∃ a dx fs, xs = [.ref a] ∧ H a = some (.ins C dx fs) ∧ sp [.ref a] H (fun z H' => ∃ i : Nat, z = .int i ∧ (i : Int) < 2 ^ 63 ∧ Q (.int i) H') E
theorem call_lenI (hs : PySem.W.findIn X.K (.ref C) "__len__" = some (some (.ref g))) (hf : PySem.W.isFn X.K (.ref g) = true) (F : FnR X.prog X.w X.K X.mg X.base CX n g sp) (hr : Room (n + 1) X.A) (hx : Passes CX X E) : CallR X (.builtin "len") (rLenI C sp E) := by
  intro pins s σ H xs us Q I r h
  obtain ⟨a, dx, fs, rfl, ha, q⟩ := h
  obtain ⟨u, rfl, ru⟩ := r.one
  cases (show u = Value.ref a from ru)
  obtain ⟨od, J⟩ := ins_at I ha
  have hr2 : Room n X.A.in1 := Room.in1 hr
  obtain ⟨m, hF⟩ := I.fr
  refine PySem.W.len_K hF I.ok.mod.kin J hs hf (wpAny_mono (wpAny_call (SlX.run_at (us := [.ref a]) (ws := [.ref a]) F hr2 I.env0.in1 hx I (.cons rfl .nil) q)) (fun w s' z => ?_) fun _ _ x => x)
  obtain ⟨z', H', I', rz, i, ei, lt, qz⟩ := z
  subst ei
  obtain ⟨t, e⟩ := (show ∃ t, w = Value.int i t from rz)
  cases e
  exact ⟨⟨by omega, lt⟩, .int i, H', I'.tok _, ⟨_, rfl⟩, qz⟩
end
/-! !=, by the own == -/
section
variable {M : Model} {prog : Program} {w : World} {A : Around} {E : Value → Shared → Prop} {s : Shared} {K : PySem.W.Frag} {x C f : Addr} {ox : Obj} {od : Option Obj} {y : Value}
theorem objNe_K {Q : Fin → Shared → Prop} (hu : A.units < cLine) (X : K.In s.heap) (I : PySem.W.InstAt s.heap x ox C od) (hs : PySem.W.findIn K (.ref C) "__eq__" = some (some (.ref f))) (hf : PySem.W.isFn K (.ref f) = true)
    (hcall : wpAny (model prog w) A (call (.ref f) [.ref x, y]) (fun v s' => ∃ b, v = .bool b ∧ Q (.done (.ret (.bool (!b)))) s') E s) :
    wpAny (model prog w) A (Builtin.«object.__ne__» ⟨[.ref x, y], []⟩) Q E s := by
  unfold Builtin.«object.__ne__»
  repeat (first
    | with_reducible refine wpAny_cRoomFor hu ?_
    | (refine wpAny_bind (m := callSpecialIfBound? (.ref x) (Str.ofString "__eq__") [y])
        (PySem.W.ifBound_K X I hs hf (wpAny_mono hcall (fun r s' hr => by
          obtain ⟨b, rfl, hq⟩ := hr
          repeat (first | exact hq | exact wpAny_pure hq | exact wpAny_truthy_bool hq | (refine wpAny_bind (m := truthy (.bool _)) (wpAny_truthy_bool ?_)) | wp_step)) fun _ _ e => e)))
    | wp_step)
theorem ifBound_objNe {args : List Value} {Q : Option Value → Shared → Prop} (X : K.In s.heap) (I : PySem.W.InstAt s.heap x ox C od) (hs : PySem.W.findIn K (.ref C) "__ne__" = some (some (.builtin "object.__ne__")))
    (h : wpAny M A (call (.builtin "object.__ne__") (.ref x :: args)) (fun v => Q (some v)) E s) : wpAny M A (callSpecialIfBound? (.ref x) "__ne__" args) Q E s := by
  simp only [callSpecialIfBound?, bindSpecialIfBound?]
  refine wpAny_holding (wpAny_bind (wpAny_bind (wpAny_bind (I.type.here ((PySem.W.looks_findIn X hs).here ?_)))))
  refine wpAny_bind (wpAny_askSetting (wpAny_ite ?_))
  have fin : wpAny M A (call (.builtin "object.__ne__") ([.ref x] ++ args) >>= fun v => pure (some v)) Q E s := wpAny_bind (wpAny_mono h (fun v s' h' => wpAny_pure h') fun _ _ h' => h')
  split
  · exact wpAny_bind (wpAny_of_eq (F.cmp_object.ne.bind _) (wpAny_pure (by exact fin)))
  · exact wpAny_tryCatch (wpAny_bind (wpAny_of_eq (F.cmp_object.ne.bind _) (wpAny_pure (by exact fin))))
theorem ne_K {Q : Value → Shared → Prop} {tb : Value} (hu : A.units + 1 < cLine) (X : K.In s.heap) (I : PySem.W.InstAt s.heap x ox C od) (hb : PySem.W.Looks (model prog w) s.heap (typeOf y) (.ref C)) (hm : PySem.W.mroIn K C (.type "object") = some true)
    (hn : PySem.W.findIn K (.ref C) "__ne__" = some (some (.builtin "object.__ne__"))) (hs : PySem.W.findIn K (.ref C) "__eq__" = some (some (.ref f))) (hf : PySem.W.isFn K (.ref f) = true)
    (hcall : wpAny (model prog w) A.in1 (call (.ref f) [.ref x, y]) (fun v s' => ∃ b, v = .bool b ∧ Q (.bool (!b)) s') E s) : wpAny (model prog w) A (richCompare .NotEq (.ref x) y) Q E s := by
  have one : wpAny (model prog w) A (tryCompare (.ref x) "__ne__" y) (fun r s' => ∃ b : Bool, r = some (.bool (!b)) ∧ Q (.bool (!b)) s') E s := by
    unfold tryCompare
    refine wpAny_bind (ifBound_objNe X I hn (wpAny_call (codeAny_call_builtin F.cmp_object.ne.plain F.cmpEntry_ne (PySem.W.check_slot F.cmpKind_ne F.cmpSplit_ne (I.type.andThen (PySem.W.looks_mroIn X hm)) (F.cmpArgs_ne _ _)
      (objNe_K (A := A.in1) (show A.in1.units < cLine from hu) X I hs hf (wpAny_mono hcall (fun v s' hv => ?_) fun _ _ e => e))))))
    obtain ⟨b, rfl, hq⟩ := hv
    first | exact ⟨b, rfl, wpAny_pure ⟨b, rfl, hq⟩⟩ | exact ⟨b, rfl, wpAny_pure (wpAny_pure ⟨b, rfl, hq⟩)⟩
  simp only [richCompare, cmpInfo_NotEq, oneThing_ref]
  refine wpAny_holding (wpAny_bind (wpAny_cRoomFor (Nat.lt_of_succ_lt hu) ?_))
  refine wpAny_bind (I.type.here (wpAny_bind (hb.here ?_)))
  rw [show (Value.ref C != Value.ref C) = false from by simp]
  simp only [Bool.false_eq_true, if_false]
  refine wpAny_bind (wpAny_pure ?_)
  simp only [Bool.false_eq_true, if_false]
  refine wpAny_bind (m := tryCompare (.ref x) _ y) (wpAny_mono one (fun r s' z => ?_) fun _ _ e => e)
  obtain ⟨b, rfl, hq⟩ := z
  first | exact wpAny_pure hq | exact wpAny_pure (wpAny_pure hq)
end
section
variable {X : Cx} {CX : CXT} {C g : Addr} {n : Nat} {sp : Sp} {E : XK}
def rNeI (C : Addr) (sp : Sp) (E : XK) : R2 := fun x y H Q => ∃ a dx fs b dy gs, x = .ref a ∧ H a = some (.ins C dx fs) ∧ y = .ref b ∧ H b = some (.ins C dy gs) ∧ sp [x, y] H (fun v H' => ∃ k, v = .bl k ∧ Q (.bl (!k)) H') E
theorem op_neI (hn : PySem.W.findIn X.K (.ref C) "__ne__" = some (some (.builtin "object.__ne__"))) (hm : PySem.W.mroIn X.K C (.type "object") = some true) (hs : PySem.W.findIn X.K (.ref C) "__eq__" = some (some (.ref g))) (hf : PySem.W.isFn X.K (.ref g) = true)
    (F : FnR X.prog X.w X.K X.mg X.base CX n g sp) (hr : Room (n + 1) X.A) (hx : Passes CX X E) : OpR X (compareOp .NotEq) (rNeI C sp E) := by
  intro pins s σ H x y v u Q I rx ry h
  obtain ⟨a, dx, fs, b, dy, gs, rfl, ha, rfl, hb, q⟩ := h
  cases (show v = Value.ref a from rx)
  cases (show u = Value.ref b from ry)
  obtain ⟨od, J⟩ := ins_at I ha
  obtain ⟨od', J'⟩ := ins_at I hb
  have hu : X.A.units + 1 < cLine := by have := hr.un; omega
  unfold compareOp
  refine ne_K (tb := .none) hu I.kIn J J'.type hm hn hs hf ?_
  refine wpAny_mono (wpAny_call (SlX.run_at (us := [.ref a, .ref b]) (ws := [.ref a, .ref b]) F hr.in1 I.env0.in1 hx I (.cons rfl (.cons rfl .nil)) q)) (fun w s' z => ?_) fun _ _ x => x
  obtain ⟨z', H', I', rz, k, ek, qz⟩ := z
  subst ek
  cases (show w = Value.bool k from rz)
  exact ⟨k, rfl, .bl (!k), H', I', rfl, qz⟩
end
/-! x op= y, no own in-place def -/
section
variable {prog : Program} {w : World} {A : Around} {E : Value → Shared → Prop} {s : Shared} {K : PySem.W.Frag} {x C L f : Addr} {h₀ : Heap} {m : Str → Option Value} {ox : Obj} {od : Option Obj}
theorem noFill {M : Model} {h : Heap} {nm : String} {cd : PySem.ClassData} (X : K.In h) (hc : PySem.W.clsIn K C = some cd) (hm : cd.mro = [.ref C, .type "object"]) (hs : PySem.W.findIn K (.ref C) (PySem.dunderI nm) = some none) (ho : typeLookup (.type "object") (PySem.dunderI nm) = pure none) :
    PySem.W.Looks M h (fillsInplaceSlot (.ref C) nm false) false := by
  intro A Q E s k q
  unfold fillsInplaceSlot
  refine wpAny_bind ((PySem.W.looks_clsIn X hc).andThen (f := fun cd => pure cd.mro) .now A _ E s k ?_)
  rw [hm, List.anyM_cons]
  refine wpAny_bind (wpAny_bind (PySem.W.looks_findIn X hs A _ E s k ?_))
  dsimp only
  refine wpAny_pure ?_
  simp only [Bool.false_eq_true, if_false]
  rw [List.anyM_cons]
  refine wpAny_bind (wpAny_bind (wpAny_of_eq ho ?_))
  dsimp only
  refine wpAny_pure ?_
  simp only [Bool.false_eq_true, if_false]
  rw [List.anyM_nil]
  exact wpAny_pure q
theorem ibinop_K {op : Operator} {b : Value} {Q : Value → Shared → Prop} {cd : PySem.ClassData} (hop : (op == .Add) = false) (F : Fr h₀ L s.heap m) (X₀ : K.In h₀) (I : PySem.W.InstAt s.heap x ox C od) (hb : PySem.W.Looks (model prog w) s.heap (typeOf b) (.ref C)) (hc : PySem.W.clsIn K C = some cd) (hm : cd.mro = [.ref C, .type "object"])
    (hi : PySem.W.findIn K (.ref C) (PySem.dunderI op.info.2) = some none) (ho : typeLookup (.type "object") (PySem.dunderI op.info.2) = pure none)
    (hs : PySem.W.findIn K (.ref C) (PySem.dunder op.info.2) = some (some (.ref f))) (hf : PySem.W.isFn K (.ref f) = true)
    (h : wpAny (model prog w) A (call (.ref f) [.ref x, b]) (PySem.W.CmpBack Q) E s) : wpAny (model prog w) A (inplaceOp op (.ref x) b) Q E s := by
  have X := X₀.keeps F.keep
  unfold inplaceOp
  refine wpAny_holding (wpAny_bind (I.type.here ?_))
  rw [hop]
  refine wpAny_bind ((noFill X hc hm hi ho).here ?_)
  simp only [Bool.false_eq_true, if_false]
  refine wpAny_bind ?_
  unfold binaryOp1
  refine wpAny_bind (I.type.here (wpAny_bind (hb.here (wpAny_bind ((PySem.W.fills_K X hc hm hs).here ?_)))))
  simp only [beq_self_eq_true, if_true]
  refine wpAny_bind (wpAny_pure ?_)
  simp only [Bool.and_false, Bool.false_eq_true, if_false, Bool.false_and]
  refine wpAny_bind (wpAny_pure ?_)
  simp only [Bool.false_eq_true, if_false]
  refine wpAny_bind (m := tryMethod (.ref x) _ b) ?_
  unfold tryMethod
  refine wpAny_bind (PySem.W.special_fn X I hs (beq_iff_eq.mp hf) (wpAny_mono h (fun v s' hv => ?_) fun _ _ e => e))
  cases v <;> first | exact hv.elim | exact wpAny_pure (wpAny_pure (wpAny_pure hv))
end
section
variable {X : Cx} {CX : CXT} {C g : Addr} {n : Nat} {sp : Sp} {E : XK}
theorem iop_binI {op : Operator} (hop : (op == .Add) = false) (hc : ∃ cd, PySem.W.clsIn X.K C = some cd ∧ cd.mro = [.ref C, .type "object"]) (hi : PySem.W.findIn X.K (.ref C) (PySem.dunderI op.info.2) = some none) (ho : typeLookup (.type "object") (PySem.dunderI op.info.2) = pure none)
    (hs : PySem.W.findIn X.K (.ref C) (PySem.dunder op.info.2) = some (some (.ref g))) (hf : PySem.W.isFn X.K (.ref g) = true) (F : FnR X.prog X.w X.K X.mg X.base CX n g sp)
    (hr : Room n X.A) (hx : Passes CX X E) : OpR X (inplaceOp op) (rBinI C sp E) := by
  intro pins s σ H x y v u Q I rx ry h
  obtain ⟨a, dx, fs, b, dy, gs, rfl, ha, rfl, hb, q⟩ := h
  cases (show v = Value.ref a from rx)
  cases (show u = Value.ref b from ry)
  obtain ⟨od, J⟩ := ins_at I ha
  obtain ⟨od', J'⟩ := ins_at I hb
  obtain ⟨m, hF⟩ := I.fr
  obtain ⟨cd, c1, c2⟩ := hc
  refine ibinop_K (op := op) hop hF I.ok.mod.kin J J'.type c1 c2 hi ho hs hf ?_
  refine wpAny_mono (wpAny_call (run_fnR (us := [.ref a, .ref b]) (vs := [.ref a, .ref b]) F hr hx I (.cons rfl (.cons rfl .nil)) q)) (fun w s' z => ?_) fun _ _ x => x
  obtain ⟨z', H', I', rz, qz⟩ := z
  exact SlX.cmpback rz ⟨z', H', I', rz, qz⟩
end
/-! tokens -/
/-- an expression that gives one out -/
def PEK (X : Cx) (e : Expr) (t : TE) : Prop :=
  ∀ (pins : List (Addr × Obj)) (s : Shared) (σ : L2.St) (H : Hp) (Q : VK), Inv X pins σ H s → t σ H Q → wpAny (model X.prog X.w) X.A (eval e X.env) (fun v s' => 1 ≤ s'.toks ∧ EP X pins σ Q v s') X.xe s
section
variable {X : Cx} {a e : Expr} {es : List Expr} {ta te : TE} {t : TA} {pos cp : Pos} {x : Str} {j : Nat}
theorem pek_op {op : Operator} {r : R2} (ho : OpR X (binaryOp op) r) (ha : PE X a ta) : PEK X (.BinOp a op (.Constant (.str x) j cp) pos) (tOp r ta (tC (.str x))) := by
  intro pins s σ H Q I h
  refine wpAny_BinOp (thn (ha.run pins s σ H _ I h) fun v s1 ⟨z, H1, I1, r1, q1⟩ => ?_)
  refine Calls.Constant_str ?_
  exact wpAny_mono (PySem.wpAny_toks_of (n := 1) (by show 1 ≤ s1.toks + 1; omega) (ho pins _ σ H1 z (.str x) v _ Q (I1.tok _) r1 ⟨_, rfl⟩ q1)) (fun _ _ z => z) fun _ _ z => z.2
theorem PAT.of (h : PA X es t) : PAT X es t := fun pos pins s σ H Q _ I q => h.run pos pins s σ H Q I q
theorem pa_consK (ha : PEK X e te) (hr : PAT X es t) (hs : starEach (e :: es) X.env = (false, eval e X.env) :: starEach es X.env := by rfl) : PA X (e :: es) (tCons te t) := by
  refine ⟨fun pos pins s σ H Q I h => ?_⟩
  rw [hs]
  show wpAny _ _ (spliced ((false, eval e X.env) :: backTo pos (starEach es X.env))) _ _ s
  refine Calls.spliced_cons (thn (ha pins s σ H _ I h) fun u s1 ⟨ht, x, H1, I1, r1, q1⟩ => ?_)
  exact thn (hr pos pins s1 σ H1 _ ht I1 q1) fun us s2 ⟨xs, H2, I2, r2, q2⟩ => ⟨x :: xs, H2, I2, .cons r1 r2, q2⟩
theorem pat_cons (ha : PET X e te) (hr : PAT X es t) (hs : starEach (e :: es) X.env = (false, eval e X.env) :: starEach es X.env := by rfl) : PAT X (e :: es) (tCons te t) := by
  intro pos pins s σ H Q h0 I h
  rw [hs]
  show wpAny _ _ (spliced ((false, eval e X.env) :: backTo pos (starEach es X.env))) _ _ s
  refine Calls.spliced_cons (wpAny_mono (PySem.wpAny_toks (ha pins s σ H _ h0 I h)) (fun u s1 q => ?_) fun _ _ z => z.2)
  obtain ⟨hk, x, H1, I1, r1, q1⟩ := q
  exact thn (hr pos pins s1 σ H1 _ (Nat.le_trans h0 hk) I1 q1) fun us s2 ⟨xs, H2, I2, r2, q2⟩ => ⟨x :: xs, H2, I2, .cons r1 r2, q2⟩
end
/-- a def of at least one parameter: a token is out when its body begins -/
theorem Fun.okT {P : Program} {w : World} {K : PySem.W.Frag} {mg : Str → Option Value} {base : Heap} {x qual : Str} {st : Stmt} {f : Addr} {fd : FuncData} {N ps : List Str} {k : Nat} {sp : Sp} (F : Fun K x qual st f fd) (S : FnScope N ps (defScope st))
    (hnc : ∀ y ∈ (defScope st).names, y.2 ≠ .cell) (hps : 1 ≤ ps.length) (len : ∀ vs H Q E, sp vs H Q E → vs.length = ps.length)
    (hbody : ∀ (cdv : Value) (A : Around) (outer : List Env) (s : Shared) (H : Hp) (vs : List V) (Q : VK) (E : XK), Room k (A.deeper (envOfC qual (defScope st) s.heap.objs.size f cdv)) → sp vs H Q E →
      ∃ t, PSsT (cxOf CX0 P w K mg base N qual (defScope st) f cdv A outer s H E) (defBody st) t ∧ t { nx := fun _ H' => Q .non H', rt := Q } (start N vs) H) : FnOk P w K mg base CX0 (k + 1) f fd ps sp := by
  obtain ⟨oc, od, kV, doc, pm, an, cdv, ct, osl, rfl, lk, hcd⟩ := F.ex
  exact fn_ofT lk hcd S hnc hps len fun A outer s H vs Q E hr hsp => hbody cdv A outer s H vs Q E hr hsp
/-! a static method, called off the class -/
structure SMet (K : PySem.W.Frag) (C : Addr) (mc : Value) (m : Str) (p g : Addr) : Prop where
  at_ : PySem.W.findCls K (.ref C) mc m = some (.get (.builtin "staticmethod.__get__") (.ref p) .none (.ref C))
  rc : ∃ rest, PySem.W.recIn K p "staticmethod" = some (.ref g :: rest)
  kp : PySem.W.keepIn K (.ref g) = true
def tSMeth (C : Addr) (sp : Sp) (E : XK) (ta : TE) (t : TA) : TE := fun σ H Q => ta σ H fun x H1 => x = .ref C ∧ t σ H1 fun vs H2 => sp vs H2 Q E
section
variable {X : Cx} {CX : CXT} {k : Nat} {C p g : Addr} {mc : Value} {sp : Sp} {E : XK} {o e : Expr} {es : List Expr} {m : Str} {pos apos : Pos} {ta : TE} {t : TA} {pl : Sem Bool}
theorem pe_smeth (he : PE X o ta) (r : ClX.CRead X.K C mc) (c : SMet X.K C mc m p g) (F : FnR X.prog X.w X.K X.mg X.base CX k g sp) (hr : Room k X.A) (hx : Passes CX X E) (ha : PA X (e :: es) t)
    (h1 : starEach (e :: es) X.env = (false, eval e X.env) :: starEach es X.env := by rfl) (h2 : (backTo pos (starEach es X.env)).any (·.1) = false := by rfl)
    (h3 : eval (.Call (.Attribute o m apos) (e :: es) [] pos) X.env = (do
      let ov ← eval o X.env
      standAt apos.atName
      let (f, first) ← holding [ov] (getMethod ov m pl)
      callWith pos f first (backTo pos (starEach (e :: es) X.env)) (backToKw pos (keywordEach [] X.env))) := by rfl) :
    PE X (.Call (.Attribute o m apos) (e :: es) [] pos) (tSMeth C sp E ta t) := by
  constructor
  intro pins s σ H Q I asked
  obtain ⟨rest, rec_⟩ := c.rc
  apply PySem.W.methodCall_KW (pl := pl) ?_ h3
  apply thn (he.run pins s σ H _ I asked)
  rintro u s1 ⟨x, H1, I1, rx, ex, q⟩
  subst ex
  cases (show u = Value.ref C from rx)
  apply PySem.W.method_cls I1.kIn r.ga
  apply PySem.W.cls_bind I1.kIn r.rd c.at_
  apply wpAny_call
  apply PySem.W.sm_get (s := { s1 with toks := s1.toks + 1 }) I1.kIn rec_
  apply PySem.W.handed_on rfl
  have I2 : Inv X pins σ H1 { s1 with toks := s1.toks + 1 } := I1.tok _
  apply PySem.W.callWith_K (h₀ := X.base) I2.ok.mod.kin c.kp ?_ h1 h2
  apply thn (ha.run pos pins _ σ H1 _ I2 q)
  rintro us s3 ⟨vs, H3, I3, rv, q3⟩
  exact ⟨I3.kIn, wpAny_call (run_fnR (us := us) (vs := vs) F hr hx I3 rv q3)⟩
end
end Fb
set_option maxRecDepth 100000
set_option maxHeartbeats 4000000
namespace Fb
open PySem PySem.Spec PyProof.Rows L2
open SX (S)
/-! patterns as lists of signs: 48, 49, 46 -/
/-- how many leading signs begin some pattern; none for a pattern -/
def pfa : List Nat → Nat → Nat → Nat → Nat → Option Nat
  | [], at_, _, _, size => if size = 0 then some at_ else none
  | c :: cs, at_, bits, blocks, size =>
    if ¬(c = 48 ∨ c = 49 ∨ c = 46) ∨ bits = 120 then some at_
    else if c = 46 then (if size = 0 ∨ blocks = 3 then some at_ else pfa cs (at_ + 1) bits (blocks + 1) 0)
    else pfa cs (at_ + 1) (bits + 1) blocks (size + 1)
def pf (l : List Nat) : Option Nat := pfa l 0 0 1 0
/-- the sizes of the parts between dots -/
def szA : Nat → List Nat → List Nat
  | n, [] => [n]
  | n, c :: cs => if c = 46 then n :: szA 0 cs else szA (n + 1) cs
def szs (l : List Nat) : List Nat := szA 0 l
theorem spl_len : ∀ (l acc : List Nat), (TL.spl [46] 0 acc l).map List.length = szA acc.length l
  | [], acc => by rw [TL.spl_nil]; rfl
  | c :: l, acc => by
    by_cases h : c = 46
    · subst h
      have hp : TL.pre [46] (46 :: l) = true := TL.pre_self [46] l
      rw [TL.spl_hit hp]
      show acc.length :: (TL.spl [46] 0 [] l).map List.length = szA acc.length (46 :: l)
      rw [spl_len l []]
      rfl
    · have hp : TL.pre [46] (c :: l) = false := TL.pre_of_head _ _ fun e => h e
      rw [TL.spl_miss hp, spl_len l (acc ++ [c])]
      show szA (acc ++ [c]).length l = if c = 46 then _ else szA (acc.length + 1) l
      rw [if_neg h, List.length_append]
      rfl
theorem split_lens (l : List Nat) : (Txt.split (S l) ".").map (fun z => z.length) = szs l := by
  have e : ((".":Str)) = S [46] := by decide +kernel
  rw [e, SX.split_S (by simp) (by decide), List.map_map]
  have h := spl_len l []
  show _ = szA 0 l
  rw [← (show ([] : List Nat).length = 0 from rfl), ← h]
  refine List.map_congr_left fun x _ => ?_
  show (S x).length = x.length
  exact SX.S_len x
theorem szA_len : ∀ (l : List Nat) (n : Nat), 1 ≤ (szA n l).length ∧ (szA n l).length ≤ l.length + 1
  | [], n => by simp [szA]
  | c :: l, n => by
    unfold szA
    by_cases h : c = 46
    · rw [if_pos h]
      have := szA_len l 0
      simp only [List.length_cons]
      omega
    · rw [if_neg h]
      have := szA_len l (n + 1)
      simp only [List.length_cons]
      omega
/-- signs of a pattern -/
def Sg (l : List Nat) : Prop := ∀ c ∈ l, c = 48 ∨ c = 49 ∨ c = 46
def nb (l : List Nat) : Nat := (l.filter (fun c => c != 46)).length
theorem szA_sum : ∀ (l : List Nat) (n : Nat), (szA n l).sum = n + nb l
  | [], n => by simp [szA, nb]
  | c :: l, n => by
    unfold szA nb
    by_cases h : c = 46
    · subst h
      rw [if_pos rfl, List.sum_cons, szA_sum l 0]
      simp [nb]
    · rw [if_neg h, szA_sum l (n + 1), List.filter_cons_of_pos (by simpa using h), List.length_cons]
      unfold nb
      omega
theorem pfa_good : ∀ (l : List Nat) (a bits blocks size : Nat), Sg l → (∀ n ∈ szA size l, 1 ≤ n) → blocks + (szA size l).length ≤ 4 → bits + nb l ≤ 120 → pfa l a bits blocks size = none
  | [], a, bits, blocks, size, _, h2, _, _ => by
    have : 1 ≤ size := h2 size (by simp [szA])
    unfold pfa
    rw [if_neg (by omega)]
  | c :: l, a, bits, blocks, size, h1, h2, h3, h4 => by
    have hc := h1 c List.mem_cons_self
    have h1' : Sg l := fun d hd => h1 d (List.mem_cons_of_mem _ hd)
    unfold pfa
    by_cases h : c = 46
    · subst h
      have e : szA size (46 :: l) = size :: szA 0 l := by
        show (if 46 = 46 then _ else _) = _
        rw [if_pos rfl]
      rw [e] at h2 h3
      have hs : 1 ≤ size := h2 size List.mem_cons_self
      have hl := szA_len l 0
      have sm := szA_sum l 0
      have pos : 1 ≤ (szA 0 l).sum := by
        cases q : szA 0 l with
        | nil => rw [q] at hl; simp at hl
        | cons x r =>
          have := h2 x (by rw [q]; simp)
          rw [List.sum_cons]
          omega
      have en : nb (46 :: l) = nb l := by simp [nb]
      rw [en] at h4
      rw [List.length_cons] at h3
      rw [if_neg (by omega), if_pos rfl, if_neg (by omega)]
      exact pfa_good l _ _ _ _ h1' (fun n hn => h2 n (List.mem_cons_of_mem _ hn)) (by omega) (by omega)
    · have e : szA size (c :: l) = szA (size + 1) l := by
        show (if c = 46 then _ else _) = _
        rw [if_neg h]
      rw [e] at h2 h3
      have en : nb (c :: l) = nb l + 1 := by
        unfold nb
        rw [List.filter_cons_of_pos (by simpa using h), List.length_cons]
      rw [en] at h4
      rw [if_neg (by omega), if_neg h]
      exact pfa_good l _ _ _ _ h1' h2 h3 (by omega)
/-- a pattern -/
structure IsP (l : List Nat) : Prop where
  sg : Sg l
  one : ∀ n ∈ szs l, 1 ≤ n
  few : (szs l).length ≤ 3
  sum : nb l ≤ 120
theorem IsP.pf {l : List Nat} (h : IsP l) : pf l = none := pfa_good l 0 0 1 0 h.sg h.one (by have := h.few; unfold szs at this; omega) (by have := h.sum; omega)
theorem len_nb : ∀ (l : List Nat) (n : Nat), l.length + 1 = nb l + (szA n l).length
  | [], n => by simp [nb, szA]
  | c :: l, n => by
    unfold szA nb
    by_cases h : c = 46
    · subst h
      rw [if_pos rfl, List.length_cons, List.length_cons, len_nb l 0]
      simp [nb]
      omega
    · rw [if_neg h, List.length_cons, len_nb l (n + 1), List.filter_cons_of_pos (by simpa using h), List.length_cons]
      unfold nb
      omega
theorem IsP.len {l : List Nat} (h : IsP l) : l.length ≤ 122 := by
  have h1 := len_nb l 0
  have h2 := h.few
  have h3 := h.sum
  unfold szs at h2
  omega
/-! two patterns of equal sizes -/
def AlS (a b : Nat) : Prop := (a = 46 ∧ b = 46) ∨ ((a = 48 ∨ a = 49) ∧ (b = 48 ∨ b = 49))
abbrev Al (l m : List Nat) : Prop := Paired AlS l m
theorem Al.szA : ∀ {l m : List Nat}, Al l m → ∀ n, Fb.szA n l = Fb.szA n m
  | _, _, .nil, n => rfl
  | a :: l, b :: m, .cons r t, n => by
    show (if a = 46 then _ else _) = (if b = 46 then _ else _)
    rcases r with ⟨rfl, rfl⟩ | ⟨h1, h2⟩
    · rw [if_pos rfl, if_pos rfl, Al.szA t 0]
    · rw [if_neg (by omega), if_neg (by omega), Al.szA t (n + 1)]
theorem Al.szs {l m : List Nat} (h : Al l m) : Fb.szs l = Fb.szs m := h.szA 0
theorem Al.nb {l m : List Nat} (h : Al l m) : Fb.nb l = Fb.nb m := by
  have h1 := szA_sum l 0
  have h2 := szA_sum m 0
  rw [h.szA 0] at h1
  omega
theorem Al.len : ∀ {l m : List Nat}, Al l m → l.length = m.length
  | _, _, .nil => rfl
  | _, _, .cons _ t => by rw [List.length_cons, List.length_cons, Al.len t]
theorem Al.sg : ∀ {l m : List Nat}, Al l m → Sg m
  | _, _, .nil => fun c hc => by simp at hc
  | _, _, .cons r t => fun c hc => by
    rcases List.mem_cons.mp hc with e | e
    · subst e
      rcases r with ⟨_, h⟩ | ⟨_, h⟩ <;> omega
    · exact Al.sg t c e
theorem Al.symm : ∀ {l m : List Nat}, Al l m → Al m l
  | _, _, .nil => .nil
  | _, _, .cons r t => .cons (by rcases r with ⟨h1, h2⟩ | ⟨h1, h2⟩; exact .inl ⟨h2, h1⟩; exact .inr ⟨h2, h1⟩) (Al.symm t)
theorem Al.refl : ∀ {l : List Nat}, Sg l → Al l l
  | [], _ => .nil
  | c :: l, h => .cons (by rcases h c List.mem_cons_self with e | e | e; exact .inr ⟨.inl e, .inl e⟩; exact .inr ⟨.inr e, .inr e⟩; exact .inl ⟨e, e⟩) (Al.refl fun d hd => h d (List.mem_cons_of_mem _ hd))
theorem Al.trans : ∀ {l m k : List Nat}, Al l m → Al m k → Al l k
  | _, _, _, .nil, .nil => .nil
  | _, _, _, .cons r t, .cons r' t' => .cons (by rcases r with ⟨h1, h2⟩ | ⟨h1, h2⟩ <;> rcases r' with ⟨h3, h4⟩ | ⟨h3, h4⟩; exact .inl ⟨h1, h4⟩; omega; omega; exact .inr ⟨h1, h4⟩) (Al.trans t t')
theorem Al.isP {l m : List Nat} (h : Al l m) (p : IsP l) : IsP m :=
  ⟨h.sg, by rw [← h.szs]; exact p.one, by rw [← h.szs]; exact p.few, by rw [← h.nb]; exact p.sum⟩
/-- sign by sign -/
def zw (f : Nat → Nat → Nat) (l m : List Nat) : List Nat := List.zipWith f l m
theorem Al.zw {f : Nat → Nat → Nat} (hf : ∀ a b, AlS a b → AlS a (f a b)) : ∀ {l m : List Nat}, Al l m → Al l (zw f l m)
  | _, _, .nil => .nil
  | _, _, .cons r t => .cons (hf _ _ r) (Al.zw hf t)
def fAnd (a b : Nat) : Nat := if a = b then a else 48
def fOr (a b : Nat) : Nat := if a = b then a else 49
def fXor (a b : Nat) : Nat := if a ≠ b then 49 else if a = 46 then 46 else 48
theorem al_and (a b : Nat) (h : AlS a b) : AlS a (fAnd a b) := by
  unfold AlS fAnd at *
  by_cases e : a = b
  · subst e; rw [if_pos rfl]; omega
  · rw [if_neg e]; omega
theorem al_or (a b : Nat) (h : AlS a b) : AlS a (fOr a b) := by
  unfold AlS fOr at *
  by_cases e : a = b
  · subst e; rw [if_pos rfl]; omega
  · rw [if_neg e]; omega
theorem al_xor (a b : Nat) (h : AlS a b) : AlS a (fXor a b) := by
  unfold AlS fXor at *
  by_cases e : a = b
  · subst e; rw [if_neg (by simp)]; by_cases q : a = 46
    · rw [if_pos q]; omega
    · rw [if_neg q]; omega
  · rw [if_pos e]; omega
/-- each sign of the one is at most the other's -/
def below (l m : List Nat) : Bool := (List.zipWith (fun a b => decide (a ≤ b)) l m).all id
theorem szA_head : ∀ (l : List Nat) (n : Nat), ∃ h r, szA n l = h :: r ∧ n ≤ h
  | [], n => ⟨n, [], rfl, Nat.le_refl _⟩
  | c :: l, n => by
    unfold szA
    by_cases h : c = 46
    · rw [if_pos h]
      exact ⟨n, _, rfl, Nat.le_refl _⟩
    · rw [if_neg h]
      obtain ⟨x, r, e, hx⟩ := szA_head l (n + 1)
      exact ⟨x, r, e, by omega⟩
theorem al_of : ∀ {l m : List Nat}, Sg l → Sg m → ∀ n, szA n l = szA n m → Al l m
  | [], [], _, _, _, _ => .nil
  | [], c :: m, _, _, n, e => by
    exfalso
    unfold szA at e
    by_cases h : c = 46
    · rw [if_pos h] at e
      have := szA_len m 0
      simp at e
      rw [e] at this
      simp at this
    · rw [if_neg h] at e
      obtain ⟨x, r, e2, hx⟩ := szA_head m (n + 1)
      rw [e2] at e
      simp at e
      omega
  | c :: l, [], _, _, n, e => by
    exfalso
    unfold szA at e
    by_cases h : c = 46
    · rw [if_pos h] at e
      have := szA_len l 0
      simp at e
      rw [e] at this
      simp at this
    · rw [if_neg h] at e
      obtain ⟨x, r, e2, hx⟩ := szA_head l (n + 1)
      rw [e2] at e
      simp at e
      omega
  | c :: l, d :: m, hl, hm, n, e => by
    have h1 : Sg l := fun x hx => hl x (List.mem_cons_of_mem _ hx)
    have h2 : Sg m := fun x hx => hm x (List.mem_cons_of_mem _ hx)
    have hc := hl c List.mem_cons_self
    have hd := hm d List.mem_cons_self
    unfold szA at e
    by_cases h : c = 46
    · by_cases h' : d = 46
      · rw [if_pos h, if_pos h'] at e
        exact .cons (.inl ⟨h, h'⟩) (al_of h1 h2 0 (List.cons.inj e).2)
      · exfalso
        rw [if_pos h, if_neg h'] at e
        obtain ⟨x, r, e2, hx⟩ := szA_head m (n + 1)
        rw [e2] at e
        have := (List.cons.inj e).1
        omega
    · by_cases h' : d = 46
      · exfalso
        rw [if_neg h, if_pos h'] at e
        obtain ⟨x, r, e2, hx⟩ := szA_head l (n + 1)
        rw [e2] at e
        have := (List.cons.inj e).1
        omega
      · rw [if_neg h, if_neg h'] at e
        exact .cons (.inr ⟨by omega, by omega⟩) (al_of h1 h2 (n + 1) e)
/-! places -/
theorem S_sgn {l : List Nat} {i c : Nat} (h : l[i]? = some c) : (⟨#[(S l).cps.getD i 0]⟩ : Str) = S [c] := by
  have e : (S l).cps.getD i 0 = c := by
    show l.toArray.getD i 0 = c
    rw [Array.getD_eq_getD_getElem?]
    simp [h]
  rw [e]
theorem join_empty : ∀ xs : List Nat, TL.joinL [] (xs.map fun c => [c]) = xs
  | [] => rfl
  | [a] => rfl
  | a :: b :: r => by
    have h := join_empty (b :: r)
    show [a] ++ [] ++ TL.joinL [] ((b :: r).map fun c => [c]) = _
    rw [h]
    rfl
theorem join_signs (xs : List Nat) : Txt.join "" (xs.map fun c => S [c]) = S xs := by
  have e : (("" : Str)) = S [] := by decide +kernel
  have h := SX.join_S [] (xs.map fun c => [c])
  rw [e]
  rw [List.map_map] at h
  rw [join_empty] at h
  exact h
theorem repl_dots : ∀ l : List Nat, StrLaws.replL [46] [] l = l.filter (fun c => c != 46)
  | [] => StrLaws.replL_nil
  | c :: l => by
    by_cases h : c = 46
    · subst h
      rw [StrLaws.replL_hit (by simp) (by simp), List.filter_cons_of_neg (by simp)]
      exact repl_dots l
    · rw [StrLaws.replL_miss (by simpa using h), List.filter_cons_of_pos (by simpa using h), repl_dots l]
theorem replace_dots (l : List Nat) : Txt.replace (S l) "." "" = S (l.filter (fun c => c != 46)) := by
  have e1 : ((".":Str)) = S [46] := by decide +kernel
  have e2 : (("" : Str)) = S [] := by decide +kernel
  rw [e1, e2]
  refine TL.ext_tl ?_
  have h := StrLaws.replace_list (x := S l) (y := S [46]) (z := S []) (by decide)
  exact h.trans (repl_dots l)
/-! the other way -/
theorem pfa_conv : ∀ (l : List Nat) (a bits blocks size : Nat), blocks ≤ 3 → bits ≤ 120 → pfa l a bits blocks size = none → Sg l ∧ (∀ n ∈ szA size l, 1 ≤ n) ∧ blocks + (szA size l).length ≤ 4 ∧ bits + nb l ≤ 120
  | [], a, bits, blocks, size, hb, hc, h => by
    unfold pfa at h
    by_cases e : size = 0
    · rw [if_pos e] at h; cases h
    · refine ⟨fun c hc => by simp at hc, fun n hn => ?_, by simp [szA]; omega, by simp [nb]; omega⟩
      have : n = size := by simpa [szA] using hn
      omega
  | c :: l, a, bits, blocks, size, hb, hc, h => by
    unfold pfa at h
    by_cases e : ¬(c = 48 ∨ c = 49 ∨ c = 46) ∨ bits = 120
    · rw [if_pos e] at h; cases h
    · rw [if_neg e] at h
      have e1 : c = 48 ∨ c = 49 ∨ c = 46 := by
        by_cases q : c = 48 ∨ c = 49 ∨ c = 46
        · exact q
        · exact absurd (.inl q) e
      have e2 : ¬ bits = 120 := fun q => e (.inr q)
      have sg : ∀ {l : List Nat}, Sg l → Sg (c :: l) := fun h d hd => by
        rcases List.mem_cons.mp hd with q | q
        · rw [q]; exact e1
        · exact h d q
      by_cases d : c = 46
      · rw [if_pos d] at h
        by_cases f : size = 0 ∨ blocks = 3
        · rw [if_pos f] at h; cases h
        · rw [if_neg f] at h
          obtain ⟨h1, h2, h3, h4⟩ := pfa_conv l _ _ _ _ (by omega) (by omega) h
          have es : szA size (c :: l) = size :: szA 0 l := by
            show (if c = 46 then _ else _) = _
            rw [if_pos d]
          have en : nb (c :: l) = nb l := by subst d; simp [nb]
          rw [es, en]
          refine ⟨sg h1, fun n hn => ?_, by rw [List.length_cons]; omega, h4⟩
          rcases List.mem_cons.mp hn with q | q
          · omega
          · exact h2 n q
      · rw [if_neg d] at h
        obtain ⟨h1, h2, h3, h4⟩ := pfa_conv l _ _ _ _ (by omega) (by omega) h
        have es : szA size (c :: l) = szA (size + 1) l := by
          show (if c = 46 then _ else _) = _
          rw [if_neg d]
        have en : nb (c :: l) = nb l + 1 := by
          unfold nb
          rw [List.filter_cons_of_pos (by simpa using d), List.length_cons]
        rw [es, en]
        exact ⟨sg h1, h2, h3, by omega⟩
theorem isP_pf {l : List Nat} (h : Fb.pf l = none) : IsP l := by
  obtain ⟨h1, h2, h3, h4⟩ := pfa_conv l 0 0 1 0 (by decide) (by decide) h
  exact ⟨h1, h2, by unfold szs; omega, by omega⟩
end Fb
set_option maxRecDepth 100000
set_option maxHeartbeats 4000000
namespace Fb
open PySem PySem.Spec PyProof.Rows L2
/-! the document's own error classes -/
abbrev bmX (fe : Addr) : List Value := [.ref fe, .type "ValueError", .type "Exception", .type "BaseException", .type "object"]
/-- what the written part says of an own error class under FallenError -/
structure XF (K : PySem.W.Frag) (mg : Str → Option Value) (fe : Addr) (x : Str) (C : Addr) : Prop where
  g : mg x = some (.ref C)
  ob : ∃ nm q N bs sn sub ab col dd k0 k1 k2 k3 k5, K.lookup C = some (excClassObj nm q C N bs (bmX fe) true sn sub ab col dd k0 k1 k2 k3 k5 "ValueError.__new__")
  kp : PySem.W.keepIn K (.ref C) = true
  ty : PySem.W.typeIn K (.ref C) = some (.type "type")
  sa : PySem.W.findIn K (.ref C) "__setattr__" = some (some (.builtin "object.__setattr__"))
  ga : PySem.W.findIn K (.ref C) "__getattribute__" = some (some (.builtin "BaseException.__getattribute__"))
  gg : PySem.W.findIn K (.ref C) "__getattr__" = some none
  ca : PySem.W.findIn K (.ref C) "__class__" = some (some (.builtin "object.__class__"))
section
variable {K : PySem.W.Frag} {mg : Str → Option Value} {fe C : Addr} {x : Str}
theorem XF.cls (T : XF K mg fe x C) : ∃ cd, PySem.W.clsIn K C = some cd ∧ cd.mro = .ref C :: bmX fe ∧ cd.hasDict = true := by
  obtain ⟨nm, q, N, bs, sn, sub, ab, col, dd, k0, k1, k2, k3, k5, h⟩ := T.ob
  exact ⟨{ name := nm, bases := bs, mro := .ref C :: bmX fe, ns := N, qualname := q, hasDict := true, slotNames := sn, subclasses := sub, abstract := ab, collection := col, hasDel := false }, by unfold PySem.W.clsIn; rw [h] <;> rfl, rfl, rfl⟩
theorem XF.mro (T : XF K mg fe x C) (b : Value) : PySem.W.mroIn K C b = some ((Value.ref C :: bmX fe).contains b) := by
  obtain ⟨cd, h1, h2, _⟩ := T.cls
  unfold PySem.W.mroIn
  rw [h1, Option.bind_some, h2] <;> rfl
theorem XF.xc (T : XF K mg fe x C) : XC K C := by
  obtain ⟨cd, h1, h2, h3⟩ := T.cls
  refine ⟨by rw [h1]; rfl, T.ga, T.gg, ?_, T.ca, ?_, by unfold PySem.W.hasDictIn; rw [h1] <;> exact h3⟩
  · show PySem.W.mroIn K C _ = _
    rw [T.mro] <;> simp
  · rw [T.mro] <;> simp
theorem XF.oc (T : XF K mg fe x C) : OexC K C := by
  obtain ⟨nm, q, N, bs, sn, sub, ab, col, dd, k0, k1, k2, k3, k5, h⟩ := T.ob
  exact ⟨⟨nm, q, N, bs, bmX fe, sn, sub, ab, col, dd, k0, k1, k2, k3, k5, h, by rfl⟩, T.sa, T.xc.sb, T.ty, T.kp⟩
/-- isinstance(e, D), e of the class at C, D at another address that is a class too -/
theorem XF.is {D : Addr} {y : Str} (T : XF K mg fe x C) (U : XF K mg fe y D) (hf : D ≠ fe) : PySem.W.kitOne K (.ref C) (.ref D) = some (decide (C = D)) := by
  unfold PySem.W.kitOne
  by_cases e : C = D
  · subst e
    simp
  · have e1 : (Value.ref C == Value.ref D) = false := beq_eq_false_iff_ne.mpr fun z => e (Value.ref.inj z)
    rw [e1, if_neg Bool.false_ne_true, decide_eq_false e]
    unfold PySem.W.kitCls
    have e2 : ((PySem.W.clsIn K D).isSome && PySem.W.typeIn K (.ref D) == some (.type "type")) = true := by
      rw [U.xc.cl, U.ty] <;> rfl
    show (if ((PySem.W.clsIn K D).isSome && PySem.W.typeIn K (.ref D) == some (.type "type")) = true then PySem.W.subIn K (.ref C) (.ref D) else none) = _
    rw [if_pos e2]
    show PySem.W.mroIn K C (.ref D) = _
    rw [T.mro]
    have e3 : (Value.ref D == Value.ref C) = false := beq_eq_false_iff_ne.mpr fun z => e (Value.ref.inj z).symm
    have e4 : (Value.ref D == Value.ref fe) = false := beq_eq_false_iff_ne.mpr fun z => hf (Value.ref.inj z)
    have e5 : ∀ T : String, (Value.ref D == Value.type T) = false := fun T => rfl
    simp [List.contains, List.elem, e3, e4, e5]
theorem XF.isF (T : XF K mg fe x C) (hc : (PySem.W.clsIn K fe).isSome = true) (ht : PySem.W.typeIn K (.ref fe) = some (.type "type")) : PySem.W.kitOne K (.ref C) (.ref fe) = some true := by
  unfold PySem.W.kitOne
  by_cases e : C = fe
  · subst e
    simp
  · have e1 : (Value.ref C == Value.ref fe) = false := beq_eq_false_iff_ne.mpr fun z => e (Value.ref.inj z)
    rw [e1, if_neg Bool.false_ne_true]
    have e2 : ((PySem.W.clsIn K fe).isSome && PySem.W.typeIn K (.ref fe) == some (.type "type")) = true := by
      rw [hc, ht] <;> rfl
    show (if ((PySem.W.clsIn K fe).isSome && PySem.W.typeIn K (.ref fe) == some (.type "type")) = true then PySem.W.subIn K (.ref C) (.ref fe) else none) = _
    rw [if_pos e2]
    show PySem.W.mroIn K C (.ref fe) = _
    rw [T.mro]
    simp
theorem XF.isV (T : XF K mg fe x C) : PySem.W.kitOne K (.ref C) (.type "ValueError") = some true := by
  unfold PySem.W.kitOne
  have e1 : (Value.ref C == Value.type "ValueError") = false := by rfl
  rw [e1, if_neg Bool.false_ne_true]
  show (if PySem.W.kitMeta "ValueError" = true then PySem.W.subIn K (.ref C) (.type "ValueError") else none) = _
  rw [if_pos (by decide +kernel)]
  show PySem.W.mroIn K C _ = _
  rw [T.mro]
  simp
end
theorem XF.of {K : PySem.W.Frag} {h : Heap} {mg : Str → Option Value} {fe C N : Addr} {x nm q : Str} {bs : List Value} {sn : List Str} {sub : List Value} {ab : Bool} {col : Option Bool} {dd : Option Addr} {k0 k1 k2 k3 k5 : Option Value} (X : K.In h) (G : h.Ns mainGlobals mg)
    (g : PySem.W.nsIn K mainGlobals x = some (some (.ref C))) (ob : K.lookup C = some (excClassObj nm q C N bs (bmX fe) true sn sub ab col dd k0 k1 k2 k3 k5 "ValueError.__new__")) (kp : PySem.W.keepIn K (.ref C) = true) (ty : PySem.W.typeIn K (.ref C) = some (.type "type"))
    (sa : PySem.W.findIn K (.ref C) "__setattr__" = some (some (.builtin "object.__setattr__"))) (ga : PySem.W.findIn K (.ref C) "__getattribute__" = some (some (.builtin "BaseException.__getattribute__"))) (gg : PySem.W.findIn K (.ref C) "__getattr__" = some none)
    (ca : PySem.W.findIn K (.ref C) "__class__" = some (some (.builtin "object.__class__"))) : XF K mg fe x C :=
  ⟨PySem.W.mg_of X G g, ⟨nm, q, N, bs, sn, sub, ab, col, dd, k0, k1, k2, k3, k5, ob⟩, kp, ty, sa, ga, gg, ca⟩
/-! isinstance of an exception that was caught and is kept -/
section
variable {X : Cx} {pins : List (Addr × Obj)} {σ : L2.St} {H : Hp} {s : Shared}
theorem exr_inst {a C : Addr} (I : Inv X pins σ H s) (h : H a = some (ExR (.ref C) none a)) : ∃ ox, PySem.W.InstAt s.heap a ox C none := by
  obtain ⟨⟨oe, vs, ho, h1, h2, h3⟩, _, _⟩ := I.hok a _ h
  refine ⟨oe, ho, h1, ?_, ?_⟩
  · unfold PySem.W.notCls; rw [h3] <;> rfl
  · rw [h2] <;> trivial
def rIsR (K : PySem.W.Frag) : List V → Hp → VK → Prop := fun xs H Q => ∃ (a C : Addr) (c : V) (cv : Value) (b : Bool), xs = [.ref a, c] ∧ XC K C ∧ XB K ∧ H a = some (ExR (.ref C) none a) ∧ ClsV c cv ∧ PySem.W.kitOne K (.ref C) cv = some b ∧ Q (.bl b) H
theorem call_isR : CallR X (.builtin "isinstance") (rIsR X.K) := by
  intro pins s σ H xs us Q I r h
  obtain ⟨a, C, c, cv, b, rfl, T, B, hE, k, e, q⟩ := h
  obtain ⟨u1, u2, rfl, r1, r2⟩ := vals2 r
  have e2 := k.eq r2
  subst e2
  cases (show u1 = Value.ref a from r1)
  obtain ⟨ox, J⟩ := exr_inst I hE
  exact PySem.W.kia_one (PySem.W.kitx_exc T.cl T.ga T.gg T.sb T.ca B.hn B.ht T.ob) I.kIn J e (fun z => nomatch z) fun tk => ⟨.bl b, H, I.tok tk, rfl, q⟩
end
/-- an own __init__ of one field -/
def spI1 (C : Addr) (f : Str) : Sp := fun vs H Q _ => ∃ (a : Addr) (v : V), vs = [.ref a, v] ∧ H a = some (exo a C none) ∧ ∀ d, H d = none → d ≠ a → Q .non (upd (upd H d (exd d [(f, v)])) a (exo a C (some d)))
end Fb
set_option maxRecDepth 100000
set_option maxHeartbeats 4000000
namespace Fb
open PySem PySem.Spec PyProof.Rows L2
/-! list comprehensions that leave what was: the list so far is told by a function of the turn -/
section
variable {g : TG} {tt : TT} {te : TE} {vs : List Nat} {σ : L2.St} {H1 : Hp} {D : Addr} {Qd : Hp → Prop} (out : Nat → List V)
def OutI (H1 : Hp) (D : Addr) (o : List V) (H : Hp) : Prop := Same H1 H ∧ H D = some (.lst o)
theorem OutI.start {H1 : Hp} {D : Addr} (hD : H1 D = none) : OutI H1 D [] (upd H1 D (.lst [])) := ⟨smN (Same.refl _) hD, upd_same⟩
theorem OutI.put {H1 H H4 : Hp} {D : Addr} {o : List V} {y : V} (hD : H1 D = none) (h : OutI H1 D o H) (s : Same H H4) : OutI H1 D (o ++ [y]) (upd H4 D (.lst (o ++ [y]))) :=
  ⟨fun b u e => by rw [upd_ne (ne_of_none e hD)]; exact s _ _ (h.1 _ _ e), upd_same⟩
theorem OutI.stay {H1 H H4 : Hp} {D : Addr} {o : List V} (h : OutI H1 D o H) (s : Same H H4) : OutI H1 D o H4 := ⟨h.1.trans s, s _ _ h.2⟩
theorem lc_outL {K : PySem.W.Frag} {a : Addr} {xs : List V} (hD : H1 D = none) (hl : SqL K H1 a xs) (o0 : out 0 = []) (ol : ∀ i, i < xs.length → (out i).length < sizeLine)
    (hs : ∀ i x H (Kc : V → Hp → Prop) (K0 : Hp → Prop), xs[i]? = some x → Same H1 H → (∀ y H4, Same H H4 → out (i + 1) = out i ++ [y] → Kc y H4) → (∀ H4, Same H H4 → out (i + 1) = out i → K0 H4) →
      g x (wipe σ vs) H fun σ2 H2 => wipe σ2 vs = wipe σ vs ∧ tt σ2 H2 fun b H3 => if b = true then te σ2 H3 Kc else K0 H3)
    (hd : ∀ H, Same H1 H → H D = some (.lst (out xs.length)) → Qd H) :
    ∃ W : Nat → Nat → Hp → Prop, (∃ m, W 0 m (upd H1 D (.lst []))) ∧ ∀ i m H, W i m H →
      ((Itl K a).stop i H ∧ Qd H) ∨ ((Itl K a).go i H ∧ ∃ Nx : Hp → Prop, (∀ H', Nx H' → ∃ m', m' < m ∧ W (i + 1) m' H') ∧ ∀ x H', (Itl K a).yld i H x H' → g x (wipe σ vs) H' fun σ2 H2 => wipe σ2 vs = wipe σ vs ∧ tt σ2 H2 fun b H3 =>
        if b = true then te σ2 H3 fun y H4 => ∃ acc, H4 D = some (.lst acc) ∧ acc.length < sizeLine ∧ Nx (upd H4 D (.lst (acc ++ [y]))) else Nx H3) := by
  refine lc_list (xs := xs) (fun i H => OutI H1 D (out i) H) (by rw [o0]; exact OutI.start hD) (fun i H _ h => h.1.seq hl) (fun i x H e h => ?_) (fun H h => hd H h.1 h.2)
  have lt : i < xs.length := (List.getElem?_eq_some_iff.mp e).1
  exact hs i x H _ _ e h.1 (fun y H4 s q => ⟨out i, (h.stay s).2, ol i lt, by rw [q]; exact h.put hD s⟩) (fun H4 s q => by rw [q]; exact h.stay s)
theorem lc_outT {vals : Nat → List V} {n : Nat} (hD : H1 D = none) (o0 : out 0 = []) (ol : ∀ i, i < n → (out i).length < sizeLine)
    (hs : ∀ i T H (Kc : V → Hp → Prop) (K0 : Hp → Prop), i < n → Same H1 H → H T = some (.tup (vals i)) → (∀ y H4, Same H H4 → out (i + 1) = out i ++ [y] → Kc y H4) → (∀ H4, Same H H4 → out (i + 1) = out i → K0 H4) →
      g (.ref T) (wipe σ vs) H fun σ2 H2 => wipe σ2 vs = wipe σ vs ∧ tt σ2 H2 fun b H3 => if b = true then te σ2 H3 Kc else K0 H3)
    (hd : ∀ H, Same H1 H → H D = some (.lst (out n)) → Qd H) :
    ∃ W : Nat → Nat → Hp → Prop, (∃ m, W 0 m (upd H1 D (.lst []))) ∧ ∀ i m H, W i m H →
      ((ItT vals n).stop i H ∧ Qd H) ∨ ((ItT vals n).go i H ∧ ∃ Nx : Hp → Prop, (∀ H', Nx H' → ∃ m', m' < m ∧ W (i + 1) m' H') ∧ ∀ x H', (ItT vals n).yld i H x H' → g x (wipe σ vs) H' fun σ2 H2 => wipe σ2 vs = wipe σ vs ∧ tt σ2 H2 fun b H3 =>
        if b = true then te σ2 H3 fun y H4 => ∃ acc, H4 D = some (.lst acc) ∧ acc.length < sizeLine ∧ Nx (upd H4 D (.lst (acc ++ [y]))) else Nx H3) := by
  refine lc_T (fun i H => OutI H1 D (out i) H) (by rw [o0]; exact OutI.start hD) (fun i T H lt h hT => ?_) (fun H h => hd H h.1 h.2)
  have s0 : Same H (upd H T (.tup (vals i))) := smN (Same.refl _) hT
  exact hs i T _ _ _ lt (h.1.trans s0) upd_same (fun y H4 s q => ⟨out i, (h.stay (s0.trans s)).2, ol i lt, by rw [q]; exact h.put hD (s0.trans s)⟩) (fun H4 s q => by rw [q]; exact h.stay (s0.trans s))
theorem lc_outR {lo : Int} {n : Nat} (hD : H1 D = none) (o0 : out 0 = []) (ol : ∀ i, i < n → (out i).length < sizeLine)
    (hs : ∀ i H (Kc : V → Hp → Prop) (K0 : Hp → Prop), i < n → Same H1 H → (∀ y H4, Same H H4 → out (i + 1) = out i ++ [y] → Kc y H4) → (∀ H4, Same H H4 → out (i + 1) = out i → K0 H4) →
      g (.int (lo + i)) (wipe σ vs) H fun σ2 H2 => wipe σ2 vs = wipe σ vs ∧ tt σ2 H2 fun b H3 => if b = true then te σ2 H3 Kc else K0 H3)
    (hd : ∀ H, Same H1 H → H D = some (.lst (out n)) → Qd H) :
    ∃ W : Nat → Nat → Hp → Prop, (∃ m, W 0 m (upd H1 D (.lst []))) ∧ ∀ i m H, W i m H →
      ((Itr lo n).stop i H ∧ Qd H) ∨ ((Itr lo n).go i H ∧ ∃ Nx : Hp → Prop, (∀ H', Nx H' → ∃ m', m' < m ∧ W (i + 1) m' H') ∧ ∀ x H', (Itr lo n).yld i H x H' → g x (wipe σ vs) H' fun σ2 H2 => wipe σ2 vs = wipe σ vs ∧ tt σ2 H2 fun b H3 =>
        if b = true then te σ2 H3 fun y H4 => ∃ acc, H4 D = some (.lst acc) ∧ acc.length < sizeLine ∧ Nx (upd H4 D (.lst (acc ++ [y]))) else Nx H3) := by
  refine lc_range (fun i H => OutI H1 D (out i) H) (by rw [o0]; exact OutI.start hD) (fun i H lt h => ?_) (fun H h => hd H h.1 h.2)
  exact hs i H _ _ lt h.1 (fun y H4 s q => ⟨out i, (h.stay s).2, ol i lt, by rw [q]; exact h.put hD s⟩) (fun H4 s q => by rw [q]; exact h.stay s)
end
theorem iteNo {A B : Prop} (h : B) : if false = true then A else B := by
  rw [if_neg Bool.false_ne_true]
  exact h
theorem yes1 {A B : Hp → Prop} {σ : L2.St} {H : Hp} (h : A H) : tYes σ H (fun b H3 => if b = true then A H3 else B H3) := by
  show (if true = true then A H else B H)
  rw [if_pos rfl]
  exact h
/-- the list so far, item by item -/
def outM (f : Nat → V) (i : Nat) : List V := (List.range i).map f
theorem outM_0 {f : Nat → V} : outM f 0 = [] := rfl
theorem outM_s {f : Nat → V} {i : Nat} : outM f (i + 1) = outM f i ++ [f i] := by unfold outM; rw [List.range_succ, List.map_append]; rfl
theorem outM_l {f : Nat → V} {i : Nat} : (outM f i).length = i := by unfold outM; simp
/-- .. of those that are kept -/
def outF (p : Nat → Bool) (f : Nat → V) (i : Nat) : List V := ((List.range i).filter p).map f
theorem outF_0 {p : Nat → Bool} {f : Nat → V} : outF p f 0 = [] := rfl
theorem outF_t {p : Nat → Bool} {f : Nat → V} {i : Nat} (h : p i = true) : outF p f (i + 1) = outF p f i ++ [f i] := by unfold outF; rw [List.range_succ, List.filter_append, List.map_append]; simp [h]
theorem outF_f {p : Nat → Bool} {f : Nat → V} {i : Nat} (h : p i = false) : outF p f (i + 1) = outF p f i := by unfold outF; rw [List.range_succ, List.filter_append, List.map_append]; simp [h]
theorem outF_l {p : Nat → Bool} {f : Nat → V} {i : Nat} : (outF p f i).length ≤ i := by
  unfold outF
  rw [List.length_map]
  exact Nat.le_trans (List.length_filter_le _ _) (by simp)
end Fb
set_option maxRecDepth 100000
set_option maxHeartbeats 4000000
namespace Fb
open PySem PySem.Spec PyProof.Rows L2
/-! flat data -/
def numD (ns : List Nat) : List PyData := ns.map fun n => .int (n : Nat)
def nums (ns : List Nat) : List V := ns.map fun n => V.int (n : Nat)
def boolD (bs : List Bool) : List PyData := bs.map .bool
def bools (bs : List Bool) : List V := bs.map V.bl
section
variable {K : PySem.W.Frag} {H : Hp}
theorem dp_nums : ∀ ns : List Nat, DpAll K H (nums ns) (numD ns)
  | [] => .nil
  | n :: ns => .cons (.int _) (dp_nums ns)
theorem dp_bls : ∀ bs : List Bool, DpAll K H (bools bs) (boolD bs)
  | [] => .nil
  | b :: bs => .cons (.bl b) (dp_bls bs)
end
theorem lay_nums : ∀ ns : List Nat, PyData.canLayAll0 (numD ns) = true ∧ PyData.depthAll (numD ns) = 0
  | [] => ⟨rfl, rfl⟩
  | n :: ns => by
    obtain ⟨h1, h2⟩ := lay_nums ns
    unfold numD at *
    rw [List.map_cons]
    constructor
    · rw [PyData.canLayAll0, h1] <;> rfl
    · rw [PyData.depthAll, h2] <;> rfl
theorem lay_bools : ∀ ns : List Bool, PyData.canLayAll0 (boolD ns) = true ∧ PyData.depthAll (boolD ns) = 0
  | [] => ⟨rfl, rfl⟩
  | n :: ns => by
    obtain ⟨h1, h2⟩ := lay_bools ns
    unfold boolD at *
    rw [List.map_cons]
    constructor
    · rw [PyData.canLayAll0, h1] <;> rfl
    · rw [PyData.depthAll, h2] <;> rfl
theorem shaped_tup {ds : List PyData} (h : PyData.canLayAll0 ds = true ∧ PyData.depthAll ds = 0) : SeqAt.shaped (.tuple ds) = true := by
  unfold SeqAt.shaped
  rw [PyData.canLay0, PyData.depth, h.1, h.2]
  rfl
theorem shaped_lst {ds : List PyData} (h : PyData.canLayAll0 ds = true ∧ PyData.depthAll ds = 0) : SeqAt.shaped (.list ds) = true := by
  unfold SeqAt.shaped
  rw [PyData.canLay0, PyData.depth, h.1, h.2]
  rfl
theorem eqv_nums : ∀ ns ms : List Nat, PyData.eqvAll (numD ns) (numD ms) = decide (ns = ms)
  | [], [] => by simp [numD, PyData.eqvAll]
  | [], _ :: _ => by simp [numD, PyData.eqvAll]
  | _ :: _, [] => by simp [numD, PyData.eqvAll]
  | n :: ns, m :: ms => by
    have h := eqv_nums ns ms
    unfold numD at *
    rw [List.map_cons, List.map_cons, PyData.eqvAll, h, PyData.eqv]
    by_cases e : n = m
    · subst e
      simp
    · have e2 : ¬ ((n : Int) = (m : Int)) := by omega
      simp [e, e2]
theorem eqv_numT (ns ms : List Nat) : PyData.eqv (.tuple (numD ns)) (.tuple (numD ms)) = decide (ns = ms) := by rw [PyData.eqv, eqv_nums]
theorem eqv_numL (ns ms : List Nat) : PyData.eqv (.list (numD ns)) (.list (numD ms)) = decide (ns = ms) := by rw [PyData.eqv, eqv_nums]
mutual
theorem dp_same {K : PySem.W.Frag} {H H' : Hp} (s : Same H H') : ∀ (d : PyData) {v : V}, Dp K H v d → Dp K H' v d
  | _, _, .non => .non
  | _, _, .bl b => .bl b
  | _, _, .int i => .int i
  | _, _, .str x => .str x
  | .list ds, _, .lst h a => .lst (s.seq h) (dp_sameAll s ds a)
  | .tuple ds, _, .tup h a => .tup (by
      rcases h with (h | ⟨o, h⟩) | h
      · exact .inl (.inl (s _ _ h))
      · exact .inl (.inr ⟨o, s _ _ h⟩)
      · exact .inr h) (dp_sameAll s ds a)
theorem dp_sameAll {K : PySem.W.Frag} {H H' : Hp} (s : Same H H') : ∀ (ds : List PyData) {vs : List V}, DpAll K H vs ds → DpAll K H' vs ds
  | _, _, .nil => .nil
  | d :: ds, _, .cons h t => .cons (dp_same s d h) (dp_sameAll s ds t)
end
theorem sqT_same {K : PySem.W.Frag} {H H' : Hp} (s : Same H H') {a : Addr} {xs : List V} (h : SqT K H a xs) : SqT K H' a xs := by
  rcases h with (h | ⟨o, h⟩) | h
  · exact .inl (.inl (s _ _ h))
  · exact .inl (.inr ⟨o, s _ _ h⟩)
  · exact .inr h
theorem outM_all {ys : List V} {f : Nat → V} {n : Nat} (hn : n = ys.length) (h : ∀ i, i < n → ys[i]? = some (f i)) : outM f n = ys := by
  subst hn
  unfold outM
  refine List.ext_getElem? fun i => ?_
  by_cases hi : i < ys.length
  · rw [List.getElem?_map, List.getElem?_range hi, h i hi] <;> rfl
  · rw [List.getElem?_eq_none (by simpa using hi), List.getElem?_eq_none (by omega)]
/-- one sign is at most another -/
theorem sign_lt (a b : Nat) : (([b] : List Nat) < [a]) ↔ b < a := by
  rw [List.cons_lt_cons_iff]
  simp
theorem sign_le (a b : Nat) : (!decide (([b] : List Nat) < [a])) = decide (a ≤ b) := by
  by_cases h : b < a
  · rw [decide_eq_true ((sign_lt a b).mpr h), decide_eq_false (by omega)] <;> rfl
  · rw [decide_eq_false (fun z => h ((sign_lt a b).mp z)), decide_eq_true (by omega)] <;> rfl
/-! within a comprehension: readings that name the written part by itself -/
section
variable {X : Cx} {o e : Expr} {es : List Expr} {to : TE} {t : TA} {apos cpos : Pos} {K : PySem.W.Frag}
def rJn (K : PySem.W.Frag) : V → List V → Hp → VK → Prop := fun x xs H Q => ∃ a p, ∃ ys : List Str, x = .str a ∧ xs = [.ref p] ∧ (SqL K H p (ys.map V.str) ∨ SqT K H p (ys.map V.str)) ∧
    (ys.map (·.length)).sum + ys.length * a.length ≤ 16777216 ∧ Q (.str (Txt.join a ys)) H
theorem pe_joinK (hK : X.K = K) (ho : PE X o to) (ha : PA X (e :: es) t)
    (hbase : attributeBase o "join" X.env (eval o X.env) = eval o X.env := by rfl)
    (hfew : ((backTo cpos (starEach (e :: es) X.env)).all (fun x => !x.1) && (backToKw cpos (keywordEach [] X.env)).all (fun x => x.1.isSome)
      && decide ((e :: es).length + ([] : List Keyword).length + (if ([] : List Keyword).isEmpty then 0 else 1) < 30)) = true := by rfl)
    (hline : (apos.endLine == cpos.line) = true := by rfl) (hs : starEach (e :: es) X.env = (false, eval e X.env) :: starEach es X.env := by rfl) (hplain : (backTo cpos (starEach es X.env)).any (·.1) = false := by rfl) :
    PE X (.Call (.Attribute o "join" apos) (e :: es) [] cpos) (tBM K "str" (rJn K) to t) := by
  subst hK
  exact pe_bm PySem.F.plainAttrs_str PySem.F.slot_str_join PySem.F.type_str_join mt_join ho ha hbase hfew hline hs hplain
end
end Fb
set_option maxRecDepth 100000
set_option maxHeartbeats 4000000
namespace Fb
open PySem PySem.Spec PyProof.Rows L2
open SX (S)
/-! what the laws' own drawing defs need -/
/-- all but p is as it was -/
def But (p : Addr) (H H' : Hp) : Prop := ∀ c o, c ≠ p → H c = some o → H' c = some o
section
variable {H H1 H2 : Hp} {p : Addr}
theorem But.refl : But p H H := fun _ _ _ h => h
theorem But.trans (a : But p H H1) (b : But p H1 H2) : But p H H2 := fun c o n h => b c o n (a c o n h)
theorem But.of (s : Same H H1) : But p H H1 := fun c o _ h => s c o h
theorem But.took (k : ∀ c, c ≠ p → H1 c = H c) : But p H H1 := fun c o n h => by rw [k c n]; exact h
theorem But.new {q : Addr} {o : HO} (b : But p H H1) (h : H1 q = none) : But p H (upd H1 q o) := fun c u n e => by
  have e1 := b c u n e
  rw [upd_ne (ne_of_none e1 h)]
  exact e1
/-- a list that is not tracked at the start is stored to -/
theorem But.put {q : Addr} {o : HO} (b : But p H H1) (h : H q = none) : But p H (upd H1 q o) := fun c u n e => by
  rw [upd_ne (ne_of_none e h)]
  exact b c u n e
theorem PenL.new {l : Addr} {n : Nat} {q : Addr} {o : HO} (h : PenL H p l n) (hq : H q = none) : PenL (upd H q o) p l n := h.same (smN (Same.refl _) hq)
theorem PenL.put {l : Addr} {n : Nat} {q : Addr} {o : HO} (h : PenL H p l n) (n1 : p ≠ q) (n2 : l ≠ q) : PenL (upd H q o) p l n := by
  obtain ⟨cs, a, r, f, e, e2, h3⟩ := h
  exact ⟨cs, a, r, f, by rw [upd_ne n1]; exact e, by rw [upd_ne n2]; exact e2, h3⟩
theorem PenL.nep {l : Addr} {n : Nat} {q : Addr} (h : PenL H p l n) (hq : H q = none) : p ≠ q := by
  obtain ⟨cs, a, r, f, e, e2, h3⟩ := h
  exact ne_of_none e hq
theorem PenL.nel {l : Addr} {n : Nat} {q : Addr} (h : PenL H p l n) (hq : H q = none) : l ≠ q := by
  obtain ⟨cs, a, r, f, e, e2, h3⟩ := h
  exact ne_of_none e2 hq
end
/-! a walk over a text -/
theorem for_S {l : List Nat} {g : TG} {tb : TS} {D : Ends} {σ : L2.St} {H : Hp} (Pv : Nat → L2.St → Hp → Prop) (h0 : Pv 0 σ H)
    (hs : ∀ i c σ H, l[i]? = some c → Pv i σ H → g (.str (S [c])) σ H fun σ2 H2 => tb { D with nx := Pv (i + 1), ct := Pv (i + 1), bk := D.nx } σ2 H2) (hd : ∀ σ H, Pv l.length σ H → D.nx σ H) :
    ∃ W : Nat → Nat → L2.St → Hp → Prop, (∃ m, W 0 m σ H) ∧ ∀ i m σ H, W i m σ H →
      ((Its (S l)).stop i H ∧ D.nx σ H) ∨ ((Its (S l)).go i H ∧ ∃ N : L2.St → Hp → Prop, (∀ σ' H', N σ' H' → ∃ m', m' < m ∧ W (i + 1) m' σ' H') ∧ ∀ x H', (Its (S l)).yld i H x H' → g x σ H' fun σ2 H2 => tb { D with nx := N, ct := N, bk := D.nx } σ2 H2) := by
  have hz : (S l).cps.size = l.length := by simp [S]
  refine ⟨fun i m σ H => i + m = l.length ∧ Pv i σ H, ⟨l.length, by omega, h0⟩, fun i m σ H ⟨hm, p⟩ => ?_⟩
  by_cases lt : i < l.length
  · refine Or.inr ⟨by show i < (S l).cps.size; omega, Pv (i + 1), fun σ' H' p' => ⟨m - 1, by omega, by omega, p'⟩, ?_⟩
    rintro x H' ⟨eH, c, hc, rfl⟩
    subst eH
    have e : l[i]? = some c := by simpa [S] using hc
    exact hs i c σ _ e p
  · obtain rfl : i = l.length := by omega
    exact Or.inl ⟨by show (S l).cps.size ≤ _; omega, hd σ H p⟩
/-! mathematics of drawn patterns -/
theorem Al.snoc : ∀ {l m : List Nat} {a b : Nat}, Al l m → AlS a b → Al (l ++ [a]) (m ++ [b])
  | _, _, _, _, .nil, r => .cons r .nil
  | _, _, _, _, .cons r t, q => .cons r (Al.snoc t q)
theorem take_s {l : List Nat} {i c : Nat} (h : l[i]? = some c) : l.take (i + 1) = l.take i ++ [c] := by
  rw [List.take_add_one, h] <;> rfl
theorem Al.at : ∀ {l m : List Nat} {i a : Nat}, Al l m → l[i]? = some a → ∃ b, m[i]? = some b ∧ AlS a b
  | _, _, _, _, .nil, e => by simp at e
  | _, _, 0, _, .cons r _, e => by simp at e; subst e; exact ⟨_, rfl, r⟩
  | _, _, i + 1, _, .cons _ t, e => by
    obtain ⟨b, h1, h2⟩ := Al.at (i := i) t (by simpa using e)
    exact ⟨b, by simpa using h1, h2⟩
theorem zw_take {f : Nat → Nat → Nat} {l m : List Nat} {i a b : Nat} (h1 : l[i]? = some a) (h2 : m[i]? = some b) : zw f (l.take (i + 1)) (m.take (i + 1)) = zw f (l.take i) (m.take i) ++ [f a b] := by
  rw [take_s h1, take_s h2]
  unfold zw
  have hl : i < l.length := (List.getElem?_eq_some_iff.mp h1).1
  have hm : i < m.length := (List.getElem?_eq_some_iff.mp h2).1
  rw [List.zipWith_append (by rw [List.length_take, List.length_take]; omega)]
  rfl
theorem sg_join : ∀ {bs : List (List Nat)}, (∀ b ∈ bs, ∀ c ∈ b, c = 48 ∨ c = 49) → Sg (TL.joinL [46] bs)
  | [], _ => fun c hc => by simp [TL.joinL] at hc
  | [b], h => fun c hc => by
    have := h b (by simp) c (by simpa [TL.joinL] using hc)
    omega
  | b :: d :: r, h => fun c hc => by
    have hc' : c ∈ b ++ ([46] ++ TL.joinL [46] (d :: r)) := hc
    rw [List.mem_append, List.mem_append] at hc'
    rcases hc' with q | q | q
    · have := h b List.mem_cons_self c q
      omega
    · have := List.mem_singleton.mp q
      omega
    · exact sg_join (fun x hx => h x (List.mem_cons_of_mem _ hx)) c q
theorem szs_join {bs : List (List Nat)} (hne : bs ≠ []) (h : ∀ b ∈ bs, ∀ c ∈ b, c = 48 ∨ c = 49) : szs (TL.joinL [46] bs) = bs.map List.length := by
  have e := spl_len (TL.joinL [46] bs) []
  rw [SX.spl_join hne (fun p hp hm => by have := h p hp 46 hm; omega)] at e
  exact e.symm
theorem isP_of {l ss : List Nat} {M : Nat} (hs : Sg l) (hz : szs l = ss) (h3 : ss.length ≤ 3) (h1 : ∀ s ∈ ss, 1 ≤ s ∧ s ≤ M) (hM : M ≤ 40) : IsP l := by
  refine ⟨hs, by rw [hz]; exact fun n hn => (h1 n hn).1, by rw [hz]; exact h3, ?_⟩
  have e := szA_sum l 0
  have e2 : (szA 0 l) = ss := hz
  rw [e2] at e
  have : ss.sum ≤ ss.length * M := by
    clear e e2 hz h3
    induction ss with
    | nil => simp
    | cons s ss ih =>
      have := ih fun x hx => h1 x (List.mem_cons_of_mem _ hx)
      have h2 := (h1 s List.mem_cons_self).2
      rw [List.sum_cons, List.length_cons, Nat.succ_mul]
      omega
  have h5 : ss.length * M ≤ 3 * 40 := Nat.mul_le_mul h3 hM
  omega
/-- no bit stands in the one and has fallen in the other -/
def upP (l m : List Nat) (k : Nat) : Bool := decide (l.getD k 0 = 49) && decide (m.getD k 0 = 48)
theorem below_nil : ∀ {l m : List Nat}, Al l m → below l m = decide ((List.range l.length).filter (upP l m) = [])
  | [], [], .nil => rfl
  | a :: l, b :: m, .cons r t => by
    have ih := below_nil t
    have e1 : below (a :: l) (b :: m) = (decide (a ≤ b) && below l m) := rfl
    have e2 : (List.range (a :: l).length).filter (upP (a :: l) (b :: m)) = (if upP (a :: l) (b :: m) 0 = true then [0] else []) ++ ((List.range l.length).filter (upP l m)).map (· + 1) := by
      rw [List.length_cons, List.range_succ_eq_map, List.filter_cons]
      have : (List.map Nat.succ (List.range l.length)).filter (upP (a :: l) (b :: m)) = ((List.range l.length).filter (upP l m)).map (· + 1) := by
        rw [List.filter_map]
        have hf : (upP (a :: l) (b :: m) ∘ Nat.succ) = upP l m := by
          funext k
          simp [upP]
        rw [hf]
      split <;> simp [this]
    rw [e1, ih, e2]
    have u : upP (a :: l) (b :: m) 0 = (decide (a = 49) && decide (b = 48)) := by simp [upP]
    rw [u]
    by_cases h : a ≤ b
    · have : (decide (a = 49) && decide (b = 48)) = false := by
        by_cases q : a = 49
        · have : ¬ b = 48 := by omega
          simp [this]
        · simp [q]
      rw [this]
      simp [h]
    · have : (decide (a = 49) && decide (b = 48)) = true := by
        have h1 : a = 49 ∧ b = 48 := by unfold AlS at r; omega
        simp [h1.1, h1.2]
      rw [this]
      simp [h]
/-- the sign where so many of the two stand -/
def fC (cs : List Nat) (a b : Nat) : Nat := if a = 46 then 46 else if (if a = 49 then 1 else 0) + (if b = 49 then 1 else 0) ∈ cs then 49 else 48
theorem zw_congr {f g : Nat → Nat → Nat} (h : ∀ a b, AlS a b → f a b = g a b) : ∀ {l m : List Nat}, Al l m → zw f l m = zw g l m
  | _, _, .nil => rfl
  | _, _, .cons r t => by
    show f _ _ :: zw f _ _ = g _ _ :: zw g _ _
    rw [h _ _ r, zw_congr h t]
theorem fC_and (a b : Nat) (h : AlS a b) : fC [2] a b = fAnd a b := by
  unfold fC fAnd
  rcases h with ⟨rfl, rfl⟩ | ⟨h1, h2⟩
  · rfl
  · rcases h1 with rfl | rfl <;> rcases h2 with rfl | rfl <;> decide
theorem fC_or (a b : Nat) (h : AlS a b) : fC [1, 2] a b = fOr a b := by
  unfold fC fOr
  rcases h with ⟨rfl, rfl⟩ | ⟨h1, h2⟩
  · rfl
  · rcases h1 with rfl | rfl <;> rcases h2 with rfl | rfl <;> decide
theorem fC_xor (a b : Nat) (h : AlS a b) : fC [1] a b = fXor a b := by
  unfold fC fXor
  rcases h with ⟨rfl, rfl⟩ | ⟨h1, h2⟩
  · rfl
  · rcases h1 with rfl | rfl <;> rcases h2 with rfl | rfl <;> decide
theorem inV_nums (j : Nat) : ∀ cs : List Nat, inV (.int (j : Nat)) (nums cs) = decide (j ∈ cs)
  | [] => by simp [inV, nums]
  | c :: cs => by
    have ih := inV_nums j cs
    unfold inV nums at *
    rw [List.map_cons, List.any_cons, ih]
    show ((c : Int) == (j : Int) || _) = _
    by_cases h : j = c
    · subst h; simp
    · have h2 : ¬ ((c : Int) = (j : Int)) := by omega
      have h3 : ((c : Int) == (j : Int)) = false := by simpa using h2
      rw [h3]
      simp [h]
theorem flat_nums : ∀ cs : List Nat, (nums cs).all flatV = true
  | [] => rfl
  | c :: cs => by
    unfold nums
    rw [List.map_cons, List.all_cons]
    exact flat_nums cs
theorem sum_signs (xs : List Nat) : (xs.map ((fun w : Str => w.length) ∘ fun c => S [c])).sum = xs.length := by
  induction xs with
  | nil => rfl
  | cons c xs ih => rw [List.map_cons, List.sum_cons, ih, List.length_cons, Nat.add_comm]; rfl
theorem zw_and_or : ∀ {l m : List Nat}, Al l m → zw fOr (zw fAnd l m) l = l
  | _, _, .nil => rfl
  | a :: l, b :: m, .cons r t => by
    show fOr (fAnd a b) a :: zw fOr (zw fAnd l m) l = a :: l
    rw [zw_and_or t]
    have e : fOr (fAnd a b) a = a := by
      unfold fOr fAnd
      rcases r with ⟨rfl, rfl⟩ | ⟨h1, h2⟩
      · rfl
      · rcases h1 with rfl | rfl <;> rcases h2 with rfl | rfl <;> decide
    rw [e]
/-! patterns of other sizes -/
def filt (l : List Nat) : List Nat := l.filter (fun c => c != 46)
theorem filt_sg {l : List Nat} (h : Sg l) : ∀ c ∈ filt l, c = 48 ∨ c = 49 := fun c hc => by
  unfold filt at hc
  rw [List.mem_filter] at hc
  have := h c hc.1
  have h2 : ¬ c = 46 := by simpa using hc.2
  omega
theorem filt_len (l : List Nat) : (filt l).length = nb l := rfl
theorem szA_plain : ∀ (f : List Nat) (n : Nat), (∀ c ∈ f, c = 48 ∨ c = 49) → szA n f = [n + f.length]
  | [], n, _ => rfl
  | c :: f, n, h => by
    have hc := h c List.mem_cons_self
    unfold szA
    rw [if_neg (by omega), szA_plain f (n + 1) (fun d hd => h d (List.mem_cons_of_mem _ hd)), List.length_cons]
    congr 1
    omega
theorem szA_cut : ∀ (f r : List Nat) (n : Nat), (∀ c ∈ f, c = 48 ∨ c = 49) → szA n (f ++ 46 :: r) = (n + f.length) :: szA 0 r
  | [], r, n, _ => by
    show (if 46 = 46 then _ else _) = _
    rw [if_pos rfl]
    rfl
  | c :: f, r, n, h => by
    have hc := h c List.mem_cons_self
    show (if c = 46 then _ else szA (n + 1) (f ++ 46 :: r)) = _
    rw [if_neg (by omega), szA_cut f r (n + 1) (fun d hd => h d (List.mem_cons_of_mem _ hd)), List.length_cons]
    congr 1
    omega
theorem szA_more : ∀ (l : List Nat) (n : Nat), (szA n (l ++ [49])).length = (szA n l).length ∧ ((∀ s ∈ szA n l, 1 ≤ s) → ∀ s ∈ szA n (l ++ [49]), 1 ≤ s)
  | [], n => by
    refine ⟨rfl, fun _ s hs => ?_⟩
    have : s = n + 1 := by simpa [szA] using hs
    omega
  | c :: l, n => by
    by_cases h : c = 46
    · have e1 : szA n (c :: (l ++ [49])) = n :: szA 0 (l ++ [49]) := by show (if c = 46 then _ else _) = _; rw [if_pos h]
      have e2 : szA n (c :: l) = n :: szA 0 l := by show (if c = 46 then _ else _) = _; rw [if_pos h]
      obtain ⟨h1, h2⟩ := szA_more l 0
      rw [List.cons_append, e1, e2]
      refine ⟨by rw [List.length_cons, List.length_cons, h1], fun hh s hs => ?_⟩
      rcases List.mem_cons.mp hs with e | e
      · exact hh s (e ▸ List.mem_cons_self)
      · exact h2 (fun t ht => hh t (List.mem_cons_of_mem _ ht)) s e
    · have e1 : szA n (c :: (l ++ [49])) = szA (n + 1) (l ++ [49]) := by show (if c = 46 then _ else _) = _; rw [if_neg h]
      have e2 : szA n (c :: l) = szA (n + 1) l := by show (if c = 46 then _ else _) = _; rw [if_neg h]
      rw [List.cons_append, e1, e2]
      exact szA_more l (n + 1)
theorem nb_pos {x : List Nat} (h : IsP x) : 1 ≤ nb x := by
  have e := szA_sum x 0
  obtain ⟨a, r, e2, _⟩ := szA_head x 0
  have := h.one a (by unfold szs; rw [e2]; exact List.mem_cons_self)
  rw [e2, List.sum_cons] at e
  omega
theorem isP_far1 {x : List Nat} (h : IsP x) (hn : nb x ≤ 100) : IsP (x ++ [49]) := by
  obtain ⟨h1, h2⟩ := szA_more x 0
  refine ⟨fun c hc => ?_, h2 h.one, by have := h.few; unfold szs at *; omega, ?_⟩
  · rcases List.mem_append.mp hc with e | e
    · exact h.sg c e
    · have := List.mem_singleton.mp e
      omega
  · unfold nb
    rw [List.filter_append, List.length_append]
    unfold nb at hn
    simp
    omega
theorem isP_far2 {x : List Nat} (h : IsP x) (hn : nb x ≤ 100) : IsP (filt x ++ [46, 49]) := by
  have p := nb_pos h
  have hs := filt_sg h.sg
  have e : szs (filt x ++ [46, 49]) = [nb x, 1] := by
    show szA 0 (filt x ++ 46 :: [49]) = _
    rw [szA_cut _ _ _ hs, Nat.zero_add, filt_len]
    rfl
  refine ⟨fun c hc => ?_, by rw [e]; intro n hn; simp at hn; omega, by rw [e]; simp, ?_⟩
  · rcases List.mem_append.mp hc with q | q
    · have := hs c q
      omega
    · simp at q
      omega
  · have s := szA_sum (filt x ++ [46, 49]) 0
    have e2 : szA 0 (filt x ++ [46, 49]) = [nb x, 1] := e
    rw [e2] at s
    simp at s
    omega
theorem isP_far3 {x : List Nat} (h : IsP x) : IsP ([49, 46] ++ filt (x.take 20)) := by
  have hsg : Sg (x.take 20) := fun c hc => h.sg c (List.mem_of_mem_take hc)
  have hs := filt_sg hsg
  have e : szs ([49, 46] ++ filt (x.take 20)) = [1, (filt (x.take 20)).length] := by
    show szA 0 ([49] ++ 46 :: filt (x.take 20)) = _
    rw [szA_cut [49] _ _ (by simp), szA_plain _ _ hs, Nat.zero_add, Nat.zero_add]
    rfl
  have le : (filt (x.take 20)).length ≤ 20 := by
    unfold filt
    have := List.length_filter_le (fun c => c != 46) (x.take 20)
    have h2 : (x.take 20).length ≤ 20 := by rw [List.length_take]; omega
    omega
  have pos : 1 ≤ (filt (x.take 20)).length := by
    cases x with
    | nil => have := nb_pos h; simp [nb] at this
    | cons c r =>
      have hc : ¬ c = 46 := fun q => by
        have := h.one 0 (by
          unfold szs
          show 0 ∈ (if c = 46 then _ else _)
          rw [if_pos q]
          exact List.mem_cons_self)
        omega
      unfold filt
      rw [List.take_succ_cons, List.filter_cons_of_pos (by simpa using hc), List.length_cons]
      omega
  refine ⟨fun c hc => ?_, by rw [e]; intro n hn; simp at hn; omega, by rw [e]; simp, ?_⟩
  · rcases List.mem_append.mp hc with q | q
    · simp at q
      omega
    · have := hs c q
      omega
  · have s := szA_sum ([49, 46] ++ filt (x.take 20)) 0
    have e2 : szA 0 ([49, 46] ++ filt (x.take 20)) = [1, (filt (x.take 20)).length] := e
    rw [e2, List.sum_cons, List.sum_cons, List.sum_nil] at s
    omega
theorem isP_many : IsP (List.replicate 100 49) ∧ szs (List.replicate 100 49) = [100] := by
  have e : szs (List.replicate 100 49) = [100] := by decide +kernel
  refine ⟨⟨fun c hc => .inr (.inl (List.eq_of_mem_replicate hc)), by rw [e]; decide, by rw [e]; decide, by decide +kernel⟩, e⟩
theorem nb_of {x ss : List Nat} {M : Nat} (hz : szs x = ss) (h3 : ss.length ≤ 3) (h1 : ∀ s ∈ ss, s ≤ M) : nb x ≤ 3 * M := by
  have e := szA_sum x 0
  have e2 : szA 0 x = ss := hz
  rw [e2] at e
  have : ss.sum ≤ ss.length * M := by
    clear e e2 hz h3
    induction ss with
    | nil => simp
    | cons s ss ih =>
      have := ih fun x hx => h1 x (List.mem_cons_of_mem _ hx)
      have h2 := h1 s List.mem_cons_self
      rw [List.sum_cons, List.length_cons, Nat.succ_mul]
      omega
  have h5 : ss.length * M ≤ 3 * M := Nat.mul_le_mul_right _ h3
  omega
theorem cut20 (x : List Nat) : cutS (S x) none (some 20) = S (x.take 20) := by
  unfold cutS
  have e : (S x).cps.toList = x := rfl
  have e2 : (S x).length = x.length := SX.S_len x
  rw [e, e2]
  show S _ = S _
  congr 1
  show (x.drop 0).take (min 20 x.length - 0) = x.take 20
  rw [List.drop_zero, Nat.sub_zero]
  by_cases h : x.length ≤ 20
  · rw [List.take_of_length_le (show x.length ≤ min 20 x.length by omega), List.take_of_length_le h]
  · rw [show min 20 x.length = 20 by omega]
end Fb
set_option maxRecDepth 100000
set_option maxHeartbeats 4000000
namespace Fb
open PySem PySem.Spec PyProof.Rows L2
/-! [.. for x in a list for y in a tuple] -/
theorem pi_tupK {X : Cx} {tg l : Expr} {tl : TE} {K : PySem.W.Frag} (hK : X.K = K) (hl : PE X l tl) : PI X tg l (iTup K tl) := by
  subst hK
  exact pi_tup hl
section
variable {K : PySem.W.Frag} {a b D : Addr} {xs ys : List V} {σ : L2.St} {H1 : Hp} {te : TE} {vs vs1 : List Nat} {i1 j1 s1 : Nat} {Qd : Hp → Prop}
theorem lc2_names (Pv : Nat → Nat → Hp → Prop) (h0 : Pv 0 0 (upd H1 D (.lst []))) (hl : ∀ i j H, Pv i j H → SqL K H a xs ∧ SqT K H b ys)
    (hs1 : ∀ x, ((wipe σ vs).set i1 (some x))[s1]? = some (some (.ref b))) (hw : ∀ x, wipe ((wipe σ vs).set i1 (some x)) vs = wipe σ vs)
    (hw1 : ∀ x y, wipe ((wipe ((wipe σ vs).set i1 (some x)) vs1).set j1 (some y)) vs1 = wipe ((wipe σ vs).set i1 (some x)) vs1)
    (step : ∀ i j x y H, xs[i]? = some x → ys[j]? = some y → Pv i j H → te ((wipe ((wipe σ vs).set i1 (some x)) vs1).set j1 (some y)) H fun v H7 => ∃ acc, H7 D = some (.lst acc) ∧ acc.length < sizeLine ∧ Pv i (j + 1) (upd H7 D (.lst (acc ++ [v]))))
    (next : ∀ i H, i < xs.length → Pv i ys.length H → Pv (i + 1) 0 H) (hd : ∀ H, Pv xs.length 0 H → Qd H) :
    ∃ W : Nat → Nat → Hp → Prop, (∃ m, W 0 m (upd H1 D (.lst []))) ∧ ∀ i m H, W i m H →
      ((Itl K a).stop i H ∧ Qd H) ∨ ((Itl K a).go i H ∧ ∃ Nx : Hp → Prop, (∀ H', Nx H' → ∃ m', m' < m ∧ W (i + 1) m' H') ∧ ∀ x H', (Itl K a).yld i H x H' → gName i1 x (wipe σ vs) H' fun σ2 H2 => wipe σ2 vs = wipe σ vs ∧ tYes σ2 H2 fun bb H3 =>
        if bb = true then iTup K (tVar s1) σ2 H3 fun J1 H4 => ∃ W1 : Nat → Nat → Hp → Prop, (∃ m, W1 0 m H4) ∧ ∀ j k H, W1 j k H →
          (J1.stop j H ∧ Nx H) ∨ (J1.go j H ∧ ∃ Nx1 : Hp → Prop, (∀ H', Nx1 H' → ∃ k', k' < k ∧ W1 (j + 1) k' H') ∧ ∀ x H', J1.yld j H x H' → gName j1 x (wipe σ2 vs1) H' fun σ3 H5 => wipe σ3 vs1 = wipe σ2 vs1 ∧ tYes σ3 H5 fun bb H6 =>
            if bb = true then te σ3 H6 fun y H7 => ∃ acc, H7 D = some (.lst acc) ∧ acc.length < sizeLine ∧ Nx1 (upd H7 D (.lst (acc ++ [y]))) else Nx1 H6)
        else Nx H3) := by
  refine ⟨fun i m H => i + m = xs.length ∧ Pv i 0 H, ⟨xs.length, by omega, h0⟩, fun i m H ⟨hm, p⟩ => ?_⟩
  obtain ⟨q1, q2⟩ := hl i 0 H p
  by_cases lt : i < xs.length
  · have ex : xs[i]? = some xs[i] := List.getElem?_eq_getElem lt
    refine Or.inr ⟨⟨xs, xs[i], q1, ex⟩, Pv (i + 1) 0, fun H' p' => ⟨m - 1, by omega, by omega, p'⟩, ?_⟩
    rintro x H' ⟨eH, y⟩
    subst eH
    have e := y xs q1
    refine ⟨hw x, yes1 ?_⟩
    refine ⟨.ref b, hs1 x, b, rfl, ⟨ys, q2⟩, ?_⟩
    refine ⟨fun j k H => j + k = ys.length ∧ Pv i j H, ⟨ys.length, by omega, p⟩, fun j k H ⟨hk, p⟩ => ?_⟩
    obtain ⟨r1, r2⟩ := hl i j H p
    by_cases lt2 : j < ys.length
    · have ey : ys[j]? = some ys[j] := List.getElem?_eq_getElem lt2
      refine Or.inr ⟨⟨ys, ys[j], r2, ey⟩, Pv i (j + 1), fun H' p' => ⟨k - 1, by omega, by omega, p'⟩, ?_⟩
      rintro y2 H' ⟨eH, y'⟩
      subst eH
      have e2 := y' ys r2
      exact ⟨hw1 x y2, yes1 (step i j x y2 _ e e2 p)⟩
    · obtain rfl : j = ys.length := by omega
      exact Or.inl ⟨⟨ys, r2, Nat.le_refl _⟩, next i H lt p⟩
  · obtain rfl : i = xs.length := by omega
    exact Or.inl ⟨⟨xs, q1, Nat.le_refl _⟩, hd H p⟩
end
/-! a value's fault, as a pattern -/
theorem tyOf_same {K : PySem.W.Frag} {H H' : Hp} (s : Same H H') {x : V} {t : Value} (h : TyOf K H x t) : TyOf K H' x t := by
  cases h with
  | non => exact .non
  | bl x => exact .bl x
  | int i => exact .int i
  | str x => exact .str x
  | flt x => exact .flt x
  | lst e => exact .lst (s _ _ e)
  | frz e => exact .frz (s _ _ e)
  | tup e => exact .tup (s _ _ e)
  | dK e => exact .dK (s _ _ e)
  | dT e => exact .dT (s _ _ e)
  | ins e cl ha hn ht hm => exact .ins (s _ _ e) cl ha hn ht hm
theorem tyX_same {K : PySem.W.Frag} {H H' : Hp} (s : Same H H') {x : V} {t : Value} (h : TyX K H x t) : TyX K H' x t := by
  cases h with
  | base h => exact .base (tyOf_same s h)
  | byt b => exact .byt b
  | set e => exact .set (s _ _ e)
  | kList e c => exact .kList e c
  | kTuple e c => exact .kTuple e c
  | kDict e c => exact .kDict e c
  | fTuple e => exact .fTuple (s _ _ e)
  | fDict e => exact .fDict (s _ _ e)
end Fb
set_option maxRecDepth 100000
set_option maxHeartbeats 4000000
namespace Fb
open PySem PySem.Spec PyProof.Rows L2
/-! caught exceptions that are kept, with their fields; lambdas that are handed on -/
/-- at a: an exception of the class at C that was caught; its fields -/
def XR (H : Hp) (a C : Addr) (fs : List (Str × V)) : Prop := ∃ d, H a = some (ExR (.ref C) (some d) a) ∧ H d = some (.xd fs)
section
variable {X : Cx} {pins : List (Addr × Obj)} {σ : L2.St} {H : Hp} {s : Shared}
theorem XR.inst {a C : Addr} {fs : List (Str × V)} (I : Inv X pins σ H s) (h : XR H a C fs) : ∃ ox od, PySem.W.InstAt s.heap a ox C (some od) ∧ ∀ f, RelO (fs.lookup f) ((PySem.W.lookIn f od).getD none) ∧ ∃ r, PySem.W.lookIn f od = some r := by
  obtain ⟨d, h1, h2⟩ := h
  obtain ⟨⟨oe, vs, ho, z1, z2, z3⟩, _, _⟩ := I.hok a _ h1
  have hx : ObjOk X.prog X.w H s.heap d (.xd fs) := I.hok d _ h2
  obtain ⟨mA, hns, hr⟩ := hx
  obtain ⟨od, hod, hl⟩ := lookIn_ns hns
  refine ⟨oe, od, ⟨ho, z1, ?_, ?_⟩, fun f => ⟨?_, _, hl f⟩⟩
  · unfold PySem.W.notCls; rw [z3] <;> rfl
  · rw [z2]
    exact hod
  · rw [hl f]
    exact hr f
def rIsQ (K : PySem.W.Frag) : List V → Hp → VK → Prop := fun xs H Q => ∃ (a C : Addr) (fs : List (Str × V)) (c : V) (cv : Value) (b : Bool), xs = [.ref a, c] ∧ XC K C ∧ XB K ∧ XR H a C fs ∧ ClsV c cv ∧ PySem.W.kitOne K (.ref C) cv = some b ∧ Q (.bl b) H
theorem call_isQ : CallR X (.builtin "isinstance") (rIsQ X.K) := by
  intro pins s σ H xs us Q I r h
  obtain ⟨a, C, fs, c, cv, b, rfl, T, B, hE, k, e, q⟩ := h
  obtain ⟨u1, u2, rfl, r1, r2⟩ := vals2 r
  have e2 := k.eq r2
  subst e2
  cases (show u1 = Value.ref a from r1)
  obtain ⟨ox, od, J, _⟩ := hE.inst I
  exact PySem.W.kia_one (PySem.W.kitx_exc T.cl T.ga T.gg T.sb T.ca B.hn B.ht T.ob) I.kIn J e (fun z => nomatch z) fun tk => ⟨.bl b, H, I.tok tk, rfl, q⟩
/-- e.f, e such an exception -/
def tXar (K : PySem.W.Frag) (f : Str) (te : TE) : TE := fun σ H Q => te σ H fun x H1 => ∃ (a C : Addr) (fs : List (Str × V)) (v : V), x = .ref a ∧ XC K C ∧ PySem.W.findIn K (.ref C) f = some none ∧ XR H1 a C fs ∧ fs.lookup f = some v ∧ Q v H1
theorem pe_xar {e : Expr} {te : TE} {f : Str} {pos : Pos} (he : PE X e te) (hb : attributeBase e f X.env (eval e X.env) = eval e X.env := by rfl) : PE X (.Attribute e f pos) (tXar X.K f te) := by
  refine ⟨fun pins s σ H Q I h => ?_⟩
  refine attr_of hb (thn (he.run pins s σ H _ I h) fun u s1 hh => ?_)
  obtain ⟨x, H1, I1, rx, a, C, fs, v, ex, T, hno, hx, hl, q⟩ := hh
  subst ex
  obtain rfl : u = Value.ref a := rx
  obtain ⟨ox, od, J, hr⟩ := hx.inst I1
  obtain ⟨r1, r, e1⟩ := hr f
  rw [e1, hl] at r1
  obtain ⟨u, hu, ru⟩ := RelO.some_of (v := v) (o := r) r1
  exact HandSPX.exc_get I1.kIn J T.ga T.gg T.sb (PySem.W.findObj_own T.hd hno rfl (by rw [e1, hu])) (handed_of ru) ⟨v, H1, I1.tok _, ru, q⟩
end
/-- behind a statement the slots are as many as before -/
theorem pss_len {X : Cx} {sts : List Stmt} {t : TS} (h : PSs X sts t) : PSs X sts (fun D σ H => σ.length = X.N.length → t D σ H) :=
  ⟨fun pins s σ H D I q => h.run pins s σ H D I (q I.len)⟩
/-- a def by its body, its code object named -/
theorem okC {P : Program} {w : World} {K : PySem.W.Frag} {mg : Str → Option Value} {base : Heap} {x qual : Str} {st : Stmt} {f c : Addr} {oc : Value} {od an : Option Addr} {osl : Array (Option Value)} {kV doc pm ct : Value} {N ps : List Str} {k : Nat} {sp : Sp}
    (lk : K.lookup f = some ⟨oc, od, .func (PySem.W.fnOf x qual (defArgs st) (defBody st) (defScope st) .none kV doc pm an (.ref c) ct), osl⟩) (hcd : PySem.W.codeIn K (.ref c) qual = true) (S : FnScope N ps (defScope st))
    (len : ∀ {vs H Q E}, sp vs H Q E → vs.length = ps.length)
    (body : ∀ {A : Around} {outer : List Env} {s : Shared} {H : Hp} {vs : List V} {Q : VK} {E : XK}, Room k (A.deeper (envOfC qual (defScope st) s.heap.objs.size f (.ref c))) → sp vs H Q E →
      ∃ t, PSs (cxOf CX0 P w K mg base N qual (defScope st) f (.ref c) A outer s H E).nox (defBody st) t ∧ t { nx := fun _ H' => Q .non H', rt := Q } (start N vs) H) :
    FnOk P w K mg base CX0 (k + 1) f (PySem.W.fnOf x qual (defArgs st) (defBody st) (defScope st) .none kV doc pm an (.ref c) ct) ps sp := by
  refine fn_of lk hcd S (fun _ _ _ _ h => len h) fun A outer s H vs Q E hr h => ?_
  obtain ⟨t, h1, h2⟩ := body (outer := outer) hr h
  exact ⟨t, h1.nox, h2⟩
/-! what stays when tables grow -/
theorem ExtN.pen {H H' : Hp} {p l : Addr} {n : Nat} (e : LamX.ExtN H H') (h : PenL H p l n) : PenL H' p l n := by
  obtain ⟨cs, a, r, f, h1, h2, h3⟩ := h
  exact ⟨cs, a, r, f, e _ _ h1 (fun ps q => nomatch q), e _ _ h2 (fun ps q => nomatch q), h3⟩
end Fb
set_option maxRecDepth 100000
set_option maxHeartbeats 4000000
namespace Fb
open PySem PySem.Spec PyProof.Rows L2
/-! max and min of two texts -/
section
variable {prog : Program} {w : World} {A : Around}
theorem strs_gt {P : Nat → Value → Prop} (val : Nat → Str) (hval : ∀ i v, P i v → ∃ t, v = .str (val i) t) :
    CmpOf prog w A .Gt P (fun i j => decide ((val j).cps.toList < (val i).cps.toList)) := fun i j vi vj s Q E hi hj h => by
  obtain ⟨t, rfl⟩ := hval i vi hi
  obtain ⟨u, rfl⟩ := hval j vj hj
  have q := PySem.P.gt_str (x := val i) (y := val j) (t := t) (u := u) (A := A) (E := E) (prog := prog) (w := w) (s := s) (Q := Q) h
  unfold compareOp at q
  exact q
theorem strs_lt {P : Nat → Value → Prop} (val : Nat → Str) (hval : ∀ i v, P i v → ∃ t, v = .str (val i) t) :
    CmpOf prog w A .Lt P (fun i j => decide ((val i).cps.toList < (val j).cps.toList)) := fun i j vi vj s Q E hi hj h => by
  obtain ⟨t, rfl⟩ := hval i vi hi
  obtain ⟨u, rfl⟩ := hval j vj hj
  have q := PySem.P.lt_str (x := val i) (y := val j) (t := t) (u := u) (A := A) (E := E) (prog := prog) (w := w) (s := s) (Q := Q) h
  unfold compareOp at q
  exact q
variable {E : Value → Shared → Prop} {s : Shared}
def two (a b : Str) (i : Nat) : Str := if i = 0 then a else b
theorem two_at {a b : Str} {t u : Tok} (i : Nat) (v : Value) (h : (#[Value.str a t, Value.str b u])[i]? = some v) : ∃ t, v = .str (two a b i) t := by
  match i, h with
  | 0, h => exact ⟨t, by simpa [two] using h.symm⟩
  | 1, h => exact ⟨u, by simpa [two] using h.symm⟩
  | i + 2, h => simp at h
theorem two_walk {a b : Str} {t u : Tok} {h' : Heap} (hsz : (s.heap.push { cls := .type "tuple", data := .seq #[.str a t, .str b u] }).objs.size = s.heap.objs.size + 1)
    (hk : ∀ c o, c ∉ [s.heap.objs.size + 1] → ((s.heap.push { cls := .type "tuple", data := .seq #[.str a t, .str b u] }).push { cls := .type "tuple_iterator", data := .fields #[.ref s.heap.objs.size, .int 0 0] }).get? c = some o → h'.get? c = some o) :
    ∀ c o, s.heap.get? c = some o → h'.get? c = some o := fun c o e => by
  refine hk c o (fun hm => ?_) (Heap.get?_push_of_some _ (Heap.get?_push_of_some _ e))
  rcases List.mem_cons.mp hm with e1 | hm
  · have := Heap.lt_size e; rw [e1] at this; exact Nat.lt_irrefl _ (Nat.lt_of_succ_lt this)
  · cases hm
theorem max_two_strs {a b : Str} {t u : Tok} {Q : Value → Shared → Prop} (hh : A.handled = none)
    (h : ∀ h' tk, (∀ c o, s.heap.get? c = some o → h'.get? c = some o) → Q (if a.cps.toList < b.cps.toList then .str b u else .str a t) { s with heap := h', toks := tk }) :
    wpAny (model prog w) A (call (.builtin "max") [.str a t, .str b u]) Q E s := by
  have hT : (s.heap.push { cls := .type "tuple", data := .seq #[.str a t, .str b u] }).IsTuple s.heap.objs.size #[.str a t, .str b u] := ⟨_, Heap.get?_push_size _ rfl, rfl, 0, rfl⟩
  refine call_max_two (wpAny_pyIter_tuple hT ?_)
  have hsz : (s.heap.push { cls := .type "tuple", data := .seq #[.str a t, .str b u] }).objs.size = s.heap.objs.size + 1 := Heap.size_push ..
  refine ⟨_, [_, s.heap.objs.size], [_], _, _, _, _, rfl, Walks.tuple (A := A.in1) hh _ s.heap.objs.size (by rw [hsz]; exact Nat.ne_of_lt (Nat.lt_succ_self _)) #[.str a t, .str b u],
    ⟨⟨_, Heap.get?_push_size _ rfl, rfl, rfl⟩, hT.push _⟩, fun c hc => ?_, by simp, strs_gt (two a b) two_at, fun v h' tk hP hk => ?_⟩
  · show c < ((s.heap.push _).push _).objs.size
    rw [Heap.size_push, hsz]
    rcases List.mem_cons.mp hc with rfl | hc
    · rw [hsz]; exact Nat.lt_succ_self _
    · rcases List.mem_cons.mp hc with rfl | hc
      · exact Nat.lt_succ_of_lt (Nat.lt_succ_self _)
      · cases hc
  · have hold : ∀ c o, s.heap.get? c = some o → h'.get? c = some o := fun c o e => by
      refine hk c o (fun hm => ?_) (Heap.get?_push_of_some _ (Heap.get?_push_of_some _ e))
      rcases List.mem_cons.mp hm with e1 | hm
      · have := Heap.lt_size e; rw [e1, hsz] at this; exact Nat.lt_irrefl _ (Nat.lt_of_succ_lt this)
      · cases hm
    have := h h' tk hold
    have hv : v = if a.cps.toList < b.cps.toList then Value.str b u else Value.str a t := by
      have hP' : (#[Value.str a t, Value.str b u])[argBest (fun i j => decide ((two a b j).cps.toList < (two a b i).cps.toList)) 1]? = some v := hP
      by_cases hba : a.cps.toList < b.cps.toList
      · have e : argBest (fun i j => decide ((two a b j).cps.toList < (two a b i).cps.toList)) 1 = 1 := by simp [argBest, two, hba]
        rw [e] at hP'
        simpa [hba] using hP'.symm
      · have e : argBest (fun i j => decide ((two a b j).cps.toList < (two a b i).cps.toList)) 1 = 0 := by simp [argBest, two, hba]
        rw [e] at hP'
        simpa [hba] using hP'.symm
    rw [hv]; exact this
theorem min_two_strs {a b : Str} {t u : Tok} {Q : Value → Shared → Prop} (hh : A.handled = none)
    (h : ∀ h' tk, (∀ c o, s.heap.get? c = some o → h'.get? c = some o) → Q (if b.cps.toList < a.cps.toList then .str b u else .str a t) { s with heap := h', toks := tk }) :
    wpAny (model prog w) A (call (.builtin "min") [.str a t, .str b u]) Q E s := by
  have hT : (s.heap.push { cls := .type "tuple", data := .seq #[.str a t, .str b u] }).IsTuple s.heap.objs.size #[.str a t, .str b u] := ⟨_, Heap.get?_push_size _ rfl, rfl, 0, rfl⟩
  refine call_min_two (wpAny_pyIter_tuple hT ?_)
  have hsz : (s.heap.push { cls := .type "tuple", data := .seq #[.str a t, .str b u] }).objs.size = s.heap.objs.size + 1 := Heap.size_push ..
  refine ⟨_, [_, s.heap.objs.size], [_], _, _, _, _, rfl, Walks.tuple (A := A.in1) hh _ s.heap.objs.size (by rw [hsz]; exact Nat.ne_of_lt (Nat.lt_succ_self _)) #[.str a t, .str b u],
    ⟨⟨_, Heap.get?_push_size _ rfl, rfl, rfl⟩, hT.push _⟩, fun c hc => ?_, by simp, strs_lt (two a b) two_at, fun v h' tk hP hk => ?_⟩
  · show c < ((s.heap.push _).push _).objs.size
    rw [Heap.size_push, hsz]
    rcases List.mem_cons.mp hc with rfl | hc
    · rw [hsz]; exact Nat.lt_succ_self _
    · rcases List.mem_cons.mp hc with rfl | hc
      · exact Nat.lt_succ_of_lt (Nat.lt_succ_self _)
      · cases hc
  · have hold : ∀ c o, s.heap.get? c = some o → h'.get? c = some o := fun c o e => by
      refine hk c o (fun hm => ?_) (Heap.get?_push_of_some _ (Heap.get?_push_of_some _ e))
      rcases List.mem_cons.mp hm with e1 | hm
      · have := Heap.lt_size e; rw [e1, hsz] at this; exact Nat.lt_irrefl _ (Nat.lt_of_succ_lt this)
      · cases hm
    have := h h' tk hold
    have hv : v = if b.cps.toList < a.cps.toList then Value.str b u else Value.str a t := by
      have hP' : (#[Value.str a t, Value.str b u])[argBest (fun i j => decide ((two a b i).cps.toList < (two a b j).cps.toList)) 1]? = some v := hP
      by_cases hba : b.cps.toList < a.cps.toList
      · have e : argBest (fun i j => decide ((two a b i).cps.toList < (two a b j).cps.toList)) 1 = 1 := by simp [argBest, two, hba]
        rw [e] at hP'
        simpa [hba] using hP'.symm
      · have e : argBest (fun i j => decide ((two a b i).cps.toList < (two a b j).cps.toList)) 1 = 0 := by simp [argBest, two, hba]
        rw [e] at hP'
        simpa [hba] using hP'.symm
    rw [hv]; exact this
end
section
variable {X : Cx}
theorem call_maxS (hc : X.calm = true) : CallR X (.builtin "max") (fun xs H Q => ∃ i j : Str, xs = [.str i, .str j] ∧ Q (.str (if i.cps.toList < j.cps.toList then j else i)) H) := by
  intro pins s σ H xs us Q I r h
  obtain ⟨i, j, rfl, q⟩ := h
  obtain ⟨u, w', rfl, ⟨t, rfl⟩, ⟨t', rfl⟩⟩ := vals2 r
  refine max_two_strs (I.ok.hd hc) fun h' tk k => ⟨_, H, I.kept k, ?_, q⟩
  by_cases hj : i.cps.toList < j.cps.toList
  · rw [if_pos hj, if_pos hj]; exact ⟨_, rfl⟩
  · rw [if_neg hj, if_neg hj]; exact ⟨_, rfl⟩
theorem call_minS (hc : X.calm = true) : CallR X (.builtin "min") (fun xs H Q => ∃ i j : Str, xs = [.str i, .str j] ∧ Q (.str (if j.cps.toList < i.cps.toList then j else i)) H) := by
  intro pins s σ H xs us Q I r h
  obtain ⟨i, j, rfl, q⟩ := h
  obtain ⟨u, w', rfl, ⟨t, rfl⟩, ⟨t', rfl⟩⟩ := vals2 r
  refine min_two_strs (I.ok.hd hc) fun h' tk k => ⟨_, H, I.kept k, ?_, q⟩
  by_cases hj : j.cps.toList < i.cps.toList
  · rw [if_pos hj, if_pos hj]; exact ⟨_, rfl⟩
  · rw [if_neg hj, if_neg hj]; exact ⟨_, rfl⟩
end
/-! a sign, so often -/
theorem fold_sign (c : Nat) : ∀ (k : Nat) (acc : Array Nat), (List.replicate k (#[c] : Array Nat)).foldl (· ++ ·) acc = acc ++ (List.replicate k c).toArray
  | 0, acc => by simp
  | k + 1, acc => by
    rw [List.replicate_succ, List.foldl_cons, fold_sign c k, List.replicate_succ]
    apply Array.toList_inj.mp
    simp
theorem op_repS {X : Cx} : OpR X (binaryOp .Mult) (fun x y H Q => ∃ (c k : Nat), x = .str (SX.S [c]) ∧ y = .int (k : Nat) ∧ k ≤ 100000 ∧ Q (.str (SX.S (List.replicate k c))) H) := by
  intro pins s σ H x y v u Q I rx ry h
  obtain ⟨c, k, rfl, rfl, hk, q⟩ := h
  obtain ⟨t, rfl⟩ := rx
  obtain ⟨t', rfl⟩ := ry
  have l1 : (SX.S [c]).length = 1 := rfl
  refine PySem.P.mul_str ?_ ?_ ?_ ?_
  · rw [decide_eq_false (by omega), decide_eq_false (by omega)] <;> rfl
  · intro h1 h2
    rw [l1]
    have hk1 : 1 ≤ k := by omega
    intro h3
    have h5 : (1 : Int) ≤ (2 ^ 63 - 1) / (k : Int) := Int.le_ediv_of_mul_le (by omega) (by omega)
    omega
  · intro _ _
    rw [l1]
    exact decide_eq_false (by show ¬ (1 * ((k : Int)).toNat > sizeLine); rw [sizeLine_eq, show ((k : Int)).toNat = k from rfl]; omega)
  · by_cases h0 : (k : Int) < 1
    · rw [if_pos h0]
      have e : k = 0 := by omega
      subst e
      exact ⟨by decide, .str _, H, I.tok _, ⟨_, rfl⟩, q⟩
    · rw [if_neg h0]
      by_cases h1 : k = 1
      · subst h1
        rw [if_pos (by rfl)]
        exact ⟨.str _, H, I, ⟨_, rfl⟩, q⟩
      · have e1 : (((k : Int) == 1) || (SX.S [c]).length == 0) = false := by
          rw [l1]
          simp
          omega
        rw [if_neg (by rw [e1]; exact Bool.false_ne_true)]
        have e2 : (List.replicate ((k : Int)).toNat (SX.S [c]).cps).foldl (· ++ ·) #[] = (List.replicate k c).toArray := by
          have := fold_sign c k #[]
          rw [show ((k : Int)).toNat = k from rfl]
          show (List.replicate k (#[c] : Array Nat)).foldl (· ++ ·) #[] = _
          rw [this]
          simp
        rw [e2]
        refine ⟨?_, .str _, H, I.tok _, ⟨_, rfl⟩, q⟩
        show (SX.S (List.replicate k c)).length ≤ sizeLine
        rw [SX.S_len, List.length_replicate, sizeLine_eq]
        omega
end Fb
set_option maxRecDepth 100000
set_option maxHeartbeats 4000000
namespace Fb
open PySem PySem.Spec PyProof.Rows L2
open SX (S)
/-! the bits of a pattern, and where they stand -/
/-- signs without the dots -/
abbrev bt (l : List Nat) : List Nat := l.filter (fun c => c != 46)
def plc (l : List Nat) : List Nat := (List.range l.length).filter (fun i => l.getD i 0 != 46)
theorem plc_nil : plc [] = [] := rfl
theorem plc_dot (l : List Nat) : plc (46 :: l) = (plc l).map (· + 1) := by
  unfold plc
  rw [List.length_cons, List.range_succ_eq_map, List.filter_cons_of_neg (by simp), List.filter_map]
  rfl
theorem plc_bit {c : Nat} (l : List Nat) (h : c ≠ 46) : plc (c :: l) = 0 :: (plc l).map (· + 1) := by
  unfold plc
  rw [List.length_cons, List.range_succ_eq_map, List.filter_cons_of_pos (by simpa using h), List.filter_map]
  rfl
theorem plc_len : ∀ l : List Nat, (plc l).length = (bt l).length
  | [] => rfl
  | c :: l => by
    by_cases h : c = 46
    · subst h
      rw [plc_dot, List.length_map, plc_len l]
      simp
    · rw [plc_bit l h, List.length_cons, List.length_map, plc_len l]
      simp [h]
theorem plc_lt {l : List Nat} {i : Nat} (h : i ∈ plc l) : i < l.length := by
  unfold plc at h
  exact List.mem_range.mp (List.mem_filter.mp h).1
theorem plc_set : ∀ {l : List Nat} {b x : Nat}, x ≠ 46 → b < (bt l).length →
    bt (l.set ((plc l).getD b 0) x) = (bt l).set b x ∧ plc (l.set ((plc l).getD b 0) x) = plc l ∧ (∀ n, szA n (l.set ((plc l).getD b 0) x) = szA n l)
  | [], b, x, _, h => by simp at h
  | c :: l, b, x, hx, h => by
    by_cases e : c = 46
    · subst e
      have hb : b < (bt l).length := by simpa using h
      obtain ⟨h1, h2, h3⟩ := plc_set (l := l) hx hb
      have hb2 : b < (plc l).length := by rw [plc_len]; exact hb
      have g : (plc (46 :: l)).getD b 0 = (plc l).getD b 0 + 1 := by
        rw [plc_dot, List.getD_eq_getElem?_getD, List.getElem?_map, List.getElem?_eq_getElem hb2, List.getD_eq_getElem?_getD, List.getElem?_eq_getElem hb2]
        rfl
      rw [g, List.set_cons_succ]
      refine ⟨?_, ?_, fun n => ?_⟩
      · have : bt (46 :: l.set ((plc l).getD b 0) x) = bt (l.set ((plc l).getD b 0) x) := by simp
        rw [this, h1]
        simp
      · rw [plc_dot, plc_dot, h2]
      · show n :: szA 0 _ = n :: szA 0 _
        rw [h3]
    · cases b with
      | zero =>
        have g : (plc (c :: l)).getD 0 0 = 0 := by rw [plc_bit l e] <;> rfl
        rw [g, List.set_cons_zero]
        refine ⟨by simp [e, hx], by rw [plc_bit l e, plc_bit l hx], fun n => ?_⟩
        show (if x = 46 then _ else szA (n + 1) l) = (if c = 46 then _ else szA (n + 1) l)
        rw [if_neg hx, if_neg e]
      | succ b =>
        have hb : b < (bt l).length := by
          have : (bt (c :: l)).length = (bt l).length + 1 := by simp [e]
          omega
        obtain ⟨h1, h2, h3⟩ := plc_set (l := l) hx hb
        have hb2 : b < (plc l).length := by rw [plc_len]; exact hb
        have g : (plc (c :: l)).getD (b + 1) 0 = (plc l).getD b 0 + 1 := by
          rw [plc_bit l e, List.getD_eq_getElem?_getD, List.getElem?_cons_succ, List.getElem?_map, List.getElem?_eq_getElem hb2, List.getD_eq_getElem?_getD, List.getElem?_eq_getElem hb2]
          rfl
        rw [g, List.set_cons_succ]
        refine ⟨?_, ?_, fun n => ?_⟩
        · have e1 : bt (c :: l.set ((plc l).getD b 0) x) = c :: bt (l.set ((plc l).getD b 0) x) := by simp [e]
          have e2 : bt (c :: l) = c :: bt l := by simp [e]
          rw [e1, h1, e2, List.set_cons_succ]
        · rw [plc_bit _ e, plc_bit _ e, h2]
        · show (if c = 46 then _ else szA (n + 1) _) = (if c = 46 then _ else szA (n + 1) l)
          rw [if_neg e, if_neg e, h3]
theorem sg_set {l : List Nat} {i x : Nat} (h : Sg l) (hx : x = 48 ∨ x = 49 ∨ x = 46) : Sg (l.set i x) := fun c hc => by
  rcases List.mem_or_eq_of_mem_set hc with q | q
  · exact h c q
  · rw [q]; exact hx
/-- bits set to x, one behind the other -/
def fl (x : Nat) (l bs : List Nat) : List Nat := bs.foldl (fun m b => m.set ((plc l).getD b 0) x) l
def flB (x : Nat) (b bs : List Nat) : List Nat := bs.foldl (fun m i => m.set i x) b
theorem flB_len (x : Nat) : ∀ (bs b : List Nat), (flB x b bs).length = b.length
  | [], b => rfl
  | i :: bs, b => by
    show (flB x (b.set i x) bs).length = _
    rw [flB_len x bs, List.length_set]
theorem fl_go {x : Nat} (hx : x = 48 ∨ x = 49) : ∀ {bs m p : List Nat}, plc m = p → (∀ b ∈ bs, b < (bt m).length) →
    bt (bs.foldl (fun m b => m.set (p.getD b 0) x) m) = flB x (bt m) bs ∧ szs (bs.foldl (fun m b => m.set (p.getD b 0) x) m) = szs m ∧ (Sg m → Sg (bs.foldl (fun m b => m.set (p.getD b 0) x) m))
      ∧ (bs.foldl (fun m b => m.set (p.getD b 0) x) m).length = m.length
  | [], m, p, _, _ => ⟨rfl, rfl, fun h => h, rfl⟩
  | b :: bs, m, p, hp, h => by
    subst hp
    have x46 : x ≠ 46 := by omega
    obtain ⟨h1, h2, h3⟩ := plc_set (l := m) (b := b) x46 (h b List.mem_cons_self)
    have hb : ∀ c ∈ bs, c < (bt (m.set ((plc m).getD b 0) x)).length := fun c hc => by
      rw [h1, List.length_set]
      exact h c (List.mem_cons_of_mem _ hc)
    obtain ⟨g1, g2, g3, g4⟩ := fl_go hx (bs := bs) h2 hb
    rw [List.foldl_cons]
    refine ⟨?_, ?_, fun q => g3 (sg_set q (by omega)), by rw [g4, List.length_set]⟩
    · rw [g1, h1]
      rfl
    · rw [g2]
      exact h3 0
theorem fl_ok {x : Nat} {l bs : List Nat} (hx : x = 48 ∨ x = 49) (h : ∀ b ∈ bs, b < (bt l).length) : bt (fl x l bs) = flB x (bt l) bs ∧ szs (fl x l bs) = szs l ∧ (Sg l → Sg (fl x l bs)) ∧ (fl x l bs).length = l.length := fl_go hx rfl h
/-! a pattern by its sizes and its bits -/
def cut : List Nat → List Nat → List (List Nat)
  | [], _ => []
  | s :: ss, b => b.take s :: cut ss (b.drop s)
def jn (ss b : List Nat) : List Nat := TL.joinL [46] (cut ss b)
theorem cut_len : ∀ (ss b : List Nat), (cut ss b).length = ss.length
  | [], b => rfl
  | s :: ss, b => by
    show (cut ss _).length + 1 = _
    rw [cut_len ss]
    rfl
theorem cut_lens : ∀ {ss b : List Nat}, ss.sum ≤ b.length → (cut ss b).map List.length = ss
  | [], b, _ => rfl
  | s :: ss, b, h => by
    rw [List.sum_cons] at h
    show (b.take s).length :: (cut ss (b.drop s)).map List.length = _
    rw [cut_lens (by rw [List.length_drop]; omega), List.length_take]
    congr 1
    omega
theorem cut_mem : ∀ {ss b p : List Nat} {c : Nat}, p ∈ cut ss b → c ∈ p → c ∈ b
  | [], b, p, c, h, _ => by simp [cut] at h
  | s :: ss, b, p, c, h, hc => by
    rcases List.mem_cons.mp h with q | q
    · subst q
      exact List.mem_of_mem_take hc
    · exact List.mem_of_mem_drop (cut_mem q hc)
theorem cut_flat : ∀ {ss b : List Nat}, ss.sum = b.length → (cut ss b).flatten = b
  | [], b, h => by
    have : b = [] := List.length_eq_zero_iff.mp (by simpa using h.symm)
    rw [this]
    rfl
  | s :: ss, b, h => by
    rw [List.sum_cons] at h
    show (b.take s ++ (cut ss (b.drop s)).flatten) = b
    rw [cut_flat (by rw [List.length_drop]; omega), List.take_append_drop]
theorem bt_plain : ∀ {b : List Nat}, (∀ c ∈ b, c = 48 ∨ c = 49) → bt b = b := fun {b} h =>
  List.filter_eq_self.mpr fun c hc => by
    have := h c hc
    simp
    omega
theorem bt_join : ∀ {bs : List (List Nat)}, (∀ b ∈ bs, ∀ c ∈ b, c = 48 ∨ c = 49) → bt (TL.joinL [46] bs) = bs.flatten
  | [], _ => rfl
  | [b], h => by
    show bt b = [b].flatten
    rw [bt_plain (h b List.mem_cons_self)]
    simp
  | b :: d :: r, h => by
    have ih := bt_join (bs := d :: r) fun x hx => h x (List.mem_cons_of_mem _ hx)
    have e : TL.joinL [46] (b :: d :: r) = b ++ ([46] ++ TL.joinL [46] (d :: r)) := rfl
    rw [e, List.flatten_cons, ← ih]
    show List.filter _ (b ++ ([46] ++ _)) = _
    rw [List.filter_append, List.filter_append]
    have q := bt_plain (h b List.mem_cons_self)
    show bt b ++ ([] ++ _) = _
    rw [q]
    rfl
def Bits (b : List Nat) : Prop := ∀ c ∈ b, c = 48 ∨ c = 49
theorem Bits.bt {l : List Nat} (h : Sg l) : Bits (Fb.bt l) := fun c hc => by
  have h1 := List.mem_filter.mp hc
  have h2 := h c h1.1
  have h3 : ¬ c = 46 := by simpa using h1.2
  omega
theorem jn_sg {ss b : List Nat} (h : Bits b) : Sg (jn ss b) := sg_join fun p hp c hc => h c (cut_mem hp hc)
theorem jn_sz {ss b : List Nat} (h : Bits b) (hs : ss.sum ≤ b.length) (ne : ss ≠ []) : szs (jn ss b) = ss := by
  unfold jn
  rw [szs_join (fun e => ne (by have := congrArg List.length e; rw [cut_len] at this; exact List.length_eq_zero_iff.mp this)) (fun p hp c hc => h c (cut_mem hp hc)), cut_lens hs]
theorem jn_bt {ss b : List Nat} (h : Bits b) (hs : ss.sum = b.length) : bt (jn ss b) = b := by
  unfold jn
  rw [bt_join (fun p hp c hc => h c (cut_mem hp hc)), cut_flat hs]
theorem jn_go : ∀ (l : List Nat) (n : Nat) (pre : List Nat), pre.length = n → jn (szA n l) (pre ++ bt l) = pre ++ l
  | [], n, pre, h => by
    show TL.joinL [46] [(pre ++ []).take n] = pre ++ []
    rw [List.append_nil, ← h, List.take_length]
    rfl
  | c :: l, n, pre, h => by
    by_cases e : c = 46
    · subst e
      have ih := jn_go l 0 [] rfl
      have es : szA n (46 :: l) = n :: szA 0 l := rfl
      have eb : bt (46 :: l) = bt l := by simp
      rw [es, eb]
      unfold jn at *
      show TL.joinL [46] ((pre ++ bt l).take n :: cut (szA 0 l) ((pre ++ bt l).drop n)) = _
      rw [← h, List.take_left', List.drop_left']
      · rw [List.nil_append] at ih
        cases q : cut (szA 0 l) (bt l) with
        | nil =>
          have h1 := congrArg List.length q
          rw [cut_len] at h1
          have h2 := (szA_len l 0).1
          simp at h1
          rw [h1] at h2
          simp at h2
        | cons d r =>
          rw [q] at ih
          have e2 : TL.joinL [46] (pre :: d :: r) = pre ++ ([46] ++ TL.joinL [46] (d :: r)) := rfl
          rw [e2, ih]
          rfl
      · rfl
      · rfl
    · have ih := jn_go l (n + 1) (pre ++ [c]) (by rw [List.length_append, h] <;> rfl)
      have es : szA n (c :: l) = szA (n + 1) l := by
        show (if c = 46 then _ else _) = _
        rw [if_neg e]
      have eb : bt (c :: l) = c :: bt l := by simp [e]
      rw [es, eb]
      rw [List.append_assoc, List.append_assoc] at ih
      exact ih
theorem jn_of (l : List Nat) : jn (szs l) (bt l) = l := by
  have h := jn_go l 0 [] rfl
  exact h
/-- two patterns of the same sizes and bits are the same -/
theorem pat_ext {l m : List Nat} (h1 : szs l = szs m) (h2 : bt l = bt m) : l = m := by
  rw [← jn_of l, ← jn_of m, h1, h2]
theorem IsP.bits {l : List Nat} (h : IsP l) : Bits (bt l) := Bits.bt h.sg
theorem bt_sum (l : List Nat) : (bt l).length = (szs l).sum := by
  have h := szA_sum l 0
  rw [Nat.zero_add] at h
  exact h.symm
theorem isP_jn {l b : List Nat} (h : IsP l) (hb : Bits b) (hl : b.length = (bt l).length) : IsP (jn (szs l) b) ∧ szs (jn (szs l) b) = szs l ∧ bt (jn (szs l) b) = b := by
  have e := bt_sum l
  have ne : szs l ≠ [] := fun q => by
    have h2 := (szA_len l 0).1
    unfold szs at q
    rw [q] at h2
    simp at h2
  have z := jn_sz (ss := szs l) hb (by omega) ne
  have t := jn_bt (ss := szs l) hb (by omega)
  refine ⟨⟨jn_sg hb, by rw [z]; exact h.one, by rw [z]; exact h.few, ?_⟩, z, t⟩
  show (bt (jn (szs l) b)).length ≤ 120
  rw [t, hl]
  exact h.sum
theorem isP_fl {l bs : List Nat} {x : Nat} (h : IsP l) (hx : x = 48 ∨ x = 49) (hb : ∀ b ∈ bs, b < (bt l).length) : IsP (fl x l bs) ∧ szs (fl x l bs) = szs l ∧ bt (fl x l bs) = flB x (bt l) bs := by
  obtain ⟨h1, h2, h3, h4⟩ := fl_ok (l := l) hx hb
  refine ⟨⟨h3 h.sg, by rw [h2]; exact h.one, by rw [h2]; exact h.few, ?_⟩, h2, h1⟩
  show (bt _).length ≤ 120
  rw [h1, flB_len]
  exact h.sum
theorem flB_bits {x : Nat} (hx : x = 48 ∨ x = 49) : ∀ {bs b : List Nat}, Bits b → Bits (flB x b bs)
  | [], b, h => h
  | i :: bs, b, h => flB_bits hx (bs := bs) (b := b.set i x) fun c hc => by
    rcases List.mem_or_eq_of_mem_set hc with q | q
    · exact h c q
    · rw [q]; exact hx
theorem le_sum : ∀ {l : List Nat} {n : Nat}, n ∈ l → n ≤ l.sum
  | [], n, h => by simp at h
  | a :: l, n, h => by
    rw [List.sum_cons]
    rcases List.mem_cons.mp h with q | q
    · omega
    · have := le_sum q
      omega
/-! a block set -/
def upB (x f s : Nat) (b : List Nat) : List Nat := b.take f ++ List.replicate s x ++ b.drop (f + s)
theorem upB_go {x f : Nat} {b : List Nat} : ∀ s, f + s ≤ b.length → (List.range s).foldl (fun m j => m.set (f + j) x) b = upB x f s b
  | 0, h => by
    unfold upB
    simp
  | s + 1, h => by
    rw [List.range_succ, List.foldl_append, upB_go s (by omega), List.foldl_cons, List.foldl_nil]
    unfold upB
    have e : b.drop (f + s) = b[f + s]'(by omega) :: b.drop (f + s + 1) := List.drop_eq_getElem_cons (by omega)
    have l1 : (b.take f ++ List.replicate s x).length = f + s := by
      rw [List.length_append, List.length_take, List.length_replicate]
      omega
    rw [List.set_append_right _ _ (by omega), l1, Nat.sub_self, e, List.set_cons_zero, List.replicate_succ', ← Nat.add_assoc]
    simp
theorem upB_len {x f s : Nat} {b : List Nat} (h : f + s ≤ b.length) : (upB x f s b).length = b.length := by
  unfold upB
  rw [List.length_append, List.length_append, List.length_take, List.length_replicate, List.length_drop]
  omega
theorem upB_bits {x f s : Nat} {b : List Nat} (hx : x = 48 ∨ x = 49) (h : Bits b) : Bits (upB x f s b) := fun c hc => by
  unfold upB at hc
  rcases List.mem_append.mp hc with q | q
  · rcases List.mem_append.mp q with r | r
    · exact h c (List.mem_of_mem_take r)
    · rw [(List.mem_replicate.mp r).2]; exact hx
  · exact h c (List.mem_of_mem_drop q)
theorem cut_set {x : Nat} : ∀ {ss : List Nat} {b : List Nat} {k s : Nat}, ss[k]? = some s → ss.sum ≤ b.length → (cut ss b).set k (List.replicate s x) = cut ss (upB x (ss.take k).sum s b)
  | [], b, k, s, h, _ => by simp at h
  | t :: ss, b, 0, s, h, hl => by
    rw [List.sum_cons] at hl
    have e : t = s := by simpa using h
    subst e
    show List.replicate t x :: cut ss (b.drop t) = (upB x 0 t b).take t :: cut ss ((upB x 0 t b).drop t)
    unfold upB
    rw [List.take_zero, List.nil_append, Nat.zero_add, List.take_left' (by simp), List.drop_left' (by simp)]
  | t :: ss, b, k + 1, s, h, hl => by
    rw [List.sum_cons] at hl
    have h' : ss[k]? = some s := by simpa using h
    have ih := cut_set (x := x) (b := b.drop t) h' (by rw [List.length_drop]; omega)
    have hk : (ss.take k).sum + s ≤ ss.sum := by
      have e := List.take_append_drop k ss
      have e2 : ss.drop k = s :: ss.drop (k + 1) := by
        have hk := (List.getElem?_eq_some_iff.mp h').1
        rw [List.drop_eq_getElem_cons hk]
        congr 1
        exact (List.getElem?_eq_some_iff.mp h').2
      have e3 := congrArg List.sum e
      rw [List.sum_append, e2, List.sum_cons] at e3
      omega
    show b.take t :: (cut ss (b.drop t)).set k _ = (upB x (t + (ss.take k).sum) s b).take t :: cut ss ((upB x (t + (ss.take k).sum) s b).drop t)
    rw [ih]
    have lt : (b.take t).length = t := by rw [List.length_take]; omega
    have e : upB x (t + (ss.take k).sum) s b = b.take t ++ upB x (ss.take k).sum s (b.drop t) := by
      unfold upB
      rw [List.take_add, List.drop_drop, Nat.add_assoc]
      simp
    rw [e, List.take_left' lt, List.drop_left' lt]
/-- the parts of a pattern -/
theorem spl_cut (l : List Nat) : ∀ acc, TL.spl [46] 0 acc l = cut (szA acc.length l) (acc ++ bt l) := by
  induction l with
  | nil =>
    intro acc
    rw [TL.spl_nil]
    show [acc] = [(acc ++ []).take acc.length]
    rw [List.append_nil, List.take_length]
  | cons c l ih =>
    intro acc
    by_cases e : c = 46
    · subst e
      have hp : TL.pre [46] (46 :: l) = true := TL.pre_self [46] l
      rw [TL.spl_hit hp]
      have eb : bt (46 :: l) = bt l := by simp
      rw [eb]
      show acc :: TL.spl [46] 0 [] l = (acc ++ bt l).take acc.length :: cut (szA 0 l) ((acc ++ bt l).drop acc.length)
      rw [List.take_left' rfl, List.drop_left' rfl, ih []]
      rfl
    · have hp : TL.pre [46] (c :: l) = false := TL.pre_of_head _ _ fun q => e q
      rw [TL.spl_miss hp, ih (acc ++ [c])]
      have eb : bt (c :: l) = c :: bt l := by simp [e]
      have es : szA acc.length (c :: l) = szA (acc.length + 1) l := by
        show (if c = 46 then _ else _) = _
        rw [if_neg e]
      rw [eb, es, List.length_append, List.append_assoc]
      rfl
theorem split_cut (l : List Nat) : Txt.split (S l) "." = (cut (szs l) (bt l)).map S := by
  have e : ((".":Str)) = S [46] := by decide +kernel
  rw [e, SX.split_S (by simp) (by decide), spl_cut l []]
  rfl
theorem join_cut (bs : List (List Nat)) : Txt.join "." (bs.map S) = S (TL.joinL [46] bs) := by
  have e : ((".":Str)) = S [46] := by decide +kernel
  rw [e]
  exact SX.join_S [46] bs
theorem cut_rep : ∀ (ss : List Nat) (N x : Nat), ss.sum ≤ N → cut ss (List.replicate N x) = ss.map fun s => List.replicate s x
  | [], N, x, h => rfl
  | s :: ss, N, x, h => by
    rw [List.sum_cons] at h
    show (List.replicate N x).take s :: cut ss ((List.replicate N x).drop s) = _
    rw [List.take_replicate, List.drop_replicate, cut_rep ss (N - s) x (by omega), Nat.min_eq_left (by omega)]
    rfl
end Fb
set_option maxRecDepth 100000
set_option maxHeartbeats 4000000
namespace Fb
open PySem PySem.Spec PyProof.Rows L2
theorem ixN_at {n j : Nat} (hj : j < n) : ixN n (j : Int) = some j := by
  unfold ixN
  rw [if_pos (by omega), if_pos (by omega)]
  simp
theorem countIn_signs (c : Nat) : ∀ l : List Nat, countIn (.str ⟨#[c]⟩) (l.map fun n => PyData.str ⟨#[n]⟩) = ((l.count c : Nat) : Int)
  | [] => by simp [countIn]
  | n :: l => by
    rw [List.map_cons, countIn, countIn_signs c l, List.count_cons]
    by_cases h : n = c
    · subst h
      simp [same]
      omega
    · have e : same (PyData.str ⟨#[n]⟩) (.str ⟨#[c]⟩) = false := by
        simp [same]
        exact h
      rw [e]
      simp [h]
theorem count_ones (b : List Nat) : Txt.count (SX.S b) "1" = ((b.count 49 : Nat) : Int) := by
  have e : (("1" : Str)) = ⟨#[49]⟩ := by decide +kernel
  rw [e, count_is, show (SX.S b).cps.toList = b by simp [SX.S], countIn_signs]
/-! sum of a tuple; a class held by a local name; comprehensions over tuples -/
section
variable {X : Cx}
def rSumT (K : PySem.W.Frag) : List V → Hp → VK → Prop := fun vs H Q => ∃ (a : Addr) (ns : List Int), vs = [V.ref a] ∧ SqT K H a (ns.map V.int) ∧ Q (.int ns.sum) H
theorem cr_sumT (hc : X.calm = true) : CallR X (.builtin "sum") (rSumT X.K) := by
  intro pins s σ H vs us Q I r h
  obtain ⟨a, ns, rfl, hs, q⟩ := h
  obtain ⟨its, rv, hl, _⟩ := I.tuple hs
  rw [Vals.ref1 r]
  have hi := rv.ints
  obtain ⟨xs, e⟩ := hi.allInts.items
  have hn : numsOf (intItems xs).toList = ns := by rw [← e]; exact hi.numsOf
  rw [nums_intItems] at hn
  rw [e] at hl
  refine PySem.W.ktm_sumG (I.ok.hd hc) hl fun h' tk t' hk => ?_
  rw [preSum_eq, List.take_of_length_le (by simp), hn]
  exact ⟨.int _, H, I.kept hk, ⟨_, rfl⟩, q⟩
/-- C(..), C held by the i-th slot -/
def tMakeL (i : Nat) (C : Addr) (sp : Sp) (E : XK) (t : TA) : TE := fun σ H Q => σ[i]? = some (some (.ref C)) ∧ t σ H fun vs H1 => ∀ x dx, H1 x = none → H1 dx = none → dx ≠ x → sp (.ref x :: vs) (upd (upd H1 dx (.own x)) x (.ins C dx [])) (fun v H2 => v = .non ∧ Q (.ref x) H2) E
theorem pe_makeL {CX : CXT} {k i : Nat} {f C : Addr} {sp : Sp} {E : XK} {x : Str} {p pos : Pos} {e : Expr} {es : List Expr} {t : TA} (M : Mk X.K C f) (F : FnR X.prog X.w X.K X.mg X.base CX k f sp) (hr : Room (k + 1) X.A) (hN : X.N[i]? = some x) (hv : Vis X.env.scope x) (hx : Passes CX X E) (ha : PA X (e :: es) t) (hdb : (x == ("__debug__" : Str)) = false := by decide)
    (hcd : (x == ("__classdict__" : Str)) = false := by decide) (he : starEach (e :: es) X.env = (false, eval e X.env) :: starEach es X.env := by rfl) (hpl : (backTo pos (starEach es X.env)).any (·.1) = false := by rfl) : PE X (.Call (.Name x p) (e :: es) [] pos) (tMakeL i C sp E t) := by
  refine ⟨fun pins s σ H Q I h => ?_⟩
  obtain ⟨hs, ht⟩ := h
  refine wpAny_Call_Name_kw (thn ((pe_var (pos := p) hN hv hdb hcd).run pins s σ H (fun v H1 => v = .ref C ∧ H1 = H) I ⟨.ref C, hs, rfl, rfl⟩) fun u s1 ⟨v, H1, I1, r1, q1⟩ => ?_)
  obtain ⟨rfl, rfl⟩ := q1
  cases r1
  refine PySem.W.callWith_K (h₀ := X.base) I.ok.mod.kin M.kp (thn (ha.run pos pins s1 σ _ _ I1 ht) fun us s2 ⟨vs, H2, I2, r, q⟩ => ⟨I2.kIn, ?_⟩) he hpl
  exact StX.run_makeR M F hr hx I2 r q
end
section
variable {g : TG} {tt : TT} {te : TE} {vs : List Nat} {σ : L2.St} {H1 : Hp} {D : Addr} {Qd : Hp → Prop} (out : Nat → List V)
theorem lc_outU {K : PySem.W.Frag} {a : Addr} {xs : List V} (hD : H1 D = none) (hl : SqT K H1 a xs) (o0 : out 0 = []) (ol : ∀ i, i < xs.length → (out i).length < sizeLine)
    (hs : ∀ i x H (Kc : V → Hp → Prop) (K0 : Hp → Prop), xs[i]? = some x → Same H1 H → (∀ y H4, Same H H4 → out (i + 1) = out i ++ [y] → Kc y H4) → (∀ H4, Same H H4 → out (i + 1) = out i → K0 H4) →
      g x (wipe σ vs) H fun σ2 H2 => wipe σ2 vs = wipe σ vs ∧ tt σ2 H2 fun b H3 => if b = true then te σ2 H3 Kc else K0 H3)
    (hd : ∀ H, Same H1 H → H D = some (.lst (out xs.length)) → Qd H) :
    ∃ W : Nat → Nat → Hp → Prop, (∃ m, W 0 m (upd H1 D (.lst []))) ∧ ∀ i m H, W i m H →
      ((Itt K a).stop i H ∧ Qd H) ∨ ((Itt K a).go i H ∧ ∃ Nx : Hp → Prop, (∀ H', Nx H' → ∃ m', m' < m ∧ W (i + 1) m' H') ∧ ∀ x H', (Itt K a).yld i H x H' → g x (wipe σ vs) H' fun σ2 H2 => wipe σ2 vs = wipe σ vs ∧ tt σ2 H2 fun b H3 =>
        if b = true then te σ2 H3 fun y H4 => ∃ acc, H4 D = some (.lst acc) ∧ acc.length < sizeLine ∧ Nx (upd H4 D (.lst (acc ++ [y]))) else Nx H3) := by
  refine lc_tup (xs := xs) (fun i H => OutI H1 D (out i) H) (by rw [o0]; exact OutI.start hD) (fun i H _ h => sqT_same h.1 hl) (fun i x H e h => ?_) (fun H h => hd H h.1 h.2)
  have lt : i < xs.length := (List.getElem?_eq_some_iff.mp e).1
  exact hs i x H _ _ e h.1 (fun y H4 s q => ⟨out i, (h.stay s).2, ol i lt, by rw [q]; exact h.put hD s⟩) (fun H4 s q => by rw [q]; exact h.stay s)
end
end Fb
set_option maxRecDepth 100000
set_option maxHeartbeats 4000000
namespace Fb
open PySem PySem.Spec PyProof.Rows L2
open SX (S)
/-! lists of single signs -/
abbrev sgV (b : List Nat) : List V := b.map fun c => V.str (S [c])
theorem sgV_str (b : List Nat) : sgV b = (b.map fun c => S [c]).map V.str := by rw [List.map_map] <;> rfl
theorem countIn_strs (k : Str) : ∀ ys : List Str, countIn (.str k) (ys.map PyData.str) = ((ys.count k : Nat) : Int)
  | [] => by simp [countIn]
  | y :: ys => by
    rw [List.map_cons, countIn, countIn_strs k ys, List.count_cons]
    by_cases h : y = k
    · subst h
      simp [same]
      omega
    · have e : same (PyData.str y) (.str k) = false := by
        simp [same]
        exact h
      rw [e]
      simp [h]
section
variable {X : Cx}
def rCntS (K : PySem.W.Frag) : V → List V → Hp → VK → Prop := fun x xs H Q => ∃ (p : Addr) (ys : List Str) (k : Str), x = .ref p ∧ xs = [.str k] ∧ SqL K H p (ys.map V.str) ∧ Q (.int (ys.count k : Nat)) H
theorem mt_lcountS : MtR X "list.count" (rCntS X.K) := by
  intro pins s σ H x xs v us Q I rx rxs h
  obtain ⟨p, ys, k, rfl, rfl, hs, q⟩ := h
  cases rx
  obtain ⟨u, rfl, t, rfl⟩ := rxs.one
  obtain ⟨its, rv, ⟨ob, n, ho, hc, _, hdat⟩, _⟩ := I.list hs
  refine count_list_strs (vs := its) ⟨ob, ho, hc, n, hdat⟩ rv.strs ?_
  rw [countIn_strs]
  exact ⟨.int (ys.count k : Nat), H, I.tok _, ⟨_, rfl⟩, q⟩
end
theorem call_len_seqK {X : Cx} {K : PySem.W.Frag} (hK : X.K = K) : CallR X (.builtin "len") (fun xs H Q => ∃ p ys, xs = [.ref p] ∧ (SqL K H p ys ∨ SqT K H p ys) ∧ Q (.int ys.length) H) := by
  subst hK
  exact call_len_seq
theorem count_sg (b : List Nat) (c : Nat) : (b.map fun c => S [c]).count (S [c]) = b.count c := by
  induction b with
  | nil => rfl
  | cons a b ih =>
    rw [List.map_cons, List.count_cons, List.count_cons, ih, SX.S_beq_eq]
    by_cases h : a = c
    · subst h; simp
    · simp [h]
theorem inV_sgV (c : Nat) (b : List Nat) : inV (.str (S [c])) (sgV b) = decide (c ∈ b) := by
  induction b with
  | nil => rfl
  | cons a b ih =>
    have e : inV (.str (S [c])) (sgV (a :: b)) = (eqV (V.str (S [a])) (V.str (S [c])) || inV (.str (S [c])) (sgV b)) := rfl
    rw [e, ih]
    have e2 : eqV (V.str (S [a])) (V.str (S [c])) = decide (a = c) := by
      show (S [a] == S [c]) = _
      rw [SX.S_beq_eq]
      by_cases h : a = c
      · subst h; simp
      · simp [h]
    rw [e2]
    by_cases h : a = c
    · subst h; simp
    · have : ¬ c = a := fun q => h q.symm
      simp [h, this]
theorem flat_sgV : ∀ b : List Nat, (sgV b).all flatV = true
  | [] => rfl
  | c :: b => by
    show (flatV (V.str (S [c])) && (sgV b).all flatV) = true
    rw [flat_sgV b]
    rfl
theorem cut_get : ∀ {ss b : List Nat} {i s : Nat}, ss[i]? = some s → (cut ss b)[i]? = some ((b.drop (ss.take i).sum).take s)
  | [], b, i, s, h => by simp at h
  | t :: ss, b, 0, s, h => by
    have e : t = s := by simpa using h
    subst e
    rfl
  | t :: ss, b, i + 1, s, h => by
    have h' : ss[i]? = some s := by simpa using h
    show (cut ss (b.drop t))[i]? = some ((b.drop (t + (ss.take i).sum)).take s)
    rw [cut_get h', List.drop_drop]
theorem take_sum_s {ss : List Nat} {i s : Nat} (h : ss[i]? = some s) : (ss.take (i + 1)).sum = (ss.take i).sum + s := by
  rw [List.take_add_one, h, List.sum_append]
  simp
theorem take_sum_le (ss : List Nat) (i : Nat) : (ss.take i).sum ≤ ss.sum := by
  have e := congrArg List.sum (List.take_append_drop i ss)
  rw [List.sum_append] at e
  omega
theorem cutV_sg {b : List Nat} {f s : Nat} (h : f + s ≤ b.length) : cutV (sgV b) (some (f : Int)) (some ((f : Int) + (s : Int))) = sgV ((b.drop f).take s) := by
  unfold cutV
  have e : ((f : Int) + (s : Int)) = ((f + s : Nat) : Int) := by omega
  rw [e, HT.sIx_nat, HT.sIx_nat, List.length_map, Nat.min_eq_left h, Nat.min_eq_left (show f ≤ b.length by omega), Nat.add_sub_cancel_left, ← List.map_drop, ← List.map_take]
/-- a comprehension over a text -/
theorem lc_S {l : List Nat} {g : TG} {tt : TT} {te : TE} {vs : List Nat} {σ : L2.St} {H1 : Hp} {D : Addr} {Qd : Hp → Prop} (Pv : Nat → Hp → Prop) (h0 : Pv 0 (upd H1 D (.lst [])))
    (hs : ∀ i c H, l[i]? = some c → Pv i H → g (.str (S [c])) (wipe σ vs) H fun σ2 H2 => wipe σ2 vs = wipe σ vs ∧ tt σ2 H2 fun b H3 =>
      if b = true then te σ2 H3 fun y H4 => ∃ acc, H4 D = some (.lst acc) ∧ acc.length < sizeLine ∧ Pv (i + 1) (upd H4 D (.lst (acc ++ [y]))) else Pv (i + 1) H3) (hd : ∀ H, Pv l.length H → Qd H) :
    ∃ W : Nat → Nat → Hp → Prop, (∃ m, W 0 m (upd H1 D (.lst []))) ∧ ∀ i m H, W i m H →
      ((Its (S l)).stop i H ∧ Qd H) ∨ ((Its (S l)).go i H ∧ ∃ Nx : Hp → Prop, (∀ H', Nx H' → ∃ m', m' < m ∧ W (i + 1) m' H') ∧ ∀ x H', (Its (S l)).yld i H x H' → g x (wipe σ vs) H' fun σ2 H2 => wipe σ2 vs = wipe σ vs ∧ tt σ2 H2 fun b H3 =>
        if b = true then te σ2 H3 fun y H4 => ∃ acc, H4 D = some (.lst acc) ∧ acc.length < sizeLine ∧ Nx (upd H4 D (.lst (acc ++ [y]))) else Nx H3) := by
  have hz : (S l).cps.size = l.length := by simp [S]
  refine ⟨fun i m H => i + m = l.length ∧ Pv i H, ⟨l.length, by omega, h0⟩, fun i m H ⟨hm, p⟩ => ?_⟩
  by_cases lt : i < l.length
  · refine Or.inr ⟨by show i < (S l).cps.size; omega, Pv (i + 1), fun H' p' => ⟨m - 1, by omega, by omega, p'⟩, ?_⟩
    rintro x H' ⟨eH, c, hc, rfl⟩
    subst eH
    have e : l[i]? = some c := by simpa [S] using hc
    exact hs i c _ e p
  · obtain rfl : i = l.length := by omega
    exact Or.inl ⟨by show (S l).cps.size ≤ _; omega, hd H p⟩
/-! an exception that was caught and is kept, with fields or without -/
section
variable {X : Cx}
def rIsB (K : PySem.W.Frag) : List V → Hp → VK → Prop := fun xs H Q => ∃ (a C : Addr) (c : V) (cv : Value) (b : Bool), xs = [.ref a, c] ∧ XC K C ∧ XB K ∧ (H a = some (ExR (.ref C) none a) ∨ ∃ fs, XR H a C fs) ∧ ClsV c cv ∧ PySem.W.kitOne K (.ref C) cv = some b ∧ Q (.bl b) H
theorem call_isB : CallR X (.builtin "isinstance") (rIsB X.K) := by
  intro pins s σ H xs us Q I r h
  obtain ⟨a, C, c, cv, b, e, T, B, hE | ⟨fs, hE⟩, k, e2, q⟩ := h
  · exact call_isR pins s σ H xs us Q I r ⟨a, C, c, cv, b, e, T, B, hE, k, e2, q⟩
  · exact call_isQ pins s σ H xs us Q I r ⟨a, C, fs, c, cv, b, e, T, B, hE, k, e2, q⟩
end
end Fb
set_option maxRecDepth 100000
set_option maxHeartbeats 4000000
/-! a loop over range of a written number: within its body a token is out; calls and stores whose parts want one -/
namespace Fb
open PySem PySem.Spec PyProof.Rows L2
/-- what is walked, a token out behind it -/
def PIs (X : Cx) (tg iter : Expr) (wi : TI) : Prop :=
  ∀ (pins : List (Addr × Obj)) (s : Shared) (σ : L2.St) (H : Hp) (R : It → Hp → Prop), Inv X pins σ H s → wi σ H R →
    wpAny (model X.prog X.w) X.A (eval iter X.env) (fun v s1 => 1 ≤ s1.toks ∧ wpAny (model X.prog X.w) X.A (pyIter v) (PIE X pins σ tg R) X.xe s1) X.xe s
section
variable {X : Cx} {tg : Expr} {p c pos : Pos} {k : Int} {j : Nat}
theorem pis_range1 (hg : Gl X "range") (hm : X.mg "range" = none) : PIs X tg (.Call (.Name "range" p) [.Constant (.int k) j c] [] pos) (iRng1 (tCons (tC (.int k)) tNil)) := by
  intro pins s σ H R I h
  refine Call_ (ld_blt I hg hm boot_range (PyProof.Rows.callWith_type1 ?_ rfl rfl))
  show wpAny _ _ (spliced ((false, eval (.Constant (.int k) j c) X.env) :: backTo pos (starEach [] X.env))) _ _ s
  refine Calls.spliced_cons (wpAny_Constant_int (Calls.spliced_nil ?_))
  obtain ⟨i, e, q1, q2, q⟩ := h
  have e1 : k = i := by
    have := (List.cons.inj e).1
    exact V.int.inj this
  subst e1
  exact wpAny_mono (PySem.wpAny_toks_of (n := 1) (by show 1 ≤ s.toks + 1; omega) (call_range_1 (range_it (tg := tg) (R := R) (I.tok (s.toks + 1)) (by omega) (by omega) q1 q2 (by simpa using q)))) (fun _ _ z => z) fun _ _ z => z.2
theorem ps_forT {iter : Expr} {body : List Stmt} {wi : TI} {g : TG} {tb : TS} {pos : Pos} (hp : PassesOwn (model X.prog X.w) X.A X.env X.xe) (hc : X.calm = true) (hi : PIs X tg iter wi) (hg : PG X tg g) (hb : PSsT X body tb)
    (hs : ∀ x, foldedSetIterable iter X.env x = pure x := by intro _; rfl) : PS X (.For tg iter body [] pos) (tFor wi g tb) := by
  refine ⟨fun pins s σ H D I h => ?_⟩
  refine wpAny_For (thn (hi pins s σ H _ I h) fun v s1 ⟨t1, h1⟩ => wpAny_mono (PySem.wpAny_toks_of t1 h1) (fun itv s2 h2 => ?_) fun _ _ z => z.2) hs
  obtain ⟨t2, it, fp, tn, J, H2, e, I2, T, st2, f2, W, ⟨m0, w0⟩, turn⟩ := h2
  subst e
  have stat : ∀ {H' : Hp}, (∀ b ∈ fp, H' b = none) → ∀ b ∈ fp, FpOk X pins H' b := fun hn b hb => ⟨hn b hb, (f2 b hb).2⟩
  refine codeAny_forLoop_any (fun n s' => 1 ≤ s'.toks ∧ ∃ i σ' H', Inv X pins σ' H' s' ∧ tn i s'.heap ∧ (∀ b ∈ fp, H' b = none) ∧ W i n σ' H') ?_ m0 ⟨t2, 0, σ, H2, I2, st2, fun b hb => (f2 b hb).1, w0⟩
  rintro n s3 ⟨t3, i, σ3, H3, I3, st3, fr3, w3⟩
  rcases turn i n σ3 H3 w3 with ⟨stop, qn⟩ | ⟨go, N, hN, step⟩
  · refine wpAny_passesOwn hp (thn (T.done X rfl rfl rfl hc i pins s3 σ3 H3 X.xe I3 (stat fr3) st3 stop) fun r s4 ⟨hr, I4⟩ => ?_)
    subst hr
    exact wpAny_execs_nil ⟨σ3, H3, I4, qn⟩
  · refine wpAny_passesOwn hp (wpAny_mono (PySem.wpAny_toks_of t3 (T.item X rfl rfl rfl hc i pins s3 σ3 H3 X.xe I3 (stat fr3) st3 go)) (fun r s4 ⟨t4, u, hr, h4⟩ => ?_) fun _ _ z => z.2)
    subst hr
    refine wpAny_passesOwn hp (wpAny_mono (PySem.wpAny_toks_of t4 h4) (fun _ s5 ⟨t5, x, H5, I5, r5, y5, st5, fr5⟩ => ?_) fun _ _ z => z.2)
    have I5' := I5.pinned (stat fr5) (T.obj _ _ st5)
    refine wpAny_passesOwn hp (wpAny_mono (PySem.wpAny_toks_of t5 (hg.run _ s5 σ3 H5 x u _ I5' r5 (step x H5 y5))) (fun _ s6 ⟨t6, σ6, H6, I6, q6⟩ => ?_) fun _ _ z => z.2)
    refine wpAny_passesOwn hp (wpAny_mono (PySem.wpAny_toks_of t6 (hb _ s6 σ6 H6 _ t6 I6 q6)) (fun f s7 ⟨t7, q7⟩ => ?_) fun _ _ z => z.2)
    have again : ∀ {σ7 : L2.St} {H7 : Hp}, Inv X (pins ++ pinsAt fp s5.heap) σ7 H7 s7 → N σ7 H7 → ∃ m, m < n ∧ 1 ≤ s7.toks ∧ ∃ i σ' H', Inv X pins σ' H' s7 ∧ tn i s7.heap ∧ (∀ b ∈ fp, H' b = none) ∧ W i m σ' H' := fun {σ7 H7} I7 n7 => by
      obtain ⟨m', hm, w7⟩ := hN σ7 H7 n7
      refine ⟨m', hm, t7, i + 1, σ7, H7, I7.unpinned, T.keep _ _ _ st5 fun b hb o e => (I7.pin (b, o) (List.mem_append_right _ (List.mem_append_right _ (mem_pinsAt hb e)))).1, fun b hb => ?_, w7⟩
      obtain ⟨o, e, d⟩ := T.obj _ _ st5 b hb
      exact (I7.pin (b, o) (List.mem_append_right _ (List.mem_append_right _ (mem_pinsAt hb e)))).2.1
    cases f with
    | next => obtain ⟨σ7, H7, I7, n7⟩ := q7; exact again I7 n7
    | cont => obtain ⟨σ7, H7, I7, n7⟩ := q7; exact again I7 n7
    | brk => obtain ⟨σ7, H7, I7, q7⟩ := q7; exact ⟨σ7, H7, I7.unpinned, q7⟩
    | ret v => obtain ⟨x7, σ7, H7, I7, r7, q7⟩ := q7; exact ⟨x7, σ7, H7, I7.unpinned, r7, q7⟩
end
section
variable {X : Cx} {CX : CXT} {k : Nat} {f : Addr} {fd : FuncData} {ps : List Str} {sp : Sp} {ds : List Value} {dvs : List V} {E : XK} {x : Str} {p pos : Pos} {e : Expr} {es : List Expr} {t : TA}
theorem pet_call (F : FnOk X.prog X.w X.K X.mg X.base CX k f fd ps sp) (hr : Room k X.A) (hg : Gl X x) (hm : X.mg x = some (.ref f)) (hk : PySem.W.keepIn X.K (.ref f) = true) (hb : Binds X.K fd ps ds) (hd : Vals dvs ds) (hx : Passes CX X E)
    (ha : L2.PAT X (e :: es) t) (hdb : (x == ("__debug__" : Str)) = false := by decide) (he : starEach (e :: es) X.env = (false, eval e X.env) :: starEach es X.env := by rfl) (hpl : (backTo pos (starEach es X.env)).any (·.1) = false := by rfl) :
    L2.PET X (.Call (.Name x p) (e :: es) [] pos) (tCall sp dvs E t) := by
  intro pins s σ H Q h0 I h
  refine wpAny_Call_Name_kw (ld_glob I hg hm ?_ hdb)
  refine PySem.W.callWith_K (h₀ := X.base) I.ok.mod.kin hk (thn (ha pos pins s σ H _ h0 I h) fun us s1 ⟨vs, H1, I1, r, q⟩ => ⟨I1.kIn, ?_⟩) he hpl
  exact run_fn F hr hb hd hx I1 r q
theorem pst_set {i : Nat} {te : TE} {pos' : Pos} (hN : X.N.Nodup) (hi : X.N[i]? = some x) (hx : Loc X.env.scope x) (he : L2.PET X e te) (hs : swapsWith e (some (.Name x pos')) pos.line X.env = pure false := by rfl) (hf : X.fn x = true ∨ X.env.scope.names.lookup x = some .local := by first | exact .inl rfl | exact .inr rfl | assumption) :
    PST X (.Assign [.Name x pos'] e pos) (tAsg te (gName i)) := by
  intro pins s σ H D h0 I h
  refine wpAny_Assign_Name (thn (he pins s σ H _ h0 I h) fun v s1 ⟨y, H1, I1, r1, q1⟩ => ?_) hs
  exact store_ok I1 hN hi hx r1 (fun s2 I2 => ⟨_, H1, I2, q1⟩) hf
end
/-! in and not in, within a comprehension: the fragment named -/
theorem op_inK {X : Cx} {K : PySem.W.Frag} (hK : X.K = K) : OpR X (compareOp .In) (rIn K false) := by
  subst hK
  exact op_in_seq
theorem op_notInK {X : Cx} {K : PySem.W.Frag} (hK : X.K = K) : OpR X (compareOp .NotIn) (rIn K true) := by
  subst hK
  exact op_notIn_seq
end Fb
set_option maxRecDepth 100000
set_option maxHeartbeats 4000000
/-! comprehensions over two ranges; lists of whole numbers of any size as data -/
namespace Fb
open PySem PySem.Spec PyProof.Rows L2
section
variable {D : Addr} {σ : L2.St} {H1 : Hp} {wi1 : TI} {te : TE} {vs vs1 : List Nat} {i1 j1 : Nat} {Qd : Hp → Prop} {n m : Nat}
theorem lc2_ranges (Pv : Nat → Nat → Hp → Prop) (h0 : Pv 0 0 (upd H1 D (.lst [])))
    (hin : ∀ (x : V) (H : Hp) (R : It → Hp → Prop), R (Itr 0 m) H → wi1 ((wipe σ vs).set i1 (some x)) H R) (hw : ∀ x, wipe ((wipe σ vs).set i1 (some x)) vs = wipe σ vs)
    (hw1 : ∀ x y, wipe ((wipe ((wipe σ vs).set i1 (some x)) vs1).set j1 (some y)) vs1 = wipe ((wipe σ vs).set i1 (some x)) vs1)
    (step : ∀ (i j : Nat) (H : Hp), i < n → j < m → Pv i j H → te ((wipe ((wipe σ vs).set i1 (some (.int (0 + (i : Int))))) vs1).set j1 (some (.int (0 + (j : Int))))) H fun v H7 => ∃ acc, H7 D = some (.lst acc) ∧ acc.length < sizeLine ∧ Pv i (j + 1) (upd H7 D (.lst (acc ++ [v]))))
    (next : ∀ i H, i < n → Pv i m H → Pv (i + 1) 0 H) (hd : ∀ H, Pv n 0 H → Qd H) :
    ∃ W : Nat → Nat → Hp → Prop, (∃ m, W 0 m (upd H1 D (.lst []))) ∧ ∀ i m H, W i m H →
      ((Itr 0 n).stop i H ∧ Qd H) ∨ ((Itr 0 n).go i H ∧ ∃ Nx : Hp → Prop, (∀ H', Nx H' → ∃ m', m' < m ∧ W (i + 1) m' H') ∧ ∀ x H', (Itr 0 n).yld i H x H' → gName i1 x (wipe σ vs) H' fun σ2 H2 => wipe σ2 vs = wipe σ vs ∧ tYes σ2 H2 fun bb H3 =>
        if bb = true then wi1 σ2 H3 fun J1 H4 => ∃ W1 : Nat → Nat → Hp → Prop, (∃ m, W1 0 m H4) ∧ ∀ j k H, W1 j k H →
          (J1.stop j H ∧ Nx H) ∨ (J1.go j H ∧ ∃ Nx1 : Hp → Prop, (∀ H', Nx1 H' → ∃ k', k' < k ∧ W1 (j + 1) k' H') ∧ ∀ x H', J1.yld j H x H' → gName j1 x (wipe σ2 vs1) H' fun σ3 H5 => wipe σ3 vs1 = wipe σ2 vs1 ∧ tYes σ3 H5 fun bb H6 =>
            if bb = true then te σ3 H6 fun y H7 => ∃ acc, H7 D = some (.lst acc) ∧ acc.length < sizeLine ∧ Nx1 (upd H7 D (.lst (acc ++ [y]))) else Nx1 H6)
        else Nx H3) := by
  refine ⟨fun i k H => i + k = n ∧ Pv i 0 H, ⟨n, by omega, h0⟩, fun i k H ⟨hm, p⟩ => ?_⟩
  by_cases lt : i < n
  · refine Or.inr ⟨lt, Pv (i + 1) 0, fun H' p' => ⟨k - 1, by omega, by omega, p'⟩, ?_⟩
    intro x H' y
    obtain ⟨e, y⟩ := y
    subst e y
    refine ⟨hw _, yes1 ?_⟩
    refine hin _ _ _ ?_
    refine ⟨fun j k H => j + k = m ∧ Pv i j H, ⟨m, by omega, p⟩, fun j k H ⟨hk, p⟩ => ?_⟩
    by_cases lt2 : j < m
    · refine Or.inr ⟨lt2, Pv i (j + 1), fun H' p' => ⟨k - 1, by omega, by omega, p'⟩, ?_⟩
      intro x2 H' y2
      obtain ⟨e2, y2⟩ := y2
      subst e2 y2
      exact ⟨hw1 _ _, yes1 (step i j _ lt lt2 p)⟩
    · obtain rfl : j = m := by omega
      exact Or.inl ⟨Nat.le_refl _, next i H lt p⟩
  · obtain rfl : i = n := by omega
    exact Or.inl ⟨Nat.le_refl _, hd H p⟩
end
/-! numbers of any size -/
def intD (ns : List Int) : List PyData := ns.map .int
theorem dp_ints {K : PySem.W.Frag} {H : Hp} : ∀ ns : List Int, DpAll K H (ns.map V.int) (intD ns)
  | [] => .nil
  | n :: ns => .cons (.int _) (dp_ints ns)
theorem lay_ints : ∀ ns : List Int, PyData.canLayAll0 (intD ns) = true ∧ PyData.depthAll (intD ns) = 0
  | [] => ⟨rfl, rfl⟩
  | n :: ns => by
    obtain ⟨h1, h2⟩ := lay_ints ns
    unfold intD at *
    rw [List.map_cons]
    constructor
    · rw [PyData.canLayAll0, h1] <;> rfl
    · rw [PyData.depthAll, h2] <;> rfl
theorem eqv_ints_nil : ∀ ns : List Int, PyData.eqv (.list (intD ns)) (.list []) = decide (ns = [])
  | [] => by simp [intD, PyData.eqv, PyData.eqvAll]
  | n :: ns => by simp [intD, PyData.eqv, PyData.eqvAll]
end Fb
set_option maxRecDepth 100000
set_option maxHeartbeats 4000000
namespace Fb
open PySem PySem.Spec PyProof.Rows L2
/-! x in o, x not in o, o[i] by the defs of o's class: instances with a dict -/
section
variable {X : Cx} {CX : CXT} {pins : List (Addr × Obj)} {σ : L2.St} {H : Hp} {s : Shared} {a C dx g : Addr} {fs : List (Str × V)} {n : Nat} {sp : Sp} {E : XK}
def rInI (C : Addr) (sp : Sp) (E : XK) (neg : Bool) : R2 := fun x y H Q => ∃ b dx fs, y = .ref b ∧ H b = some (.ins C dx fs) ∧ sp [y, x] H (fun z H' => ∃ c, z = .bl c ∧ Q (.bl (if neg then !c else c)) H') E
theorem op_inI (hs : PySem.W.findIn X.K (.ref C) "__contains__" = some (some (.ref g))) (hf : PySem.W.isFn X.K (.ref g) = true) (F : FnR X.prog X.w X.K X.mg X.base CX n g sp) (hr : Room n X.A) (hx : Passes CX X E) : OpR X (compareOp .In) (rInI C sp E false) := by
  intro pins s σ H x y v u Q I rx ry h
  obtain ⟨b, dx, fs, rfl, hb, q⟩ := h
  cases (show u = Value.ref b from ry)
  obtain ⟨od, J⟩ := ins_at I hb
  obtain ⟨m, hF⟩ := I.fr
  refine PySem.W.in_K hF I.ok.mod.kin J hs hf ?_
  refine wpAny_mono (wpAny_call (run_fnR (us := [.ref b, v]) (vs := [.ref b, x]) F hr hx I (.cons rfl (.cons rx .nil)) q)) (fun w s' z => ?_) fun _ _ x => x
  obtain ⟨z', H', I', rz, c, ec, qz⟩ := z
  subst ec
  cases (show w = Value.bool c from rz)
  exact wpAny_pure ⟨.bl c, H', I', rfl, qz⟩
theorem op_notInI (hs : PySem.W.findIn X.K (.ref C) "__contains__" = some (some (.ref g))) (hf : PySem.W.isFn X.K (.ref g) = true) (F : FnR X.prog X.w X.K X.mg X.base CX n g sp) (hr : Room n X.A) (hx : Passes CX X E) : OpR X (compareOp .NotIn) (rInI C sp E true) := by
  intro pins s σ H x y v u Q I rx ry h
  obtain ⟨b, dx, fs, rfl, hb, q⟩ := h
  cases (show u = Value.ref b from ry)
  obtain ⟨od, J⟩ := ins_at I hb
  obtain ⟨m, hF⟩ := I.fr
  refine PySem.W.notIn_K hF I.ok.mod.kin J hs hf ?_
  refine wpAny_mono (wpAny_call (run_fnR (us := [.ref b, v]) (vs := [.ref b, x]) F hr hx I (.cons rfl (.cons rx .nil)) q)) (fun w s' z => ?_) fun _ _ x => x
  obtain ⟨z', H', I', rz, c, ec, qz⟩ := z
  subst ec
  cases (show w = Value.bool c from rz)
  exact wpAny_pure ⟨.bl (!c), H', I', rfl, qz⟩
def tIxI (C : Addr) (sp : Sp) (E : XK) (ta tb : TE) : TE := fun σ H Q => ta σ H fun x H1 => tb σ H1 fun y H2 => ∃ a dx fs, x = .ref a ∧ H2 a = some (.ins C dx fs) ∧ sp [x, y] H2 Q E
theorem pe_ixI {o i : Expr} {ta tb : TE} {pos : Pos} (hs : PySem.W.findIn X.K (.ref C) "__getitem__" = some (some (.ref g))) (hf : PySem.W.fnIn X.K g = true) (hfn : PySem.W.isFn X.K (.ref g) = true) (F : FnR X.prog X.w X.K X.mg X.base CX n g sp) (hr : Room (n + 1) X.A) (hx : Passes CX X E)
    (ha : PE X o ta) (hb : PE X i tb) (hsl : ∀ (x : Addr) (v : Value), subscripted i true (.ref x) v = runValue (.builtin "lifetime.subscript" ⟨[.ref x, v], []⟩) := by intro _ _; with_unfolding_all rfl) : PE X (.Subscript o i pos) (tIxI C sp E ta tb) := by
  refine ⟨fun pins s σ H Q I h => ?_⟩
  refine Subscript_ (binT ha hb I h fun v u s2 x y H2 I2 rx ry q => ?_)
  obtain ⟨a, dx, fs, rfl, e, q⟩ := q
  cases (show v = Value.ref a from rx)
  obtain ⟨od, J⟩ := ins_at I2 e
  obtain ⟨m, hF⟩ := I2.fr
  have hr2 : Room n X.A.in1 := Room.in1 hr
  exact PySem.W.sub_K hF I2.ok.mod.kin J hs hf hfn (wpAny_call (SlX.run_at (us := [.ref a, u]) (ws := [.ref a, y]) F hr2 I2.env0.in1 hx I2 (.cons rfl (.cons ry .nil)) q)) (hsl _ _)
end
/-! bool(x), list(a text) -/
theorem bool_own {prog : Program} {w : World} {A : Around} {E : Value → Shared → Prop} {s : Shared} {K : PySem.W.Frag} {x C L f : Addr} {h₀ : Heap} {m : Str → Option Value} {ox : Obj} {od : Option Obj} {Q : Value → Shared → Prop} (F : Fr h₀ L s.heap m) (X₀ : K.In h₀) (I : PySem.W.InstAt s.heap x ox C od) (hs : PySem.W.findIn K (.ref C) "__bool__" = some (some (.ref f))) (hf : PySem.W.isFn K (.ref f) = true)
    (h : wpAny (model prog w) A.in1.in1 (call (.ref f) [.ref x]) (PySem.W.BoolBack fun b s₁ => Q (.bool b) s₁) E s) : wpAny (model prog w) A (call (.type "bool") [.ref x]) Q E s := by
  refine callType_codes (T := "bool") (Bi := Builtin.«object.__init__») (Q₁ := fun r s₁ => ∃ b, r = Value.bool b ∧ Q r s₁) PySem.F.called_bool (PySem.F.typeCall_bool_1 _) PySem.F.entry_object_init ?_ ?_
  · refine codeAny_of_tree ?_
    show wpAny _ A.in1.in1 (do checkBuiltinCall "bool.__new__" ⟨[.type "bool", .ref x], []⟩; again (.builtin "bool.__new__" ⟨[.type "bool", .ref x], []⟩)) _ _ s
    refine wpAny_bind (wpAny_of_eq (PySem.F.newCall_bool_1 _) (wpAny_pure ⟨plainId_quiet (by decide +kernel) _, codeAny_builtin PySem.F.entry_bool_new ?_⟩))
    rw [Around.under_plainId (by decide +kernel) _]
    unfold Builtin.«bool.__new__»
    refine wpAny_bind (wpAny_of_eq (a := true) (by rfl) ?_)
    refine PySem.W.KFB.if_not rfl ?_
    refine wpAny_bind (wpAny_of_eq (a := true) PySem.F.conv_sub_bool ?_)
    refine PySem.W.KFB.if_not rfl ?_
    refine wpAny_bind (wpAny_pure ?_)
    refine wpAny_bind (PySem.W.truthy_K F X₀ I hs hf (wpAny_mono h (fun r s₁ hr => ?_) fun _ _ y => y))
    cases r <;> first | exact hr.elim | skip
    exact wpAny_pure ⟨_, rfl, hr⟩
  · rintro obj s₁ ⟨b, rfl, hq⟩
    exact ⟨rfl, PySem.F.args_object_init_2 _ _, object_init_meets PySem.F.called_bool.init.lookup PySem.F.called_bool.made (by decide) prog w A.in1 _ s₁ ⟨rfl, rfl, hq⟩⟩
section
variable {X : Cx} {CX : CXT} {pins : List (Addr × Obj)} {σ : L2.St} {H : Hp} {s : Shared} {a C dx g : Addr} {fs : List (Str × V)} {n : Nat} {sp : Sp} {E : XK}
def rBoolI (C : Addr) (sp : Sp) (E : XK) : List V → Hp → VK → Prop := fun xs H Q => ∃ a dx fs, xs = [.ref a] ∧ H a = some (.ins C dx fs) ∧ sp [.ref a] H (fun z H' => ∃ b, z = .bl b ∧ Q (.bl b) H') E
theorem call_boolI (hs : PySem.W.findIn X.K (.ref C) "__bool__" = some (some (.ref g))) (hf : PySem.W.isFn X.K (.ref g) = true) (F : FnR X.prog X.w X.K X.mg X.base CX n g sp) (hr : Room (n + 2) X.A) (hx : Passes CX X E) : CallR X (.type "bool") (rBoolI C sp E) := by
  intro pins s σ H xs us Q I r h
  obtain ⟨a, dx, fs, rfl, ha, q⟩ := h
  obtain ⟨u, rfl, ru⟩ := r.one
  cases (show u = Value.ref a from ru)
  obtain ⟨od, J⟩ := ins_at I ha
  have hr2 : Room n X.A.in1.in1 := (show Room (n + 1) X.A.in1 from Room.in1 hr).in1
  obtain ⟨m, hF⟩ := I.fr
  refine bool_own hF I.ok.mod.kin J hs hf (wpAny_mono (wpAny_call (SlX.run_at (us := [.ref a]) (ws := [.ref a]) F hr2 I.env0.in1.in1 hx I (.cons rfl .nil) q)) (fun w s' z => ?_) fun _ _ x => x)
  obtain ⟨z', H', I', rz, b, eb, qz⟩ := z
  subst eb
  cases (show w = Value.bool b from rz)
  exact ⟨.bl b, H', I', rfl, qz⟩
theorem vals_signs {l : List Nat} {us : List Value} (hl : us.length = l.length) (hu : ∀ (j : Nat) (v : Value), us[j]? = some v → ∃ (c : Nat) (t : Tok), l[j]? = some c ∧ v = Value.str ⟨#[c]⟩ t) : Vals (l.map fun c => V.str (SX.S [c])) us := by
  have e : (l.map fun c => V.str (SX.S [c])) = (List.range us.length).map fun j => V.str (SX.S [l.getD j 0]) := by
    refine List.ext_getElem? fun j => ?_
    rw [List.getElem?_map, List.getElem?_map]
    by_cases h : j < l.length
    · rw [List.getElem?_range (by omega), List.getElem?_eq_getElem h]
      show some (V.str (SX.S [l[j]])) = some (V.str (SX.S [l.getD j 0]))
      rw [List.getD_eq_getElem?_getD, List.getElem?_eq_getElem h] <;> rfl
    · rw [List.getElem?_eq_none (by omega), List.getElem?_eq_none (by simp; omega)] <;> rfl
  rw [e]
  refine vals_of_get us _ fun j u hj => ?_
  obtain ⟨c, t, hc, rfl⟩ := hu j u hj
  rw [List.getD_eq_getElem?_getD, hc]
  exact ⟨t, rfl⟩
def rListS : List V → Hp → VK → Prop := fun xs H Q => ∃ l : List Nat, xs = [.str (SX.S l)] ∧ l.length ≤ sizeLine ∧ ∀ p, H p = none → Q (.ref p) (upd H p (.lst (l.map fun c => V.str (SX.S [c]))))
theorem call_listS (hc : X.calm = true) : CallR X (.type "list") rListS := by
  intro pins s σ H xs us Q I r h
  obtain ⟨l, rfl, hl, q⟩ := h
  obtain ⟨u, rfl, t, rfl⟩ := vals1 r
  have sz : (SX.S l).cps.size = l.length := by simp [SX.S]
  refine call_list_str (I.ok.hd hc) (SX.S l) t (hn := by rw [sz]; exact hl) fun h' tk acc c' hk e' hi => ?_
  refine ⟨.ref s.heap.objs.size, upd H s.heap.objs.size (.lst (l.map fun c => V.str (SX.S [c]))), I.laid hk (Nat.le_refl _) (show ObjOk X.prog X.w _ _ _ (.lst (l.map fun c => V.str (SX.S [c]))) from ⟨?_, acc.toList, c', ?_, ?_⟩), rfl, q _ (I.hok.fresh (Nat.le_refl _))⟩
  · rw [List.length_map]; exact hl
  · refine vals_signs (by rw [Array.length_toList, hi.1, sz]) fun j v hj => ?_
    obtain ⟨c, u, h1, h2⟩ := hi.2 j v (by rw [← hj, Array.getElem?_toList])
    exact ⟨c, u, by simpa [SX.S] using h1, h2⟩
  · rw [Array.toArray_toList]; exact e'
end
end Fb
set_option maxRecDepth 100000
set_option maxHeartbeats 4000000
namespace Fb
open PySem PySem.Spec PyProof.Rows L2
open Sem (wp)
/-! enumerate(zip(text, text)), whose inner tuples stay out: the zip makes a new one each time -/
def ZF (h : Heap) (z TI TO : Addr) (v : Value) (f : Bool) : Prop := h.get? z = some { cls := .type "zip", dict := none, data := .fields #[v, .bool f, .bool false, .ref TI, .ref TO], slots := #[] }
def HV (v : Value) : Prop := v = .none ∨ ∃ T : Addr, v = rawInt T
section
variable {prog : Program} {w : World} {A : Around} {E : Value → Shared → Prop} {s : Shared} {z TI TO i1 i2 : Addr} {fp1 fp2 : List Addr} {n1 n2 i : Nat} {P1 P2 : Nat → Value → Prop} {St1 St2 : Nat → Heap → Prop} {a1 a2 v : Value} {f : Bool}
theorem free_any {Q : Bool → Shared → Prop} (hz : ZF s.heap z TI TO v f) (hv : HV v) (q1 : Q true s) (q0 : ∀ h', ZF h' z TI TO v true → Heap.SameBut z s.heap h' → Q false { s with heap := h' }) :
    wpAny (model prog w) A (Builtin.SmallTypes.ownedTupleIsFree (.ref z)) Q E s := by
  unfold Builtin.SmallTypes.ownedTupleIsFree
  rcases hv with rfl | ⟨T, rfl⟩
  · exact wpAny_bind (wpAny_field hz rfl (x := .none) rfl (wpAny_pure q1))
  refine wpAny_bind (wpAny_field hz rfl (x := rawInt T) rfl ?_)
  show wpAny _ _ (loadIfAlive ((T : Int).toNat) >>= fun r => _) _ _ _; rw [Int.toNat_natCast]
  refine wpAny_bind (fun _ _ _ => ?_)
  show wpAny _ _ (_ : Sem Bool) Q E s
  cases hT : s.heap.get? T with
  | none => simp only [Option.isNone_none, if_true]; exact wpAny_pure q1
  | some oT =>
    simp only [Option.isNone_some, Bool.false_eq_true, if_false]
    refine wpAny_bind (wpAny_field hz rfl (x := .bool f) rfl ?_)
    cases f
    · rw [if_pos (show (Value.bool false != Value.bool true) = true by rfl)]
      exact wpAny_bind (wpAny_setField_rec hz (by simp) fun g hg sg => wpAny_pure (q0 g hg sg))
    · rw [if_neg (show ¬ (Value.bool true != Value.bool true) = true by exact Bool.false_ne_true)]
      exact wpAny_pure (q0 _ hz (Heap.SameBut.refl _ _))
theorem ZF.put {h h' : Heap} {x : Addr} (e : ZF h z TI TO v f) (sb : Heap.SameBut x h h') (ne : z ≠ x) : ZF h' z TI TO v f := sb.extBut _ _ ne e
theorem zipN_item {Q : Value → Shared → Prop} (S : ZipSep2 z TI TO i1 i2 fp1 fp2) (D1 : Draws prog w A i1 fp1 n1 P1 St1) (D2 : Draws prog w A i2 fp2 n2 P2 St2)
    (hz : ZF s.heap z TI TO v f) (hv : HV v) (hTI : IsTupOf2 s.heap TI (.ref i1) (.ref i2)) (hTO : IsTupOf2 s.heap TO a1 a2) (st1 : St1 i s.heap) (st2 : St2 i s.heap) (lt1 : i < n1) (lt2 : i < n2)
    (k : ∀ x1 x2 h' tk v' f' b1 b2, P1 i x1 → P2 i x2 → HV v' → ZF h' z TI TO v' f' → IsTupOf2 h' TO b1 b2 → St1 (i + 1) h' → St2 (i + 1) h' → IsTupOf2 h' s.heap.objs.size x1 x2 → h'.objs.size = s.heap.objs.size + 1 →
      (∀ c o, c ≠ z → c ≠ TO → c ≠ i1 → c ≠ i2 → s.heap.get? c = some o → h'.get? c = some o) → Q (.ref s.heap.objs.size) { s with heap := h', toks := tk }) :
    wpAny (model prog w) A (Builtin.«zip.__next__» ⟨[.ref z], []⟩) (fun fin s' => ∃ v, fin = .done (.ret v) ∧ Q v s') E s := by
  obtain ⟨hp, g, d, t0, os⟩ := s
  show wpAny _ _ (field (.ref z) 2 >>= fun r => _) _ _ _; refine wpAny_bind (wpAny_field hz rfl (x := .bool false) rfl ?_)
  show wpAny _ _ (field (.ref z) 3 >>= fun r => _) _ _ _; refine wpAny_bind (wpAny_field hz rfl (x := .ref TI) rfl ?_)
  refine wpAny_bind (wpAny_seqItems hTI rfl ?_)
  show wpAny _ _ (Builtin.SmallTypes.ownedTupleIsFree (.ref z) >>= fun r => _) _ _ _
  refine wpAny_bind (free_any hz hv ?_ fun g0 zz0 s0 => ?_)
  · -- the tuple is free: it is filled again, a copy is given
    simp only [if_true]
    refine wpAny_bind (wpAny_rule (wpAny_bind (wpAny_field hz rfl (x := .ref TO) rfl ?_)))
    refine wpAny_bind (wpAny_setField_rec hz (by simp) fun g0 zz0 s0 => ?_)
    replace zz0 : ZF g0 z TI TO .ellipsis f := zz0; replace s0 : Heap.SameBut z hp g0 := s0
    refine wpAny_bind ?_; simp only [List.zipIdx_cons, List.zipIdx_nil, List.forIn_cons, List.forIn_nil]
    refine wpAny_bind (wpAny_bind (wpAny_onRaise ?_))
    show wpAny _ _ (Builtin.SmallTypes.nextOf (.ref i1) >>= fun r => _) _ _ ⟨g0, g, d, t0, os⟩
    refine wpAny_bind (D1.item i _ _ _ lt1 (D1.over st1 s0 S.zf1) fun x1 p1 t1 e1 y1 r1 => wpAny_pure ?_)
    replace r1 : Heap.SameBut i1 g0 p1 := r1
    have U1 : IsTupOf2 p1 TO a1 a2 := r1.extBut _ _ S.Ti1 (s0.extBut _ _ S.TOz hTO)
    refine wpAny_bind (wpAny_seqItems (s := ⟨p1, g, d, t1, os⟩) U1 rfl (wpAny_bind (updateSeq_IsTupOf2 (s := ⟨p1, g, d, t1, os⟩) U1 fun g1 V1 s1 => ?_)))
    replace V1 : IsTupOf2 g1 TO x1 a2 := V1; replace s1 : Heap.SameBut TO p1 g1 := s1
    refine wpAny_bind (wpAny_letGo (wpAny_pure (wpAny_bind (wpAny_bind (wpAny_onRaise ?_)))))
    show wpAny _ _ (Builtin.SmallTypes.nextOf (.ref i2) >>= fun r => _) _ _ ⟨g1, g, d, t1, os⟩
    refine wpAny_bind (D2.item i _ _ _ lt2 (D2.over (D2.over (D2.over st2 s0 S.zf2) r1 S.sep1_2) s1 S.Tf2) fun x2 p2 t2 e2 y2 r2 => wpAny_pure ?_)
    replace r2 : Heap.SameBut i2 g1 p2 := r2
    have U2 : IsTupOf2 p2 TO x1 a2 := r2.extBut _ _ S.Ti2 V1
    refine wpAny_bind (wpAny_seqItems (s := ⟨p2, g, d, t2, os⟩) U2 rfl (wpAny_bind (updateSeq_IsTupOf2 (s := ⟨p2, g, d, t2, os⟩) U2 fun g2 V2 s2 => ?_)))
    replace V2 : IsTupOf2 g2 TO x1 x2 := V2; replace s2 : Heap.SameBut TO p2 g2 := s2
    refine wpAny_bind (wpAny_letGo (wpAny_pure (wpAny_pure (wpAny_bind (wpAny_seqItems (s := ⟨g2, g, d, t2, os⟩) V2 rfl (wpAny_bind (wpAny_newTuple ?_)))))))
    have sz : g2.objs.size = hp.objs.size := by rw [s2.1, r2.1, s1.1, r1.1, s0.1]
    have Z2 : ZF g2 z TI TO .ellipsis f := (((zz0.put r1 S.zi1).put s1 S.TOz.symm).put r2 S.zi2).put s2 S.TOz.symm
    have all : ∀ c o, c ≠ z → c ≠ TO → c ≠ i1 → c ≠ i2 → hp.get? c = some o → g2.get? c = some o := fun c o cz cT c1 c2 e => s2.extBut _ _ cT (r2.extBut _ _ c2 (s1.extBut _ _ cT (r1.extBut _ _ c1 (s0.extBut _ _ cz e))))
    have j1 : St1 (i + 1) g2 := D1.over (D1.over (D1.over y1 s1 S.Tf1) r2 S.sep2_1) s2 S.Tf1
    have j2 : St2 (i + 1) g2 := D2.over y2 s2 S.Tf2
    have zlt : z < g2.objs.size := Heap.lt_size Z2
    show wpAny _ _ (Builtin.SmallTypes.ownedTupleHandOut (.ref z) (.ref g2.objs.size) >>= fun r => _) _ _ ⟨g2.push { cls := .type "tuple", data := .seq #[x1, x2] }, g, d, t2, os⟩
    refine wpAny_bind ?_; unfold Builtin.SmallTypes.ownedTupleHandOut
    have Z3 : ZF (g2.push { cls := .type "tuple", data := .seq #[x1, x2] }) z TI TO .ellipsis f := Heap.get?_push_of_some _ Z2
    refine wpAny_bind (wpAny_setField_rec Z3 (by simp) fun g4 Z4 s4 => ?_)
    replace Z4 : ZF g4 z TI TO (rawInt g2.objs.size) f := Z4
    refine wpAny_setField_rec Z4 (by simp) fun g5 Z5 s5 => ?_
    replace Z5 : ZF g5 z TI TO (rawInt g2.objs.size) false := Z5
    replace s4 : Heap.SameBut z (g2.push { cls := .type "tuple", data := .seq #[x1, x2] }) g4 := s4; replace s5 : Heap.SameBut z g4 g5 := s5
    have up : ∀ c o, c ≠ z → g2.get? c = some o → g5.get? c = some o := fun c o c1 e => s5.extBut _ _ c1 (s4.extBut _ _ c1 (Heap.get?_push_of_some _ e))
    have T5 : IsTupOf2 g5 g2.objs.size x1 x2 := s5.extBut _ _ (Nat.ne_of_gt zlt) (s4.extBut _ _ (Nat.ne_of_gt zlt) (Heap.get?_push_size _ rfl))
    have z5 : g5.objs.size = g2.objs.size + 1 := by rw [s5.1, s4.1, Heap.size_push]
    rw [sz] at T5 z5
    refine wpAny_pure ⟨_, rfl, ?_⟩
    show Q (.ref g2.objs.size) ⟨g5, g, d, t2, os⟩; rw [sz]
    exact k x1 x2 g5 t2 _ _ _ _ e1 e2 (.inr ⟨_, rfl⟩) Z5 (up _ _ S.TOz V2) (D1.frame _ _ _ j1 fun b hb o e => up b o (fun q => S.zf1 (q ▸ hb)) e) (D2.frame _ _ _ j2 fun b hb o e => up b o (fun q => S.zf2 (q ▸ hb)) e) T5 z5 fun c o cz cT c1 c2 e => up c o cz (all c o cz cT c1 c2 e)
  · -- it is still out: a new one
    replace s0 : Heap.SameBut z hp g0 := s0
    simp only [Bool.false_eq_true, if_false]
    refine wpAny_bind ?_; rw [← Array.forIn_toList]; simp only [List.forIn_cons, List.forIn_nil]
    refine wpAny_bind (wpAny_bind (wpAny_holding ?_))
    show wpAny _ _ (Builtin.SmallTypes.nextOf (.ref i1) >>= fun r => _) _ _ ⟨g0, g, d, t0, os⟩
    refine wpAny_bind (D1.item i _ _ _ lt1 (D1.over st1 s0 S.zf1) fun x1 p1 t1 e1 y1 r1 => wpAny_pure (wpAny_pure ?_))
    replace r1 : Heap.SameBut i1 g0 p1 := r1
    refine wpAny_bind (wpAny_bind (wpAny_holding ?_))
    show wpAny _ _ (Builtin.SmallTypes.nextOf (.ref i2) >>= fun r => _) _ _ ⟨p1, g, d, t1, os⟩
    refine wpAny_bind (D2.item i _ _ _ lt2 (D2.over (D2.over st2 s0 S.zf2) r1 S.sep1_2) fun x2 p2 t2 e2 y2 r2 => wpAny_pure (wpAny_pure (wpAny_pure ?_)))
    replace r2 : Heap.SameBut i2 p1 p2 := r2
    show wpAny _ _ (newTuple [x1, x2] >>= fun r => _) _ _ ⟨p2, g, d, t2, os⟩; refine wpAny_bind (wpAny_newTuple ?_)
    have sz : p2.objs.size = hp.objs.size := by rw [r2.1, r1.1, s0.1]
    have Z2 : ZF p2 z TI TO v true := (zz0.put r1 S.zi1).put r2 S.zi2
    have all : ∀ c o, c ≠ z → c ≠ i1 → c ≠ i2 → hp.get? c = some o → p2.get? c = some o := fun c o cz c1 c2 e => r2.extBut _ _ c2 (r1.extBut _ _ c1 (s0.extBut _ _ cz e))
    have up : ∀ c o, p2.get? c = some o → (p2.push { cls := .type "tuple", data := .seq #[x1, x2] }).get? c = some o := fun c o e => Heap.get?_push_of_some _ e
    have T5 : IsTupOf2 (p2.push { cls := .type "tuple", data := .seq #[x1, x2] }) p2.objs.size x1 x2 := Heap.get?_push_size _ rfl
    have z5 : (p2.push { cls := .type "tuple", data := .seq #[x1, x2] }).objs.size = p2.objs.size + 1 := Heap.size_push ..
    refine wpAny_pure ⟨_, rfl, ?_⟩
    show Q (.ref p2.objs.size) ⟨_, g, d, t2, os⟩; rw [sz] at T5 z5 ⊢
    exact k x1 x2 _ t2 _ _ _ _ e1 e2 hv (up _ _ Z2) (up _ _ (all _ _ S.TOz S.Ti1 S.Ti2 hTO)) (D1.frame _ _ _ (D1.over y1 r2 S.sep2_1) fun b hb o e => up b o e) (D2.frame _ _ _ y2 fun b hb o e => up b o e) T5 z5 fun c o cz cT c1 c2 e => up c o (all c o cz c1 c2 e)
theorem zipN_end {Q : Fin → Shared → Prop} (S : ZipSep2 z TI TO i1 i2 fp1 fp2) (D1 : Draws prog w A i1 fp1 n1 P1 St1) (D2 : Draws prog w A i2 fp2 n2 P2 St2)
    (hz : ZF s.heap z TI TO v f) (hv : HV v) (hTI : IsTupOf2 s.heap TI (.ref i1) (.ref i2)) (hTO : IsTupOf2 s.heap TO a1 a2) (st1 : St1 i s.heap) (st2 : St2 i s.heap) (le1 : i ≤ n1) (le2 : i ≤ n2) (hend : i = n1 ∨ i = n2)
    (k : ∀ h' tk e, (∀ c o, c ≠ z → c ≠ TO → c ≠ i1 → c ≠ i2 → s.heap.get? c = some o → h'.get? c = some o) → (∃ o, h'.get? e = some o ∧ o.cls = .type "StopIteration") → E (.ref e) { s with heap := h', toks := tk }) :
    wpAny (model prog w) A (Builtin.«zip.__next__» ⟨[.ref z], []⟩) Q E s := by
  obtain ⟨hp, g, d, t0, os⟩ := s
  show wpAny _ _ (field (.ref z) 2 >>= fun r => _) _ _ _; refine wpAny_bind (wpAny_field hz rfl (x := .bool false) rfl ?_)
  show wpAny _ _ (field (.ref z) 3 >>= fun r => _) _ _ _; refine wpAny_bind (wpAny_field hz rfl (x := .ref TI) rfl ?_)
  refine wpAny_bind (wpAny_seqItems hTI rfl ?_)
  show wpAny _ _ (Builtin.SmallTypes.ownedTupleIsFree (.ref z) >>= fun r => _) _ _ _
  refine wpAny_bind (free_any hz hv ?_ fun g0 zz0 s0 => ?_)
  · simp only [if_true]
    refine wpAny_bind (wpAny_rule (wpAny_bind (wpAny_field hz rfl (x := .ref TO) rfl ?_)))
    refine wpAny_bind (wpAny_setField_rec hz (by simp) fun g0 zz0 s0 => ?_)
    replace zz0 : ZF g0 z TI TO .ellipsis f := zz0; replace s0 : Heap.SameBut z hp g0 := s0
    refine wpAny_bind ?_; simp only [List.zipIdx_cons, List.zipIdx_nil, List.forIn_cons, List.forIn_nil]
    refine wpAny_bind (wpAny_bind (wpAny_onRaise ?_))
    show wpAny _ _ (Builtin.SmallTypes.nextOf (.ref i1) >>= fun r => _) _ _ ⟨g0, g, d, t0, os⟩
    by_cases lt1 : i < n1
    · refine wpAny_bind (D1.item i _ _ _ lt1 (D1.over st1 s0 S.zf1) fun x1 p1 t1 e1 y1 r1 => wpAny_pure ?_)
      replace r1 : Heap.SameBut i1 g0 p1 := r1
      have U1 : IsTupOf2 p1 TO a1 a2 := r1.extBut _ _ S.Ti1 (s0.extBut _ _ S.TOz hTO)
      refine wpAny_bind (wpAny_seqItems (s := ⟨p1, g, d, t1, os⟩) U1 rfl (wpAny_bind (updateSeq_IsTupOf2 (s := ⟨p1, g, d, t1, os⟩) U1 fun g1 V1 s1 => ?_)))
      replace s1 : Heap.SameBut TO p1 g1 := s1
      refine wpAny_bind (wpAny_letGo (wpAny_pure (wpAny_bind (wpAny_bind (wpAny_onRaise ?_)))))
      show wpAny _ _ (Builtin.SmallTypes.nextOf (.ref i2) >>= fun r => _) _ _ ⟨g1, g, d, t1, os⟩
      obtain rfl : i = n2 := by omega
      refine wpAny_bind (D2.done ⟨g1, g, d, t1, os⟩ _ _ (D2.over (D2.over (D2.over st2 s0 S.zf2) r1 S.sep1_2) s1 S.Tf2) fun q e xq oe => ?_)
      replace xq : Heap.ExtBut i2 g1 q := xq
      obtain ⟨ob, h1, h2⟩ := oe; replace h1 : q.get? e = some ob := h1
      have Zq : ZF q z TI TO .ellipsis f := xq _ _ S.zi2 ((zz0.put r1 S.zi1).put s1 S.TOz.symm)
      have nez : e ≠ z := fun x => by subst x; have y : q.get? e = _ := Zq; rw [y] at h1; cases h1; simp at h2
      refine wpAny_setField_rec (s := ⟨q, g, d, t1, os⟩) Zq (by simp) fun q' _ s' => ?_
      replace s' : Heap.SameBut z q q' := s'
      exact k q' t1 e (fun c o cz cT c1 c2 x => s'.extBut _ _ cz (xq _ _ c2 (s1.extBut _ _ cT (r1.extBut _ _ c1 (s0.extBut _ _ cz x))))) ⟨ob, s'.extBut _ _ nez h1, h2⟩
    · obtain rfl : i = n1 := by omega
      refine wpAny_bind (D1.done ⟨g0, g, d, t0, os⟩ _ _ (D1.over st1 s0 S.zf1) fun q e xq oe => ?_)
      replace xq : Heap.ExtBut i1 g0 q := xq
      obtain ⟨ob, h1, h2⟩ := oe; replace h1 : q.get? e = some ob := h1
      have Zq : ZF q z TI TO .ellipsis f := xq _ _ S.zi1 zz0
      have nez : e ≠ z := fun x => by subst x; have y : q.get? e = _ := Zq; rw [y] at h1; cases h1; simp at h2
      refine wpAny_setField_rec (s := ⟨q, g, d, t0, os⟩) Zq (by simp) fun q' _ s' => ?_
      replace s' : Heap.SameBut z q q' := s'
      exact k q' t0 e (fun c o cz cT c1 c2 x => s'.extBut _ _ cz (xq _ _ c1 (s0.extBut _ _ cz x))) ⟨ob, s'.extBut _ _ nez h1, h2⟩
  · replace s0 : Heap.SameBut z hp g0 := s0
    simp only [Bool.false_eq_true, if_false]
    refine wpAny_bind ?_; rw [← Array.forIn_toList]; simp only [List.forIn_cons, List.forIn_nil]
    refine wpAny_bind (wpAny_bind (wpAny_holding ?_))
    show wpAny _ _ (Builtin.SmallTypes.nextOf (.ref i1) >>= fun r => _) _ _ ⟨g0, g, d, t0, os⟩
    by_cases lt1 : i < n1
    · refine wpAny_bind (D1.item i _ _ _ lt1 (D1.over st1 s0 S.zf1) fun x1 p1 t1 e1 y1 r1 => wpAny_pure (wpAny_pure ?_))
      replace r1 : Heap.SameBut i1 g0 p1 := r1
      refine wpAny_bind (wpAny_bind (wpAny_holding ?_))
      show wpAny _ _ (Builtin.SmallTypes.nextOf (.ref i2) >>= fun r => _) _ _ ⟨p1, g, d, t1, os⟩
      obtain rfl : i = n2 := by omega
      refine wpAny_bind (D2.done ⟨p1, g, d, t1, os⟩ _ _ (D2.over (D2.over st2 s0 S.zf2) r1 S.sep1_2) fun q e xq oe => ?_)
      replace xq : Heap.ExtBut i2 p1 q := xq
      exact k q t1 e (fun c o cz cT c1 c2 x => xq _ _ c2 (r1.extBut _ _ c1 (s0.extBut _ _ cz x))) oe
    · obtain rfl : i = n1 := by omega
      refine wpAny_bind (D1.done ⟨g0, g, d, t0, os⟩ _ _ (D1.over st1 s0 S.zf1) fun q e xq oe => ?_)
      replace xq : Heap.ExtBut i1 g0 q := xq
      exact k q t0 e (fun c o cz cT c1 c2 x => xq _ _ c1 (s0.extBut _ _ cz x)) oe
theorem nextZ_item {Q : Value → Shared → Prop} (S : ZipSep2 z TI TO i1 i2 fp1 fp2) (D1 : Draws prog w A.in1 i1 fp1 n1 P1 St1) (D2 : Draws prog w A.in1 i2 fp2 n2 P2 St2)
    (hz : ZF s.heap z TI TO v f) (hv : HV v) (hTI : IsTupOf2 s.heap TI (.ref i1) (.ref i2)) (hTO : IsTupOf2 s.heap TO a1 a2) (st1 : St1 i s.heap) (st2 : St2 i s.heap) (lt1 : i < n1) (lt2 : i < n2)
    (k : ∀ x1 x2 h' tk v' f' b1 b2, P1 i x1 → P2 i x2 → HV v' → ZF h' z TI TO v' f' → IsTupOf2 h' TO b1 b2 → St1 (i + 1) h' → St2 (i + 1) h' → IsTupOf2 h' s.heap.objs.size x1 x2 → h'.objs.size = s.heap.objs.size + 1 →
      (∀ c o, c ≠ z → c ≠ TO → c ≠ i1 → c ≠ i2 → s.heap.get? c = some o → h'.get? c = some o) → Q (.ref s.heap.objs.size) { s with heap := h', toks := tk }) :
    wpAny (model prog w) A (Builtin.SmallTypes.nextOf (.ref z)) Q E s := by
  have hT : s.TypeIs (.ref z) "zip" := ⟨_, hz, rfl⟩
  unfold Builtin.SmallTypes.nextOf
  refine wpAny_bind (wpAny_callSpecial?_slot (name := Str.ofString "__next__") hT F.slot_zip_next (wpAny_call_entry F.slot_zip_next hT F.entry_zip_next ?_ (F.args_zip_next_1 _)))
  exact zipN_item S D1 D2 hz hv hTI hTO st1 st2 lt1 lt2 fun x1 x2 h' tk v' f' b1 b2 c1 c2 c3 c4 c5 c6 c7 c8 c9 c10 => wpAny_pure (k x1 x2 h' tk v' f' b1 b2 c1 c2 c3 c4 c5 c6 c7 c8 c9 c10)
theorem nextZ_end {Q : Value → Shared → Prop} (S : ZipSep2 z TI TO i1 i2 fp1 fp2) (D1 : Draws prog w A.in1 i1 fp1 n1 P1 St1) (D2 : Draws prog w A.in1 i2 fp2 n2 P2 St2)
    (hz : ZF s.heap z TI TO v f) (hv : HV v) (hTI : IsTupOf2 s.heap TI (.ref i1) (.ref i2)) (hTO : IsTupOf2 s.heap TO a1 a2) (st1 : St1 i s.heap) (st2 : St2 i s.heap) (le1 : i ≤ n1) (le2 : i ≤ n2) (hend : i = n1 ∨ i = n2)
    (k : ∀ h' tk e, (∀ c o, c ≠ z → c ≠ TO → c ≠ i1 → c ≠ i2 → s.heap.get? c = some o → h'.get? c = some o) → (∃ o, h'.get? e = some o ∧ o.cls = .type "StopIteration") → E (.ref e) { s with heap := h', toks := tk }) :
    wpAny (model prog w) A (Builtin.SmallTypes.nextOf (.ref z)) Q E s := by
  have hT : s.TypeIs (.ref z) "zip" := ⟨_, hz, rfl⟩
  unfold Builtin.SmallTypes.nextOf
  exact wpAny_bind (wpAny_callSpecial?_slot (name := Str.ofString "__next__") hT F.slot_zip_next (wpAny_call_entry F.slot_zip_next hT F.entry_zip_next (zipN_end S D1 D2 hz hv hTI hTO st1 st2 le1 le2 hend k) (F.args_zip_next_1 _)))
/-- the enumerate's step over such a zip -/
theorem enumZ_item {e : Addr} {old : Value} {Q : Option Value → Shared → Prop} (S : ZipSep2 z TI TO i1 i2 fp1 fp2) (D1 : Draws prog w A.in1.in1 i1 fp1 n1 P1 St1) (D2 : Draws prog w A.in1.in1 i2 fp2 n2 P2 St2)
    (he : IsEnum s.heap e z i old) (ez : e ≠ z) (eT : e ≠ TO) (e1 : e ∉ fp1) (e2 : e ∉ fp2)
    (hz : ZF s.heap z TI TO v f) (hv : HV v) (hTI : IsTupOf2 s.heap TI (.ref i1) (.ref i2)) (hTO : IsTupOf2 s.heap TO a1 a2) (st1 : St1 i s.heap) (st2 : St2 i s.heap) (lt1 : i < n1) (lt2 : i < n2)
    (k : ∀ x1 x2 h' tk t v' f' b1 b2, P1 i x1 → P2 i x2 → HV v' → ZF h' z TI TO v' f' → IsTupOf2 h' TO b1 b2 → St1 (i + 1) h' → St2 (i + 1) h' → IsTupOf2 h' s.heap.objs.size x1 x2 → h'.objs.size = s.heap.objs.size + 2 →
      IsTupOf2 h' (s.heap.objs.size + 1) (.int i t) (.ref s.heap.objs.size) → IsEnumOut h' e z ((i : Int) + 1) (.ref s.heap.objs.size) (s.heap.objs.size + 1) →
      (∀ c o, c ≠ e → c ≠ z → c ≠ TO → c ≠ i1 → c ≠ i2 → s.heap.get? c = some o → h'.get? c = some o) → Q (some (.ref (s.heap.objs.size + 1))) { s with heap := h', toks := tk }) :
    wpAny (model prog w) A (pyNext (.ref e)) Q E s := by
  have hT : s.TypeIs (.ref e) "enumerate" := ⟨_, he, rfl⟩
  unfold pyNext
  refine wpAny_bind (wpAny_attempt (wpAny_callSpecial?_slot (name := Str.ofString "__next__") hT F.slot_enumerate_next (wpAny_call_entry F.slot_enumerate_next hT F.entry_enumerate_next ?_ (F.args_enumerate_next_1 _))))
  obtain ⟨hp, g, d, t0, os⟩ := s
  have ei1 : e ≠ i1 := fun q => e1 (q ▸ S.mem1)
  have ei2 : e ≠ i2 := fun q => e2 (q ▸ S.mem2)
  have elt : e < hp.objs.size := Heap.lt_size he
  show wpAny _ _ (field (.ref e) 2 >>= fun r => _) _ _ _; refine wpAny_bind (wpAny_field he rfl (x := .ref z) rfl ?_)
  refine wpAny_bind (nextZ_item S D1 D2 hz hv hTI hTO st1 st2 lt1 lt2 fun x1 x2 q t v' f' b1 b2 c1 c2 c3 c4 c5 c6 c7 c8 c9 c10 => ?_)
  replace c8 : IsTupOf2 q hp.objs.size x1 x2 := c8; replace c9 : q.objs.size = hp.objs.size + 1 := c9; replace c10 : ∀ c o, c ≠ z → c ≠ TO → c ≠ i1 → c ≠ i2 → hp.get? c = some o → q.get? c = some o := c10
  have E1 : IsEnum q e z i old := c10 _ _ ez eT ei1 ei2 he
  show wpAny _ _ (field (.ref e) 3 >>= fun r => _) _ _ ⟨q, g, d, t, os⟩; refine wpAny_bind (wpAny_field E1 rfl (x := rawInt i) rfl ?_)
  show wpAny _ _ (field (.ref e) 4 >>= fun r => _) _ _ ⟨q, g, d, t, os⟩; refine wpAny_bind (wpAny_field E1 rfl (x := .none) rfl ?_)
  show wpAny _ _ (mkInt i >>= fun r => _) _ _ ⟨q, g, d, t, os⟩; refine wpAny_bind (wpAny_mkInt ?_)
  show wpAny _ _ (setField (.ref e) 3 (rawInt ((i : Int) + 1)) >>= fun r => _) _ _ ⟨q, g, d, t + 1, os⟩
  refine wpAny_bind (wpAny_setField_rec E1 (by simp) fun q2 E2 r2 => ?_)
  replace r2 : Heap.SameBut e q q2 := r2; replace E2 : IsEnum q2 e z ((i : Int) + 1) old := E2
  show wpAny _ _ (setField (.ref e) 4 .none >>= fun r => _) _ _ ⟨q2, g, d, t + 1, os⟩
  refine wpAny_bind (wpAny_setField_rec E2 (by simp) fun q3 E3 r3 => ?_)
  replace r3 : Heap.SameBut e q2 q3 := r3; replace E3 : IsEnum q3 e z ((i : Int) + 1) old := E3
  show wpAny _ _ (newTuple [.int i t, .ref hp.objs.size] >>= fun r => _) _ _ ⟨q3, g, d, t + 1, os⟩; refine wpAny_bind (wpAny_newTuple ?_)
  have E4 : IsEnum (q3.push { cls := .type "tuple", data := .seq #[.int i t, .ref hp.objs.size] }) e z ((i : Int) + 1) old := Heap.get?_push_of_some _ E3
  generalize eq4 : q3.push { cls := .type "tuple", data := .seq #[.int i t, .ref hp.objs.size] } = q4 at E4
  have z3 : q3.objs.size = hp.objs.size + 1 := by rw [r3.1, r2.1, c9]
  have T4 : IsTupOf2 q4 (hp.objs.size + 1) (.int i t) (.ref hp.objs.size) := by rw [← eq4, ← z3]; exact Heap.get?_push_size _ rfl
  have z4 : q4.objs.size = hp.objs.size + 2 := by rw [← eq4, Heap.size_push, z3]
  have up4 : ∀ c o, c ≠ e → q.get? c = some o → q4.get? c = some o := fun c o ce x => by rw [← eq4]; exact Heap.get?_push_of_some _ (r3.extBut _ _ ce (r2.extBut _ _ ce x))
  show wpAny _ _ (Builtin.SmallTypes.ownedTupleIsFree (.ref e) >>= fun r => _) _ _ ⟨q4, g, d, t + 1, os⟩
  rw [z3]; clear eq4 E3 r3 E2 r2 q2 z3 q3
  refine wpAny_bind ?_
  unfold Builtin.SmallTypes.ownedTupleIsFree
  refine wpAny_bind (wpAny_field E4 rfl (x := .none) rfl (wpAny_pure ?_)); simp only [if_true]
  refine wpAny_bind (wpAny_rule (wpAny_bind (wpAny_field E4 rfl (x := old) rfl (wpAny_bind (wpAny_setField_rec E4 (by simp) fun q5 E5 r5 => ?_)))))
  replace r5 : Heap.SameBut e q4 q5 := r5; replace E5 : IsEnum q5 e z ((i : Int) + 1) (.ref hp.objs.size) := E5
  show wpAny _ _ (Builtin.SmallTypes.ownedTupleHandOut (.ref e) (.ref (hp.objs.size + 1)) >>= fun r => _) _ _ ⟨q5, g, d, t + 1, os⟩
  refine wpAny_bind ?_; unfold Builtin.SmallTypes.ownedTupleHandOut
  refine wpAny_bind (wpAny_setField_rec E5 (by simp) fun q6 E6 r6 => ?_)
  replace r6 : Heap.SameBut e q5 q6 := r6; replace E6 : IsEnumOut q6 e z ((i : Int) + 1) (.ref hp.objs.size) (hp.objs.size + 1) := E6
  refine wpAny_setField_rec E6 (by simp) fun q7 E7 r7 => ?_
  replace r7 : Heap.SameBut e q6 q7 := r7; replace E7 : IsEnumOut q7 e z ((i : Int) + 1) (.ref hp.objs.size) (hp.objs.size + 1) := E7
  have up7 : ∀ c o, c ≠ e → q4.get? c = some o → q7.get? c = some o := fun c o ce x => r7.extBut _ _ ce (r6.extBut _ _ ce (r5.extBut _ _ ce x))
  have up : ∀ c o, c ≠ e → q.get? c = some o → q7.get? c = some o := fun c o ce x => up7 _ _ ce (up4 _ _ ce x)
  have z7 : q7.objs.size = hp.objs.size + 2 := by rw [r7.1, r6.1, r5.1, z4]
  refine wpAny_bind (wpAny_letGo (wpAny_pure ⟨_, rfl, wpAny_pure ?_⟩))
  exact k x1 x2 q7 (t + 1) t v' f' b1 b2 c1 c2 c3 (up _ _ ez.symm c4) (up _ _ eT.symm c5) (D1.frame _ _ _ c6 fun b hb o x => up b o (fun y => e1 (y ▸ hb)) x) (D2.frame _ _ _ c7 fun b hb o x => up b o (fun y => e2 (y ▸ hb)) x)
    (up _ _ (Nat.ne_of_gt elt) c8) z7 (up7 _ _ (Nat.ne_of_gt (Nat.lt_succ_of_lt elt)) T4) E7 fun c o ce cz cT d1 d2 x => up c o ce (c10 c o cz cT d1 d2 x)
theorem enumZ_end {e : Addr} {j : Int} {old : Value} {Q : Option Value → Shared → Prop} (S : ZipSep2 z TI TO i1 i2 fp1 fp2) (D1 : Draws prog w A.in1.in1 i1 fp1 n1 P1 St1) (D2 : Draws prog w A.in1.in1 i2 fp2 n2 P2 St2)
    (he : IsEnum s.heap e z j old) (hz : ZF s.heap z TI TO v f) (hv : HV v) (hTI : IsTupOf2 s.heap TI (.ref i1) (.ref i2)) (hTO : IsTupOf2 s.heap TO a1 a2) (st1 : St1 i s.heap) (st2 : St2 i s.heap) (le1 : i ≤ n1) (le2 : i ≤ n2) (hend : i = n1 ∨ i = n2)
    (k : ∀ h' tk, (∀ c o, c ≠ z → c ≠ TO → c ≠ i1 → c ≠ i2 → s.heap.get? c = some o → h'.get? c = some o) → Q none { s with heap := h', toks := tk }) :
    wpAny (model prog w) A (pyNext (.ref e)) Q E s := by
  have hT : s.TypeIs (.ref e) "enumerate" := ⟨_, he, rfl⟩
  unfold pyNext
  refine wpAny_bind (wpAny_attempt (wpAny_callSpecial?_slot (name := Str.ofString "__next__") hT F.slot_enumerate_next (wpAny_call_entry F.slot_enumerate_next hT F.entry_enumerate_next ?_ (F.args_enumerate_next_1 _))))
  show wpAny _ _ (field (.ref e) 2 >>= fun r => _) _ _ _; refine wpAny_bind (wpAny_field he rfl (x := .ref z) rfl ?_)
  refine wpAny_bind (nextZ_end S D1 D2 hz hv hTI hTO st1 st2 le1 le2 hend fun h' tk x kp hx => ?_)
  obtain ⟨o, ho, hc⟩ := hx
  refine wpAny_bind (wpAny_isInstance (T := "StopIteration") (b := true) ⟨o, ho, hc⟩ isSubtype_stop ?_)
  exact wpAny_pure (k h' tk kp)
theorem meets_enumZ (z : Addr) (TI TO : Addr) :
    Meets (Builtin.«enumerate.__new__» ⟨[.type "enumerate", .ref z], []⟩) (fun _ R s => IsZip s.heap z TI TO .none ∧
      R (.ok (.ret (.ref s.heap.objs.size))) { s with heap := s.heap.push { cls := .type "enumerate", data := .fields #[.none, .bool false, .ref z, rawInt 0, .none, .none] } }) :=
  .of_wp fun prog w A R s h => by
    obtain ⟨hp, g, d, tk, os⟩ := s; obtain ⟨h1, h⟩ := h
    have hsub := sub_enumerate
    have q1 : ∀ {A' : Around} {E : Value → Shared → Prop} {Q : Value → Shared → Prop}, Q (.ref z) ⟨hp, g, d, tk, os⟩ → wpAny (model prog w) A' (pyIter (.ref z)) Q E ⟨hp, g, d, tk, os⟩ := fun q => wpAny_pyIter_zip h1 q
    wp_walk using q1
    refine wpAny_stack_any fun st => wpAny_pure ?_
    split
    · rename_i c _ _ _ _ _
      cases (c == Value.type "enumerate") <;> (wp_walk using q1; exact ⟨_, rfl, h⟩)
    · wp_walk using q1
      exact ⟨_, rfl, h⟩
theorem call_enumZ {Q : Value → Shared → Prop} (hz : IsZip s.heap z TI TO .none)
    (k : ∀ h', IsEnum h' s.heap.objs.size z 0 .none → h'.objs.size = s.heap.objs.size + 1 → (∀ b o, s.heap.get? b = some o → h'.get? b = some o) → Q (.ref s.heap.objs.size) { s with heap := h' }) :
    wpAny (model prog w) A (call (.type "enumerate") [.ref z]) Q E s := by
  refine callType_new F.called_enumerate (by decide) (F.typeCall_enumerate_1 _) (F.newCall_enumerate_1 _) (fun obj => F.args_object_init_2 obj _) F.entry_enumerate_new (meets_enumZ z TI TO) ⟨hz, ?_⟩
  have he : IsEnum (s.heap.push { cls := .type "enumerate", data := .fields #[.none, .bool false, .ref z, rawInt 0, .none, .none] }) s.heap.objs.size z 0 .none := Heap.get?_push_size _ rfl
  exact ⟨⟨_, he, rfl⟩, k _ he (Heap.size_push ..) fun b o y => Heap.get?_push_of_some _ y⟩
end
/-- the turns: a pair of the number and a pair, both new -/
def ItZ (vals : Nat → List V) (n : Nat) : It := ⟨fun i _ => i < n, fun i H v H' => ∃ T T1, v = .ref T ∧ H T1 = none ∧ H T = none ∧ T ≠ T1 ∧ H' = upd (upd H T1 (.tup (vals i))) T (.tup [.int (i : Nat), .ref T1]), fun i _ => i = n⟩
/-- what an enumerate e over a zip z over two iterators is, behind i turns -/
def EZ (e z TI TO i1 i2 : Addr) (St1 St2 : Nat → Heap → Prop) (i : Nat) (h : Heap) : Prop :=
  (∃ old, IsEnum h e z i old) ∧ (∃ v f, HV v ∧ ZF h z TI TO v f) ∧ IsTupOf2 h TI (.ref i1) (.ref i2) ∧ (∃ a1 a2, IsTupOf2 h TO a1 a2) ∧ St1 i h ∧ St2 i h
theorem turn_Z {P : Program} {w : World} {K : PySem.W.Frag} {elts : List Expr} {kk : Nat} {tpos : Pos} {e z TI TO i1 i2 : Addr} {fp1 fp2 : List Addr} {n1 n2 : Nat} {P1 P2 : Nat → Value → Prop} {St1 St2 : Nat → Heap → Prop} {vals : Nat → List V}
    (S : ZipSep2 z TI TO i1 i2 fp1 fp2) (D1 : ∀ A : Around, A.handled = none → Draws P w A i1 fp1 n1 P1 St1) (D2 : ∀ A : Around, A.handled = none → Draws P w A i2 fp2 n2 P2 St2)
    (ez : e ≠ z) (eT : e ≠ TO) (eTI : e ≠ TI) (e1 : e ∉ fp1) (e2 : e ∉ fp2) (c1 : ∀ i h, St1 i h → ∀ b ∈ fp1, ∃ o, h.get? b = some o ∧ ∀ v, o.data ≠ .cell v) (c2 : ∀ i h, St2 i h → ∀ b ∈ fp2, ∃ o, h.get? b = some o ∧ ∀ v, o.data ≠ .cell v)
    (tell : ∀ i x y, P1 i x → P2 i y → Vals (vals i) [x, y]) (few : ∀ i, (vals i).length ≤ sizeLine) :
    Turn P w K (.Tuple elts kk tpos) (ItZ vals (min n1 n2)) (e :: z :: TI :: TO :: (fp1 ++ fp2)) e (EZ e z TI TO i1 i2 St1 St2) where
  mem := by simp
  obj := by
    rintro i h ⟨⟨old, he⟩, ⟨v, f, hv, hz⟩, hTI, ⟨a1, a2, hTO⟩, st1, st2⟩ b hb
    have hb' : b = e ∨ b = z ∨ b = TI ∨ b = TO ∨ b ∈ fp1 ∨ b ∈ fp2 := by simpa using hb
    rcases hb' with rfl | rfl | rfl | rfl | h1 | h1
    · exact ⟨_, he, fun v z => nomatch z⟩
    · exact ⟨_, hz, fun v z => nomatch z⟩
    · exact ⟨_, hTI, fun v z => nomatch z⟩
    · exact ⟨_, hTO, fun v z => nomatch z⟩
    · exact c1 i h st1 b h1
    · exact c2 i h st2 b h1
  keep := by
    rintro i h h' ⟨⟨old, he⟩, ⟨v, f, hv, hz⟩, hTI, ⟨a1, a2, hTO⟩, st1, st2⟩ k
    exact ⟨⟨old, k _ (by simp) _ he⟩, ⟨v, f, hv, k _ (by simp) _ hz⟩, k _ (by simp) _ hTI, ⟨a1, a2, k _ (by simp) _ hTO⟩, (D1 {} rfl).frame _ _ _ st1 fun b hb o x => k b (by simp [hb]) o x, (D2 {} rfl).frame _ _ _ st2 fun b hb o x => k b (by simp [hb]) o x⟩
  item := by
    rintro X rfl rfl rfl calm i pins s σ H E I apart ⟨⟨old, he⟩, ⟨v, f, hv, hz⟩, hTI, ⟨a1, a2, hTO⟩, st1, st2⟩ go
    have hh := I.ok.hd calm
    have lt1 : i < n1 := Nat.lt_of_lt_of_le go (Nat.min_le_left ..)
    have lt2 : i < n2 := Nat.lt_of_lt_of_le go (Nat.min_le_right ..)
    refine enumZ_item S (D1 _ hh) (D2 _ hh) he ez eT e1 e2 hz hv hTI hTO st1 st2 lt1 lt2 fun x1 x2 h' tk t v' f' b1 b2 p1 p2 hv' hz' hTO' s1' s2' hT1 hsz hT hE kp => ⟨_, rfl, ?_⟩
    refine wpAny_letOwnedTupleGo_enum hE fun h2 hE2 sb => ?_
    replace sb : Heap.SameBut e h' h2 := sb
    have elt : e < s.heap.objs.size := Heap.lt_size he
    have up : ∀ c o, c ≠ e → h'.get? c = some o → h2.get? c = some o := fun c o ce x => sb.extBut _ _ ce x
    have fp_e : ∀ b ∈ e :: z :: TI :: TO :: (fp1 ++ fp2), b < s.heap.objs.size := fun b hb => by
      have hb' : b = e ∨ b = z ∨ b = TI ∨ b = TO ∨ b ∈ fp1 ∨ b ∈ fp2 := by simpa using hb
      rcases hb' with rfl | rfl | rfl | rfl | q | q
      · exact elt
      · exact Heap.lt_size hz
      · exact Heap.lt_size hTI
      · exact Heap.lt_size hTO
      · obtain ⟨o, ho, _⟩ := c1 _ _ st1 _ q; exact Heap.lt_size ho
      · obtain ⟨o, ho, _⟩ := c2 _ _ st2 _ q; exact Heap.lt_size ho
    -- the inner tuple first
    have q1 : H s.heap.objs.size = none := I.hok.fresh (Nat.le_refl _)
    have I1 : Inv X pins σ (upd H s.heap.objs.size (.tup (vals i))) { s with heap := s.heap.push { cls := .type "tuple", data := .seq #[x1, x2] } } := by
      refine I.laid (t' := s.toks) (fun b u e => Heap.get?_push_of_some _ e) (Nat.le_refl _) ⟨few i, [x1, x2], tell i _ _ p1 p2, _, Heap.get?_push_size _ rfl, rfl, _, rfl⟩
    have n1' : s.heap.objs.size + 1 ≠ s.heap.objs.size := Nat.succ_ne_self _
    have I2 : Inv X pins σ (upd (upd H s.heap.objs.size (.tup (vals i))) (s.heap.objs.size + 1) (.tup [.int (i : Nat), .ref s.heap.objs.size])) { s with heap := h2, toks := tk } := by
      refine I1.turnedNew (ch := e :: z :: TI :: TO :: (fp1 ++ fp2)) (fun b u hb q => ?_) (fun b hb => ?_) (by show (s.heap.push _).objs.size ≤ _; rw [Heap.size_push]; exact Nat.le_refl _) ⟨by show 2 ≤ sizeLine; decide, [.int i t, .ref s.heap.objs.size], .cons ⟨t, rfl⟩ (.cons rfl .nil), _, up _ _ (Nat.ne_of_gt (Nat.lt_succ_of_lt elt)) hT, rfl, _, rfl⟩
      · have nb : b ≠ e ∧ b ≠ z ∧ b ≠ TI ∧ b ≠ TO ∧ b ∉ fp1 ∧ b ∉ fp2 := by simpa using hb
        replace q : (s.heap.push { cls := .type "tuple", data := .seq #[x1, x2] }).get? b = some u := q
        by_cases hbs : b = s.heap.objs.size
        · subst hbs
          have y := Heap.get?_push_size s.heap (o := { cls := .type "tuple", data := .seq #[x1, x2] }) rfl
          rw [y] at q
          cases q
          exact up _ _ nb.1 hT1
        · have y : s.heap.get? b = some u := by rw [← q]; exact (Heap.get?_push_ne _ _ _ hbs).symm
          exact up _ _ nb.1 (kp b u nb.1 nb.2.1 nb.2.2.2.1 (fun z => nb.2.2.2.2.1 (z ▸ S.mem1)) (fun z => nb.2.2.2.2.2 (z ▸ S.mem2)) y)
      · have a := apart b hb
        refine ⟨?_, a.2⟩
        rw [upd_ne (Nat.ne_of_lt (fp_e b hb))]
        exact a.1
    refine ⟨.ref (s.heap.objs.size + 1), _, I2, rfl, ⟨_, _, rfl, q1, I.hok.fresh (Nat.le_succ _), n1', rfl⟩, ⟨⟨_, by have y := hE2; push_cast at y ⊢; exact y⟩, ⟨v', f', hv', up _ _ ez.symm hz'⟩, up _ _ eTI.symm (kp _ _ eTI.symm S.TIz S.TITO S.TIi1 S.TIi2 hTI), ⟨b1, b2, up _ _ eT.symm hTO'⟩,
      (D1 {} rfl).frame _ _ _ s1' fun b hb o x => up b o (fun y => e1 (y ▸ hb)) x, (D2 {} rfl).frame _ _ _ s2' fun b hb o x => up b o (fun y => e2 (y ▸ hb)) x⟩, fun b hb => ?_⟩
    have lt := fp_e b hb
    rw [upd_ne (Nat.ne_of_lt (Nat.lt_succ_of_lt lt)), upd_ne (Nat.ne_of_lt lt)]
    exact (apart b hb).1
  done := by
    rintro X rfl rfl rfl calm i pins s σ H E I apart ⟨⟨old, he⟩, ⟨v, f, hv, hz⟩, hTI, ⟨a1, a2, hTO⟩, st1, st2⟩ stop
    have hh := I.ok.hd calm
    have eqi : i = min n1 n2 := stop
    refine enumZ_end S (D1 _ hh) (D2 _ hh) he hz hv hTI hTO st1 st2 (by rw [eqi]; exact Nat.min_le_left ..) (by rw [eqi]; exact Nat.min_le_right ..) (by omega) fun h' tk kp => ⟨rfl, ?_⟩
    refine I.turnedL (ch := e :: z :: TI :: TO :: (fp1 ++ fp2)) (fun b u hb q => ?_) apart
    have nb : b ≠ e ∧ b ≠ z ∧ b ≠ TI ∧ b ≠ TO ∧ b ∉ fp1 ∧ b ∉ fp2 := by simpa using hb
    exact kp b u nb.2.1 nb.2.2.2.1 (fun z => nb.2.2.2.2.1 (z ▸ S.mem1)) (fun z => nb.2.2.2.2.2 (z ▸ S.mem2)) q
  self := fun A i s Q E st q => wpAny_pyIter_enum st.1.choose_spec q
section
variable {X : Cx} {elts : List Expr} {kk : Nat} {tpos p pos p2 pos2 : Pos} {e1 e2 : Expr} {ta : TA}
def iEnumZ (ta : TA) : TI := fun σ H R => ta σ H fun vs H1 => ∃ x y : Str, vs = [.str x, .str y] ∧ R (ItZ (fun i => [.str (sgn x i), .str (sgn y i)]) (min x.cps.size y.cps.size)) H1
theorem pi_enumZ (hg : Gl X "enumerate") (hm : X.mg "enumerate" = none) (hg2 : Gl X "zip") (hm2 : X.mg "zip" = none) (ha : PA X [e1, e2] ta)
    (hs0 : starEach [Expr.Call (.Name "zip" p2) [e1, e2] [] pos2] X.env = [(false, eval (Expr.Call (.Name "zip" p2) [e1, e2] [] pos2) X.env)] := by rfl)
    (hs : starEach [e1, e2] X.env = (false, eval e1 X.env) :: starEach [e2] X.env := by rfl) (hp : (backTo pos2 (starEach [e2] X.env)).any (·.1) = false := by rfl) :
    PI X (.Tuple elts kk tpos) (.Call (.Name "enumerate" p) [.Call (.Name "zip" p2) [e1, e2] [] pos2] [] pos) (iEnumZ ta) := by
  constructor
  intro pins s σ H R I h
  refine Call_ (ld_blt I hg hm boot_enumerate (callWith_type1 ?_ hs0 rfl))
  rw [hs0]
  show wpAny _ _ (spliced ((false, eval (Expr.Call (.Name "zip" p2) [e1, e2] [] pos2) X.env) :: backTo pos [])) _ _ s
  refine Calls.spliced_cons (Call_ (ld_blt I hg2 hm2 PyProof.Rows.boot_zip (callWith_type1 ?_ hs hp)))
  apply thn (ha.run pos2 pins s σ H _ I h)
  rintro us s1 ⟨vs, H1, I1, rel, x, y, rfl, q⟩
  obtain ⟨u1, u2, rfl, r1, r2⟩ := vals2 rel
  obtain ⟨t1, rfl⟩ := (show ∃ t, u1 = Value.str x t from r1)
  obtain ⟨t2, rfl⟩ := (show ∃ t, u2 = Value.str y t from r2)
  apply zip_begins2 (begins_text x t1) (begins_text y t2) trivial trivial
  intro h' hz hTI hTO g1 g2 hsz keep
  refine Calls.spliced_nil ?_
  refine call_enumZ (s := { s1 with heap := h' }) hz fun h2 hE hsz2 keep2 => ?_
  replace hsz2 : h2.objs.size = h'.objs.size + 1 := hsz2; replace keep2 : ∀ b o, h'.get? b = some o → h2.get? b = some o := keep2
  replace hE : IsEnum h2 h'.objs.size (s1.heap.objs.size + 4) 0 .none := hE
  show wpAny _ _ (pyIter (.ref h'.objs.size)) _ _ _
  rw [hsz] at hE ⊢
  apply wpAny_pyIter_enum hE
  have I2 : Inv X pins σ H1 { s1 with heap := h2 } := I1.kept (t' := s1.toks) fun b u z => keep2 _ _ (keep _ _ z)
  have S := zip_sep2 (N := s1.heap.objs.size) (fp1 := []) (fp2 := []) (fun b z => nomatch z) (fun b z => nomatch z)
  have one : ∀ {b c : Addr}, b ∈ ([c] : List Addr) → b = c := fun z => List.mem_singleton.mp z
  refine ⟨s1.heap.objs.size + 5, _, _, _, H1, rfl, I2, turn_Z (e := s1.heap.objs.size + 5) S (fun A hh => draws_text hh _ x t1) (fun A hh => draws_text hh _ y t2) (by show (_ : Nat) ≠ _; omega) (by show (_ : Nat) ≠ _; omega) (by show (_ : Nat) ≠ _; omega) (fun z => absurd (one z) (by show (_ : Nat) ≠ _; omega)) (fun z => absurd (one z) (by show (_ : Nat) ≠ _; omega))
      (fun i h st b hb => by rw [one hb]; exact text_cell st) (fun i h st b hb => by rw [one hb]; exact text_cell st) (fun i a b pa pb => .cons (rel_sgn pa) (.cons (rel_sgn pb) .nil)) (fun i => by show 2 ≤ sizeLine; decide),
    ⟨⟨.none, hE⟩, ⟨.none, false, .inl rfl, keep2 _ _ hz⟩, keep2 _ _ hTI, ⟨_, _, keep2 _ _ hTO⟩, text_begun (keep2 _ _ g1), text_begun (keep2 _ _ g2)⟩, fun b hb => ?_, q⟩
  have hb' : b = s1.heap.objs.size + 5 ∨ b = s1.heap.objs.size + 4 ∨ b = s1.heap.objs.size + 2 ∨ b = s1.heap.objs.size + 3 ∨ b = s1.heap.objs.size ∨ b = s1.heap.objs.size + 1 := by simpa using hb
  have le : s1.heap.objs.size ≤ b := by rcases hb' with rfl | rfl | rfl | rfl | rfl | rfl <;> (show (_ : Nat) ≤ _; omega)
  exact I1.fpOk le (I1.hok.fresh le)
end
theorem lc_Z {vals : Nat → List V} {n : Nat} {g : TG} {tt : TT} {te : TE} {vs : List Nat} {σ : L2.St} {H1 : Hp} {D : Addr} {Qd : Hp → Prop} (Pv : Nat → Hp → Prop) (h0 : Pv 0 (upd H1 D (.lst [])))
    (hs : ∀ i T T1 H, i < n → Pv i H → H T1 = none → H T = none → T ≠ T1 → g (.ref T) (wipe σ vs) (upd (upd H T1 (.tup (vals i))) T (.tup [.int (i : Nat), .ref T1])) fun σ2 H2 => wipe σ2 vs = wipe σ vs ∧ tt σ2 H2 fun b H3 =>
      if b = true then te σ2 H3 fun y H4 => ∃ acc, H4 D = some (.lst acc) ∧ acc.length < sizeLine ∧ Pv (i + 1) (upd H4 D (.lst (acc ++ [y]))) else Pv (i + 1) H3) (hd : ∀ H, Pv n H → Qd H) :
    ∃ W : Nat → Nat → Hp → Prop, (∃ m, W 0 m (upd H1 D (.lst []))) ∧ ∀ i m H, W i m H →
      ((ItZ vals n).stop i H ∧ Qd H) ∨ ((ItZ vals n).go i H ∧ ∃ Nx : Hp → Prop, (∀ H', Nx H' → ∃ m', m' < m ∧ W (i + 1) m' H') ∧ ∀ x H', (ItZ vals n).yld i H x H' → g x (wipe σ vs) H' fun σ2 H2 => wipe σ2 vs = wipe σ vs ∧ tt σ2 H2 fun b H3 =>
        if b = true then te σ2 H3 fun y H4 => ∃ acc, H4 D = some (.lst acc) ∧ acc.length < sizeLine ∧ Nx (upd H4 D (.lst (acc ++ [y]))) else Nx H3) := by
  refine ⟨fun i m H => i + m = n ∧ Pv i H, ⟨n, by omega, h0⟩, fun i m H ⟨hm, p⟩ => ?_⟩
  by_cases lt : i < n
  · refine Or.inr ⟨lt, Pv (i + 1), fun H' p' => ⟨m - 1, by omega, by omega, p'⟩, ?_⟩
    rintro x H' ⟨T, T1, rfl, h1, h2, h3, rfl⟩
    exact hs i T T1 H lt p h1 h2 h3
  · obtain rfl : i = n := by omega
    exact Or.inl ⟨rfl, hd H p⟩
end Fb
set_option maxRecDepth 100000
set_option maxHeartbeats 4000000
namespace Fb
open PySem PySem.Spec PyProof.Rows L2
open SX (S)
/-! the numbers of unlike bits -/
def unlNs (l m : List Nat) : List Nat := (List.range (min (bt l).length (bt m).length)).filter fun i => decide ((bt l).getD i 0 ≠ (bt m).getD i 0)
def unlZ (l m : List Nat) : Nat := ((List.zipWith (fun a b => decide (a ≠ b)) l m).filter id).length
theorem unlZ_cons (a b : Nat) (l m : List Nat) : unlZ (a :: l) (b :: m) = (if a = b then 0 else 1) + unlZ l m := by
  unfold unlZ
  rw [List.zipWith_cons_cons]
  by_cases h : a = b
  · rw [List.filter_cons_of_neg (by simpa using h), if_pos h, Nat.zero_add]
  · rw [List.filter_cons_of_pos (by simpa using h), List.length_cons, if_neg h, Nat.add_comm]
theorem unlNs_bt (l m : List Nat) : (unlNs l m).length = unlZ (bt l) (bt m) := by
  unfold unlNs unlZ
  generalize bt l = l
  generalize bt m = m
  have e : List.zipWith (fun a b => decide (a ≠ b)) l m = (List.range (min l.length m.length)).map fun i => decide (l.getD i 0 ≠ m.getD i 0) := by
    refine List.ext_getElem? fun i => ?_
    by_cases hi : i < min l.length m.length
    · have z1 := List.getElem?_eq_getElem (show i < l.length by omega)
      have z2 := List.getElem?_eq_getElem (show i < m.length by omega)
      rw [List.getElem?_zipWith, List.getElem?_map, List.getElem?_range hi, z1, z2]
      show some (decide (l[i] ≠ m[i])) = some (decide (l.getD i 0 ≠ m.getD i 0))
      rw [List.getD_eq_getElem?_getD, List.getD_eq_getElem?_getD, z1, z2]
      rfl
    · rw [List.getElem?_eq_none (by rw [List.length_zipWith]; omega), List.getElem?_eq_none (by simpa using hi)]
  rw [e, List.filter_map, List.length_map]
  rfl
theorem unlZ_al : ∀ {l m : List Nat}, Al l m → unlZ (bt l) (bt m) = unlZ l m
  | _, _, .nil => rfl
  | a :: l, b :: m, .cons r t => by
    have ih := unlZ_al t
    rcases r with ⟨h1, h2⟩ | ⟨h1, h2⟩
    · subst h1 h2
      rw [unlZ_cons, if_pos rfl, Nat.zero_add]
      exact ih
    · have ha : a ≠ 46 := by rcases h1 with h | h <;> omega
      have hb : b ≠ 46 := by rcases h2 with h | h <;> omega
      have e1 : bt (a :: l) = a :: bt l := by unfold bt; rw [List.filter_cons_of_pos (by simpa using ha)]
      have e2 : bt (b :: m) = b :: bt m := by unfold bt; rw [List.filter_cons_of_pos (by simpa using hb)]
      rw [e1, e2, unlZ_cons, unlZ_cons, ih]
theorem unlNs_len {l m : List Nat} (h : Al l m) : (unlNs l m).length = unlZ l m := (unlNs_bt l m).trans (unlZ_al h)
theorem nums_ln (ns : List Nat) : (nums ns).length = ns.length := by unfold nums; rw [List.length_map]
theorem unlNs_le (l m : List Nat) : (unlNs l m).length ≤ l.length := by
  unfold unlNs
  refine Nat.le_trans (List.length_filter_le _ _) ?_
  rw [List.length_range]
  exact Nat.le_trans (Nat.min_le_left ..) (by unfold bt; exact List.length_filter_le _ _)
theorem lc_outZ {H1 : Hp} {D : Addr} (out : Nat → List V) {vals : Nat → List V} {n : Nat} {g : TG} {tt : TT} {te : TE} {vs : List Nat} {σ : L2.St} {Qd : Hp → Prop} (hD : H1 D = none) (o0 : out 0 = []) (ol : ∀ i, i < n → (out i).length < sizeLine)
    (hs : ∀ i T T1 H (Kc : V → Hp → Prop) (K0 : Hp → Prop), i < n → Same H1 H → H T = some (.tup [.int (i : Nat), .ref T1]) → H T1 = some (.tup (vals i)) → (∀ y H4, Same H H4 → out (i + 1) = out i ++ [y] → Kc y H4) → (∀ H4, Same H H4 → out (i + 1) = out i → K0 H4) →
      g (.ref T) (wipe σ vs) H fun σ2 H2 => wipe σ2 vs = wipe σ vs ∧ tt σ2 H2 fun b H3 => if b = true then te σ2 H3 Kc else K0 H3)
    (hd : ∀ H, Same H1 H → H D = some (.lst (out n)) → Qd H) :
    ∃ W : Nat → Nat → Hp → Prop, (∃ m, W 0 m (upd H1 D (.lst []))) ∧ ∀ i m H, W i m H →
      ((ItZ vals n).stop i H ∧ Qd H) ∨ ((ItZ vals n).go i H ∧ ∃ Nx : Hp → Prop, (∀ H', Nx H' → ∃ m', m' < m ∧ W (i + 1) m' H') ∧ ∀ x H', (ItZ vals n).yld i H x H' → g x (wipe σ vs) H' fun σ2 H2 => wipe σ2 vs = wipe σ vs ∧ tt σ2 H2 fun b H3 =>
        if b = true then te σ2 H3 fun y H4 => ∃ acc, H4 D = some (.lst acc) ∧ acc.length < sizeLine ∧ Nx (upd H4 D (.lst (acc ++ [y]))) else Nx H3) := by
  refine lc_Z (fun i H => OutI H1 D (out i) H) (by rw [o0]; exact OutI.start hD) (fun i T T1 H lt h h1 h2 ne => ?_) (fun H h => hd H h.1 h.2)
  have s0 : Same H (upd H T1 (.tup (vals i))) := smN (Same.refl _) h1
  have s1 : Same H (upd (upd H T1 (.tup (vals i))) T (.tup [.int (i : Nat), .ref T1])) := smN s0 (by rw [upd_ne ne]; exact h2)
  exact hs i T T1 _ _ _ lt (h.1.trans s1) upd_same (by rw [upd_ne (Ne.symm ne)]; exact upd_same) (fun y H4 s q => ⟨out i, (h.stay (s1.trans s)).2, ol i lt, by rw [q]; exact h.put hD (s1.trans s)⟩) (fun H4 s q => by rw [q]; exact h.stay (s1.trans s))
def spUnl : Sp := fun vs H Q _ => ∃ l m, vs = [.str (S l), .str (S m)] ∧ l.length ≤ 1000 ∧ m.length ≤ 1000 ∧ ∀ D H', Same H H' → H D = none → H' D = some (.lst (nums (unlNs l m))) → Q (.ref D) H'
end Fb
set_option maxRecDepth 100000
set_option maxHeartbeats 4000000
namespace Fb
open PySem PySem.Spec PyProof.Rows L2
open SX (S)
/-- an error with one field leaves -/
def OutX (C : Addr) (f : Str) (v : V) (H : Hp) (E : XK) : Prop := ∀ d H', Same H H' → H' d = some (.xd [(f, v)]) → E (.ref C) (some d) H'
theorem OutX.later {C : Addr} {f : Str} {v : V} {H H1 : Hp} {E : XK} (h : OutX C f v H E) (s : Same H H1) : OutX C f v H1 E := fun d H' s' e => h d H' (s.trans s') e
theorem mk_tail {C : Addr} {f : Str} {v : V} {H1 : Hp} {E : XK} (out : OutX C f v H1 E) :
    [v].length ≤ 1000 ∧ ∀ a, H1 a = none → spI1 C f (V.ref a :: ([v] ++ [])) (upd H1 a (exo a C none)) (fun v H2 => v = .non ∧ ∃ (d : Addr) (fs : List (Str × V)), H2 a = some (exo a C (some d)) ∧ H2 d = some (exd d fs) ∧ H1 d = none ∧ E (.ref C) (some d) (upd (del H2 a) d (.xd fs))) (fun _ _ _ => False) := by
  refine ⟨by show 1 ≤ 1000; decide, fun a ha => ⟨a, _, rfl, upd_same, fun d h1 h2 => ⟨rfl, d, _, upd_same, by rw [upd_ne h2]; exact upd_same, by rw [upd_ne h2] at h1; exact h1, ?_⟩⟩⟩
  have hd : H1 d = none := by rw [upd_ne h2] at h1; exact h1
  refine out d _ (fun b o eb => ?_) upd_same
  have nbd := ne_of_none eb hd
  have nba := ne_of_none eb ha
  rw [upd_ne nbd, del_ne nba, upd_ne nba, upd_ne nbd, upd_ne nba]
  exact eb
/-- the first wrong sign of a content of m signs -/
def cfa : List Nat → Nat → Nat → Option Nat
  | [], at_, m => if at_ < m then some at_ else none
  | c :: l, at_, m => if at_ = m ∨ ¬ (c = 48 ∨ c = 49) then some at_ else cfa l (at_ + 1) m
theorem cfa_none : ∀ {l : List Nat} {a m : Nat}, a ≤ m → (cfa l a m = none ↔ (a + l.length = m ∧ ∀ c ∈ l, c = 48 ∨ c = 49))
  | [], a, m, h => by
    unfold cfa
    by_cases e : a < m
    · rw [if_pos e]; simp; omega
    · rw [if_neg e]; simp; omega
  | c :: l, a, m, h => by
    unfold cfa
    by_cases e : a = m ∨ ¬ (c = 48 ∨ c = 49)
    · rw [if_pos e]
      simp only [List.length_cons, List.mem_cons, reduceCtorEq, false_iff]
      rintro ⟨h1, h2⟩
      rcases e with e | e
      · omega
      · exact e (h2 c (.inl rfl))
    · rw [if_neg e]
      have e1 : a ≠ m := fun z => e (.inl z)
      have e2 : c = 48 ∨ c = 49 := by
        by_cases q : c = 48 ∨ c = 49
        · exact q
        · exact absurd (.inr q) e
      rw [cfa_none (l := l) (a := a + 1) (m := m) (by omega)]
      simp only [List.length_cons, List.mem_cons, forall_eq_or_imp]
      constructor
      · rintro ⟨h1, h2⟩; exact ⟨by omega, e2, h2⟩
      · rintro ⟨h1, _, h2⟩; exact ⟨by omega, h2⟩
theorem ix_listK {X : Cx} {K : PySem.W.Frag} (h : X.K = K) : IxR X (rIxL K) := h ▸ ix_list
theorem ix_tupK {X : Cx} {K : PySem.W.Frag} (h : X.K = K) : IxR X (rIxT K) := h ▸ ix_tup
theorem range_getD (ks : List Nat) : (List.range ks.length).map (fun i => ks.getD i 0) = ks := by
  refine List.ext_getElem? fun i => ?_
  by_cases h : i < ks.length
  · rw [List.getElem?_map, List.getElem?_range h, List.getElem?_eq_getElem h]
    show some (ks.getD i 0) = _
    rw [List.getD_eq_getElem?_getD, List.getElem?_eq_getElem h] <;> rfl
  · rw [List.getElem?_eq_none (by simpa using h), List.getElem?_eq_none (by simpa using h)]
theorem outF_list (ks : List Nat) (p : Nat → Bool) (g : Nat → V) : outF (fun i => p (ks.getD i 0)) (fun i => g (ks.getD i 0)) ks.length = (ks.filter p).map g := by
  have e : (ks.filter p).map g = (((List.range ks.length).map (fun i => ks.getD i 0)).filter p).map g := by rw [range_getD]
  rw [e, List.filter_map, List.map_map]
  rfl
/-- the numbers of standing bits -/
def stb (b : List Nat) : List Nat := (List.range b.length).filter fun i => decide (b.getD i 0 = 49)
theorem stb_mem {b : List Nat} {i : Nat} : i ∈ stb b ↔ b[i]? = some 49 := by
  unfold stb
  rw [List.mem_filter, List.mem_range, decide_eq_true_eq, List.getD_eq_getElem?_getD]
  constructor
  · rintro ⟨h1, h2⟩
    rw [List.getElem?_eq_getElem h1] at h2 ⊢
    exact congrArg some h2
  · intro h
    have h1 := (List.getElem?_eq_some_iff.mp h).1
    refine ⟨h1, by rw [h] <;> rfl⟩
theorem inV_bits (c : Nat) : inV (.str (S [c])) [.str "0", .str "1"] = decide (c = 48 ∨ c = 49) := by
  rw [show ("0" : Str) = S [48] by decide +kernel, show ("1" : Str) = S [49] by decide +kernel]
  have e : ∀ a : Nat, eqV (V.str (S [a])) (V.str (S [c])) = decide (c = a) := fun a => by
    show (S [a] == S [c]) = _
    rw [SX.S_beq_eq]
    by_cases h : c = a
    · subst h; simp
    · rw [decide_eq_false h, decide_eq_false (fun z => h (by simpa using z.symm))]
  show ([V.str (S [48]), V.str (S [49])].any fun y => eqV y (V.str (S [c]))) = _
  simp only [List.any_cons, List.any_nil, e, Bool.or_false, Bool.decide_or]
end Fb
set_option maxRecDepth 100000
set_option maxHeartbeats 4000000
namespace Fb
open PySem PySem.Spec PyProof.Rows L2
open SX (S)
/-- xs[i] of a list, as xs[i] op= e reads it -/
def rGetL (K : PySem.W.Frag) : V → V → Hp → VK → Prop := fun x y H Q => ∃ (p : Addr) (xs : List V) (i : Nat) (v : V), x = .ref p ∧ y = .int (i : Nat) ∧ SqL K H p xs ∧ xs[i]? = some v ∧ Q v H
theorem get_list {X : Cx} : PGet X (rGetL X.K) := by
  intro pins s σ H o i ov iv Q I ro ri h
  obtain ⟨p, xs, j, z, rfl, rfl, hq, he, q⟩ := h
  cases ro
  obtain ⟨t, rfl⟩ := ri
  obtain ⟨its, r, pl, hz⟩ := I.list hq
  obtain ⟨w, ew, rw'⟩ := r.get he
  have fin : EP X pins σ Q w s := ⟨z, H, I, rw', q⟩
  have hj := (List.getElem?_eq_some_iff.mp ew).1
  have hn := line63
  exact wpAny_getItem_list pl.isList (by omega) (by have := r.length; omega) (by rw [Int.toNat_natCast]; simpa using ew) fin
end Fb
set_option maxRecDepth 100000
set_option maxHeartbeats 4000000
namespace Fb
open PySem PySem.Spec PyProof.Rows L2 RZ
/-- except D: an exception of the own class at C -/
theorem XF.exmO {K : PySem.W.Frag} {mg : Str → Option Value} {fe C D : Addr} {x y : Str} (T : XF K mg fe x C) (U : XF K mg fe y D) (hf : D ≠ fe) : PySem.W.exmOne K (.ref C) (.ref D) = some (decide (C = D)) := by
  unfold PySem.W.exmOne
  have e0 : (PySem.W.subIn K (.ref D) (.type "BaseException") == some true) = true := by rw [U.xc.sb] <;> rfl
  rw [if_pos e0]
  unfold PySem.W.kitCls
  have e2 : ((PySem.W.clsIn K D).isSome && PySem.W.typeIn K (.ref D) == some (.type "type")) = true := by rw [U.xc.cl, U.ty] <;> rfl
  show (if ((PySem.W.clsIn K D).isSome && PySem.W.typeIn K (.ref D) == some (.type "type")) = true then PySem.W.subIn K (.ref C) (.ref D) else none) = _
  rw [if_pos e2]
  show PySem.W.mroIn K C (.ref D) = _
  rw [T.mro]
  by_cases e : C = D
  · subst e
    simp
  · rw [decide_eq_false e]
    have e3 : (Value.ref D == Value.ref C) = false := beq_eq_false_iff_ne.mpr fun z => e (Value.ref.inj z).symm
    have e4 : (Value.ref D == Value.ref fe) = false := beq_eq_false_iff_ne.mpr fun z => hf (Value.ref.inj z)
    have e5 : ∀ T : String, (Value.ref D == Value.type T) = false := fun T => rfl
    simp [List.contains, List.elem, e3, e4, e5]
section
variable {X : Cx} {CX : CXT} {k : Nat} {f C : Addr} {fd : FuncData} {ps : List Str} {sp : Sp} {E : L2.St → XK} {m : Str} {pos apos : Pos} {e o : Expr} {es : List Expr} {ta : TE} {t : TA}
def tMethS (C : Addr) (m : Str) (sp : Sp) (E : L2.St → XK) (ta : TE) (t : TA) : TE := fun σ H Q => ta σ H fun x H1 => ∃ a dx fs, x = .ref a ∧ H1 a = some (.ins C dx fs) ∧ fs.lookup m = none ∧ t σ H1 fun vs H2 => sp (x :: vs) H2 Q (E σ)
/-- o.m(e, ..) within a try -/
theorem pe_methS {pl : Sem Bool} (he : PE X o ta) (c : Cls X.K C) (hm : Meth X.K C m f) (F : FnOk X.prog X.w X.K X.mg X.base CX k f fd ps sp) (hr : Room k X.A) (hb : Binds X.K fd ps []) (hx : ∀ σ, PassesAt CX X σ (E σ)) (ha : PA X (e :: es) t)
    (hst : starEach (e :: es) X.env = (false, eval e X.env) :: starEach es X.env := by rfl) (hpl : (backTo pos (starEach es X.env)).any (·.1) = false := by rfl)
    (ht : eval (.Call (.Attribute o m apos) (e :: es) [] pos) X.env = (do
      let ov ← eval o X.env
      standAt apos.atName
      let (f, first) ← holding [ov] (getMethod ov m pl)
      callWith pos f first (backTo pos (starEach (e :: es) X.env)) (backToKw pos (keywordEach [] X.env))) := by rfl) :
    PE X (.Call (.Attribute o m apos) (e :: es) [] pos) (tMethS C m sp E ta t) := by
  refine ⟨fun pins s σ H Q I h => ?_⟩
  refine PySem.W.methodCall_KW (pl := pl) (thn (he.run pins s σ H _ I h) fun u s1 ⟨x, H1, I1, rx, a, dx, fs, ex, ea, l, q⟩ => ?_) ht
  subst ex
  obtain rfl : u = Value.ref a := rx
  refine getmeth_ok I1 ea c hm l ?_
  refine PySem.W.callWith_K (first := [.ref a]) (h₀ := X.base) I.ok.mod.kin hm.kp (thn (ha.run pos pins s1 σ H1 _ I1 q) fun us s2 ⟨vs, H2, I2, r, q2⟩ => ⟨I2.kIn, ?_⟩) hst hpl
  exact run_fnS (us := .ref a :: us) (vs := .ref a :: vs) F hr hb (hx σ) I2 (.cons rfl r) q2
end
/-! zip of two tuples within a comprehension -/
theorem walk_zipT {K : PySem.W.Frag} {a b : Addr} {xs ys : List V} {n : Nat} (hn : n = min xs.length ys.length) : Walk (ItzT K a b) n (fun H => SqT K H a xs ∧ SqT K H b ys) (YPair (fun i => xs[i]?) (fun i => ys[i]?)) := by
  subst hn
  refine ⟨fun i _ hi q => ?_, fun _ q => ⟨xs, ys, q.1, q.2, by omega⟩, fun i H v H' _ q y => ?_⟩
  · have h1 : i < xs.length := by omega
    have h2 : i < ys.length := by omega
    exact ⟨xs, ys, xs[i], ys[i], q.1, q.2, by simp [h1], by simp [h2]⟩
  · obtain ⟨T, x, z, h1, h2, h3, h4, h5⟩ := y
    exact ⟨T, x, z, h1, h2, h3, h4 xs q.1, h5 ys q.2⟩
theorem lc_outZT {g : TG} {tt : TT} {te : TE} {vs : List Nat} {σ : L2.St} {H1 : Hp} {D : Addr} {Qd : Hp → Prop} (out : Nat → List V) {K : PySem.W.Frag} {a b : Addr} {xs ys : List V} {n : Nat} (hn : n = min xs.length ys.length) (hD : H1 D = none) (hx : SqT K H1 a xs) (hy : SqT K H1 b ys) (o0 : out 0 = []) (ol : ∀ i, i < n → (out i).length < sizeLine)
    (hs : ∀ i x y T H (Kc : V → Hp → Prop) (K0 : Hp → Prop), xs[i]? = some x → ys[i]? = some y → Same H1 H → H T = some (.tup [x, y]) → (∀ v H4, Same H H4 → out (i + 1) = out i ++ [v] → Kc v H4) → (∀ H4, Same H H4 → out (i + 1) = out i → K0 H4) →
      g (.ref T) (wipe σ vs) H fun σ2 H2 => wipe σ2 vs = wipe σ vs ∧ tt σ2 H2 fun b H3 => if b = true then te σ2 H3 Kc else K0 H3)
    (hd : ∀ H, Same H1 H → H D = some (.lst (out n)) → Qd H) :
    ∃ W : Nat → Nat → Hp → Prop, (∃ m, W 0 m (upd H1 D (.lst []))) ∧ ∀ i m H, W i m H →
      ((ItzT K a b).stop i H ∧ Qd H) ∨ ((ItzT K a b).go i H ∧ ∃ Nx : Hp → Prop, (∀ H', Nx H' → ∃ m', m' < m ∧ W (i + 1) m' H') ∧ ∀ x H', (ItzT K a b).yld i H x H' → g x (wipe σ vs) H' fun σ2 H2 => wipe σ2 vs = wipe σ vs ∧ tt σ2 H2 fun b H3 =>
        if b = true then te σ2 H3 fun y H4 => ∃ acc, H4 D = some (.lst acc) ∧ acc.length < sizeLine ∧ Nx (upd H4 D (.lst (acc ++ [y]))) else Nx H3) := by
  refine lc_it (walk_zipT hn) (fun i H => OutI H1 D (out i) H) (by rw [o0]; exact OutI.start hD) (fun i H _ h => ⟨sqT_same h.1 hx, sqT_same h.1 hy⟩) (fun i v H H' lt h y => ?_) (fun H h => hd H h.1 h.2)
  obtain ⟨T, x, z, rfl, hT, rfl, e1, e2⟩ := y
  have s0 : Same H (upd H T (.tup [x, z])) := smN (Same.refl _) hT
  exact hs i x z T _ _ _ e1 e2 (h.1.trans s0) upd_same (fun y H4 s q => ⟨out i, (h.stay (s0.trans s)).2, ol i lt, by rw [q]; exact h.put hD (s0.trans s)⟩) (fun H4 s q => by rw [q]; exact h.stay (s0.trans s))
end Fb
set_option maxRecDepth 100000
set_option maxHeartbeats 4000000
namespace Fb
open PySem PySem.Spec PySem.Calls PyProof.Rows L2
/-! a, *b = a list -/
def gStarL (K : PySem.W.Frag) (n i : Nat) (t : TGs) : TG := fun v σ H Q => ∃ (a : Addr) (xs : List V), v = .ref a ∧ SqL K H a xs ∧ i < n ∧ n ≤ xs.length + 1 ∧
  ∀ p, H p = none → t (xs.take i ++ [.ref p] ++ (xs.drop i).drop (xs.length + 1 - n)) σ (upd H p (.lst ((xs.drop i).take (xs.length + 1 - n)))) Q
theorem pg_starL {X : Cx} {es : List Expr} {k : Nat} {t : TGs} {n i : Nat} {pos : Pos} (hc : X.calm = true) (h : PGs X es t)
    (hn : (assignEach es X.env).length = n := by rfl) (hst : (assignEach es X.env).findIdx? (·.1) = some i := by rfl) : PG X (.Tuple es k pos) (gStarL X.K n i t) := by
  refine ⟨fun pins s σ H v u Q I r hw => ?_⟩
  obtain ⟨l, xs, e1, hq, hi, hle, hw⟩ := hw
  subst e1
  cases r
  obtain ⟨its, rv, pl, hz⟩ := I.list hq
  have hl := pl.isList
  have hsz : its.toArray.size = xs.length := by rw [List.size_toArray]; exact rv.length.symm
  have hlt : l ≠ s.heap.objs.size := by obtain ⟨o, ho, _⟩ := hl; exact Nat.ne_of_lt (Heap.lt_size ho)
  have hh := I.ok.hd hc
  rw [PyProof.Rows.assign_Tuple]
  refine wpAny_bind (wpAny_standAt ?_)
  unfold unpack
  rw [hn, hst]
  refine wpAny_bind (wpAny_holding ?_)
  unfold unpackItems
  refine wpAny_bind ?_
  unfold notIterableAtAll
  refine wpAny_bind (wpAny_specialOf hl.typeIs slot_list_iter.lookup ?_)
  refine wpAny_pure ?_
  simp only [Bool.false_eq_true, if_false]
  refine wpAny_bind (wpAny_holding (wpAny_pyIter_list hl ?_))
  refine wpAny_bind (wpAny_holding (PySem.W.kun_draw hlt i 0 _ _ ⟨_, Heap.get?_push_size _ rfl, rfl, rfl⟩ (hl.push _) (by omega) fun h₁ hit₁ hs₁ => ?_))
  have hl₁ : h₁.IsList l its.toArray := (hl.push _).extBut hs₁.extBut hlt
  rw [Nat.zero_add] at hit₁
  have hit₁' := hit₁
  obtain ⟨oi, hoi, _⟩ := hit₁'
  have hl₁' := hl₁
  obtain ⟨ol, hol, _⟩ := hl₁'
  rw [List.drop_zero]
  have hfl : (its.toArray.toList.take i).length = i := by rw [List.length_take, Array.length_toList]; omega
  rw [if_neg (show ¬ ((its.toArray.toList.take i).length < i) by rw [hfl]; omega)]
  refine wpAny_bind (wpAny_holding (PySem.W.kun_collect (s := { s with heap := h₁ }) (T := "list_iterator") (.inr (.inr (.inl rfl))) (Walks.list (A := X.A.in1) hh s.heap.objs.size l hlt its.toArray) (fun j u st => st.1.typeIs) (k := i) (by omega) ⟨hit₁, hl₁⟩ (Heap.lt_size hoi) (Heap.lt_size hol) (fun h₂ tk hk => ?_) (by omega)))
  have hrl : (its.toArray.toList.drop i).length = its.toArray.size - i := by rw [List.length_drop, Array.length_toList]
  have hmid : (its.toArray.toList.drop i).length - (n - 1 - i) = xs.length + 1 - n := by rw [hrl]; omega
  show wpAny _ _ (if (its.toArray.toList.drop i).length < n - 1 - i then _ else _) _ _ _
  rw [if_neg (by rw [hrl]; omega)]
  show wpAny _ _ (newList ((its.toArray.toList.drop i).take ((its.toArray.toList.drop i).length - (n - 1 - i))) >>= fun d => pure (its.toArray.toList.take i ++ [d] ++ (its.toArray.toList.drop i).drop ((its.toArray.toList.drop i).length - (n - 1 - i)))) _ _ _
  rw [hmid]
  have he : ∀ b o, s.heap.get? b = some o → h₂.get? b = some o := fun b o e => hk b o (Nat.ne_of_lt (Heap.lt_size e)) (hs₁.extBut b o (Nat.ne_of_lt (Heap.lt_size e)) (Heap.get?_push_of_some _ e))
  have I1 : Inv X pins σ H { s with heap := h₂, toks := tk } := I.kept (t' := tk) he
  refine wpAny_bind (wpAny_newList (s := { s with heap := h₂, toks := tk }) (wpAny_pure ?_) ?_)
  · have hf : H h₂.objs.size = none := I1.hok.fresh (Nat.le_refl _)
    have rm := (rv.drop i).take (xs.length + 1 - n)
    have lm : ((xs.drop i).take (xs.length + 1 - n)).length ≤ sizeLine := by rw [List.length_take, List.length_drop]; omega
    have I2 : Inv X pins σ (upd H h₂.objs.size (.lst ((xs.drop i).take (xs.length + 1 - n)))) { s with heap := h₂.push { cls := .type "list", data := .seq ((its.toArray.toList.drop i).take (xs.length + 1 - n)).toArray }, toks := tk } :=
      I1.laid (t' := tk) (fun b u e => Heap.get?_push_of_some _ e) (Nat.le_refl _) ⟨lm, _, 0, rm, Heap.get?_push_size _ rfl⟩
    refine h.run pins _ σ _ _ _ Q I2 ?_ (hw _ hf)
    exact ((rv.take i).append (.cons (show RelV (.ref h₂.objs.size) (.ref h₂.objs.size) from rfl) .nil)).append ((rv.drop i).drop (xs.length + 1 - n))
  · rw [List.length_take, hrl]; omega
theorem pgs_star {X : Cx} {e : Expr} {p : Pos} {es : List Expr} {t : TG} {u : TGs} (h1 : PG X e t) (h2 : PGs X es u)
    (hs : (assignEach (.Starred e p :: es) X.env).map (·.2) = assign e X.env :: (assignEach es X.env).map (·.2) := by rfl) : PGs X (.Starred e p :: es) (gCons t u) := by
  refine ⟨fun pins s σ H vs us Q I r h => ?_⟩
  obtain ⟨v, vr, e1, h⟩ := h
  subst e1
  cases r with
  | cons r rr =>
    rw [hs]
    refine assignInOrder_cons (thn (h1.run pins s σ H _ _ _ I r h) fun _ s1 ⟨σ1, H1, I1, q1⟩ => ?_)
    exact h2.run pins s1 σ1 H1 _ _ Q I1 rr q1
end Fb
set_option maxRecDepth 100000
set_option maxHeartbeats 4000000
namespace Fb
open PySem PySem.Spec PyProof.Rows L2
open SX (S)

def top (i : Nat) : Stmt := PySem.Challenge.pw_fallenbits_k81_texts_of_stores_refused.main.body.getD i (.Pass ⟨0, 0, 0, 0⟩)

/-! the written part: addresses and defs of the program -/
structure Pz where
  fe : Addr
  cNoPattern : Addr
  a_npi : Addr
  d_npi : FuncData
  cUnlike : Addr
  cNoBit : Addr
  cNoStore : Addr
  a_NoStorei : Addr
  d_NoStorei : FuncData
  cNoText : Addr
  a_NoTexti : Addr
  d_NoTexti : FuncData
  C : Addr
  C_Store : Addr
  a_has_signs : Addr
  d_has_signs : FuncData
  a_is_number_word : Addr
  d_is_number_word : FuncData
  a_are_number_words : Addr
  d_are_number_words : FuncData
  a_is_name_word : Addr
  d_is_name_word : FuncData
  a_can_be_store_line : Addr
  d_can_be_store_line : FuncData
  a_lines_of : Addr
  d_lines_of : FuncData
  a_read_store : Addr
  d_read_store : FuncData
abbrev s_NoPattern_init : Stmt := inClass (top 3) 0
theorem sc_NoPattern_init : FnScope ["self", "at"] ["self", "at"] (defScope s_NoPattern_init) := ⟨rfl, rfl, rfl, by decide +kernel, rfl, by decide +kernel, by decide +kernel⟩
abbrev s_NoStore_init : Stmt := inClass (top 6) 0
theorem sc_NoStore_init : FnScope ["self", "part", "at"] ["self", "part", "at"] (defScope s_NoStore_init) := ⟨rfl, rfl, rfl, by decide +kernel, rfl, by decide +kernel, by decide +kernel⟩
abbrev s_NoText_init : Stmt := inClass (top 7) 0
theorem sc_NoText_init : FnScope ["self", "line"] ["self", "line"] (defScope s_NoText_init) := ⟨rfl, rfl, rfl, by decide +kernel, rfl, by decide +kernel, by decide +kernel⟩
abbrev s_has_signs : Stmt := top 47
theorem sc_has_signs : FnScope ["word", "signs", "sign"] ["word", "signs"] (defScope s_has_signs) := ⟨rfl, rfl, rfl, by decide +kernel, rfl, by decide +kernel, by decide +kernel⟩
abbrev s_is_number_word : Stmt := top 48
theorem sc_is_number_word : FnScope ["word"] ["word"] (defScope s_is_number_word) := ⟨rfl, rfl, rfl, by decide +kernel, rfl, by decide +kernel, by decide +kernel⟩
abbrev s_are_number_words : Stmt := top 49
theorem sc_are_number_words : FnScope ["words", "word"] ["words"] (defScope s_are_number_words) := ⟨rfl, rfl, rfl, by decide +kernel, rfl, by decide +kernel, by decide +kernel⟩
abbrev s_is_name_word : Stmt := top 50
theorem sc_is_name_word : FnScope ["word"] ["word"] (defScope s_is_name_word) := ⟨rfl, rfl, rfl, by decide +kernel, rfl, by decide +kernel, by decide +kernel⟩
abbrev s_can_be_store_line : Stmt := top 51
theorem sc_can_be_store_line : FnScope ["words", "before", "word", "rest", "can_follow", "name"] ["words", "before"] (defScope s_can_be_store_line) := ⟨rfl, rfl, rfl, by decide +kernel, rfl, by decide +kernel, by decide +kernel⟩
abbrev s_lines_of : Stmt := top 52
theorem sc_lines_of : FnScope ["text", "line"] ["text"] (defScope s_lines_of) := ⟨rfl, rfl, rfl, by decide +kernel, rfl, by decide +kernel, by decide +kernel⟩
abbrev s_read_store : Stmt := top 53
theorem sc_read_store : FnScope ["text", "lines", "before", "at", "words", "rules", "changes", "size"] ["text"] (defScope s_read_store) := ⟨rfl, rfl, rfl, by decide +kernel, rfl, by decide +kernel, by decide +kernel⟩
structure Txp (K : PySem.W.Frag) (mg : Str → Option Value) (z : Pz) : Prop where
  xFallenError : mg "FallenError" = some (.ref z.fe)
  clF : (PySem.W.clsIn K z.fe).isSome = true
  tyF : PySem.W.typeIn K (.ref z.fe) = some (.type "type")
  sbF : PySem.W.subIn K (.ref z.fe) (.type "BaseException") = some true
  xb : XB K
  xNoPattern : XF K mg z.fe "NoPattern" z.cNoPattern
  F_npi : Fun K "__init__" "NoPattern.__init__" s_NoPattern_init z.a_npi z.d_npi
  b_npi : Binds K z.d_npi ["self", "at"] []
  iNP : PySem.W.findIn K (.ref z.cNoPattern) "__init__" = some (some (.ref z.a_npi))
  tNP : PySem.W.typeIn K (.ref z.a_npi) = some (.type "function")
  nNP : PySem.W.findIn K (.ref z.cNoPattern) "at" = some none
  xUnlike : XF K mg z.fe "Unlike" z.cUnlike
  eUnlike : PySem.W.excIn K z.cUnlike [.type "ValueError", .type "Exception", .type "BaseException", .type "object"] "ValueError.__new__" = true
  xNoBit : XF K mg z.fe "NoBit" z.cNoBit
  eNoBit : PySem.W.excIn K z.cNoBit [.type "ValueError", .type "Exception", .type "BaseException", .type "object"] "ValueError.__new__" = true
  xNoStore : XF K mg z.fe "NoStore" z.cNoStore
  F_NoStorei : Fun K "__init__" "NoStore.__init__" s_NoStore_init z.a_NoStorei z.d_NoStorei
  b_NoStorei : Binds K z.d_NoStorei ["self", "part", "at"] []
  iNoStore : PySem.W.findIn K (.ref z.cNoStore) "__init__" = some (some (.ref z.a_NoStorei))
  tNoStore : PySem.W.typeIn K (.ref z.a_NoStorei) = some (.type "function")
  nNoStore_part : PySem.W.findIn K (.ref z.cNoStore) "part" = some none
  nNoStore_at : PySem.W.findIn K (.ref z.cNoStore) "at" = some none
  xNoText : XF K mg z.fe "NoText" z.cNoText
  F_NoTexti : Fun K "__init__" "NoText.__init__" s_NoText_init z.a_NoTexti z.d_NoTexti
  b_NoTexti : Binds K z.d_NoTexti ["self", "line"] []
  iNoText : PySem.W.findIn K (.ref z.cNoText) "__init__" = some (some (.ref z.a_NoTexti))
  tNoText : PySem.W.typeIn K (.ref z.a_NoTexti) = some (.type "function")
  nNoText_line : PySem.W.findIn K (.ref z.cNoText) "line" = some none
  ne_NoPattern_F : z.cNoPattern ≠ z.fe
  ne_NoPattern_Unlike : z.cNoPattern ≠ z.cUnlike
  ne_NoPattern_NoBit : z.cNoPattern ≠ z.cNoBit
  ne_NoPattern_NoStore : z.cNoPattern ≠ z.cNoStore
  ne_NoPattern_NoText : z.cNoPattern ≠ z.cNoText
  ne_Unlike_F : z.cUnlike ≠ z.fe
  ne_Unlike_NoPattern : z.cUnlike ≠ z.cNoPattern
  ne_Unlike_NoBit : z.cUnlike ≠ z.cNoBit
  ne_Unlike_NoStore : z.cUnlike ≠ z.cNoStore
  ne_Unlike_NoText : z.cUnlike ≠ z.cNoText
  ne_NoBit_F : z.cNoBit ≠ z.fe
  ne_NoBit_NoPattern : z.cNoBit ≠ z.cNoPattern
  ne_NoBit_Unlike : z.cNoBit ≠ z.cUnlike
  ne_NoBit_NoStore : z.cNoBit ≠ z.cNoStore
  ne_NoBit_NoText : z.cNoBit ≠ z.cNoText
  ne_NoStore_F : z.cNoStore ≠ z.fe
  ne_NoStore_NoPattern : z.cNoStore ≠ z.cNoPattern
  ne_NoStore_Unlike : z.cNoStore ≠ z.cUnlike
  ne_NoStore_NoBit : z.cNoStore ≠ z.cNoBit
  ne_NoStore_NoText : z.cNoStore ≠ z.cNoText
  ne_NoText_F : z.cNoText ≠ z.fe
  ne_NoText_NoPattern : z.cNoText ≠ z.cNoPattern
  ne_NoText_Unlike : z.cNoText ≠ z.cUnlike
  ne_NoText_NoBit : z.cNoText ≠ z.cNoBit
  ne_NoText_NoStore : z.cNoText ≠ z.cNoStore
  g_Pattern : mg "Pattern" = some (.ref z.C)
  crP : ClX.CRead K z.C (.type "type")
  vBITS : ∃ mc u, ClX.CRead K z.C mc ∧ ClX.CVal K z.C mc "BITS" (.int 120) u
  vBLOCKS : ∃ mc u, ClX.CRead K z.C mc ∧ ClX.CVal K z.C mc "BLOCKS" (.int 3) u
  g_Store : mg "Store" = some (.ref z.C_Store)
  crP_Store : ClX.CRead K z.C_Store (.type "type")
  g_MOST_BLOCKS : ∃ t, mg "MOST_BLOCKS" = some (.int 3 t)
  g_MOST_BITS : ∃ t, mg "MOST_BITS" = some (.int 6 t)
  g_MOST_RULES : ∃ t, mg "MOST_RULES" = some (.int 64 t)
  g_MOST_CHANGES : ∃ t, mg "MOST_CHANGES" = some (.int 16 t)
  g_MOST_NAME_SIGNS : ∃ t, mg "MOST_NAME_SIGNS" = some (.int 12 t)
  g_LETTERS : ∃ t, mg "LETTERS" = some (.str "abcdefghijklmnopqrstuvwxyz" t)
  g_NAME_SIGNS : ∃ t, mg "NAME_SIGNS" = some (.str "abcdefghijklmnopqrstuvwxyz0123456789-" t)
  g_DIGITS : ∃ t, mg "DIGITS" = some (.str "0123456789" t)
  g_MOST_DIGITS : ∃ t, mg "MOST_DIGITS" = some (.int 3 t)
  g_MASK_SIGNS : ∃ t, mg "MASK_SIGNS" = some (.str "10*." t)
  g_has_signs : mg "has_signs" = some (.ref z.a_has_signs)
  k_has_signs : PySem.W.keepIn K (.ref z.a_has_signs) = true
  b_has_signs : Binds K z.d_has_signs ["word", "signs"] []
  F_has_signs : Fun K "has_signs" "has_signs" s_has_signs z.a_has_signs z.d_has_signs
  g_is_number_word : mg "is_number_word" = some (.ref z.a_is_number_word)
  k_is_number_word : PySem.W.keepIn K (.ref z.a_is_number_word) = true
  b_is_number_word : Binds K z.d_is_number_word ["word"] []
  F_is_number_word : Fun K "is_number_word" "is_number_word" s_is_number_word z.a_is_number_word z.d_is_number_word
  g_are_number_words : mg "are_number_words" = some (.ref z.a_are_number_words)
  k_are_number_words : PySem.W.keepIn K (.ref z.a_are_number_words) = true
  b_are_number_words : Binds K z.d_are_number_words ["words"] []
  F_are_number_words : Fun K "are_number_words" "are_number_words" s_are_number_words z.a_are_number_words z.d_are_number_words
  g_is_name_word : mg "is_name_word" = some (.ref z.a_is_name_word)
  k_is_name_word : PySem.W.keepIn K (.ref z.a_is_name_word) = true
  b_is_name_word : Binds K z.d_is_name_word ["word"] []
  F_is_name_word : Fun K "is_name_word" "is_name_word" s_is_name_word z.a_is_name_word z.d_is_name_word
  g_can_be_store_line : mg "can_be_store_line" = some (.ref z.a_can_be_store_line)
  k_can_be_store_line : PySem.W.keepIn K (.ref z.a_can_be_store_line) = true
  b_can_be_store_line : Binds K z.d_can_be_store_line ["words", "before"] []
  F_can_be_store_line : Fun K "can_be_store_line" "can_be_store_line" s_can_be_store_line z.a_can_be_store_line z.d_can_be_store_line
  g_lines_of : mg "lines_of" = some (.ref z.a_lines_of)
  k_lines_of : PySem.W.keepIn K (.ref z.a_lines_of) = true
  b_lines_of : Binds K z.d_lines_of ["text"] []
  F_lines_of : Fun K "lines_of" "lines_of" s_lines_of z.a_lines_of z.d_lines_of
  g_read_store : mg "read_store" = some (.ref z.a_read_store)
  k_read_store : PySem.W.keepIn K (.ref z.a_read_store) = true
  b_read_store : Binds K z.d_read_store ["text"] []
  F_read_store : Fun K "read_store" "read_store" s_read_store z.a_read_store z.d_read_store
  n_abs : mg "abs" = none
  n_all : mg "all" = none
  n_bool : mg "bool" = none
  n_enumerate : mg "enumerate" = none
  n_int : mg "int" = none
  n_isinstance : mg "isinstance" = none
  n_len : mg "len" = none
  n_list : mg "list" = none
  n_range : mg "range" = none
  n_set : mg "set" = none
  n_sorted : mg "sorted" = none
  n_str : mg "str" = none
  n_tuple : mg "tuple" = none
  n_zip : mg "zip" = none
/-! small facts -/
theorem S_0 : ("0" : Str) = S [48] := by decide +kernel
theorem S_1 : ("1" : Str) = S [49] := by decide +kernel
theorem S_d : ("." : Str) = S [46] := by decide +kernel
theorem S_e : ("" : Str) = S [] := by decide +kernel
theorem S_eq {a b : List Nat} : (V.str (S a) = V.str (S b)) ↔ a = b := ⟨fun h => SX.S_inj (V.str.inj h), fun h => by rw [h]⟩
theorem inV_sg (c : Nat) : inV (.str (S [c])) [.str "0", .str "1", .str "."] = decide (c = 48 ∨ c = 49 ∨ c = 46) := by
  rw [S_0, S_1, S_d]
  have e : ∀ a : Nat, eqV (V.str (S [a])) (V.str (S [c])) = decide (c = a) := fun a => by
    show (S [a] == S [c]) = _
    rw [SX.S_beq_eq]
    by_cases h : c = a
    · subst h; simp
    · rw [decide_eq_false h, decide_eq_false (fun z => h (by simpa using z.symm))]
  show ([V.str (S [48]), V.str (S [49]), V.str (S [46])].any fun y => eqV y (V.str (S [c]))) = _
  simp only [List.any_cons, List.any_nil, e, Bool.or_false, Bool.decide_or]
theorem le3 : 3 ≤ sizeLine := by decide
theorem S_sz (l : List Nat) : (S l).cps.size = l.length := by simp [S]
theorem S_ln (l : List Nat) : (S l).length = l.length := SX.S_len l
theorem small1 (n : Nat) (h : n ≤ 1000) : n < sizeLine := small1000 h
theorem same_put {H H1 : Hp} {p : Addr} {o : HO} (s : Same H H1) (h : H p = none) : Same H (upd H1 p o) := fun b u e => by rw [upd_ne (ne_of_none e h)]; exact s _ _ e
theorem keepL {H : Hp} {p : Addr} {xs ys : List V} (h : H p = some (.lst xs)) : ∀ c zs, H c = some (.tup zs) → (upd H p (.lst ys)) c = some (.tup zs) := fun c zs e => by
  rw [upd_ne (ne_of e h fun z => nomatch z)]; exact e
abbrev txV (f : List (List Nat)) : List V := (f.map S).map V.str
theorem txV_len (F : List (List Nat)) : (txV F).length = F.length := by rw [List.length_map, List.length_map]
theorem txV_get {F : List (List Nat)} {i : Nat} {x : V} (e : (txV F)[i]? = some x) : ∃ t, F[i]? = some t ∧ x = .str (S t) := by
  rw [List.getElem?_map, List.getElem?_map] at e
  cases q : F[i]? with
  | none => rw [q] at e; cases e
  | some l => rw [q] at e; cases e; exact ⟨l, rfl, rfl⟩
theorem inV_txV (z : List Nat) (F : List (List Nat)) : inV (.str (S z)) (txV F) = decide (z ∈ F) := by
  show ((F.map S).map V.str).any (fun y => eqV y (V.str (S z))) = _
  rw [List.map_map, List.any_map]
  have e : (fun y => eqV y (V.str (S z))) ∘ (V.str ∘ S) = fun p : List Nat => decide (p = z) := by
    funext p
    show (S p == S z) = _
    rw [SX.S_beq_eq]
  rw [e]
  by_cases h : z ∈ F
  · rw [decide_eq_true h]
    exact List.any_eq_true.mpr ⟨z, h, by simp⟩
  · rw [decide_eq_false h]
    refine List.any_eq_false.mpr fun p hp => ?_
    simp only [decide_eq_true_eq]
    exact fun e => h (e ▸ hp)
theorem iteB0 {b : Bool} {A B : Prop} (e : b = false) (h : B) : if b = true then A else B := by
  rw [e]
  exact iteF h
theorem iteB1 {b : Bool} {A B : Prop} (e : b = true) (h : A) : if b = true then A else B := by
  rw [e]
  exact iteT h
theorem two_len {α : Type} {l : List α} (h : l.length = 2) : ∃ a b, l = [a, b] := by
  match l, h with
  | [a, b], _ => exact ⟨a, b, rfl⟩
theorem cut_hd (x : List Nat) : cutS (S x) none (some 2) = S (x.take 2) := by
  unfold cutS
  have e : (S x).cps.toList = x := rfl
  have e2 : (S x).length = x.length := SX.S_len x
  rw [e, e2]
  show S _ = S _
  congr 1
  show (x.drop 0).take (min 2 x.length - 0) = x.take 2
  rw [List.drop_zero, Nat.sub_zero]
  by_cases h : 2 ≤ x.length
  · rw [Nat.min_eq_left h]
  · rw [Nat.min_eq_right (by omega), List.take_length, List.take_of_length_le (by omega)]
theorem cut_tl (x : List Nat) : cutS (S x) (some 2) none = S (x.drop 2) := by
  unfold cutS
  have e : (S x).cps.toList = x := rfl
  have e2 : (S x).length = x.length := SX.S_len x
  rw [e, e2]
  show S _ = S _
  congr 1
  show (x.drop (min 2 x.length)).take (x.length - min 2 x.length) = x.drop 2
  by_cases h : 2 ≤ x.length
  · rw [Nat.min_eq_left h, List.take_of_length_le (by rw [List.length_drop]; omega)]
  · rw [Nat.min_eq_right (by omega), List.drop_length, List.drop_of_length_le (by omega)] <;> simp
theorem cut_to (x : List Nat) (a : Nat) : cutS (S x) none (some (a : Int)) = S (x.take a) := by
  unfold cutS
  have e : (S x).cps.toList = x := rfl
  have e2 : (S x).length = x.length := SX.S_len x
  have i1 : HT.sIx x.length x.length (some (a : Int)) = min a x.length := by
    unfold HT.sIx
    simp [show ¬ ((a : Int) < 0) by omega]
  have i0 : HT.sIx x.length 0 none = 0 := rfl
  rw [e, e2, i1, i0]
  show S _ = S _
  congr 1
  rw [List.drop_zero, Nat.sub_zero]
  by_cases h : a ≤ x.length
  · rw [Nat.min_eq_left h]
  · rw [Nat.min_eq_right (by omega), List.take_length, List.take_of_length_le (by omega)]
theorem cut_from (x : List Nat) (a : Nat) : cutS (S x) (some (a : Int)) none = S (x.drop a) := by
  unfold cutS
  have e : (S x).cps.toList = x := rfl
  have e2 : (S x).length = x.length := SX.S_len x
  have i1 : HT.sIx x.length 0 (some (a : Int)) = min a x.length := by
    unfold HT.sIx
    simp [show ¬ ((a : Int) < 0) by omega]
  have i0 : HT.sIx x.length x.length none = x.length := rfl
  rw [e, e2, i1, i0]
  show S _ = S _
  congr 1
  by_cases h : a ≤ x.length
  · rw [Nat.min_eq_left h, List.take_of_length_le (by rw [List.length_drop]; omega)]
  · rw [Nat.min_eq_right (by omega), List.drop_length, List.drop_of_length_le (by omega)] <;> simp
theorem nums_len (ns : List Nat) : (nums ns).length = ns.length := by unfold nums; rw [List.length_map]
theorem nums_get {bs : List Nat} {i : Nat} {x : V} (e : (nums bs)[i]? = some x) : ∃ b, bs[i]? = some b ∧ x = .int (b : Nat) := by
  unfold nums at e
  rw [List.getElem?_map] at e
  cases q : bs[i]? with
  | none => rw [q] at e; cases e
  | some b => rw [q] at e; cases e; exact ⟨b, rfl, rfl⟩
end Fb
set_option maxRecDepth 100000
set_option maxHeartbeats 4000000
namespace Fb
open PySem PySem.Spec PyProof.Rows L2
open SX (S)
/-! words and lines -/
def wds (l : List Nat) : List (List Nat) := TL.spl [32] 0 [] l
def lns (l : List Nat) : List (List Nat) := TL.spl [10] 0 [] l
theorem split_w (l : List Nat) : Txt.split (S l) " " = (wds l).map S := by
  have e : ((" " : Str)) = S [32] := by decide +kernel
  rw [e, SX.split_S (by simp) (by decide)]
  rfl
theorem split_n (l : List Nat) : Txt.split (S l) "\n" = (lns l).map S := by
  have e : (("\n" : Str)) = S [10] := by decide +kernel
  rw [e, SX.split_S (by simp) (by decide)]
  rfl
theorem spl_sum (c : Nat) : ∀ (l acc : List Nat), ((TL.spl [c] 0 acc l).map List.length).sum + (TL.spl [c] 0 acc l).length = acc.length + l.length + 1
  | [], acc => by rw [TL.spl_nil]; simp
  | d :: l, acc => by
    by_cases h : d = c
    · subst h
      have hp : TL.pre [d] (d :: l) = true := TL.pre_self [d] l
      rw [TL.spl_hit hp]
      have := spl_sum d l []
      show (acc.length + ((TL.spl [d] 0 [] l).map List.length).sum) + ((TL.spl [d] 0 [] l).length + 1) = acc.length + (l.length + 1) + 1
      simp at this
      omega
    · have hp : TL.pre [c] (d :: l) = false := TL.pre_of_head _ _ fun e => h e
      rw [TL.spl_miss hp]
      have := spl_sum c l (acc ++ [d])
      rw [this, List.length_append]
      show _ = acc.length + (l.length + 1) + 1
      simp
      omega
theorem spl_ne (c : Nat) : ∀ (l acc : List Nat), TL.spl [c] 0 acc l ≠ []
  | [], acc => by rw [TL.spl_nil]; simp
  | d :: l, acc => by
    by_cases h : d = c
    · subst h
      have hp : TL.pre [d] (d :: l) = true := TL.pre_self [d] l
      rw [TL.spl_hit hp]; simp
    · rw [TL.spl_miss (TL.pre_of_head _ _ fun e => h e)]; exact spl_ne c l _
theorem wds_len (l : List Nat) : (wds l).length ≤ l.length + 1 := by
  have := spl_sum 32 l []
  unfold wds
  simp at this
  omega
theorem wds_mem {l x : List Nat} (h : x ∈ wds l) : x.length ≤ l.length := by
  have e := spl_sum 32 l []
  have q := le_sum (List.mem_map.mpr ⟨x, h, rfl⟩ : x.length ∈ (wds l).map List.length)
  have p : 1 ≤ (wds l).length := List.length_pos_iff.mpr (spl_ne 32 l [])
  unfold wds at *
  simp at e
  omega
theorem lns_len (l : List Nat) : (lns l).length ≤ l.length + 1 := by
  have := spl_sum 10 l []
  unfold lns
  simp at this
  omega
theorem lns_mem {l x : List Nat} (h : x ∈ lns l) : x.length ≤ l.length := by
  have e := spl_sum 10 l []
  have q := le_sum (List.mem_map.mpr ⟨x, h, rfl⟩ : x.length ∈ (lns l).map List.length)
  have p : 1 ≤ (lns l).length := List.length_pos_iff.mpr (spl_ne 10 l [])
  unfold lns at *
  simp at e
  omega
def sgB (w set : List Nat) : Bool := decide (w ≠ []) && w.all fun c => decide (c ∈ set)
def digS : List Nat := [48, 49, 50, 51, 52, 53, 54, 55, 56, 57]
def nameS : List Nat := [97, 98, 99, 100, 101, 102, 103, 104, 105, 106, 107, 108, 109, 110, 111, 112, 113, 114, 115, 116, 117, 118, 119, 120, 121, 122, 48, 49, 50, 51, 52, 53, 54, 55, 56, 57, 45]
def maskS : List Nat := [49, 48, 42, 46]
def numW (w : List Nat) : Bool := sgB w digS && decide (w.length ≤ 3) && (decide (w = [48]) || decide (w.headD 0 ≠ 48))
def numWs (ws : List (List Nat)) : Bool := decide (ws ≠ []) && ws.all numW
def wSizes : List Nat := [115, 105, 122, 101, 115]
def wRule : List Nat := [114, 117, 108, 101]
def wChange : List Nat := [99, 104, 97, 110, 103, 101]
def canL (ws : List (List Nat)) (b : List Nat) : Bool := match ws with
  | [] => false
  | w :: rest =>
    if w = wSizes then decide (b = []) && numWs rest
    else if w = wRule then decide (b ∈ [wSizes, wRule]) && (decide (rest.length = 2) && (sgB (rest.getD 0 []) maskS && sgB (rest.getD 1 []) nameS))
    else if w = wChange then decide (b ≠ []) && (decide (rest.length = 2) && rest.all fun x => sgB x nameS)
    else false
/-- the first wrong line -/
def fltL : List (List Nat) → List Nat → Nat → Option Nat
  | [], _, _ => none
  | l :: ls, b, n => if canL (wds l) b = true then fltL ls ((wds l).headD []) (n + 1) else some n
def spHasS : Sp := fun vs H Q _ => ∃ w set, vs = [.str (S w), .str (S set)] ∧ w.length ≤ 10000 ∧ ∀ H', Same H H' → Q (.bl (sgB w set)) H'
def spNumW : Sp := fun vs H Q _ => ∃ w, vs = [.str (S w)] ∧ w.length ≤ 10000 ∧ ∀ H', Same H H' → Q (.bl (numW w)) H'
def spNumWs (K : PySem.W.Frag) : Sp := fun vs H Q _ => ∃ q ws, vs = [.ref q] ∧ SqL K H q (txV ws) ∧ ws.length ≤ 10000 ∧ (∀ w ∈ ws, w.length ≤ 10000) ∧ ∀ H', Same H H' → Q (.bl (numWs ws)) H'
def spNameW : Sp := fun vs H Q _ => ∃ w, vs = [.str (S w)] ∧ w.length ≤ 10000 ∧ ∀ H', Same H H' → Q (.bl (sgB w nameS)) H'
def spCanL (K : PySem.W.Frag) : Sp := fun vs H Q _ => ∃ q ws b, vs = [.ref q, .str (S b)] ∧ SqL K H q (txV ws) ∧ ws ≠ [] ∧ ws.length ≤ 10000 ∧ (∀ w ∈ ws, w.length ≤ 10000) ∧ ∀ H', Same H H' → Q (.bl (canL ws b)) H'
/-- lists of words, line by line -/
def LnR (D : Addr) (H : Hp) (v : V) (l : List Nat) : Prop := ∃ q, v = .ref q ∧ q ≠ D ∧ H q = some (.lst (txV (wds l)))
def Lns (D : Addr) (H : Hp) (vs : List V) (ls : List (List Nat)) : Prop := Paired (LnR D H) vs ls
theorem lnr_put {D : Addr} {H H' : Hp} {o : HO} {v : V} {l : List Nat} (s : Same H H') (h : LnR D H v l) : LnR D (upd H' D o) v l := by
  obtain ⟨q, h1, h2, h3⟩ := h
  exact ⟨q, h1, h2, by rw [upd_ne h2]; exact s _ _ h3⟩
theorem lnr_same {D : Addr} {H H' : Hp} {v : V} {l : List Nat} (s : Same H H') (h : LnR D H v l) : LnR D H' v l := by
  obtain ⟨q, h1, h2, h3⟩ := h
  exact ⟨q, h1, h2, s _ _ h3⟩
theorem pmap {α β : Type} {R R' : α → β → Prop} (k : ∀ v l, R v l → R' v l) : ∀ {vs : List α} {ls : List β}, Paired R vs ls → Paired R' vs ls
  | [], [], .nil => .nil
  | _ :: _, _ :: _, .cons h t => .cons (k _ _ h) (pmap k t)
theorem psnoc {α β : Type} {R : α → β → Prop} {v : α} {l : β} (h : R v l) : ∀ {vs : List α} {ls : List β}, Paired R vs ls → Paired R (vs ++ [v]) (ls ++ [l])
  | [], [], .nil => .cons h .nil
  | _ :: _, _ :: _, .cons x t => .cons x (psnoc h t)
theorem pget {α β : Type} {R : α → β → Prop} {l : β} : ∀ {vs : List α} {ls : List β} {i : Nat}, Paired R vs ls → ls[i]? = some l → ∃ v, vs[i]? = some v ∧ R v l
  | [], [], _, .nil, e => by cases e
  | v :: _, _ :: _, 0, .cons h t, e => by cases e; exact ⟨v, rfl, h⟩
  | _ :: _, _ :: _, i + 1, .cons h t, e => pget (i := i) t e
theorem plen {α β : Type} {R : α → β → Prop} : ∀ {vs : List α} {ls : List β}, Paired R vs ls → vs.length = ls.length
  | [], [], .nil => rfl
  | _ :: _, _ :: _, .cons h t => congrArg (· + 1) (plen t)
def spLinesOf (K : PySem.W.Frag) (cT : Addr) : Sp := fun vs H Q E => (∃ t, vs = [.str (S t)] ∧ t.length ≤ 10000 ∧ ∀ D us H', Same H H' → H D = none → H' D = some (.lst us) → Lns D H' us (lns t) → Q (.ref D) H') ∨
  (∃ x t, vs = [x] ∧ TyX K H x t ∧ PySem.W.kitOne K t (.type "str") = some false ∧ OutX cT "line" (.int 0) H E)
section
variable {P : Program} {wo : World} {K : PySem.W.Frag} {mg : Str → Option Value} {base : Heap} {z : Pz}
theorem ok_NoTexti (T : Txp K mg z) : FnOk P wo K mg base CX0 1 z.a_NoTexti z.d_NoTexti ["self", "line"] (spI1 z.cNoText "line") := by
  refine T.F_NoTexti.ok sc_NoText_init (fun vs H Q E h => ?_) (fun cdv A outer s H vs Q E hr h => ?_)
  · obtain ⟨a, v, rfl, _⟩ := h
    rfl
  · obtain ⟨a, v, rfl, ha, k⟩ := h
    exact ⟨_, pss_one (ps_ost (pv 0) (pv 1)), _, rfl, _, rfl, a, z.cNoText, rfl, T.xNoText.oc, T.nNoText_line, .inl ⟨ha, fun d h1 h2 => k d h1 h2⟩⟩
theorem ok_has_signs (T : Txp K mg z) : FnOk P wo K mg base CX0 1 z.a_has_signs z.d_has_signs ["word", "signs"] spHasS := by
  refine T.F_has_signs.ok sc_has_signs (fun vs H Q E h => ?_) (fun cdv A outer s H vs Q E hr h => ?_)
  · obtain ⟨w, set, rfl, _⟩ := h
    rfl
  · obtain ⟨w, set, rfl, hw, ret⟩ := h
    refine ⟨_, (pss_one (ps_ret (pe_and (pe_cmpR op_ne (pv 0) pe_str (nomark _)) (pe_one (pe_callB (cr_all rfl) (by rfl) T.n_all (by decide +kernel) (pa_cons (by refine' pe_lc (own := [("sign", 2)]) (tt := tYes) rfl sc_has_signs.nd ?hi (blkOk_by (N := ["word", "signs", "sign"]) (sc := defScope s_has_signs) (by first | decide +kernel | kernel_rfl | rfl)) ?hg ?ht ?he (by intro _; rfl); (case hi => exact (pi_str (pv 0))); (case hg => exact fun _ _ _ _ _ => (pg_name (i := 2) sc_has_signs.nd rfl (Or.inl rfl))); (case ht => exact fun _ _ _ _ _ => pts_nil); (case he => exact fun _ _ _ _ _ => (pe_cmpR op_in_sign (pv 2) (pv 1) rfl))) pa_nil)))))), ?_⟩
    refine ⟨_, rfl, rfl, _, rfl, ?_⟩
    unfold sgB at ret
    rw [show ("" : Str) = S [] from S_e]
    have e0 : (!decide (V.str (S w) = V.str (S []))) = decide (w ≠ []) := by
      by_cases q : w = []
      · rw [q]; decide
      · rw [decide_eq_false (fun e => q (S_eq.mp e)), decide_eq_true q] <;> rfl
    rw [e0]
    by_cases q : w = []
    · rw [decide_eq_false (fun h => h q)] at ret ⊢
      exact iteF (ret _ (Same.refl _))
    · rw [decide_eq_true q] at ret ⊢
      refine iteT ?_
      refine ⟨_, rfl, S w, rfl, fun D hD => ?_⟩
      refine lc_S (l := w) (fun i H' => Same H H' ∧ H' D = some (.lst (((w.take i).map fun c => decide (c ∈ set)).map V.bl))) ⟨smN (Same.refl _) hD, upd_same⟩ (fun i c H2 e h => ?_) (fun H2 h => ?_)
      · refine ⟨rfl, yes1 ?_⟩
        refine ⟨_, rfl, _, rfl, c, S set, rfl, rfl, ?_⟩
        have li : i < w.length := (List.getElem?_eq_some_iff.mp e).1
        refine ⟨_, h.2, by rw [List.length_map, List.length_map, List.length_take]; exact Nat.lt_of_le_of_lt (show min i w.length ≤ 10000 by omega) (by decide), ?_⟩
        refine ⟨same_put h.1 hD, ?_⟩
        rw [upd_same, List.take_add_one, e, List.map_append, List.map_append] <;> rfl
      · obtain ⟨h1, h2⟩ := h
        rw [List.take_length] at h2
        refine ⟨D, _, rfl, SqL.of h2, ?_⟩
        rw [List.all_map]
        exact ret _ h1
theorem numW_def (w : List Nat) : numW w = (sgB w digS && (decide (w.length ≤ 3) && (decide (w = [48]) || decide (w.headD 0 ≠ 48)))) := by
  unfold numW
  rw [Bool.and_assoc]
theorem ok_is_number_word (T : Txp K mg z) : FnOk P wo K mg base CX0 2 z.a_is_number_word z.d_is_number_word ["word"] spNumW := by
  refine T.F_is_number_word.ok sc_is_number_word (fun vs H Q E h => ?_) (fun cdv A outer s H vs Q E hr h => ?_)
  · obtain ⟨w, rfl, _⟩ := h
    rfl
  · obtain ⟨w, rfl, hw, ret⟩ := h
    have hr1 : Room 1 _ := hr
    have G_has_signs : FnOk P wo K mg base CX0 1 z.a_has_signs z.d_has_signs ["word", "signs"] spHasS := ok_has_signs T
    obtain ⟨tD, gDIGITS⟩ := T.g_DIGITS
    obtain ⟨tM, gMOST_DIGITS⟩ := T.g_MOST_DIGITS
    have lz : (S w).length ≤ sizeLine := by rw [S_ln]; exact Nat.le_trans hw (by decide)
    refine ⟨_, (pss_cons (ps_if (PW.pt (pw_or (pt_not (pt_val (pe_call G_has_signs hr1 rfl T.g_has_signs T.k_has_signs T.b_has_signs .nil pass0 (pa_cons (pv 0) (pa_cons (pe_glob (v := .str "0123456789") rfl gDIGITS ⟨_, rfl⟩) pa_nil))))) (pw_or1 (pt_cmpR op_gt (pe_callB call_len_str (by rfl) T.n_len (by decide +kernel) (pa_cons (pv 0) pa_nil)) (pe_glob (v := .int 3) rfl gMOST_DIGITS ⟨_, rfl⟩) (nomark _)))))
        (pss_one (ps_ret pe_bl))
        pss_nil)
      (pss_one (ps_ret (pe_or (pe_cmpR op_eq (pv 0) pe_str (nomark _)) (pe_one (pe_cmpR op_ne (pe_ix ix_str (pv 0) pe_int (fun _ _ => rfl)) pe_str (nomark _))))))), ?_⟩
    rw [numW_def] at ret
    refine ⟨_, rfl, w, digS, by rw [show ("0123456789" : Str) = S digS by decide +kernel] <;> rfl, hw, fun H1 s1 => ?_⟩
    refine ⟨_, rfl, ?_⟩
    cases e1 : sgB w digS with
    | false =>
      rw [e1] at ret
      exact iteB1 rfl (iteT (ret _ s1))
    | true =>
      rw [e1] at ret
      refine iteB0 rfl ?_
      refine ⟨_, rfl, S w, rfl, lz, ?_⟩
      rw [S_ln]
      refine ⟨_, _, rfl, rfl, _, rfl, ?_⟩
      by_cases c3 : w.length ≤ 3
      · rw [decide_eq_true c3] at ret
        refine iteB0 (decide_eq_false (by omega)) ?_
        rw [show ("0" : Str) = S [48] from S_0]
        refine ⟨_, rfl, rfl, _, rfl, ?_⟩
        by_cases c4 : w = [48]
        · rw [decide_eq_true c4] at ret
          exact iteB1 (decide_eq_true (S_eq.mpr c4)) (ret _ s1)
        · rw [decide_eq_false c4] at ret
          refine iteB0 (decide_eq_false fun z => c4 (S_eq.mp z)) ?_
          cases w with
          | nil => cases e1
          | cons c wt =>
            refine ⟨_, rfl, S (c :: wt), 0, c, rfl, rfl, lz, atI_nat (j := 0) rfl, ?_⟩
            have e5 : (!decide (V.str (⟨#[c]⟩ : Str) = V.str (S [48]))) = decide ((c :: wt).headD 0 ≠ 48) := by
              show (!decide (V.str (S [c]) = V.str (S [48]))) = decide (c ≠ 48)
              by_cases q : c = 48
              · rw [q]; decide
              · rw [decide_eq_false (fun z => q (by simpa using S_eq.mp z)), decide_eq_true q] <;> rfl
            rw [Bool.true_and, Bool.true_and, Bool.false_or, ← e5] at ret
            exact ⟨rfl, ret _ s1⟩
      · rw [decide_eq_false c3] at ret
        exact iteB1 (decide_eq_true (by omega)) (ret _ s1)
theorem ok_are_number_words (T : Txp K mg z) : FnOk P wo K mg base CX0 3 z.a_are_number_words z.d_are_number_words ["words"] (spNumWs K) := by
  refine T.F_are_number_words.ok sc_are_number_words (fun vs H Q E h => ?_) (fun cdv A outer s H vs Q E hr h => ?_)
  · obtain ⟨q, ws, rfl, _⟩ := h
    rfl
  · obtain ⟨q, ws, rfl, hq, hl, hm, ret⟩ := h
    have hr1 : Room 2 _ := hr
    have G_is_number_word : FnOk P wo K mg base CX0 2 z.a_is_number_word z.d_is_number_word ["word"] spNumW := ok_is_number_word T
    refine ⟨_, (pss_one (ps_ret (pe_and (pe_callTy call_boolL (by rfl) T.n_bool (by decide +kernel) (pa_cons (pv 0) pa_nil)) (pe_one (pe_callB (cr_all rfl) (by rfl) T.n_all (by decide +kernel) (pa_cons (by refine' pe_lc (own := [("word", 1)]) (tt := tYes) rfl sc_are_number_words.nd ?hi (blkOk_by (N := ["words", "word"]) (sc := defScope s_are_number_words) (by first | decide +kernel | kernel_rfl | rfl)) ?hg ?ht ?he (by intro _; rfl); (case hi => exact (pi_list (pv 0))); (case hg => exact fun _ _ _ _ _ => (pg_name (i := 1) sc_are_number_words.nd rfl (Or.inl rfl))); (case ht => exact fun _ _ _ _ _ => pts_nil); (case he => exact fun _ _ _ _ _ => (pe_call G_is_number_word hr1 rfl T.g_is_number_word T.k_is_number_word T.b_is_number_word .nil pass0 (pa_cons (pv 1) pa_nil)))) pa_nil)))))), ?_⟩
    unfold numWs at ret
    refine ⟨_, rfl, q, _, rfl, hq, _, rfl, ?_⟩
    cases ws with
    | nil => exact ret _ (Same.refl _)
    | cons w0 wt =>
      rw [decide_eq_true (fun z => nomatch z)] at ret
      show if true = true then _ else _
      refine iteT ?_
      generalize w0 :: wt = ws at *
      refine ⟨_, rfl, q, rfl, ⟨_, hq⟩, fun D hD => ?_⟩
      refine lc_outL (xs := txV ws) (outM fun i => V.bl (numW (ws.getD i []))) hD hq outM_0 (fun i hi => ?_) (fun i x H2 Kc K0 e s2 kc k0 => ?_) (fun H2 s2 e2 => ?_)
      · rw [outM_l]
        rw [txV_len] at hi
        exact Nat.lt_of_lt_of_le hi (Nat.le_trans hl (by decide))
      · obtain ⟨t, et, rfl⟩ := txV_get e
        refine ⟨rfl, yes1 ?_⟩
        refine ⟨_, rfl, t, rfl, hm t (List.mem_of_getElem? et), fun H3 s3 => kc _ _ s3 ?_⟩
        rw [outM_s, List.getD_eq_getElem?_getD, et] <;> rfl
      · have e4 : outM (fun i => V.bl (numW (ws.getD i []))) (txV ws).length = (ws.map numW).map V.bl := outM_all (by rw [txV_len, List.length_map, List.length_map]) fun i hi => by
          rw [txV_len] at hi
          rw [List.getElem?_map, List.getElem?_map, List.getD_eq_getElem?_getD, List.getElem?_eq_getElem hi] <;> rfl
        rw [e4] at e2
        refine ⟨D, _, rfl, SqL.of e2, ?_⟩
        rw [List.all_map]
        exact ret _ s2
theorem ok_is_name_word (T : Txp K mg z) : FnOk P wo K mg base CX0 2 z.a_is_name_word z.d_is_name_word ["word"] spNameW := by
  refine T.F_is_name_word.ok sc_is_name_word (fun vs H Q E h => ?_) (fun cdv A outer s H vs Q E hr h => ?_)
  · obtain ⟨w, rfl, _⟩ := h
    rfl
  · obtain ⟨w, rfl, hw, ret⟩ := h
    have hr1 : Room 1 _ := hr
    have G_has_signs : FnOk P wo K mg base CX0 1 z.a_has_signs z.d_has_signs ["word", "signs"] spHasS := ok_has_signs T
    obtain ⟨tD, gNAME_SIGNS⟩ := T.g_NAME_SIGNS
    refine ⟨_, (pss_one (ps_ret (pe_call G_has_signs hr1 rfl T.g_has_signs T.k_has_signs T.b_has_signs .nil pass0 (pa_cons (pv 0) (pa_cons (pe_glob (v := .str "abcdefghijklmnopqrstuvwxyz0123456789-") rfl gNAME_SIGNS ⟨_, rfl⟩) pa_nil))))), ?_⟩
    exact ⟨_, rfl, w, nameS, by rw [show ("abcdefghijklmnopqrstuvwxyz0123456789-" : Str) = S nameS by decide +kernel] <;> rfl, hw, ret⟩
theorem ok_can_be_store_line (T : Txp K mg z) : FnOk P wo K mg base CX0 4 z.a_can_be_store_line z.d_can_be_store_line ["words", "before"] (spCanL K) := by
  refine T.F_can_be_store_line.ok sc_can_be_store_line (fun vs H Q E h => ?_) (fun cdv A outer s H vs Q E hr h => ?_)
  · obtain ⟨q, ws, b, rfl, _⟩ := h
    rfl
  · obtain ⟨q, ws, b, rfl, hq, h0, hl, hm, ret⟩ := h
    have hr3 : Room 3 _ := hr
    have hr2 : Room 2 _ := hr.mono (by decide)
    have hr1 : Room 1 _ := hr.mono (by decide)
    have G_has_signs : FnOk P wo K mg base CX0 1 z.a_has_signs z.d_has_signs ["word", "signs"] spHasS := ok_has_signs T
    have G_is_name_word : FnOk P wo K mg base CX0 2 z.a_is_name_word z.d_is_name_word ["word"] spNameW := ok_is_name_word T
    have G_are_number_words : FnOk P wo K mg base CX0 3 z.a_are_number_words z.d_are_number_words ["words"] (spNumWs K) := ok_are_number_words T
    obtain ⟨tD, gMASK_SIGNS⟩ := T.g_MASK_SIGNS
    refine ⟨_, (pss_cons (ps_asg (pv 0) (pg_starL (n := 2) (i := 1) rfl (pgs_cons (pg_name (i := 2) sc_can_be_store_line.nd rfl (Or.inl rfl)) (pgs_star (pg_name (i := 3) sc_can_be_store_line.nd rfl (Or.inl rfl)) pgs_nil))))
      (pss_cons (ps_if (pt_cmpR op_eq (pv 2) pe_str (nomark _))
        (pss_one (ps_ret (pe_and (pe_cmpR op_eq (pv 1) pe_str (nomark _)) (pe_one (pe_call G_are_number_words hr3 rfl T.g_are_number_words T.k_are_number_words T.b_are_number_words .nil pass0 (pa_cons (pv 3) pa_nil))))))
        pss_nil)
      (pss_cons (ps_if (pt_cmpR op_eq (pv 2) pe_str (nomark _))
        (pss_cons (ps_set (i := 4) sc_can_be_store_line.nd rfl (Or.inl rfl) (pe_cmpR (op_inK (K := K) rfl) (pv 1) (pe_tup (pa_cons pe_str (pa_cons pe_str pa_nil))) rfl))
        (pss_one (ps_ret (pe_and (pv 4) (pe_and (pe_cmpR op_eq (pe_callB call_len_seq (by rfl) T.n_len (by decide +kernel) (pa_cons (pv 3) pa_nil)) pe_int (nomark _)) (pe_and (pe_call G_has_signs hr1 rfl T.g_has_signs T.k_has_signs T.b_has_signs .nil pass0 (pa_cons (pe_ix ix_list (pv 3) pe_int (fun _ _ => rfl)) (pa_cons (pe_glob (v := .str "10*.") rfl gMASK_SIGNS ⟨_, rfl⟩) pa_nil))) (pe_one (pe_call G_is_name_word hr2 rfl T.g_is_name_word T.k_is_name_word T.b_is_name_word .nil pass0 (pa_cons (pe_ix ix_list (pv 3) pe_int (fun _ _ => rfl)) pa_nil)))))))))
        pss_nil)
      (pss_cons (ps_if (pt_cmpR op_eq (pv 2) pe_str (nomark _))
        (pss_one (ps_ret (pe_and (pe_cmpR op_ne (pv 1) pe_str (nomark _)) (pe_and (pe_cmpR op_eq (pe_callB call_len_seq (by rfl) T.n_len (by decide +kernel) (pa_cons (pv 3) pa_nil)) pe_int (nomark _)) (pe_one (pe_callB (cr_all rfl) (by rfl) T.n_all (by decide +kernel) (pa_cons (by refine' pe_lc (own := [("name", 5)]) (tt := tYes) rfl sc_can_be_store_line.nd ?hi (blkOk_by (N := ["words", "before", "word", "rest", "can_follow", "name"]) (sc := defScope s_can_be_store_line) (by first | decide +kernel | kernel_rfl | rfl)) ?hg ?ht ?he (by intro _; rfl); (case hi => exact (pi_list (pv 3))); (case hg => exact fun _ _ _ _ _ => (pg_name (i := 5) sc_can_be_store_line.nd rfl (Or.inl rfl))); (case ht => exact fun _ _ _ _ _ => pts_nil); (case he => exact fun _ _ _ _ _ => (pe_call G_is_name_word hr2 rfl T.g_is_name_word T.k_is_name_word T.b_is_name_word .nil pass0 (pa_cons (pv 5) pa_nil)))) pa_nil)))))))
        pss_nil)
      (pss_one (ps_ret pe_bl)))))), ?_⟩
    obtain ⟨w, rest, rfl⟩ : ∃ w rest, ws = w :: rest := by cases ws with | nil => exact absurd rfl h0 | cons w r => exact ⟨w, r, rfl⟩
    refine ⟨_, rfl, q, _, rfl, hq, by decide, ?_, fun pr hpr => ?_⟩
    · rw [txV_len]; exact Nat.succ_le_succ (Nat.succ_pos _)
    have er : (List.drop (0 + 1) (txV (w :: rest))).take ((txV (w :: rest)).length + 1 - 2) = txV rest := by
      have : (txV (w :: rest)).length + 1 - 2 = (txV rest).length := by rw [txV_len, txV_len]; rfl
      rw [this]
      exact List.take_length
    have ed : (List.drop (0 + 1) (txV (w :: rest))).drop ((txV (w :: rest)).length + 1 - 2) = [] := by
      have : (txV (w :: rest)).length + 1 - 2 = (txV rest).length := by rw [txV_len, txV_len]; rfl
      rw [this]
      exact List.drop_length
    rw [er, ed]
    have s1 := smN (o := .lst (txV rest)) (Same.refl H) hpr
    have hp1 : (upd H pr (.lst (txV rest))) pr = some (.lst (txV rest)) := upd_same
    generalize upd H pr (.lst (txV rest)) = H1 at s1 hp1
    refine ⟨_, _, rfl, ?_⟩
    refine ⟨_, _, rfl, ?_⟩
    refine ⟨rfl, ?_⟩
    rw [show ("sizes" : Str) = S wSizes by decide +kernel, show ("rule" : Str) = S wRule by decide +kernel, show ("change" : Str) = S wChange by decide +kernel, show ("" : Str) = S [] from S_e]
    have hm1 : ∀ x ∈ rest, x.length ≤ 10000 := fun x hx => hm x (List.mem_cons_of_mem _ hx)
    have hl1 : rest.length ≤ 10000 := Nat.le_trans (Nat.le_succ _) hl
    unfold canL at ret
    refine ⟨_, rfl, rfl, _, rfl, ?_⟩
    by_cases c1 : w = wSizes
    · refine iteB1 (decide_eq_true (S_eq.mpr c1)) ?_
      simp only [if_pos c1] at ret
      refine ⟨_, rfl, rfl, _, rfl, ?_⟩
      by_cases b0 : b = []
      · refine iteB1 (decide_eq_true (S_eq.mpr b0)) ?_
        rw [decide_eq_true b0, Bool.true_and] at ret
        exact ⟨_, rfl, pr, rest, rfl, SqL.of hp1, hl1, hm1, fun H2 s2 => ret _ (s1.trans s2)⟩
      · refine iteB0 (decide_eq_false fun z => b0 (S_eq.mp z)) ?_
        rw [decide_eq_false b0, Bool.false_and] at ret
        exact ret _ s1
    refine iteB0 (decide_eq_false fun z => c1 (S_eq.mp z)) ?_
    simp only [if_neg c1] at ret
    refine ⟨_, rfl, rfl, _, rfl, ?_⟩
    by_cases c2 : w = wRule
    · refine iteB1 (decide_eq_true (S_eq.mpr c2)) ?_
      simp only [if_pos c2] at ret
      refine ⟨_, rfl, by show 2 ≤ sizeLine; decide, fun t2 ht2 => ⟨t2, [.str (S wSizes), .str (S wRule)], rfl, .inr (SqT.of upd_same), rfl, rfl, ?_⟩⟩
      have s2 := smN (o := .tup [.str (S wSizes), .str (S wRule)]) s1 ht2
      have hp2 := smN (o := .tup [.str (S wSizes), .str (S wRule)]) (Same.refl H1) ht2 _ _ hp1
      generalize upd H1 t2 (.tup [.str (S wSizes), .str (S wRule)]) = H2 at s2 hp2
      have ei : inV (.str (S b)) [.str (S wSizes), .str (S wRule)] = decide (b ∈ [wSizes, wRule]) := inV_txV b [wSizes, wRule]
      have e0 : (if false = true then !inV (V.str (S b)) [V.str (S wSizes), V.str (S wRule)] else inV (V.str (S b)) [V.str (S wSizes), V.str (S wRule)]) = decide (b ∈ [wSizes, wRule]) := ei
      refine ⟨_, rfl, _, rfl, ?_⟩
      by_cases b1 : b ∈ [wSizes, wRule]
      · rw [decide_eq_true b1, Bool.true_and] at ret
        refine iteB1 (e0.trans (decide_eq_true b1)) ?_
        refine ⟨_, rfl, pr, _, rfl, .inl (SqL.of hp2), rfl, _, rfl, ?_⟩
        rw [txV_len]
        by_cases b2 : rest.length = 2
        · rw [decide_eq_true b2, Bool.true_and] at ret
          refine iteB1 (by rw [b2]; decide) ?_
          obtain ⟨x, y, rfl⟩ := two_len b2
          refine ⟨_, rfl, pr, _, 0, .str (S x), rfl, rfl, SqL.of hp2, rfl, ?_⟩
          refine ⟨x, maskS, by rw [show ("10*." : Str) = S maskS by decide +kernel] <;> rfl, hm1 x (by simp), fun H3 s3 => ⟨_, rfl, ?_⟩⟩
          have ret : ∀ H', Same H H' → Q (.bl (sgB x maskS && sgB y nameS)) H' := ret
          cases e1 : sgB x maskS with
          | false =>
            rw [e1] at ret
            exact iteB0 rfl (ret _ (s2.trans s3))
          | true =>
            rw [e1] at ret
            refine iteB1 rfl ?_
            refine ⟨_, rfl, pr, _, 1, .str (S y), rfl, rfl, SqL.of (s3 _ _ hp2), rfl, ?_⟩
            exact ⟨y, rfl, hm1 y (by simp), fun H4 s4 => ret _ ((s2.trans s3).trans s4)⟩
        · rw [decide_eq_false b2, Bool.false_and] at ret
          exact iteB0 (decide_eq_false fun z => b2 (by have := V.int.inj z; omega)) (ret _ s2)
      · rw [decide_eq_false b1, Bool.false_and] at ret
        exact iteB0 (e0.trans (decide_eq_false b1)) (ret _ s2)
    refine iteB0 (decide_eq_false fun z => c2 (S_eq.mp z)) ?_
    simp only [if_neg c2] at ret
    refine ⟨_, rfl, rfl, _, rfl, ?_⟩
    by_cases c3 : w = wChange
    · refine iteB1 (decide_eq_true (S_eq.mpr c3)) ?_
      simp only [if_pos c3] at ret
      refine ⟨_, rfl, rfl, _, rfl, ?_⟩
      by_cases b0 : b = []
      · refine iteB0 (by rw [b0, decide_eq_true rfl] <;> rfl) ?_
        rw [decide_eq_false (fun z => z b0), Bool.false_and] at ret
        exact ret _ s1
      refine iteB1 (by rw [decide_eq_false (fun z => b0 (S_eq.mp z))] <;> rfl) ?_
      rw [decide_eq_true b0, Bool.true_and] at ret
      refine ⟨_, rfl, pr, _, rfl, .inl (SqL.of hp1), rfl, _, rfl, ?_⟩
      rw [txV_len]
      by_cases b2 : rest.length = 2
      · rw [decide_eq_true b2, Bool.true_and] at ret
        refine iteB1 (by rw [b2]; decide) ?_
        refine ⟨_, rfl, pr, rfl, ⟨_, SqL.of hp1⟩, fun D hD => ?_⟩
        refine lc_outL (xs := txV rest) (outM fun i => V.bl (sgB (rest.getD i []) nameS)) hD (SqL.of hp1) outM_0 (fun i hi => ?_) (fun i x H2 Kc K0 e s2 kc k0 => ?_) (fun H2 s2 e2 => ?_)
        · rw [outM_l]
          rw [txV_len] at hi
          exact Nat.lt_of_lt_of_le hi (Nat.le_trans hl1 (by decide))
        · obtain ⟨t, et, rfl⟩ := txV_get e
          refine ⟨rfl, yes1 ?_⟩
          refine ⟨_, rfl, t, rfl, hm1 t (List.mem_of_getElem? et), fun H3 s3 => kc _ _ s3 ?_⟩
          rw [outM_s, List.getD_eq_getElem?_getD, et] <;> rfl
        · have e4 : outM (fun i => V.bl (sgB (rest.getD i []) nameS)) (txV rest).length = (rest.map fun x => sgB x nameS).map V.bl := outM_all (by rw [txV_len, List.length_map, List.length_map]) fun i hi => by
            rw [txV_len] at hi
            rw [List.getElem?_map, List.getElem?_map, List.getD_eq_getElem?_getD, List.getElem?_eq_getElem hi] <;> rfl
          rw [e4] at e2
          refine ⟨D, _, rfl, SqL.of e2, ?_⟩
          rw [List.all_map]
          exact ret _ (s1.trans s2)
      · rw [decide_eq_false b2, Bool.false_and] at ret
        exact iteB0 (decide_eq_false fun z => b2 (by have := V.int.inj z; omega)) (ret _ s1)
    refine iteB0 (decide_eq_false fun z => c3 (S_eq.mp z)) ?_
    simp only [if_neg c3] at ret
    exact ret _ s1
theorem ok_lines_of (T : Txp K mg z) : FnOk P wo K mg base (L2.CX P wo) 3 z.a_lines_of z.d_lines_of ["text"] (spLinesOf K z.cNoText) := by
  refine T.F_lines_of.okX sc_lines_of (fun vs H Q E h => ?_) (fun cdv A outer s H vs Q E hr h => ?_)
  · rcases h with ⟨t, rfl, _⟩ | ⟨x, t, rfl, _⟩ <;> rfl
  · have hr1 : Room 2 _ := hr
    refine ⟨_, (pss_cons (ps_if (pt_not (pt_val (pe_callB call_isi (by rfl) T.n_isinstance boot_isinstance (pa_cons (pv 0) (pa_cons (pe_bltn (v := .ty "str") rfl T.n_str (by decide +kernel) rfl) pa_nil)))))
        (pss_one (ps_raise rfl (takes_of rfl rfl rfl rfl) (pmk_oex T.xNoText.oc T.iNoText T.tNoText (ok_NoTexti T) hr1 T.b_NoTexti .nil pass0 rfl T.xNoText.g (pa_cons pe_int pa_nil))))
        pss_nil)
      (pss_one (ps_ret (by refine' pe_lc (own := [("line", 1)]) (tt := tYes) rfl sc_lines_of.nd ?hi (blkOk_by (N := ["text", "line"]) (sc := defScope s_lines_of) (by first | decide +kernel | kernel_rfl | rfl)) ?hg ?ht ?he (by intro _; rfl); (case hi => exact (pi_list (pe_bm PySem.F.plainAttrs_str PySem.F.slot_str_split PySem.F.type_str_split mt_split (pv 0) (pa_cons pe_str pa_nil)))); (case hg => exact fun _ _ _ _ _ => (pg_name (i := 1) sc_lines_of.nd rfl (Or.inl rfl))); (case ht => exact fun _ _ _ _ _ => pts_nil); (case he => exact fun _ _ _ _ _ => (pe_split (pv 1) pe_str)))))), ?_⟩
    rcases h with ⟨t, rfl, hl, ret⟩ | ⟨x, t, rfl, ty, kt, out⟩
    · refine ⟨_, rfl, _, _, _, _, true, rfl, .ty "str", .base (.str _), kit_ty (by decide +kernel), _, rfl, iteF ?_⟩
      refine ⟨_, rfl, rfl, S t, "\n", rfl, rfl, by decide, by rw [S_ln]; exact Nat.le_trans (Nat.add_le_add_right hl 2) (by decide), fun p hp => ?_⟩
      rw [split_n]
      have s1 := smN (o := .lst (txV (lns t))) (Same.refl H) hp
      refine ⟨p, rfl, ⟨_, SqL.of upd_same⟩, fun D hD => ?_⟩
      have hp1 : (upd H p (.lst (txV (lns t)))) p = some (.lst (txV (lns t))) := upd_same
      have nD := ne_of_none hp1 hD
      have hD0 := s1.free hD
      generalize upd H p (.lst (txV (lns t))) = H1 at s1 hp1 hD
      refine lc_it (walk_list (xs := txV (lns t))) (fun i H' => ∃ us, Same H1 H' ∧ H' D = some (.lst us) ∧ us.length = i ∧ Lns D H' us ((lns t).take i)) ⟨[], smN (Same.refl _) hD, upd_same, rfl, .nil⟩ (fun i H' _ h => ?_) (fun i x H2 H3 lt h y => ?_) (fun H2 h => ?_)
      · obtain ⟨us, h1, _⟩ := h
        exact SqL.of (h1 _ _ hp1)
      · obtain ⟨us, h1, h2, h3, h4⟩ := h
        obtain ⟨rfl, ev⟩ := y
        obtain ⟨l, el, rfl⟩ := txV_get ev
        refine ⟨rfl, yes1 ?_⟩
        have hll := lns_mem (List.mem_of_getElem? el)
        refine ⟨_, rfl, ⟨_, rfl⟩, S l, " ", rfl, rfl, by decide, by rw [S_ln]; exact Nat.le_trans (Nat.add_le_add_right (Nat.le_trans hll hl) 2) (by decide), fun q hq => ?_⟩
        rw [split_w]
        have sq := smN (o := .lst (txV (wds l))) (Same.refl _) hq
        refine ⟨us, sq _ _ h2, ?_, us ++ [.ref q], ?_, upd_same, by rw [List.length_append, h3] <;> rfl, ?_⟩
        · rw [h3]
          have := lns_len t
          rw [txV_len] at lt
          exact Nat.lt_of_lt_of_le lt (Nat.le_trans this (Nat.le_trans (Nat.succ_le_succ hl) (by decide)))
        · exact same_put (smN h1 hq) hD
        · rw [List.take_add_one, el]
          exact psnoc ⟨q, rfl, Ne.symm (ne_of_none h2 hq), by rw [upd_ne (Ne.symm (ne_of_none h2 hq))]; exact upd_same⟩ (pmap (fun v l k => lnr_put sq k) h4)
      · obtain ⟨us, h1, h2, h3, h4⟩ := h
        rw [txV_len, List.take_length] at h4
        exact ret D us H2 (s1.trans h1) hD0 h2 h4
    · refine ⟨_, rfl, _, _, _, _, false, rfl, .ty "str", ty, kt, _, rfl, iteT ?_⟩
      exact mk_tail out
def spReadS (K : PySem.W.Frag) (cT : Addr) : Sp := fun vs H Q E => (∃ t n, vs = [.str (S t)] ∧ t.length ≤ 9000 ∧ fltL (lns t) [] 0 = some n ∧ OutX cT "line" (.int (n : Nat)) H E) ∨
  (∃ x t, vs = [x] ∧ TyX K H x t ∧ PySem.W.kitOne K t (.type "str") = some false ∧ OutX cT "line" (.int 0) H E)
theorem ok_read_store (T : Txp K mg z) : FnOk P wo K mg base (L2.CX P wo) 5 z.a_read_store z.d_read_store ["text"] (spReadS K z.cNoText) := by
  refine T.F_read_store.okX sc_read_store (fun vs H Q E h => ?_) (fun cdv A outer s H vs Q E hr h => ?_)
  · rcases h with ⟨t, n, rfl, _⟩ | ⟨x, t, rfl, _⟩ <;> rfl
  · have hr4 : Room 4 _ := hr
    have hr3 : Room 3 _ := hr.mono (by decide)
    have hr2 : Room 2 _ := hr.mono (by decide)
    have G_lines_of : FnOk P wo K mg base (L2.CX P wo) 3 z.a_lines_of z.d_lines_of ["text"] (spLinesOf K z.cNoText) := ok_lines_of T
    have G_can_be_store_line : FnOk P wo K mg base CX0 4 z.a_can_be_store_line z.d_can_be_store_line ["words", "before"] (spCanL K) := ok_can_be_store_line T
    refine ⟨_, (pss_cons (ps_set (i := 1) sc_read_store.nd rfl (Or.inl rfl) (pe_call G_lines_of hr3 rfl T.g_lines_of T.k_lines_of T.b_lines_of .nil (passes_call (takes_of rfl rfl rfl rfl) (fun _ _ _ _ h => h)) (pa_cons (pv 0) pa_nil))) (pss_cons (ps_set (i := 2) sc_read_store.nd rfl (Or.inl rfl) pe_str) (pss_cons (ps_for (passes_of rfl) rfl (pi_enum (by rfl) T.n_enumerate (pa_cons (pv 1) pa_nil)) (pg_tup rfl (pgs_cons (pg_name (i := 3) sc_read_store.nd rfl (Or.inl rfl)) (pgs_cons (pg_name (i := 4) sc_read_store.nd rfl (Or.inl rfl)) pgs_nil)))
        (pss_cons (ps_if (pt_not (pt_val (pe_call G_can_be_store_line hr4 rfl T.g_can_be_store_line T.k_can_be_store_line T.b_can_be_store_line .nil pass0 (pa_cons (pv 4) (pa_cons (pv 2) pa_nil)))))
          (pss_one (ps_raise rfl (takes_of rfl rfl rfl rfl) (pmk_oex T.xNoText.oc T.iNoText T.tNoText (ok_NoTexti T) hr2 T.b_NoTexti .nil pass0 rfl T.xNoText.g (pa_cons (pv 3) pa_nil))))
          pss_nil)
        (pss_one (ps_set (i := 2) sc_read_store.nd rfl (Or.inl rfl) (pe_ix ix_list (pv 4) pe_int (fun _ _ => rfl)))))) pss_no))), ?_⟩
    rcases h with ⟨t, n, rfl, hl, hf, out⟩ | ⟨x, t, rfl, ty, kt, out⟩
    · refine ⟨_, rfl, .inl ⟨t, rfl, by omega, fun D us H1 s1 hD hD1 R1 => ?_⟩⟩
      have lu := plen R1
      rw [show ("" : Str) = S [] from S_e]
      refine ⟨_, rfl, D, us, rfl, SqL.of hD1, ?_⟩
      refine for_it (walk_enum (xs := us)) (fun i σ H' => Same H1 H' ∧ ∃ b, ∃ (x3 x4 : Option V), σ = [some (.str (S t)), some (.ref D), some (.str (S b)), x3, x4, none, none, none] ∧ fltL ((lns t).drop i) b i = some n)
        ⟨Same.refl _, [], none, none, rfl, hf⟩ (fun i σ H' _ h => SqL.of (h.1 _ _ hD1)) (fun i x σ H2 H3 lt h y => ?_) (fun σ H2 h => ?_)
      · obtain ⟨s2, b, x3, x4, rfl, hf⟩ := h
        obtain ⟨Tu, a1, v, rfl, hTu, rfl, e1, e2⟩ := y
        cases e1
        have li : i < (lns t).length := by omega
        have el : (lns t)[i]? = some (lns t)[i] := List.getElem?_eq_getElem li
        have ed : (lns t).drop i = (lns t)[i] :: (lns t).drop (i + 1) := List.drop_eq_getElem_cons li
        have hll := lns_mem (List.getElem_mem li)
        generalize (lns t)[i] = l at el ed hll
        obtain ⟨v', ev, q, rfl, _, hq⟩ := pget R1 el
        have e2 : us[i]? = some v := e2
        rw [ev] at e2
        cases e2
        rw [ed] at hf
        unfold fltL at hf
        refine ⟨Tu, [.int (i : Nat), .ref q], rfl, SqT.of upd_same, rfl, ?_⟩
        refine ⟨_, _, rfl, ?_⟩
        refine ⟨_, _, rfl, ?_⟩
        refine ⟨rfl, ?_⟩
        have s3 := smN (o := .tup [.int (i : Nat), .ref q]) s2 hTu
        have hq3 := s3 _ _ hq
        refine ⟨_, rfl, _, rfl, q, wds l, b, rfl, SqL.of hq3, spl_ne 32 l [], Nat.le_trans (wds_len l) (by omega), fun w hw => Nat.le_trans (wds_mem hw) (by omega), fun H4 s4 => ⟨_, rfl, ?_⟩⟩
        by_cases c : canL (wds l) b = true
        · rw [if_pos c] at hf
          rw [c]
          refine iteF ?_
          obtain ⟨w, r, ew⟩ : ∃ w r, wds l = w :: r := by
            cases e : wds l with
            | nil => exact absurd e (spl_ne 32 l [])
            | cons w r => exact ⟨w, r, rfl⟩
          rw [ew] at hf hq3
          refine ⟨_, rfl, q, _, 0, .str (S w), rfl, rfl, SqL.of (s4 _ _ hq3), atI_nat (j := 0) rfl, ?_⟩
          exact ⟨s3.trans s4, w, _, _, rfl, hf⟩
        · rw [if_neg c] at hf
          cases hf
          rw [show canL (wds l) b = false by simpa using c]
          refine iteT ?_
          refine ⟨_, rfl, ?_⟩
          exact mk_tail (OutX.later out ((s1.trans s3).trans s4))
      · obtain ⟨s2, b, x3, x4, rfl, hf⟩ := h
        rw [lu, List.drop_length] at hf
        cases hf
    · exact ⟨_, rfl, .inr ⟨x, t, rfl, ty, kt, out⟩⟩
end
end Fb
set_option maxRecDepth 100000
set_option maxHeartbeats 4000000
namespace Fb
open PySem PySem.Spec PyProof.Rows L2
open SX (S)
/-! the written part: the law's own defs -/
structure Lz where
  a_Lpen : Addr
  d_Lpen : FuncData
  a_Ldraw : Addr
  d_Ldraw : FuncData
  a_Lpick : Addr
  d_Lpick : FuncData
  a_Lsizes : Addr
  d_Lsizes : FuncData
  a_Lname : Addr
  d_Lname : FuncData
  a_Lnames : Addr
  d_Lnames : FuncData
  a_Lmask : Addr
  d_Lmask : FuncData
  a_Lparts : Addr
  d_Lparts : FuncData
  a_Llines : Addr
  d_Llines : FuncData
  a_Lheard : Addr
  d_Lheard : FuncData
  a_Lfirst : Addr
  d_Lfirst : FuncData
  a_Lline : Addr
  d_Lline : FuncData
  a_Lbent : Addr
  d_Lbent : FuncData
  a_law : Addr
  d_law : FuncData
abbrev s_Lpen : Stmt := top 55
theorem sc_Lpen : FnScope ["_law_script"] ["_law_script"] (defScope s_Lpen) := ⟨rfl, rfl, rfl, by decide +kernel, rfl, by decide +kernel, by decide +kernel⟩
abbrev s_Ldraw : Stmt := top 56
theorem sc_Ldraw : FnScope ["_law_pen_here", "_law_many", "_law_digit", "_law_at", "_law_cell", "_law_great", "_law_mixed"] ["_law_pen_here", "_law_many"] (defScope s_Ldraw) := ⟨rfl, rfl, rfl, by decide +kernel, rfl, by decide +kernel, by decide +kernel⟩
abbrev s_Lpick : Stmt := top 57
theorem sc_Lpick : FnScope ["_law_pen_here", "_law_some"] ["_law_pen_here", "_law_some"] (defScope s_Lpick) := ⟨rfl, rfl, rfl, by decide +kernel, rfl, by decide +kernel, by decide +kernel⟩
abbrev s_Lsizes : Stmt := top 58
theorem sc_Lsizes : FnScope ["_law_pen_here", "_law_some"] ["_law_pen_here"] (defScope s_Lsizes) := ⟨rfl, rfl, rfl, by decide +kernel, rfl, by decide +kernel, by decide +kernel⟩
abbrev s_Lname : Stmt := top 59
theorem sc_Lname : FnScope ["_law_pen_here", "_law_letters", "_law_signs", "_law_many", "_law_k"] ["_law_pen_here"] (defScope s_Lname) := ⟨rfl, rfl, rfl, by decide +kernel, rfl, by decide +kernel, by decide +kernel⟩
abbrev s_Lnames : Stmt := top 60
theorem sc_Lnames : FnScope ["_law_pen_here", "_law_found", "_law_k", "_law_some", "_law_one"] ["_law_pen_here"] (defScope s_Lnames) := ⟨rfl, rfl, rfl, by decide +kernel, rfl, by decide +kernel, by decide +kernel⟩
abbrev s_Lmask : Stmt := top 61
theorem sc_Lmask : FnScope ["_law_pen_here", "_law_sizes_here", "_law_size", "_law_k"] ["_law_pen_here", "_law_sizes_here"] (defScope s_Lmask) := ⟨rfl, rfl, rfl, by decide +kernel, rfl, by decide +kernel, by decide +kernel⟩
abbrev s_Lparts : Stmt := top 62
theorem sc_Lparts : FnScope ["_law_pen_here", "_law_sizes_here", "_law_names_here", "_law_rules", "_law_changes", "_law_one", "_law_other", "_law_k"] ["_law_pen_here"] (defScope s_Lparts) := ⟨rfl, rfl, rfl, by decide +kernel, rfl, by decide +kernel, by decide +kernel⟩
abbrev s_Llines : Stmt := top 63
theorem sc_Llines : FnScope ["_law_sizes_here", "_law_rules", "_law_changes", "_law_lines_here", "_law_mask_here", "_law_name_here", "_law_one", "_law_other", "_law_size"] ["_law_sizes_here", "_law_rules", "_law_changes"] (defScope s_Llines) := ⟨rfl, rfl, rfl, by decide +kernel, rfl, by decide +kernel, by decide +kernel⟩
abbrev s_Lheard : Stmt := top 64
theorem sc_Lheard : FnScope ["_law_ask", "_law_caught", "e"] ["_law_ask"] (defScope s_Lheard) := ⟨rfl, rfl, rfl, by decide +kernel, rfl, by decide +kernel, by decide +kernel⟩
abbrev s_Lfirst : Stmt := top 65
theorem sc_Lfirst : FnScope ["_law_pen_here", "_law_some"] ["_law_pen_here"] (defScope s_Lfirst) := ⟨rfl, rfl, rfl, by decide +kernel, rfl, by decide +kernel, by decide +kernel⟩
abbrev s_Lline : Stmt := top 66
theorem sc_Lline : FnScope ["_law_pen_here", "_law_some"] ["_law_pen_here"] (defScope s_Lline) := ⟨rfl, rfl, rfl, by decide +kernel, rfl, by decide +kernel, by decide +kernel⟩
abbrev s_Lbent : Stmt := top 67
theorem sc_Lbent : FnScope ["_law_pen_here", "_law_lines_here", "_law_many", "_law_at", "_law_more"] ["_law_pen_here", "_law_lines_here", "_law_many"] (defScope s_Lbent) := ⟨rfl, rfl, rfl, by decide +kernel, rfl, by decide +kernel, by decide +kernel⟩
abbrev s_law : Stmt := top 68
theorem sc_law : FnScope ["_law_script", "_law_pen_here", "_law_turn", "_law_sizes_here", "_law_rules", "_law_changes", "_law_names_here", "_law_odd", "_law_at", "_law_bent_here", "_law_lines_here", "_law_thing"] ["_law_script"] (defScope s_law) := ⟨rfl, rfl, rfl, by decide +kernel, rfl, by decide +kernel, by decide +kernel⟩
structure TxL (K : PySem.W.Frag) (mg : Str → Option Value) (z : Pz) (w : Lz) : Prop extends Txp K mg z where
  g_Lpen : mg "_law_pen" = some (.ref w.a_Lpen)
  k_Lpen : PySem.W.keepIn K (.ref w.a_Lpen) = true
  b_Lpen : Binds K w.d_Lpen ["_law_script"] []
  F_Lpen : Fun K "_law_pen" "_law_pen" s_Lpen w.a_Lpen w.d_Lpen
  g_Ldraw : mg "_law_draw" = some (.ref w.a_Ldraw)
  k_Ldraw : PySem.W.keepIn K (.ref w.a_Ldraw) = true
  b_Ldraw : Binds K w.d_Ldraw ["_law_pen_here", "_law_many"] []
  F_Ldraw : Fun K "_law_draw" "_law_draw" s_Ldraw w.a_Ldraw w.d_Ldraw
  g_Lpick : mg "_law_pick" = some (.ref w.a_Lpick)
  k_Lpick : PySem.W.keepIn K (.ref w.a_Lpick) = true
  b_Lpick : Binds K w.d_Lpick ["_law_pen_here", "_law_some"] []
  F_Lpick : Fun K "_law_pick" "_law_pick" s_Lpick w.a_Lpick w.d_Lpick
  g_Lsizes : mg "_law_sizes" = some (.ref w.a_Lsizes)
  k_Lsizes : PySem.W.keepIn K (.ref w.a_Lsizes) = true
  b_Lsizes : Binds K w.d_Lsizes ["_law_pen_here"] []
  F_Lsizes : Fun K "_law_sizes" "_law_sizes" s_Lsizes w.a_Lsizes w.d_Lsizes
  g_Lname : mg "_law_name" = some (.ref w.a_Lname)
  k_Lname : PySem.W.keepIn K (.ref w.a_Lname) = true
  b_Lname : Binds K w.d_Lname ["_law_pen_here"] []
  F_Lname : Fun K "_law_name" "_law_name" s_Lname w.a_Lname w.d_Lname
  g_Lnames : mg "_law_names" = some (.ref w.a_Lnames)
  k_Lnames : PySem.W.keepIn K (.ref w.a_Lnames) = true
  b_Lnames : Binds K w.d_Lnames ["_law_pen_here"] []
  F_Lnames : Fun K "_law_names" "_law_names" s_Lnames w.a_Lnames w.d_Lnames
  g_Lmask : mg "_law_mask" = some (.ref w.a_Lmask)
  k_Lmask : PySem.W.keepIn K (.ref w.a_Lmask) = true
  b_Lmask : Binds K w.d_Lmask ["_law_pen_here", "_law_sizes_here"] []
  F_Lmask : Fun K "_law_mask" "_law_mask" s_Lmask w.a_Lmask w.d_Lmask
  g_Lparts : mg "_law_parts" = some (.ref w.a_Lparts)
  k_Lparts : PySem.W.keepIn K (.ref w.a_Lparts) = true
  b_Lparts : Binds K w.d_Lparts ["_law_pen_here"] []
  F_Lparts : Fun K "_law_parts" "_law_parts" s_Lparts w.a_Lparts w.d_Lparts
  g_Llines : mg "_law_lines" = some (.ref w.a_Llines)
  k_Llines : PySem.W.keepIn K (.ref w.a_Llines) = true
  b_Llines : Binds K w.d_Llines ["_law_sizes_here", "_law_rules", "_law_changes"] []
  F_Llines : Fun K "_law_lines" "_law_lines" s_Llines w.a_Llines w.d_Llines
  g_Lheard : mg "_law_heard" = some (.ref w.a_Lheard)
  k_Lheard : PySem.W.keepIn K (.ref w.a_Lheard) = true
  b_Lheard : Binds K w.d_Lheard ["_law_ask"] []
  F_Lheard : Fun K "_law_heard" "_law_heard" s_Lheard w.a_Lheard w.d_Lheard
  g_Lfirst : mg "_law_first" = some (.ref w.a_Lfirst)
  k_Lfirst : PySem.W.keepIn K (.ref w.a_Lfirst) = true
  b_Lfirst : Binds K w.d_Lfirst ["_law_pen_here"] []
  F_Lfirst : Fun K "_law_first" "_law_first" s_Lfirst w.a_Lfirst w.d_Lfirst
  g_Lline : mg "_law_line" = some (.ref w.a_Lline)
  k_Lline : PySem.W.keepIn K (.ref w.a_Lline) = true
  b_Lline : Binds K w.d_Lline ["_law_pen_here"] []
  F_Lline : Fun K "_law_line" "_law_line" s_Lline w.a_Lline w.d_Lline
  g_Lbent : mg "_law_bent" = some (.ref w.a_Lbent)
  k_Lbent : PySem.W.keepIn K (.ref w.a_Lbent) = true
  b_Lbent : Binds K w.d_Lbent ["_law_pen_here", "_law_lines_here", "_law_many"] []
  F_Lbent : Fun K "_law_bent" "_law_bent" s_Lbent w.a_Lbent w.d_Lbent
/-! the pen that is a list -/
def PenN (H : Hp) (p l : Addr) (n : Nat) : Prop := ∃ (cs : List Int) (a r : Int), H p = some (.lst [.ref l, .int a, .int r]) ∧ H l = some (.lst (cs.map V.int)) ∧ 0 ≤ a ∧ a ≤ n ∧ 0 ≤ r
theorem PenN.mono {H : Hp} {p l : Addr} {n m : Nat} (h : PenN H p l n) (le : n ≤ m) : PenN H p l m := by
  obtain ⟨cs, a, r, h1, h2, h3, h4, h5⟩ := h
  exact ⟨cs, a, r, h1, h2, h3, by omega, h5⟩
theorem PenN.same {H H' : Hp} {p l : Addr} {n : Nat} (h : PenN H p l n) (s : Same H H') : PenN H' p l n := by
  obtain ⟨cs, a, r, h1, h2, h3⟩ := h
  exact ⟨cs, a, r, s _ _ h1, s _ _ h2, h3⟩
theorem PenN.nep {H : Hp} {p l q : Addr} {n : Nat} (h : PenN H p l n) (hq : H q = none) : p ≠ q := by
  obtain ⟨cs, a, r, h1, _⟩ := h
  exact ne_of_none h1 hq
theorem PenN.nel {H : Hp} {p l q : Addr} {n : Nat} (h : PenN H p l n) (hq : H q = none) : l ≠ q := by
  obtain ⟨cs, a, r, h1, h2, _⟩ := h
  exact ne_of_none h2 hq
theorem PenN.put {H : Hp} {p l q : Addr} {n : Nat} {o : HO} (h : PenN H p l n) (n1 : p ≠ q) (n2 : l ≠ q) : PenN (upd H q o) p l n := by
  obtain ⟨cs, a, r, h1, h2, h3⟩ := h
  exact ⟨cs, a, r, by rw [upd_ne n1]; exact h1, by rw [upd_ne n2]; exact h2, h3⟩
theorem PenN.new {H : Hp} {p l q : Addr} {n : Nat} {o : HO} (h : PenN H p l n) (hq : H q = none) : PenN (upd H q o) p l n := h.put (h.nep hq) (h.nel hq)
theorem PenN.ext {H H' : Hp} {p l : Addr} {n : Nat} (e : LamX.ExtN H H') (h : PenN H p l n) : PenN H' p l n := by
  obtain ⟨cs, a, r, h1, h2, h3⟩ := h
  exact ⟨cs, a, r, e _ _ h1 (fun ps q => nomatch q), e _ _ h2 (fun ps q => nomatch q), h3⟩
def spPenN (K : PySem.W.Frag) : Sp := fun vs H Q _ => ∃ (a : Addr) (ns : List Int), vs = [.ref a] ∧ SqL K H a (ns.map V.int) ∧ ns.length ≤ 63 ∧
  ∀ (p l : Addr) (H' : Hp), H p = none → H l = none → Same H H' → PenN H' p l 0 → Q (.ref p) H'
def spDraw : Sp := fun vs H Q _ => ∃ (p l : Addr) (m : Int) (n : Nat), vs = [.ref p, .int m] ∧ 0 < m ∧ m < 1073741824 ∧ n < 100000 ∧ PenN H p l n ∧
  ∀ (d : Int) (H' : Hp), 0 ≤ d → d < m → PenN H' p l (n + 1) → But p H H' → Q (.int d) H'
section
variable {P : Program} {wo : World} {K : PySem.W.Frag} {mg : Str → Option Value} {base : Heap} {z : Pz} {w : Lz}
theorem ok_Lpen (T : TxL K mg z w) : FnOk P wo K mg base CX0 1 w.a_Lpen w.d_Lpen ["_law_script"] (spPenN K) := by
  refine T.F_Lpen.ok sc_Lpen (fun vs H Q E h => ?_) (fun cdv A outer s H vs Q E hr h => ?_)
  · obtain ⟨a, ns, rfl, _⟩ := h
    rfl
  · obtain ⟨a, ns, rfl, hS, hl, ret⟩ := h
    refine ⟨_, (pss_one (ps_ret (pe_lst (pa_cons (pe_callTy call_list_of (by rfl) T.n_list (by decide +kernel) (pa_cons (pe_slice sl_list (pv 0) po_none (po_some pe_int)) pa_nil)) (pa_cons pe_int (pa_cons pe_int pa_nil)))))), ?_⟩
    obtain ⟨ms, hms, hml⟩ := cut_map ns none (some 63)
    refine ⟨_, rfl, 63, rfl, a, _, rfl, hS, fun q hq => ?_⟩
    rw [hms]
    have s1 := smN (o := .lst (ms.map V.int)) (Same.refl H) hq
    refine ⟨q, _, rfl, .inl (SqL.of upd_same), fun l hl => ?_⟩
    have s2 := smN (o := .lst (ms.map V.int)) s1 hl
    refine ⟨by show 3 ≤ sizeLine; decide, fun p hp => ?_⟩
    have s3 := smN (o := .lst [.ref l, .int 0, .int 0]) s2 hp
    exact ret p l _ (s2.free hp) (s1.free hl) s3 ⟨ms, 0, 0, upd_same, smN (Same.refl _) hp _ _ upd_same, by decide, by decide, by decide⟩
theorem ok_Ldraw (T : TxL K mg z w) : FnOk P wo K mg base CX0 1 w.a_Ldraw w.d_Ldraw ["_law_pen_here", "_law_many"] spDraw := by
  refine T.F_Ldraw.ok sc_Ldraw (fun vs H Q E h => ?_) (fun cdv A outer s H vs Q E hr h => ?_)
  · obtain ⟨p, l, m, n, rfl, _⟩ := h
    rfl
  · obtain ⟨p, l, m, n, rfl, hm0, hm1, hn, ⟨cs, a, r, hp, hl, ha0, ha1, hr0⟩, k⟩ := h
    have hu64 : (A.deeper (envOfC "_law_draw" (defScope s_Ldraw) s.heap.objs.size w.a_Ldraw cdv)).units + 64 < cLine := hr.units
    have npl : l ≠ p := ne_of hl hp (by intro z; injection z with z; have := congrArg List.length z; simp at this; have e := z; cases cs with | nil => cases e | cons c cs => cases e)
    refine ⟨_, (pss_cons (ps_if (pt_cmpR op_gt (pe_ix ix_list (pv 0) pe_int (fun _ _ => rfl)) pe_int (nomark _))
        (pss_cons (ps_set (i := 2) sc_Ldraw.nd rfl (Or.inl rfl) (pe_op op_mod (pe_callTy call_int1 (by rfl) T.n_int (by decide +kernel) (pa_cons (pe_ix ix_list (pv 0) pe_int (fun _ _ => rfl)) pa_nil)) (pv 1)))
        (pss_cons (ps_asg (pe_op op_fdiv (pe_callTy call_int1 (by rfl) T.n_int (by decide +kernel) (pa_cons (pe_ix ix_list (pv 0) pe_int (fun _ _ => rfl)) pa_nil)) (pv 1)) (pg_sub (pv 0) pe_int set_list))
        (pss_one (ps_ret (pv 2)))))
        pss_nil)
      (pss_cons (ps_set (i := 3) sc_Ldraw.nd rfl (Or.inl rfl) (pe_ix ix_list (pv 0) pe_int (fun _ _ => rfl)))
      (pss_cons (ps_asg (pe_op op_add (pv 3) pe_int) (pg_sub (pv 0) pe_int set_list))
      (pss_cons (ps_set (i := 4) sc_Ldraw.nd rfl (Or.inl rfl) (pe_op op_add (pe_op op_mul pe_int (pv 3)) pe_int))
      (C8.pss_cut (ps_if (pt_cmpR (op_neD hu64) (pe_ix ix_list (pv 0) pe_int (fun _ _ => rfl)) (pe_lst pa_nil) (nomark _))
        (pss_one (ps_set (i := 4) sc_Ldraw.nd rfl (Or.inl rfl) (pe_ix ix_list (pe_ix ix_list (pv 0) pe_int (fun _ _ => rfl)) (pe_op op_mod (pe_callTy call_int1 (by rfl) T.n_int (by decide +kernel) (pa_cons (pv 3) pa_nil)) (pe_callB call_len_seq (by rfl) T.n_len (by decide +kernel) (pa_cons (pe_ix ix_list (pv 0) pe_int (fun _ _ => rfl)) pa_nil))) (fun _ _ => rfl))))
        pss_nil)
      (C8.pss_cut (ps_if (PW.pt (pw_and (pt_cmpR op_lt (pv 3) (pe_callB call_len_seq (by rfl) T.n_len (by decide +kernel) (pa_cons (pe_ix ix_list (pv 0) pe_int (fun _ _ => rfl)) pa_nil)) (nomark _)) (pw_and1 (pt_cmpR op_ge (pe_callB call_abs (by rfl) T.n_abs (by decide +kernel) (pa_cons (pv 4) pa_nil)) (pe_op op_pow pe_int pe_int) (nomark _)))))
        (pss_cons (ps_set (i := 5) sc_Ldraw.nd rfl (Or.inl rfl) (pe_op op_add (pe_op op_mul pe_int (pe_op op_sub (pe_callB call_abs (by rfl) T.n_abs (by decide +kernel) (pa_cons (pv 4) pa_nil)) (pe_op op_pow pe_int pe_int))) (pe_callTy call_int1 (by rfl) T.n_int (by decide +kernel) (pa_cons (pe_cmpR op_lt (pv 4) pe_int (nomark _)) pa_nil))))
        (pss_cons (ps_asg (pe_op op_fdiv (pe_callTy call_int1 (by rfl) T.n_int (by decide +kernel) (pa_cons (pv 5) pa_nil)) (pv 1)) (pg_sub (pv 0) pe_int set_list))
        (pss_one (ps_ret (pe_op op_mod (pe_callTy call_int1 (by rfl) T.n_int (by decide +kernel) (pa_cons (pv 5) pa_nil)) (pv 1))))))
        pss_nil)
      (pss_cons (ps_set (i := 6) sc_Ldraw.nd rfl (Or.inl rfl) (pe_op op_mod (pe_callTy call_int1 (by rfl) T.n_int (by decide +kernel) (pa_cons (pe_op op_pow (pe_op op_add (pe_op op_add (pe_op op_mod (pe_callTy call_int1 (by rfl) T.n_int (by decide +kernel) (pa_cons (pv 4) pa_nil)) pe_int) (pe_op op_mul pe_int (pv 3))) pe_int) pe_int) pa_nil)) pe_int))
      (pss_cons (ps_set (i := 6) sc_Ldraw.nd rfl (Or.inl rfl) (pe_op op_mod (pe_callTy call_int1 (by rfl) T.n_int (by decide +kernel) (pa_cons (pe_op op_pow (pe_op op_add (pe_op op_add (pe_op op_mul (pv 6) (pe_op op_add (pe_op op_mul pe_int (pv 3)) pe_int)) (pe_op op_mul (pe_op op_mul pe_int (pv 3)) (pv 3))) pe_int) pe_int) pa_nil)) pe_int))
      (pss_one (ps_ret (pe_op op_mod (pe_callTy call_int1 (by rfl) T.n_int (by decide +kernel) (pa_cons (pe_op op_fdiv (pv 6) pe_int) pa_nil)) (pv 1)))))))))))), ?_⟩
    -- if pen[2] > 0
    refine ⟨_, rfl, p, _, 2, .int r, rfl, rfl, SqL.of hp, rfl, _, _, rfl, rfl, _, rfl, ?_⟩
    refine ite2 (fun h1 => ?_) (fun h1 => ?_)
    · refine ⟨_, rfl, p, _, 2, .int r, rfl, rfl, SqL.of hp, rfl, .inl ⟨_, rfl, ?_⟩⟩
      refine ⟨_, rfl, _, _, rfl, rfl, hm0, ?_⟩
      refine ⟨_, rfl, p, _, 2, .int r, rfl, rfl, SqL.of hp, rfl, .inl ⟨_, rfl, ?_⟩⟩
      refine ⟨_, rfl, _, _, rfl, rfl, ⟨hm0, hm1⟩, ?_⟩
      refine ⟨_, rfl, p, _, 2, 2, rfl, rfl, hp, rfl, ?_⟩
      refine ⟨_, rfl, ?_⟩
      exact k _ _ (Int.emod_nonneg _ (by omega)) (Int.emod_lt_of_pos _ hm0) ⟨cs, a, r / m, upd_same, by rw [upd_ne npl]; exact hl, ha0, by omega, Int.ediv_nonneg hr0 (by omega)⟩ (fun c o hc e => by rw [upd_ne hc]; exact e)
    · refine ⟨_, rfl, p, _, 1, .int a, rfl, rfl, SqL.of hp, rfl, ?_⟩
      refine ⟨_, rfl, _, _, rfl, rfl, _, rfl, p, _, 1, 1, rfl, rfl, hp, rfl, ?_⟩
      refine ⟨_, rfl, _, _, rfl, rfl, .inl ⟨by decide, by decide⟩, _, _, rfl, rfl, ?_⟩
      have b1 : But p H (upd H p (.lst [.ref l, .int (a + 1), .int r])) := fun c o hc e => by rw [upd_ne hc]; exact e
      have hp1 : (upd H p (.lst [.ref l, .int (a + 1), .int r])) p = some (.lst [.ref l, .int (a + 1), .int r]) := upd_same
      have hl1 : (upd H p (.lst [.ref l, .int (a + 1), .int r])) l = some (.lst (cs.map V.int)) := by rw [upd_ne npl]; exact hl
      refine ⟨fun σ H' => But p H H' ∧ H' p = some (.lst [.ref l, .int (a + 1), .int r]) ∧ H' l = some (.lst (cs.map V.int)) ∧ ∃ c : Int, σ = [some (.ref p), some (.int m), none, some (.int a), some (.int c), none, none], ?_, ?_⟩
      · refine ⟨_, rfl, p, _, 0, .ref l, rfl, rfl, SqL.of hp1, rfl, by show 0 ≤ sizeLine; decide, fun q hq => ?_⟩
        have s2 := smN (o := .lst []) (Same.refl _) hq
        refine ⟨.list (intD cs), .list [], .lst (SqL.of (s2 _ _ hl1)) (dp_ints _), .lst (SqL.of upd_same) .nil, shaped_lst (lay_ints _), by decide +kernel, _, rfl, ?_⟩
        rw [eqv_ints_nil]
        have b2 := b1.trans (But.of s2)
        have hp2 := s2 _ _ hp1
        have hl2 := s2 _ _ hl1
        by_cases c0 : cs = []
        · rw [decide_eq_true c0]
          exact iteF ⟨b2, hp2, hl2, _, rfl⟩
        · rw [decide_eq_false c0]
          refine iteT ?_
          have ln : 0 < cs.length := List.length_pos_iff.mpr c0
          refine ⟨_, rfl, p, _, 0, .ref l, rfl, rfl, SqL.of hp2, rfl, ?_⟩
          refine ⟨_, rfl, .inl ⟨_, rfl, ?_⟩⟩
          refine ⟨_, rfl, p, _, 0, .ref l, rfl, rfl, SqL.of hp2, rfl, ?_⟩
          refine ⟨l, _, rfl, .inl (SqL.of hl2), ?_⟩
          rw [List.length_map]
          refine ⟨_, _, rfl, rfl, by omega, ?_⟩
          have e1 := Int.emod_nonneg a (show ((cs.length : Nat) : Int) ≠ 0 by omega)
          have e2 := Int.emod_lt_of_pos a (show (0 : Int) < ((cs.length : Nat) : Int) by omega)
          obtain ⟨j, ej⟩ : ∃ j : Nat, a % ((cs.length : Nat) : Int) = (j : Int) := ⟨(a % ((cs.length : Nat) : Int)).toNat, by omega⟩
          rw [ej] at e1 e2
          refine ⟨l, _, (j : Int), .int (cs[j]'(by omega)), rfl, by rw [← ej], SqL.of hl2, atI_nat (by rw [List.getElem?_map, List.getElem?_eq_getElem (show j < cs.length by omega)] <;> rfl), ?_⟩
          exact ⟨b2, hp2, hl2, _, rfl⟩
      · rintro σ H2 ⟨b2, hp2, hl2, c, rfl⟩
        refine ⟨fun σ H' => But p H H' ∧ H' p = some (.lst [.ref l, .int (a + 1), .int r]) ∧ H' l = some (.lst (cs.map V.int)) ∧ ∃ c : Int, σ = [some (.ref p), some (.int m), none, some (.int a), some (.int c), none, none], ?_, ?_⟩
        · refine ⟨_, rfl, _, rfl, p, _, 0, .ref l, rfl, rfl, SqL.of hp2, rfl, ?_⟩
          refine ⟨l, _, rfl, .inl (SqL.of hl2), _, _, rfl, rfl, _, rfl, ?_⟩
          refine ite2 (fun h2 => ?_) (fun h2 => ?_)
          · refine ⟨_, rfl, _, rfl, _, _, rfl, rfl, ⟨by decide, by decide, by decide⟩, _, _, rfl, rfl, _, rfl, ?_⟩
            refine ite2 (fun h3 => ?_) (fun h3 => ?_)
            · have h4 := of_decide_eq_true h3
              have e18 : (10 : Int) ^ ((18 : Int).toNat) = 1000000000000000000 := by decide
              rw [e18] at h4
              have hg : 0 ≤ 2 * ((if c < 0 then -c else c) - (10 : Int) ^ ((18 : Int).toNat)) + (if decide (c < 0) = true then (1 : Int) else 0) := by
                rw [e18]
                split <;> split <;> split at h4 <;> omega
              refine ⟨_, rfl, _, rfl, _, _, rfl, rfl, ⟨by decide, by decide, by decide⟩, _, _, rfl, rfl, _, _, rfl, rfl, .inl ⟨by decide, by decide⟩, ?_⟩
              refine ⟨_, rfl, _, _, rfl, rfl, .inr ⟨_, rfl, ?_⟩⟩
              refine ⟨_, _, rfl, rfl, ?_⟩
              refine ⟨_, rfl, .inl ⟨_, rfl, ?_⟩⟩
              refine ⟨_, rfl, _, _, rfl, rfl, ⟨hm0, hm1⟩, ?_⟩
              refine ⟨_, rfl, p, _, 2, 2, rfl, rfl, hp2, rfl, ?_⟩
              refine ⟨_, rfl, .inl ⟨_, rfl, ?_⟩⟩
              refine ⟨_, rfl, _, _, rfl, rfl, hm0, ?_⟩
              exact k _ _ (Int.emod_nonneg _ (by omega)) (Int.emod_lt_of_pos _ hm0) ⟨cs, a + 1, _, upd_same, by rw [upd_ne npl]; exact hl2, by omega, by omega, Int.ediv_nonneg hg (by omega)⟩ (fun c o hc e => by rw [upd_ne hc]; exact b2 c o hc e)
            · exact ⟨b2, hp2, hl2, _, rfl⟩
          · exact iteF ⟨b2, hp2, hl2, _, rfl⟩
        · rintro σ H3 ⟨b3, hp3, hl3, c, rfl⟩
          refine ⟨_, rfl, .inl ⟨_, rfl, ?_⟩⟩
          refine ⟨_, _, rfl, rfl, (show (0 : Int) < 2147483549 by decide), ?_⟩
          refine ⟨_, rfl, _, _, rfl, rfl, .inl ⟨by decide, by decide⟩, ?_⟩
          refine ⟨_, _, rfl, rfl, ?_⟩
          refine ⟨_, _, rfl, rfl, ?_⟩
          have e1 := Int.emod_nonneg c (show (2147483549 : Int) ≠ 0 by decide)
          have e2 := Int.emod_lt_of_pos c (show (0 : Int) < 2147483549 by decide)
          refine ⟨_, _, rfl, rfl, ⟨by decide, by decide, ?_⟩, ?_⟩
          · omega
          refine .inl ⟨_, rfl, ?_⟩
          refine ⟨_, _, rfl, rfl, (show (0 : Int) < 2147483629 by decide), ?_⟩
          generalize hx : (c % 2147483549 + 72161 * a + 241) ^ (5 : Int).toNat % 2147483629 = x
          have e3 : 0 ≤ x := by rw [← hx]; exact Int.emod_nonneg _ (by decide)
          have e4 : x < 2147483629 := by rw [← hx]; exact Int.emod_lt_of_pos _ (by decide)
          refine ⟨_, rfl, ?_⟩
          refine ⟨_, rfl, _, _, rfl, rfl, .inl ⟨by decide, by decide⟩, _, _, rfl, rfl, _, _, rfl, rfl, .inl ⟨by omega, by omega⟩, ?_⟩
          refine ⟨_, rfl, _, _, rfl, rfl, .inl ⟨by decide, by decide⟩, _, rfl, _, _, rfl, rfl, .inr ⟨by omega, by omega⟩, _, _, rfl, rfl, _, _, rfl, rfl, ?_⟩
          have f1 : 0 ≤ x * (2 * a + 339) := Int.mul_nonneg e3 (by omega)
          have f2 : x * (2 * a + 339) ≤ 2147483629 * 300000 := Int.mul_le_mul (by omega) (by omega) (by omega) (by decide)
          have e5 : 0 ≤ 83221 * a * a := Int.mul_nonneg (by omega) ha0
          have e6 : 83221 * a * a ≤ 83221 * 100000 * 100000 := Int.mul_le_mul (by omega) (by omega) ha0 (by decide)
          refine ⟨_, _, rfl, rfl, ⟨by decide, by decide, ?_⟩, ?_⟩
          · show Int.natAbs ((c % 2147483549 + 72161 * a + 241) ^ (5 : Int).toNat % 2147483629 * (2 * a + 339) + 83221 * a * a + 11) < 2 ^ 64
            rw [hx]
            generalize 83221 * a * a = y at *
            generalize x * (2 * a + 339) = y2 at *
            omega
          refine .inl ⟨_, rfl, ?_⟩
          refine ⟨_, _, rfl, rfl, (show (0 : Int) < 2147483587 by decide), ?_⟩
          refine ⟨_, rfl, _, _, rfl, rfl, ⟨by decide, by decide⟩, .inl ⟨_, rfl, ?_⟩⟩
          refine ⟨_, rfl, _, _, rfl, rfl, hm0, ?_⟩
          exact k _ _ (Int.emod_nonneg _ (by omega)) (Int.emod_lt_of_pos _ hm0) ⟨cs, a + 1, r, hp3, hl3, by omega, by omega, hr0⟩ b3
end
end Fb
set_option maxRecDepth 100000
set_option maxHeartbeats 4000000
namespace Fb
open PySem PySem.Spec PyProof.Rows L2
open SX (S)
theorem stepL {H : Hp} {a : Addr} {xs : List V} (h : H a = none) : Same H (upd H a (.lst xs)) ∧ (upd H a (.lst xs)) a = some (.lst xs) := ⟨smN (Same.refl H) h, upd_same⟩
theorem PenN.ne_tup {H : Hp} {p l c : Addr} {n : Nat} {xs : List V} (h : PenN H p l n) (e : H c = some (.tup xs)) : c ≠ p := by
  obtain ⟨cs, a, r, h1, _⟩ := h
  exact ne_of e h1 (fun z => nomatch z)
def spPick (K : PySem.W.Frag) : Sp := fun vs H Q _ => ∃ (p l q : Addr) (n : Nat) (xs : List V), vs = [.ref p, .ref q] ∧ H q = some (.lst xs) ∧ q ≠ p ∧ 1 ≤ xs.length ∧ xs.length ≤ 1000 ∧ n < 90000 ∧ PenN H p l n ∧
  ∀ (j : Nat) v H', xs[j]? = some v → But p H H' → PenN H' p l (n + 1) → Q v H'
def spPickS : Sp := fun vs H Q _ => ∃ (p l : Addr) (n : Nat) (t : List Nat), vs = [.ref p, .str (S t)] ∧ 1 ≤ t.length ∧ t.length ≤ 1000 ∧ n < 90000 ∧ PenN H p l n ∧
  ∀ c H', c ∈ t → But p H H' → PenN H' p l (n + 1) → Q (.str (S [c])) H'
theorem S_of (s : Str) : s = S s.cps.toList := by
  unfold S
  cases s
  rfl
def firstL : List Str := ["", " ", "sizes", "sizes ", " sizes 1", "sizes 1 ", "sizes  1", "sizes 01", "sizes 00", "sizes 1000", "sizes a", "sizes -1", "sizes +1", "Sizes 1", "size 1", "sizes 1,2", "sizes1", "none", "rule 1 a", "change a b", "sizes 1 2 x", "sizes 1.0", "sizes 1_0", "sizes\t1"]
def lineL : List Str := ["", " ", "rule", "rule 1", "rule 1 a b", "rule 1  a", " rule 1 a", "rule 1 a ", "rule 2 a", "rule 1 A", "Rule 1 a", "change a", "change a b c", "change a _", "change A b", "change  a b", "sizes 1", "none", "row 1 - fall 0", "rule 1,a", "rule\t1 a", "rule 1* a.", "rule a 1", "changes a b", "done", "rule 1 a change a b"]
def plainT (t : List Nat) : Bool := decide (10 ∉ t) && decide (t.length ≤ 100)
def badF (t : List Nat) : Bool := plainT t && !canL (wds t) []
def heads : List (List Nat) := [wSizes, wRule, wChange]
def badL (t : List Nat) : Bool := plainT t && heads.all fun b => !canL (wds t) b
theorem first_bad : firstL.all (fun s => badF s.cps.toList) = true := by decide +kernel
theorem line_bad : lineL.all (fun s => badL s.cps.toList) = true := by decide +kernel
def SzOk (ss : List Nat) : Prop := ss ≠ [] ∧ ss.length ≤ 3 ∧ ∀ n ∈ ss, 1 ≤ n ∧ n ≤ 6
def SzG (p : Addr) (H : Hp) (v : V) : Prop := ∃ q ss, v = .ref q ∧ q ≠ p ∧ H q = some (.lst (nums ss)) ∧ SzOk ss
def SzsG (p : Addr) (H : Hp) (vs : List V) : Prop := ∀ v ∈ vs, SzG p H v
theorem szs_add {p q : Addr} {H : Hp} {vs : List V} {ss : List Nat} (h : SzsG p H vs) (hq : H q = none) (n : q ≠ p) (k : SzOk ss) : SzsG p (upd H q (.lst (nums ss))) (vs ++ [.ref q]) := fun v hv => by
  rcases List.mem_append.mp hv with e | e
  · obtain ⟨q', s', h1, h2, h3, h4⟩ := h v e
    exact ⟨q', s', h1, h2, smN (Same.refl _) hq _ _ h3, h4⟩
  · exact ⟨q, ss, List.mem_singleton.mp e, n, upd_same, k⟩
theorem szs_new {p q : Addr} {H : Hp} {vs : List V} {o : HO} (h : SzsG p H vs) (hq : H q = none) : SzsG p (upd H q o) vs := fun v hv => by
  obtain ⟨q', s', h1, h2, h3, h4⟩ := h v hv
  exact ⟨q', s', h1, h2, smN (Same.refl _) hq _ _ h3, h4⟩
def spSizesL : Sp := fun vs H Q _ => ∃ (p l : Addr) (n : Nat), vs = [.ref p] ∧ n < 80000 ∧ PenN H p l n ∧ ∀ q ss H', q ≠ p → SzOk ss → H' q = some (.lst (nums ss)) → But p H H' → PenN H' p l (n + 1) → Q (.ref q) H'
def spTextL (ok : List Nat → Bool) : Sp := fun vs H Q _ => ∃ (p l : Addr) (n : Nat), vs = [.ref p] ∧ n < 80000 ∧ PenN H p l n ∧ ∀ t H', ok t = true → But p H H' → PenN H' p l (n + 1) → Q (.str (S t)) H'
section
variable {P : Program} {wo : World} {K : PySem.W.Frag} {mg : Str → Option Value} {base : Heap} {z : Pz} {w : Lz}
theorem ok_Lpick (T : TxL K mg z w) : FnOk P wo K mg base CX0 2 w.a_Lpick w.d_Lpick ["_law_pen_here", "_law_some"] (spPick K) := by
  refine T.F_Lpick.ok sc_Lpick (fun vs H Q E h => ?_) (fun cdv A outer s H vs Q E hr h => ?_)
  · obtain ⟨p, l, q, n, xs, rfl, _⟩ := h
    rfl
  · obtain ⟨p, l, q, n, xs, rfl, hq, nqp, h1, h2, hn, hP, ret⟩ := h
    have hr1 : Room 1 _ := hr
    have G_Ldraw : FnOk P wo K mg base CX0 1 w.a_Ldraw w.d_Ldraw ["_law_pen_here", "_law_many"] spDraw := ok_Ldraw T
    refine ⟨_, (pss_one (ps_ret (pe_ix ix_list (pv 1) (pe_call G_Ldraw hr1 rfl T.g_Ldraw T.k_Ldraw T.b_Ldraw .nil pass0 (pa_cons (pv 0) (pa_cons (pe_callB call_len_seq (by rfl) T.n_len (by decide +kernel) (pa_cons (pv 1) pa_nil)) pa_nil))) (fun _ _ => rfl)))), ?_⟩
    refine ⟨_, rfl, _, rfl, _, rfl, q, _, rfl, .inl (SqL.of hq), ?_⟩
    refine ⟨p, l, _, n, rfl, by omega, by omega, by omega, hP, fun d H1 hd0 hd1 P1 B1 => ?_⟩
    obtain ⟨k, rfl⟩ : ∃ k : Nat, d = (k : Int) := ⟨d.toNat, by omega⟩
    have hk : k < xs.length := by omega
    have ev := List.getElem?_eq_getElem hk
    exact ⟨q, _, (k : Int), _, rfl, rfl, SqL.of (B1 _ _ nqp hq), atI_nat ev, ret k _ _ ev B1 P1⟩
theorem ok_LpickS (T : TxL K mg z w) : FnOk P wo K mg base CX0 2 w.a_Lpick w.d_Lpick ["_law_pen_here", "_law_some"] spPickS := by
  refine T.F_Lpick.ok sc_Lpick (fun vs H Q E h => ?_) (fun cdv A outer s H vs Q E hr h => ?_)
  · obtain ⟨p, l, n, t, rfl, _⟩ := h
    rfl
  · obtain ⟨p, l, n, t, rfl, h1, h2, hn, hP, ret⟩ := h
    have hr1 : Room 1 _ := hr
    have G_Ldraw : FnOk P wo K mg base CX0 1 w.a_Ldraw w.d_Ldraw ["_law_pen_here", "_law_many"] spDraw := ok_Ldraw T
    have lz : (S t).length ≤ sizeLine := by rw [S_ln]; exact Nat.le_trans h2 (by decide)
    refine ⟨_, (pss_one (ps_ret (pe_ix ix_str (pv 1) (pe_call G_Ldraw hr1 rfl T.g_Ldraw T.k_Ldraw T.b_Ldraw .nil pass0 (pa_cons (pv 0) (pa_cons (pe_callB call_len_str (by rfl) T.n_len (by decide +kernel) (pa_cons (pv 1) pa_nil)) pa_nil))) (fun _ _ => rfl)))), ?_⟩
    refine ⟨_, rfl, _, rfl, _, rfl, S t, rfl, lz, ?_⟩
    rw [S_ln]
    refine ⟨p, l, _, n, rfl, by omega, by omega, by omega, hP, fun d H1 hd0 hd1 P1 B1 => ?_⟩
    obtain ⟨k, rfl⟩ : ∃ k : Nat, d = (k : Int) := ⟨d.toNat, by omega⟩
    have hk : k < t.length := by omega
    have ev := List.getElem?_eq_getElem hk
    exact ⟨S t, (k : Int), _, rfl, rfl, lz, atI_nat ev, ret _ _ (List.mem_of_getElem? ev) B1 P1⟩
theorem ok_Lfirst (T : TxL K mg z w) : FnOk P wo K mg base CX0 3 w.a_Lfirst w.d_Lfirst ["_law_pen_here"] (spTextL badF) := by
  refine T.F_Lfirst.ok sc_Lfirst (fun vs H Q E h => ?_) (fun cdv A outer s H vs Q E hr h => ?_)
  · obtain ⟨p, l, n, rfl, _⟩ := h
    rfl
  · obtain ⟨p, l, n, rfl, hn, hP, ret⟩ := h
    have hr2 : Room 2 _ := hr
    have G_Lpick : FnOk P wo K mg base CX0 2 w.a_Lpick w.d_Lpick ["_law_pen_here", "_law_some"] (spPick K) := ok_Lpick T
    refine ⟨_, (pss_cons (ps_set (i := 1) sc_Lfirst.nd rfl (Or.inl rfl) (pe_lst (pa_cons pe_str (pa_cons pe_str (pa_cons pe_str (pa_cons pe_str (pa_cons pe_str (pa_cons pe_str (pa_cons pe_str (pa_cons pe_str (pa_cons pe_str (pa_cons pe_str pa_nil))))))))))))
      (pss_cons (ps_set (i := 1) sc_Lfirst.nd rfl (Or.inl rfl) (pe_op op_cat (pv 1) (pe_lst (pa_cons pe_str (pa_cons pe_str (pa_cons pe_str (pa_cons pe_str (pa_cons pe_str (pa_cons pe_str (pa_cons pe_str (pa_cons pe_str (pa_cons pe_str pa_nil))))))))))))
      (pss_one (ps_ret (pe_call G_Lpick hr2 rfl T.g_Lpick T.k_Lpick T.b_Lpick .nil pass0 (pa_cons (pv 0) (pa_cons (pe_op op_cat (pv 1) (pe_lst (pa_cons pe_str (pa_cons pe_str (pa_cons pe_str (pa_cons pe_str (pa_cons pe_str pa_nil))))))) pa_nil))))))), ?_⟩
    refine ⟨by show 10 ≤ sizeLine; decide, fun q1 h1 => ?_⟩
    refine ⟨_, rfl, by show 9 ≤ sizeLine; decide, fun q2 h2 => ?_⟩
    refine ⟨q1, q2, _, _, rfl, rfl, smN (Same.refl _) h2 _ _ upd_same, upd_same, by show 10 + 9 ≤ sizeLine; decide, fun q3 h3 => ?_⟩
    refine ⟨_, rfl, _, rfl, by show 5 ≤ sizeLine; decide, fun q4 h4 => ?_⟩
    refine ⟨q3, q4, _, _, rfl, rfl, smN (Same.refl _) h4 _ _ upd_same, upd_same, by show 19 + 5 ≤ sizeLine; decide, fun q5 h5 => ?_⟩
    have s5 := smN (o := .lst (firstL.map V.str)) (smN (smN (smN (smN (Same.refl H) h1) h2) h3) h4) h5
    refine ⟨p, l, q5, n, firstL.map V.str, rfl, upd_same, Ne.symm (((((hP.new h1).new h2).new h3).new h4).nep h5), by show 1 ≤ 24; decide, by show 24 ≤ 1000; decide, by omega, hP.same s5, fun j v H6 ev B6 P6 => ?_⟩
    rw [List.getElem?_map] at ev
    cases e : firstL[j]? with
    | none => rw [e] at ev; cases ev
    | some st =>
      rw [e] at ev
      cases ev
      rw [S_of st]
      exact ret _ _ (List.all_eq_true.mp first_bad st (List.mem_of_getElem? e)) ((But.of s5).trans B6) P6
theorem ok_Lline (T : TxL K mg z w) : FnOk P wo K mg base CX0 3 w.a_Lline w.d_Lline ["_law_pen_here"] (spTextL badL) := by
  refine T.F_Lline.ok sc_Lline (fun vs H Q E h => ?_) (fun cdv A outer s H vs Q E hr h => ?_)
  · obtain ⟨p, l, n, rfl, _⟩ := h
    rfl
  · obtain ⟨p, l, n, rfl, hn, hP, ret⟩ := h
    have hr2 : Room 2 _ := hr
    have G_Lpick : FnOk P wo K mg base CX0 2 w.a_Lpick w.d_Lpick ["_law_pen_here", "_law_some"] (spPick K) := ok_Lpick T
    refine ⟨_, (pss_cons (ps_set (i := 1) sc_Lline.nd rfl (Or.inl rfl) (pe_lst (pa_cons pe_str (pa_cons pe_str (pa_cons pe_str (pa_cons pe_str (pa_cons pe_str (pa_cons pe_str (pa_cons pe_str (pa_cons pe_str (pa_cons pe_str (pa_cons pe_str pa_nil))))))))))))
      (pss_cons (ps_set (i := 1) sc_Lline.nd rfl (Or.inl rfl) (pe_op op_cat (pv 1) (pe_lst (pa_cons pe_str (pa_cons pe_str (pa_cons pe_str (pa_cons pe_str (pa_cons pe_str (pa_cons pe_str (pa_cons pe_str (pa_cons pe_str pa_nil)))))))))))
      (pss_cons (ps_set (i := 1) sc_Lline.nd rfl (Or.inl rfl) (pe_op op_cat (pv 1) (pe_lst (pa_cons pe_str (pa_cons pe_str (pa_cons pe_str (pa_cons pe_str (pa_cons pe_str (pa_cons pe_str (pa_cons pe_str pa_nil))))))))))
      (pss_cons (ps_expr (pe_bm PySem.F.plainAttrs_list PySem.F.slot_list_append PySem.F.type_list_append mt_append (pv 1) (pa_cons pe_str pa_nil)))
      (pss_one (ps_ret (pe_call G_Lpick hr2 rfl T.g_Lpick T.k_Lpick T.b_Lpick .nil pass0 (pa_cons (pv 0) (pa_cons (pv 1) pa_nil))))))))), ?_⟩
    refine ⟨by show 10 ≤ sizeLine; decide, fun q1 h1 => ?_⟩
    refine ⟨_, rfl, by show 8 ≤ sizeLine; decide, fun q2 h2 => ?_⟩
    refine ⟨q1, q2, _, _, rfl, rfl, smN (Same.refl _) h2 _ _ upd_same, upd_same, by show 10 + 8 ≤ sizeLine; decide, fun q3 h3 => ?_⟩
    refine ⟨_, rfl, by show 7 ≤ sizeLine; decide, fun q4 h4 => ?_⟩
    refine ⟨q3, q4, _, _, rfl, rfl, smN (Same.refl _) h4 _ _ upd_same, upd_same, by show 18 + 7 ≤ sizeLine; decide, fun q5 h5 => ?_⟩
    refine ⟨_, rfl, .inl ⟨rfl, _, SqL.of upd_same⟩, q5, (lineL.take 25).map V.str, _, rfl, rfl, upd_same, by show 25 < sizeLine; decide, ?_⟩
    have s5 := smN (o := .lst ((lineL.take 25).map V.str)) (smN (smN (smN (smN (Same.refl H) h1) h2) h3) h4) h5
    have n5 := ((((hP.new h1).new h2).new h3).new h4).nep h5
    have f5 := (smN (smN (smN (smN (Same.refl H) h1) h2) h3) h4).free h5
    have s6 := same_put (o := .lst (lineL.map V.str)) s5 f5
    refine ⟨_, rfl, _, rfl, p, l, q5, n, lineL.map V.str, rfl, upd_same, Ne.symm n5, by show 1 ≤ 26; decide, by show 26 ≤ 1000; decide, by omega, hP.same s6, fun j v H6 ev B6 P6 => ?_⟩
    rw [List.getElem?_map] at ev
    cases e : lineL[j]? with
    | none => rw [e] at ev; cases ev
    | some st =>
      rw [e] at ev
      cases ev
      rw [S_of st]
      exact ret _ _ (List.all_eq_true.mp line_bad st (List.mem_of_getElem? e)) ((But.of s6).trans B6) P6
theorem ok_Lsizes (T : TxL K mg z w) : FnOk P wo K mg base CX0 3 w.a_Lsizes w.d_Lsizes ["_law_pen_here"] spSizesL := by
  refine T.F_Lsizes.ok sc_Lsizes (fun vs H Q E h => ?_) (fun cdv A outer s H vs Q E hr h => ?_)
  · obtain ⟨p, l, n, rfl, _⟩ := h
    rfl
  · obtain ⟨p, l, n, rfl, hn, hP, ret⟩ := h
    have hr2 : Room 2 _ := hr
    have G_Lpick : FnOk P wo K mg base CX0 2 w.a_Lpick w.d_Lpick ["_law_pen_here", "_law_some"] (spPick K) := ok_Lpick T
    refine ⟨_, (pss_cons (ps_set (i := 1) sc_Lsizes.nd rfl (Or.inl rfl) (pe_lst (pa_cons (pe_lst (pa_cons pe_int pa_nil)) (pa_cons (pe_lst (pa_cons pe_int pa_nil)) (pa_cons (pe_lst (pa_cons pe_int pa_nil)) (pa_cons (pe_lst (pa_cons pe_int pa_nil)) (pa_cons (pe_lst (pa_cons pe_int (pa_cons pe_int pa_nil))) (pa_cons (pe_lst (pa_cons pe_int (pa_cons pe_int pa_nil))) (pa_cons (pe_lst (pa_cons pe_int (pa_cons pe_int pa_nil))) (pa_cons (pe_lst (pa_cons pe_int (pa_cons pe_int pa_nil))) (pa_cons (pe_lst (pa_cons pe_int (pa_cons pe_int (pa_cons pe_int pa_nil)))) (pa_cons (pe_lst (pa_cons pe_int (pa_cons pe_int (pa_cons pe_int pa_nil)))) (pa_cons (pe_lst (pa_cons pe_int (pa_cons pe_int (pa_cons pe_int pa_nil)))) (pa_cons (pe_lst (pa_cons pe_int (pa_cons pe_int (pa_cons pe_int pa_nil)))) pa_nil))))))))))))))
      (pss_one (ps_ret (pe_call G_Lpick hr2 rfl T.g_Lpick T.k_Lpick T.b_Lpick .nil pass0 (pa_cons (pv 0) (pa_cons (pv 1) pa_nil)))))), ?_⟩
    have P0 := hP
    have s0 := Same.refl H
    have g0 : SzsG p H [] := fun v hv => by cases hv
    refine ⟨by show 1 ≤ sizeLine; decide, fun q1 h1 => ?_⟩
    have P1 := P0.new (o := .lst (nums [1])) h1
    have g1 := szs_add (ss := [1]) g0 h1 (Ne.symm (P0.nep h1)) (by unfold SzOk; decide)
    have s1 := smN (o := .lst (nums [1])) s0 h1
    refine ⟨by show 1 ≤ sizeLine; decide, fun q2 h2 => ?_⟩
    have P2 := P1.new (o := .lst (nums [2])) h2
    have g2 := szs_add (ss := [2]) g1 h2 (Ne.symm (P1.nep h2)) (by unfold SzOk; decide)
    have s2 := smN (o := .lst (nums [2])) s1 h2
    refine ⟨by show 1 ≤ sizeLine; decide, fun q3 h3 => ?_⟩
    have P3 := P2.new (o := .lst (nums [3])) h3
    have g3 := szs_add (ss := [3]) g2 h3 (Ne.symm (P2.nep h3)) (by unfold SzOk; decide)
    have s3 := smN (o := .lst (nums [3])) s2 h3
    refine ⟨by show 1 ≤ sizeLine; decide, fun q4 h4 => ?_⟩
    have P4 := P3.new (o := .lst (nums [6])) h4
    have g4 := szs_add (ss := [6]) g3 h4 (Ne.symm (P3.nep h4)) (by unfold SzOk; decide)
    have s4 := smN (o := .lst (nums [6])) s3 h4
    refine ⟨by show 2 ≤ sizeLine; decide, fun q5 h5 => ?_⟩
    have P5 := P4.new (o := .lst (nums [1, 1])) h5
    have g5 := szs_add (ss := [1, 1]) g4 h5 (Ne.symm (P4.nep h5)) (by unfold SzOk; decide)
    have s5 := smN (o := .lst (nums [1, 1])) s4 h5
    refine ⟨by show 2 ≤ sizeLine; decide, fun q6 h6 => ?_⟩
    have P6 := P5.new (o := .lst (nums [2, 1])) h6
    have g6 := szs_add (ss := [2, 1]) g5 h6 (Ne.symm (P5.nep h6)) (by unfold SzOk; decide)
    have s6 := smN (o := .lst (nums [2, 1])) s5 h6
    refine ⟨by show 2 ≤ sizeLine; decide, fun q7 h7 => ?_⟩
    have P7 := P6.new (o := .lst (nums [3, 3])) h7
    have g7 := szs_add (ss := [3, 3]) g6 h7 (Ne.symm (P6.nep h7)) (by unfold SzOk; decide)
    have s7 := smN (o := .lst (nums [3, 3])) s6 h7
    refine ⟨by show 2 ≤ sizeLine; decide, fun q8 h8 => ?_⟩
    have P8 := P7.new (o := .lst (nums [1, 5])) h8
    have g8 := szs_add (ss := [1, 5]) g7 h8 (Ne.symm (P7.nep h8)) (by unfold SzOk; decide)
    have s8 := smN (o := .lst (nums [1, 5])) s7 h8
    refine ⟨by show 3 ≤ sizeLine; decide, fun q9 h9 => ?_⟩
    have P9 := P8.new (o := .lst (nums [1, 1, 1])) h9
    have g9 := szs_add (ss := [1, 1, 1]) g8 h9 (Ne.symm (P8.nep h9)) (by unfold SzOk; decide)
    have s9 := smN (o := .lst (nums [1, 1, 1])) s8 h9
    refine ⟨by show 3 ≤ sizeLine; decide, fun q10 h10 => ?_⟩
    have P10 := P9.new (o := .lst (nums [2, 2, 2])) h10
    have g10 := szs_add (ss := [2, 2, 2]) g9 h10 (Ne.symm (P9.nep h10)) (by unfold SzOk; decide)
    have s10 := smN (o := .lst (nums [2, 2, 2])) s9 h10
    refine ⟨by show 3 ≤ sizeLine; decide, fun q11 h11 => ?_⟩
    have P11 := P10.new (o := .lst (nums [4, 1, 1])) h11
    have g11 := szs_add (ss := [4, 1, 1]) g10 h11 (Ne.symm (P10.nep h11)) (by unfold SzOk; decide)
    have s11 := smN (o := .lst (nums [4, 1, 1])) s10 h11
    refine ⟨by show 3 ≤ sizeLine; decide, fun q12 h12 => ?_⟩
    have P12 := P11.new (o := .lst (nums [1, 2, 1])) h12
    have g12 := szs_add (ss := [1, 2, 1]) g11 h12 (Ne.symm (P11.nep h12)) (by unfold SzOk; decide)
    have s12 := smN (o := .lst (nums [1, 2, 1])) s11 h12
    refine ⟨by show 12 ≤ sizeLine; decide, fun qL hL => ?_⟩
    have gL := szs_new (o := .lst [.ref q1, .ref q2, .ref q3, .ref q4, .ref q5, .ref q6, .ref q7, .ref q8, .ref q9, .ref q10, .ref q11, .ref q12]) g12 hL
    have PL := P12.new (o := .lst [.ref q1, .ref q2, .ref q3, .ref q4, .ref q5, .ref q6, .ref q7, .ref q8, .ref q9, .ref q10, .ref q11, .ref q12]) hL
    have sL := smN (o := .lst [.ref q1, .ref q2, .ref q3, .ref q4, .ref q5, .ref q6, .ref q7, .ref q8, .ref q9, .ref q10, .ref q11, .ref q12]) s12 hL
    refine ⟨_, rfl, _, rfl, p, l, qL, n, _, rfl, upd_same, Ne.symm (P12.nep hL), by show 1 ≤ 12; decide, by show 12 ≤ 1000; decide, by omega, PL, fun j v H6 ev B6 P6 => ?_⟩
    obtain ⟨q, ss, rfl, n1, n2, n3⟩ := gL v (List.mem_of_getElem? ev)
    exact ret q ss H6 n1 n3 (B6 _ _ n1 n2) ((But.of sL).trans B6) P6
end
end Fb
set_option maxRecDepth 100000
set_option maxHeartbeats 4000000
namespace Fb
open PySem PySem.Spec PyProof.Rows L2
open SX (S)
def letS : List Nat := [97, 98, 99, 100, 101, 102, 103, 104, 105, 106, 107, 108, 109, 110, 111, 112, 113, 114, 115, 116, 117, 118, 119, 120, 121, 122]
def NameOk (x : List Nat) : Prop := x ≠ [] ∧ x.length ≤ 12 ∧ ∀ c ∈ x, c ∈ nameS
def MaskOk (x : List Nat) : Prop := x ≠ [] ∧ x.length ≤ 21 ∧ ∀ c ∈ x, c ∈ maskS
theorem let_name : ∀ c ∈ letS, c ∈ nameS := by decide +kernel
def spNameL : Sp := fun vs H Q _ => ∃ (p l : Addr) (n : Nat), vs = [.ref p] ∧ n < 80000 ∧ PenN H p l n ∧ ∀ x H', NameOk x → But p H H' → PenN H' p l (n + 20) → Q (.str (S x)) H'
def spNamesL : Sp := fun vs H Q _ => ∃ (p l : Addr) (n : Nat), vs = [.ref p] ∧ n < 70000 ∧ PenN H p l n ∧ ∀ q xs H', q ≠ p → xs.length = 4 → (∀ x ∈ xs, NameOk x) → H' q = some (.lst (txV xs)) → But p H H' → PenN H' p l (n + 80) → Q (.ref q) H'
def spMaskL : Sp := fun vs H Q _ => ∃ (p l q : Addr) (ss : List Nat) (n : Nat), vs = [.ref p, .ref q] ∧ n < 80000 ∧ H q = some (.lst (nums ss)) ∧ q ≠ p ∧ SzOk ss ∧ PenN H p l n ∧ ∀ x H', MaskOk x → But p H H' → PenN H' p l (n + 30) → Q (.str (S x)) H'
/-- a list without repetition is no longer than one that it lies in -/
theorem nd_le : ∀ {l m : List (List Nat)}, l.Nodup → (∀ x ∈ l, x ∈ m) → l.length ≤ m.length
  | [], _, _, _ => Nat.zero_le _
  | x :: l, m, hn, h => by
    obtain ⟨h1, h2⟩ := List.nodup_cons.mp hn
    have hx := h x List.mem_cons_self
    have := nd_le (m := m.erase x) h2 fun y hy => (List.mem_erase_of_ne (a := y) (b := x) fun e => h1 (by rw [← e]; exact hy)).mpr (h y (List.mem_cons_of_mem _ hy))
    rw [List.length_erase_of_mem hx] at this
    have hp := List.length_pos_of_mem hx
    rw [List.length_cons]
    omega
def four : List (List Nat) := [[112], [113, 45, 49], [114, 50, 50], [115]]
theorem four_ok : ∀ x ∈ four, NameOk x := by unfold NameOk; decide +kernel
theorem four_nd : four.Nodup := by decide +kernel
theorem some_free {xs : List (List Nat)} (h : xs.length ≤ 3) (x : List Nat) : (x :: four).filter (fun y => decide (y ∉ xs)) ≠ [] := fun e => by
  have := nd_le (l := four) (m := xs) four_nd fun y hy => by
    have h2 := List.filter_eq_nil_iff.mp e y (List.mem_cons_of_mem _ hy)
    simpa using h2
  have l4 : four.length = 4 := rfl
  omega
theorem flat_tx (ps : List (List Nat)) : (txV ps).all flatV = true := by
  unfold txV
  rw [List.map_map]
  exact List.all_eq_true.mpr fun x hx => by
    obtain ⟨y, _, rfl⟩ := List.mem_map.mp hx
    rfl
theorem sum_six : ∀ {bs : List (List Nat)}, (∀ b ∈ bs, b.length ≤ 6) → (bs.map List.length).sum ≤ 6 * bs.length
  | [], _ => Nat.le_refl _
  | b :: bs, h => by
    have := sum_six (bs := bs) fun y hy => h y (List.mem_cons_of_mem _ hy)
    have h0 := h b List.mem_cons_self
    rw [List.map_cons, List.sum_cons, List.length_cons]
    omega
theorem joinL_mem {c d : Nat} : ∀ {bs : List (List Nat)}, c ∈ TL.joinL [d] bs → c = d ∨ ∃ b ∈ bs, c ∈ b
  | [], h => by simp [TL.joinL] at h
  | [b], h => .inr ⟨b, by simp, by simpa [TL.joinL] using h⟩
  | b :: b2 :: bs, h => by
    have e : TL.joinL [d] (b :: b2 :: bs) = b ++ [d] ++ TL.joinL [d] (b2 :: bs) := by simp [TL.joinL]
    rw [e] at h
    rcases List.mem_append.mp h with h | h
    · rcases List.mem_append.mp h with h | h
      · exact .inr ⟨b, by simp, h⟩
      · exact .inl (List.mem_singleton.mp h)
    · rcases joinL_mem h with h | ⟨x, h1, h2⟩
      · exact .inl h
      · exact .inr ⟨x, List.mem_cons_of_mem _ h1, h2⟩
theorem joinL_len {d : Nat} : ∀ {bs : List (List Nat)}, bs ≠ [] → (TL.joinL [d] bs).length + 1 = (bs.map List.length).sum + bs.length
  | [], h => absurd rfl h
  | [b], _ => by simp [TL.joinL]
  | b :: b2 :: bs, _ => by
    have e : TL.joinL [d] (b :: b2 :: bs) = b ++ [d] ++ TL.joinL [d] (b2 :: bs) := by simp [TL.joinL]
    have ih := joinL_len (d := d) (bs := b2 :: bs) (by simp)
    rw [e, List.length_append, List.length_append, List.map_cons, List.sum_cons, List.length_cons]
    simp only [List.length_cons, List.length_nil] at *
    omega
section
variable {P : Program} {wo : World} {K : PySem.W.Frag} {mg : Str → Option Value} {base : Heap} {z : Pz} {w : Lz}
theorem ok_Lname (T : TxL K mg z w) : FnOk P wo K mg base CX0 3 w.a_Lname w.d_Lname ["_law_pen_here"] spNameL := by
  refine T.F_Lname.ok sc_Lname (fun vs H Q E h => ?_) (fun cdv A outer s H vs Q E hr h => ?_)
  · obtain ⟨p, l, n, rfl, _⟩ := h
    rfl
  · obtain ⟨p, l, n, rfl, hn, hP, ret⟩ := h
    have hr2 : Room 2 _ := hr
    have hr1 : Room 1 _ := hr.mono (by decide)
    have G_Ldraw : FnOk P wo K mg base CX0 1 w.a_Ldraw w.d_Ldraw ["_law_pen_here", "_law_many"] spDraw := ok_Ldraw T
    have G_LpickS : FnOk P wo K mg base CX0 2 w.a_Lpick w.d_Lpick ["_law_pen_here", "_law_some"] spPickS := ok_LpickS T
    refine ⟨_, (pss_cons (ps_set (i := 1) sc_Lname.nd rfl (Or.inl rfl) pe_str)
      (pss_cons (ps_set (i := 2) sc_Lname.nd rfl (Or.inr rfl) (pe_op op_add_str (pv 1) pe_str))
      (pss_cons (ps_set (i := 3) sc_Lname.nd rfl (Or.inl rfl) (pe_ix ix_list (pe_lst (pa_cons pe_int (pa_cons pe_int (pa_cons pe_int pa_nil)))) (pe_call G_Ldraw hr1 rfl T.g_Ldraw T.k_Ldraw T.b_Ldraw .nil pass0 (pa_cons (pv 0) (pa_cons pe_int pa_nil))) (fun _ _ => rfl)))
      (pss_one (ps_ret (pe_op op_add_str (pe_call G_LpickS hr2 rfl T.g_Lpick T.k_Lpick T.b_Lpick .nil pass0 (pa_cons (pv 0) (pa_cons (pv 1) pa_nil))) (pe_joinK (K := K) rfl pe_str (pa_cons (by refine' pe_lc (own := [("_law_k", 4)]) (tt := tYes) rfl sc_Lname.nd ?hi (blkOk_by (N := ["_law_pen_here", "_law_letters", "_law_signs", "_law_many", "_law_k"]) (sc := defScope s_Lname) (by first | decide +kernel | kernel_rfl | rfl)) ?hg ?ht ?he (by intro _; rfl); (case hi => exact (pi_range1 rfl T.n_range (pa_cons (pv 3) pa_nil))); (case hg => exact fun _ _ _ _ _ => (pg_name (i := 4) sc_Lname.nd rfl (Or.inl rfl))); (case ht => exact fun _ _ _ _ _ => pts_nil); (case he => exact fun _ _ _ _ _ => (pe_call G_LpickS hr2 rfl T.g_Lpick T.k_Lpick T.b_Lpick .nil pass0 (pa_cons (pv 0) (pa_cons (pv 2) pa_nil))))) pa_nil)))))))), ?_⟩
    refine ⟨_, rfl, _, _, rfl, rfl, by decide, ?_⟩
    have e1 : ("abcdefghijklmnopqrstuvwxyz" : Str) ++ ("0123456789-" : Str) = S nameS := by decide +kernel
    rw [e1, show ("abcdefghijklmnopqrstuvwxyz" : Str) = S letS by decide +kernel]
    refine ⟨by show 3 ≤ sizeLine; decide, fun q0 h0 => ?_⟩
    have P0 := hP.new (o := .lst [.int 0, .int 2, .int 11]) h0
    have n0 := hP.nep h0
    have s0 := smN (o := .lst [.int 0, .int 2, .int 11]) (Same.refl H) h0
    refine ⟨_, rfl, p, l, 3, n, rfl, by decide, by decide, by omega, P0, fun d0 H1 hd0 hd1 P1 B1 => ?_⟩
    obtain ⟨m, hm, em⟩ : ∃ m : Nat, m ≤ 11 ∧ atI [V.int 0, V.int 2, V.int 11] d0 = some (.int (m : Nat)) := by
      have : d0 = 0 ∨ d0 = 1 ∨ d0 = 2 := by omega
      rcases this with rfl | rfl | rfl
      · exact ⟨0, by decide, rfl⟩
      · exact ⟨2, by decide, rfl⟩
      · exact ⟨11, by decide, rfl⟩
    refine ⟨q0, _, d0, _, rfl, rfl, SqL.of (B1 _ _ (Ne.symm n0) upd_same), em, ?_⟩
    refine ⟨_, rfl, _, rfl, p, l, n + 1, letS, rfl, by decide, by decide, by omega, P1, fun c0 H2 hc0 B2 P2 => ?_⟩
    refine ⟨rfl, _, rfl, (m : Int), rfl, by omega, by omega, fun D hD => ?_⟩
    rw [show ((m : Int)).toNat = m from rfl]
    have nDp := P2.nep hD
    have nDl := P2.nel hD
    refine lc_range (n := m) (fun j H' => ∃ b : List Nat, b.length = j ∧ (∀ c ∈ b, c ∈ nameS) ∧ But p H2 H' ∧ PenN H' p l (n + 2 + j) ∧ H' D = some (.lst ((b.map fun c => S [c]).map V.str))) ⟨[], rfl, (fun c hc => by simp at hc), But.refl.new hD, P2.put nDp nDl, upd_same⟩ (fun j H4 hj h3 => ?_) (fun H4 h3 => ?_)
    · obtain ⟨b, b1, b2, B5, P5, hb3⟩ := h3
      refine ⟨rfl, yes1 ?_⟩
      refine ⟨_, rfl, _, rfl, p, l, n + 2 + j, nameS, rfl, by decide, by decide, by omega, P5, fun c H5 hc B6 P6 => ?_⟩
      have acc : H5 D = some (.lst ((b.map fun c => S [c]).map V.str)) := B6 _ _ (Ne.symm nDp) hb3
      have len : ((b.map fun c => S [c]).map V.str).length < sizeLine := by rw [List.length_map, List.length_map, b1]; exact small1 _ (by omega)
      refine ⟨_, acc, len, b ++ [c], by rw [List.length_append, b1] <;> rfl, (fun x hx => ?_), (B5.trans B6).put hD, (P6.mono (by omega)).put nDp nDl, by rw [upd_same, List.map_append, List.map_append] <;> rfl⟩
      rcases List.mem_append.mp hx with h | h
      · exact b2 x h
      · exact (List.mem_singleton.mp h) ▸ hc
    · obtain ⟨b, b1, b2, B5, P5, hb3⟩ := h3
      refine ⟨"", D, b.map fun c => S [c], rfl, rfl, .inl (SqL.of hb3), ?_, ?_⟩
      · rw [List.map_map, sum_signs, List.length_map, b1]
        show _ + _ * 0 ≤ _
        omega
      · rw [join_signs]
        refine ⟨_, _, rfl, rfl, by rw [S_ln, S_ln, b1]; exact Nat.le_trans (show 1 + m ≤ 1000 by omega) (by decide), ?_⟩
        rw [SX.S_cat]
        refine ret ([c0] ++ b) _ ⟨by simp, by rw [List.length_append, b1]; show 1 + m ≤ 12; omega, fun x hx => ?_⟩ ((((But.of s0).trans B1).trans B2).trans B5) (P5.mono (by omega))
        rcases List.mem_append.mp hx with h | h
        · exact let_name x ((List.mem_singleton.mp h) ▸ hc0)
        · exact b2 x h
theorem ok_Lnames (T : TxL K mg z w) : FnOk P wo K mg base CX0 4 w.a_Lnames w.d_Lnames ["_law_pen_here"] spNamesL := by
  refine T.F_Lnames.ok sc_Lnames (fun vs H Q E h => ?_) (fun cdv A outer s H vs Q E hr h => ?_)
  · obtain ⟨p, l, n, rfl, _⟩ := h
    rfl
  · obtain ⟨p, l, n, rfl, hn, hP, ret⟩ := h
    have hr3 : Room 3 _ := hr
    have G_Lname : FnOk P wo K mg base CX0 3 w.a_Lname w.d_Lname ["_law_pen_here"] spNameL := ok_Lname T
    refine ⟨_, (pss_cons (ps_set (i := 1) sc_Lnames.nd rfl (Or.inr rfl) (pe_lst pa_nil))
      (pss_cons (ps_for PassesOwn.never rfl (pi_range1 rfl T.n_range (pa_cons pe_int pa_nil)) (pg_name (i := 2) sc_Lnames.nd rfl (Or.inl rfl))
        (pss_cons (ps_set (i := 3) sc_Lnames.nd rfl (Or.inl rfl) (pe_lst (pa_cons (pe_call G_Lname hr3 rfl T.g_Lname T.k_Lname T.b_Lname .nil pass0 (pa_cons (pv 0) pa_nil)) (pa_cons pe_str (pa_cons pe_str (pa_cons pe_str (pa_cons pe_str pa_nil)))))))
        (pss_one (ps_expr (pe_bm PySem.F.plainAttrs_list PySem.F.slot_list_append PySem.F.type_list_append mt_append (pv 1) (pa_cons (pe_ix ix_list (by refine' pe_lc (own := [("_law_one", 4)]) rfl sc_Lnames.nd ?hi (blkOk_by (N := ["_law_pen_here", "_law_found", "_law_k", "_law_some", "_law_one"]) (sc := defScope s_Lnames) (by first | decide +kernel | kernel_rfl | rfl)) ?hg ?ht ?he (by intro _; rfl); (case hi => exact (pi_list (pv 3))); (case hg => exact fun _ _ _ _ _ => (pg_name (i := 4) sc_Lnames.nd rfl (Or.inl rfl))); (case ht => exact fun _ _ _ _ _ => (pts_one (pt_cmpR (op_notInK (K := K) rfl) (pv 4) (pv 1) rfl))); (case he => exact fun _ _ _ _ _ => (pv 4))) pe_int (fun _ _ => rfl)) pa_nil))))))
      (pss_one (ps_ret (pv 1))))), ?_⟩
    refine ⟨by show 0 ≤ sizeLine; decide, fun qf hf => ?_⟩
    have nfp := hP.nep hf
    have nfl := hP.nel hf
    refine ⟨4, rfl, by decide, by decide, for_range (n := 4) (fun i σ H' => ∃ xs : List (List Nat), xs.length = i ∧ (∀ x ∈ xs, NameOk x) ∧ But p H H' ∧ PenN H' p l (n + 20 * i) ∧ H' qf = some (.lst (txV xs)) ∧ ∃ (x2 x3 x4 : Option V), σ = [some (.ref p), some (.ref qf), x2, x3, x4])
      ⟨[], rfl, (fun x hx => by cases hx), But.refl.new hf, hP.put nfp nfl, upd_same, none, none, none, rfl⟩ ?_ ?_⟩
    · rintro i σ H1 hi ⟨xs, lx, ox, B1, P1, hq1, x2, x3, x4, rfl⟩
      refine ⟨_, rfl, p, l, n + 20 * i, rfl, by omega, P1, fun x H2 nx B2 P2 => ?_⟩
      refine ⟨by show 5 ≤ sizeLine; decide, fun qs hs => ?_⟩
      have P3 := P2.new (o := .lst (txV (x :: four))) hs
      have s3 := smN (o := .lst (txV (x :: four))) (Same.refl H2) hs
      have hq2 := s3 _ _ (B2 _ _ (Ne.symm nfp) hq1)
      have hs3 : (upd H2 qs (.lst (txV (x :: four)))) qs = some (.lst (txV (x :: four))) := upd_same
      have el : ([.str (S x), .str "p", .str "q-1", .str "r22", .str "s"] : List V) = txV (x :: four) := by
        show _ = V.str (S x) :: txV four
        congr 1 <;> decide +kernel
      rw [el]
      generalize upd H2 qs (.lst (txV (x :: four))) = H3 at P3 s3 hq2 hs3
      refine ⟨_, rfl, .inl ⟨rfl, _, SqL.of hq2⟩, ?_⟩
      refine ⟨_, rfl, qs, rfl, ⟨_, SqL.of hs3⟩, fun D hD => ?_⟩
      refine lc_outL (xs := txV (x :: four)) (fun i => txV (((x :: four).take i).filter fun y => decide (y ∉ xs))) hD (SqL.of hs3) rfl (fun i hi => ?_) (fun i v H4 Kc K0 e s4 kc k0 => ?_) (fun H4 s4 e4 => ?_)
      · rw [txV_len]
        exact Nat.lt_of_le_of_lt (Nat.le_trans (List.length_filter_le _ _) (by rw [List.length_take]; exact Nat.le_trans (Nat.min_le_right _ _) (show (x :: four).length ≤ 5 from Nat.le_refl 5))) (by decide)
      · obtain ⟨t, et, rfl⟩ := txV_get e
        refine ⟨rfl, ?_⟩
        refine ⟨_, rfl, _, rfl, qf, txV xs, rfl, .inl (SqL.of (s4 _ _ hq2)), rfl, flat_tx _, _, rfl, ?_⟩
        have e0 := inV_txV t xs
        have tk : ((x :: four).take (i + 1)) = ((x :: four).take i) ++ [t] := by rw [List.take_add_one, et] <;> rfl
        by_cases c4 : t ∈ xs
        · rw [decide_eq_true c4] at e0
          rw [e0]
          refine iteB0 rfl (k0 _ (Same.refl _) ?_)
          rw [tk, List.filter_append]
          simp [c4]
        · rw [decide_eq_false c4] at e0
          rw [e0]
          refine iteB1 rfl ⟨_, rfl, kc _ _ (Same.refl _) ?_⟩
          rw [tk, List.filter_append]
          simp [c4, txV]
      · rw [txV_len, List.take_length] at e4
        have ne := some_free (xs := xs) (by omega) x
        obtain ⟨y, ys, ey⟩ : ∃ y ys, (x :: four).filter (fun y => decide (y ∉ xs)) = y :: ys := by
          cases e : (x :: four).filter (fun y => decide (y ∉ xs)) with
          | nil => exact absurd e ne
          | cons y ys => exact ⟨y, ys, rfl⟩
        have my : y ∈ (x :: four).filter (fun y => decide (y ∉ xs)) := by rw [ey]; exact List.mem_cons_self
        have oy : NameOk y := by
          rcases List.mem_cons.mp (List.mem_filter.mp my).1 with h | h
          · rw [h]; exact nx
          · exact four_ok y h
        rw [ey] at e4
        refine ⟨D, _, 0, .str (S y), rfl, rfl, SqL.of e4, atI_nat (j := 0) rfl, ?_⟩
        have hq4 := s4 _ _ hq2
        refine ⟨qf, txV xs, .str (S y), rfl, rfl, hq4, by rw [txV_len]; exact small1 _ (by omega), ?_⟩
        refine ⟨xs ++ [y], by rw [List.length_append, lx] <;> rfl, fun u hu => ?_, ((((B1.trans B2).trans (But.of s3)).trans (But.of s4))).put hf, ((P3.same s4).mono (by omega)).put nfp nfl, by rw [upd_same]; simp [txV], _, _, _, rfl⟩
        rcases List.mem_append.mp hu with h | h
        · exact ox u h
        · rw [List.mem_singleton.mp h]; exact oy
    · rintro σ H1 ⟨xs, lx, ox, B1, P1, hq1, x2, x3, x4, rfl⟩
      exact ⟨_, rfl, ret qf xs _ (Ne.symm nfp) lx ox hq1 B1 P1⟩
theorem ok_Lmask (T : TxL K mg z w) : FnOk P wo K mg base CX0 3 w.a_Lmask w.d_Lmask ["_law_pen_here", "_law_sizes_here"] spMaskL := by
  refine T.F_Lmask.ok sc_Lmask (fun vs H Q E h => ?_) (fun cdv A outer s H vs Q E hr h => ?_)
  · obtain ⟨p, l, q, ss, n, rfl, _⟩ := h
    rfl
  · obtain ⟨p, l, q, ss, n, rfl, hn, hq, nqp, ok, hP, ret⟩ := h
    have hr2 : Room 2 _ := hr
    have G_LpickS : FnOk P wo K mg base CX0 2 w.a_Lpick w.d_Lpick ["_law_pen_here", "_law_some"] spPickS := ok_LpickS T
    refine ⟨_, (pss_one (ps_ret (pe_joinK (K := K) rfl pe_str (pa_cons (by refine' pe_lc (own := [("_law_size", 2)]) (tt := tYes) rfl sc_Lmask.nd ?hi (blkOk_by (N := ["_law_pen_here", "_law_sizes_here", "_law_size", "_law_k"]) (sc := defScope s_Lmask) (by first | decide +kernel | kernel_rfl | rfl)) ?hg ?ht ?he (by intro _; rfl); (case hi => exact (pi_list (pv 1))); (case hg => exact fun _ _ _ _ _ => (pg_name (i := 2) sc_Lmask.nd rfl (Or.inl rfl))); (case ht => exact fun _ _ _ _ _ => pts_nil); (case he => exact fun _ _ _ _ _ => (pe_joinK (K := K) rfl pe_str (pa_cons (by refine' pe_lc (own := [("_law_k", 3)]) (tt := tYes) rfl sc_Lmask.nd ?hi (blkOk_by (N := ["_law_pen_here", "_law_sizes_here", "_law_size", "_law_k"]) (by first | decide +kernel | kernel_rfl | rfl)) ?hg ?ht ?he (by intro _; rfl); (case hi => exact (pi_range1 rfl T.n_range (pa_cons (pv 2) pa_nil))); (case hg => exact fun _ _ _ _ _ => (pg_name (i := 3) sc_Lmask.nd rfl (Or.inl rfl))); (case ht => exact fun _ _ _ _ _ => pts_nil); (case he => exact fun _ _ _ _ _ => (pe_call G_LpickS hr2 rfl T.g_Lpick T.k_Lpick T.b_Lpick .nil pass0 (pa_cons (pv 0) (pa_cons pe_str pa_nil))))) pa_nil)))) pa_nil)))), ?_⟩
    refine ⟨rfl, _, rfl, q, rfl, ⟨_, SqL.of hq⟩, fun D hD => ?_⟩
    have nDp := hP.nep hD
    have nDl := hP.nel hD
    obtain ⟨ok1, ok2, ok3⟩ := ok
    refine lc_it (walk_list (xs := nums ss)) (fun i H' => ∃ bs : List (List Nat), bs.length = i ∧ (∀ b ∈ bs, 1 ≤ b.length ∧ b.length ≤ 6 ∧ ∀ c ∈ b, c ∈ maskS) ∧ But p H H' ∧ PenN H' p l (n + 6 * i) ∧ H' D = some (.lst (txV bs)))
      ⟨[], rfl, (fun b hb => by cases hb), But.refl.new hD, hP.put nDp nDl, upd_same⟩ (fun i H' _ h => ?_) (fun i x H2 H3 lt h y => ?_) (fun H2 h => ?_)
    · obtain ⟨bs, _, _, B, _⟩ := h
      exact SqL.of (B _ _ nqp hq)
    · obtain ⟨bs, lb, ob, B2, P2, hD2⟩ := h
      obtain ⟨rfl, ev⟩ := y
      rw [nums_len] at lt
      obtain ⟨m, em, rfl⟩ := nums_get ev
      have o3 := ok3 m (List.mem_of_getElem? em)
      refine ⟨rfl, yes1 ?_⟩
      refine ⟨rfl, _, rfl, (m : Int), rfl, by omega, by omega, fun D2 hD2n => ?_⟩
      rw [show ((m : Int)).toNat = m from rfl]
      have n2p := P2.nep hD2n
      have n2l := P2.nel hD2n
      have n2D := ne_of_none hD2 hD2n
      refine lc_range (n := m) (fun j H' => ∃ b : List Nat, b.length = j ∧ (∀ c ∈ b, c ∈ maskS) ∧ But p H3 H' ∧ PenN H' p l (n + 6 * i + j) ∧ H' D2 = some (.lst ((b.map fun c => S [c]).map V.str))) ⟨[], rfl, (fun c hc => by simp at hc), But.refl.new hD2n, P2.put n2p n2l, upd_same⟩ (fun j H4 hj h3 => ?_) (fun H4 h3 => ?_)
      · obtain ⟨b, b1, b2, B5, P5, hb3⟩ := h3
        refine ⟨rfl, yes1 ?_⟩
        refine ⟨_, rfl, p, l, n + 6 * i + j, [48, 49, 42], by rw [show ("01*" : Str) = S [48, 49, 42] by decide +kernel] <;> rfl, by decide, by decide, by omega, P5, fun c H5 hc B6 P6 => ?_⟩
        have acc : H5 D2 = some (.lst ((b.map fun c => S [c]).map V.str)) := B6 _ _ (Ne.symm n2p) hb3
        have len : ((b.map fun c => S [c]).map V.str).length < sizeLine := by rw [List.length_map, List.length_map, b1]; exact small1 _ (by omega)
        refine ⟨_, acc, len, b ++ [c], by rw [List.length_append, b1] <;> rfl, (fun x hx => ?_), (B5.trans B6).put hD2n, (P6.mono (by omega)).put n2p n2l, by rw [upd_same, List.map_append, List.map_append] <;> rfl⟩
        rcases List.mem_append.mp hx with h | h
        · exact b2 x h
        · rw [List.mem_singleton.mp h]
          simp only [List.mem_cons, List.not_mem_nil, or_false] at hc
          rcases hc with rfl | rfl | rfl <;> decide
      · obtain ⟨b, b1, b2, B5, P5, hb3⟩ := h3
        refine ⟨"", D2, b.map fun c => S [c], rfl, rfl, .inl (SqL.of hb3), ?_, ?_⟩
        · rw [List.map_map, sum_signs, List.length_map, b1]
          show _ + _ * 0 ≤ _
          exact Nat.le_trans (show m + (m - 1) * 0 ≤ 1000 by omega) (by decide)
        · rw [join_signs]
          refine ⟨_, B5 _ _ (Ne.symm nDp) hD2, by rw [txV_len]; exact small1 _ (by omega), bs ++ [b], by rw [List.length_append, lb] <;> rfl, fun y hy => ?_, (B2.trans B5).put hD, (P5.mono (by omega)).put nDp nDl, by rw [upd_same]; simp [txV]⟩
          rcases List.mem_append.mp hy with h | h
          · exact ob y h
          · rw [List.mem_singleton.mp h]
            exact ⟨by omega, by omega, b2⟩
    · obtain ⟨bs, lb, ob, B2, P2, hD2⟩ := h
      have lN := nums_len ss
      have lb : bs.length = ss.length := by rw [lb, lN]
      have s6 := sum_six fun b hb => (ob b hb).2.1
      have nb : bs ≠ [] := fun e => ok1 (by rw [e] at lb; exact List.length_eq_zero_iff.mp lb.symm)
      have jl := joinL_len (d := 46) nb
      refine ⟨".", D, bs.map S, rfl, rfl, .inl (SqL.of hD2), ?_, ?_⟩
      · rw [SX.lens, List.length_map]
        show (bs.map List.length).sum + bs.length * 1 ≤ sizeLine
        exact Nat.le_trans (show _ ≤ 1000 by omega) (by decide)
      · rw [S_d, SX.join_S]
        have ps : 1 ≤ (bs.map List.length).sum := by
          obtain ⟨b, bt, rfl⟩ : ∃ b bt, bs = b :: bt := by cases bs with | nil => exact absurd rfl nb | cons b bt => exact ⟨b, bt, rfl⟩
          have := (ob b List.mem_cons_self).1
          rw [List.map_cons, List.sum_cons]
          omega
        have bp : 1 ≤ bs.length := List.length_pos_iff.mpr nb
        have nj : TL.joinL [46] bs ≠ [] := fun e => by
          rw [e] at jl
          simp at jl
          omega
        refine ret _ _ ⟨nj, by omega, fun c hc => ?_⟩ B2 (P2.mono (by rw [lN]; omega))
        rcases joinL_mem hc with h | ⟨b, h1, h2⟩
        · rw [h]; decide
        · exact (ob b h1).2.2 c h2
end
end Fb
set_option maxRecDepth 100000
set_option maxHeartbeats 4000000
namespace Fb
open PySem PySem.Spec PyProof.Rows L2
open SX (S)
theorem pgetv {α β : Type} {R : α → β → Prop} {v : α} : ∀ {vs : List α} {ls : List β} {i : Nat}, Paired R vs ls → vs[i]? = some v → ∃ l, ls[i]? = some l ∧ R v l
  | [], [], _, .nil, e => by cases e
  | _ :: _, l :: _, 0, .cons h t, e => by cases e; exact ⟨l, rfl, h⟩
  | _ :: _, _ :: _, i + 1, .cons h t, e => pgetv (i := i) t e
/-- rows of two texts -/
def Pr (A B : List Nat → Prop) (H : Hp) (v : V) (r : List Nat × List Nat) : Prop := ∃ t, v = .ref t ∧ H t = some (.tup [.str (S r.1), .str (S r.2)]) ∧ A r.1 ∧ B r.2
theorem Pr.keep {A B : List Nat → Prop} {H H' : Hp} {v : V} {r : List Nat × List Nat} (h : Pr A B H v r) (k : ∀ c xs, H c = some (.tup xs) → H' c = some (.tup xs)) : Pr A B H' v r := by
  obtain ⟨t, h1, h2, h3⟩ := h
  exact ⟨t, h1, k _ _ h2, h3⟩
abbrev Prs (A B : List Nat → Prop) (H : Hp) (vs : List V) (rs : List (List Nat × List Nat)) : Prop := Paired (Pr A B H) vs rs
theorem Prs.keep {A B : List Nat → Prop} {H H' : Hp} {vs : List V} {rs : List (List Nat × List Nat)} (h : Prs A B H vs rs) (k : ∀ c xs, H c = some (.tup xs) → H' c = some (.tup xs)) : Prs A B H' vs rs := pmap (fun _ _ q => q.keep k) h
theorem keepP {H H' : Hp} {p l : Addr} {n : Nat} (P : PenN H p l n) (b : But p H H') : ∀ c xs, H c = some (.tup xs) → H' c = some (.tup xs) := fun c xs e => b c _ (P.ne_tup e) e
theorem keepS {H H' : Hp} (s : Same H H') : ∀ c xs, H c = some (.tup xs) → H' c = some (.tup xs) := fun c xs e => s c _ e
def spPartsL : Sp := fun vs H Q _ => ∃ (p l : Addr) (n : Nat), vs = [.ref p] ∧ n < 60000 ∧ PenN H p l n ∧
  ∀ t a b c d ss rs cs xs us ws H', H' t = some (.tup [.ref a, .ref b, .ref c, .ref d]) → H' a = some (.lst (nums ss)) → SzOk ss → a ≠ p → H' b = some (.lst us) → b ≠ p → Prs MaskOk NameOk H' us rs → rs.length ≤ 8 →
    H' c = some (.lst ws) → c ≠ p → Prs NameOk NameOk H' ws cs → cs.length ≤ 6 → H' d = some (.lst (txV xs)) → d ≠ p → But p H H' → PenN H' p l (n + 700) → Q (.ref t) H'
/-! the lines -/
def dig (n : Nat) : List Nat := [48 + n]
def szLine (ss : List Nat) : List Nat := TL.joinL [32] (wSizes :: ss.map dig)
def ruLine (r : List Nat × List Nat) : List Nat := wRule ++ [32] ++ r.1 ++ [32] ++ r.2
def chLine (r : List Nat × List Nat) : List Nat := wChange ++ [32] ++ r.1 ++ [32] ++ r.2
def allLines (ss : List Nat) (rs cs : List (List Nat × List Nat)) : List (List Nat) := [szLine ss] ++ rs.map ruLine ++ cs.map chLine
def Sz7 (ss : List Nat) : Prop := ss ≠ [] ∧ ss.length ≤ 3 ∧ ∀ n ∈ ss, n ≤ 9
def spLinesL : Sp := fun vs H Q _ => ∃ a b c ss us rs ws cs, vs = [.ref a, .ref b, .ref c] ∧ H a = some (.lst (nums ss)) ∧ Sz7 ss ∧ H b = some (.lst us) ∧ Prs MaskOk NameOk H us rs ∧ rs.length ≤ 8 ∧ H c = some (.lst ws) ∧ Prs NameOk NameOk H ws cs ∧ cs.length ≤ 6 ∧
  ∀ D H', Same H H' → H D = none → H' D = some (.lst (txV (allLines ss rs cs))) → Q (.ref D) H'
theorem intD_small {n : Nat} (h : n < 1024) : ((n : Int)).natAbs.log2 < 10 := by
  show n.log2 < 10
  by_cases e : n = 0
  · subst e; decide
  · rw [Nat.log2_lt e]
    exact h
theorem dig_sum : ∀ ss : List Nat, (ss.map (List.length ∘ dig)).sum = ss.length
  | [] => rfl
  | x :: xs => by
    rw [List.map_cons, List.sum_cons, dig_sum xs, List.length_cons]
    show 1 + _ = _
    omega
theorem dig_str : ∀ n : Nat, n ≤ 9 → Str.ofString (toString ((n : Nat) : Int)) = S (dig n) := by decide +kernel
section
variable {P : Program} {wo : World} {K : PySem.W.Frag} {mg : Str → Option Value} {base : Heap} {z : Pz} {w : Lz}
theorem ok_Lparts (T : TxL K mg z w) : FnOk P wo K mg base CX0 5 w.a_Lparts w.d_Lparts ["_law_pen_here"] spPartsL := by
  refine T.F_Lparts.ok sc_Lparts (fun vs H Q E h => ?_) (fun cdv A outer s H vs Q E hr h => ?_)
  · obtain ⟨p, l, n, rfl, _⟩ := h
    rfl
  · obtain ⟨p, l, n, rfl, hn, hP, ret⟩ := h
    have hr4 : Room 4 _ := hr
    have hr3 : Room 3 _ := hr.mono (by decide)
    have hr2 : Room 2 _ := hr.mono (by decide)
    have hr1 : Room 1 _ := hr.mono (by decide)
    have G_Ldraw : FnOk P wo K mg base CX0 1 w.a_Ldraw w.d_Ldraw ["_law_pen_here", "_law_many"] spDraw := ok_Ldraw T
    have G_Lpick : FnOk P wo K mg base CX0 2 w.a_Lpick w.d_Lpick ["_law_pen_here", "_law_some"] (spPick K) := ok_Lpick T
    have G_Lsizes : FnOk P wo K mg base CX0 3 w.a_Lsizes w.d_Lsizes ["_law_pen_here"] spSizesL := ok_Lsizes T
    have G_Lnames : FnOk P wo K mg base CX0 4 w.a_Lnames w.d_Lnames ["_law_pen_here"] spNamesL := ok_Lnames T
    have G_Lmask : FnOk P wo K mg base CX0 3 w.a_Lmask w.d_Lmask ["_law_pen_here", "_law_sizes_here"] spMaskL := ok_Lmask T
    refine ⟨_, (pss_cons (ps_asg (pe_tup (pa_cons (pe_call G_Lsizes hr3 rfl T.g_Lsizes T.k_Lsizes T.b_Lsizes .nil pass0 (pa_cons (pv 0) pa_nil)) (pa_cons (pe_call G_Lnames hr4 rfl T.g_Lnames T.k_Lnames T.b_Lnames .nil pass0 (pa_cons (pv 0) pa_nil)) pa_nil))) (pg_tup rfl (pgs_cons (pg_name (i := 1) sc_Lparts.nd rfl (Or.inr rfl)) (pgs_cons (pg_name (i := 2) sc_Lparts.nd rfl (Or.inr rfl)) pgs_nil))))
      (pss_cons (by refine' ps_setLc (own := [("_law_k", 7)]) (tt := tYes) (i := 3) rfl sc_Lparts.nd rfl rfl (sw_true rfl rfl rfl (by decide +kernel)) ?hi (blkOk_by (N := ["_law_pen_here", "_law_sizes_here", "_law_names_here", "_law_rules", "_law_changes", "_law_one", "_law_other", "_law_k"]) (sc := defScope s_Lparts) (by first | decide +kernel | kernel_rfl | rfl)) ?hg ?ht ?he (by intro _; rfl); (case hi => exact (pi_range1 rfl T.n_range (pa_cons (pe_call G_Ldraw hr1 rfl T.g_Ldraw T.k_Ldraw T.b_Ldraw .nil pass0 (pa_cons (pv 0) (pa_cons pe_int pa_nil))) pa_nil))); (case hg => exact fun _ _ _ _ _ => (pg_name (i := 7) sc_Lparts.nd rfl (Or.inl rfl))); (case ht => exact fun _ _ _ _ _ => pts_nil); (case he => exact fun _ _ _ _ _ => (pe_tup (pa_cons (pe_call G_Lmask hr3 rfl T.g_Lmask T.k_Lmask T.b_Lmask .nil pass0 (pa_cons (pv 0) (pa_cons (pv 1) pa_nil))) (pa_cons (pe_call G_Lpick hr2 rfl T.g_Lpick T.k_Lpick T.b_Lpick .nil pass0 (pa_cons (pv 0) (pa_cons (pv 2) pa_nil))) pa_nil)))))
      (pss_cons (ps_set (i := 4) sc_Lparts.nd rfl (Or.inl rfl) (pe_lst pa_nil))
      (pss_cons (ps_for PassesOwn.never rfl (pi_list (pv 2)) (pg_name (i := 5) sc_Lparts.nd rfl (Or.inl rfl))
        (pss_one (ps_for PassesOwn.never rfl (pi_list (pv 2)) (pg_name (i := 6) sc_Lparts.nd rfl (Or.inl rfl))
          (pss_one (ps_if (PW.pt (pw_and (pt_cmpR op_ne (pv 5) (pv 6) (nomark _)) (pw_and (pt_cmpR op_lt (pe_callB call_len_seq (by rfl) T.n_len (by decide +kernel) (pa_cons (pv 4) pa_nil)) pe_int (nomark _)) (pw_and1 (pt_cmpR op_eq (pe_call G_Ldraw hr1 rfl T.g_Ldraw T.k_Ldraw T.b_Ldraw .nil pass0 (pa_cons (pv 0) (pa_cons pe_int pa_nil))) pe_int (nomark _))))))
            (pss_one (ps_expr (pe_bm PySem.F.plainAttrs_list PySem.F.slot_list_append PySem.F.type_list_append mt_append (pv 4) (pa_cons (pe_tup (pa_cons (pv 5) (pa_cons (pv 6) pa_nil))) pa_nil))))
            pss_nil)))))
      (pss_one (ps_ret (pe_tup (pa_cons (pv 1) (pa_cons (pv 3) (pa_cons (pv 4) (pa_cons (pv 2) pa_nil))))))))))), ?_⟩
    refine ⟨_, rfl, p, l, n, rfl, by omega, hP, fun a ss H1 nap oss ha B1 P1 => ?_⟩
    refine ⟨_, rfl, p, l, n + 1, rfl, by omega, P1, fun d xs H2 ndp lx ox hd B2 P2 => ?_⟩
    refine ⟨by show 2 ≤ sizeLine; decide, fun t0 ht0 => ?_⟩
    have s3 := smN (o := .tup [.ref a, .ref d]) (Same.refl H2) ht0
    refine ⟨t0, _, rfl, SqT.of upd_same, rfl, ?_⟩
    refine ⟨_, _, rfl, ?_⟩
    refine ⟨_, _, rfl, ?_⟩
    refine ⟨rfl, ?_⟩
    have P3 := P2.same s3
    have ha3 := s3 _ _ (B2 _ _ nap ha)
    have hd3 := s3 _ _ hd
    have B3 := (B1.trans B2).trans (But.of s3)
    generalize upd H2 t0 (.tup [.ref a, .ref d]) = H3 at s3 P3 ha3 hd3 B3
    refine ⟨_, rfl, p, l, 9, n + 81, rfl, by decide, by decide, by omega, P3.mono (by omega), fun d0 H4 hd0 hd1 P4 B4 => ?_⟩
    obtain ⟨m, rfl⟩ : ∃ m : Nat, d0 = (m : Int) := ⟨d0.toNat, by omega⟩
    refine ⟨(m : Int), rfl, by omega, by omega, fun b hb => ?_⟩
    rw [show ((m : Int)).toNat = m from rfl]
    have nbp := P4.nep hb
    have nbl := P4.nel hb
    refine lc_range (n := m) (fun i H' => ∃ us rs, us.length = i ∧ Prs MaskOk NameOk H' us rs ∧ But p H4 H' ∧ PenN H' p l (n + 82 + 31 * i) ∧ H' b = some (.lst us)) ⟨[], [], rfl, .nil, But.refl.new hb, P4.put nbp nbl, upd_same⟩ (fun i H5 hi h => ?_) (fun H5 h => ?_)
    · obtain ⟨us, rs, lu, R5, B5, P5, hb5⟩ := h
      refine ⟨rfl, yes1 ?_⟩
      have ha5 := (B4.trans B5) _ _ nap ha3
      have hd5 := (B4.trans B5) _ _ ndp hd3
      refine ⟨_, rfl, _, rfl, p, l, a, ss, n + 82 + 31 * i, rfl, by omega, ha5, nap, oss, P5, fun mk H6 omk B6 P6 => ?_⟩
      refine ⟨_, rfl, _, rfl, p, l, d, n + 82 + 31 * i + 30, txV xs, rfl, B6 _ _ ndp hd5, ndp, by rw [txV_len]; omega, by rw [txV_len]; omega, by omega, P6, fun j v H7 ev B7 P7 => ?_⟩
      obtain ⟨x, ex, rfl⟩ := txV_get ev
      refine ⟨by show 2 ≤ sizeLine; decide, fun t ht => ?_⟩
      have s8 := smN (o := .tup [.str (S mk), .str (S x)]) (Same.refl H7) ht
      have B58 := (B6.trans B7).trans (But.of s8)
      have hb8 := B58 _ _ (Ne.symm nbp) hb5
      refine ⟨us, hb8, by rw [lu]; exact small1 _ (by omega), us ++ [.ref t], rs ++ [(mk, x)], by rw [List.length_append, lu] <;> rfl, ?_, (B5.trans B58).put hb, ((P7.same s8).mono (by omega)).put nbp nbl, upd_same⟩
      refine psnoc ⟨t, rfl, keepL hb8 _ _ upd_same, omk, ox x (List.mem_of_getElem? ex)⟩ (R5.keep fun c ys e => keepL hb8 _ _ (keepP P5 B58 c ys e))
    · obtain ⟨us, rs, lu, R5, B5, P5, hb5⟩ := h
      refine ⟨by show 0 ≤ sizeLine; decide, fun c hc => ?_⟩
      have P5 : PenN H5 p l (n + 400) := P5.mono (by omega)
      have ncp := P5.nep hc
      have ncl := P5.nel hc
      have nbc := ne_of_none hb5 hc
      have ha5 := (B4.trans B5) _ _ nap ha3
      have hd5 := (B4.trans B5) _ _ ndp hd3
      have nbp' : b ≠ p := Ne.symm nbp
      have B05 := (B3.trans B4).trans B5
      have lN : (txV xs).length = 4 := by rw [txV_len, lx]
      clear ha hd hP P1 P2 P3 P4 B1 B2 s3 ha3 hd3
      refine ⟨_, rfl, d, rfl, ⟨_, SqL.of (smN (o := .lst []) (Same.refl H5) hc _ _ hd5)⟩, ?_⟩
      refine for_it (walk_list (xs := txV xs)) (fun i σ H' => ∃ ws cs, Prs NameOk NameOk H' ws cs ∧ H' c = some (.lst ws) ∧ ws.length ≤ 6 ∧ PenN H' p l (n + 400 + 4 * i) ∧ But p H5 H' ∧
        ∃ (x5 x6 : Option V), σ = [some (.ref p), some (.ref a), some (.ref d), some (.ref b), some (.ref c), x5, x6, none])
        ⟨[], [], .nil, upd_same, by decide, P5.put ncp ncl, But.refl.new hc, none, none, rfl⟩ (fun i σ H' _ h => ?_) (fun i x σ H6 H6' lt h y => ?_) (fun σ H6 h => ?_)
      · obtain ⟨ws, cs, _, _, _, _, B6, _⟩ := h
        exact SqL.of (B6 _ _ ndp hd5)
      · obtain ⟨ws, cs, R6, hc6, lw, P6, B6, x5, x6, rfl⟩ := h
        obtain ⟨rfl, ev⟩ := y
        obtain ⟨one, e1, rfl⟩ := txV_get ev
        rw [lN] at lt
        refine ⟨_, rfl, d, rfl, ⟨_, SqL.of (B6 _ _ ndp hd5)⟩, ?_⟩
        refine for_it (walk_list (xs := txV xs)) (fun j σ H' => ∃ ws cs, Prs NameOk NameOk H' ws cs ∧ H' c = some (.lst ws) ∧ ws.length ≤ 6 ∧ PenN H' p l (n + 400 + 4 * i + j) ∧ But p H5 H' ∧
          ∃ (x6 : Option V), σ = [some (.ref p), some (.ref a), some (.ref d), some (.ref b), some (.ref c), some (.str (S one)), x6, none])
          ⟨ws, cs, R6, hc6, lw, P6, B6, x6, rfl⟩ (fun j σ H' _ h => ?_) (fun j x σ H7 H7' lt2 h y => ?_) (fun σ H7 h => ?_)
        · obtain ⟨ws, cs, _, _, _, _, B6, _⟩ := h
          exact SqL.of (B6 _ _ ndp hd5)
        · obtain ⟨ws, cs, R7, hc7, lw, P7, B7, x6, rfl⟩ := h
          obtain ⟨rfl, ev⟩ := y
          obtain ⟨other, e2, rfl⟩ := txV_get ev
          rw [lN] at lt2
          refine ⟨_, rfl, _, rfl, rfl, _, rfl, ?_⟩
          refine ite2 (fun _ => ?_) (fun _ => ?_)
          · refine ⟨_, rfl, c, _, rfl, .inl (SqL.of hc7), _, _, rfl, rfl, _, rfl, ?_⟩
            refine ite2 (fun c6 => ?_) (fun _ => ?_)
            · refine ⟨_, rfl, p, l, 3, n + 400 + 4 * i + j, rfl, by decide, by decide, by omega, P7, fun d1 H8 hd2 hd3 P8 B8 => ⟨rfl, _, rfl, ?_⟩⟩
              have hc8 := B8 _ _ (Ne.symm ncp) hc7
              have R8 := R7.keep (keepP P7 B8)
              refine ite2 (fun _ => ?_) (fun _ => ?_)
              · refine ⟨_, rfl, .inl ⟨rfl, _, SqL.of hc8⟩, _, rfl, _, rfl, by show 2 ≤ sizeLine; decide, fun t ht => ?_⟩
                have s9 := smN (o := .tup [.str (S one), .str (S other)]) (Same.refl H8) ht
                have hc9 := s9 _ _ hc8
                have c6 := of_decide_eq_true c6
                refine ⟨c, ws, .ref t, rfl, rfl, hc9, Nat.lt_of_le_of_lt lw (by decide), ?_⟩
                refine ⟨ws ++ [.ref t], cs ++ [(one, other)], ?_, upd_same, by rw [List.length_append]; show ws.length + 1 ≤ 6; omega, ((P8.same s9).mono (by omega)).put ncp ncl, ((B7.trans B8).trans (But.of s9)).put hc, _, rfl⟩
                exact psnoc ⟨t, rfl, keepL hc9 _ _ upd_same, ox one (List.mem_of_getElem? e1), ox other (List.mem_of_getElem? e2)⟩ ((R8.keep (keepS s9)).keep fun u ys e => keepL hc9 _ _ e)
              · exact ⟨ws, cs, R8, hc8, lw, P8.mono (by omega), B7.trans B8, _, rfl⟩
            · exact ⟨ws, cs, R7, hc7, lw, P7.mono (by omega), B7, _, rfl⟩
          · exact ⟨ws, cs, R7, hc7, lw, P7.mono (by omega), B7, _, rfl⟩
        · obtain ⟨ws, cs, R7, hc7, lw, P7, B7, x6, rfl⟩ := h
          exact ⟨ws, cs, R7, hc7, lw, P7.mono (by rw [lN]; omega), B7, _, _, rfl⟩
      · obtain ⟨ws, cs, R6, hc6, lw, P6, B6, x5, x6, rfl⟩ := h
        rw [lN] at P6
        refine ⟨_, rfl, _, rfl, _, rfl, _, rfl, by show 4 ≤ sizeLine; decide, fun t ht => ?_⟩
        have s7 := smN (o := .tup [.ref a, .ref b, .ref c, .ref d]) (Same.refl H6) ht
        have B67 := B6.trans (But.of s7)
        have lrs := plen R5
        have lcs := plen R6
        exact ret t a b c d ss rs cs xs us ws _ upd_same (B67 _ _ nap ha5) oss nap (B67 _ _ nbp' hb5) nbp' (R5.keep (keepP P5 B67)) (by omega) (s7 _ _ hc6) (Ne.symm ncp) (R6.keep (keepS s7)) (by omega) (B67 _ _ ndp hd5) ndp (B05.trans B67) ((P6.same s7).mono (by omega))
theorem ok_Llines (T : TxL K mg z w) : FnOk P wo K mg base CX0 2 w.a_Llines w.d_Llines ["_law_sizes_here", "_law_rules", "_law_changes"] spLinesL := by
  refine T.F_Llines.ok sc_Llines (fun vs H Q E h => ?_) (fun cdv A outer s H vs Q E hr h => ?_)
  · obtain ⟨a, b, c, ss, us, rs, ws, cs, rfl, _⟩ := h
    rfl
  · obtain ⟨a, b, c, ss, us, rs, ws, cs, rfl, ha, oss, hb, Rb, lr, hc, Rc, lc, ret⟩ := h
    refine ⟨_, (pss_cons (ps_set (i := 3) sc_Llines.nd rfl (Or.inl rfl) (pe_lst (pa_cons (pe_joinK (K := K) rfl pe_str (pa_cons (pe_op op_cat (pe_lst (pa_cons pe_str pa_nil)) (by refine' pe_lc (own := [("_law_size", 8)]) (tt := tYes) rfl sc_Llines.nd ?hi (blkOk_by (N := ["_law_sizes_here", "_law_rules", "_law_changes", "_law_lines_here", "_law_mask_here", "_law_name_here", "_law_one", "_law_other", "_law_size"]) (sc := defScope s_Llines) (by first | decide +kernel | kernel_rfl | rfl)) ?hg ?ht ?he (by intro _; rfl); (case hi => exact (pi_list (pv 0))); (case hg => exact fun _ _ _ _ _ => (pg_name (i := 8) sc_Llines.nd rfl (Or.inl rfl))); (case ht => exact fun _ _ _ _ _ => pts_nil); (case he => exact fun _ _ _ _ _ => (pe_callTy call_str_int (by rfl) T.n_str (by decide +kernel) (pa_cons (pv 8) pa_nil))))) pa_nil)) pa_nil)))
      (pss_cons (ps_set (i := 3) sc_Llines.nd rfl (Or.inl rfl) (pe_op op_cat (pv 3) (by refine' pe_lc (own := [("_law_mask_here", 4), ("_law_name_here", 5)]) (tt := tYes) (g := (gTup K 2 (gCons (gName 4) (gCons (gName 5) gNil)))) rfl sc_Llines.nd ?hi (blkOk_by (N := ["_law_sizes_here", "_law_rules", "_law_changes", "_law_lines_here", "_law_mask_here", "_law_name_here", "_law_one", "_law_other", "_law_size"]) (sc := defScope s_Llines) (by first | decide +kernel | kernel_rfl | rfl)) ?hg ?ht ?he (by intro _; rfl); (case hi => exact (pi_list (pv 1))); (case hg => exact fun _ _ _ _ _ => (pg_tup rfl (pgs_cons (pg_name (i := 4) sc_Llines.nd rfl (Or.inl rfl) (.inr rfl)) (pgs_cons (pg_name (i := 5) sc_Llines.nd rfl (Or.inl rfl) (.inr rfl)) pgs_nil)))); (case ht => exact fun _ _ _ _ _ => pts_nil); (case he => exact fun _ _ _ _ _ => (pe_op op_add_str (pe_op op_add_str (pe_op op_add_str pe_str (pv 4)) pe_str) (pv 5))))))
      (pss_one (ps_ret (pe_op op_cat (pv 3) (by refine' pe_lc (own := [("_law_one", 6), ("_law_other", 7)]) (tt := tYes) (g := (gTup K 2 (gCons (gName 6) (gCons (gName 7) gNil)))) rfl sc_Llines.nd ?hi (blkOk_by (N := ["_law_sizes_here", "_law_rules", "_law_changes", "_law_lines_here", "_law_mask_here", "_law_name_here", "_law_one", "_law_other", "_law_size"]) (sc := defScope s_Llines) (by first | decide +kernel | kernel_rfl | rfl)) ?hg ?ht ?he (by intro _; rfl); (case hi => exact (pi_list (pv 2))); (case hg => exact fun _ _ _ _ _ => (pg_tup rfl (pgs_cons (pg_name (i := 6) sc_Llines.nd rfl (Or.inl rfl) (.inr rfl)) (pgs_cons (pg_name (i := 7) sc_Llines.nd rfl (Or.inl rfl) (.inr rfl)) pgs_nil)))); (case ht => exact fun _ _ _ _ _ => pts_nil); (case he => exact fun _ _ _ _ _ => (pe_op op_add_str (pe_op op_add_str (pe_op op_add_str pe_str (pv 6)) pe_str) (pv 7))))))))), ?_⟩
    obtain ⟨o1, o2, o3⟩ := oss
    refine ⟨rfl, by show 1 ≤ sizeLine; decide, fun q0 h0 => ?_⟩
    have s0 := smN (o := .lst [.str "sizes"]) (Same.refl H) h0
    have hq0 : (upd H q0 (.lst [.str "sizes"])) q0 = some (.lst [.str "sizes"]) := upd_same
    generalize upd H q0 (.lst [.str "sizes"]) = H0 at s0 hq0
    refine ⟨_, rfl, a, rfl, ⟨_, SqL.of (s0 _ _ ha)⟩, fun D1 hD1 => ?_⟩
    refine lc_outL (xs := nums ss) (outM fun i => V.str (S (dig (ss.getD i 0)))) hD1 (SqL.of (s0 _ _ ha)) outM_0 (fun i hi => ?_) (fun i x H2 Kc K0 e s2 kc k0 => ?_) (fun H2 s2 e2 => ?_)
    · rw [outM_l]
      rw [nums_len] at hi
      exact small1 _ (by omega)
    · obtain ⟨m, em, rfl⟩ := nums_get e
      have hm := o3 m (List.mem_of_getElem? em)
      refine ⟨rfl, yes1 ?_⟩
      refine ⟨_, rfl, (m : Int), rfl, ?_, ?_⟩
      · exact Nat.lt_of_lt_of_le (intD_small (n := m) (by omega)) (by decide)
      · rw [dig_str m hm]
        refine kc _ _ (Same.refl _) ?_
        rw [outM_s, List.getD_eq_getElem?_getD, em] <;> rfl
    have e4 : outM (fun i => V.str (S (dig (ss.getD i 0)))) (nums ss).length = txV (ss.map dig) := outM_all (by rw [txV_len, List.length_map, nums_len]) fun i hi => by
      rw [nums_len] at hi
      rw [List.getElem?_map, List.getElem?_map, List.getElem?_map, List.getD_eq_getElem?_getD, List.getElem?_eq_getElem hi] <;> rfl
    rw [e4] at e2
    have s02 := s0.trans s2
    refine ⟨q0, D1, _, _, rfl, rfl, s2 _ _ hq0, e2, by rw [txV_len, List.length_map]; show 1 + _ ≤ sizeLine; exact Nat.le_trans (show 1 + ss.length ≤ 4 by omega) (by decide), fun q3 h3 => ?_⟩
    have s3 := smN (o := .lst (txV (wSizes :: ss.map dig))) s02 h3
    have el : [V.str "sizes"] ++ txV (ss.map dig) = txV (wSizes :: ss.map dig) := by
      rw [show ("sizes" : Str) = S wSizes by decide +kernel] <;> rfl
    rw [el]
    have hq3 : (upd H2 q3 (.lst (txV (wSizes :: ss.map dig)))) q3 = some (.lst (txV (wSizes :: ss.map dig))) := upd_same
    generalize upd H2 q3 (.lst (txV (wSizes :: ss.map dig))) = H3 at s3 hq3
    refine ⟨" ", q3, (wSizes :: ss.map dig).map S, rfl, rfl, .inl (SqL.of hq3), ?_, ?_⟩
    · rw [SX.lens]
      have e5 : ((wSizes :: ss.map dig).map List.length).sum = 5 + ss.length := by
        rw [List.map_cons, List.sum_cons, List.map_map]
        congr 1
        exact dig_sum ss
      rw [e5]
      show 5 + ss.length + ((wSizes :: ss.map dig).map S).length * 1 ≤ sizeLine
      rw [List.length_map, List.length_cons, List.length_map]
      exact Nat.le_trans (show _ ≤ 1000 by omega) (by decide)
    have ej : Txt.join " " ((wSizes :: ss.map dig).map S) = S (szLine ss) := by
      rw [show (" " : Str) = S [32] by decide +kernel, SX.join_S] <;> rfl
    rw [ej]
    refine ⟨by show 1 ≤ sizeLine; decide, fun q4 h4 => ?_⟩
    have s4 := smN (o := .lst (txV [szLine ss])) s3 h4
    have hq4 : (upd H3 q4 (.lst (txV [szLine ss]))) q4 = some (.lst (txV [szLine ss])) := upd_same
    have eu : upd H3 q4 (.lst [.str (S (szLine ss))]) = upd H3 q4 (.lst (txV [szLine ss])) := rfl
    rw [eu]
    generalize upd H3 q4 (.lst (txV [szLine ss])) = H4 at s4 hq4
    refine ⟨_, rfl, _, rfl, b, rfl, ⟨_, SqL.of (s4 _ _ hb)⟩, fun D5 hD5 => ?_⟩
    refine lc_outL (xs := us) (outM fun i => V.str (S (ruLine (rs.getD i ([], []))))) hD5 (SqL.of (s4 _ _ hb)) outM_0 (fun i hi => ?_) (fun i x H' Kc K0 e s2 kc k0 => ?_) (fun H5 sD5 eD5 => ?_)
    · rw [outM_l]
      have := plen Rb
      exact small1 _ (by omega)
    · obtain ⟨r, er, t, rfl, ht, o1, o2⟩ := pgetv Rb e
      have lm := o1.2.1
      have ln := o2.2.1
      refine ⟨t, [.str (S r.1), .str (S r.2)], rfl, SqT.of (s2 _ _ (s4 _ _ ht)), rfl, ?_⟩
      refine ⟨_, _, rfl, ?_⟩
      refine ⟨_, _, rfl, ?_⟩
      refine ⟨rfl, ?_⟩
      refine ⟨rfl, yes1 ?_⟩
      rw [show ("rule " : Str) = S (wRule ++ [32]) by decide +kernel, show (" " : Str) = S [32] by decide +kernel]
      have zz : ∀ k : Nat, k ≤ 1000 → k ≤ sizeLine := fun k h => Nat.le_trans h (by decide)
      have lw : wRule.length ≤ 6 := by decide
      refine ⟨_, rfl, _, _, rfl, rfl, by rw [S_ln, S_ln, List.length_append]; exact zz _ (by show wRule.length + 1 + r.1.length ≤ 1000; omega), ?_⟩
      rw [SX.S_cat]
      refine ⟨_, _, rfl, rfl, by rw [S_ln, S_ln, List.length_append, List.length_append]; exact zz _ (by show wRule.length + 1 + r.1.length + 1 ≤ 1000; omega), ?_⟩
      rw [SX.S_cat]
      refine ⟨_, rfl, _, _, rfl, rfl, by rw [S_ln, S_ln, List.length_append, List.length_append, List.length_append]; exact zz _ (by show wRule.length + 1 + r.1.length + 1 + r.2.length ≤ 1000; omega), ?_⟩
      rw [SX.S_cat]
      refine kc _ _ (Same.refl _) ?_
      rw [outM_s, List.getD_eq_getElem?_getD, er] <;> rfl
    have e6 : outM (fun i => V.str (S (ruLine (rs.getD i ([], []))))) us.length = txV (rs.map ruLine) := outM_all (by rw [txV_len, List.length_map, plen Rb]) fun i hi => by
      rw [plen Rb] at hi
      rw [List.getElem?_map, List.getElem?_map, List.getElem?_map, List.getD_eq_getElem?_getD, List.getElem?_eq_getElem hi] <;> rfl
    rw [e6] at eD5
    clear e6
    refine ⟨q4, D5, _, _, rfl, rfl, sD5 _ _ hq4, eD5, by rw [txV_len, txV_len, List.length_map]; show 1 + _ ≤ sizeLine; exact Nat.le_trans (show 1 + rs.length ≤ 9 by omega) (by decide), fun q6 h6 => ?_⟩
    have s6 := smN (o := .lst (txV ([szLine ss] ++ rs.map ruLine))) (s4.trans sD5) h6
    have el2 : txV [szLine ss] ++ txV (rs.map ruLine) = txV ([szLine ss] ++ rs.map ruLine) := by simp [txV]
    rw [el2]
    have hq6 : (upd H5 q6 (.lst (txV ([szLine ss] ++ rs.map ruLine)))) q6 = some (.lst (txV ([szLine ss] ++ rs.map ruLine))) := upd_same
    generalize upd H5 q6 (.lst (txV ([szLine ss] ++ rs.map ruLine))) = H6 at s6 hq6
    refine ⟨_, rfl, _, rfl, c, rfl, ⟨_, SqL.of (s6 _ _ hc)⟩, fun D7 hD7 => ?_⟩
    refine lc_outL (xs := ws) (outM fun i => V.str (S (chLine (cs.getD i ([], []))))) hD7 (SqL.of (s6 _ _ hc)) outM_0 (fun i hi => ?_) (fun i x H' Kc K0 e s2 kc k0 => ?_) (fun H7 sD7 eD7 => ?_)
    · rw [outM_l]
      have := plen Rc
      exact small1 _ (by omega)
    · obtain ⟨r, er, t, rfl, ht, o1, o2⟩ := pgetv Rc e
      have lm := o1.2.1
      have ln := o2.2.1
      refine ⟨t, [.str (S r.1), .str (S r.2)], rfl, SqT.of (s2 _ _ (s6 _ _ ht)), rfl, ?_⟩
      refine ⟨_, _, rfl, ?_⟩
      refine ⟨_, _, rfl, ?_⟩
      refine ⟨rfl, ?_⟩
      refine ⟨rfl, yes1 ?_⟩
      rw [show ("change " : Str) = S (wChange ++ [32]) by decide +kernel, show (" " : Str) = S [32] by decide +kernel]
      have zz : ∀ k : Nat, k ≤ 1000 → k ≤ sizeLine := fun k h => Nat.le_trans h (by decide)
      have lw : wChange.length ≤ 6 := by decide
      refine ⟨_, rfl, _, _, rfl, rfl, by rw [S_ln, S_ln, List.length_append]; exact zz _ (by show wChange.length + 1 + r.1.length ≤ 1000; omega), ?_⟩
      rw [SX.S_cat]
      refine ⟨_, _, rfl, rfl, by rw [S_ln, S_ln, List.length_append, List.length_append]; exact zz _ (by show wChange.length + 1 + r.1.length + 1 ≤ 1000; omega), ?_⟩
      rw [SX.S_cat]
      refine ⟨_, rfl, _, _, rfl, rfl, by rw [S_ln, S_ln, List.length_append, List.length_append, List.length_append]; exact zz _ (by show wChange.length + 1 + r.1.length + 1 + r.2.length ≤ 1000; omega), ?_⟩
      rw [SX.S_cat]
      refine kc _ _ (Same.refl _) ?_
      rw [outM_s, List.getD_eq_getElem?_getD, er] <;> rfl
    have e6 : outM (fun i => V.str (S (chLine (cs.getD i ([], []))))) ws.length = txV (cs.map chLine) := outM_all (by rw [txV_len, List.length_map, plen Rc]) fun i hi => by
      rw [plen Rc] at hi
      rw [List.getElem?_map, List.getElem?_map, List.getElem?_map, List.getD_eq_getElem?_getD, List.getElem?_eq_getElem hi] <;> rfl
    rw [e6] at eD7
    clear e6
    refine ⟨q6, D7, _, _, rfl, rfl, sD7 _ _ hq6, eD7, by rw [txV_len, txV_len, List.length_map, List.length_append, List.length_map]; exact Nat.le_trans (show 1 + rs.length + cs.length ≤ 20 by omega) (by decide), fun q8 h8 => ?_⟩
    have el3 : txV ([szLine ss] ++ rs.map ruLine) ++ txV (cs.map chLine) = txV (allLines ss rs cs) := by simp [txV, allLines]
    rw [el3]
    exact ret q8 _ (smN (s6.trans sD7) h8) ((s6.trans sD7).free h8) upd_same
end
end Fb
set_option maxRecDepth 100000
set_option maxHeartbeats 4000000
namespace Fb
open PySem PySem.Spec PyProof.Rows L2
open SX (S)
/-! the mathematics of lines -/
theorem lns_join {L : List (List Nat)} (h0 : L ≠ []) (h : ∀ l ∈ L, 10 ∉ l) : lns (TL.joinL [10] L) = L := TL.spl_join h0 h
theorem wds_join {L : List (List Nat)} (h0 : L ≠ []) (h : ∀ l ∈ L, 32 ∉ l) : wds (TL.joinL [32] L) = L := TL.spl_join h0 h
theorem name_no {c : Nat} : ∀ {x : List Nat}, NameOk x → c ∉ nameS → c ∉ x := fun h n m => n (h.2.2 _ m)
theorem mask_no {c : Nat} : ∀ {x : List Nat}, MaskOk x → c ∉ maskS → c ∉ x := fun h n m => n (h.2.2 _ m)
theorem dig_ok : ∀ n, n ≤ 9 → numW (dig n) = true ∧ 32 ∉ dig n ∧ 10 ∉ dig n := by decide +kernel
theorem wds_sz {ss : List Nat} (h : Sz7 ss) : wds (szLine ss) = wSizes :: ss.map dig := by
  unfold szLine
  refine wds_join (by simp) fun l hl => ?_
  rcases List.mem_cons.mp hl with e | e
  · rw [e]; decide
  · obtain ⟨n, hn, rfl⟩ := List.mem_map.mp e
    exact (dig_ok n (h.2.2 n hn)).2.1
theorem wds_ru {r : List Nat × List Nat} (h1 : MaskOk r.1) (h2 : NameOk r.2) : wds (ruLine r) = [wRule, r.1, r.2] := by
  have e : ruLine r = TL.joinL [32] [wRule, r.1, r.2] := by simp [ruLine, TL.joinL]
  rw [e]
  refine wds_join (by simp) fun l hl => ?_
  simp only [List.mem_cons, List.not_mem_nil, or_false] at hl
  rcases hl with rfl | rfl | rfl
  · decide
  · exact mask_no h1 (by decide)
  · exact name_no h2 (by decide)
theorem wds_ch {r : List Nat × List Nat} (h1 : NameOk r.1) (h2 : NameOk r.2) : wds (chLine r) = [wChange, r.1, r.2] := by
  have e : chLine r = TL.joinL [32] [wChange, r.1, r.2] := by simp [chLine, TL.joinL]
  rw [e]
  refine wds_join (by simp) fun l hl => ?_
  simp only [List.mem_cons, List.not_mem_nil, or_false] at hl
  rcases hl with rfl | rfl | rfl
  · decide
  · exact name_no h1 (by decide)
  · exact name_no h2 (by decide)
theorem sg_name {x : List Nat} (h : NameOk x) : sgB x nameS = true := by
  unfold sgB
  rw [decide_eq_true h.1, Bool.true_and]
  exact List.all_eq_true.mpr fun c hc => decide_eq_true (h.2.2 c hc)
theorem sg_mask {x : List Nat} (h : MaskOk x) : sgB x maskS = true := by
  unfold sgB
  rw [decide_eq_true h.1, Bool.true_and]
  exact List.all_eq_true.mpr fun c hc => decide_eq_true (h.2.2 c hc)
theorem can_sz {ss : List Nat} (h : Sz7 ss) : canL (wSizes :: ss.map dig) [] = true := by
  have e : canL (wSizes :: ss.map dig) [] = (decide (([] : List Nat) = []) && numWs (ss.map dig)) := rfl
  rw [e]
  unfold numWs
  have e1 : ss.map dig ≠ [] := fun e => h.1 (List.map_eq_nil_iff.mp e)
  have e2 : (ss.map dig).all numW = true := List.all_eq_true.mpr fun x hx => by
    obtain ⟨n, hn, rfl⟩ := List.mem_map.mp hx
    exact (dig_ok n (h.2.2 n hn)).1
  rw [e2, decide_eq_true e1]
  rfl
theorem can_ru {r : List Nat × List Nat} {b : List Nat} (h1 : MaskOk r.1) (h2 : NameOk r.2) (hb : b ∈ [wSizes, wRule]) : canL [wRule, r.1, r.2] b = true := by
  have e : canL [wRule, r.1, r.2] b = (decide (b ∈ [wSizes, wRule]) && (decide (2 = 2) && (sgB r.1 maskS && sgB r.2 nameS))) := rfl
  rw [e, sg_mask h1, sg_name h2, decide_eq_true hb]
  rfl
theorem can_ch {r : List Nat × List Nat} {b : List Nat} (h1 : NameOk r.1) (h2 : NameOk r.2) (hb : b ≠ []) : canL [wChange, r.1, r.2] b = true := by
  have e : canL [wChange, r.1, r.2] b = (decide (b ≠ []) && (decide (2 = 2) && [r.1, r.2].all fun x => sgB x nameS)) := rfl
  rw [e, decide_eq_true hb]
  simp [sg_name h1, sg_name h2]
theorem heads_ne {b : List Nat} (h : b ∈ heads) : b ≠ [] := by
  unfold heads at h
  simp only [List.mem_cons, List.not_mem_nil, or_false] at h
  rcases h with rfl | rfl | rfl <;> decide
abbrev RuOk (rs : List (List Nat × List Nat)) : Prop := ∀ r ∈ rs, MaskOk r.1 ∧ NameOk r.2
abbrev ChOk (cs : List (List Nat × List Nat)) : Prop := ∀ r ∈ cs, NameOk r.1 ∧ NameOk r.2
theorem flt_ru {X : List (List Nat)} : ∀ {rs : List (List Nat × List Nat)} {b : List Nat} {n : Nat}, RuOk rs → b ∈ [wSizes, wRule] → ∃ b', b' ∈ [wSizes, wRule] ∧ fltL (rs.map ruLine ++ X) b n = fltL X b' (n + rs.length)
  | [], b, n, _, hb => ⟨b, hb, rfl⟩
  | r :: rs, b, n, h, hb => by
    obtain ⟨h1, h2⟩ := h r List.mem_cons_self
    obtain ⟨b', q1, q2⟩ := flt_ru (X := X) (rs := rs) (b := wRule) (n := n + 1) (fun x hx => h x (List.mem_cons_of_mem _ hx)) (by simp)
    refine ⟨b', q1, ?_⟩
    have e : fltL ((r :: rs).map ruLine ++ X) b n = if canL (wds (ruLine r)) b = true then fltL (rs.map ruLine ++ X) ((wds (ruLine r)).headD []) (n + 1) else some n := rfl
    rw [e, wds_ru h1 h2, if_pos (can_ru h1 h2 hb)]
    show fltL (rs.map ruLine ++ X) wRule (n + 1) = _
    rw [q2, List.length_cons]
    congr 1
    omega
theorem flt_ch {X : List (List Nat)} : ∀ {cs : List (List Nat × List Nat)} {b : List Nat} {n : Nat}, ChOk cs → b ∈ heads → ∃ b', b' ∈ heads ∧ (cs ≠ [] → b' = wChange) ∧ fltL (cs.map chLine ++ X) b n = fltL X b' (n + cs.length)
  | [], b, n, _, hb => ⟨b, hb, fun z => absurd rfl z, rfl⟩
  | r :: cs, b, n, h, hb => by
    obtain ⟨h1, h2⟩ := h r List.mem_cons_self
    obtain ⟨b', q1, q3, q2⟩ := flt_ch (X := X) (cs := cs) (b := wChange) (n := n + 1) (fun x hx => h x (List.mem_cons_of_mem _ hx)) (by simp [heads])
    have e : fltL ((r :: cs).map chLine ++ X) b n = if canL (wds (chLine r)) b = true then fltL (cs.map chLine ++ X) ((wds (chLine r)).headD []) (n + 1) else some n := rfl
    have e2 : fltL ((r :: cs).map chLine ++ X) b n = fltL X b' (n + (r :: cs).length) := by
      rw [e, wds_ch h1 h2, if_pos (can_ch h1 h2 (heads_ne hb))]
      show fltL (cs.map chLine ++ X) wChange (n + 1) = _
      rw [q2, List.length_cons]
      congr 1
      omega
    cases cs with
    | nil => exact ⟨wChange, by simp [heads], fun _ => rfl, by rw [e, wds_ch h1 h2, if_pos (can_ch h1 h2 (heads_ne hb))] <;> rfl⟩
    | cons c cs => exact ⟨b', q1, fun _ => q3 (by simp), e2⟩
theorem flt_all {X : List (List Nat)} {ss : List Nat} {rs cs : List (List Nat × List Nat)} (h : Sz7 ss) (hr : RuOk rs) (hc : ChOk cs) : ∃ b', b' ∈ heads ∧ (cs ≠ [] → b' = wChange) ∧ fltL (allLines ss rs cs ++ X) [] 0 = fltL X b' (1 + rs.length + cs.length) := by
  obtain ⟨b1, m1, q1⟩ := flt_ru (X := cs.map chLine ++ X) (b := wSizes) (n := 1) hr (by simp)
  obtain ⟨b2, m2, k2, q2⟩ := flt_ch (X := X) (b := b1) (n := 1 + rs.length) hc (by
    simp only [List.mem_cons, List.not_mem_nil, or_false] at m1
    rcases m1 with rfl | rfl <;> simp [heads])
  refine ⟨b2, m2, k2, ?_⟩
  have e : allLines ss rs cs ++ X = szLine ss :: (rs.map ruLine ++ (cs.map chLine ++ X)) := by simp [allLines]
  have e2 : fltL (szLine ss :: (rs.map ruLine ++ (cs.map chLine ++ X))) [] 0 = if canL (wds (szLine ss)) [] = true then fltL (rs.map ruLine ++ (cs.map chLine ++ X)) ((wds (szLine ss)).headD []) (0 + 1) else some 0 := rfl
  rw [e, e2, wds_sz h, if_pos (can_sz h)]
  show fltL (rs.map ruLine ++ (cs.map chLine ++ X)) wSizes 1 = _
  rw [q1, q2]
theorem take_all {ss : List Nat} {rs cs : List (List Nat × List Nat)} {a : Nat} (ha : 1 ≤ a) : (allLines ss rs cs).take a = allLines ss (rs.take (a - 1)) (cs.take (a - 1 - rs.length)) := by
  obtain ⟨k, rfl⟩ : ∃ k, a = k + 1 := ⟨a - 1, by omega⟩
  unfold allLines
  rw [List.append_assoc, List.append_assoc, List.singleton_append, List.singleton_append, List.take_succ_cons, List.take_append, List.length_map, ← List.map_take, ← List.map_take]
  rfl
theorem len_all {ss : List Nat} {rs cs : List (List Nat × List Nat)} : (allLines ss rs cs).length = 1 + rs.length + cs.length := by
  unfold allLines
  rw [List.length_append, List.length_append, List.length_map, List.length_map]
  rfl
theorem flt_take {ss : List Nat} {rs cs : List (List Nat × List Nat)} {a : Nat} {t : List Nat} {Y : List (List Nat)} (h : Sz7 ss) (hr : RuOk rs) (hc : ChOk cs) (h1 : 1 ≤ a) (h2 : a ≤ 1 + rs.length + cs.length)
    (bad : ∀ b ∈ heads, (1 + rs.length < a → b = wChange) → canL (wds t) b = false) : fltL ((allLines ss rs cs).take a ++ [t] ++ Y) [] 0 = some a := by
  obtain ⟨b, m, k, q⟩ := flt_all (X := [t] ++ Y) (rs := rs.take (a - 1)) (cs := cs.take (a - 1 - rs.length)) h (fun r hx => hr r (List.mem_of_mem_take hx)) (fun r hx => hc r (List.mem_of_mem_take hx))
  rw [take_all h1, List.append_assoc, q]
  have e : fltL ([t] ++ Y) b (1 + (rs.take (a - 1)).length + (cs.take (a - 1 - rs.length)).length) = if canL (wds t) b = true then fltL Y ((wds t).headD []) (1 + (rs.take (a - 1)).length + (cs.take (a - 1 - rs.length)).length + 1) else some (1 + (rs.take (a - 1)).length + (cs.take (a - 1 - rs.length)).length) := rfl
  rw [e, bad b m fun z => k fun e => ?_, if_neg Bool.false_ne_true, List.length_take, List.length_take]
  · congr 1
    omega
  · have := congrArg List.length e
    rw [List.length_take] at this
    have this : min (a - 1 - rs.length) cs.length = 0 := this
    omega
theorem flt_line {ss : List Nat} {rs cs : List (List Nat × List Nat)} {a : Nat} {t : List Nat} {Y : List (List Nat)} (h : Sz7 ss) (hr : RuOk rs) (hc : ChOk cs) (h1 : 1 ≤ a) (h2 : a ≤ 1 + rs.length + cs.length) (hb : badL t = true) : fltL ((allLines ss rs cs).take a ++ [t] ++ Y) [] 0 = some a := by
  refine flt_take h hr hc h1 h2 fun b m _ => ?_
  unfold badL at hb
  rw [Bool.and_eq_true] at hb
  simpa using List.all_eq_true.mp hb.2 b m
def rule1 : List Nat := [114, 117, 108, 101, 32, 49, 32, 97]
theorem flt_rule {ss : List Nat} {rs cs : List (List Nat × List Nat)} {a : Nat} {Y : List (List Nat)} (h : Sz7 ss) (hr : RuOk rs) (hc : ChOk cs) (h1 : 1 + rs.length < a) (h2 : a ≤ 1 + rs.length + cs.length) : fltL ((allLines ss rs cs).take a ++ [rule1] ++ Y) [] 0 = some a := by
  refine flt_take h hr hc (by omega) h2 fun b m k => ?_
  rw [k h1]
  decide +kernel
theorem flt_first {t : List Nat} {Y : List (List Nat)} (h : badF t = true) : fltL ([t] ++ Y) [] 0 = some 0 := by
  unfold badF at h
  rw [Bool.and_eq_true] at h
  have h2 : canL (wds t) [] = false := by simpa using h.2
  have e : fltL ([t] ++ Y) [] 0 = if canL (wds t) [] = true then fltL Y ((wds t).headD []) (0 + 1) else some 0 := rfl
  rw [e, h2, if_neg Bool.false_ne_true]
theorem flt_end {ss : List Nat} {rs cs : List (List Nat × List Nat)} (h : Sz7 ss) (hr : RuOk rs) (hc : ChOk cs) : fltL (allLines ss rs cs ++ [[]]) [] 0 = some (1 + rs.length + cs.length) := by
  obtain ⟨b, m, k, q⟩ := flt_all (X := [[]]) h hr hc
  rw [q]
  have e : fltL [[]] b (1 + rs.length + cs.length) = if canL (wds []) b = true then fltL [] ((wds []).headD []) (1 + rs.length + cs.length + 1) else some (1 + rs.length + cs.length) := rfl
  have e2 : canL (wds []) b = false := rfl
  rw [e, e2, if_neg Bool.false_ne_true]
theorem plain_of {t : List Nat} (h1 : 10 ∉ t) (h2 : t.length ≤ 100) : plainT t = true := by
  unfold plainT
  rw [decide_eq_true h1, decide_eq_true h2]
  rfl
theorem plain_all {ss : List Nat} {rs cs : List (List Nat × List Nat)} (h : Sz7 ss) (hr : RuOk rs) (hc : ChOk cs) : ∀ l ∈ allLines ss rs cs, plainT l = true := fun l hl => by
  unfold allLines at hl
  rcases List.mem_append.mp hl with hl | hl
  · rcases List.mem_append.mp hl with hl | hl
    · rw [List.mem_singleton.mp hl]
      unfold szLine
      refine plain_of (fun m => ?_) ?_
      · rcases joinL_mem m with e | ⟨b, h1, h2⟩
        · exact absurd e (by decide)
        · rcases List.mem_cons.mp h1 with e | e
          · rw [e] at h2; exact absurd h2 (by decide)
          · obtain ⟨n, hn, rfl⟩ := List.mem_map.mp e
            exact (dig_ok n (h.2.2 n hn)).2.2 h2
      · have := joinL_len (d := 32) (bs := wSizes :: ss.map dig) (by simp)
        rw [List.map_cons, List.sum_cons, List.map_map, dig_sum, List.length_cons, List.length_map] at this
        have l5 : wSizes.length = 5 := rfl
        have := h.2.1
        omega
    · obtain ⟨r, hr1, rfl⟩ := List.mem_map.mp hl
      obtain ⟨h1, h2⟩ := hr r hr1
      refine plain_of (fun m => ?_) ?_
      · unfold ruLine at m
        simp only [List.mem_append] at m
        rcases m with ((((m | m) | m) | m) | m)
        · exact absurd m (by decide)
        · exact absurd m (by decide)
        · exact mask_no h1 (by decide) m
        · exact absurd m (by decide)
        · exact name_no h2 (by decide) m
      · unfold ruLine
        simp only [List.length_append]
        have := h1.2.1
        have := h2.2.1
        have l5 : wRule.length = 4 := rfl
        simp only [List.length_cons, List.length_nil]
        omega
  · obtain ⟨r, hr1, rfl⟩ := List.mem_map.mp hl
    obtain ⟨h1, h2⟩ := hc r hr1
    refine plain_of (fun m => ?_) ?_
    · unfold chLine at m
      simp only [List.mem_append] at m
      rcases m with ((((m | m) | m) | m) | m)
      · exact absurd m (by decide)
      · exact absurd m (by decide)
      · exact name_no h1 (by decide) m
      · exact absurd m (by decide)
      · exact name_no h2 (by decide) m
    · unfold chLine
      simp only [List.length_append]
      have := h1.2.1
      have := h2.2.1
      have l5 : wChange.length = 6 := rfl
      simp only [List.length_cons, List.length_nil]
      omega
theorem plain_sum : ∀ {L : List (List Nat)}, (∀ l ∈ L, plainT l = true) → (L.map List.length).sum ≤ 100 * L.length
  | [], _ => Nat.le_refl _
  | x :: xs, h => by
    have := plain_sum (L := xs) fun y hy => h y (List.mem_cons_of_mem _ hy)
    have hx := h x List.mem_cons_self
    unfold plainT at hx
    rw [Bool.and_eq_true, decide_eq_true_eq, decide_eq_true_eq] at hx
    rw [List.map_cons, List.sum_cons, List.length_cons]
    omega
theorem plain_len {L : List (List Nat)} (h : ∀ l ∈ L, plainT l = true) (h2 : L ≠ []) : (TL.joinL [10] L).length ≤ 101 * L.length := by
  have := joinL_len (d := 10) h2
  have e : (L.map List.length).sum ≤ 100 * L.length := by
    clear this h2
    induction L with
    | nil => exact Nat.le_refl _
    | cons x xs ih =>
      have := ih fun y hy => h y (List.mem_cons_of_mem _ hy)
      have hx := h x List.mem_cons_self
      unfold plainT at hx
      rw [Bool.and_eq_true, decide_eq_true_eq, decide_eq_true_eq] at hx
      rw [List.map_cons, List.sum_cons, List.length_cons]
      omega
  omega
theorem plain_10 {L : List (List Nat)} (h : ∀ l ∈ L, plainT l = true) : ∀ l ∈ L, 10 ∉ l := fun l hl => by
  have := h l hl
  unfold plainT at this
  rw [Bool.and_eq_true, decide_eq_true_eq, decide_eq_true_eq] at this
  exact this.1
end Fb
set_option maxRecDepth 100000
set_option maxHeartbeats 4000000
namespace Fb
open PySem PySem.Spec PyProof.Rows L2
open SX (S)
def LsG (p : Addr) (Ok : List (List Nat) → Prop) (H : Hp) (vs : List V) : Prop := ∀ v ∈ vs, ∃ q L, v = .ref q ∧ q ≠ p ∧ H q = some (.lst (txV L)) ∧ Ok L
theorem ls_add {p q : Addr} {Ok : List (List Nat) → Prop} {H : Hp} {vs : List V} {L : List (List Nat)} (h : LsG p Ok H vs) (hq : H q = none) (n : q ≠ p) (k : Ok L) : LsG p Ok (upd H q (.lst (txV L))) (vs ++ [.ref q]) := fun v hv => by
  rcases List.mem_append.mp hv with e | e
  · obtain ⟨q', s', h1, h2, h3, h4⟩ := h v e
    exact ⟨q', s', h1, h2, smN (Same.refl _) hq _ _ h3, h4⟩
  · exact ⟨q, L, List.mem_singleton.mp e, n, upd_same, k⟩
theorem ls_new {p q : Addr} {Ok : List (List Nat) → Prop} {H : Hp} {vs : List V} {o : HO} (h : LsG p Ok H vs) (hq : H q = none) : LsG p Ok (upd H q o) vs := fun v hv => by
  obtain ⟨q', s', h1, h2, h3, h4⟩ := h v hv
  exact ⟨q', s', h1, h2, smN (Same.refl _) hq _ _ h3, h4⟩
def MoreOk (L : List (List Nat)) : Prop := L.length ≤ 1 ∧ ∀ l ∈ L, plainT l = true
theorem cutV_to (L : List (List Nat)) (a : Nat) : cutV (txV L) none (some (a : Int)) = txV (L.take a) := by
  unfold cutV
  have i0 : HT.sIx (txV L).length 0 none = 0 := rfl
  rw [i0, HT.sIx_nat, txV_len]
  show ((txV L).drop 0).take (min a L.length - 0) = _
  rw [List.drop_zero, Nat.sub_zero]
  show List.take _ ((L.map S).map V.str) = ((L.take a).map S).map V.str
  rw [List.map_take, List.map_take]
  by_cases h : a ≤ L.length
  · rw [Nat.min_eq_left h]
  · rw [Nat.min_eq_right (by omega), List.take_of_length_le (by simp), List.take_of_length_le (by simp; omega)]
theorem cutV_from (L : List (List Nat)) (a : Nat) : cutV (txV L) (some (a : Int)) none = txV (L.drop a) := by
  unfold cutV
  have i0 : HT.sIx (txV L).length (txV L).length none = (txV L).length := rfl
  rw [i0, HT.sIx_nat, txV_len]
  show List.take _ (List.drop _ ((L.map S).map V.str)) = ((L.drop a).map S).map V.str
  rw [List.map_drop, List.map_drop]
  by_cases h : a ≤ L.length
  · rw [Nat.min_eq_left h, List.take_of_length_le (by simp)]
  · rw [Nat.min_eq_right (by omega), List.drop_of_length_le (by simp), List.drop_of_length_le (by simp; omega), List.take_nil]
def spBentL : Sp := fun vs H Q _ => ∃ (p l q : Addr) (n : Nat) (ss : List Nat) (rs cs : List (List Nat × List Nat)), vs = [.ref p, .ref q, .int ((1 + rs.length : Nat) : Int)] ∧ n < 70000 ∧ PenN H p l n ∧ q ≠ p ∧ H q = some (.lst (txV (allLines ss rs cs))) ∧
  Sz7 ss ∧ RuOk rs ∧ ChOk cs ∧ rs.length ≤ 8 ∧ cs.length ≤ 6 ∧
  ∀ t D B (a : Nat) H', H' t = some (.tup [.ref D, .int (a : Nat)]) → D ≠ p → H' D = some (.lst (txV B)) → B ≠ [] → B.length ≤ 40 → (∀ l ∈ B, plainT l = true) → fltL B [] 0 = some a → But p H H' → PenN H' p l (n + 4) → Q (.ref t) H'
theorem plain_bad {t : List Nat} : badL t = true → plainT t = true := fun h => by unfold badL at h; rw [Bool.and_eq_true] at h; exact h.1
theorem plain_badF {t : List Nat} : badF t = true → plainT t = true := fun h => by unfold badF at h; rw [Bool.and_eq_true] at h; exact h.1
section
variable {P : Program} {wo : World} {K : PySem.W.Frag} {mg : Str → Option Value} {base : Heap} {z : Pz} {w : Lz}
theorem ok_Lbent (T : TxL K mg z w) : FnOk P wo K mg base CX0 4 w.a_Lbent w.d_Lbent ["_law_pen_here", "_law_lines_here", "_law_many"] spBentL := by
  refine T.F_Lbent.ok sc_Lbent (fun vs H Q E h => ?_) (fun cdv A outer s H vs Q E hr h => ?_)
  · obtain ⟨p, l, q, n, ss, rs, cs, rfl, _⟩ := h
    rfl
  · obtain ⟨p, l, q, n, ss, rs, cs, rfl, hn, hP, nqp, hq, oss, ors, ocs, lr, lc, ret⟩ := h
    have hr3 : Room 3 _ := hr
    have hr2 : Room 2 _ := hr.mono (by decide)
    have hr1 : Room 1 _ := hr.mono (by decide)
    have G_Ldraw : FnOk P wo K mg base CX0 1 w.a_Ldraw w.d_Ldraw ["_law_pen_here", "_law_many"] spDraw := ok_Ldraw T
    have G_Lpick : FnOk P wo K mg base CX0 2 w.a_Lpick w.d_Lpick ["_law_pen_here", "_law_some"] (spPick K) := ok_Lpick T
    have G_Lfirst : FnOk P wo K mg base CX0 3 w.a_Lfirst w.d_Lfirst ["_law_pen_here"] (spTextL badF) := ok_Lfirst T
    have G_Lline : FnOk P wo K mg base CX0 3 w.a_Lline w.d_Lline ["_law_pen_here"] (spTextL badL) := ok_Lline T
    have lA := len_all (ss := ss) (rs := rs) (cs := cs)
    have pA := plain_all oss ors ocs
    have fT := fun (a : Nat) (t : List Nat) (Y : List (List Nat)) => flt_line (a := a) (t := t) (Y := Y) oss ors ocs
    have fR := fun (a : Nat) (Y : List (List Nat)) => flt_rule (a := a) (Y := Y) oss ors ocs
    generalize hL : allLines ss rs cs = L at hq lA pA fT fR
    refine ⟨_, (pss_cons (ps_set (i := 3) sc_Lbent.nd rfl (Or.inl rfl) (pe_call G_Ldraw hr1 rfl T.g_Ldraw T.k_Ldraw T.b_Ldraw .nil pass0 (pa_cons (pv 0) (pa_cons (pe_op op_add (pe_callB call_len_seq (by rfl) T.n_len (by decide +kernel) (pa_cons (pv 1) pa_nil)) pe_int) pa_nil))))
      (pss_cons (ps_set (i := 4) sc_Lbent.nd rfl (Or.inl rfl) (pe_call G_Lpick hr2 rfl T.g_Lpick T.k_Lpick T.b_Lpick .nil pass0 (pa_cons (pv 0) (pa_cons (pe_lst (pa_cons (pe_lst pa_nil) (pa_cons (pe_lst (pa_cons pe_str pa_nil)) (pa_cons (pe_lst (pa_cons pe_str pa_nil)) (pa_cons (pe_lst (pa_cons pe_str pa_nil)) pa_nil))))) pa_nil))))
      (pss_cons (ps_if (pt_cmpR op_eq (pv 3) pe_int (nomark _))
        (pss_one (ps_ret (pe_tup (pa_cons (pe_op op_cat (pe_op op_cat (pe_lst (pa_cons (pe_call G_Lfirst hr3 rfl T.g_Lfirst T.k_Lfirst T.b_Lfirst .nil pass0 (pa_cons (pv 0) pa_nil)) pa_nil)) (pe_slice sl_list (pv 1) (po_some pe_int) po_none)) (pv 4)) (pa_cons pe_int pa_nil)))))
        pss_nil)
      (C8.pss_cut (ps_if (PW.pt (pw_and (pt_cmpR op_gt (pv 3) (pv 2) (nomark _)) (pw_and1 (pt_cmpR op_eq (pe_call G_Ldraw hr1 rfl T.g_Ldraw T.k_Ldraw T.b_Ldraw .nil pass0 (pa_cons (pv 0) (pa_cons pe_int pa_nil))) pe_int (nomark _)))))
        (pss_one (ps_ret (pe_tup (pa_cons (pe_op op_cat (pe_op op_cat (pe_op op_cat (pe_slice sl_list (pv 1) po_none (po_some (pv 3))) (pe_lst (pa_cons pe_str pa_nil))) (pe_slice sl_list (pv 1) (po_some (pv 3)) po_none)) (pv 4)) (pa_cons (pv 3) pa_nil)))))
        pss_nil)
      (pss_one (ps_ret (pe_tup (pa_cons (pe_op op_cat (pe_op op_cat (pe_op op_cat (pe_slice sl_list (pv 1) po_none (po_some (pv 3))) (pe_lst (pa_cons (pe_call G_Lline hr3 rfl T.g_Lline T.k_Lline T.b_Lline .nil pass0 (pa_cons (pv 0) pa_nil)) pa_nil))) (pe_slice sl_list (pv 1) (po_some (pv 3)) po_none)) (pv 4)) (pa_cons (pv 3) pa_nil))))))))), ?_⟩
    refine ⟨_, rfl, _, rfl, q, _, rfl, .inl (SqL.of hq), _, _, rfl, rfl, ?_⟩
    rw [txV_len]
    refine ⟨p, l, _, n, rfl, by omega, by omega, by omega, hP, fun d0 H1 hd0 hd1 P1 B1 => ?_⟩
    obtain ⟨a, rfl⟩ : ∃ a : Nat, d0 = (a : Int) := ⟨d0.toNat, by omega⟩
    have hq1 := B1 _ _ nqp hq
    -- more
    refine ⟨_, rfl, by show 0 ≤ sizeLine; decide, fun q1 h1 => ?_⟩
    have P2 := P1.new (o := .lst (txV [])) h1
    have g1 : LsG p MoreOk (upd H1 q1 (.lst (txV []))) [.ref q1] := ls_add (Ok := MoreOk) (vs := []) (L := []) (fun v hv => by cases hv) h1 (Ne.symm (P1.nep h1)) ⟨by decide, fun l hl => by cases hl⟩
    have s1 := smN (o := .lst (txV [])) (Same.refl H1) h1
    refine ⟨by show 1 ≤ sizeLine; decide, fun q2 h2 => ?_⟩
    have P3 := P2.new (o := .lst (txV [[]])) h2
    have g2 := ls_add (L := [[]]) g1 h2 (Ne.symm (P2.nep h2)) ⟨by decide, by decide +kernel⟩
    have s2 := smN (o := .lst (txV [[]])) s1 h2
    refine ⟨by show 1 ≤ sizeLine; decide, fun q3 h3 => ?_⟩
    have P4 := P3.new (o := .lst (txV [wSizes])) h3
    have g3 := ls_add (L := [wSizes]) g2 h3 (Ne.symm (P3.nep h3)) ⟨by decide, by decide +kernel⟩
    have s3 := smN (o := .lst (txV [wSizes])) s2 h3
    refine ⟨by show 1 ≤ sizeLine; decide, fun q4 h4 => ?_⟩
    have P5 := P4.new (o := .lst (txV [wRule])) h4
    have g4 := ls_add (L := [wRule]) g3 h4 (Ne.symm (P4.nep h4)) ⟨by decide, by decide +kernel⟩
    have s4 := smN (o := .lst (txV [wRule])) s3 h4
    refine ⟨by show 4 ≤ sizeLine; decide, fun q5 h5 => ?_⟩
    have P6 := P5.new (o := .lst [.ref q1, .ref q2, .ref q3, .ref q4]) h5
    have g5 := ls_new (o := .lst [.ref q1, .ref q2, .ref q3, .ref q4]) g4 h5
    have s5 := smN (o := .lst [.ref q1, .ref q2, .ref q3, .ref q4]) s4 h5
    refine ⟨p, l, q5, n + 1, [.ref q1, .ref q2, .ref q3, .ref q4], rfl, upd_same, Ne.symm (P5.nep h5), by show 1 ≤ 4; decide, by show 4 ≤ 1000; decide, by omega, P6, fun jj v H2 ev B2 P7 => ?_⟩
    obtain ⟨qm, M, rfl, nqm, hqm, lm, pm⟩ := g5 v (List.mem_of_getElem? ev)
    have hqm2 := B2 _ _ nqm hqm
    have hq2 := B2 _ _ nqp (s5 _ _ hq1)
    have B02 := (B1.trans (But.of s5)).trans B2
    clear g1 g2 g3 g4 g5 s1 s2 s3 s4 s5 P2 P3 P4 P5 P6 h1 h2 h3 h4 h5 hqm hq1 hq
    have lX : ∀ k : Nat, k ≤ 1000 → k ≤ sizeLine := fun k h => Nat.le_trans h (by decide)
    refine ⟨_, rfl, rfl, _, rfl, ?_⟩
    by_cases a0 : a = 0
    · refine iteB1 (by rw [a0]; decide) ?_
      subst a0
      refine ⟨_, rfl, p, l, n + 2, rfl, by omega, P7, fun t H3 bt B3 P8 => ?_⟩
      have hqm3 := B3 _ _ nqm hqm2
      have hq3 := B3 _ _ nqp hq2
      have B03 := B02.trans B3
      refine ⟨by show 1 ≤ sizeLine; decide, fun c1 k1 => ?_⟩
      have s1 := smN (o := .lst (txV [t])) (Same.refl H3) k1
      have m1 : (upd H3 c1 (.lst (txV [t]))) c1 = some (.lst (txV [t])) := upd_same
      have eu : upd H3 c1 (.lst [.str (S t)]) = upd H3 c1 (.lst (txV [t])) := rfl
      rw [eu]
      generalize upd H3 c1 (.lst (txV [t])) = Ha at s1 m1
      refine ⟨_, rfl, 1, rfl, q, _, rfl, SqL.of (s1 _ _ hq3), fun c2 k2 => ?_⟩
      rw [show (some (1 : Int)) = some ((1 : Nat) : Int) from rfl, cutV_from]
      have s2 := smN (o := .lst (txV (L.drop 1))) s1 k2
      have m2 : (upd Ha c2 (.lst (txV (L.drop 1)))) c2 = some (.lst (txV (L.drop 1))) := upd_same
      have m12 := smN (o := .lst (txV (L.drop 1))) (Same.refl Ha) k2 _ _ m1
      generalize upd Ha c2 (.lst (txV (L.drop 1))) = Hb at s2 m2 m12
      have ld : (L.drop 1).length ≤ 15 := by rw [List.length_drop]; omega
      refine ⟨c1, c2, _, _, rfl, rfl, m12, m2, lX _ (by rw [txV_len, txV_len]; show 1 + _ ≤ 1000; omega), fun c3 k3 => ?_⟩
      rw [show txV [t] ++ txV (L.drop 1) = txV ([t] ++ L.drop 1) by simp [txV]]
      have s3 := smN (o := .lst (txV ([t] ++ L.drop 1))) s2 k3
      have m3 : (upd Hb c3 (.lst (txV ([t] ++ L.drop 1)))) c3 = some (.lst (txV ([t] ++ L.drop 1))) := upd_same
      generalize upd Hb c3 (.lst (txV ([t] ++ L.drop 1))) = Hc at s3 m3
      refine ⟨_, rfl, c3, qm, _, _, rfl, rfl, m3, s3 _ _ hqm3, lX _ (by rw [txV_len, txV_len, List.length_append]; show 1 + _ + _ ≤ 1000; omega), fun c4 k4 => ?_⟩
      rw [show txV ([t] ++ L.drop 1) ++ txV M = txV ([t] ++ (L.drop 1 ++ M)) by simp [txV]]
      have s4 := smN (o := .lst (txV ([t] ++ (L.drop 1 ++ M)))) s3 k4
      have m4 : (upd Hc c4 (.lst (txV ([t] ++ (L.drop 1 ++ M))))) c4 = some (.lst (txV ([t] ++ (L.drop 1 ++ M)))) := upd_same
      have n4 := (P8.same s3).nep k4
      generalize upd Hc c4 (.lst (txV ([t] ++ (L.drop 1 ++ M)))) = Hd at s4 m4
      refine ⟨by show 2 ≤ sizeLine; decide, fun c5 k5 => ?_⟩
      have s5 := smN (o := .tup [.ref c4, .int 0]) s4 k5
      refine ret c5 c4 ([t] ++ (L.drop 1 ++ M)) 0 _ upd_same (Ne.symm n4) (smN (Same.refl _) k5 _ _ m4) (by simp) (by simp only [List.length_append, List.length_singleton]; omega) (fun x hx => ?_) (flt_first bt) (B03.trans (But.of s5)) ((P8.same s5).mono (by omega))
      rcases List.mem_append.mp hx with h | h
      · rw [List.mem_singleton.mp h]; exact plain_badF bt
      · rcases List.mem_append.mp h with h | h
        · exact pA x (List.mem_of_mem_drop h)
        · exact pm x h
    · refine iteB0 (decide_eq_false fun z => a0 (by have := V.int.inj z; omega)) ?_
      refine ⟨fun σ H' => ∃ N, σ = [some (.ref p), some (.ref q), some (.int ((1 + rs.length : Nat) : Int)), some (.int (a : Nat)), some (.ref qm)] ∧ But p H2 H' ∧ PenN H' p l N ∧ N ≤ n + 3 ∧ N < 80000, ?_, ?_⟩
      · refine ⟨_, rfl, _, rfl, _, _, rfl, rfl, _, rfl, ?_⟩
        refine ite2 (fun cG => ?_) (fun cG => ?_)
        · refine ⟨_, rfl, p, l, 2, n + 2, rfl, by decide, by decide, by omega, P7, fun d1 H3 hd2 hd3 P8 B3 => ⟨rfl, _, rfl, ?_⟩⟩
          refine ite2 (fun _ => ?_) (fun _ => ?_)
          · have hqm3 := B3 _ _ nqm hqm2
            have hq3 := B3 _ _ nqp hq2
            refine ⟨_, rfl, _, rfl, (a : Int), rfl, q, _, rfl, SqL.of hq3, fun c1 k1 => ?_⟩
            rw [cutV_to]
            have s1 := smN (o := .lst (txV (L.take a))) (Same.refl H3) k1
            have m1 : (upd H3 c1 (.lst (txV (L.take a)))) c1 = some (.lst (txV (L.take a))) := upd_same
            have Pa := P8.same s1
            have nc1 := P8.nep k1
            generalize upd H3 c1 (.lst (txV (L.take a))) = Ha at s1 m1 Pa
            have hq4 := s1 _ _ hq3
            have hqm4 := s1 _ _ hqm3
            have B34 := B3.trans (But.of s1)
            rw [show ("rule 1 a" : Str) = S rule1 by decide +kernel]
            refine ⟨by show 1 ≤ sizeLine; decide, fun c2 k2 => ?_⟩
            have s2 := smN (o := .lst (txV [rule1])) (Same.refl Ha) k2
            have m2 : (upd Ha c2 (.lst (txV [rule1]))) c2 = some (.lst (txV [rule1])) := upd_same
            have eu : upd Ha c2 (.lst [.str (S rule1)]) = upd Ha c2 (.lst (txV [rule1])) := rfl
            rw [eu]
            generalize upd Ha c2 (.lst (txV [rule1])) = Hb at s2 m2
            have lt : (L.take a).length ≤ 15 := by rw [List.length_take]; omega
            have ld : (L.drop a).length ≤ 15 := by rw [List.length_drop]; omega
            refine ⟨c1, c2, _, _, rfl, rfl, s2 _ _ m1, m2, lX _ (by rw [txV_len, txV_len]; show _ + 1 ≤ 1000; omega), fun c3 k3 => ?_⟩
            rw [show txV (L.take a) ++ txV [rule1] = txV (L.take a ++ [rule1]) by simp [txV]]
            have s3 := smN (o := .lst (txV (L.take a ++ [rule1]))) s2 k3
            have m3 : (upd Hb c3 (.lst (txV (L.take a ++ [rule1])))) c3 = some (.lst (txV (L.take a ++ [rule1]))) := upd_same
            generalize upd Hb c3 (.lst (txV (L.take a ++ [rule1]))) = Hc at s3 m3
            refine ⟨_, rfl, _, rfl, (a : Int), rfl, q, _, rfl, SqL.of (s3 _ _ hq4), fun c4 k4 => ?_⟩
            rw [cutV_from]
            have s4 := smN (o := .lst (txV (L.drop a))) s3 k4
            have m4 : (upd Hc c4 (.lst (txV (L.drop a)))) c4 = some (.lst (txV (L.drop a))) := upd_same
            have m34 := smN (o := .lst (txV (L.drop a))) (Same.refl Hc) k4 _ _ m3
            generalize upd Hc c4 (.lst (txV (L.drop a))) = Hd at s4 m4 m34
            refine ⟨c3, c4, _, _, rfl, rfl, m34, m4, lX _ (by rw [txV_len, txV_len, List.length_append]; show _ + 1 + _ ≤ 1000; omega), fun c5 k5 => ?_⟩
            rw [show txV (L.take a ++ [rule1]) ++ txV (L.drop a) = txV (L.take a ++ [rule1] ++ L.drop a) by simp [txV]]
            have s5 := smN (o := .lst (txV (L.take a ++ [rule1] ++ L.drop a))) s4 k5
            have m5 : (upd Hd c5 (.lst (txV (L.take a ++ [rule1] ++ L.drop a)))) c5 = some (.lst (txV (L.take a ++ [rule1] ++ L.drop a))) := upd_same
            generalize upd Hd c5 (.lst (txV (L.take a ++ [rule1] ++ L.drop a))) = He at s5 m5
            refine ⟨_, rfl, c5, qm, _, _, rfl, rfl, m5, s5 _ _ hqm4, lX _ (by rw [txV_len, txV_len, List.length_append, List.length_append]; show _ + 1 + _ + _ ≤ 1000; omega), fun c6 k6 => ?_⟩
            rw [show txV (L.take a ++ [rule1] ++ L.drop a) ++ txV M = txV (L.take a ++ [rule1] ++ (L.drop a ++ M)) by simp [txV]]
            have s6 := smN (o := .lst (txV (L.take a ++ [rule1] ++ (L.drop a ++ M)))) s5 k6
            have m6 : (upd He c6 (.lst (txV (L.take a ++ [rule1] ++ (L.drop a ++ M))))) c6 = some (.lst (txV (L.take a ++ [rule1] ++ (L.drop a ++ M)))) := upd_same
            have n6 := (Pa.same s5).nep k6
            generalize upd He c6 (.lst (txV (L.take a ++ [rule1] ++ (L.drop a ++ M)))) = Hf at s6 m6
            refine ⟨_, rfl, by show 2 ≤ sizeLine; decide, fun c7 k7 => ?_⟩
            have s7 := smN (o := .tup [.ref c6, .int (a : Nat)]) s6 k7
            refine ret c7 c6 (L.take a ++ [rule1] ++ (L.drop a ++ M)) a _ upd_same (Ne.symm n6) (smN (Same.refl _) k7 _ _ m6) (by simp) (by simp only [List.length_append, List.length_singleton]; omega) (fun x hx => ?_) (fR a _ (by have := of_decide_eq_true cG; omega) (by omega)) ((B02.trans B34).trans (But.of s7)) ((Pa.same s7).mono (by omega))
            rcases List.mem_append.mp hx with h | h
            · rcases List.mem_append.mp h with h | h
              · exact pA x (List.mem_of_mem_take h)
              · rw [List.mem_singleton.mp h]; exact by decide +kernel
            · rcases List.mem_append.mp h with h | h
              · exact pA x (List.mem_of_mem_drop h)
              · exact pm x h
          · exact ⟨n + 2 + 1, rfl, B3, P8, by omega, by omega⟩
        · exact ⟨n + 1 + 1, rfl, But.refl, P7, by omega, by omega⟩
      · rintro σ H3 ⟨N, rfl, B3, P8, lN, lN2⟩
        have hqm3 := B3 _ _ nqm hqm2
        have hq3 := B3 _ _ nqp hq2
        refine ⟨_, rfl, _, rfl, (a : Int), rfl, q, _, rfl, SqL.of hq3, fun c1 k1 => ?_⟩
        rw [cutV_to]
        have s1 := smN (o := .lst (txV (L.take a))) (Same.refl H3) k1
        have m1 : (upd H3 c1 (.lst (txV (L.take a)))) c1 = some (.lst (txV (L.take a))) := upd_same
        have Pa := P8.same s1
        have nc1 := P8.nep k1
        generalize upd H3 c1 (.lst (txV (L.take a))) = Ha at s1 m1 Pa
        refine ⟨_, rfl, p, l, N, rfl, by omega, Pa, fun t H4 bt B4 P9 => ?_⟩
        have m1 := B4 _ _ (Ne.symm nc1) m1
        have hq4 := B4 _ _ nqp (s1 _ _ hq3)
        have hqm4 := B4 _ _ nqm (s1 _ _ hqm3)
        have B34 := (B3.trans (But.of s1)).trans B4
        refine ⟨by show 1 ≤ sizeLine; decide, fun c2 k2 => ?_⟩
        have s2 := smN (o := .lst (txV [t])) (Same.refl H4) k2
        have m2 : (upd H4 c2 (.lst (txV [t]))) c2 = some (.lst (txV [t])) := upd_same
        have eu : upd H4 c2 (.lst [.str (S t)]) = upd H4 c2 (.lst (txV [t])) := rfl
        rw [eu]
        generalize upd H4 c2 (.lst (txV [t])) = Hb at s2 m2
        have lt : (L.take a).length ≤ 15 := by rw [List.length_take]; omega
        have ld : (L.drop a).length ≤ 15 := by rw [List.length_drop]; omega
        refine ⟨c1, c2, _, _, rfl, rfl, s2 _ _ m1, m2, lX _ (by rw [txV_len, txV_len]; show _ + 1 ≤ 1000; omega), fun c3 k3 => ?_⟩
        rw [show txV (L.take a) ++ txV [t] = txV (L.take a ++ [t]) by simp [txV]]
        have s3 := smN (o := .lst (txV (L.take a ++ [t]))) s2 k3
        have m3 : (upd Hb c3 (.lst (txV (L.take a ++ [t])))) c3 = some (.lst (txV (L.take a ++ [t]))) := upd_same
        generalize upd Hb c3 (.lst (txV (L.take a ++ [t]))) = Hc at s3 m3
        refine ⟨_, rfl, _, rfl, (a : Int), rfl, q, _, rfl, SqL.of (s3 _ _ hq4), fun c4 k4 => ?_⟩
        rw [cutV_from]
        have s4 := smN (o := .lst (txV (L.drop a))) s3 k4
        have m4 : (upd Hc c4 (.lst (txV (L.drop a)))) c4 = some (.lst (txV (L.drop a))) := upd_same
        have m34 := smN (o := .lst (txV (L.drop a))) (Same.refl Hc) k4 _ _ m3
        generalize upd Hc c4 (.lst (txV (L.drop a))) = Hd at s4 m4 m34
        refine ⟨c3, c4, _, _, rfl, rfl, m34, m4, lX _ (by rw [txV_len, txV_len, List.length_append]; show _ + 1 + _ ≤ 1000; omega), fun c5 k5 => ?_⟩
        rw [show txV (L.take a ++ [t]) ++ txV (L.drop a) = txV (L.take a ++ [t] ++ L.drop a) by simp [txV]]
        have s5 := smN (o := .lst (txV (L.take a ++ [t] ++ L.drop a))) s4 k5
        have m5 : (upd Hd c5 (.lst (txV (L.take a ++ [t] ++ L.drop a)))) c5 = some (.lst (txV (L.take a ++ [t] ++ L.drop a))) := upd_same
        generalize upd Hd c5 (.lst (txV (L.take a ++ [t] ++ L.drop a))) = He at s5 m5
        refine ⟨_, rfl, c5, qm, _, _, rfl, rfl, m5, s5 _ _ hqm4, lX _ (by rw [txV_len, txV_len, List.length_append, List.length_append]; show _ + 1 + _ + _ ≤ 1000; omega), fun c6 k6 => ?_⟩
        rw [show txV (L.take a ++ [t] ++ L.drop a) ++ txV M = txV (L.take a ++ [t] ++ (L.drop a ++ M)) by simp [txV]]
        have s6 := smN (o := .lst (txV (L.take a ++ [t] ++ (L.drop a ++ M)))) s5 k6
        have m6 : (upd He c6 (.lst (txV (L.take a ++ [t] ++ (L.drop a ++ M))))) c6 = some (.lst (txV (L.take a ++ [t] ++ (L.drop a ++ M)))) := upd_same
        have n6 := (P9.same s5).nep k6
        generalize upd He c6 (.lst (txV (L.take a ++ [t] ++ (L.drop a ++ M)))) = Hf at s6 m6
        refine ⟨_, rfl, by show 2 ≤ sizeLine; decide, fun c7 k7 => ?_⟩
        have s7 := smN (o := .tup [.ref c6, .int (a : Nat)]) s6 k7
        refine ret c7 c6 (L.take a ++ [t] ++ (L.drop a ++ M)) a _ upd_same (Ne.symm n6) (smN (Same.refl _) k7 _ _ m6) (by simp) (by simp only [List.length_append, List.length_singleton]; omega) (fun x hx => ?_) (fT a t _ (by omega) (by omega) bt) ((B02.trans B34).trans (But.of s7)) ((P9.same s7).mono (by omega))
        rcases List.mem_append.mp hx with h | h
        · rcases List.mem_append.mp h with h | h
          · exact pA x (List.mem_of_mem_take h)
          · rw [List.mem_singleton.mp h]; exact plain_bad bt
        · rcases List.mem_append.mp h with h | h
          · exact pA x (List.mem_of_mem_drop h)
          · exact pm x h
end
end Fb
set_option maxRecDepth 100000
set_option maxHeartbeats 4000000
namespace Fb
open PySem PySem.Spec PyProof.Rows L2
open SX (S)
def qLaw : Str := "law" ++ ".<locals>." ++ "<lambda>"
theorem tabs_lst {Tb : List (Addr × Str)} {H H' : Hp} {p : Addr} {xs : List V} (t : LamX.Tabs Tb H) (e : H p = some (.lst xs)) (b : But p H H') : LamX.Tabs Tb H' := by
  intro x hx
  obtain ⟨ps, h1, h2, h3⟩ := t x hx
  refine ⟨ps, b _ _ (fun z => ?_) h1, h2, fun pos cv hc => ?_⟩
  · rw [z, e] at h1; cases h1
  · obtain ⟨c, e1, e2⟩ := h3 pos cv hc
    refine ⟨c, e1, b _ _ (fun z => ?_) e2⟩
    rw [z, e] at e2
    unfold LamX.CodeO at e2
    cases e2
theorem tabs_but {Tb : List (Addr × Str)} {H H' : Hp} {p l : Addr} {n : Nat} (t : LamX.Tabs Tb H) (hP : PenN H p l n) (b : But p H H') : LamX.Tabs Tb H' := by
  obtain ⟨cs, a, r, e, _⟩ := hP
  exact tabs_lst t e b
theorem XF.exm {K : PySem.W.Frag} {mg : Str → Option Value} {fe C : Addr} {x : Str} (T : XF K mg fe x C) (hc : (PySem.W.clsIn K fe).isSome = true) (ht : PySem.W.typeIn K (.ref fe) = some (.type "type")) (hs : PySem.W.subIn K (.ref fe) (.type "BaseException") = some true) : PySem.W.exmOne K (.ref C) (.ref fe) = some true := by
  unfold PySem.W.exmOne
  rw [hs, if_pos (by simp)]
  unfold PySem.W.kitCls
  have e2 : ((PySem.W.clsIn K fe).isSome && PySem.W.typeIn K (.ref fe) == some (.type "type")) = true := by
    rw [hc, ht] <;> rfl
  show (if ((PySem.W.clsIn K fe).isSome && PySem.W.typeIn K (.ref fe) == some (.type "type")) = true then PySem.W.subIn K (.ref C) (.ref fe) else none) = _
  rw [if_pos e2]
  show PySem.W.mroIn K C (.ref fe) = _
  rw [T.mro]
  simp
/-- a rule of two -/
theorem callR_or {X : Cx} {f : Value} {r1 r2 : List V → Hp → VK → Prop} (h1 : CallR X f r1) (h2 : CallR X f r2) : CallR X f (fun xs H Q => r1 xs H Q ∨ r2 xs H Q) := fun pins s σ H xs us Q I r q => by
  rcases q with q | q
  · exact h1 pins s σ H xs us Q I r q
  · exact h2 pins s σ H xs us Q I r q
theorem pe_weak {X : Cx} {e : Expr} {te : TE} (h : PE X e te) : PE X e (fun σ H Q => ∃ Q' : VK, te σ H Q' ∧ ∀ v H1, Q' v H1 → Q v H1) :=
  ⟨fun pins s σ H Q I ⟨Q', h1, h2⟩ => wpAny_mono (h.run pins s σ H Q' I h1) (fun u s1 ⟨v, H1, I1, r, q⟩ => ⟨v, H1, I1, r, h2 _ _ q⟩) fun _ _ z => z⟩
/-- the error that is heard -/
def TTe (z : Pz) (Q : VK) : XK := fun cls d H' => ∃ (dd : Addr) (k : Nat), cls = .ref z.cNoText ∧ d = some dd ∧ H' dd = some (.xd [("line", .int (k : Nat))]) ∧ ∀ a', H' a' = none → Q (.int (k : Nat)) (upd H' a' (ExR cls d a'))
def TTc (z : Pz) : (XK → Hp → VK → Prop) → Hp → VK → Prop := fun tl H Q => tl (TTe z Q) H (fun _ _ => False)
section
variable {z : Pz} {w : Lz}
theorem ok_Lheard {X : Cx} {q : Str} {cdv : Value} (T : TxL X.K X.mg z w) : LamX.GivesTo X ["_law_ask", "_law_caught", "e"] "_law_heard" (defScope s_Lheard) w.a_Lheard cdv (defBody s_Lheard) "_law_ask" q (TTc z) := by
  intro f c' s H Q tl act hc h
  refine ⟨_, (pss_cons (ps_set (i := 1) sc_Lheard.nd rfl (Or.inl rfl) pe_non)
    (pss_cons (ps_try_hold (i := 2) (j := 1) (tb := fun W D σ H => ∃ (Ech : XK) (Q' : VK), (∀ cls d σ' H', Ech cls d H' → W cls d σ' H') ∧ σ[0]? = some (some (.ref f)) ∧ H c' = some (LamX.CodeO c' q) ∧ tl Ech H Q' ∧ ∀ v H1, Q' v H1 → False)
      rfl rfl rfl sc_Lheard.nd rfl rfl rfl rfl ⟨rfl, by decide, .inl T.xFallenError⟩ LamX.takes0 rfl rfl (fun W pn xe tk _ => ?_))
    (pss_len (pss_one (ps_ret (pe_ifExp (pt_val (pe_callB (callR_or call_isB call_isi) (by rfl) T.n_isinstance boot_isinstance (pa_cons (pv 1) (pa_cons (pe_glob (v := .ref z.cNoText) rfl T.xNoText.g rfl) pa_nil)))) (pe_xar (pv 1)) pe_non)))))), ?_⟩
  · refine ⟨fun pins s' σ H' D I h' => ?_⟩
    obtain ⟨Ech, Q', hW, h1, h2, h3, h4⟩ := h'
    refine PSs.run (pss_one (ps_expr (pe_weak (act W pn xe Ech _ _ tk hW)))) pins s' σ H' D I ⟨Q', ⟨h1, h2, h3⟩, fun v H1 q => (h4 v H1 q).elim⟩
  · refine ⟨_, _, fun cls d σ' H' hE => ?_, rfl, hc, h, fun v H1 q => q.elim⟩
    obtain ⟨dd, k, rfl, rfl, hd, ret⟩ := hE
    refine ⟨true, T.xNoText.exm T.clF T.tyF T.sbF, fun _ a ha len => ?_, fun z => nomatch z⟩
    obtain ⟨a0, a1, a2, rfl⟩ : ∃ a0 a1 a2, σ' = [a0, a1, a2] := by
      have l4 : σ'.length = 3 := by
        have e : ((([] : List Nat).length + 3) : Nat) = 3 := rfl
        rw [List.length_set, List.length_set, List.length_set] at len
        exact len
      match σ', l4 with
      | [a0, a1, a2], _ => exact ⟨a0, a1, a2, rfl⟩
    have nd : dd ≠ a := ne_of_none hd ha
    have xr : XR (upd H' a (ExR (.ref z.cNoText) (some dd) a)) a z.cNoText [("line", .int (k : Nat))] := ⟨dd, upd_same, by rw [upd_ne nd]; exact hd⟩
    refine ⟨_, rfl, .inl ⟨a, z.cNoText, _, _, true, rfl, T.xNoText.xc, T.xb, .inr ⟨_, xr⟩, .own z.cNoText, by unfold PySem.W.kitOne; simp, ?_⟩⟩
    refine ⟨_, rfl, iteB1 rfl ?_⟩
    exact ⟨_, rfl, a, z.cNoText, _, _, rfl, T.xNoText.xc, T.nNoText_line, xr, rfl, ret a ha⟩
end
theorem prs_ok {A B : List Nat → Prop} {H : Hp} : ∀ {vs : List V} {rs : List (List Nat × List Nat)}, Prs A B H vs rs → ∀ r ∈ rs, A r.1 ∧ B r.2
  | [], [], .nil, r, hr => by cases hr
  | _ :: _, _ :: _, .cons h t, r, hr => by
    rcases List.mem_cons.mp hr with e | e
    · obtain ⟨_, _, _, h3, h4⟩ := h
      rw [e]
      exact ⟨h3, h4⟩
    · exact prs_ok t r e
theorem join_nl : ∀ {L : List (List Nat)}, L ≠ [] → TL.joinL [10] L ++ [10] = TL.joinL [10] (L ++ [[]])
  | [], h => absurd rfl h
  | [b], _ => by simp [TL.joinL]
  | b :: b2 :: bs, _ => by
    have ih := join_nl (L := b2 :: bs) (by simp)
    have e : TL.joinL [10] (b :: b2 :: bs) = b ++ [10] ++ TL.joinL [10] (b2 :: bs) := by simp [TL.joinL]
    have e2 : TL.joinL [10] ((b :: b2 :: bs) ++ [[]]) = b ++ [10] ++ TL.joinL [10] ((b2 :: bs) ++ [[]]) := by simp [TL.joinL]
    rw [e, e2, List.append_assoc, ih]
def NsG (p : Addr) (H : Hp) (v : V) : Prop := ∃ q ss, v = .ref q ∧ q ≠ p ∧ H q = some (.lst (nums ss)) ∧ Sz7 ss
theorem ext_out {z : Pz} {H H1 : Hp} {Q : VK} {k : Nat} (s : Same H H1) (ret : ∀ H', Same H1 H' → Q (.int (k : Nat)) H') : OutX z.cNoText "line" (.int (k : Nat)) H1 (TTe z Q) := fun d H' s' e => ⟨d, k, rfl, rfl, e, fun a' ha => ret _ (smN s' ha)⟩
def spLaw (K : PySem.W.Frag) (Tb : List (Addr × Str)) : Sp := fun vs H Q _ => ∃ (a : Addr) (ns : List Int), vs = [.ref a] ∧ SqL K H a (ns.map V.int) ∧ ns.length ≤ 63 ∧ LamX.Tabs Tb H ∧ ∀ H', Q (.bl true) H'
section
variable {P : Program} {wo : World} {K : PySem.W.Frag} {mg : Str → Option Value} {base : Heap} {z : Pz} {w : Lz}
theorem ok_law {Tb : List (Addr × Str)} {cL PL f : Addr} {oc kV doc pm ct : Value} {od an : Option Addr} {osl : Array (Option Value)} (T : TxL K mg z w)
    (lk : K.lookup f = some ⟨oc, od, .func (PySem.W.fnOf "law" "law" (defArgs s_law) (defBody s_law) (defScope s_law) .none kV doc pm an (.ref cL) ct), osl⟩) (hcd : PySem.W.codeIn K (.ref cL) "law" = true)
    (TB : LamX.TabB base mg cL PL) (hmT : (PL, qLaw) ∈ Tb) (hu : ∀ p ∈ Tb, p.1 = PL → p.2 = qLaw) :
    FnOk P wo K mg base CX0 8 f (PySem.W.fnOf "law" "law" (defArgs s_law) (defBody s_law) (defScope s_law) .none kV doc pm an (.ref cL) ct) ["_law_script"] (spLaw K Tb) := by
  obtain ⟨ocC, odC, kVC, docC, pmC, anC, cdC, ctC, oslC, efC, lkC, hcC⟩ := T.F_Lheard.ex
  have bC := T.b_Lheard
  rw [efC] at lkC bC
  refine okC lk hcd sc_law (fun {vs H Q E} h => ?_) (fun {A outer s H vs Q E} hr h => ?_)
  · obtain ⟨a, ns, rfl, _⟩ := h
    rfl
  · obtain ⟨a, ns, rfl, hS, hlen, hT, kk⟩ := h
    have hr7 : Room 7 _ := hr
    have hr5 : Room 5 _ := hr.mono (by decide)
    have hr4 : Room 4 _ := hr.mono (by decide)
    have hr2 : Room 2 _ := hr.mono (by decide)
    have hr1 : Room 1 _ := hr.mono (by decide)
    have G_Lpen : FnOk P wo K mg base CX0 1 w.a_Lpen w.d_Lpen ["_law_script"] (spPenN K) := ok_Lpen T
    have G_Lpick : FnOk P wo K mg base CX0 2 w.a_Lpick w.d_Lpick ["_law_pen_here", "_law_some"] (spPick K) := ok_Lpick T
    have G_Lparts : FnOk P wo K mg base CX0 5 w.a_Lparts w.d_Lparts ["_law_pen_here"] spPartsL := ok_Lparts T
    have G_Llines : FnOk P wo K mg base CX0 2 w.a_Llines w.d_Llines ["_law_sizes_here", "_law_rules", "_law_changes"] spLinesL := ok_Llines T
    have G_Lbent : FnOk P wo K mg base CX0 4 w.a_Lbent w.d_Lbent ["_law_pen_here", "_law_lines_here", "_law_many"] spBentL := ok_Lbent T
    have G_read_store : FnOk P wo K mg base (L2.CX P wo) 5 z.a_read_store z.d_read_store ["text"] (spReadS K z.cNoText) := ok_read_store T.toTxp
    refine ⟨_, (pss_cons (ps_set (i := 1) sc_law.nd rfl (Or.inl rfl) (pe_call G_Lpen hr1 rfl T.g_Lpen T.k_Lpen T.b_Lpen .nil pass0 (pa_cons (pv 0) pa_nil)))
      (pss_cons (ps_for PassesOwn.never rfl (pi_range1 rfl T.n_range (pa_cons pe_int pa_nil)) (pg_name (i := 2) sc_law.nd rfl (Or.inl rfl))
        (pss_cons (ps_asg (pe_call G_Lparts hr5 rfl T.g_Lparts T.k_Lparts T.b_Lparts .nil pass0 (pa_cons (pv 1) pa_nil)) (pg_tup rfl (pgs_cons (pg_name (i := 3) sc_law.nd rfl (Or.inl rfl)) (pgs_cons (pg_name (i := 4) sc_law.nd rfl (Or.inl rfl)) (pgs_cons (pg_name (i := 5) sc_law.nd rfl (Or.inl rfl)) (pgs_cons (pg_name (i := 6) sc_law.nd rfl (Or.inl rfl)) pgs_nil))))))
        (pss_cons (ps_set (i := 7) sc_law.nd rfl (Or.inl rfl) (pe_call G_Lpick hr2 rfl T.g_Lpick T.k_Lpick T.b_Lpick .nil pass0 (pa_cons (pv 1) (pa_cons (pe_lst (pa_cons (pv 3) (pa_cons (pv 3) (pa_cons (pe_lst (pa_cons pe_int pa_nil)) (pa_cons (pe_lst (pa_cons pe_int (pa_cons pe_int pa_nil))) pa_nil))))) pa_nil))))
        (pss_cons (ps_set (i := 10) sc_law.nd rfl (Or.inr rfl) (pe_call G_Llines hr2 rfl T.g_Llines T.k_Llines T.b_Llines .nil pass0 (pa_cons (pv 7) (pa_cons (pv 4) (pa_cons (pv 5) pa_nil)))))
        (pss_cons (ps_asg (pe_call G_Lbent hr4 rfl T.g_Lbent T.k_Lbent T.b_Lbent .nil pass0 (pa_cons (pv 1) (pa_cons (pv 10) (pa_cons (pe_op op_add pe_int (pe_callB call_len_seq (by rfl) T.n_len (by decide +kernel) (pa_cons (pv 4) pa_nil))) pa_nil)))) (pg_tup rfl (pgs_cons (pg_name (i := 9) sc_law.nd rfl (Or.inr rfl)) (pgs_cons (pg_name (i := 8) sc_law.nd rfl (Or.inl rfl)) pgs_nil))))
        (pss_cons (ps_if (pt_cmpR op_ne (LamX.pe_lamcall (T := Tb) (TT := TTc z) (k := 5) rfl T.g_Lheard T.k_Lheard lkC hcC bC sc_Lheard rfl (Or.inl rfl) (ok_Lheard (cdv := cdC) T) TB rfl hmT hu hr7 (LamX.lamS_by (by first | decide +kernel | kernel_rfl | rfl)) rfl (fun _ _ _ _ _ => rfl) (fun A outer s H E f c' hr => (pe_call G_read_store hr rfl T.g_read_store T.k_read_store T.b_read_store .nil (passes_call (takes_of rfl rfl rfl rfl) (fun _ _ _ _ h => h)) (pa_cons (pe_joinK (K := K) rfl pe_str (pa_cons (pv 9) pa_nil)) pa_nil)))) (pv 8) (nomark _))
          (pss_one (ps_ret pe_bl))
          pss_nil)
        (pss_cons (ps_set (i := 11) sc_law.nd rfl (Or.inr rfl) (pe_call G_Lpick hr2 rfl T.g_Lpick T.k_Lpick T.b_Lpick .nil pass0 (pa_cons (pv 1) (pa_cons (pe_lst (pa_cons pe_non (pa_cons pe_int (pa_cons pe_bl (pa_cons (pv 10) (pa_cons (pe_callTy call_tuple_of (by rfl) T.n_tuple (by decide +kernel) (pa_cons (pv 10) pa_nil)) (pa_cons pe_dnewK (pa_cons (pe_lst pa_nil) pa_nil)))))))) pa_nil))))
        (pss_cons (ps_if (pt_cmpR op_ne (LamX.pe_lamcall (T := Tb) (TT := TTc z) (k := 5) rfl T.g_Lheard T.k_Lheard lkC hcC bC sc_Lheard rfl (Or.inl rfl) (ok_Lheard (cdv := cdC) T) TB rfl hmT hu hr7 (LamX.lamS_by (by first | decide +kernel | kernel_rfl | rfl)) rfl (fun _ _ _ _ _ => rfl) (fun A outer s H E f c' hr => (pe_call G_read_store hr rfl T.g_read_store T.k_read_store T.b_read_store .nil (passes_call (takes_of rfl rfl rfl rfl) (fun _ _ _ _ h => h)) (pa_cons (pv 11) pa_nil)))) pe_int (nomark _))
          (pss_one (ps_ret pe_bl))
          pss_nil)
        (pss_one (ps_if (pt_cmpR op_ne (LamX.pe_lamcall (T := Tb) (TT := TTc z) (k := 5) rfl T.g_Lheard T.k_Lheard lkC hcC bC sc_Lheard rfl (Or.inl rfl) (ok_Lheard (cdv := cdC) T) TB rfl hmT hu hr7 (LamX.lamS_by (by first | decide +kernel | kernel_rfl | rfl)) rfl (fun _ _ _ _ _ => rfl) (fun A outer s H E f c' hr => (pe_call G_read_store hr rfl T.g_read_store T.k_read_store T.b_read_store .nil (passes_call (takes_of rfl rfl rfl rfl) (fun _ _ _ _ h => h)) (pa_cons (pe_op op_add_str (pe_joinK (K := K) rfl pe_str (pa_cons (pv 10) pa_nil)) pe_str) pa_nil)))) (pe_callB call_len_seq (by rfl) T.n_len (by decide +kernel) (pa_cons (pv 10) pa_nil)) (nomark _))
          (pss_one (ps_ret pe_bl))
          pss_nil))))))))))
      (pss_one (ps_ret pe_bl)))), ?_⟩
    refine ⟨_, rfl, a, ns, rfl, hS, hlen, fun p l H1 hp1 hl1 s1 P1 => ?_⟩
    refine ⟨8, rfl, by decide, by decide, for_range (n := 8) (fun i σ H' => PenN H' p l (1000 * i) ∧ LamX.Tabs Tb H' ∧ ∃ x2 x3 x4 x5 x6 x7 x8 x9 x10 x11 : Option V, σ = [some (.ref a), some (.ref p), x2, x3, x4, x5, x6, x7, x8, x9, x10, x11])
      ⟨P1, hT.ext s1, none, none, none, none, none, none, none, none, none, none, rfl⟩ ?_ ?_⟩
    · rintro i σ H2 hi ⟨P2, T2, x2, x3, x4, x5, x6, x7, x8, x9, x10, x11, rfl⟩
      refine ⟨_, rfl, p, l, 1000 * i, rfl, by omega, P2, fun t qa qb qc qd ss rs cs xs us ws H3 ht hqa oss nap hqb nbp Rb lr hqc ncp Rc lc hqd ndp B3 P3 => ?_⟩
      have T3 := tabs_but T2 P2 B3
      refine ⟨t, _, rfl, SqT.of ht, rfl, ?_⟩
      refine ⟨_, _, rfl, ?_⟩
      refine ⟨_, _, rfl, ?_⟩
      refine ⟨_, _, rfl, ?_⟩
      refine ⟨_, _, rfl, ?_⟩
      refine ⟨rfl, ?_⟩
      -- the sizes that are written
      refine ⟨_, rfl, _, rfl, _, rfl, by show 1 ≤ sizeLine; decide, fun o1 k1 => ?_⟩
      have s1 := smN (o := .lst (nums [0])) (Same.refl H3) k1
      have m1 : (upd H3 o1 (.lst (nums [0]))) o1 = some (.lst (nums [0])) := upd_same
      have no1 := P3.nep k1
      have Pa := P3.same s1
      have eu1 : upd H3 o1 (.lst [.int 0]) = upd H3 o1 (.lst (nums [0])) := rfl
      rw [eu1]
      generalize upd H3 o1 (.lst (nums [0])) = Ha at s1 m1 Pa
      refine ⟨by show 2 ≤ sizeLine; decide, fun o2 k2 => ?_⟩
      have s2 := smN (o := .lst (nums [7, 7])) (Same.refl Ha) k2
      have m2 : (upd Ha o2 (.lst (nums [7, 7]))) o2 = some (.lst (nums [7, 7])) := upd_same
      have no2 := Pa.nep k2
      have Pb := Pa.same s2
      have eu2 : upd Ha o2 (.lst [.int 7, .int 7]) = upd Ha o2 (.lst (nums [7, 7])) := rfl
      rw [eu2]
      generalize upd Ha o2 (.lst (nums [7, 7])) = Hb at s2 m2 Pb
      refine ⟨by show 4 ≤ sizeLine; decide, fun o3 k3 => ?_⟩
      have s3 := smN (o := .lst [.ref qa, .ref qa, .ref o1, .ref o2]) (Same.refl Hb) k3
      have m3 : (upd Hb o3 (.lst [.ref qa, .ref qa, .ref o1, .ref o2])) o3 = some (.lst [.ref qa, .ref qa, .ref o1, .ref o2]) := upd_same
      have no3 := Pb.nep k3
      have Pc := Pb.same s3
      generalize upd Hb o3 (.lst [.ref qa, .ref qa, .ref o1, .ref o2]) = Hc at s3 m3 Pc
      have sabc := (s1.trans s2).trans s3
      have all : ∀ v ∈ ([.ref qa, .ref qa, .ref o1, .ref o2] : List V), NsG p Hc v := fun v hv => by
        have ga : NsG p Hc (.ref qa) := ⟨qa, ss, rfl, nap, sabc _ _ hqa, oss.1, oss.2.1, fun n hn => Nat.le_trans (oss.2.2 n hn).2 (by decide)⟩
        simp only [List.mem_cons, List.not_mem_nil, or_false] at hv
        rcases hv with rfl | rfl | rfl | rfl
        · exact ga
        · exact ga
        · exact ⟨o1, [0], rfl, Ne.symm no1, (s2.trans s3) _ _ m1, by unfold Sz7; decide⟩
        · exact ⟨o2, [7, 7], rfl, Ne.symm no2, s3 _ _ m2, by unfold Sz7; decide⟩
      refine ⟨p, l, o3, 1000 * i + 700, _, rfl, m3, Ne.symm no3, by show 1 ≤ 4; decide, by show 4 ≤ 1000; decide, by omega, Pc, fun j v H5 ev B5 P5 => ?_⟩
      obtain ⟨qo, so, rfl, nqo, hqo, oso⟩ := all v (List.mem_of_getElem? ev)
      have hqo5 := B5 _ _ nqo hqo
      have B35 := (But.of sabc).trans B5
      have hqb5 := B35 _ _ nbp hqb
      have hqc5 := B35 _ _ ncp hqc
      have Rb5 := Rb.keep (keepP P3 B35)
      have Rc5 := Rc.keep (keepP P3 B35)
      have T5 := tabs_but (T3.ext sabc) Pc B5
      have lub := plen Rb5
      have orb := prs_ok Rb5
      have orc := prs_ok Rc5
      clear all ev hqo s1 s2 s3 m1 m2 m3 sabc Pa Pb Pc hqa hqb hqc hqd Rb Rc B35 B5 B3 P3 k1 k2 k3 eu1 eu2
      -- the lines
      refine ⟨_, rfl, _, rfl, _, rfl, qo, qb, qc, so, us, rs, ws, cs, rfl, hqo5, oso, hqb5, Rb5, lr, hqc5, Rc5, lc, fun qL H6 s6 nL hqL => ?_⟩
      have P6 := P5.same s6
      have T6 := T5.ext s6
      have nLp := P5.nep nL
      have hqb6 := s6 _ _ hqb5
      have eN : V.int ((1 : Int) + (us.length : Nat)) = .int ((1 + rs.length : Nat) : Int) := by rw [lub]; rfl
      refine ⟨_, rfl, _, rfl, _, rfl, qb, _, rfl, .inl (SqL.of hqb6), _, _, rfl, rfl, ?_⟩
      refine ⟨p, l, qL, 1000 * i + 701, so, rs, cs, congrArg (fun e => [V.ref p, V.ref qL, e]) eN, by omega, P6, Ne.symm nLp, hqL, oso, orb, orc, lr, lc, fun t2 D B a H7 ht2 nDp hD nB lB pB fB B7 P7 => ?_⟩
      have T7 := tabs_but T6 P6 B7
      have hqL7 := B7 _ _ (Ne.symm nLp) hqL
      refine ⟨t2, _, rfl, SqT.of ht2, rfl, ?_⟩
      refine ⟨_, _, rfl, ?_⟩
      refine ⟨_, _, rfl, ?_⟩
      refine ⟨rfl, ?_⟩
      -- bent lines
      refine ⟨T7, fun H8 x8 T8 => ?_⟩
      have hD8 : H8 D = some (.lst (txV B)) := x8 _ _ hD (fun ps q => nomatch q)
      have P8 := PenN.ext x8 P7
      have hqL8 : H8 qL = some (.lst (txV (allLines so rs cs))) := x8 _ _ hqL7 (fun ps q => nomatch q)
      have lJ := plain_len pB nB
      refine ⟨rfl, _, rfl, "\n", D, B.map S, rfl, rfl, .inl (SqL.of hD8), ?_, ?_⟩
      · have ps := plain_sum pB
        rw [SX.lens]
        show (B.map List.length).sum + (B.map S).length * 1 ≤ sizeLine
        rw [List.length_map]
        exact Nat.le_trans (show _ ≤ 10000 by omega) (by decide)
      rw [show ("\n" : Str) = S [10] by decide +kernel, SX.join_S]
      refine .inl ⟨_, a, rfl, by omega, by rw [lns_join nB (plain_10 pB)]; exact fB, ext_out (Same.refl _) fun H9 s9 => ?_⟩
      have P9 := P8.same s9
      have T9 := T8.ext s9
      have hqL9 := s9 _ _ hqL8
      refine ⟨_, rfl, rfl, _, rfl, iteB0 (by rw [decide_eq_true rfl] <;> rfl) ?_⟩
      clear hD hD8 x8 s9 hqL8 P8 T8 P7 T7 hqL7 B7 ht2 P6 T6 P5 T5 s6 lJ
      -- what is no text
      refine ⟨_, rfl, _, rfl, _, rfl, qL, _, rfl, .inl ⟨SqL.of hqL9, fun u1 v1 => ?_⟩⟩
      have s1 := smN (o := .tup (txV (allLines so rs cs))) (Same.refl H9) v1
      have m1 : (upd H9 u1 (.tup (txV (allLines so rs cs)))) u1 = some (.tup (txV (allLines so rs cs))) := upd_same
      have n1 := P9.nep v1
      have Pa := P9.same s1
      generalize upd H9 u1 (.tup (txV (allLines so rs cs))) = Ha at s1 m1 Pa
      refine fun u2 v2 => ?_
      have s2 := smN (o := .dK []) (Same.refl Ha) v2
      have m2 : (upd Ha u2 (.dK [])) u2 = some (.dK []) := upd_same
      have n2 := Pa.nep v2
      have Pb := Pa.same s2
      generalize upd Ha u2 (.dK []) = Hb at s2 m2 Pb
      refine ⟨by show 0 ≤ sizeLine; decide, fun u3 v3 => ?_⟩
      have s3 := smN (o := .lst []) (Same.refl Hb) v3
      have m3 : (upd Hb u3 (.lst [])) u3 = some (.lst []) := upd_same
      have n3 := Pb.nep v3
      have Pc := Pb.same s3
      generalize upd Hb u3 (.lst []) = Hc at s3 m3 Pc
      refine ⟨by show 7 ≤ sizeLine; decide, fun u4 v4 => ?_⟩
      have s4 := smN (o := .lst [.non, .int 7, .bl true, .ref qL, .ref u1, .ref u2, .ref u3]) (Same.refl Hc) v4
      have m4 : (upd Hc u4 (.lst [.non, .int 7, .bl true, .ref qL, .ref u1, .ref u2, .ref u3])) u4 = some (.lst [.non, .int 7, .bl true, .ref qL, .ref u1, .ref u2, .ref u3]) := upd_same
      have n4 := Pc.nep v4
      have Pd := Pc.same s4
      generalize upd Hc u4 (.lst [.non, .int 7, .bl true, .ref qL, .ref u1, .ref u2, .ref u3]) = Hd at s4 m4 Pd
      have sabcd := ((s1.trans s2).trans s3).trans s4
      refine ⟨p, l, u4, 1000 * i + 705, _, rfl, m4, Ne.symm n4, by show 1 ≤ 7; decide, by show 7 ≤ 1000; decide, by omega, Pd, fun j v H10 ev B10 P10 => ?_⟩
      have T10 := tabs_but (T9.ext sabcd) Pd B10
      have hqL10 := B10 _ _ (Ne.symm nLp) (sabcd _ _ hqL9)
      have e1 := B10 _ _ (Ne.symm n1) ((((s2.trans s3).trans s4)) _ _ m1)
      have e2 := B10 _ _ (Ne.symm n2) (((s3.trans s4)) _ _ m2)
      have e3 := B10 _ _ (Ne.symm n3) (s4 _ _ m3)
      have odd : ∀ H', LamX.ExtN H10 H' → ∃ t, TyX K H' v t ∧ PySem.W.kitOne K t (.type "str") = some false := fun H' x' => by
        have hj := (List.getElem?_eq_some_iff.mp ev).1
        have : j = 0 ∨ j = 1 ∨ j = 2 ∨ j = 3 ∨ j = 4 ∨ j = 5 ∨ j = 6 := by
          have : j < 7 := hj
          omega
        rcases this with rfl | rfl | rfl | rfl | rfl | rfl | rfl <;> cases ev
        · exact ⟨_, .base .non, kit_ty (by decide +kernel)⟩
        · exact ⟨_, .base (.int _), kit_ty (by decide +kernel)⟩
        · exact ⟨_, .base (.bl _), kit_ty (by decide +kernel)⟩
        · exact ⟨_, .base (.lst (x' _ _ hqL10 (fun ps q => nomatch q))), kit_ty (by decide +kernel)⟩
        · exact ⟨_, .base (.tup (x' _ _ e1 (fun ps q => nomatch q))), kit_ty (by decide +kernel)⟩
        · exact ⟨_, .base (.dK (x' _ _ e2 (fun ps q => nomatch q))), kit_ty (by decide +kernel)⟩
        · exact ⟨_, .base (.lst (x' _ _ e3 (fun ps q => nomatch q))), kit_ty (by decide +kernel)⟩
      clear m1 m2 m3 m4 s1 s2 s3 s4 e1 e2 e3 ev Pa Pb Pc sabcd
      refine ⟨T10, fun H11 x11 T11 => ?_⟩
      obtain ⟨ty, ht, hk⟩ := odd H11 x11
      have P11 := PenN.ext x11 P10
      have hqL11 : H11 qL = some (.lst (txV (allLines so rs cs))) := x11 _ _ hqL10 (fun ps q => nomatch q)
      refine ⟨_, rfl, .inr ⟨v, ty, rfl, ht, hk, ext_out (k := 0) (Same.refl _) fun H12 s12 => ?_⟩⟩
      refine ⟨rfl, _, rfl, iteB0 (by decide) ?_⟩
      have P12 := P11.same s12
      have T12 := T11.ext s12
      have hqL12 := s12 _ _ hqL11
      clear odd ht hk x11 s12 hqL11 P11 T11 P10 T10 hqL10 B10
      -- a line more
      refine ⟨T12, fun H13 x13 T13 => ?_⟩
      have P13 := PenN.ext x13 P12
      have hqL13 : H13 qL = some (.lst (txV (allLines so rs cs))) := x13 _ _ hqL12 (fun ps q => nomatch q)
      have lA := len_all (ss := so) (rs := rs) (cs := cs)
      have pA := plain_all oso orb orc
      have fE := flt_end oso orb orc
      have nA : allLines so rs cs ≠ [] := fun e => by rw [e] at lA; simp at lA; omega
      generalize allLines so rs cs = L at lA pA fE nA hqL13
      have lJ := plain_len pA nA
      have ps := plain_sum pA
      refine ⟨rfl, _, rfl, S [10], qL, L.map S, rfl, rfl, .inl (SqL.of hqL13), ?_, ?_⟩
      · rw [SX.lens]
        show (L.map List.length).sum + (L.map S).length * 1 ≤ sizeLine
        rw [List.length_map]
        exact Nat.le_trans (show _ ≤ 10000 by omega) (by decide)
      rw [SX.join_S]
      refine ⟨_, _, rfl, rfl, by rw [S_ln, S_ln]; exact Nat.le_trans (show _ + 1 ≤ 10000 by omega) (by decide), ?_⟩
      rw [SX.S_cat, join_nl nA]
      have nS : ∀ l ∈ L ++ [[]], 10 ∉ l := fun l hl => by
        rcases List.mem_append.mp hl with h | h
        · exact plain_10 pA l h
        · rw [List.mem_singleton.mp h]; simp
      refine .inl ⟨_, 1 + rs.length + cs.length, rfl, by rw [← join_nl nA, List.length_append]; show _ + 1 ≤ 9000; omega, by rw [lns_join (by simp) nS]; exact fE, ext_out (Same.refl _) fun H14 s14 => ?_⟩
      have P14 := P13.same s14
      have T14 := T13.ext s14
      refine ⟨_, rfl, qL, _, rfl, .inl (SqL.of (s14 _ _ hqL13)), rfl, _, rfl, ?_⟩
      rw [txV_len, lA]
      refine iteB0 (by rw [decide_eq_true rfl] <;> rfl) ?_
      exact ⟨P14.mono (by omega), T14, _, _, _, _, _, _, _, _, _, _, rfl⟩
    · rintro σ H2 ⟨P2, T2, x2, x3, x4, x5, x6, x7, x8, x9, x10, x11, rfl⟩
      exact kk _
end
end Fb
set_option maxRecDepth 100000
set_option maxHeartbeats 4000000
namespace Fb
open PySem PySem.Spec PyProof.Rows L2
open SX (S)

theorem all_mk {l : PySem.W.OpenLaw} {w : World} {K : PySem.W.Frag} {h : Heap} {mg : Str → Option Value} {fa : Addr} (X : K.In h) (G : h.Ns mainGlobals mg) (hfa : mg "law" = some (.ref fa))
    {fe : Addr}
    {cNoPattern : Addr} {NxNoPattern : Addr} {nmxNoPattern qxNoPattern : Str} {bsxNoPattern : List Value} {snxNoPattern : List Str} {subxNoPattern : List Value} {abxNoPattern : Bool} {colxNoPattern : Option Bool} {ddxNoPattern : Option Addr} {k0xNoPattern k1xNoPattern k2xNoPattern k3xNoPattern k5xNoPattern : Option Value}
    {a_npi : Addr} {od_npi an_npi : Option Addr} {sl_npi : Array (Option Value)} {oc_npi kV_npi dc_npi pm_npi cd_npi ct_npi : Value}
    {cUnlike : Addr} {NxUnlike : Addr} {nmxUnlike qxUnlike : Str} {bsxUnlike : List Value} {snxUnlike : List Str} {subxUnlike : List Value} {abxUnlike : Bool} {colxUnlike : Option Bool} {ddxUnlike : Option Addr} {k0xUnlike k1xUnlike k2xUnlike k3xUnlike k5xUnlike : Option Value}
    {cNoBit : Addr} {NxNoBit : Addr} {nmxNoBit qxNoBit : Str} {bsxNoBit : List Value} {snxNoBit : List Str} {subxNoBit : List Value} {abxNoBit : Bool} {colxNoBit : Option Bool} {ddxNoBit : Option Addr} {k0xNoBit k1xNoBit k2xNoBit k3xNoBit k5xNoBit : Option Value}
    {cNoStore : Addr} {NxNoStore : Addr} {nmxNoStore qxNoStore : Str} {bsxNoStore : List Value} {snxNoStore : List Str} {subxNoStore : List Value} {abxNoStore : Bool} {colxNoStore : Option Bool} {ddxNoStore : Option Addr} {k0xNoStore k1xNoStore k2xNoStore k3xNoStore k5xNoStore : Option Value}
    {a_NoStorei : Addr} {od_NoStorei an_NoStorei : Option Addr} {sl_NoStorei : Array (Option Value)} {oc_NoStorei kV_NoStorei dc_NoStorei pm_NoStorei cd_NoStorei ct_NoStorei : Value}
    {cNoText : Addr} {NxNoText : Addr} {nmxNoText qxNoText : Str} {bsxNoText : List Value} {snxNoText : List Str} {subxNoText : List Value} {abxNoText : Bool} {colxNoText : Option Bool} {ddxNoText : Option Addr} {k0xNoText k1xNoText k2xNoText k3xNoText k5xNoText : Option Value}
    {a_NoTexti : Addr} {od_NoTexti an_NoTexti : Option Addr} {sl_NoTexti : Array (Option Value)} {oc_NoTexti kV_NoTexti dc_NoTexti pm_NoTexti cd_NoTexti ct_NoTexti : Value}
    {C : Addr}
    {tvBITS : Tok}
    {tvBLOCKS : Tok}
    {C_Store : Addr}
    {tkMOST_BLOCKS : Tok}
    {tkMOST_BITS : Tok}
    {tkMOST_RULES : Tok}
    {tkMOST_CHANGES : Tok}
    {tkMOST_NAME_SIGNS : Tok}
    {tkLETTERS : Tok}
    {tkNAME_SIGNS : Tok}
    {tkDIGITS : Tok}
    {tkMOST_DIGITS : Tok}
    {tkMASK_SIGNS : Tok}
    {a_has_signs : Addr} {od_has_signs an_has_signs : Option Addr} {sl_has_signs : Array (Option Value)} {oc_has_signs kV_has_signs dc_has_signs pm_has_signs cd_has_signs ct_has_signs : Value}
    {a_is_number_word : Addr} {od_is_number_word an_is_number_word : Option Addr} {sl_is_number_word : Array (Option Value)} {oc_is_number_word kV_is_number_word dc_is_number_word pm_is_number_word cd_is_number_word ct_is_number_word : Value}
    {a_are_number_words : Addr} {od_are_number_words an_are_number_words : Option Addr} {sl_are_number_words : Array (Option Value)} {oc_are_number_words kV_are_number_words dc_are_number_words pm_are_number_words cd_are_number_words ct_are_number_words : Value}
    {a_is_name_word : Addr} {od_is_name_word an_is_name_word : Option Addr} {sl_is_name_word : Array (Option Value)} {oc_is_name_word kV_is_name_word dc_is_name_word pm_is_name_word cd_is_name_word ct_is_name_word : Value}
    {a_can_be_store_line : Addr} {od_can_be_store_line an_can_be_store_line : Option Addr} {sl_can_be_store_line : Array (Option Value)} {oc_can_be_store_line kV_can_be_store_line dc_can_be_store_line pm_can_be_store_line cd_can_be_store_line ct_can_be_store_line : Value}
    {a_lines_of : Addr} {od_lines_of an_lines_of : Option Addr} {sl_lines_of : Array (Option Value)} {oc_lines_of kV_lines_of dc_lines_of pm_lines_of cd_lines_of ct_lines_of : Value}
    {a_read_store : Addr} {od_read_store an_read_store : Option Addr} {sl_read_store : Array (Option Value)} {oc_read_store kV_read_store dc_read_store pm_read_store cd_read_store ct_read_store : Value}
    {a_Lpen : Addr} {od_Lpen an_Lpen : Option Addr} {sl_Lpen : Array (Option Value)} {oc_Lpen kV_Lpen dc_Lpen pm_Lpen cd_Lpen ct_Lpen : Value}
    {a_Ldraw : Addr} {od_Ldraw an_Ldraw : Option Addr} {sl_Ldraw : Array (Option Value)} {oc_Ldraw kV_Ldraw dc_Ldraw pm_Ldraw cd_Ldraw ct_Ldraw : Value}
    {a_Lpick : Addr} {od_Lpick an_Lpick : Option Addr} {sl_Lpick : Array (Option Value)} {oc_Lpick kV_Lpick dc_Lpick pm_Lpick cd_Lpick ct_Lpick : Value}
    {a_Lsizes : Addr} {od_Lsizes an_Lsizes : Option Addr} {sl_Lsizes : Array (Option Value)} {oc_Lsizes kV_Lsizes dc_Lsizes pm_Lsizes cd_Lsizes ct_Lsizes : Value}
    {a_Lname : Addr} {od_Lname an_Lname : Option Addr} {sl_Lname : Array (Option Value)} {oc_Lname kV_Lname dc_Lname pm_Lname cd_Lname ct_Lname : Value}
    {a_Lnames : Addr} {od_Lnames an_Lnames : Option Addr} {sl_Lnames : Array (Option Value)} {oc_Lnames kV_Lnames dc_Lnames pm_Lnames cd_Lnames ct_Lnames : Value}
    {a_Lmask : Addr} {od_Lmask an_Lmask : Option Addr} {sl_Lmask : Array (Option Value)} {oc_Lmask kV_Lmask dc_Lmask pm_Lmask cd_Lmask ct_Lmask : Value}
    {a_Lparts : Addr} {od_Lparts an_Lparts : Option Addr} {sl_Lparts : Array (Option Value)} {oc_Lparts kV_Lparts dc_Lparts pm_Lparts cd_Lparts ct_Lparts : Value}
    {a_Llines : Addr} {od_Llines an_Llines : Option Addr} {sl_Llines : Array (Option Value)} {oc_Llines kV_Llines dc_Llines pm_Llines cd_Llines ct_Llines : Value}
    {a_Lheard : Addr} {od_Lheard an_Lheard : Option Addr} {sl_Lheard : Array (Option Value)} {oc_Lheard kV_Lheard dc_Lheard pm_Lheard cd_Lheard ct_Lheard : Value}
    {a_Lfirst : Addr} {od_Lfirst an_Lfirst : Option Addr} {sl_Lfirst : Array (Option Value)} {oc_Lfirst kV_Lfirst dc_Lfirst pm_Lfirst cd_Lfirst ct_Lfirst : Value}
    {a_Lline : Addr} {od_Lline an_Lline : Option Addr} {sl_Lline : Array (Option Value)} {oc_Lline kV_Lline dc_Lline pm_Lline cd_Lline ct_Lline : Value}
    {a_Lbent : Addr} {od_Lbent an_Lbent : Option Addr} {sl_Lbent : Array (Option Value)} {oc_Lbent kV_Lbent dc_Lbent pm_Lbent cd_Lbent ct_Lbent : Value}
    {a_law : Addr} {od_law an_law : Option Addr} {sl_law : Array (Option Value)} {oc_law kV_law dc_law pm_law ct_law : Value}
    {c0 Pc0 : Addr} {odc0 : Option Addr} {vsc0 : Array Value} {slc0 : Array (Option Value)}
    (gF : PySem.W.nsIn K mainGlobals "FallenError" = some (some (.ref fe)))
    (clF : PySem.W.isClsIn K fe = true)
    (tyF : PySem.W.typeIn K (.ref fe) = some (.type "type"))
    (sbF : PySem.W.subIn K (.ref fe) (.type "BaseException") = some true)
    (hn : PySem.W.specialIn K (.builtin "object.__class__") "__get__" = some (some (.builtin "getset_descriptor.__get__")))
    (ht : PySem.W.takesIn K (.builtin "object.__class__") = some true)
    (gxNoPattern : PySem.W.nsIn K mainGlobals "NoPattern" = some (some (.ref cNoPattern)))
    (oxNoPattern : K.lookup cNoPattern = some (excClassObj nmxNoPattern qxNoPattern cNoPattern NxNoPattern bsxNoPattern (bmX fe) true snxNoPattern subxNoPattern abxNoPattern colxNoPattern ddxNoPattern k0xNoPattern k1xNoPattern k2xNoPattern k3xNoPattern k5xNoPattern "ValueError.__new__"))
    (kpxNoPattern : PySem.W.keepIn K (.ref cNoPattern) = true)
    (tyxNoPattern : PySem.W.typeIn K (.ref cNoPattern) = some (.type "type"))
    (saxNoPattern : PySem.W.findIn K (.ref cNoPattern) "__setattr__" = some (some (.builtin "object.__setattr__")))
    (gaxNoPattern : PySem.W.findIn K (.ref cNoPattern) "__getattribute__" = some (some (.builtin "BaseException.__getattribute__")))
    (ggxNoPattern : PySem.W.findIn K (.ref cNoPattern) "__getattr__" = some none)
    (caxNoPattern : PySem.W.findIn K (.ref cNoPattern) "__class__" = some (some (.builtin "object.__class__")))
    (iNP : PySem.W.findIn K (.ref cNoPattern) "__init__" = some (some (.ref a_npi)))
    (tNP : PySem.W.typeIn K (.ref a_npi) = some (.type "function"))
    (l_npi : K.lookup a_npi = some ⟨oc_npi, od_npi, .func (PySem.W.fnOf "__init__" "NoPattern.__init__" (defArgs s_NoPattern_init) (defBody s_NoPattern_init) (defScope s_NoPattern_init) .none kV_npi dc_npi pm_npi an_npi cd_npi ct_npi), sl_npi⟩)
    (c_npi : PySem.W.codeIn K cd_npi "NoPattern.__init__" = true)
    (k_npi : PySem.W.keepIn K (.ref a_npi) = true)
    (nNP : PySem.W.findIn K (.ref cNoPattern) "at" = some none)
    (gxUnlike : PySem.W.nsIn K mainGlobals "Unlike" = some (some (.ref cUnlike)))
    (oxUnlike : K.lookup cUnlike = some (excClassObj nmxUnlike qxUnlike cUnlike NxUnlike bsxUnlike (bmX fe) true snxUnlike subxUnlike abxUnlike colxUnlike ddxUnlike k0xUnlike k1xUnlike k2xUnlike k3xUnlike k5xUnlike "ValueError.__new__"))
    (kpxUnlike : PySem.W.keepIn K (.ref cUnlike) = true)
    (tyxUnlike : PySem.W.typeIn K (.ref cUnlike) = some (.type "type"))
    (saxUnlike : PySem.W.findIn K (.ref cUnlike) "__setattr__" = some (some (.builtin "object.__setattr__")))
    (gaxUnlike : PySem.W.findIn K (.ref cUnlike) "__getattribute__" = some (some (.builtin "BaseException.__getattribute__")))
    (ggxUnlike : PySem.W.findIn K (.ref cUnlike) "__getattr__" = some none)
    (caxUnlike : PySem.W.findIn K (.ref cUnlike) "__class__" = some (some (.builtin "object.__class__")))
    (exUnlike : PySem.W.excIn K cUnlike [.type "ValueError", .type "Exception", .type "BaseException", .type "object"] "ValueError.__new__" = true)
    (gxNoBit : PySem.W.nsIn K mainGlobals "NoBit" = some (some (.ref cNoBit)))
    (oxNoBit : K.lookup cNoBit = some (excClassObj nmxNoBit qxNoBit cNoBit NxNoBit bsxNoBit (bmX fe) true snxNoBit subxNoBit abxNoBit colxNoBit ddxNoBit k0xNoBit k1xNoBit k2xNoBit k3xNoBit k5xNoBit "ValueError.__new__"))
    (kpxNoBit : PySem.W.keepIn K (.ref cNoBit) = true)
    (tyxNoBit : PySem.W.typeIn K (.ref cNoBit) = some (.type "type"))
    (saxNoBit : PySem.W.findIn K (.ref cNoBit) "__setattr__" = some (some (.builtin "object.__setattr__")))
    (gaxNoBit : PySem.W.findIn K (.ref cNoBit) "__getattribute__" = some (some (.builtin "BaseException.__getattribute__")))
    (ggxNoBit : PySem.W.findIn K (.ref cNoBit) "__getattr__" = some none)
    (caxNoBit : PySem.W.findIn K (.ref cNoBit) "__class__" = some (some (.builtin "object.__class__")))
    (exNoBit : PySem.W.excIn K cNoBit [.type "ValueError", .type "Exception", .type "BaseException", .type "object"] "ValueError.__new__" = true)
    (gxNoStore : PySem.W.nsIn K mainGlobals "NoStore" = some (some (.ref cNoStore)))
    (oxNoStore : K.lookup cNoStore = some (excClassObj nmxNoStore qxNoStore cNoStore NxNoStore bsxNoStore (bmX fe) true snxNoStore subxNoStore abxNoStore colxNoStore ddxNoStore k0xNoStore k1xNoStore k2xNoStore k3xNoStore k5xNoStore "ValueError.__new__"))
    (kpxNoStore : PySem.W.keepIn K (.ref cNoStore) = true)
    (tyxNoStore : PySem.W.typeIn K (.ref cNoStore) = some (.type "type"))
    (saxNoStore : PySem.W.findIn K (.ref cNoStore) "__setattr__" = some (some (.builtin "object.__setattr__")))
    (gaxNoStore : PySem.W.findIn K (.ref cNoStore) "__getattribute__" = some (some (.builtin "BaseException.__getattribute__")))
    (ggxNoStore : PySem.W.findIn K (.ref cNoStore) "__getattr__" = some none)
    (caxNoStore : PySem.W.findIn K (.ref cNoStore) "__class__" = some (some (.builtin "object.__class__")))
    (iNoStore : PySem.W.findIn K (.ref cNoStore) "__init__" = some (some (.ref a_NoStorei)))
    (tNoStore : PySem.W.typeIn K (.ref a_NoStorei) = some (.type "function"))
    (l_NoStorei : K.lookup a_NoStorei = some ⟨oc_NoStorei, od_NoStorei, .func (PySem.W.fnOf "__init__" "NoStore.__init__" (defArgs s_NoStore_init) (defBody s_NoStore_init) (defScope s_NoStore_init) .none kV_NoStorei dc_NoStorei pm_NoStorei an_NoStorei cd_NoStorei ct_NoStorei), sl_NoStorei⟩)
    (c_NoStorei : PySem.W.codeIn K cd_NoStorei "NoStore.__init__" = true)
    (k_NoStorei : PySem.W.keepIn K (.ref a_NoStorei) = true)
    (nNoStore_part : PySem.W.findIn K (.ref cNoStore) "part" = some none)
    (nNoStore_at : PySem.W.findIn K (.ref cNoStore) "at" = some none)
    (gxNoText : PySem.W.nsIn K mainGlobals "NoText" = some (some (.ref cNoText)))
    (oxNoText : K.lookup cNoText = some (excClassObj nmxNoText qxNoText cNoText NxNoText bsxNoText (bmX fe) true snxNoText subxNoText abxNoText colxNoText ddxNoText k0xNoText k1xNoText k2xNoText k3xNoText k5xNoText "ValueError.__new__"))
    (kpxNoText : PySem.W.keepIn K (.ref cNoText) = true)
    (tyxNoText : PySem.W.typeIn K (.ref cNoText) = some (.type "type"))
    (saxNoText : PySem.W.findIn K (.ref cNoText) "__setattr__" = some (some (.builtin "object.__setattr__")))
    (gaxNoText : PySem.W.findIn K (.ref cNoText) "__getattribute__" = some (some (.builtin "BaseException.__getattribute__")))
    (ggxNoText : PySem.W.findIn K (.ref cNoText) "__getattr__" = some none)
    (caxNoText : PySem.W.findIn K (.ref cNoText) "__class__" = some (some (.builtin "object.__class__")))
    (iNoText : PySem.W.findIn K (.ref cNoText) "__init__" = some (some (.ref a_NoTexti)))
    (tNoText : PySem.W.typeIn K (.ref a_NoTexti) = some (.type "function"))
    (l_NoTexti : K.lookup a_NoTexti = some ⟨oc_NoTexti, od_NoTexti, .func (PySem.W.fnOf "__init__" "NoText.__init__" (defArgs s_NoText_init) (defBody s_NoText_init) (defScope s_NoText_init) .none kV_NoTexti dc_NoTexti pm_NoTexti an_NoTexti cd_NoTexti ct_NoTexti), sl_NoTexti⟩)
    (c_NoTexti : PySem.W.codeIn K cd_NoTexti "NoText.__init__" = true)
    (k_NoTexti : PySem.W.keepIn K (.ref a_NoTexti) = true)
    (nNoText_line : PySem.W.findIn K (.ref cNoText) "line" = some none)
    (ne_NoPattern_F : cNoPattern ≠ fe)
    (ne_NoPattern_Unlike : cNoPattern ≠ cUnlike)
    (ne_NoPattern_NoBit : cNoPattern ≠ cNoBit)
    (ne_NoPattern_NoStore : cNoPattern ≠ cNoStore)
    (ne_NoPattern_NoText : cNoPattern ≠ cNoText)
    (ne_Unlike_F : cUnlike ≠ fe)
    (ne_Unlike_NoPattern : cUnlike ≠ cNoPattern)
    (ne_Unlike_NoBit : cUnlike ≠ cNoBit)
    (ne_Unlike_NoStore : cUnlike ≠ cNoStore)
    (ne_Unlike_NoText : cUnlike ≠ cNoText)
    (ne_NoBit_F : cNoBit ≠ fe)
    (ne_NoBit_NoPattern : cNoBit ≠ cNoPattern)
    (ne_NoBit_Unlike : cNoBit ≠ cUnlike)
    (ne_NoBit_NoStore : cNoBit ≠ cNoStore)
    (ne_NoBit_NoText : cNoBit ≠ cNoText)
    (ne_NoStore_F : cNoStore ≠ fe)
    (ne_NoStore_NoPattern : cNoStore ≠ cNoPattern)
    (ne_NoStore_Unlike : cNoStore ≠ cUnlike)
    (ne_NoStore_NoBit : cNoStore ≠ cNoBit)
    (ne_NoStore_NoText : cNoStore ≠ cNoText)
    (ne_NoText_F : cNoText ≠ fe)
    (ne_NoText_NoPattern : cNoText ≠ cNoPattern)
    (ne_NoText_Unlike : cNoText ≠ cUnlike)
    (ne_NoText_NoBit : cNoText ≠ cNoBit)
    (ne_NoText_NoStore : cNoText ≠ cNoStore)
    (gC : PySem.W.nsIn K mainGlobals "Pattern" = some (some (.ref C)))
    (rdC : PySem.W.readsIn K C (.type "type") = true)
    (gaC : PySem.W.specialIn K (.ref C) "__getattribute__" = some (some (.builtin "type.__getattribute__")))
    (vBITS : PySem.W.findCls K (.ref C) (.type "type") "BITS" = some (.val (.int 120 tvBITS)))
    (vBLOCKS : PySem.W.findCls K (.ref C) (.type "type") "BLOCKS" = some (.val (.int 3 tvBLOCKS)))
    (gC_Store : PySem.W.nsIn K mainGlobals "Store" = some (some (.ref C_Store)))
    (rdC_Store : PySem.W.readsIn K C_Store (.type "type") = true)
    (gaC_Store : PySem.W.specialIn K (.ref C_Store) "__getattribute__" = some (some (.builtin "type.__getattribute__")))
    (gkMOST_BLOCKS : PySem.W.nsIn K mainGlobals "MOST_BLOCKS" = some (some (.int 3 tkMOST_BLOCKS)))
    (gkMOST_BITS : PySem.W.nsIn K mainGlobals "MOST_BITS" = some (some (.int 6 tkMOST_BITS)))
    (gkMOST_RULES : PySem.W.nsIn K mainGlobals "MOST_RULES" = some (some (.int 64 tkMOST_RULES)))
    (gkMOST_CHANGES : PySem.W.nsIn K mainGlobals "MOST_CHANGES" = some (some (.int 16 tkMOST_CHANGES)))
    (gkMOST_NAME_SIGNS : PySem.W.nsIn K mainGlobals "MOST_NAME_SIGNS" = some (some (.int 12 tkMOST_NAME_SIGNS)))
    (gkLETTERS : PySem.W.nsIn K mainGlobals "LETTERS" = some (some (.str "abcdefghijklmnopqrstuvwxyz" tkLETTERS)))
    (gkNAME_SIGNS : PySem.W.nsIn K mainGlobals "NAME_SIGNS" = some (some (.str "abcdefghijklmnopqrstuvwxyz0123456789-" tkNAME_SIGNS)))
    (gkDIGITS : PySem.W.nsIn K mainGlobals "DIGITS" = some (some (.str "0123456789" tkDIGITS)))
    (gkMOST_DIGITS : PySem.W.nsIn K mainGlobals "MOST_DIGITS" = some (some (.int 3 tkMOST_DIGITS)))
    (gkMASK_SIGNS : PySem.W.nsIn K mainGlobals "MASK_SIGNS" = some (some (.str "10*." tkMASK_SIGNS)))
    (g_has_signs : PySem.W.nsIn K mainGlobals "has_signs" = some (some (.ref a_has_signs)))
    (l_has_signs : K.lookup a_has_signs = some ⟨oc_has_signs, od_has_signs, .func (PySem.W.fnOf "has_signs" "has_signs" (defArgs s_has_signs) (defBody s_has_signs) (defScope s_has_signs) .none kV_has_signs dc_has_signs pm_has_signs an_has_signs cd_has_signs ct_has_signs), sl_has_signs⟩)
    (c_has_signs : PySem.W.codeIn K cd_has_signs "has_signs" = true)
    (k_has_signs : PySem.W.keepIn K (.ref a_has_signs) = true)
    (g_is_number_word : PySem.W.nsIn K mainGlobals "is_number_word" = some (some (.ref a_is_number_word)))
    (l_is_number_word : K.lookup a_is_number_word = some ⟨oc_is_number_word, od_is_number_word, .func (PySem.W.fnOf "is_number_word" "is_number_word" (defArgs s_is_number_word) (defBody s_is_number_word) (defScope s_is_number_word) .none kV_is_number_word dc_is_number_word pm_is_number_word an_is_number_word cd_is_number_word ct_is_number_word), sl_is_number_word⟩)
    (c_is_number_word : PySem.W.codeIn K cd_is_number_word "is_number_word" = true)
    (k_is_number_word : PySem.W.keepIn K (.ref a_is_number_word) = true)
    (g_are_number_words : PySem.W.nsIn K mainGlobals "are_number_words" = some (some (.ref a_are_number_words)))
    (l_are_number_words : K.lookup a_are_number_words = some ⟨oc_are_number_words, od_are_number_words, .func (PySem.W.fnOf "are_number_words" "are_number_words" (defArgs s_are_number_words) (defBody s_are_number_words) (defScope s_are_number_words) .none kV_are_number_words dc_are_number_words pm_are_number_words an_are_number_words cd_are_number_words ct_are_number_words), sl_are_number_words⟩)
    (c_are_number_words : PySem.W.codeIn K cd_are_number_words "are_number_words" = true)
    (k_are_number_words : PySem.W.keepIn K (.ref a_are_number_words) = true)
    (g_is_name_word : PySem.W.nsIn K mainGlobals "is_name_word" = some (some (.ref a_is_name_word)))
    (l_is_name_word : K.lookup a_is_name_word = some ⟨oc_is_name_word, od_is_name_word, .func (PySem.W.fnOf "is_name_word" "is_name_word" (defArgs s_is_name_word) (defBody s_is_name_word) (defScope s_is_name_word) .none kV_is_name_word dc_is_name_word pm_is_name_word an_is_name_word cd_is_name_word ct_is_name_word), sl_is_name_word⟩)
    (c_is_name_word : PySem.W.codeIn K cd_is_name_word "is_name_word" = true)
    (k_is_name_word : PySem.W.keepIn K (.ref a_is_name_word) = true)
    (g_can_be_store_line : PySem.W.nsIn K mainGlobals "can_be_store_line" = some (some (.ref a_can_be_store_line)))
    (l_can_be_store_line : K.lookup a_can_be_store_line = some ⟨oc_can_be_store_line, od_can_be_store_line, .func (PySem.W.fnOf "can_be_store_line" "can_be_store_line" (defArgs s_can_be_store_line) (defBody s_can_be_store_line) (defScope s_can_be_store_line) .none kV_can_be_store_line dc_can_be_store_line pm_can_be_store_line an_can_be_store_line cd_can_be_store_line ct_can_be_store_line), sl_can_be_store_line⟩)
    (c_can_be_store_line : PySem.W.codeIn K cd_can_be_store_line "can_be_store_line" = true)
    (k_can_be_store_line : PySem.W.keepIn K (.ref a_can_be_store_line) = true)
    (g_lines_of : PySem.W.nsIn K mainGlobals "lines_of" = some (some (.ref a_lines_of)))
    (l_lines_of : K.lookup a_lines_of = some ⟨oc_lines_of, od_lines_of, .func (PySem.W.fnOf "lines_of" "lines_of" (defArgs s_lines_of) (defBody s_lines_of) (defScope s_lines_of) .none kV_lines_of dc_lines_of pm_lines_of an_lines_of cd_lines_of ct_lines_of), sl_lines_of⟩)
    (c_lines_of : PySem.W.codeIn K cd_lines_of "lines_of" = true)
    (k_lines_of : PySem.W.keepIn K (.ref a_lines_of) = true)
    (g_read_store : PySem.W.nsIn K mainGlobals "read_store" = some (some (.ref a_read_store)))
    (l_read_store : K.lookup a_read_store = some ⟨oc_read_store, od_read_store, .func (PySem.W.fnOf "read_store" "read_store" (defArgs s_read_store) (defBody s_read_store) (defScope s_read_store) .none kV_read_store dc_read_store pm_read_store an_read_store cd_read_store ct_read_store), sl_read_store⟩)
    (c_read_store : PySem.W.codeIn K cd_read_store "read_store" = true)
    (k_read_store : PySem.W.keepIn K (.ref a_read_store) = true)
    (b_abs : PySem.W.nsIn K mainGlobals "abs" = some none)
    (b_all : PySem.W.nsIn K mainGlobals "all" = some none)
    (b_bool : PySem.W.nsIn K mainGlobals "bool" = some none)
    (b_enumerate : PySem.W.nsIn K mainGlobals "enumerate" = some none)
    (b_int : PySem.W.nsIn K mainGlobals "int" = some none)
    (b_isinstance : PySem.W.nsIn K mainGlobals "isinstance" = some none)
    (b_len : PySem.W.nsIn K mainGlobals "len" = some none)
    (b_list : PySem.W.nsIn K mainGlobals "list" = some none)
    (b_range : PySem.W.nsIn K mainGlobals "range" = some none)
    (b_set : PySem.W.nsIn K mainGlobals "set" = some none)
    (b_sorted : PySem.W.nsIn K mainGlobals "sorted" = some none)
    (b_str : PySem.W.nsIn K mainGlobals "str" = some none)
    (b_tuple : PySem.W.nsIn K mainGlobals "tuple" = some none)
    (b_zip : PySem.W.nsIn K mainGlobals "zip" = some none)
    (g_Lpen : PySem.W.nsIn K mainGlobals "_law_pen" = some (some (.ref a_Lpen)))
    (l_Lpen : K.lookup a_Lpen = some ⟨oc_Lpen, od_Lpen, .func (PySem.W.fnOf "_law_pen" "_law_pen" (defArgs s_Lpen) (defBody s_Lpen) (defScope s_Lpen) .none kV_Lpen dc_Lpen pm_Lpen an_Lpen cd_Lpen ct_Lpen), sl_Lpen⟩)
    (c_Lpen : PySem.W.codeIn K cd_Lpen "_law_pen" = true)
    (k_Lpen : PySem.W.keepIn K (.ref a_Lpen) = true)
    (g_Ldraw : PySem.W.nsIn K mainGlobals "_law_draw" = some (some (.ref a_Ldraw)))
    (l_Ldraw : K.lookup a_Ldraw = some ⟨oc_Ldraw, od_Ldraw, .func (PySem.W.fnOf "_law_draw" "_law_draw" (defArgs s_Ldraw) (defBody s_Ldraw) (defScope s_Ldraw) .none kV_Ldraw dc_Ldraw pm_Ldraw an_Ldraw cd_Ldraw ct_Ldraw), sl_Ldraw⟩)
    (c_Ldraw : PySem.W.codeIn K cd_Ldraw "_law_draw" = true)
    (k_Ldraw : PySem.W.keepIn K (.ref a_Ldraw) = true)
    (g_Lpick : PySem.W.nsIn K mainGlobals "_law_pick" = some (some (.ref a_Lpick)))
    (l_Lpick : K.lookup a_Lpick = some ⟨oc_Lpick, od_Lpick, .func (PySem.W.fnOf "_law_pick" "_law_pick" (defArgs s_Lpick) (defBody s_Lpick) (defScope s_Lpick) .none kV_Lpick dc_Lpick pm_Lpick an_Lpick cd_Lpick ct_Lpick), sl_Lpick⟩)
    (c_Lpick : PySem.W.codeIn K cd_Lpick "_law_pick" = true)
    (k_Lpick : PySem.W.keepIn K (.ref a_Lpick) = true)
    (g_Lsizes : PySem.W.nsIn K mainGlobals "_law_sizes" = some (some (.ref a_Lsizes)))
    (l_Lsizes : K.lookup a_Lsizes = some ⟨oc_Lsizes, od_Lsizes, .func (PySem.W.fnOf "_law_sizes" "_law_sizes" (defArgs s_Lsizes) (defBody s_Lsizes) (defScope s_Lsizes) .none kV_Lsizes dc_Lsizes pm_Lsizes an_Lsizes cd_Lsizes ct_Lsizes), sl_Lsizes⟩)
    (c_Lsizes : PySem.W.codeIn K cd_Lsizes "_law_sizes" = true)
    (k_Lsizes : PySem.W.keepIn K (.ref a_Lsizes) = true)
    (g_Lname : PySem.W.nsIn K mainGlobals "_law_name" = some (some (.ref a_Lname)))
    (l_Lname : K.lookup a_Lname = some ⟨oc_Lname, od_Lname, .func (PySem.W.fnOf "_law_name" "_law_name" (defArgs s_Lname) (defBody s_Lname) (defScope s_Lname) .none kV_Lname dc_Lname pm_Lname an_Lname cd_Lname ct_Lname), sl_Lname⟩)
    (c_Lname : PySem.W.codeIn K cd_Lname "_law_name" = true)
    (k_Lname : PySem.W.keepIn K (.ref a_Lname) = true)
    (g_Lnames : PySem.W.nsIn K mainGlobals "_law_names" = some (some (.ref a_Lnames)))
    (l_Lnames : K.lookup a_Lnames = some ⟨oc_Lnames, od_Lnames, .func (PySem.W.fnOf "_law_names" "_law_names" (defArgs s_Lnames) (defBody s_Lnames) (defScope s_Lnames) .none kV_Lnames dc_Lnames pm_Lnames an_Lnames cd_Lnames ct_Lnames), sl_Lnames⟩)
    (c_Lnames : PySem.W.codeIn K cd_Lnames "_law_names" = true)
    (k_Lnames : PySem.W.keepIn K (.ref a_Lnames) = true)
    (g_Lmask : PySem.W.nsIn K mainGlobals "_law_mask" = some (some (.ref a_Lmask)))
    (l_Lmask : K.lookup a_Lmask = some ⟨oc_Lmask, od_Lmask, .func (PySem.W.fnOf "_law_mask" "_law_mask" (defArgs s_Lmask) (defBody s_Lmask) (defScope s_Lmask) .none kV_Lmask dc_Lmask pm_Lmask an_Lmask cd_Lmask ct_Lmask), sl_Lmask⟩)
    (c_Lmask : PySem.W.codeIn K cd_Lmask "_law_mask" = true)
    (k_Lmask : PySem.W.keepIn K (.ref a_Lmask) = true)
    (g_Lparts : PySem.W.nsIn K mainGlobals "_law_parts" = some (some (.ref a_Lparts)))
    (l_Lparts : K.lookup a_Lparts = some ⟨oc_Lparts, od_Lparts, .func (PySem.W.fnOf "_law_parts" "_law_parts" (defArgs s_Lparts) (defBody s_Lparts) (defScope s_Lparts) .none kV_Lparts dc_Lparts pm_Lparts an_Lparts cd_Lparts ct_Lparts), sl_Lparts⟩)
    (c_Lparts : PySem.W.codeIn K cd_Lparts "_law_parts" = true)
    (k_Lparts : PySem.W.keepIn K (.ref a_Lparts) = true)
    (g_Llines : PySem.W.nsIn K mainGlobals "_law_lines" = some (some (.ref a_Llines)))
    (l_Llines : K.lookup a_Llines = some ⟨oc_Llines, od_Llines, .func (PySem.W.fnOf "_law_lines" "_law_lines" (defArgs s_Llines) (defBody s_Llines) (defScope s_Llines) .none kV_Llines dc_Llines pm_Llines an_Llines cd_Llines ct_Llines), sl_Llines⟩)
    (c_Llines : PySem.W.codeIn K cd_Llines "_law_lines" = true)
    (k_Llines : PySem.W.keepIn K (.ref a_Llines) = true)
    (g_Lheard : PySem.W.nsIn K mainGlobals "_law_heard" = some (some (.ref a_Lheard)))
    (l_Lheard : K.lookup a_Lheard = some ⟨oc_Lheard, od_Lheard, .func (PySem.W.fnOf "_law_heard" "_law_heard" (defArgs s_Lheard) (defBody s_Lheard) (defScope s_Lheard) .none kV_Lheard dc_Lheard pm_Lheard an_Lheard cd_Lheard ct_Lheard), sl_Lheard⟩)
    (c_Lheard : PySem.W.codeIn K cd_Lheard "_law_heard" = true)
    (k_Lheard : PySem.W.keepIn K (.ref a_Lheard) = true)
    (g_Lfirst : PySem.W.nsIn K mainGlobals "_law_first" = some (some (.ref a_Lfirst)))
    (l_Lfirst : K.lookup a_Lfirst = some ⟨oc_Lfirst, od_Lfirst, .func (PySem.W.fnOf "_law_first" "_law_first" (defArgs s_Lfirst) (defBody s_Lfirst) (defScope s_Lfirst) .none kV_Lfirst dc_Lfirst pm_Lfirst an_Lfirst cd_Lfirst ct_Lfirst), sl_Lfirst⟩)
    (c_Lfirst : PySem.W.codeIn K cd_Lfirst "_law_first" = true)
    (k_Lfirst : PySem.W.keepIn K (.ref a_Lfirst) = true)
    (g_Lline : PySem.W.nsIn K mainGlobals "_law_line" = some (some (.ref a_Lline)))
    (l_Lline : K.lookup a_Lline = some ⟨oc_Lline, od_Lline, .func (PySem.W.fnOf "_law_line" "_law_line" (defArgs s_Lline) (defBody s_Lline) (defScope s_Lline) .none kV_Lline dc_Lline pm_Lline an_Lline cd_Lline ct_Lline), sl_Lline⟩)
    (c_Lline : PySem.W.codeIn K cd_Lline "_law_line" = true)
    (k_Lline : PySem.W.keepIn K (.ref a_Lline) = true)
    (g_Lbent : PySem.W.nsIn K mainGlobals "_law_bent" = some (some (.ref a_Lbent)))
    (l_Lbent : K.lookup a_Lbent = some ⟨oc_Lbent, od_Lbent, .func (PySem.W.fnOf "_law_bent" "_law_bent" (defArgs s_Lbent) (defBody s_Lbent) (defScope s_Lbent) .none kV_Lbent dc_Lbent pm_Lbent an_Lbent cd_Lbent ct_Lbent), sl_Lbent⟩)
    (c_Lbent : PySem.W.codeIn K cd_Lbent "_law_bent" = true)
    (k_Lbent : PySem.W.keepIn K (.ref a_Lbent) = true)
    (g_law : PySem.W.nsIn K mainGlobals "law" = some (some (.ref a_law)))
    (l_law : K.lookup a_law = some ⟨oc_law, od_law, .func (PySem.W.fnOf "law" "law" (defArgs s_law) (defBody s_law) (defScope s_law) .none kV_law dc_law pm_law an_law (.ref c0) ct_law), sl_law⟩)
    (c_law : PySem.W.codeIn K (.ref c0) "law" = true)
    (k_law : PySem.W.keepIn K (.ref a_law) = true)
    (lkc0 : K.lookup c0 = some ⟨.type "code", odc0, .fields vsc0, slc0⟩)
    (elc0 : (vsc0[11]? : Option Value) = some (.ref Pc0))
    (hdc0 : PySem.W.codeHdIn K c0 Pc0 = true)
    (noc0 : K.lookup Pc0 = none)
    (tbc0 : h.get? Pc0 = some { cls := .none, data := .fields #[] })
    : LamX.LawAtS l w K CX0 8 63 "_law_script" mg fa h := by
  have e := hfa.symm.trans (PySem.W.mg_of X G g_law)
  cases e
  have F_npi := fun_mk (st := s_NoPattern_init) l_npi c_npi k_npi
  have B_npi := F_npi.binds (ps := ["self", "at"]) fun _ _ _ _ _ _ us hl => match us, hl with | [_, _], _ => rfl
  have F_NoStorei := fun_mk (st := s_NoStore_init) l_NoStorei c_NoStorei k_NoStorei
  have B_NoStorei := F_NoStorei.binds (ps := ["self", "part", "at"]) fun _ _ _ _ _ _ us hl => match us, hl with | [_, _, _], _ => rfl
  have F_NoTexti := fun_mk (st := s_NoText_init) l_NoTexti c_NoTexti k_NoTexti
  have B_NoTexti := F_NoTexti.binds (ps := ["self", "line"]) fun _ _ _ _ _ _ us hl => match us, hl with | [_, _], _ => rfl
  have F_has_signs := fun_mk (st := s_has_signs) l_has_signs c_has_signs k_has_signs
  have B_has_signs := F_has_signs.binds (ps := ["word", "signs"]) fun _ _ _ _ _ _ us hl => match us, hl with | [_, _], _ => rfl
  have F_is_number_word := fun_mk (st := s_is_number_word) l_is_number_word c_is_number_word k_is_number_word
  have B_is_number_word := F_is_number_word.binds (ps := ["word"]) fun _ _ _ _ _ _ us hl => match us, hl with | [_], _ => rfl
  have F_are_number_words := fun_mk (st := s_are_number_words) l_are_number_words c_are_number_words k_are_number_words
  have B_are_number_words := F_are_number_words.binds (ps := ["words"]) fun _ _ _ _ _ _ us hl => match us, hl with | [_], _ => rfl
  have F_is_name_word := fun_mk (st := s_is_name_word) l_is_name_word c_is_name_word k_is_name_word
  have B_is_name_word := F_is_name_word.binds (ps := ["word"]) fun _ _ _ _ _ _ us hl => match us, hl with | [_], _ => rfl
  have F_can_be_store_line := fun_mk (st := s_can_be_store_line) l_can_be_store_line c_can_be_store_line k_can_be_store_line
  have B_can_be_store_line := F_can_be_store_line.binds (ps := ["words", "before"]) fun _ _ _ _ _ _ us hl => match us, hl with | [_, _], _ => rfl
  have F_lines_of := fun_mk (st := s_lines_of) l_lines_of c_lines_of k_lines_of
  have B_lines_of := F_lines_of.binds (ps := ["text"]) fun _ _ _ _ _ _ us hl => match us, hl with | [_], _ => rfl
  have F_read_store := fun_mk (st := s_read_store) l_read_store c_read_store k_read_store
  have B_read_store := F_read_store.binds (ps := ["text"]) fun _ _ _ _ _ _ us hl => match us, hl with | [_], _ => rfl
  have F_Lpen := fun_mk (st := s_Lpen) l_Lpen c_Lpen k_Lpen
  have B_Lpen := F_Lpen.binds (ps := ["_law_script"]) fun _ _ _ _ _ _ us hl => match us, hl with | [_], _ => rfl
  have F_Ldraw := fun_mk (st := s_Ldraw) l_Ldraw c_Ldraw k_Ldraw
  have B_Ldraw := F_Ldraw.binds (ps := ["_law_pen_here", "_law_many"]) fun _ _ _ _ _ _ us hl => match us, hl with | [_, _], _ => rfl
  have F_Lpick := fun_mk (st := s_Lpick) l_Lpick c_Lpick k_Lpick
  have B_Lpick := F_Lpick.binds (ps := ["_law_pen_here", "_law_some"]) fun _ _ _ _ _ _ us hl => match us, hl with | [_, _], _ => rfl
  have F_Lsizes := fun_mk (st := s_Lsizes) l_Lsizes c_Lsizes k_Lsizes
  have B_Lsizes := F_Lsizes.binds (ps := ["_law_pen_here"]) fun _ _ _ _ _ _ us hl => match us, hl with | [_], _ => rfl
  have F_Lname := fun_mk (st := s_Lname) l_Lname c_Lname k_Lname
  have B_Lname := F_Lname.binds (ps := ["_law_pen_here"]) fun _ _ _ _ _ _ us hl => match us, hl with | [_], _ => rfl
  have F_Lnames := fun_mk (st := s_Lnames) l_Lnames c_Lnames k_Lnames
  have B_Lnames := F_Lnames.binds (ps := ["_law_pen_here"]) fun _ _ _ _ _ _ us hl => match us, hl with | [_], _ => rfl
  have F_Lmask := fun_mk (st := s_Lmask) l_Lmask c_Lmask k_Lmask
  have B_Lmask := F_Lmask.binds (ps := ["_law_pen_here", "_law_sizes_here"]) fun _ _ _ _ _ _ us hl => match us, hl with | [_, _], _ => rfl
  have F_Lparts := fun_mk (st := s_Lparts) l_Lparts c_Lparts k_Lparts
  have B_Lparts := F_Lparts.binds (ps := ["_law_pen_here"]) fun _ _ _ _ _ _ us hl => match us, hl with | [_], _ => rfl
  have F_Llines := fun_mk (st := s_Llines) l_Llines c_Llines k_Llines
  have B_Llines := F_Llines.binds (ps := ["_law_sizes_here", "_law_rules", "_law_changes"]) fun _ _ _ _ _ _ us hl => match us, hl with | [_, _, _], _ => rfl
  have F_Lheard := fun_mk (st := s_Lheard) l_Lheard c_Lheard k_Lheard
  have B_Lheard := F_Lheard.binds (ps := ["_law_ask"]) fun _ _ _ _ _ _ us hl => match us, hl with | [_], _ => rfl
  have F_Lfirst := fun_mk (st := s_Lfirst) l_Lfirst c_Lfirst k_Lfirst
  have B_Lfirst := F_Lfirst.binds (ps := ["_law_pen_here"]) fun _ _ _ _ _ _ us hl => match us, hl with | [_], _ => rfl
  have F_Lline := fun_mk (st := s_Lline) l_Lline c_Lline k_Lline
  have B_Lline := F_Lline.binds (ps := ["_law_pen_here"]) fun _ _ _ _ _ _ us hl => match us, hl with | [_], _ => rfl
  have F_Lbent := fun_mk (st := s_Lbent) l_Lbent c_Lbent k_Lbent
  have B_Lbent := F_Lbent.binds (ps := ["_law_pen_here", "_law_lines_here", "_law_many"]) fun _ _ _ _ _ _ us hl => match us, hl with | [_, _, _], _ => rfl
  have F_law := fun_mk (st := s_law) l_law c_law k_law
  let z : Pz := { fe := fe, cNoPattern := cNoPattern, a_npi := a_npi, d_npi := (PySem.W.fnOf "__init__" "NoPattern.__init__" (defArgs s_NoPattern_init) (defBody s_NoPattern_init) (defScope s_NoPattern_init) .none kV_npi dc_npi pm_npi an_npi cd_npi ct_npi), cUnlike := cUnlike, cNoBit := cNoBit, cNoStore := cNoStore, a_NoStorei := a_NoStorei, d_NoStorei := (PySem.W.fnOf "__init__" "NoStore.__init__" (defArgs s_NoStore_init) (defBody s_NoStore_init) (defScope s_NoStore_init) .none kV_NoStorei dc_NoStorei pm_NoStorei an_NoStorei cd_NoStorei ct_NoStorei), cNoText := cNoText, a_NoTexti := a_NoTexti, d_NoTexti := (PySem.W.fnOf "__init__" "NoText.__init__" (defArgs s_NoText_init) (defBody s_NoText_init) (defScope s_NoText_init) .none kV_NoTexti dc_NoTexti pm_NoTexti an_NoTexti cd_NoTexti ct_NoTexti), C := C, C_Store := C_Store, a_has_signs := a_has_signs, d_has_signs := (PySem.W.fnOf "has_signs" "has_signs" (defArgs s_has_signs) (defBody s_has_signs) (defScope s_has_signs) .none kV_has_signs dc_has_signs pm_has_signs an_has_signs cd_has_signs ct_has_signs), a_is_number_word := a_is_number_word, d_is_number_word := (PySem.W.fnOf "is_number_word" "is_number_word" (defArgs s_is_number_word) (defBody s_is_number_word) (defScope s_is_number_word) .none kV_is_number_word dc_is_number_word pm_is_number_word an_is_number_word cd_is_number_word ct_is_number_word), a_are_number_words := a_are_number_words, d_are_number_words := (PySem.W.fnOf "are_number_words" "are_number_words" (defArgs s_are_number_words) (defBody s_are_number_words) (defScope s_are_number_words) .none kV_are_number_words dc_are_number_words pm_are_number_words an_are_number_words cd_are_number_words ct_are_number_words), a_is_name_word := a_is_name_word, d_is_name_word := (PySem.W.fnOf "is_name_word" "is_name_word" (defArgs s_is_name_word) (defBody s_is_name_word) (defScope s_is_name_word) .none kV_is_name_word dc_is_name_word pm_is_name_word an_is_name_word cd_is_name_word ct_is_name_word), a_can_be_store_line := a_can_be_store_line, d_can_be_store_line := (PySem.W.fnOf "can_be_store_line" "can_be_store_line" (defArgs s_can_be_store_line) (defBody s_can_be_store_line) (defScope s_can_be_store_line) .none kV_can_be_store_line dc_can_be_store_line pm_can_be_store_line an_can_be_store_line cd_can_be_store_line ct_can_be_store_line), a_lines_of := a_lines_of, d_lines_of := (PySem.W.fnOf "lines_of" "lines_of" (defArgs s_lines_of) (defBody s_lines_of) (defScope s_lines_of) .none kV_lines_of dc_lines_of pm_lines_of an_lines_of cd_lines_of ct_lines_of), a_read_store := a_read_store, d_read_store := (PySem.W.fnOf "read_store" "read_store" (defArgs s_read_store) (defBody s_read_store) (defScope s_read_store) .none kV_read_store dc_read_store pm_read_store an_read_store cd_read_store ct_read_store) }
  let w1 : Lz := { a_Lpen := a_Lpen, d_Lpen := (PySem.W.fnOf "_law_pen" "_law_pen" (defArgs s_Lpen) (defBody s_Lpen) (defScope s_Lpen) .none kV_Lpen dc_Lpen pm_Lpen an_Lpen cd_Lpen ct_Lpen), a_Ldraw := a_Ldraw, d_Ldraw := (PySem.W.fnOf "_law_draw" "_law_draw" (defArgs s_Ldraw) (defBody s_Ldraw) (defScope s_Ldraw) .none kV_Ldraw dc_Ldraw pm_Ldraw an_Ldraw cd_Ldraw ct_Ldraw), a_Lpick := a_Lpick, d_Lpick := (PySem.W.fnOf "_law_pick" "_law_pick" (defArgs s_Lpick) (defBody s_Lpick) (defScope s_Lpick) .none kV_Lpick dc_Lpick pm_Lpick an_Lpick cd_Lpick ct_Lpick), a_Lsizes := a_Lsizes, d_Lsizes := (PySem.W.fnOf "_law_sizes" "_law_sizes" (defArgs s_Lsizes) (defBody s_Lsizes) (defScope s_Lsizes) .none kV_Lsizes dc_Lsizes pm_Lsizes an_Lsizes cd_Lsizes ct_Lsizes), a_Lname := a_Lname, d_Lname := (PySem.W.fnOf "_law_name" "_law_name" (defArgs s_Lname) (defBody s_Lname) (defScope s_Lname) .none kV_Lname dc_Lname pm_Lname an_Lname cd_Lname ct_Lname), a_Lnames := a_Lnames, d_Lnames := (PySem.W.fnOf "_law_names" "_law_names" (defArgs s_Lnames) (defBody s_Lnames) (defScope s_Lnames) .none kV_Lnames dc_Lnames pm_Lnames an_Lnames cd_Lnames ct_Lnames), a_Lmask := a_Lmask, d_Lmask := (PySem.W.fnOf "_law_mask" "_law_mask" (defArgs s_Lmask) (defBody s_Lmask) (defScope s_Lmask) .none kV_Lmask dc_Lmask pm_Lmask an_Lmask cd_Lmask ct_Lmask), a_Lparts := a_Lparts, d_Lparts := (PySem.W.fnOf "_law_parts" "_law_parts" (defArgs s_Lparts) (defBody s_Lparts) (defScope s_Lparts) .none kV_Lparts dc_Lparts pm_Lparts an_Lparts cd_Lparts ct_Lparts), a_Llines := a_Llines, d_Llines := (PySem.W.fnOf "_law_lines" "_law_lines" (defArgs s_Llines) (defBody s_Llines) (defScope s_Llines) .none kV_Llines dc_Llines pm_Llines an_Llines cd_Llines ct_Llines), a_Lheard := a_Lheard, d_Lheard := (PySem.W.fnOf "_law_heard" "_law_heard" (defArgs s_Lheard) (defBody s_Lheard) (defScope s_Lheard) .none kV_Lheard dc_Lheard pm_Lheard an_Lheard cd_Lheard ct_Lheard), a_Lfirst := a_Lfirst, d_Lfirst := (PySem.W.fnOf "_law_first" "_law_first" (defArgs s_Lfirst) (defBody s_Lfirst) (defScope s_Lfirst) .none kV_Lfirst dc_Lfirst pm_Lfirst an_Lfirst cd_Lfirst ct_Lfirst), a_Lline := a_Lline, d_Lline := (PySem.W.fnOf "_law_line" "_law_line" (defArgs s_Lline) (defBody s_Lline) (defScope s_Lline) .none kV_Lline dc_Lline pm_Lline an_Lline cd_Lline ct_Lline), a_Lbent := a_Lbent, d_Lbent := (PySem.W.fnOf "_law_bent" "_law_bent" (defArgs s_Lbent) (defBody s_Lbent) (defScope s_Lbent) .none kV_Lbent dc_Lbent pm_Lbent an_Lbent cd_Lbent ct_Lbent), a_law := fa, d_law := (PySem.W.fnOf "law" "law" (defArgs s_law) (defBody s_law) (defScope s_law) .none kV_law dc_law pm_law an_law (.ref c0) ct_law) }
  have T : TxL K mg z w1 := { xFallenError := PySem.W.mg_of X G gF, clF := clF, tyF := tyF, sbF := sbF, xb := ⟨hn, ht⟩, xNoPattern := XF.of X G gxNoPattern oxNoPattern kpxNoPattern tyxNoPattern saxNoPattern gaxNoPattern ggxNoPattern caxNoPattern, F_npi := F_npi, b_npi := B_npi, iNP := iNP, tNP := tNP, nNP := nNP, xUnlike := XF.of X G gxUnlike oxUnlike kpxUnlike tyxUnlike saxUnlike gaxUnlike ggxUnlike caxUnlike, eUnlike := exUnlike, xNoBit := XF.of X G gxNoBit oxNoBit kpxNoBit tyxNoBit saxNoBit gaxNoBit ggxNoBit caxNoBit, eNoBit := exNoBit, xNoStore := XF.of X G gxNoStore oxNoStore kpxNoStore tyxNoStore saxNoStore gaxNoStore ggxNoStore caxNoStore, F_NoStorei := F_NoStorei, b_NoStorei := B_NoStorei, iNoStore := iNoStore, tNoStore := tNoStore, nNoStore_part := nNoStore_part, nNoStore_at := nNoStore_at, xNoText := XF.of X G gxNoText oxNoText kpxNoText tyxNoText saxNoText gaxNoText ggxNoText caxNoText, F_NoTexti := F_NoTexti, b_NoTexti := B_NoTexti, iNoText := iNoText, tNoText := tNoText, nNoText_line := nNoText_line, ne_NoPattern_F := ne_NoPattern_F, ne_NoPattern_Unlike := ne_NoPattern_Unlike, ne_NoPattern_NoBit := ne_NoPattern_NoBit, ne_NoPattern_NoStore := ne_NoPattern_NoStore, ne_NoPattern_NoText := ne_NoPattern_NoText, ne_Unlike_F := ne_Unlike_F, ne_Unlike_NoPattern := ne_Unlike_NoPattern, ne_Unlike_NoBit := ne_Unlike_NoBit, ne_Unlike_NoStore := ne_Unlike_NoStore, ne_Unlike_NoText := ne_Unlike_NoText, ne_NoBit_F := ne_NoBit_F, ne_NoBit_NoPattern := ne_NoBit_NoPattern, ne_NoBit_Unlike := ne_NoBit_Unlike, ne_NoBit_NoStore := ne_NoBit_NoStore, ne_NoBit_NoText := ne_NoBit_NoText, ne_NoStore_F := ne_NoStore_F, ne_NoStore_NoPattern := ne_NoStore_NoPattern, ne_NoStore_Unlike := ne_NoStore_Unlike, ne_NoStore_NoBit := ne_NoStore_NoBit, ne_NoStore_NoText := ne_NoStore_NoText, ne_NoText_F := ne_NoText_F, ne_NoText_NoPattern := ne_NoText_NoPattern, ne_NoText_Unlike := ne_NoText_Unlike, ne_NoText_NoBit := ne_NoText_NoBit, ne_NoText_NoStore := ne_NoText_NoStore, g_Pattern := PySem.W.mg_of X G gC, crP := ⟨rdC, gaC⟩, vBITS := ⟨_, _, ⟨rdC, gaC⟩, ⟨vBITS, ⟨_, rfl⟩⟩⟩, vBLOCKS := ⟨_, _, ⟨rdC, gaC⟩, ⟨vBLOCKS, ⟨_, rfl⟩⟩⟩, g_Store := PySem.W.mg_of X G gC_Store, crP_Store := ⟨rdC_Store, gaC_Store⟩, g_MOST_BLOCKS := ⟨_, PySem.W.mg_of X G gkMOST_BLOCKS⟩, g_MOST_BITS := ⟨_, PySem.W.mg_of X G gkMOST_BITS⟩, g_MOST_RULES := ⟨_, PySem.W.mg_of X G gkMOST_RULES⟩, g_MOST_CHANGES := ⟨_, PySem.W.mg_of X G gkMOST_CHANGES⟩, g_MOST_NAME_SIGNS := ⟨_, PySem.W.mg_of X G gkMOST_NAME_SIGNS⟩, g_LETTERS := ⟨_, PySem.W.mg_of X G gkLETTERS⟩, g_NAME_SIGNS := ⟨_, PySem.W.mg_of X G gkNAME_SIGNS⟩, g_DIGITS := ⟨_, PySem.W.mg_of X G gkDIGITS⟩, g_MOST_DIGITS := ⟨_, PySem.W.mg_of X G gkMOST_DIGITS⟩, g_MASK_SIGNS := ⟨_, PySem.W.mg_of X G gkMASK_SIGNS⟩, g_has_signs := PySem.W.mg_of X G g_has_signs, k_has_signs := k_has_signs, b_has_signs := B_has_signs, F_has_signs := F_has_signs, g_is_number_word := PySem.W.mg_of X G g_is_number_word, k_is_number_word := k_is_number_word, b_is_number_word := B_is_number_word, F_is_number_word := F_is_number_word, g_are_number_words := PySem.W.mg_of X G g_are_number_words, k_are_number_words := k_are_number_words, b_are_number_words := B_are_number_words, F_are_number_words := F_are_number_words, g_is_name_word := PySem.W.mg_of X G g_is_name_word, k_is_name_word := k_is_name_word, b_is_name_word := B_is_name_word, F_is_name_word := F_is_name_word, g_can_be_store_line := PySem.W.mg_of X G g_can_be_store_line, k_can_be_store_line := k_can_be_store_line, b_can_be_store_line := B_can_be_store_line, F_can_be_store_line := F_can_be_store_line, g_lines_of := PySem.W.mg_of X G g_lines_of, k_lines_of := k_lines_of, b_lines_of := B_lines_of, F_lines_of := F_lines_of, g_read_store := PySem.W.mg_of X G g_read_store, k_read_store := k_read_store, b_read_store := B_read_store, F_read_store := F_read_store, n_abs := PySem.W.mg_none_of X G b_abs, n_all := PySem.W.mg_none_of X G b_all, n_bool := PySem.W.mg_none_of X G b_bool, n_enumerate := PySem.W.mg_none_of X G b_enumerate, n_int := PySem.W.mg_none_of X G b_int, n_isinstance := PySem.W.mg_none_of X G b_isinstance, n_len := PySem.W.mg_none_of X G b_len, n_list := PySem.W.mg_none_of X G b_list, n_range := PySem.W.mg_none_of X G b_range, n_set := PySem.W.mg_none_of X G b_set, n_sorted := PySem.W.mg_none_of X G b_sorted, n_str := PySem.W.mg_none_of X G b_str, n_tuple := PySem.W.mg_none_of X G b_tuple, n_zip := PySem.W.mg_none_of X G b_zip, g_Lpen := PySem.W.mg_of X G g_Lpen, k_Lpen := k_Lpen, b_Lpen := B_Lpen, F_Lpen := F_Lpen, g_Ldraw := PySem.W.mg_of X G g_Ldraw, k_Ldraw := k_Ldraw, b_Ldraw := B_Ldraw, F_Ldraw := F_Ldraw, g_Lpick := PySem.W.mg_of X G g_Lpick, k_Lpick := k_Lpick, b_Lpick := B_Lpick, F_Lpick := F_Lpick, g_Lsizes := PySem.W.mg_of X G g_Lsizes, k_Lsizes := k_Lsizes, b_Lsizes := B_Lsizes, F_Lsizes := F_Lsizes, g_Lname := PySem.W.mg_of X G g_Lname, k_Lname := k_Lname, b_Lname := B_Lname, F_Lname := F_Lname, g_Lnames := PySem.W.mg_of X G g_Lnames, k_Lnames := k_Lnames, b_Lnames := B_Lnames, F_Lnames := F_Lnames, g_Lmask := PySem.W.mg_of X G g_Lmask, k_Lmask := k_Lmask, b_Lmask := B_Lmask, F_Lmask := F_Lmask, g_Lparts := PySem.W.mg_of X G g_Lparts, k_Lparts := k_Lparts, b_Lparts := B_Lparts, F_Lparts := F_Lparts, g_Llines := PySem.W.mg_of X G g_Llines, k_Llines := k_Llines, b_Llines := B_Llines, F_Llines := F_Llines, g_Lheard := PySem.W.mg_of X G g_Lheard, k_Lheard := k_Lheard, b_Lheard := B_Lheard, F_Lheard := F_Lheard, g_Lfirst := PySem.W.mg_of X G g_Lfirst, k_Lfirst := k_Lfirst, b_Lfirst := B_Lfirst, F_Lfirst := F_Lfirst, g_Lline := PySem.W.mg_of X G g_Lline, k_Lline := k_Lline, b_Lline := B_Lline, F_Lline := F_Lline, g_Lbent := PySem.W.mg_of X G g_Lbent, k_Lbent := k_Lbent, b_Lbent := B_Lbent, F_Lbent := F_Lbent }
  have hR : ∀ p ∈ [(Pc0, qLaw)], p.1 = Pc0 → p.2 = qLaw := fun p hp e => by rw [List.mem_singleton.mp hp]
  have one : ∀ {A : Addr × Addr → Prop}, A (c0, Pc0) → ∀ p ∈ [(c0, Pc0)], A p := fun a p hp => by rw [List.mem_singleton.mp hp]; exact a
  refine ⟨(PySem.W.fnOf "law" "law" (defArgs s_law) (defBody s_law) (defScope s_law) .none kV_law dc_law pm_law an_law (.ref c0) ct_law), [(c0, Pc0)], spLaw K [(Pc0, qLaw)], one tbc0, one noc0, one (PySem.W.codeHd_of_K X hdc0), fun s u => .of_eq rfl, fun H a ns hl _ hH hS => ⟨a, ns, rfl, hS, hl, fun p hp => ?_, fun _ => rfl⟩, fun base _ _ TB => ?_⟩
  · rw [List.mem_singleton.mp hp]
    exact LamX.TabS.nil (hH (c0, Pc0) (List.mem_singleton_self _))
  · exact ok_law T l_law c_law (TB (c0, Pc0) (List.mem_singleton_self _)) (List.mem_singleton_self _) hR
end Fb
open PySem PySem.W PyProof.Rows
set_option maxRecDepth 100000 in
set_option maxHeartbeats 0 in
theorem PySem.Challenge.cw_fallenbits_k81_texts_of_stores_refused_holds : PySem.Challenge.rw_fallenbits_k81_texts_of_stores_refused.Holds := by
  w_on; o_law; k_head; (case hw => w_witness2)
  k_fill
  refine LamX.walk_ofTs (l := PySem.Challenge.rw_fallenbits_k81_texts_of_stores_refused) (CX := fun _ => L2.CX0) (n := 63) (k := 8) (x := "_law_script") rfl (by decide) rfl ⟨rfl, by decide, by decide⟩ (fun w h Y => PySem.W.km_in_of Y) ?F (fun _ _ _ _ _ z => z)
  case F =>
    intro w mg fa h Y KX G hmg
    refine' Fb.all_mk KX G hmg ?zz_gF ?zz_clF ?zz_tyF ?zz_sbF ?zz_hn ?zz_ht ?zz_gxNoPattern ?zz_oxNoPattern ?zz_kpxNoPattern ?zz_tyxNoPattern ?zz_saxNoPattern ?zz_gaxNoPattern ?zz_ggxNoPattern ?zz_caxNoPattern ?zz_iNP ?zz_tNP ?zz_l_npi ?zz_c_npi ?zz_k_npi ?zz_nNP ?zz_gxUnlike ?zz_oxUnlike ?zz_kpxUnlike ?zz_tyxUnlike ?zz_saxUnlike ?zz_gaxUnlike ?zz_ggxUnlike ?zz_caxUnlike ?zz_exUnlike ?zz_gxNoBit ?zz_oxNoBit ?zz_kpxNoBit ?zz_tyxNoBit ?zz_saxNoBit ?zz_gaxNoBit ?zz_ggxNoBit ?zz_caxNoBit ?zz_exNoBit ?zz_gxNoStore ?zz_oxNoStore ?zz_kpxNoStore ?zz_tyxNoStore ?zz_saxNoStore ?zz_gaxNoStore ?zz_ggxNoStore ?zz_caxNoStore ?zz_iNoStore ?zz_tNoStore ?zz_l_NoStorei ?zz_c_NoStorei ?zz_k_NoStorei ?zz_nNoStore_part ?zz_nNoStore_at ?zz_gxNoText ?zz_oxNoText ?zz_kpxNoText ?zz_tyxNoText ?zz_saxNoText ?zz_gaxNoText ?zz_ggxNoText ?zz_caxNoText ?zz_iNoText ?zz_tNoText ?zz_l_NoTexti ?zz_c_NoTexti ?zz_k_NoTexti ?zz_nNoText_line ?zz_ne_NoPattern_F ?zz_ne_NoPattern_Unlike ?zz_ne_NoPattern_NoBit ?zz_ne_NoPattern_NoStore ?zz_ne_NoPattern_NoText ?zz_ne_Unlike_F ?zz_ne_Unlike_NoPattern ?zz_ne_Unlike_NoBit ?zz_ne_Unlike_NoStore ?zz_ne_Unlike_NoText ?zz_ne_NoBit_F ?zz_ne_NoBit_NoPattern ?zz_ne_NoBit_Unlike ?zz_ne_NoBit_NoStore ?zz_ne_NoBit_NoText ?zz_ne_NoStore_F ?zz_ne_NoStore_NoPattern ?zz_ne_NoStore_Unlike ?zz_ne_NoStore_NoBit ?zz_ne_NoStore_NoText ?zz_ne_NoText_F ?zz_ne_NoText_NoPattern ?zz_ne_NoText_Unlike ?zz_ne_NoText_NoBit ?zz_ne_NoText_NoStore ?zz_gC ?zz_rdC ?zz_gaC ?zz_vBITS ?zz_vBLOCKS ?zz_gC_Store ?zz_rdC_Store ?zz_gaC_Store ?zz_gkMOST_BLOCKS ?zz_gkMOST_BITS ?zz_gkMOST_RULES ?zz_gkMOST_CHANGES ?zz_gkMOST_NAME_SIGNS ?zz_gkLETTERS ?zz_gkNAME_SIGNS ?zz_gkDIGITS ?zz_gkMOST_DIGITS ?zz_gkMASK_SIGNS ?zz_g_has_signs ?zz_l_has_signs ?zz_c_has_signs ?zz_k_has_signs ?zz_g_is_number_word ?zz_l_is_number_word ?zz_c_is_number_word ?zz_k_is_number_word ?zz_g_are_number_words ?zz_l_are_number_words ?zz_c_are_number_words ?zz_k_are_number_words ?zz_g_is_name_word ?zz_l_is_name_word ?zz_c_is_name_word ?zz_k_is_name_word ?zz_g_can_be_store_line ?zz_l_can_be_store_line ?zz_c_can_be_store_line ?zz_k_can_be_store_line ?zz_g_lines_of ?zz_l_lines_of ?zz_c_lines_of ?zz_k_lines_of ?zz_g_read_store ?zz_l_read_store ?zz_c_read_store ?zz_k_read_store ?zz_b_abs ?zz_b_all ?zz_b_bool ?zz_b_enumerate ?zz_b_int ?zz_b_isinstance ?zz_b_len ?zz_b_list ?zz_b_range ?zz_b_set ?zz_b_sorted ?zz_b_str ?zz_b_tuple ?zz_b_zip ?zz_g_Lpen ?zz_l_Lpen ?zz_c_Lpen ?zz_k_Lpen ?zz_g_Ldraw ?zz_l_Ldraw ?zz_c_Ldraw ?zz_k_Ldraw ?zz_g_Lpick ?zz_l_Lpick ?zz_c_Lpick ?zz_k_Lpick ?zz_g_Lsizes ?zz_l_Lsizes ?zz_c_Lsizes ?zz_k_Lsizes ?zz_g_Lname ?zz_l_Lname ?zz_c_Lname ?zz_k_Lname ?zz_g_Lnames ?zz_l_Lnames ?zz_c_Lnames ?zz_k_Lnames ?zz_g_Lmask ?zz_l_Lmask ?zz_c_Lmask ?zz_k_Lmask ?zz_g_Lparts ?zz_l_Lparts ?zz_c_Lparts ?zz_k_Lparts ?zz_g_Llines ?zz_l_Llines ?zz_c_Llines ?zz_k_Llines ?zz_g_Lheard ?zz_l_Lheard ?zz_c_Lheard ?zz_k_Lheard ?zz_g_Lfirst ?zz_l_Lfirst ?zz_c_Lfirst ?zz_k_Lfirst ?zz_g_Lline ?zz_l_Lline ?zz_c_Lline ?zz_k_Lline ?zz_g_Lbent ?zz_l_Lbent ?zz_c_Lbent ?zz_k_Lbent ?zz_g_law ?zz_l_law ?zz_c_law ?zz_k_law ?zz_lkc0 ?zz_elc0 ?zz_hdc0 ?zz_noc0 ?zz_tbc0
    (case zz_gF => k_is)
    (case zz_clF => k_is)
    (case zz_tyF => k_is)
    (case zz_sbF => k_is)
    (case zz_hn => k_is)
    (case zz_ht => k_is)
    (case zz_gxNoPattern => k_is)
    (case zz_oxNoPattern => k_is)
    (case zz_kpxNoPattern => k_is)
    (case zz_tyxNoPattern => k_is)
    (case zz_saxNoPattern => k_is)
    (case zz_gaxNoPattern => k_is)
    (case zz_ggxNoPattern => k_is)
    (case zz_caxNoPattern => k_is)
    (case zz_iNP => k_is)
    (case zz_tNP => k_is)
    (case zz_l_npi => k_is)
    (case zz_c_npi => k_is)
    (case zz_k_npi => k_is)
    (case zz_nNP => k_is)
    (case zz_gxUnlike => k_is)
    (case zz_oxUnlike => k_is)
    (case zz_kpxUnlike => k_is)
    (case zz_tyxUnlike => k_is)
    (case zz_saxUnlike => k_is)
    (case zz_gaxUnlike => k_is)
    (case zz_ggxUnlike => k_is)
    (case zz_caxUnlike => k_is)
    (case zz_exUnlike => k_exc)
    (case zz_gxNoBit => k_is)
    (case zz_oxNoBit => k_is)
    (case zz_kpxNoBit => k_is)
    (case zz_tyxNoBit => k_is)
    (case zz_saxNoBit => k_is)
    (case zz_gaxNoBit => k_is)
    (case zz_ggxNoBit => k_is)
    (case zz_caxNoBit => k_is)
    (case zz_exNoBit => k_exc)
    (case zz_gxNoStore => k_is)
    (case zz_oxNoStore => k_is)
    (case zz_kpxNoStore => k_is)
    (case zz_tyxNoStore => k_is)
    (case zz_saxNoStore => k_is)
    (case zz_gaxNoStore => k_is)
    (case zz_ggxNoStore => k_is)
    (case zz_caxNoStore => k_is)
    (case zz_iNoStore => k_is)
    (case zz_tNoStore => k_is)
    (case zz_l_NoStorei => k_is)
    (case zz_c_NoStorei => k_is)
    (case zz_k_NoStorei => k_is)
    (case zz_nNoStore_part => k_is)
    (case zz_nNoStore_at => k_is)
    (case zz_gxNoText => k_is)
    (case zz_oxNoText => k_is)
    (case zz_kpxNoText => k_is)
    (case zz_tyxNoText => k_is)
    (case zz_saxNoText => k_is)
    (case zz_gaxNoText => k_is)
    (case zz_ggxNoText => k_is)
    (case zz_caxNoText => k_is)
    (case zz_iNoText => k_is)
    (case zz_tNoText => k_is)
    (case zz_l_NoTexti => k_is)
    (case zz_c_NoTexti => k_is)
    (case zz_k_NoTexti => k_is)
    (case zz_nNoText_line => k_is)
    (case zz_ne_NoPattern_F => decide)
    (case zz_ne_NoPattern_Unlike => decide)
    (case zz_ne_NoPattern_NoBit => decide)
    (case zz_ne_NoPattern_NoStore => decide)
    (case zz_ne_NoPattern_NoText => decide)
    (case zz_ne_Unlike_F => decide)
    (case zz_ne_Unlike_NoPattern => decide)
    (case zz_ne_Unlike_NoBit => decide)
    (case zz_ne_Unlike_NoStore => decide)
    (case zz_ne_Unlike_NoText => decide)
    (case zz_ne_NoBit_F => decide)
    (case zz_ne_NoBit_NoPattern => decide)
    (case zz_ne_NoBit_Unlike => decide)
    (case zz_ne_NoBit_NoStore => decide)
    (case zz_ne_NoBit_NoText => decide)
    (case zz_ne_NoStore_F => decide)
    (case zz_ne_NoStore_NoPattern => decide)
    (case zz_ne_NoStore_Unlike => decide)
    (case zz_ne_NoStore_NoBit => decide)
    (case zz_ne_NoStore_NoText => decide)
    (case zz_ne_NoText_F => decide)
    (case zz_ne_NoText_NoPattern => decide)
    (case zz_ne_NoText_Unlike => decide)
    (case zz_ne_NoText_NoBit => decide)
    (case zz_ne_NoText_NoStore => decide)
    (case zz_gC => k_is)
    (case zz_rdC => k_is)
    (case zz_gaC => k_is)
    (case zz_vBITS => k_is)
    (case zz_vBLOCKS => k_is)
    (case zz_gC_Store => k_is)
    (case zz_rdC_Store => k_is)
    (case zz_gaC_Store => k_is)
    (case zz_gkMOST_BLOCKS => k_is)
    (case zz_gkMOST_BITS => k_is)
    (case zz_gkMOST_RULES => k_is)
    (case zz_gkMOST_CHANGES => k_is)
    (case zz_gkMOST_NAME_SIGNS => k_is)
    (case zz_gkLETTERS => k_is)
    (case zz_gkNAME_SIGNS => k_is)
    (case zz_gkDIGITS => k_is)
    (case zz_gkMOST_DIGITS => k_is)
    (case zz_gkMASK_SIGNS => k_is)
    (case zz_g_has_signs => k_is)
    (case zz_l_has_signs => k_is)
    (case zz_c_has_signs => k_is)
    (case zz_k_has_signs => k_is)
    (case zz_g_is_number_word => k_is)
    (case zz_l_is_number_word => k_is)
    (case zz_c_is_number_word => k_is)
    (case zz_k_is_number_word => k_is)
    (case zz_g_are_number_words => k_is)
    (case zz_l_are_number_words => k_is)
    (case zz_c_are_number_words => k_is)
    (case zz_k_are_number_words => k_is)
    (case zz_g_is_name_word => k_is)
    (case zz_l_is_name_word => k_is)
    (case zz_c_is_name_word => k_is)
    (case zz_k_is_name_word => k_is)
    (case zz_g_can_be_store_line => k_is)
    (case zz_l_can_be_store_line => k_is)
    (case zz_c_can_be_store_line => k_is)
    (case zz_k_can_be_store_line => k_is)
    (case zz_g_lines_of => k_is)
    (case zz_l_lines_of => k_is)
    (case zz_c_lines_of => k_is)
    (case zz_k_lines_of => k_is)
    (case zz_g_read_store => k_is)
    (case zz_l_read_store => k_is)
    (case zz_c_read_store => k_is)
    (case zz_k_read_store => k_is)
    (case zz_b_abs => k_is)
    (case zz_b_all => k_is)
    (case zz_b_bool => k_is)
    (case zz_b_enumerate => k_is)
    (case zz_b_int => k_is)
    (case zz_b_isinstance => k_is)
    (case zz_b_len => k_is)
    (case zz_b_list => k_is)
    (case zz_b_range => k_is)
    (case zz_b_set => k_is)
    (case zz_b_sorted => k_is)
    (case zz_b_str => k_is)
    (case zz_b_tuple => k_is)
    (case zz_b_zip => k_is)
    (case zz_g_Lpen => k_is)
    (case zz_l_Lpen => k_is)
    (case zz_c_Lpen => k_is)
    (case zz_k_Lpen => k_is)
    (case zz_g_Ldraw => k_is)
    (case zz_l_Ldraw => k_is)
    (case zz_c_Ldraw => k_is)
    (case zz_k_Ldraw => k_is)
    (case zz_g_Lpick => k_is)
    (case zz_l_Lpick => k_is)
    (case zz_c_Lpick => k_is)
    (case zz_k_Lpick => k_is)
    (case zz_g_Lsizes => k_is)
    (case zz_l_Lsizes => k_is)
    (case zz_c_Lsizes => k_is)
    (case zz_k_Lsizes => k_is)
    (case zz_g_Lname => k_is)
    (case zz_l_Lname => k_is)
    (case zz_c_Lname => k_is)
    (case zz_k_Lname => k_is)
    (case zz_g_Lnames => k_is)
    (case zz_l_Lnames => k_is)
    (case zz_c_Lnames => k_is)
    (case zz_k_Lnames => k_is)
    (case zz_g_Lmask => k_is)
    (case zz_l_Lmask => k_is)
    (case zz_c_Lmask => k_is)
    (case zz_k_Lmask => k_is)
    (case zz_g_Lparts => k_is)
    (case zz_l_Lparts => k_is)
    (case zz_c_Lparts => k_is)
    (case zz_k_Lparts => k_is)
    (case zz_g_Llines => k_is)
    (case zz_l_Llines => k_is)
    (case zz_c_Llines => k_is)
    (case zz_k_Llines => k_is)
    (case zz_g_Lheard => k_is)
    (case zz_l_Lheard => k_is)
    (case zz_c_Lheard => k_is)
    (case zz_k_Lheard => k_is)
    (case zz_g_Lfirst => k_is)
    (case zz_l_Lfirst => k_is)
    (case zz_c_Lfirst => k_is)
    (case zz_k_Lfirst => k_is)
    (case zz_g_Lline => k_is)
    (case zz_l_Lline => k_is)
    (case zz_c_Lline => k_is)
    (case zz_k_Lline => k_is)
    (case zz_g_Lbent => k_is)
    (case zz_l_Lbent => k_is)
    (case zz_c_Lbent => k_is)
    (case zz_k_Lbent => k_is)
    (case zz_g_law => k_is)
    (case zz_l_law => k_is)
    (case zz_c_law => k_is)
    (case zz_k_law => k_is)
    (case zz_lkc0 => k_is)
    (case zz_elc0 => rfl)
    (case zz_hdc0 => kernel_rfl)
    (case zz_noc0 => kernel_rfl)
    (case zz_tbc0 => exact PySem.W.km_tabs_of Y _ (by k_mem))
