import PyProof.Rows.All
import Wide.All
import OpenK.AllK
import Wide.FinOn
import HandS.ForMost
import HandS.Exc
import HandS.TryOnly
import HandS.ExcOwn
import HandS.WordsExc
import HandS.Flow
import HandS.Wide
import HandS.WideBits
import HandS.Defaults
import HandS.IsInst
import HandS.RaiseMore
import PySem.Challenge.RW_sizechains_k02_fractions_of_integers
set_option Elab.async false
set_option linter.all false
set_option exponentiation.threshold 10000
set_option maxRecDepth 100000
namespace Gd
open PySem PySem.Spec PyProof.Rows L2
def top (i : Nat) : Stmt := PySem.Challenge.pw_sizechains_k02_fractions_of_integers.main.body.getD i (.Pass ⟨0, 0, 0, 0⟩)
abbrev s_InvalidFraction_init : Stmt := inClass (top 2) 0
abbrev s_is_integer : Stmt := top 4
abbrev s_is_positive : Stmt := top 5
abbrev s_common_divisor : Stmt := top 6
abbrev s_lowest_terms : Stmt := top 7
abbrev s_fraction : Stmt := top 8
abbrev s_l_cell : Stmt := top 10
abbrev s_l_pool : Stmt := top 11
abbrev s_l_draw : Stmt := top 12
abbrev s_l_low : Stmt := top 13
abbrev s_l_told_right : Stmt := top 14
abbrev s_l_size : Stmt := top 15
abbrev s_l_right : Stmt := top 16
abbrev s_law : Stmt := top 17
/-! ### base0.lean -/
/-! repr of data at any depth, where no repr is running around -/
structure RRepr (K : PySem.W.Frag) (xs : List V) (H : Hp) (Q : VK) : Prop where
  ex : ∃ (v : V) (d : PyData), xs = [v] ∧ Dp K H v d ∧ isDisplay d = true ∧ d.showable = true ∧ d.hasDict = false ∧ d.depth ≤ 64 ∧ d.shown.length ≤ sizeLine ∧ Q (.str d.shown) H
theorem reprData {X : Cx} (gds : X.A.guards = some []) (room : X.A.units + 70 < cLine) : CallR X (.builtin "repr") (RRepr X.K) := by
  intro pins st sl H xs us Q inv vals want
  obtain ⟨v, d, e, dp, dis, sh, nod, dep, len, q⟩ := want.ex
  subst e
  obtain ⟨u, eu, rel⟩ := vals1 vals
  subst eu
  obtain ⟨as, rd⟩ := Dp.reads inv d v u dp rel
  obtain ⟨a, ea⟩ := isRef_of_reads rd dis
  subst ea
  refine repr_of_reads' rd sh (PyData.noDict_hsm nod) gds (by omega) (fun _ _ z => z) (fun h' u' tk kp => ?_) len
  exact ⟨.str d.shown, H, inv.kept kp, ⟨_, rfl⟩, q⟩

/-! a def's promise where it is known that no repr is running around -/
structure FnG (P : Program) (w : World) (K : PySem.W.Frag) (mg : Str → Option Value) (base : Heap) (CX : CXT) (k : Nat) (f : Addr) (fd : FuncData) (ps : List Str) (sp : Sp) : Prop where
  len : ∀ vs H Q E, sp vs H Q E → vs.length = ps.length
  go : ∀ (A : Around) (out : List Env) (st : Shared) (H : Hp) (as : Args) (us : List Value) (vs : List V) (Q : VK) (E : XK), A.guards = some [] → Room k A → Env0 P w K mg base A out st H →
    BindsTo st fd as (ps.zip us) → Vals vs us → sp vs H Q E → codeAny (model P w) A (.call (.ref f) as) (CR CX out P w H st Q E) st
section
variable {P : Program} {w : World} {K : PySem.W.Frag} {mg : Str → Option Value} {base : Heap} {CX : CXT} {k : Nat} {f : Addr} {fd : FuncData} {ps : List Str} {sp : Sp}
theorem FnG.of (F : FnOk P w K mg base CX k f fd ps sp) : FnG P w K mg base CX k f fd ps sp :=
  ⟨F.len, fun A out st H as us vs Q E _ r e b v h => F.run A out st H as us vs Q E r e b v h⟩
theorem FnG.up {j : Nat} (F : FnG P w K mg base CX j f fd ps sp) (h : j ≤ k) : FnG P w K mg base CX k f fd ps sp :=
  ⟨F.len, fun A out st H as us vs Q E g r e b v s => F.go A out st H as us vs Q E g (r.mono h) e b v s⟩
theorem FnG.imp {sp' : Sp} (F : FnG P w K mg base CX k f fd ps sp) (h : ∀ vs H Q E, sp' vs H Q E → sp vs H Q E) : FnG P w K mg base CX k f fd ps sp' :=
  ⟨fun vs H Q E q => F.len vs H Q E (h _ _ _ _ q), fun A out st H as us vs Q E g r e b v s => F.go A out st H as us vs Q E g r e b v (h _ _ _ _ s)⟩

/-- by the body -/
theorem okG0 {name qual : Str} {params : Arguments} {body : List Stmt} {scope : Scope} {dV kV doc pm cdv ct oc : Value} {an od : Option Addr} {osl : Array (Option Value)} {N : List Str}
    (lk : K.lookup f = some ⟨oc, od, .func (PySem.W.fnOf name qual params body scope dV kV doc pm an cdv ct), osl⟩) (code : PySem.W.codeIn K cdv qual = true) (S : FnScope N ps scope)
    (len : ∀ vs H Q E, sp vs H Q E → vs.length = ps.length)
    (walk : ∀ (A : Around) (out : List Env) (st : Shared) (H : Hp) (vs : List V) (Q : VK) (E : XK), A.guards = some [] → Room k (A.deeper (envOfC qual scope st.heap.objs.size f cdv)) → sp vs H Q E →
      ∃ t, PSs (cxOf CX P w K mg base N qual scope f cdv A out st H E) body t ∧ t { nx := fun _ H' => Q .non H', rt := Q } (start N vs) H) :
    FnG P w K mg base CX (k + 1) f (PySem.W.fnOf name qual params body scope dV kV doc pm an cdv ct) ps sp := by
  refine ⟨len, ?_⟩
  intro A out st H as us vs Q E gds room env binds vals want
  have size := len _ _ _ _ want
  have lim : st.heap.NoLimit := env.mod.nolimit.keeps fun b o e => (env.bs b o e).1
  have inK : K.In st.heap := env.mod.kin.keeps fun b o e => (env.bs b o e).1
  have kinds : ∀ y ∈ ps.zip us, scope.names.lookup y.1 = some .local ∨ (scope.names.lookup y.1 = some .cell ∧ ((cellsFrom (st.heap.objs.size + 1) scope.names []).lookup y.1).isSome = true) := by
    rintro ⟨n, v⟩ mem
    have mem1 : n ∈ ps := (List.of_mem_zip mem).1
    cases S.par n mem1 with
    | inl loc => exact Or.inl loc
    | inr cel => exact Or.inr ⟨cel, PySem.W.cellsFrom_some _ _ _ (Or.inl cel)⟩
  refine codeAny_call_function room.depth (inK _ _ lk) rfl S.co S.gen rfl (PySem.W.codeRec_of inK code) (binds _ _ _ _ ?_)
  refine wpAny_newFunctionEnv_cells S.kind kinds fun en hen s1 inn => ?_
  subst hen
  refine ⟨lim.keeps inn.toInCall.keep, codeAny_func ?_⟩
  obtain ⟨t, term, read⟩ := walk A out st H vs Q E gds (room.deeper _) want
  have inv := inv_start (CX := CX) (E := E) S room.hd env size vals inn
  refine wpAny_mono (term.run [] s1 (start N vs) H _ inv read) (fun fl s' hs => ?_) fun _ _ hs => hs
  have done : ∀ {sl' : L2.St} {H' : Hp} {v : V} {u : Value}, Inv (cxOf CX P w K mg base N qual scope f cdv A out st H E) [] sl' H' s' → RelV v u → Q v H' → CE out P w H st Q u s' := by
    intro sl' H' v u J rel q
    exact ⟨v, H', J.os, J.bare, J.base, J.hok, rel, q⟩
  cases fl with
  | next =>
    obtain ⟨_, _, J, q⟩ := hs
    exact done (v := V.non) (u := Value.none) J rfl q
  | ret u =>
    obtain ⟨_, _, _, J, rel, q⟩ := hs
    exact done J rel q
  | brk => exact (hs.choose_spec.choose_spec.2).elim
  | cont => exact (hs.choose_spec.choose_spec.2).elim

/-- a def of the text without defaults, that lets nothing out -/
theorem okG {x qual : Str} {st : Stmt} {N : List Str} (F : Fun K x qual st f fd) (S : FnScope N ps (defScope st)) (len : ∀ vs H Q E, sp vs H Q E → vs.length = ps.length)
    (walk : ∀ (cdv : Value) (A : Around) (out : List Env) (s : Shared) (H : Hp) (vs : List V) (Q : VK) (E : XK), A.guards = some [] → Room k (A.deeper (envOfC qual (defScope st) s.heap.objs.size f cdv)) → sp vs H Q E →
      ∃ t, PSs (cxOf CX0 P w K mg base N qual (defScope st) f cdv A out s H E).nox (defBody st) t ∧ t { nx := fun _ H' => Q .non H', rt := Q } (start N vs) H) :
    FnG P w K mg base CX0 (k + 1) f fd ps sp := by
  obtain ⟨_, _, _, _, _, _, cdv, _, _, e, lk, code⟩ := F.ex
  subst e
  refine okG0 lk code S len ?_
  intro A out s H vs Q E g r want
  obtain ⟨t, term, read⟩ := walk cdv A out s H vs Q E g r want
  exact ⟨t, term.nox, read⟩
/-- one with defaults, that lets nothing out -/
theorem okD {x qual : Str} {st : Stmt} {N : List Str} {dvs : List V} (F : FunD K x qual (defArgs st) (defBody st) (defScope st) dvs [] f fd) (S : FnScope N ps (defScope st)) (len : ∀ vs H Q E, sp vs H Q E → vs.length = ps.length)
    (walk : ∀ (cdv : Value) (A : Around) (out : List Env) (s : Shared) (H : Hp) (vs : List V) (Q : VK) (E : XK), A.guards = some [] → Room k (A.deeper (envOfC qual (defScope st) s.heap.objs.size f cdv)) → sp vs H Q E →
      ∃ t, PSs (cxOf CX0 P w K mg base N qual (defScope st) f cdv A out s H E).nox (defBody st) t ∧ t { nx := fun _ H' => Q .non H', rt := Q } (start N vs) H) :
    FnG P w K mg base CX0 (k + 1) f fd ps sp := by
  obtain ⟨_, _, _, _, _, _, _, cdv, _, _, e, lk, code, _, _⟩ := F.ex
  subst e
  refine okG0 lk code S len ?_
  intro A out s H vs Q E g r want
  obtain ⟨t, term, read⟩ := walk cdv A out s H vs Q E g r want
  exact ⟨t, term.nox, read⟩
end

/-! calls -/
section
variable {X : Cx} {CX : CXT} {k n : Nat} {f : Addr} {fd : FuncData} {ps ks : List Str} {sp : Sp} {dvs : List V} {ds : List Value} {E : XK} {x : Str} {p pos : Pos} {e : Expr} {es : List Expr} {kws : List Keyword} {t tk : TA} {g : List Value → List Value → List Value} {gV : List V → List V → List V}
theorem goG {pins : List (Addr × Obj)} {sl : L2.St} {H : Hp} {s : Shared} {Q : VK} {us0 us : List Value} {kw : List (Str × Value)} {vs : List V} (F : FnG X.prog X.w X.K X.mg X.base CX k f fd ps sp) (gds : X.A.guards = some []) (hr : Room k X.A) (hx : Passes CX X E)
    (inv : Inv X pins sl H s) (b : BindsTo s fd ⟨us0, kw⟩ (ps.zip us)) (r : Vals vs us) (want : sp vs H Q E) : wpAny (model X.prog X.w) X.A (call (.ref f) us0 kw) (EP X pins sl Q) X.xe s := by
  refine wpAny_call (codeAny_mono (F.go X.A X.stack s H ⟨us0, kw⟩ us vs Q E gds hr inv.env0 b r want) fun r s' got => ?_)
  cases r with
  | error e => exact hx pins sl H s e s' inv got
  | ok fl =>
    cases fl with
    | ret u => exact inv.after got
    | next => exact got.elim
    | brk => exact got.elim
    | cont => exact got.elim
theorem callG (F : FnG X.prog X.w X.K X.mg X.base CX k f fd ps sp) (gds : X.A.guards = some []) (hr : Room k X.A) (hg : Gl X x) (hm : X.mg x = some (.ref f)) (hk : PySem.W.keepIn X.K (.ref f) = true) (hb : Binds X.K fd ps ds) (hd : Vals dvs ds) (hx : Passes CX X E)
    (ha : PA X (e :: es) t) (hdb : (x == ("__debug__" : Str)) = false := by decide) (he : starEach (e :: es) X.env = (false, eval e X.env) :: starEach es X.env := by rfl) (hpl : (backTo pos (starEach es X.env)).any (·.1) = false := by rfl) :
    PE X (.Call (.Name x p) (e :: es) [] pos) (tCall sp dvs E t) := by
  constructor
  intro pins s sl H Q inv want
  refine wpAny_Call_Name_kw (ld_glob inv hg hm ?_ hdb)
  refine PySem.W.callWith_K (h₀ := X.base) inv.ok.mod.kin hk (thn (ha.run pos pins s sl H _ inv want) ?_) he hpl
  rintro us s1 ⟨vs, H1, inv1, rel, q⟩
  refine ⟨inv1.kIn, ?_⟩
  have rel2 : Vals (vs ++ dvs) (us ++ ds) := rel.append hd
  have sz : (us ++ ds).length = ps.length := rel2.length.symm.trans (F.len _ _ _ _ q)
  exact goG F gds hr hx inv1 (hb s1 us inv1.kIn sz) rel2 q
theorem callG0 (F : FnG X.prog X.w X.K X.mg X.base CX k f fd ps sp) (gds : X.A.guards = some []) (hr : Room k X.A) (hg : Gl X x) (hm : X.mg x = some (.ref f)) (hk : PySem.W.keepIn X.K (.ref f) = true) (hb : Binds X.K fd ps ds) (hd : Vals dvs ds) (hx : Passes CX X E)
    (hdb : (x == ("__debug__" : Str)) = false := by decide) : PE X (.Call (.Name x p) [] [] pos) (tCall sp dvs E tNil) := by
  constructor
  intro pins s sl H Q inv want
  refine wpAny_Call_Name_kw (ld_glob inv hg hm ?_ hdb)
  refine PySem.W.callWith_K0 inv.kIn hk ?_
  have q : sp dvs H Q E := want
  have sz : (([] : List Value) ++ ds).length = ps.length := hd.length.symm.trans (F.len _ _ _ _ q)
  exact goG F gds hr hx inv (hb s [] inv.kIn sz) hd q
/-- f(e, .., k = v, ..) -/
theorem callGN (F : FnG X.prog X.w X.K X.mg X.base CX k f fd ps sp) (gds : X.A.guards = some []) (hr : Room k X.A) (hg : Gl X x) (hm : X.mg x = some (.ref f)) (hk : PySem.W.keepIn X.K (.ref f) = true) (hb : KBn X.K fd ps n ks g gV) (hx : Passes CX X E)
    (ha : PA X (e :: es) t) (hkw : PK X kws tk) (hall : (backToKw pos (keywordEach kws X.env)).all (·.1.isSome) = true := by rfl) (hks : (backToKw pos (keywordEach kws X.env)).filterMap (·.1) = ks := by rfl)
    (hdb : (x == ("__debug__" : Str)) = false := by decide) (he : starEach (e :: es) X.env = (false, eval e X.env) :: starEach es X.env := by rfl)
    (hpl : ((backTo pos (starEach (e :: es) X.env)).any (·.1) || (backToKw pos (keywordEach kws X.env)).any (·.1.isNone)) = false := by rfl) :
    PE X (.Call (.Name x p) (e :: es) kws pos) (tCallN n ks.length sp gV E t tk) := by
  constructor
  intro pins s sl H Q inv want
  refine wpAny_Call_Name_kw (ld_glob inv hg hm ?_ hdb)
  refine PySem.W.callWith_KW (h₀ := X.base) inv.ok.mod.kin hk hall (thn (ha.run pos pins s sl H _ inv want) ?_) hpl he
  rintro us s1 ⟨vs, H1, inv1, rel, q⟩
  refine thn (hkw.run pos pins s1 sl H1 _ inv1 q) ?_
  rintro ws s2 ⟨zs, H2, inv2, relz, l1, l2, q2⟩
  refine ⟨inv2.kIn, ?_⟩
  rw [hks]
  exact goG F gds hr hx inv2 (hb.to s2 us ws inv2.kIn (rel.length.symm.trans l1) (relz.length.symm.trans l2)) (hb.rel rel relz) q2
/-- f(k = v, ..) -/
theorem callGK (F : FnG X.prog X.w X.K X.mg X.base CX k f fd ps sp) (gds : X.A.guards = some []) (hr : Room k X.A) (hg : Gl X x) (hm : X.mg x = some (.ref f)) (hk : PySem.W.keepIn X.K (.ref f) = true) (hb : KBn X.K fd ps 0 ks g gV) (hx : Passes CX X E)
    (hkw : PK X kws tk) (hall : (backToKw pos (keywordEach kws X.env)).all (·.1.isSome) = true := by rfl) (hks : (backToKw pos (keywordEach kws X.env)).filterMap (·.1) = ks := by rfl)
    (hdb : (x == ("__debug__" : Str)) = false := by decide)
    (hpl : ((backTo pos (starEach [] X.env)).any (·.1) || (backToKw pos (keywordEach kws X.env)).any (·.1.isNone)) = false := by rfl) :
    PE X (.Call (.Name x p) [] kws pos) (tCallN 0 ks.length sp gV E tNil tk) := by
  constructor
  intro pins s sl H Q inv want
  refine wpAny_Call_Name_kw (ld_glob inv hg hm ?_ hdb)
  refine PySem.W.callWith_KW0 (h₀ := X.base) inv.ok.mod.kin hk hall ?_ hpl
  refine thn (hkw.run pos pins s sl H _ inv want) ?_
  rintro ws s2 ⟨zs, H2, inv2, relz, l1, l2, q2⟩
  refine ⟨inv2.kIn, ?_⟩
  rw [hks]
  exact goG F gds hr hx inv2 (hb.to s2 [] ws inv2.kIn rfl (relz.length.symm.trans l2)) (hb.rel .nil relz) q2
end
/-! ### base1.lean -/
/-! the end: the law's promise at the heap behind the top -/
section
variable {P : Program} {w : World} {K : PySem.W.Frag} {mg mb : Str → Option Value} {k : Nat} {fa a : Addr} {fd : FuncData} {x : Str} {sp : Sp} {st : Shared} {vs : List Value} {ns : List Int}
/-- from one abstract heap in which the script alone may be tracked -/
theorem endCore (inK : K.In st.heap) (hns : st.heap.Ns mainGlobals mg) (hb : st.heap.Ns builtinsNs mb) (hbb : ∀ x : Str, x ≠ "__name__" → mb x = bootBuiltins x) (lim : st.heap.NoLimit) (gens : st.gens = #[])
    (ha : st.heap.get? a = some { cls := .type "list", data := .seq vs.toArray }) (hr : Room k callerA)
    (F : ∀ base : Heap, K.In base → base.Ns mainGlobals mg → FnG P w K mg base CX0 k fa fd [x] sp) (bind : ∀ (s : Shared) (u : Value), BindsTo s fd ⟨[u], []⟩ [(x, u)])
    {H : Hp} (only : Only H) (ok : HOk P w H st.heap) (one : ∀ b, H b ≠ none → b = a) (notK : H a ≠ none → K.lookup a = none) (want : sp [.ref a] H (fun v _ => v = .bl true) fun _ _ _ => False) :
    codeAny (model P w) callerA (.call (.ref fa) ⟨[.ref a], []⟩) (fun r s' => r = .ok (.ret (.bool true)) ∧ OldK st.heap s'.heap ∧ s'.os = st.os ∧ AllBare s'.gens) st := by
  have untracked : ∀ {b : Addr} {o : Obj}, st.heap.get? b = some o → (b = a → o.data ≠ .seq vs.toArray) → H b = none := by
    intro b o e n
    refine Option.eq_none_iff_forall_ne_some.mpr fun u z => ?_
    have eb := one b (by rw [z]; exact fun t => nomatch t)
    subst eb
    rw [ha] at e
    cases e
    exact n rfl rfl
  have toBase : ∀ {b : Addr} {m : Str → Option Value}, st.heap.Ns b m → (hidT st.heap H).Ns b m := by
    rintro b m ⟨o, es, ep, e, d, r⟩
    refine ⟨o, es, ep, hidT_get e (untracked e fun _ z => ?_), d, r⟩
    rw [d] at z
    cases z
  have inBase : K.In (hidT st.heap H) := by
    intro b o e
    refine hidT_get (inK b o e) (Option.eq_none_iff_forall_ne_some.mpr fun u z => ?_)
    have nn : H b ≠ none := by rw [z]; exact fun t => nomatch t
    have eb := one b nn
    subst eb
    rw [notK nn] at e
    cases e
  obtain ⟨mc, l1, l2⟩ := lim
  have md : Mod K mg (hidT st.heap H) := ⟨inBase, toBase hns, ⟨mb, toBase hb, hbb⟩, ⟨mc, toBase l1, l2⟩⟩
  have e0 : Env0 P w K mg (hidT st.heap H) callerA [] st H := by
    refine ⟨rfl, md, fun b o e => of_hidT e, Nat.le_of_eq (hidT_size _ _), trivial, fun b hb => ?_, ok, .of_eq gens⟩
    cases hb
  refine codeAny_mono ((F _ inBase md.glob).go callerA [] st H ⟨[.ref a], []⟩ [.ref a] [.ref a] _ _ rfl hr e0 (bind st (.ref a)) (.cons rfl .nil) want) fun r s' got => ?_
  cases r with
  | error e => exact got.elim
  | ok fl =>
    cases fl with
    | next => exact got.elim
    | brk => exact got.elim
    | cont => exact got.elim
    | ret u =>
      obtain ⟨v, H', os, bare, un, ok', rel, q⟩ := got
      have q2 : v = .bl true := q
      subst q2
      have q3 : u = Value.bool true := rel
      subst q3
      refine ⟨rfl, OldK.of_keep ?_, os, bare⟩
      intro b o e
      rcases only b with z | ⟨ob, xs, z⟩
      · refine un.keep b o e z (fun m => ?_) (by simp)
        cases m
      · have z2 := un.frzs b ob _ z
        obtain ⟨e1, _⟩ := ok b _ z
        obtain ⟨e2, _⟩ := ok' b _ z2
        rw [e1] at e
        cases e
        exact e2

theorem endCall (inK : K.In st.heap) (hns : st.heap.Ns mainGlobals mg) (hb : st.heap.Ns builtinsNs mb) (hbb : ∀ x : Str, x ≠ "__name__" → mb x = bootBuiltins x) (lim : st.heap.NoLimit) (gens : st.gens = #[])
    (ha : st.heap.get? a = some { cls := .type "list", data := .seq vs.toArray }) (hi : IntsAre vs ns) (hl : ns.length ≤ sizeLine) (hr : Room k callerA)
    (F : ∀ base : Heap, K.In base → base.Ns mainGlobals mg → FnG P w K mg base CX0 k fa fd [x] sp) (bind : ∀ (s : Shared) (u : Value), BindsTo s fd ⟨[u], []⟩ [(x, u)])
    (want : ∀ H : Hp, Only H → SqL K H a (ns.map V.int) → sp [.ref a] H (fun v _ => v = .bl true) fun _ _ _ => False) :
    codeAny (model P w) callerA (.call (.ref fa) ⟨[.ref a], []⟩) (fun r s' => r = .ok (.ret (.bool true)) ∧ OldK st.heap s'.heap ∧ s'.os = st.os ∧ AllBare s'.gens) st := by
  have rv := vals_ints hi
  cases hk : K.lookup a with
  | some o =>
    have e := inK a o hk
    rw [ha] at e
    cases e
    have seq : SqL K (fun _ => none) a (ns.map V.int) := .inr ⟨_, vs.toArray, _, hk, rfl, rfl, rfl, by rw [List.size_toArray, hi.length]; exact hl, by simpa using rv⟩
    refine endCore inK hns hb hbb lim gens ha hr F bind (fun _ => .inl rfl) ?_ (fun b z => absurd rfl z) (fun z => absurd rfl z) (want _ (fun _ => .inl rfl) seq)
    intro b u z
    cases (show (none : Option HO) = some u from z)
  | none =>
    have at_a : (fun b => if b = a then some (HO.frz { cls := .type "list", data := .seq vs.toArray } (.lst (ns.map V.int))) else none) a = some (HO.frz { cls := .type "list", data := .seq vs.toArray } (.lst (ns.map V.int))) := if_pos rfl
    have only : Only (fun b => if b = a then some (HO.frz { cls := .type "list", data := .seq vs.toArray } (.lst (ns.map V.int))) else none) := by
      intro b
      by_cases e : b = a
      · exact .inr ⟨_, _, if_pos e⟩
      · exact .inl (if_neg e)
    refine endCore inK hns hb hbb lim gens ha hr F bind only ?_ (fun b z => ?_) (fun _ => hk) (want _ only (.inl (.inr ⟨_, at_a⟩)))
    · intro b u z
      by_cases e : b = a
      · subst e
        cases (at_a.symm.trans z)
        exact ⟨ha, by rw [List.length_map]; exact hl, vs, _, rv, ha⟩
      · cases ((if_neg e).symm.trans z)
    · by_cases e : b = a
      · exact e
      · exact absurd (if_neg e) z
end

theorem walkG {l : PySem.W.OpenLaw} {n k : Nat} {q : Program} {loose : List Str} {XP : (Str → Option Value) → Heap → Prop} {YP : World → Heap → Prop} {d : DefRec} {K : Params → PySem.W.Frag} {sp : PySem.W.Frag → Sp} {x : Str}
    (hn : l.most = some n) (hn2 : n ≤ sizeLine) (hdf : d.params.defaults = []) (hr : Room k callerA) (hY : ∀ (w : World) (h : Heap), YP w h → (K w.params).In h)
    (F : ∀ (w : World) (mg : Str → Option Value) (fa : Addr) (h : Heap), (K w.params).In h → h.Ns mainGlobals mg → mg d.name = some (.ref fa) →
      ∃ fd : FuncData, (∀ (s : Shared) (u : Value), BindsTo s fd ⟨[u], []⟩ [(x, u)]) ∧ ∀ base : Heap, (K w.params).In base → base.Ns mainGlobals mg → FnG l.prog w (K w.params) mg base CX0 k fa fd [x] (sp (K w.params)))
    (want : ∀ (K : PySem.W.Frag) (H : Hp) (a : Addr) (ns : List Int), ns.length ≤ n → Only H → SqL K H a (ns.map V.int) → sp K [.ref a] H (fun v _ => v = .bl true) fun _ _ _ => False) :
    PySem.W.WalkO q loose XP YP l.row.toRowW d [] (fun f vs => PySem.call f vs) := by
  refine Att.attach_call hn hdf ?_
  intro w s₀ s₁ mg mb fa o pm cd doc a vs ns G Y ho hd hcd hmg hobj hints hlen hg
  obtain ⟨fd, hb, hF⟩ := F w mg fa _ (hY w _ Y) G.T.g hmg
  exact endCall (hY w _ Y) G.T.g G.T.b G.T.builtins G.T.nolimit hg hobj hints (Nat.le_trans hlen hn2) hr hF hb fun H only seq => want (K w.params) H a ns hlen only seq

/-! arguments where some parameters have defaults -/
theorem bindD {K : PySem.W.Frag} {x qual : Str} {params : Arguments} {body : List Stmt} {scope : Scope} {dvs : List V} {f : Addr} {fd : FuncData} {ps : List Str}
    (F : FunD K x qual params body scope dvs [] f fd) (n : Nat) (ks : List Str) (g : {α : Type} → List α → List α → List α → List α) (some_ : dvs ≠ [])
    (rel : ∀ {vs ds zs : List V} {us its ws : List Value}, Vals vs us → Vals ds its → Vals zs ws → Vals (g vs ds zs) (g us its ws))
    (h : ∀ (T : Addr) (kV doc pm : Value) (an : Option Addr) (cdv ct : Value) (us its ws : List Value), us.length = n → its.length = dvs.length → ws.length = ks.length →
      ∃ k, bindArgs (PySem.W.fnOf x qual params body scope (.ref T) kV doc pm an cdv ct) ⟨us, ks.zip ws⟩ = seqItems? (.ref T) >>= k ∧ k (some its.toArray) = pure (ps.zip (g us its ws))) :
    ∃ its : List Value, KBn K fd ps n ks (fun us ws => g us its ws) (fun vs zs => g vs dvs zs) := by
  obtain ⟨oc, od, dV, kV, doc, pm, an, cdv, ct, osl, e, lk, hcd, hD, hK⟩ := F.ex
  subst e
  rcases hD with ⟨e, _⟩ | ⟨_, T, o, its, m, e, lT, oT, rT⟩
  · exact absurd e some_
  · subst e
    refine ⟨its, ⟨fun s us ws inK l1 l2 => ?_, fun r1 r2 => rel r1 rT r2⟩⟩
    obtain ⟨k, e1, e2⟩ := h T kV doc pm an cdv ct us its ws l1 rT.length.symm l2
    refine BindsTo.of_looks fun M => ?_
    rw [e1]
    exact looks_items inK lT oT (.of_pure e2)
/-- the same without any default -/
theorem bindN {K : PySem.W.Frag} {x qual : Str} {st : Stmt} {f : Addr} {fd : FuncData} {ps : List Str} (F : Fun K x qual st f fd) (n : Nat) (ks : List Str) (g : {α : Type} → List α → List α → List α)
    (rel : ∀ {vs zs : List V} {us ws : List Value}, Vals vs us → Vals zs ws → Vals (g vs zs) (g us ws))
    (h : ∀ (kV doc pm : Value) (an : Option Addr) (cdv ct : Value) (us ws : List Value), us.length = n → ws.length = ks.length →
      bindArgs (PySem.W.fnOf x qual (defArgs st) (defBody st) (defScope st) .none kV doc pm an cdv ct) ⟨us, ks.zip ws⟩ = pure (ps.zip (g us ws))) :
    KBn K fd ps n ks (fun us ws => g us ws) (fun vs zs => g vs zs) := by
  obtain ⟨oc, od, kV, doc, pm, an, cdv, ct, osl, e, lk, hcd⟩ := F.ex
  subst e
  exact ⟨fun s us ws _ l1 l2 => .of_eq (h kV doc pm an cdv ct us ws l1 l2), fun r1 r2 => rel r1 r2⟩
/-! ### sm.lean -/
/-! what repr shows is short enough: a bound of its depth and of its length -/
structure Sm (k n : Nat) (d : PyData) : Prop where
  sh : d.showable = true
  nd : d.hasDict = false
  dp : d.depth ≤ k
  ln : d.shown.length ≤ n
structure SmL (k n : Nat) (ds : List PyData) : Prop where
  sh : PyData.showableAll ds = true
  nd : PyData.hasDictAll ds = false
  dp : PyData.depthAll ds ≤ k
  ln : ((PyData.shownAll ds).map (·.length)).sum + 2 * ds.length ≤ n
theorem Sm.up {j k n m : Nat} {d : PyData} (h : Sm j n d) (le2 : j ≤ k) (le : n ≤ m) : Sm k m d := ⟨h.sh, h.nd, Nat.le_trans h.dp le2, Nat.le_trans h.ln le⟩
theorem SmL.nil {k : Nat} : SmL k 0 [] := ⟨by simp only [PyData.showableAll], by simp only [PyData.hasDictAll], by simp only [PyData.depthAll]; omega, by rw [PyData.shownAll_nil]; exact Nat.le_refl _⟩
theorem SmL.cons {k n m : Nat} {d : PyData} {ds : List PyData} (h : Sm k n d) (t : SmL k m ds) : SmL k (n + m + 2) (d :: ds) := by
  refine ⟨by simp only [PyData.showableAll, h.sh, t.sh, Bool.and_self], by simp only [PyData.hasDictAll, h.nd, t.nd, Bool.or_self], ?_, ?_⟩
  · have h1 := h.dp
    have h2 := t.dp
    simp only [PyData.depthAll]
    omega
  · have h1 := h.ln
    have h2 := t.ln
    rw [PyData.shownAll_cons]
    simp only [List.map_cons, List.sum_cons, List.length_cons]
    omega
theorem Sm.lst {k n : Nat} {ds : List PyData} (h : SmL k n ds) : Sm (k + 1) (n + 3) (.list ds) := by
  refine ⟨by simp only [PyData.showable, h.sh], by simp only [PyData.hasDict, h.nd], ?_, ?_⟩
  · have := h.dp
    simp only [PyData.depth]
    omega
  · have h1 := h.ln
    have h2 := listText_len_le (PyData.shownAll ds)
    rw [PyData.shownAll_length] at h2
    simp only [PyData.shown]
    omega
theorem Sm.tup {k n : Nat} {ds : List PyData} (h : SmL k n ds) : Sm (k + 1) (n + 3) (.tuple ds) := by
  refine ⟨by simp only [PyData.showable, h.sh], by simp only [PyData.hasDict, h.nd], ?_, ?_⟩
  · have := h.dp
    simp only [PyData.depth]
    omega
  · have h1 := h.ln
    have h2 := tupleText_len_le (PyData.shownAll ds)
    rw [PyData.shownAll_length] at h2
    simp only [PyData.shown]
    omega
theorem two_ten : (2 : Nat) ^ 1900 < 10 ^ 600 := by decide +kernel
theorem intlen {i : Int} (h : i.natAbs < 2 ^ 1900) : (Str.ofString (toString i)).length ≤ 601 := by
  rw [PySem.ofString_length]
  exact PySem.int_text_length_le10 (k := 600) (by decide) (Nat.lt_trans h two_ten)
theorem Sm.int {i : Int} (h : i.natAbs < 2 ^ 1900) : Sm 1 601 (.int i) := by
  have l : i.natAbs.log2 < 1900 := PySem.Flt.log2_lt_of (by decide) h
  refine ⟨?_, by simp only [PyData.hasDict], by simp only [PyData.depth]; omega, ?_⟩
  · have := PyData.showableAll_ints [i] (fun n m => by rw [List.mem_singleton.mp m]; omega)
    simpa only [List.map_cons, List.map_nil, PyData.showableAll, Bool.and_true] using this
  · rw [PyData.shown_int]
    exact intlen h
theorem Sm.bool (b : Bool) : Sm 1 5 (.bool b) := by
  refine ⟨by simp only [PyData.showable], by simp only [PyData.hasDict], by simp only [PyData.depth]; omega, ?_⟩
  rw [PyData.shown_bool]
  cases b <;> decide
/-- equal pairs of ints -/
theorem Sm.pair {a b : Int} (ha : a.natAbs < 2 ^ 1900) (hb : b.natAbs < 2 ^ 1900) : Sm 2 1300 (.tuple [.int a, .int b]) := (Sm.tup ((SmL.cons (Sm.int ha) (SmL.cons (Sm.int hb) SmL.nil)))).up (by decide) (by decide)
/-- what the rule of repr asks, at once -/
theorem repQ {K : PySem.W.Frag} {H : Hp} {Q : VK} {v : V} {d : PyData} {k n : Nat} (dp : Dp K H v d) (dis : isDisplay d = true) (sm : Sm k n d) (hk : k ≤ 64) (hn : n ≤ 16777216) (q : Q (.str d.shown) H) :
    RRepr K [v] H Q :=
  ⟨v, d, rfl, dp, dis, sm.sh, sm.nd, Nat.le_trans sm.dp hk, Nat.le_trans sm.ln (by rw [sizeLine_eq]; exact hn), q⟩
/-! ### exact_low.lean -/
/-! heaps -/
theorem same_upd {H : Hp} {p : Addr} {o : HO} (h : H p = none) : Same H (upd H p o) := fun b u q => by rw [upd_ne (ne_of_none q h)]; exact q

/-! is a value a positive int -/
def isPos : V → Bool
  | .int i => decide (0 < i)
  | _ => false
/-- the value is of a type that is no int -/
def NoInt (K : PySem.W.Frag) (H : Hp) (v : V) : Prop := ∃ t, TyX K H v t ∧ PySem.W.kitOne K t (.type "int") = some false
inductive Any (K : PySem.W.Frag) (H : Hp) : V → Prop where
  | int (i : Int) : Any K H (.int i)
  | bl (b : Bool) : Any K H (.bl b)
  | no {v : V} (h : NoInt K H v) : Any K H v
theorem NoInt.isPos {K : PySem.W.Frag} {H : Hp} {v : V} (h : NoInt K H v) : isPos v = false := by
  obtain ⟨t, ty, e⟩ := h
  cases v with
  | int i =>
    cases ty with
    | base b =>
      cases b with
      | int =>
        have z : PySem.W.kitOne K (.type "int") (.type "int") = some true := kit_ty (by decide +kernel)
        rw [z] at e
        cases e
  | _ => rfl
def isInt : V → Bool
  | .int _ => true
  | _ => false
theorem NoInt.isInt {K : PySem.W.Frag} {H : Hp} {v : V} (h : NoInt K H v) : isInt v = false := by
  obtain ⟨t, ty, e⟩ := h
  cases v with
  | int i =>
    cases ty with
    | base b =>
      cases b with
      | int =>
        have z : PySem.W.kitOne K (.type "int") (.type "int") = some true := kit_ty (by decide +kernel)
        rw [z] at e
        cases e
  | _ => rfl
def spIsInt (K : PySem.W.Frag) : Sp := fun vs H Q _ => ∃ v, vs = [v] ∧ Any K H v ∧ Q (.bl (isInt v)) H
def spIsPos (K : PySem.W.Frag) : Sp := fun vs H Q _ => ∃ v, vs = [v] ∧ Any K H v ∧ Q (.bl (isPos v)) H
section
variable {P : Program} {w : World} {K : PySem.W.Frag} {mg : Str → Option Value} {base : Heap} {f : Addr} {fd : FuncData}
theorem scIsInt : FnScope ["value"] ["value"] (defScope s_is_integer) := ⟨rfl, rfl, rfl, by decide +kernel, rfl, by decide +kernel, by decide +kernel⟩
theorem ok_is_integer (F : Fun K "is_integer" "is_integer" s_is_integer f fd) (m1 : mg "isinstance" = none) (m2 : mg "int" = none) (m3 : mg "bool" = none) :
    FnOk P w K mg base CX0 1 f fd ["value"] (spIsInt K) := by
  refine F.ok scIsInt (fun vs H Q E h => ?_) (fun cdv A outer s H vs Q E hr h => ?_)
  · obtain ⟨v, rfl, _⟩ := h
    rfl
  obtain ⟨v, rfl, a, q⟩ := h
  refine ⟨_, pss_one (ps_ret (pe_and (pe_callB call_isi (by rfl) m1 PyProof.Rows.boot_isinstance (pa_cons (pv 0) (pa_cons (pe_bltn (v := .ty "int") (by rfl) m2 PyProof.Rows.boot_int rfl) pa_nil)))
    (pe_one (pe_not (pe_callB call_isi (by rfl) m1 PyProof.Rows.boot_isinstance (pa_cons (pv 0) (pa_cons (pe_bltn (v := .ty "bool") (by rfl) m3 PyProof.Rows.boot_bool rfl) pa_nil))))))), ?_⟩
  cases a with
  | int i =>
    refine ⟨_, rfl, _, _, _, _, true, rfl, .ty "int", .base (.int i), kit_ty (by decide +kernel), _, rfl, iteT ?_⟩
    exact ⟨_, rfl, _, _, _, _, false, rfl, .ty "bool", .base (.int i), kit_ty (by decide +kernel), _, rfl, q⟩
  | bl b =>
    refine ⟨_, rfl, _, _, _, _, true, rfl, .ty "int", .base (.bl b), kit_ty (by decide +kernel), _, rfl, iteT ?_⟩
    exact ⟨_, rfl, _, _, _, _, true, rfl, .ty "bool", .base (.bl b), kit_ty (by decide +kernel), _, rfl, q⟩
  | no h =>
    rw [h.isInt] at q
    obtain ⟨t, ty, e⟩ := h
    exact ⟨_, rfl, _, _, _, _, false, rfl, .ty "int", ty, e, _, rfl, iteF q⟩
theorem scIsPos : FnScope ["value"] ["value"] (defScope s_is_positive) := ⟨rfl, rfl, rfl, by decide +kernel, rfl, by decide +kernel, by decide +kernel⟩
theorem ok_is_positive {g0 : Addr} {gd0 : FuncData} (F : Fun K "is_positive" "is_positive" s_is_positive f fd)
    (G0 : FnOk P w K mg base CX0 1 g0 gd0 ["value"] (spIsInt K)) (b0 : Binds K gd0 ["value"] []) (k0 : PySem.W.keepIn K (.ref g0) = true) (m0 : mg "is_integer" = some (.ref g0)) :
    FnOk P w K mg base CX0 2 f fd ["value"] (spIsPos K) := by
  refine F.ok scIsPos (fun vs H Q E h => ?_) (fun cdv A outer s H vs Q E hr h => ?_)
  · obtain ⟨v, rfl, _⟩ := h
    rfl
  obtain ⟨v, rfl, a, q⟩ := h
  refine ⟨_, pss_one (ps_ret (pe_and (pe_call G0 hr rfl m0 k0 b0 .nil pass0 (pa_cons (pv 0) pa_nil)) (pe_one (pe_cmpR op_gt (pv 0) pe_int (nomark _))))), ?_⟩
  refine ⟨_, rfl, v, rfl, a, ?_⟩
  cases a with
  | int i => exact ⟨_, rfl, iteT ⟨_, rfl, _, _, rfl, rfl, q⟩⟩
  | bl b => exact ⟨_, rfl, iteF q⟩
  | no h =>
    rw [h.isInt]
    rw [h.isPos] at q
    exact ⟨_, rfl, iteF q⟩

/-! the greatest common divisor -/
def gcdI (a b : Int) : Int := (Int.gcd a b : Int)
theorem gcdI_step {a b : Int} (hb : 0 < b) : gcdI b (a.fmod b) = gcdI a b := by
  unfold gcdI
  rw [Int.fmod_eq_emod_of_nonneg a (by omega), Int.gcd_comm a b, Int.emod_def, Int.mul_comm b, Int.gcd_sub_mul_right_right]
theorem gcdI_zero {a : Int} (ha : 0 < a) : gcdI a 0 = a := by
  unfold gcdI
  rw [Int.gcd_zero_right]
  omega
theorem gcdI_pos {a b : Int} (ha : 0 < a) : 0 < gcdI a b := by
  unfold gcdI
  have := Int.gcd_pos_of_ne_zero_left b (show a ≠ 0 by omega)
  omega
theorem gcdI_le {a b : Int} (ha : 0 < a) : gcdI a b ≤ a := by
  unfold gcdI
  exact Int.le_of_dvd ha (Int.gcd_dvd_left ..)
theorem fmod_lt {a b : Int} (hb : 0 < b) : 0 ≤ a.fmod b ∧ a.fmod b < b := by
  rw [Int.fmod_eq_emod_of_nonneg a (by omega)]
  exact ⟨Int.emod_nonneg _ (by omega), Int.emod_lt_of_pos _ hb⟩
def spGcd : Sp := fun vs H Q _ => ∃ a b : Int, vs = [.int a, .int b] ∧ 0 < a ∧ 0 ≤ b ∧ Q (.int (gcdI a b)) H
theorem scGcd : FnScope ["one", "other"] ["one", "other"] (defScope s_common_divisor) := ⟨rfl, rfl, rfl, by decide +kernel, rfl, by decide +kernel, by decide +kernel⟩
theorem ok_common_divisor (F : Fun K "common_divisor" "common_divisor" s_common_divisor f fd) : FnOk P w K mg base CX0 2 f fd ["one", "other"] spGcd := by
  refine F.ok scGcd (fun vs H Q E h => ?_) (fun cdv A outer s H vs Q E hr h => ?_)
  · obtain ⟨a, b, rfl, _⟩ := h
    rfl
  obtain ⟨a, b, rfl, ha, hb, q⟩ := h
  refine ⟨_, pss_cons (ps_while PassesOwn.never (pt_cmpR op_gt (pv 1) pe_int (nomark _))
      (pss_one (ps_par (i := 0) (j := 1) (by rfl) scGcd.nd rfl rfl (by decide) rfl rfl (pa_cons (pv 1) (pa_cons (pe_op op_modN (pv 0) (pv 1)) pa_nil)) (by rfl))))
    (pss_one (ps_ret (pv 0))), ?_⟩
  refine while_by (fun σ H' => H' = H ∧ ∃ x y : Int, σ = [some (.int x), some (.int y)] ∧ 0 < x ∧ 0 ≤ y ∧ gcdI x y = gcdI a b) (fun σ _ => match σ with | [_, some (.int y)] => y.toNat | _ => 0)
    ⟨rfl, a, b, rfl, ha, hb, rfl⟩ ?_ (fun σ H Q Q' m ⟨v, h1, i, j, e1, e2, k, e3, q⟩ => ⟨v, h1, i, j, e1, e2, k, e3, m _ _ q⟩)
  rintro σ H' ⟨rfl, x, y, rfl, hx, hy, g⟩
  refine ⟨_, rfl, _, _, rfl, rfl, _, rfl, ?_⟩
  refine ite2 (fun c => ?_) (fun c => ?_)
  · have c' : 0 < y := of_decide_eq_true c
    have fm := fmod_lt (a := x) c'
    refine ⟨_, rfl, _, rfl, _, rfl, _, _, rfl, rfl, by omega, _, _, rfl, ?_⟩
    refine ⟨⟨rfl, y, _, rfl, c', fm.1, (gcdI_step c').trans g⟩, ?_⟩
    show (x.fmod y).toNat < y.toNat
    omega
  · have c' : ¬ 0 < y := of_decide_eq_false (Bool.eq_false_iff.mpr c)
    have e : y = 0 := by omega
    subst e
    rw [gcdI_zero hx] at g
    subst g
    exact ⟨_, rfl, q⟩

/-! lowest terms -/
def lowT (a b : Int) : HO := .tup [.int (a / gcdI a b), .int (b / gcdI a b)]
def Bd : Nat := 8000
def big (a : Int) : Prop := 0 < a ∧ a.natAbs < 2 ^ Bd
theorem gcd_div {a b : Int} (ha : big a) (x : Int) : CDivW x (gcdI a b) := wide_div (gcdI_pos ha.1) (b := Bd) (by
  have h1 := gcdI_le (b := b) ha.1
  have h2 := gcdI_pos (b := b) ha.1
  exact wide_le (by omega) h1 ha.2) (by decide) (by decide)
def spLow : Sp := fun vs H Q _ => ∃ a b : Int, vs = [.int a, .int b] ∧ big a ∧ 0 < b ∧ ∀ p, H p = none → Q (.ref p) (upd H p (lowT a b))
theorem scLow : FnScope ["top", "bottom", "divisor"] ["top", "bottom"] (defScope s_lowest_terms) := ⟨rfl, rfl, rfl, by decide +kernel, rfl, by decide +kernel, by decide +kernel⟩
theorem ok_lowest_terms {g : Addr} {gd : FuncData} (F : Fun K "lowest_terms" "lowest_terms" s_lowest_terms f fd) (G : FnOk P w K mg base CX0 2 g gd ["one", "other"] spGcd) (bG : Binds K gd ["one", "other"] []) (kG : PySem.W.keepIn K (.ref g) = true) (mG : mg "common_divisor" = some (.ref g)) :
    FnOk P w K mg base CX0 3 f fd ["top", "bottom"] spLow := by
  refine F.ok scLow (fun vs H Q E h => ?_) (fun cdv A outer s H vs Q E hr h => ?_)
  · obtain ⟨a, b, rfl, _⟩ := h
    rfl
  obtain ⟨a, b, rfl, ha, hb, q⟩ := h
  refine ⟨_, pss_cons (ps_set (i := 2) scLow.nd rfl (.inl rfl) (pe_call G hr rfl mG kG bG .nil pass0 (pa_cons (pv 0) (pa_cons (pv 1) pa_nil))))
    (pss_one (ps_ret (pe_tup (pa_cons (pe_op op_fdivW (pv 0) (pv 2)) (pa_cons (pe_op op_fdivW (pv 1) (pv 2)) pa_nil))))), ?_⟩
  refine ⟨_, rfl, _, rfl, a, b, rfl, ha.1, by omega, ?_⟩
  exact ⟨_, rfl, _, rfl, _, _, rfl, rfl, gcd_div ha a, _, rfl, _, rfl, _, _, rfl, rfl, gcd_div ha b, by show 2 ≤ sizeLine; decide, q⟩

end
/-! ### mid.lean -/
theorem roomR {k : Nat} {A : Around} (r : Room k A) : A.units + 70 < cLine := by have := r.un; omega
/-! numbers that repr can show -/
def mid (a : Int) : Prop := 0 < a ∧ a.natAbs < 2 ^ 1900
theorem mid.big {a : Int} (h : mid a) : big a := ⟨h.1, Nat.lt_of_lt_of_le h.2 (Nat.pow_le_pow_right (by decide) (by decide))⟩
theorem mid_div {a b : Int} (ha : mid a) (hb : 0 < b) : (a / gcdI a b).natAbs < 2 ^ 1900 := by
  have g := gcdI_pos (b := b) ha.1
  have h1 : 0 ≤ a / gcdI a b := Int.ediv_nonneg (by have := ha.1; omega) (by omega)
  have h2 : a / gcdI a b ≤ a := Int.ediv_le_self _ (by have := ha.1; omega)
  exact wide_le h1 h2 ha.2
theorem gcdI_comm (a b : Int) : gcdI a b = gcdI b a := by unfold gcdI; rw [Int.gcd_comm]
theorem mid_div2 {a b : Int} (ha : mid a) (hb : mid b) : (b / gcdI a b).natAbs < 2 ^ 1900 := by rw [gcdI_comm]; exact mid_div hb ha.1
def lowD (a b : Int) : PyData := .tuple [.int (a / gcdI a b), .int (b / gcdI a b)]
theorem lowD_sm {a b : Int} (ha : mid a) (hb : mid b) : Sm 2 1300 (lowD a b) := Sm.pair (mid_div ha hb.1) (mid_div2 ha hb)
theorem lowT_dp {K : PySem.W.Frag} {H : Hp} {p : Addr} {a b : Int} (h : H p = some (lowT a b)) : Dp K H (.ref p) (lowD a b) := .tup (.inl (.inl h)) (.cons (.int _) (.cons (.int _) .nil))
theorem gcdI_one {a : Int} : gcdI a 1 = 1 := by
  unfold gcdI
  rw [Int.gcd_one_right]
  rfl
theorem lowT_one (a : Int) : lowT a 1 = .tup [.int a, .int 1] := by
  unfold lowT
  rw [gcdI_one, Int.ediv_one]
  rfl
theorem lowT_eq {a b x y : Int} (h1 : a / gcdI a b = x) (h2 : b / gcdI a b = y) : lowT a b = .tup [.int x, .int y] := by
  unfold lowT
  rw [h1, h2]
theorem tupD {K : PySem.W.Frag} {H : Hp} {p : Addr} {a b : Int} (h : H p = some (.tup [.int a, .int b])) : Dp K H (.ref p) (.tuple [.int a, .int b]) := .tup (.inl (.inl h)) (.cons (.int _) (.cons (.int _) .nil))
/-! ### fraction_good.lean -/
section
variable {P : Program} {w : World} {K : PySem.W.Frag} {mg : Str → Option Value} {base : Heap} {f : Addr} {fd : FuncData}
/-! fraction, of good arguments -/
theorem scFrac : FnScope ["top", "bottom", "part"] ["top", "bottom"] (defScope s_fraction) := ⟨rfl, rfl, rfl, by decide +kernel, rfl, by decide +kernel, by decide +kernel⟩
def spFracGood : Sp := fun vs H Q _ => ∃ a b : Int, vs = [.int a, .int b] ∧ big a ∧ big b ∧ ∀ H' p, Same H H' → H p = none → H' p = some (lowT a b) → Q (.ref p) H'
theorem ok_fraction_good {g1 g2 : Addr} {gd1 gd2 : FuncData} (F : FunD K "fraction" "fraction" (defArgs s_fraction) (defBody s_fraction) (defScope s_fraction) [.int 1] [] f fd)
    (G1 : FnOk P w K mg base CX0 2 g1 gd1 ["value"] (spIsPos K)) (b1 : Binds K gd1 ["value"] []) (k1 : PySem.W.keepIn K (.ref g1) = true) (m1 : mg "is_positive" = some (.ref g1))
    (G2 : FnOk P w K mg base CX0 3 g2 gd2 ["top", "bottom"] spLow) (b2 : Binds K gd2 ["top", "bottom"] []) (k2 : PySem.W.keepIn K (.ref g2) = true) (m2 : mg "lowest_terms" = some (.ref g2)) :
    FnG P w K mg base CX0 4 f fd ["top", "bottom"] spFracGood := by
  refine okD F scFrac (fun vs H Q E h => ?_) (fun cdv A outer s H vs Q E hg hr h => ?_)
  · obtain ⟨a, b, rfl, _⟩ := h
    rfl
  obtain ⟨a, b, rfl, ha, hb, q⟩ := h
  refine ⟨_, pss_cons (ps_for PassesOwn.never rfl (pi_tup (pe_tup (pa_cons (pv 0) (pa_cons (pv 1) pa_nil)))) (pg_name (i := 2) scFrac.nd rfl (.inl rfl))
      (pss_one (ps_if (pt_not (pt_val (pe_call G1 (hr.mono (by decide)) rfl m1 k1 b1 .nil pass0 (pa_cons (pv 2) pa_nil)))) (pss_one ps_never) pss_nil)))
    (pss_one (ps_ret (pe_call G2 hr rfl m2 k2 b2 .nil pass0 (pa_cons (pv 0) (pa_cons (pv 1) pa_nil))))), ?_⟩
  refine ⟨_, rfl, _, rfl, by show 2 ≤ sizeLine; decide, fun t ht => ⟨t, rfl, ⟨_, .inl (.inl upd_same)⟩, ?_⟩⟩
  refine for_tup (K := K) (a := t) (xs := [.int a, .int b]) (fun _ σ H2 => H2 = upd H t (.tup [.int a, .int b]) ∧ ∃ v, σ = [some (.int a), some (.int b), v]) ⟨rfl, none, rfl⟩ (fun i σ H2 _ h => ?_) ?_ ?_
  · obtain ⟨rfl, _⟩ := h
    exact .inl (.inl upd_same)
  · rintro i x σ H2 hi ⟨rfl, v, rfl⟩
    have one : ∃ z : Int, x = .int z ∧ 0 < z := by
      match i, hi with
      | 0, hi => exact ⟨a, (Option.some.inj hi).symm, ha.1⟩
      | 1, hi => exact ⟨b, (Option.some.inj hi).symm, hb.1⟩
    obtain ⟨z, rfl, hz⟩ := one
    refine ⟨_, rfl, _, rfl, .int z, _, rfl, ?_⟩
    show if (!decide (0 < z)) = true then _ else _
    rw [decide_eq_true hz]
    exact iteF ⟨rfl, _, rfl⟩
  · rintro σ H2 ⟨rfl, v, rfl⟩
    refine ⟨_, rfl, _, rfl, a, b, rfl, ha, hb.1, fun p hp => ?_⟩
    have s1 : Same H (upd H t (.tup [.int a, .int b])) := same_upd ht
    exact q _ p (s1.trans (same_upd hp)) (s1.free hp) upd_same
end

def gBT {α : Type} (_ _ ws : List α) : List α := match ws with
  | [b, t] => [t, b]
  | _ => []
def gT {α : Type} (_ its ws : List α) : List α := match its, ws with
  | [d], [t] => [t, d]
  | _, _ => []
def gB {α : Type} (us _ ws : List α) : List α := match us, ws with
  | [x], [b] => [x, b]
  | _, _ => []
structure FracCalls (K : PySem.W.Frag) (fd : FuncData) : Prop where
  b2 : ∃ ds, Vals [] ds ∧ Binds K fd ["top", "bottom"] ds
  b1 : ∃ ds, Vals [.int 1] ds ∧ Binds K fd ["top", "bottom"] ds
  kbt : ∃ its : List Value, KBn K fd ["top", "bottom"] 0 ["bottom", "top"] (fun us ws => gBT us its ws) (fun vs zs => gBT vs [.int 1] zs)
  kt : ∃ its : List Value, KBn K fd ["top", "bottom"] 0 ["top"] (fun us ws => gT us its ws) (fun vs zs => gT vs [.int 1] zs)
  kb : ∃ its : List Value, KBn K fd ["top", "bottom"] 1 ["bottom"] (fun us ws => gB us its ws) (fun vs zs => gB vs [.int 1] zs)
theorem frac_calls {K : PySem.W.Frag} {f : Addr} {fd : FuncData} (F : FunD K "fraction" "fraction" (defArgs s_fraction) (defBody s_fraction) (defScope s_fraction) [.int 1] [] f fd) : FracCalls K fd := by
  refine ⟨?_, ?_, ?_, ?_, ?_⟩
  · exact F.binds1 2 1 (by simp) rfl fun T kV doc pm an cdv ct us its h1 h2 => match us, its, h1, h2 with
      | [x, y], [z], _, _ => ⟨_, rfl, rfl⟩
  · exact F.binds1 1 0 (by simp) rfl fun T kV doc pm an cdv ct us its h1 h2 => match us, its, h1, h2 with
      | [x], [z], _, _ => ⟨_, rfl, rfl⟩
  · refine bindD F 0 ["bottom", "top"] gBT (by simp) (fun r1 r2 r3 => ?_) fun T kV doc pm an cdv ct us its ws h1 h2 h3 => match us, its, ws, h1, h2, h3 with
      | [], [d], [b, t], _, _, _ => ⟨_, rfl, rfl⟩
    cases r3 with
    | nil => exact .nil
    | cons a r => cases r with
      | nil => exact .nil
      | cons b r => cases r with
        | nil => exact .cons b (.cons a .nil)
        | cons _ _ => exact .nil
  · refine bindD F 0 ["top"] gT (by simp) (fun r1 r2 r3 => ?_) fun T kV doc pm an cdv ct us its ws h1 h2 h3 => match us, its, ws, h1, h2, h3 with
      | [], [d], [t], _, _, _ => ⟨_, rfl, rfl⟩
    cases r2 with
    | nil => exact .nil
    | cons d r => cases r with
      | cons _ _ => exact .nil
      | nil => cases r3 with
        | nil => exact .nil
        | cons a r => cases r with
          | nil => exact .cons a (.cons d .nil)
          | cons _ _ => exact .nil
  · refine bindD F 1 ["bottom"] gB (by simp) (fun r1 r2 r3 => ?_) fun T kV doc pm an cdv ct us its ws h1 h2 h3 => match us, its, ws, h1, h2, h3 with
      | [x], [d], [b], _, _, _ => ⟨_, rfl, rfl⟩
    cases r1 with
    | nil => exact .nil
    | cons d r => cases r with
      | cons _ _ => exact .nil
      | nil => cases r3 with
        | nil => exact .nil
        | cons a r => cases r with
          | nil => exact .cons d (.cons a .nil)
          | cons _ _ => exact .nil
/-! ### prelude_cell.lean -/
section
variable {P : Program} {w : World} {K : PySem.W.Frag} {mg : Str → Option Value} {base : Heap} {f : Addr} {fd : FuncData}
/-! a cell of the script: some int -/
theorem scCell : FnScope ["_law_script", "_law_k", "_law_state", "_law_figure"] ["_law_script", "_law_k"] (defScope s_l_cell) := ⟨rfl, rfl, rfl, by decide +kernel, rfl, by decide +kernel, by decide +kernel⟩
def spCell (K : PySem.W.Frag) : Sp := fun vs H Q _ => ∃ (a : Addr) (ns : List Int) (k : Int), vs = [.ref a, .int k] ∧ SqL K H a (ns.map V.int) ∧ ns.length ≤ 63 ∧ 0 ≤ k ∧ k < 2 ^ 60 ∧ ∀ (z : Int) H', Same H H' → Q (.int z) H'
theorem nzM : (2147483137 : Int) ≠ 0 := by decide
theorem cut_ints (ns : List Int) (lo hi : Option Int) : ∃ ms : List Int, cutV (ns.map V.int) lo hi = ms.map V.int := by
  refine ⟨(ns.drop (HT.sIx (ns.map V.int).length 0 lo)).take (HT.sIx (ns.map V.int).length (ns.map V.int).length hi - HT.sIx (ns.map V.int).length 0 lo), ?_⟩
  unfold cutV
  rw [List.map_take, List.map_drop]
theorem get_int {ns : List Int} {i : Nat} {x : V} (h : (ns.map V.int)[i]? = some x) : ∃ z : Int, x = .int z := by
  rw [List.getElem?_map] at h
  cases e : ns[i]? with
  | none => rw [e] at h; cases h
  | some z => rw [e] at h; exact ⟨z, (Option.some.inj h).symm⟩
theorem ok_cell (F : Fun K "_law_cell" "_law_cell" s_l_cell f fd) (ml : mg "len" = none) : FnOk P w K mg base CX0 2 f fd ["_law_script", "_law_k"] (spCell K) := by
  refine F.ok scCell (fun vs H Q E h => ?_) (fun cdv A outer s H vs Q E hr h => ?_)
  · obtain ⟨a, ns, k, rfl, _⟩ := h
    rfl
  obtain ⟨a, ns, k, rfl, hS, h63, h0, hk, q⟩ := h
  refine ⟨_, pss_cons (ps_if (pt_cmpR op_lt (pv 1) (pe_callB call_len_seq (by rfl) ml PySem.boot_len (pa_cons (pv 0) pa_nil)) (nomark _)) (pss_one (ps_ret (pe_ix ix_list (pv 0) (pv 1) (fun _ _ => rfl)))) pss_nil)
    (pss_cons (ps_set (i := 2) scCell.nd rfl (.inl rfl) (pe_op op_modN (pe_op op_mul pe_int (pe_op op_add (pe_op op_add (pe_op op_mul (pv 1) (pv 1)) (pe_op op_mul pe_int (pv 1))) pe_int)) pe_int))
    (pss_cons (ps_for PassesOwn.never rfl (pi_list (pe_slice sl_list (pv 0) po_none (po_some pe_int))) (pg_name (i := 3) scCell.nd rfl (.inl rfl))
      (pss_one (ps_set (i := 2) scCell.nd rfl (.inl rfl) (pe_op op_modN (pe_op op_add (pe_op op_mul (pv 2) pe_int) (pv 3)) pe_int))))
    (pss_one (ps_ret (pv 2))))), ?_⟩
  refine ⟨_, rfl, _, rfl, a, _, rfl, .inl hS, _, _, rfl, rfl, _, rfl, ?_⟩
  refine ite2 (fun c => ?_) (fun c => ?_)
  · have c' : k < (((ns.map V.int).length : Nat) : Int) := of_decide_eq_true c
    rw [List.length_map] at c'
    have hn : k.toNat < ns.length := by omega
    have at_ : atI (ns.map V.int) k = some (.int ns[k.toNat]) := by
      have := atI_nat (xs := ns.map V.int) (j := k.toNat) (v := .int ns[k.toNat]) (by rw [List.getElem?_map, List.getElem?_eq_getElem hn]; rfl)
      rw [show ((k.toNat : Nat) : Int) = k by omega] at this
      exact this
    exact ⟨_, rfl, _, rfl, a, _, _, _, rfl, rfl, hS, at_, q _ H (Same.refl H)⟩
  · refine ⟨_, rfl, _, rfl, _, _, rfl, rfl, .inl (by omega), _, rfl, _, _, rfl, rfl, .inl (by omega), _, _, rfl, rfl, _, _, rfl, rfl, _, _, rfl, rfl, .inl (by omega), _, _, rfl, rfl, nzM, ?_⟩
    refine ⟨_, rfl, _, rfl, a, _, rfl, hS, fun p hp => ?_⟩
    obtain ⟨ms, em⟩ := cut_ints ns none (some 3)
    have s1 : Same H (upd H p (.lst (cutV (ns.map V.int) none (some 3)))) := same_upd hp
    refine ⟨p, rfl, ⟨_, SqL.of upd_same⟩, ?_⟩
    rw [em] at s1 ⊢
    refine for_list (K := K) (a := p) (xs := ms.map V.int) (fun _ σ H2 => H2 = upd H p (.lst (ms.map V.int)) ∧ ∃ (z : Int) (v : Option V), σ = [some (.ref a), some (.int k), some (.int z), v] ∧ 0 ≤ z ∧ z < 2147483137) ?_ (fun i σ H2 _ h => ?_) ?_ ?_
    · exact ⟨rfl, _, none, rfl, fmod_lt (by decide)⟩
    · obtain ⟨rfl, _⟩ := h
      exact SqL.of upd_same
    · rintro i x σ H2 hi ⟨rfl, z, v, rfl, z0, z1⟩
      obtain ⟨y, rfl⟩ := get_int hi
      exact ⟨_, rfl, _, _, rfl, rfl, .inl (by omega), _, rfl, _, _, rfl, rfl, _, _, rfl, rfl, nzM, rfl, _, _, rfl, fmod_lt (by decide)⟩
    · rintro σ H2 ⟨rfl, z, v, rfl, _⟩
      exact ⟨_, rfl, q _ _ s1⟩

/-! the pool -/
def Pool (H : Hp) (p : Addr) : Prop := ∃ x d c : Int, H p = some (.lst [.int x, .int d, .int c]) ∧ 0 ≤ x ∧ x < 2147483137 ∧ 0 ≤ d
def Keep (p : Addr) (H H' : Hp) : Prop := ∀ b o, b ≠ p → H b = some o → H' b = some o
theorem Keep.refl (p : Addr) (H : Hp) : Keep p H H := fun _ _ _ h => h
theorem Keep.trans {p : Addr} {H H1 H2 : Hp} (a : Keep p H H1) (b : Keep p H1 H2) : Keep p H H2 := fun c o n h => b c o n (a c o n h)
theorem Same.keep {H H' : Hp} (s : Same H H') (p : Addr) : Keep p H H' := fun b o _ h => s b o h
theorem Keep.at {H : Hp} {p : Addr} {o : HO} : Keep p H (upd H p o) := fun b u n h => by rw [upd_ne n]; exact h
theorem Pool.same {H H' : Hp} {p : Addr} (h : Pool H p) (s : Same H H') : Pool H' p := by
  obtain ⟨x, d, c, e, r⟩ := h
  exact ⟨x, d, c, s _ _ e, r⟩
/-- what lies elsewhere stays -/
theorem Keep.same {p : Addr} {H0 H H' : Hp} (k : Keep p H H') (s : Same H0 H) (n : H0 p = none) : Same H0 H' := fun b o h => k b o (ne_of_none h n) (s b o h)
theorem scPool : FnScope ["_law_figure", "_law_digits"] ["_law_figure"] (defScope s_l_pool) := ⟨rfl, rfl, rfl, by decide +kernel, rfl, by decide +kernel, by decide +kernel⟩
def spPool : Sp := fun vs H Q _ => ∃ z : Int, vs = [.int z] ∧ ∀ p H', Same H H' → H p = none → Pool H' p → Q (.ref p) H'
theorem ok_pool (F : Fun K "_law_pool" "_law_pool" s_l_pool f fd) (ma : mg "abs" = none) : FnOk P w K mg base CX0 2 f fd ["_law_figure"] spPool := by
  refine F.ok scPool (fun vs H Q E h => ?_) (fun cdv A outer s H vs Q E hr h => ?_)
  · obtain ⟨z, rfl, _⟩ := h
    rfl
  obtain ⟨z, rfl, q⟩ := h
  refine ⟨_, pss_cons (ps_set (i := 1) scPool.nd rfl (.inl rfl) (pe_ifExp (PW.pt (pw_or (pt_cmpR op_lt (pv 0) pe_int (nomark _)) (pw_or1 (pt_cmpR op_ge (pv 0) (pe_op op_pow pe_int pe_int) (nomark _)))))
      (pe_callB call_abs (by rfl) ma PyProof.Rows.boot_abs (pa_cons (pv 0) pa_nil)) pe_int))
    (pss_one (ps_ret (pe_lst (pa_cons (pe_op op_modN (pv 0) pe_int) (pa_cons (pv 1) (pa_cons pe_int pa_nil)))))), ?_⟩
  have fin : ∀ d : Int, 0 ≤ d → ∀ p, H p = none → Q (.ref p) (upd H p (.lst [.int (z.fmod 2147483137), .int d, .int 0])) := fun d hd p hp =>
    q p _ (same_upd hp) hp ⟨_, d, 0, upd_same, (fmod_lt (by decide)).1, (fmod_lt (by decide)).2, hd⟩
  refine ⟨_, rfl, _, _, rfl, rfl, _, rfl, ?_⟩
  refine ite2 (fun c => ?_) (fun c => ?_)
  · refine iteT ⟨_, rfl, _, rfl, ?_⟩
    refine ⟨_, rfl, _, _, rfl, rfl, nzM, _, rfl, by show 3 ≤ sizeLine; decide, fin _ ?_⟩
    split <;> omega
  · refine ⟨_, rfl, _, _, rfl, rfl, ⟨by decide, by decide, by decide⟩, _, _, rfl, rfl, _, rfl, ?_⟩
    refine ite2 (fun c => ?_) (fun c => ?_)
    · refine ⟨_, rfl, _, rfl, ?_⟩
      refine ⟨_, rfl, _, _, rfl, rfl, nzM, _, rfl, by show 3 ≤ sizeLine; decide, fin _ ?_⟩
      split <;> omega
    · refine ⟨_, rfl, _, _, rfl, rfl, nzM, _, rfl, by show 3 ≤ sizeLine; decide, fin _ ?_⟩
      omega
end
/-! ### prelude_draw.lean -/
section
variable {P : Program} {w : World} {K : PySem.W.Frag} {mg : Str → Option Value} {base : Heap} {f : Addr} {fd : FuncData}
/-! a draw -/
theorem scDraw : FnScope ["_law_pool_here", "_law_most", "_law_state", "_law_digit"] ["_law_pool_here", "_law_most"] (defScope s_l_draw) := ⟨rfl, rfl, rfl, by decide +kernel, rfl, by decide +kernel, by decide +kernel⟩
def spDraw : Sp := fun vs H Q _ => ∃ (p : Addr) (m : Int), vs = [.ref p, .int m] ∧ Pool H p ∧ big m ∧ ∀ (r : Int) H', Keep p H H' → Pool H' p → 0 ≤ r → r < m → Q (.int r) H'
theorem divP {i j : Int} (h : big j) : CDivP i j := ⟨h.1, PyProof.noPylong_of_log2 (wide_div (i := i) h.1 h.2 (by decide) (by decide)).2⟩
theorem ok_draw (F : Fun K "_law_draw" "_law_draw" s_l_draw f fd) (md : mg "divmod" = none) : FnOk P w K mg base CX0 2 f fd ["_law_pool_here", "_law_most"] spDraw := by
  refine F.ok scDraw (fun vs H Q E h => ?_) (fun cdv A outer s H vs Q E hr h => ?_)
  · obtain ⟨p, m, rfl, _⟩ := h
    rfl
  obtain ⟨p, m, rfl, ⟨x, d, c, hp, x0, x1, d0⟩, hm, q⟩ := h
  refine ⟨_, pss_cons (ps_asg (pe_op op_add (pe_ix ix_list (pv 0) pe_int (fun _ _ => rfl)) pe_int) (pg_sub (pv 0) pe_int set_list))
    (pss_cons (ps_set (i := 2) scDraw.nd rfl (.inl rfl) (pe_ix ix_list (pv 0) pe_int (fun _ _ => rfl)))
    (pss_cons (ps_asg (pe_op op_modN (pe_op op_add (pe_op op_mul (pv 2) (pe_op op_add (pe_op op_modN (pv 2) pe_int) pe_int)) (pe_op op_mul pe_int (pe_ix ix_list (pv 0) pe_int (fun _ _ => rfl)))) pe_int) (pg_sub (pv 0) pe_int set_list))
    (pss_cons (ps_if (pt_cmpR op_gt (pe_ix ix_list (pv 0) pe_int (fun _ _ => rfl)) pe_int (nomark _))
      (pss_cons (ps_asg (pe_callB call_divmodW (by rfl) md PyProof.Rows.boot_divmod (pa_cons (pe_ix ix_list (pv 0) pe_int (fun _ _ => rfl)) (pa_cons (pv 1) pa_nil)))
        (pg_tup rfl (pgs_cons (pg_sub (pv 0) pe_int set_list) (pgs_cons (pg_name (i := 3) scDraw.nd rfl (.inl rfl)) pgs_nil))))
      (pss_one (ps_ret (pv 3)))) pss_nil)
    (pss_one (ps_ret (pe_op op_modN (pe_op op_fdiv (pe_ix ix_list (pv 0) pe_int (fun _ _ => rfl)) pe_int) (pv 1))))))), ?_⟩
  -- the count
  refine ⟨_, rfl, p, _, _, _, rfl, rfl, SqL.of hp, rfl, _, _, rfl, rfl, _, rfl, p, _, _, _, rfl, rfl, hp, rfl, ?_⟩
  refine ⟨_, rfl, p, _, _, _, rfl, rfl, SqL.of upd_same, rfl, ?_⟩
  -- the state
  refine ⟨_, rfl, _, rfl, _, _, rfl, rfl, by show (50023 : Int) ≠ 0; decide, _, _, rfl, rfl, _, _, rfl, rfl, .inl (by omega), _, rfl, p, _, _, _, rfl, rfl, SqL.of upd_same, rfl, _, _, rfl, rfl, .inl (by omega), _, _, rfl, rfl, _, _, rfl, rfl, nzM, ?_⟩
  refine ⟨_, rfl, p, _, _, _, rfl, rfl, upd_same, rfl, ?_⟩
  have hy2 : 0 ≤ (x * (x.fmod 50023 + 30013) + 80029 * (c + 1)).fmod 2147483137 ∧ (x * (x.fmod 50023 + 30013) + 80029 * (c + 1)).fmod 2147483137 < 2147483137 := fmod_lt (by decide)
  have hp1 : upd (upd H p (.lst [.int x, .int d, .int (c + 1)])) p (.lst [.int ((x * (x.fmod 50023 + 30013) + 80029 * (c + 1)).fmod 2147483137), .int d, .int (c + 1)]) p = some (.lst [.int ((x * (x.fmod 50023 + 30013) + 80029 * (c + 1)).fmod 2147483137), .int d, .int (c + 1)]) := upd_same
  have k1 : Keep p H (upd (upd H p (.lst [.int x, .int d, .int (c + 1)])) p (.lst [.int ((x * (x.fmod 50023 + 30013) + 80029 * (c + 1)).fmod 2147483137), .int d, .int (c + 1)])) := Keep.at.trans Keep.at
  -- digits, if there are some
  refine ⟨_, rfl, p, _, _, _, rfl, rfl, SqL.of hp1, rfl, _, _, rfl, rfl, _, rfl, ?_⟩
  refine ite2 (fun cc => ?_) (fun cc => ?_)
  · refine ⟨_, rfl, p, _, _, _, rfl, rfl, SqL.of hp1, rfl, _, rfl, d, m, rfl, divP hm, fun t ht => ?_⟩
    have ntp : p ≠ t := ne_of_none hp1 ht
    refine ⟨t, _, rfl, .inl (.inl upd_same), rfl, _, _, rfl, _, rfl, p, _, _, _, rfl, rfl, by rw [upd_ne ntp]; exact hp1, rfl, _, _, rfl, rfl, ?_⟩
    refine ⟨_, rfl, q _ _ ((k1.trans (Same.keep (same_upd ht) p)).trans Keep.at) ⟨_, _, _, upd_same, hy2.1, hy2.2, Int.ediv_nonneg d0 (by have := hm.1; omega)⟩ (Int.emod_nonneg _ (by have := hm.1; omega)) (Int.emod_lt_of_pos _ hm.1)⟩
  · refine ⟨_, rfl, p, _, _, _, rfl, rfl, SqL.of hp1, rfl, _, _, rfl, rfl, ⟨by decide, by decide⟩, _, rfl, _, _, rfl, rfl, by have := hm.1; omega, ?_⟩
    exact q _ _ k1 ⟨_, _, _, hp1, hy2.1, hy2.2, d0⟩ (fmod_lt hm.1).1 (fmod_lt hm.1).2

/-! the law's own lowest terms -/
theorem scLLow : FnScope ["_law_high_part", "_law_low_part", "_law_lead", "_law_rest"] ["_law_high_part", "_law_low_part"] (defScope s_l_low) := ⟨rfl, rfl, rfl, by decide +kernel, rfl, by decide +kernel, by decide +kernel⟩
theorem ok_llow (F : Fun K "_law_low" "_law_low" s_l_low f fd) : FnOk P w K mg base CX0 2 f fd ["_law_high_part", "_law_low_part"] spLow := by
  refine F.ok scLLow (fun vs H Q E h => ?_) (fun cdv A outer s H vs Q E hr h => ?_)
  · obtain ⟨a, b, rfl, _⟩ := h
    rfl
  obtain ⟨a, b, rfl, ha, hb, q⟩ := h
  refine ⟨_, pss_cons (ps_par (i := 2) (j := 3) (by rfl) scLLow.nd rfl rfl (by decide) rfl rfl (pa_cons (pv 0) (pa_cons (pv 1) pa_nil)) (by rfl))
    (pss_cons (ps_while PassesOwn.never (pt_cmpR op_gt (pv 3) pe_int (nomark _))
      (pss_one (ps_par (i := 2) (j := 3) (by rfl) scLLow.nd rfl rfl (by decide) rfl rfl (pa_cons (pv 3) (pa_cons (pe_op op_modN (pv 2) (pv 3)) pa_nil)) (by rfl))))
    (pss_one (ps_ret (pe_tup (pa_cons (pe_op op_fdivW (pv 0) (pv 2)) (pa_cons (pe_op op_fdivW (pv 1) (pv 2)) pa_nil)))))), ?_⟩
  refine ⟨_, rfl, _, rfl, _, _, rfl, ?_⟩
  refine while_by (fun σ H' => H' = H ∧ ∃ x y : Int, σ = [some (.int a), some (.int b), some (.int x), some (.int y)] ∧ 0 < x ∧ 0 ≤ y ∧ gcdI x y = gcdI a b) (fun σ _ => match σ with | [_, _, _, some (.int y)] => y.toNat | _ => 0)
    ⟨rfl, a, b, rfl, ha.1, by omega, rfl⟩ ?_ (fun σ H Q Q' m ⟨v, h1, i, j, e1, e2, k, e3, q⟩ => ⟨v, h1, i, j, e1, e2, k, e3, m _ _ q⟩)
  rintro σ H' ⟨rfl, x, y, rfl, hx, hy, g⟩
  refine ⟨_, rfl, _, _, rfl, rfl, _, rfl, ?_⟩
  refine ite2 (fun c => ?_) (fun c => ?_)
  · have c' : 0 < y := of_decide_eq_true c
    have fm := fmod_lt (a := x) c'
    refine ⟨_, rfl, _, rfl, _, rfl, _, _, rfl, rfl, by omega, _, _, rfl, ?_⟩
    refine ⟨⟨rfl, y, _, rfl, c', fm.1, (gcdI_step c').trans g⟩, ?_⟩
    show (x.fmod y).toNat < y.toNat
    omega
  · have c' : ¬ 0 < y := of_decide_eq_false (Bool.eq_false_iff.mpr c)
    have e : y = 0 := by omega
    subst e
    rw [gcdI_zero hx] at g
    subst g
    exact ⟨_, rfl, _, rfl, _, _, rfl, rfl, gcd_div ha a, _, rfl, _, rfl, _, _, rfl, rfl, gcd_div ha b, by show 2 ≤ sizeLine; decide, q⟩
end
/-! ### k02_told.lean -/
section
variable {P : Program} {w : World} {K : PySem.W.Frag} {mg : Str → Option Value} {base : Heap} {f : Addr} {fd : FuncData}
theorem scTold : FnScope ["_law_high", "_law_low_here", "_law_due", "_law_told"] ["_law_high", "_law_low_here"] (defScope s_l_told_right) := ⟨rfl, rfl, rfl, by decide +kernel, rfl, by decide +kernel, by decide +kernel⟩
def spTold : Sp := fun vs H Q _ => ∃ a b : Int, vs = [.int a, .int b] ∧ mid a ∧ mid b ∧ ∀ H', Same H H' → Q (.bl true) H'
theorem ok_told {g1 g2 : Addr} {gd1 gd2 : FuncData} (F : Fun K "_law_told_right" "_law_told_right" s_l_told_right f fd) (mr : mg "repr" = none)
    (G1 : FnG P w K mg base CX0 2 g1 gd1 ["_law_high_part", "_law_low_part"] spLow) (b1 : Binds K gd1 ["_law_high_part", "_law_low_part"] []) (k1 : PySem.W.keepIn K (.ref g1) = true) (m1 : mg "_law_low" = some (.ref g1))
    (G2 : FnG P w K mg base CX0 4 g2 gd2 ["top", "bottom"] spFracGood) (B : FracCalls K gd2) (k2 : PySem.W.keepIn K (.ref g2) = true) (m2 : mg "fraction" = some (.ref g2)) :
    FnG P w K mg base CX0 5 f fd ["_law_high", "_law_low_here"] spTold := by
  refine okG F scTold (fun vs H Q E h => ?_) (fun cdv A outer s H vs Q E hg hr h => ?_)
  · obtain ⟨a, b, rfl, _⟩ := h
    rfl
  obtain ⟨a, b, rfl, ha, hb, q⟩ := h
  obtain ⟨ds2, vd2, bb2⟩ := B.b2
  obtain ⟨ds1, vd1, bb1⟩ := B.b1
  obtain ⟨i1, kbt⟩ := B.kbt
  obtain ⟨i2, kt⟩ := B.kt
  obtain ⟨i3, kb⟩ := B.kb
  refine ⟨_, pss_cons (ps_set (i := 2) scTold.nd rfl (.inl rfl) (callG G1 hg (hr.mono (by decide)) rfl m1 k1 b1 .nil pass0 (pa_cons (pv 0) (pa_cons (pv 1) pa_nil))))
    (pss_cons (ps_set (i := 3) scTold.nd rfl (.inl rfl) (pe_lst
      (pa_cons (callG G2 hg hr rfl m2 k2 bb2 vd2 pass0 (pa_cons (pv 0) (pa_cons (pv 1) pa_nil)))
      (pa_cons (callGK G2 hg hr rfl m2 k2 kbt pass0 (pk_cons (pv 1) (pk_cons (pv 0) pk_nil)))
      (pa_cons (callGN G2 hg hr rfl m2 k2 kb pass0 (pa_cons (pv 0) pa_nil) (pk_cons (pv 1) pk_nil))
      (pa_cons (callG G2 hg hr rfl m2 k2 bb2 vd2 pass0 (pa_cons (pv 0) (pa_cons (pv 1) pa_nil))) pa_nil))))))
    (pss_cons (ps_if (pt_cmpR op_ne (pe_callB (reprData hg (roomR hr)) (by rfl) mr PyProof.Rows.boot_repr (pa_cons (pv 3) pa_nil)) (pe_callB (reprData hg (roomR hr)) (by rfl) mr PyProof.Rows.boot_repr (pa_cons (pe_op op_rep (pe_lst (pa_cons (pv 2) pa_nil)) pe_int) pa_nil)) (nomark _))
      (pss_one (ps_ret pe_bl)) pss_nil)
    (pss_one (ps_ret (pe_cmpR op_eq
      (pe_callB (reprData hg (roomR hr)) (by rfl) mr PyProof.Rows.boot_repr (pa_cons (pe_lst
        (pa_cons (callG G2 hg hr rfl m2 k2 bb1 vd1 pass0 (pa_cons (pv 0) pa_nil))
        (pa_cons (callGK G2 hg hr rfl m2 k2 kt pass0 (pk_cons (pv 0) pk_nil))
        (pa_cons (callG G2 hg hr rfl m2 k2 bb2 vd2 pass0 (pa_cons (pv 0) (pa_cons pe_int pa_nil))) pa_nil)))) pa_nil))
      (pe_callB (reprData hg (roomR hr)) (by rfl) mr PyProof.Rows.boot_repr (pa_cons (pe_op op_rep (pe_lst (pa_cons (pe_tup (pa_cons (pv 0) (pa_cons pe_int pa_nil))) pa_nil)) pe_int) pa_nil)) (nomark _)))))), ?_⟩
  have l1 : ∀ n : Nat, n ≤ 1000 → n ≤ sizeLine := fun n h => Nat.le_of_lt (small1000 h)
  have m1' : mid 1 := ⟨by decide, by decide⟩
  refine ⟨_, rfl, _, rfl, a, b, rfl, ha.big, hb.1, fun p0 n0 => ?_⟩
  have s0 := same_upd (o := lowT a b) n0
  refine ⟨_, rfl, _, rfl, a, b, rfl, ha.big, hb.big, fun H1 p1 s1 n1 e1 => ?_⟩
  refine ⟨_, rfl, _, rfl, rfl, rfl, a, b, rfl, ha.big, hb.big, fun H2 p2 s2 n2 e2 => ?_⟩
  refine ⟨_, rfl, _, rfl, rfl, rfl, a, b, rfl, ha.big, hb.big, fun H3 p3 s3 n3 e3 => ?_⟩
  refine ⟨_, rfl, _, rfl, a, b, rfl, ha.big, hb.big, fun H4 p4 s4 n4 e4 => ?_⟩
  refine ⟨l1 4 (by decide), fun L nL => ?_⟩
  have s5 := same_upd (o := .lst [.ref p1, .ref p2, .ref p3, .ref p4]) nL
  have dp4 : Dp K _ (.ref L) (.list [lowD a b, lowD a b, lowD a b, lowD a b]) := .lst (SqL.of upd_same) (.cons (lowT_dp (s5 _ _ (s4 _ _ (s3 _ _ (s2 _ _ e1))))) (.cons (lowT_dp (s5 _ _ (s4 _ _ (s3 _ _ e2)))) (.cons (lowT_dp (s5 _ _ (s4 _ _ e3))) (.cons (lowT_dp (s5 _ _ e4)) .nil))))
  have ll := lowD_sm ha hb
  have sm4 := Sm.lst (SmL.cons ll (SmL.cons ll (SmL.cons ll (SmL.cons ll SmL.nil))))
  refine ⟨_, rfl, repQ dp4 rfl sm4 (by decide) (by decide) ?_⟩
  refine ⟨_, rfl, l1 1 (by decide), fun M nM => ?_⟩
  have s6 := same_upd (o := .lst [.ref p0]) nM
  refine ⟨M, 4, _, rfl, rfl, upd_same, by decide, by decide, l1 4 (by decide), fun N nN => ?_⟩
  have s7 := same_upd (o := .lst [.ref p0, .ref p0, .ref p0, .ref p0]) nN
  have e0 := s7 _ _ (s6 _ _ (s5 _ _ (s4 _ _ (s3 _ _ (s2 _ _ (s1 _ _ (upd_same (H := H) (o := lowT a b))))))))
  have dq4 : Dp K _ (.ref N) (.list [lowD a b, lowD a b, lowD a b, lowD a b]) := .lst (SqL.of upd_same) (.cons (lowT_dp e0) (.cons (lowT_dp e0) (.cons (lowT_dp e0) (.cons (lowT_dp e0) .nil))))
  refine repQ dq4 rfl sm4 (by decide) (by decide) ?_
  refine ⟨rfl, _, rfl, iteNS rfl ?_⟩
  -- the second line
  have s8 := s0.trans (s1.trans (s2.trans (s3.trans (s4.trans (s5.trans (s6.trans s7))))))
  refine ⟨_, rfl, a, 1, rfl, ha.big, m1'.big, fun H5 p5 s9 n5 e5 => ?_⟩
  refine ⟨_, rfl, rfl, rfl, a, 1, rfl, ha.big, m1'.big, fun H6 p6 s10 n6 e6 => ?_⟩
  refine ⟨_, rfl, a, 1, rfl, ha.big, m1'.big, fun H7 p7 s11 n7 e7 => ?_⟩
  refine ⟨l1 3 (by decide), fun L2 nL2 => ?_⟩
  have s12 := same_upd (o := .lst [.ref p5, .ref p6, .ref p7]) nL2
  rw [lowT_one] at e5 e6 e7
  have tup1 : ∀ {H : Hp} {p : Addr}, H p = some (.tup [.int a, .int 1]) → Dp K H (.ref p) (.tuple [.int a, .int 1]) := fun h => .tup (.inl (.inl h)) (.cons (.int _) (.cons (.int _) .nil))
  have dp3 : Dp K _ (.ref L2) (.list [.tuple [.int a, .int 1], .tuple [.int a, .int 1], .tuple [.int a, .int 1]]) := .lst (SqL.of upd_same) (.cons (tup1 (s12 _ _ (s11 _ _ (s10 _ _ e5)))) (.cons (tup1 (s12 _ _ (s11 _ _ e6))) (.cons (tup1 (s12 _ _ e7)) .nil)))
  have l2 := Sm.pair ha.2 m1'.2
  have sm3 := Sm.lst (SmL.cons l2 (SmL.cons l2 (SmL.cons l2 SmL.nil)))
  refine repQ dp3 rfl sm3 (by decide) (by decide) ?_
  refine ⟨_, rfl, l1 2 (by decide), fun p8 n8 => ?_⟩
  have s13 := same_upd (o := .tup [.int a, .int 1]) n8
  refine ⟨l1 1 (by decide), fun M2 nM2 => ?_⟩
  have s14 := same_upd (o := .lst [.ref p8]) nM2
  refine ⟨M2, 3, _, rfl, rfl, upd_same, by decide, by decide, l1 3 (by decide), fun N2 nN2 => ?_⟩
  have s15 := same_upd (o := .lst [.ref p8, .ref p8, .ref p8]) nN2
  have e8 := tup1 (s15 _ _ (s14 _ _ (upd_same (o := .tup [.int a, .int 1]))))
  have dq3 : Dp K _ (.ref N2) (.list [.tuple [.int a, .int 1], .tuple [.int a, .int 1], .tuple [.int a, .int 1]]) := .lst (SqL.of upd_same) (.cons e8 (.cons e8 (.cons e8 .nil)))
  refine repQ dq3 rfl sm3 (by decide) (by decide) ?_
  refine ⟨rfl, ?_⟩
  rw [decide_eq_true rfl]
  exact q _ (s8.trans (s9.trans (s10.trans (s11.trans (s12.trans (s13.trans (s14.trans s15)))))))
end
/-! ### k02_size.lean -/
/-- a place of a list of four -/
theorem at4 {x0 x1 x2 x3 : V} {r : Int} (h0 : 0 ≤ r) (h1 : r < 4) : ∃ v, atI [x0, x1, x2, x3] r = some v ∧ (v = x0 ∨ v = x1 ∨ v = x2 ∨ v = x3) := by
  have : r = 0 ∨ r = 1 ∨ r = 2 ∨ r = 3 := by omega
  rcases this with rfl | rfl | rfl | rfl
  · exact ⟨x0, rfl, .inl rfl⟩
  · exact ⟨x1, rfl, .inr (.inl rfl)⟩
  · exact ⟨x2, rfl, .inr (.inr (.inl rfl))⟩
  · exact ⟨x3, rfl, .inr (.inr (.inr rfl))⟩
theorem mid_of {a : Int} {n : Nat} (h : 0 < a) (l : a < 2 ^ n) (hn : n ≤ 1900) : mid a := by
  refine ⟨h, ?_⟩
  have e : ((2 ^ n : Nat) : Int) = (2 : Int) ^ n := by norm_cast
  have : a.natAbs < 2 ^ n := by omega
  exact Nat.lt_of_lt_of_le this (Nat.pow_le_pow_right (by decide) hn)
section
variable {P : Program} {w : World} {K : PySem.W.Frag} {mg : Str → Option Value} {base : Heap} {f : Addr} {fd : FuncData}
theorem scSize : FnScope ["_law_pool_here"] ["_law_pool_here"] (defScope s_l_size) := ⟨rfl, rfl, rfl, by decide +kernel, rfl, by decide +kernel, by decide +kernel⟩
def spSize : Sp := fun vs H Q _ => ∃ (p : Addr), vs = [.ref p] ∧ Pool H p ∧ ∀ (r : Int) H', Keep p H H' → Pool H' p → 0 < r → r ≤ 10 ^ 19 → Q (.int r) H'
theorem ok_size {g1 : Addr} {gd1 : FuncData} (F : Fun K "_law_size" "_law_size" s_l_size f fd)
    (G1 : FnOk P w K mg base CX0 2 g1 gd1 ["_law_pool_here", "_law_most"] spDraw) (b1 : Binds K gd1 ["_law_pool_here", "_law_most"] []) (k1 : PySem.W.keepIn K (.ref g1) = true) (m1 : mg "_law_draw" = some (.ref g1)) :
    FnOk P w K mg base CX0 3 f fd ["_law_pool_here"] spSize := by
  refine F.ok scSize (fun vs H Q E h => ?_) (fun cdv A outer s H vs Q E hr h => ?_)
  · obtain ⟨a, rfl, _⟩ := h
    rfl
  obtain ⟨p, rfl, hp, q⟩ := h
  refine ⟨_, pss_one (ps_ret (pe_op op_add pe_int (pe_call G1 hr rfl m1 k1 b1 .nil pass0 (pa_cons (pv 0) (pa_cons
    (pe_ix ix_list (pe_lst (pa_cons pe_int (pa_cons pe_int (pa_cons (pe_op op_pow pe_int pe_int) (pa_cons (pe_op op_pow pe_int pe_int) pa_nil))))) (pe_call G1 hr rfl m1 k1 b1 .nil pass0 (pa_cons (pv 0) (pa_cons pe_int pa_nil))) (fun _ _ => rfl)) pa_nil))))), ?_⟩
  refine ⟨_, rfl, _, _, rfl, rfl, ⟨by decide, by decide, by decide⟩, _, _, rfl, rfl, ⟨by decide, by decide, by decide⟩, by show 4 ≤ sizeLine; decide, fun L nL => ?_⟩
  have s1 := same_upd (o := .lst [.int 9, .int 100, .int (10 ^ 6), .int (10 ^ 19)]) nL
  have npL : L ≠ p := by
    obtain ⟨_, _, _, e, _⟩ := hp
    exact (ne_of_none e nL).symm
  refine ⟨_, rfl, p, 4, rfl, hp.same s1, ⟨by decide, by decide⟩, fun r H1 kp hp1 r0 r4 => ?_⟩
  have hL := kp _ _ npL upd_same
  obtain ⟨v, ev, vv⟩ := at4 (x0 := .int 9) (x1 := .int 100) (x2 := .int (10 ^ 6)) (x3 := .int (10 ^ 19)) r0 r4
  have vi : ∃ m : Int, v = .int m ∧ 0 < m ∧ m ≤ 10 ^ 19 := by
    rcases vv with rfl | rfl | rfl | rfl
    · exact ⟨_, rfl, by decide, by decide⟩
    · exact ⟨_, rfl, by decide, by decide⟩
    · exact ⟨_, rfl, by decide, by decide⟩
    · exact ⟨_, rfl, by decide, by decide⟩
  obtain ⟨m, rfl, m0, m1⟩ := vi
  have bm : big m := (mid_of (n := 64) m0 (Int.lt_of_le_of_lt m1 (by decide)) (by decide)).big
  refine ⟨L, _, _, _, rfl, rfl, SqL.of hL, ev, p, m, rfl, hp1, bm, fun z H2 kp2 hp2 z0 z1 => ?_⟩
  refine ⟨_, _, rfl, rfl, q _ _ ((Same.keep s1 p).trans (kp.trans kp2)) hp2 (by omega) (by omega)⟩
end
/-! ### k02_right.lean -/
theorem all_true (n : Nat) : (List.replicate n true).all id = true := by rw [List.all_replicate]; cases n <;> rfl
theorem rep_bl (n : Nat) : (List.replicate n true).map V.bl = List.replicate n (V.bl true) := List.map_replicate
theorem rep_snoc (n : Nat) (v : V) : List.replicate n v ++ [v] = List.replicate (n + 1) v := List.replicate_succ'.symm
section
variable {P : Program} {w : World} {K : PySem.W.Frag} {mg : Str → Option Value} {base : Heap} {f : Addr} {fd : FuncData}
theorem scRight : FnScope ["_law_pool_here", "_law_turn", "_law_high", "_law_low_here", "_law_many", "_law_pairs", "_law_pair"] ["_law_pool_here"] (defScope s_l_right) := ⟨rfl, rfl, rfl, by decide +kernel, rfl, by decide +kernel, by decide +kernel⟩
def spRight : Sp := fun vs H Q _ => ∃ (p : Addr), vs = [.ref p] ∧ Pool H p ∧ ∀ H', Keep p H H' → Pool H' p → Q (.bl true) H'
def PairOk (H : Hp) (v : V) : Prop := ∃ (t : Addr) (a b : Int), v = .ref t ∧ H t = some (.tup [.int a, .int b]) ∧ mid a ∧ mid b
theorem PairOk.same {H H' : Hp} {v : V} (h : PairOk H v) (s : Same H H') : PairOk H' v := by
  obtain ⟨t, a, b, e, h, r⟩ := h
  exact ⟨t, a, b, e, s _ _ h, r⟩
theorem mid_mul {a b : Int} (ha : 0 < a) (ha2 : a ≤ 10 ^ 19) (hb : 0 < b) (hb2 : b ≤ 10 ^ 19) : mid (a * b) := by
  have h1 : 0 < a * b := Int.mul_pos ha hb
  have h2 : a * b ≤ 10 ^ 19 * 10 ^ 19 := Int.mul_le_mul ha2 hb2 (by omega) (by decide)
  exact mid_of (n := 200) h1 (Int.lt_of_le_of_lt h2 (by decide)) (by decide)
theorem ok_right {g1 g2 : Addr} {gd1 gd2 : FuncData} (F : Fun K "_law_right" "_law_right" s_l_right f fd) (mr : mg "range" = none) (ma : mg "all" = none)
    (G1 : FnOk P w K mg base CX0 3 g1 gd1 ["_law_pool_here"] spSize) (b1 : Binds K gd1 ["_law_pool_here"] []) (k1 : PySem.W.keepIn K (.ref g1) = true) (m1 : mg "_law_size" = some (.ref g1))
    (G2 : FnG P w K mg base CX0 5 g2 gd2 ["_law_high", "_law_low_here"] spTold) (b2 : Binds K gd2 ["_law_high", "_law_low_here"] []) (k2 : PySem.W.keepIn K (.ref g2) = true) (m2 : mg "_law_told_right" = some (.ref g2)) :
    FnG P w K mg base CX0 6 f fd ["_law_pool_here"] spRight := by
  refine okG F scRight (fun vs H Q E h => ?_) (fun cdv A outer s H vs Q E hg hr h => ?_)
  · obtain ⟨a, rfl, _⟩ := h
    rfl
  obtain ⟨p, rfl, hp, q⟩ := h
  have r2 : Room 3 _ := hr.mono (by decide)
  have l1 : ∀ n : Nat, n ≤ 1000 → n ≤ sizeLine := fun n h => Nat.le_of_lt (small1000 h)
  refine ⟨_, pss_cons (ps_for PassesOwn.never rfl (pi_range1 rfl mr (pa_cons pe_int pa_nil)) (pg_name (i := 1) scRight.nd rfl (.inl rfl))
      (pss_cons (ps_par (i := 2) (j := 3) (by rfl) scRight.nd rfl rfl (by decide) rfl rfl (pa_cons (pe_call G1 r2 rfl m1 k1 b1 .nil pass0 (pa_cons (pv 0) pa_nil)) (pa_cons (pe_call G1 r2 rfl m1 k1 b1 .nil pass0 (pa_cons (pv 0) pa_nil)) pa_nil)) (by rfl))
      (pss_cons (ps_set (i := 4) scRight.nd rfl (.inl rfl) (pe_call G1 r2 rfl m1 k1 b1 .nil pass0 (pa_cons (pv 0) pa_nil)))
      (pss_cons (ps_set (i := 5) scRight.nd rfl (.inl rfl) (pe_lst (pa_cons (pe_tup (pa_cons (pv 2) (pa_cons (pv 3) pa_nil))) (pa_cons (pe_tup (pa_cons (pe_op op_mul (pv 2) (pv 4)) (pa_cons (pe_op op_mul (pv 3) (pv 4)) pa_nil)))
        (pa_cons (pe_tup (pa_cons (pv 2) (pa_cons (pv 2) pa_nil))) (pa_cons (pe_tup (pa_cons (pe_op op_mul (pv 2) (pv 4)) (pa_cons (pv 4) pa_nil))) pa_nil))))))
      (pss_one (ps_if (pt_not (pt_val (pe_callB (cr_all (by rfl)) (by rfl) ma (by decide +kernel) (pa_cons
          (pe_lc (own := [("_law_pair", 6)]) (g := gName 6) (tt := tYes) (by rfl) scRight.nd (pi_list (pv 5)) (blkOk_by (own := [("_law_pair", 6)]) (N := ["_law_pool_here", "_law_turn", "_law_high", "_law_low_here", "_law_many", "_law_pairs", "_law_pair"]) (sc := defScope s_l_right) (by decide +kernel))
            (fun _ _ _ _ _ => pg_name (i := 6) scRight.nd rfl (Or.inl rfl)) (fun _ _ _ _ _ => pts_nil)
            (fun _ _ _ _ _ => callG G2 hg hr rfl m2 k2 b2 .nil pass0 (pa_cons (pe_ix (r := rIxT K) ix_tup (pv 6) pe_int (fun _ _ => rfl)) (pa_cons (pe_ix (r := rIxT K) ix_tup (pv 6) pe_int (fun _ _ => rfl)) pa_nil)))) pa_nil))))
        (pss_one (ps_ret pe_bl)) pss_nil))))))
    (pss_one (ps_ret pe_bl)), ?_⟩
  refine ⟨12, rfl, by decide, by decide, for_range (n := 12) (fun _ σ H1 => ∃ v1 v2 v3 v4 v5 v6, σ = [some (.ref p), v1, v2, v3, v4, v5, v6] ∧ Keep p H H1 ∧ Pool H1 p) ⟨_, _, _, _, _, _, rfl, Keep.refl p H, hp⟩ ?_ ?_⟩
  · rintro i σ H1 hi ⟨v1, v2, v3, v4, v5, v6, rfl, kp, hp1⟩
    refine ⟨_, rfl, p, rfl, hp1, fun x H2 kx hp2 x0 x1 => ?_⟩
    refine ⟨_, rfl, p, rfl, hp2, fun y H3 ky hp3 y0 y1 => ?_⟩
    refine ⟨_, _, rfl, ?_⟩
    refine ⟨_, rfl, p, rfl, hp3, fun z H4 kz hp4 z0 z1 => ?_⟩
    have k4 := kp.trans (kx.trans (ky.trans kz))
    have e19 : (10 : Int) ^ 19 < 2 ^ 64 := by decide
    have bx : -(2 ^ 64) < x ∧ x < 2 ^ 64 := ⟨by omega, by omega⟩
    have bY : -(2 ^ 64) < y ∧ y < 2 ^ 64 := ⟨by omega, by omega⟩
    refine ⟨_, rfl, _, rfl, l1 2 (by decide), fun t1 n1 => ?_⟩
    refine ⟨_, rfl, _, rfl, _, _, rfl, rfl, .inl bx, _, rfl, _, rfl, _, _, rfl, rfl, .inl bY, l1 2 (by decide), fun t2 n2 => ?_⟩
    refine ⟨_, rfl, _, rfl, l1 2 (by decide), fun t3 n3 => ?_⟩
    refine ⟨_, rfl, _, rfl, _, _, rfl, rfl, .inl bx, _, rfl, l1 2 (by decide), fun t4 n4 => ?_⟩
    refine ⟨l1 4 (by decide), fun L nL => ?_⟩
    have s1 := same_upd (o := .tup [.int x, .int y]) n1
    have s2 := same_upd (o := .tup [.int (x * z), .int (y * z)]) n2
    have s3 := same_upd (o := .tup [.int x, .int x]) n3
    have s4 := same_upd (o := .tup [.int (x * z), .int z]) n4
    have s5 := same_upd (o := .lst [.ref t1, .ref t2, .ref t3, .ref t4]) nL
    have mx : mid x := mid_of (n := 64) x0 (Int.lt_of_le_of_lt x1 e19) (by decide)
    have my : mid y := mid_of (n := 64) y0 (Int.lt_of_le_of_lt y1 e19) (by decide)
    have mz : mid z := mid_of (n := 64) z0 (Int.lt_of_le_of_lt z1 e19) (by decide)
    have mxz := mid_mul x0 x1 z0 z1
    have myz := mid_mul y0 y1 z0 z1
    have ok : ∀ v ∈ [V.ref t1, .ref t2, .ref t3, .ref t4], PairOk (upd (upd (upd (upd (upd H4 t1 (.tup [.int x, .int y])) t2 (.tup [.int (x * z), .int (y * z)])) t3 (.tup [.int x, .int x])) t4 (.tup [.int (x * z), .int z])) L (.lst [.ref t1, .ref t2, .ref t3, .ref t4])) v := by
      intro v hv
      simp only [List.mem_cons, List.not_mem_nil, or_false] at hv
      rcases hv with rfl | rfl | rfl | rfl
      · exact ⟨t1, x, y, rfl, s5 _ _ (s4 _ _ (s3 _ _ (s2 _ _ upd_same))), mx, my⟩
      · exact ⟨t2, x * z, y * z, rfl, s5 _ _ (s4 _ _ (s3 _ _ upd_same)), mxz, myz⟩
      · exact ⟨t3, x, x, rfl, s5 _ _ (s4 _ _ upd_same), mx, mx⟩
      · exact ⟨t4, x * z, z, rfl, s5 _ _ upd_same, mxz, mz⟩
    have k5 : Keep p H _ := k4.trans (Same.keep (s1.trans (s2.trans (s3.trans (s4.trans s5)))) p)
    have hp5 := hp4.same (s1.trans (s2.trans (s3.trans (s4.trans s5))))
    have hL : upd (upd (upd (upd (upd H4 t1 (.tup [.int x, .int y])) t2 (.tup [.int (x * z), .int (y * z)])) t3 (.tup [.int x, .int x])) t4 (.tup [.int (x * z), .int z])) L (.lst [.ref t1, .ref t2, .ref t3, .ref t4]) L = some (.lst [.ref t1, .ref t2, .ref t3, .ref t4]) := upd_same
    -- from here on the heap is a letter
    generalize upd (upd (upd (upd (upd H4 t1 (.tup [.int x, .int y])) t2 (.tup [.int (x * z), .int (y * z)])) t3 (.tup [.int x, .int x])) t4 (.tup [.int (x * z), .int z])) L (.lst [.ref t1, .ref t2, .ref t3, .ref t4]) = H5 at ok k5 hp5 hL ⊢
    refine ⟨_, rfl, L, rfl, ⟨_, SqL.of hL⟩, fun D nD => ?_⟩
    have sD := same_upd (o := .lst []) nD
    refine lc_list (K := K) (a := L) (xs := [V.ref t1, .ref t2, .ref t3, .ref t4]) (fun i H6 => Same H5 H6 ∧ H6 D = some (.lst (List.replicate i (.bl true))) ∧ i ≤ 4) ⟨sD, upd_same, by decide⟩ (fun i H6 _ h => SqL.of (h.1 _ _ hL)) ?_ ?_
    · rintro i v H6 hi ⟨s6, hD, i4⟩
      obtain ⟨t, a, b, rfl, ht, ma', mb'⟩ := (ok v (List.mem_of_getElem? hi)).same s6
      have hi4 : i < 4 := (List.getElem?_eq_some_iff.mp hi).1
      refine ⟨rfl, _, rfl, t, _, _, _, rfl, rfl, .inl (.inl ht), rfl, _, rfl, t, _, _, _, rfl, rfl, .inl (.inl ht), rfl, a, b, rfl, ma', mb', fun H7 s7 => ?_⟩
      refine ⟨_, s7 _ _ hD, by rw [List.length_replicate]; exact small1000 (by omega), fun c o e => ?_, ?_, by omega⟩
      · rw [upd_ne (ne_of_none e nD)]
        exact s7 _ _ (s6 _ _ e)
      · rw [upd_same, rep_snoc]
    · rintro H6 ⟨s6, hD, _⟩
      refine ⟨D, List.replicate 4 true, rfl, ?_, _, rfl, ?_⟩
      · rw [rep_bl]
        exact SqL.of hD
      · rw [all_true]
        exact iteF ⟨_, _, _, _, _, _, rfl, k5.trans (Same.keep s6 p), hp5.same s6⟩
  · rintro σ H1 ⟨v1, v2, v3, v4, v5, v6, rfl, kp, hp1⟩
    exact q _ kp hp1
end
/-! ### k02_law.lean -/
section
variable {P : Program} {w : World} {K : PySem.W.Frag} {mg : Str → Option Value} {base : Heap} {f : Addr} {fd : FuncData}
theorem scLaw : FnScope ["_law_script", "_law_far", "_law_told", "_law_k"] ["_law_script"] (defScope s_law) := ⟨rfl, rfl, rfl, by decide +kernel, rfl, by decide +kernel, by decide +kernel⟩
def spLaw (K : PySem.W.Frag) : Sp := fun vs H Q _ => ∃ (a : Addr) (ns : List Int), vs = [.ref a] ∧ SqL K H a (ns.map V.int) ∧ ns.length ≤ 63 ∧ ∀ H', Q (.bl true) H'
def far : Int := 10 ^ 39
theorem ok_law {g1 g2 g3 g4 g5 : Addr} {gd1 gd2 gd3 gd4 gd5 : FuncData} (F : Fun K "law" "law" s_law f fd) (mr : mg "repr" = none) (ma : mg "all" = none) (mrg : mg "range" = none) (mx : mg "max" = none) (mn : mg "min" = none) (ml : mg "len" = none)
    (G1 : FnG P w K mg base CX0 4 g1 gd1 ["top", "bottom"] spFracGood) (B : FracCalls K gd1) (k1 : PySem.W.keepIn K (.ref g1) = true) (m1 : mg "fraction" = some (.ref g1))
    (G2 : FnG P w K mg base CX0 5 g2 gd2 ["_law_high", "_law_low_here"] spTold) (b2 : Binds K gd2 ["_law_high", "_law_low_here"] []) (k2 : PySem.W.keepIn K (.ref g2) = true) (m2 : mg "_law_told_right" = some (.ref g2))
    (G3 : FnG P w K mg base CX0 6 g3 gd3 ["_law_pool_here"] spRight) (b3 : Binds K gd3 ["_law_pool_here"] []) (k3 : PySem.W.keepIn K (.ref g3) = true) (m3 : mg "_law_right" = some (.ref g3))
    (G4 : FnOk P w K mg base CX0 2 g4 gd4 ["_law_figure"] spPool) (b4 : Binds K gd4 ["_law_figure"] []) (k4 : PySem.W.keepIn K (.ref g4) = true) (m4 : mg "_law_pool" = some (.ref g4))
    (G5 : FnOk P w K mg base CX0 2 g5 gd5 ["_law_script", "_law_k"] (spCell K)) (b5 : Binds K gd5 ["_law_script", "_law_k"] []) (k5 : PySem.W.keepIn K (.ref g5) = true) (m5 : mg "_law_cell" = some (.ref g5)) :
    FnG P w K mg base CX0 7 f fd ["_law_script"] (spLaw K) := by
  refine okG F scLaw (fun vs H Q E h => ?_) (fun cdv A outer s H vs Q E hg hr h => ?_)
  · obtain ⟨a, ns, rfl, _⟩ := h
    rfl
  obtain ⟨a, ns, rfl, hS, h63, q⟩ := h
  obtain ⟨ds2, vd2, bb2⟩ := B.b2
  obtain ⟨ds1, vd1, bb1⟩ := B.b1
  have r1 : Room 2 _ := hr.mono (by decide)
  have r3 : Room 4 _ := hr.mono (by decide)
  have r4 : Room 5 _ := hr.mono (by decide)
  have l1 : ∀ n : Nat, n ≤ 1000 → n ≤ sizeLine := fun n h => Nat.le_of_lt (small1000 h)
  refine ⟨_, pss_cons (ps_set (i := 1) scLaw.nd rfl (.inl rfl) (pe_op op_pow pe_int pe_int))
    (pss_cons (ps_set (i := 2) scLaw.nd rfl (.inl rfl) (pe_lst
      (pa_cons (callG G1 hg r3 rfl m1 k1 bb2 vd2 pass0 (pa_cons (pe_op op_mul pe_int (pv 1)) (pa_cons (pe_op op_mul pe_int (pv 1)) pa_nil)))
      (pa_cons (callG G1 hg r3 rfl m1 k1 bb2 vd2 pass0 (pa_cons (pv 1) (pa_cons (pv 1) pa_nil)))
      (pa_cons (callG G1 hg r3 rfl m1 k1 bb2 vd2 pass0 (pa_cons (pv 1) (pa_cons pe_int pa_nil)))
      (pa_cons (callG G1 hg r3 rfl m1 k1 bb2 vd2 pass0 (pa_cons (pe_op op_pow pe_int pe_int) (pa_cons (pe_op op_pow pe_int pe_int) pa_nil))) pa_nil))))))
    (pss_cons (ps_if (pt_cmpR op_ne
        (pe_callB (reprData hg (roomR hr)) (by rfl) mr PyProof.Rows.boot_repr (pa_cons (pe_op op_cat (pv 2) (pe_lst (pa_cons (callG G1 hg r3 rfl m1 k1 bb1 vd1 pass0 (pa_cons pe_int pa_nil)) pa_nil))) pa_nil))
        (pe_callB (reprData hg (roomR hr)) (by rfl) mr PyProof.Rows.boot_repr (pa_cons (pe_lst (pa_cons (pe_tup (pa_cons pe_int (pa_cons pe_int pa_nil))) (pa_cons (pe_tup (pa_cons pe_int (pa_cons pe_int pa_nil)))
          (pa_cons (pe_tup (pa_cons (pv 1) (pa_cons pe_int pa_nil))) (pa_cons (pe_tup (pa_cons pe_int (pa_cons pe_int pa_nil))) (pa_cons (pe_tup (pa_cons pe_int (pa_cons pe_int pa_nil))) pa_nil)))))) pa_nil)) (nomark _))
      (pss_one (ps_ret pe_bl)) pss_nil)
    (pss_cons (ps_if (pt_not (pt_val (callG G2 hg r4 rfl m2 k2 b2 .nil pass0 (pa_cons (pe_op op_add (pe_op op_mul pe_int (pv 1)) pe_int) (pa_cons (pe_op op_sub (pe_op op_mul pe_int (pv 1)) pe_int) pa_nil)))))
      (pss_one (ps_ret pe_bl)) pss_nil)
    (pss_one (ps_ret (pe_callB (cr_all (by rfl)) (by rfl) ma (by decide +kernel) (pa_cons
          (pe_lc (own := [("_law_k", 3)]) (g := gName 3) (tt := tYes) (by rfl) scLaw.nd
            (pi_range1 rfl mrg (pa_cons (pe_callB (call_max2 (by rfl)) (by rfl) mx (by decide +kernel) (pa_cons pe_int (pa_cons (pe_callB (call_min2 (by rfl)) (by rfl) mn (by decide +kernel) (pa_cons (pe_callB call_len_seq (by rfl) ml PySem.boot_len (pa_cons (pv 0) pa_nil)) (pa_cons pe_int pa_nil))) pa_nil))) pa_nil))
            (blkOk_by (own := [("_law_k", 3)]) (N := ["_law_script", "_law_far", "_law_told", "_law_k"]) (sc := defScope s_law) (by decide +kernel))
            (fun _ _ _ _ _ => pg_name (i := 3) scLaw.nd rfl (Or.inl rfl)) (fun _ _ _ _ _ => pts_nil)
            (fun _ _ _ _ _ => callG G3 hg hr rfl m3 k3 b3 .nil pass0 (pa_cons (pe_call G4 r1 rfl m4 k4 b4 .nil pass0 (pa_cons (pe_call G5 r1 rfl m5 k5 b5 .nil pass0 (pa_cons (pv 0) (pa_cons (pv 3) pa_nil))) pa_nil)) pa_nil))) pa_nil))))))), ?_⟩
  have ef : (10 : Int) ^ (39 : Int).toNat = far := rfl
  have bf : mid far := ⟨by decide, by decide⟩
  have b6 : mid (6 * far) := ⟨by decide, by decide⟩
  have b4' : mid (4 * far) := ⟨by decide, by decide⟩
  have m1' : mid 1 := ⟨by decide, by decide⟩
  have m64 : mid (2 ^ 64) := ⟨by decide, by decide⟩
  have m63 : mid (2 ^ 63) := ⟨by decide, by decide⟩
  refine ⟨_, _, rfl, rfl, ⟨by decide, by decide, by decide⟩, ?_⟩
  refine ⟨_, rfl, _, _, rfl, rfl, .inl (by decide), _, rfl, _, _, rfl, rfl, .inl (by decide), 6 * far, 4 * far, rfl, b6.big, b4'.big, fun H1 p1 s1 n1 e1 => ?_⟩
  refine ⟨_, rfl, _, rfl, far, far, rfl, bf.big, bf.big, fun H2 p2 s2 n2 e2 => ?_⟩
  refine ⟨_, rfl, far, 1, rfl, bf.big, m1'.big, fun H3 p3 s3 n3 e3 => ?_⟩
  refine ⟨_, _, rfl, rfl, ⟨by decide, by decide, by decide⟩, _, _, rfl, rfl, ⟨by decide, by decide, by decide⟩, 2 ^ 64, 2 ^ 63, rfl, m64.big, m63.big, fun H4 p4 s4 n4 e4 => ?_⟩
  refine ⟨l1 4 (by decide), fun L nL => ?_⟩
  rw [lowT_eq (x := 3) (y := 2) (by decide +kernel) (by decide +kernel)] at e1
  rw [lowT_eq (x := 1) (y := 1) (by decide +kernel) (by decide +kernel)] at e2
  rw [lowT_one] at e3
  rw [lowT_eq (x := 2) (y := 1) (by decide +kernel) (by decide +kernel)] at e4
  have s5 := same_upd (o := .lst [.ref p1, .ref p2, .ref p3, .ref p4]) nL
  -- told + [fraction(1)]
  refine ⟨_, rfl, 1, 1, rfl, m1'.big, m1'.big, fun H5 p5 s6 n5 e5 => ?_⟩
  rw [lowT_one] at e5
  refine ⟨l1 1 (by decide), fun LL nLL => ?_⟩
  have s7 := same_upd (o := .lst [.ref p5]) nLL
  have hL := s7 _ _ (s6 _ _ (upd_same (H := H4) (a := L) (o := .lst [.ref p1, .ref p2, .ref p3, .ref p4])))
  refine ⟨L, LL, _, _, rfl, rfl, hL, upd_same, l1 5 (by decide), fun L3 nL3 => ?_⟩
  have s8 := same_upd (o := .lst ([.ref p1, .ref p2, .ref p3, .ref p4] ++ [.ref p5])) nL3
  have s68 := s6.trans (s7.trans s8)
  have s58 := s5.trans s68
  have dp : Dp K _ (.ref L3) (.list [.tuple [.int 3, .int 2], .tuple [.int 1, .int 1], .tuple [.int far, .int 1], .tuple [.int 2, .int 1], .tuple [.int 1, .int 1]]) :=
    .lst (SqL.of upd_same) (.cons (tupD (s58 _ _ (s4 _ _ (s3 _ _ (s2 _ _ e1))))) (.cons (tupD (s58 _ _ (s4 _ _ (s3 _ _ e2)))) (.cons (tupD (s58 _ _ (s4 _ _ e3))) (.cons (tupD (s58 _ _ e4)) (.cons (tupD (s7.trans s8 _ _ e5)) .nil)))))
  have w32 := Sm.pair (a := 3) (b := 2) (by decide) (by decide)
  have w11 := Sm.pair (a := 1) (b := 1) (by decide) (by decide)
  have wf1 := Sm.pair (a := far) (b := 1) (by decide) (by decide)
  have w21 := Sm.pair (a := 2) (b := 1) (by decide) (by decide)
  have sm := Sm.lst (SmL.cons w32 (SmL.cons w11 (SmL.cons wf1 (SmL.cons w21 (SmL.cons w11 SmL.nil)))))
  refine repQ dp rfl sm (by decide) (by decide) ?_
  refine ⟨l1 2 (by decide), fun t1 o1 => ?_⟩
  refine ⟨l1 2 (by decide), fun t2 o2 => ?_⟩
  refine ⟨_, rfl, l1 2 (by decide), fun t3 o3 => ?_⟩
  refine ⟨l1 2 (by decide), fun t4 o4 => ?_⟩
  refine ⟨l1 2 (by decide), fun t5 o5 => ?_⟩
  refine ⟨l1 5 (by decide), fun M nM => ?_⟩
  have z1 := same_upd (o := .tup [.int 3, .int 2]) o1
  have z2 := same_upd (o := .tup [.int 1, .int 1]) o2
  have z3 := same_upd (o := .tup [.int far, .int 1]) o3
  have z4 := same_upd (o := .tup [.int 2, .int 1]) o4
  have z5 := same_upd (o := .tup [.int 1, .int 1]) o5
  have z6 := same_upd (o := .lst [.ref t1, .ref t2, .ref t3, .ref t4, .ref t5]) nM
  have dq : Dp K _ (.ref M) (.list [.tuple [.int 3, .int 2], .tuple [.int 1, .int 1], .tuple [.int far, .int 1], .tuple [.int 2, .int 1], .tuple [.int 1, .int 1]]) :=
    .lst (SqL.of upd_same) (.cons (tupD (z6 _ _ (z5 _ _ (z4 _ _ (z3 _ _ (z2 _ _ upd_same)))))) (.cons (tupD (z6 _ _ (z5 _ _ (z4 _ _ (z3 _ _ upd_same))))) (.cons (tupD (z6 _ _ (z5 _ _ (z4 _ _ upd_same)))) (.cons (tupD (z6 _ _ (z5 _ _ upd_same))) (.cons (tupD (z6 _ _ upd_same)) .nil)))))
  refine repQ dq rfl sm (by decide) (by decide) ?_
  refine ⟨rfl, _, rfl, iteNS rfl ?_⟩
  -- one pair more
  have ma1 : mid (9 * far + 1) := ⟨by decide, by decide⟩
  have ma2 : mid (9 * far - 1) := ⟨by decide, by decide⟩
  refine ⟨_, rfl, _, _, rfl, rfl, .inl (by decide), _, _, rfl, rfl, _, rfl, _, _, rfl, rfl, .inl (by decide), _, _, rfl, rfl, 9 * far + 1, 9 * far - 1, rfl, ma1, ma2, fun H6 s9 => ?_⟩
  refine ⟨_, rfl, iteF ?_⟩
  have sAll : Same H H6 := s1.trans (s2.trans (s3.trans (s4.trans (s58.trans (z1.trans (z2.trans (z3.trans (z4.trans (z5.trans (z6.trans s9))))))))))
  clear dp dq sm e1 e2 e3 e4 e5 hL
  -- the cells
  refine ⟨_, rfl, a, _, rfl, .inl (sAll.seq hS), _, _, rfl, _, _, rfl, ?_⟩
  have bounds : ∀ x : Int, 0 ≤ x → x ≤ 63 → 0 ≤ (if (if (5 : Int) < x then 5 else x) > 2 then (if (5 : Int) < x then 5 else x) else 2) ∧ (if (if (5 : Int) < x then 5 else x) > 2 then (if (5 : Int) < x then 5 else x) else 2) ≤ 5 := by
    intro x h0 h1
    split <;> split <;> omega
  have bd := bounds (((ns.map V.int).length : Nat) : Int) (by omega) (by rw [List.length_map]; omega)
  refine ⟨_, rfl, ?_⟩
  generalize (if (if (5 : Int) < (((ns.map V.int).length : Nat) : Int) then 5 else (((ns.map V.int).length : Nat) : Int)) > 2 then (if (5 : Int) < (((ns.map V.int).length : Nat) : Int) then 5 else (((ns.map V.int).length : Nat) : Int)) else 2) = m at bd ⊢
  refine ⟨by omega, by omega, fun D nD => ?_⟩
  have sD := same_upd (o := .lst []) nD
  refine lc_range (lo := 0) (n := m.toNat) (fun i H7 => Same H6 H7 ∧ H7 D = some (.lst (List.replicate i (.bl true)))) ⟨sD, upd_same⟩ ?_ ?_
  · rintro i H7 hi ⟨s10, hD⟩
    refine ⟨rfl, _, rfl, _, rfl, a, ns, 0 + i, rfl, s10.seq (sAll.seq hS), h63, by omega, by omega, fun z H8 s11 => ?_⟩
    refine ⟨z, rfl, fun p H9 s12 np pl => ?_⟩
    refine ⟨p, rfl, pl, fun H10 kp pl2 => ?_⟩
    have s13 : Same H7 H10 := kp.same (s11.trans s12) (s11.free np)
    refine ⟨_, s13 _ _ hD, by rw [List.length_replicate]; exact small1000 (by omega), fun c o e => ?_, ?_⟩
    · rw [upd_ne (ne_of_none e nD)]
      exact s13 _ _ (s10 _ _ e)
    · rw [upd_same, rep_snoc]
  · rintro H7 ⟨s10, hD⟩
    refine ⟨D, List.replicate m.toNat true, rfl, ?_, ?_⟩
    · rw [rep_bl]
      exact SqL.of hD
    · rw [all_true]
      exact q _
end
set_option maxHeartbeats 0 in
theorem all_mk {l : PySem.W.OpenLaw} {w : World} {K : PySem.W.Frag} {h : Heap} {mg : Str → Option Value} {fa : Addr} (X : K.In h) (G : h.Ns mainGlobals mg) (hfa : mg "law" = some (.ref fa))
    {f0 f1 f2 f3 f4 f5 f6 f7 f8 f9 f10 f11 f12 : Addr} {od0 an0 od1 an1 od2 an2 od3 an3 od4 an4 od5 an5 od6 an6 od7 an7 od8 an8 od9 an9 od10 an10 od11 an11 od12 an12 : Option Addr} {sl0 sl1 sl2 sl3 sl4 sl5 sl6 sl7 sl8 sl9 sl10 sl11 sl12 : Array (Option Value)} {oc0 kV0 dc0 pm0 cd0 ct0 oc1 kV1 dc1 pm1 cd1 ct1 oc2 kV2 dc2 pm2 cd2 ct2 oc3 kV3 dc3 pm3 cd3 ct3 oc4 kV4 dc4 pm4 cd4 ct4 oc5 kV5 dc5 pm5 cd5 ct5 oc6 kV6 dc6 pm6 cd6 ct6 oc7 kV7 dc7 pm7 cd7 ct7 oc8 kV8 dc8 pm8 cd8 ct8 oc9 kV9 dc9 pm9 cd9 ct9 oc10 kV10 dc10 pm10 cd10 ct10 oc11 kV11 dc11 pm11 cd11 ct11 oc12 kV12 dc12 pm12 cd12 ct12 : Value}
    (a0 : PySem.W.nsIn K mainGlobals "is_integer" = some (some (.ref f0))) (l0 : K.lookup f0 = some ⟨oc0, od0, .func (PySem.W.fnOf "is_integer" "is_integer" (defArgs s_is_integer) (defBody s_is_integer) (defScope s_is_integer) .none kV0 dc0 pm0 an0 cd0 ct0), sl0⟩) (c0 : PySem.W.codeIn K cd0 "is_integer" = true) (k0 : PySem.W.keepIn K (.ref f0) = true)
    (a1 : PySem.W.nsIn K mainGlobals "is_positive" = some (some (.ref f1))) (l1 : K.lookup f1 = some ⟨oc1, od1, .func (PySem.W.fnOf "is_positive" "is_positive" (defArgs s_is_positive) (defBody s_is_positive) (defScope s_is_positive) .none kV1 dc1 pm1 an1 cd1 ct1), sl1⟩) (c1 : PySem.W.codeIn K cd1 "is_positive" = true) (k1 : PySem.W.keepIn K (.ref f1) = true)
    (a2 : PySem.W.nsIn K mainGlobals "common_divisor" = some (some (.ref f2))) (l2 : K.lookup f2 = some ⟨oc2, od2, .func (PySem.W.fnOf "common_divisor" "common_divisor" (defArgs s_common_divisor) (defBody s_common_divisor) (defScope s_common_divisor) .none kV2 dc2 pm2 an2 cd2 ct2), sl2⟩) (c2 : PySem.W.codeIn K cd2 "common_divisor" = true) (k2 : PySem.W.keepIn K (.ref f2) = true)
    (a3 : PySem.W.nsIn K mainGlobals "lowest_terms" = some (some (.ref f3))) (l3 : K.lookup f3 = some ⟨oc3, od3, .func (PySem.W.fnOf "lowest_terms" "lowest_terms" (defArgs s_lowest_terms) (defBody s_lowest_terms) (defScope s_lowest_terms) .none kV3 dc3 pm3 an3 cd3 ct3), sl3⟩) (c3 : PySem.W.codeIn K cd3 "lowest_terms" = true) (k3 : PySem.W.keepIn K (.ref f3) = true)
    {T4 : Addr} {toc4 : Value} {tod4 : Option Addr} {tn4 : Nat} {tsl4 : Array (Option Value)} {tk4 : Tok}
    (a4 : PySem.W.nsIn K mainGlobals "fraction" = some (some (.ref f4))) (l4 : K.lookup f4 = some ⟨oc4, od4, .func (PySem.W.fnOf "fraction" "fraction" (defArgs s_fraction) (defBody s_fraction) (defScope s_fraction) (.ref T4) kV4 dc4 pm4 an4 cd4 ct4), sl4⟩) (c4 : PySem.W.codeIn K cd4 "fraction" = true) (k4 : PySem.W.keepIn K (.ref f4) = true)
    (t4 : K.lookup T4 = some ⟨toc4, tod4, .seq #[.int 1 tk4] tn4, tsl4⟩)
    (a5 : PySem.W.nsIn K mainGlobals "_law_cell" = some (some (.ref f5))) (l5 : K.lookup f5 = some ⟨oc5, od5, .func (PySem.W.fnOf "_law_cell" "_law_cell" (defArgs s_l_cell) (defBody s_l_cell) (defScope s_l_cell) .none kV5 dc5 pm5 an5 cd5 ct5), sl5⟩) (c5 : PySem.W.codeIn K cd5 "_law_cell" = true) (k5 : PySem.W.keepIn K (.ref f5) = true)
    (a6 : PySem.W.nsIn K mainGlobals "_law_pool" = some (some (.ref f6))) (l6 : K.lookup f6 = some ⟨oc6, od6, .func (PySem.W.fnOf "_law_pool" "_law_pool" (defArgs s_l_pool) (defBody s_l_pool) (defScope s_l_pool) .none kV6 dc6 pm6 an6 cd6 ct6), sl6⟩) (c6 : PySem.W.codeIn K cd6 "_law_pool" = true) (k6 : PySem.W.keepIn K (.ref f6) = true)
    (a7 : PySem.W.nsIn K mainGlobals "_law_draw" = some (some (.ref f7))) (l7 : K.lookup f7 = some ⟨oc7, od7, .func (PySem.W.fnOf "_law_draw" "_law_draw" (defArgs s_l_draw) (defBody s_l_draw) (defScope s_l_draw) .none kV7 dc7 pm7 an7 cd7 ct7), sl7⟩) (c7 : PySem.W.codeIn K cd7 "_law_draw" = true) (k7 : PySem.W.keepIn K (.ref f7) = true)
    (a8 : PySem.W.nsIn K mainGlobals "_law_low" = some (some (.ref f8))) (l8 : K.lookup f8 = some ⟨oc8, od8, .func (PySem.W.fnOf "_law_low" "_law_low" (defArgs s_l_low) (defBody s_l_low) (defScope s_l_low) .none kV8 dc8 pm8 an8 cd8 ct8), sl8⟩) (c8 : PySem.W.codeIn K cd8 "_law_low" = true) (k8 : PySem.W.keepIn K (.ref f8) = true)
    (a9 : PySem.W.nsIn K mainGlobals "_law_told_right" = some (some (.ref f9))) (l9 : K.lookup f9 = some ⟨oc9, od9, .func (PySem.W.fnOf "_law_told_right" "_law_told_right" (defArgs s_l_told_right) (defBody s_l_told_right) (defScope s_l_told_right) .none kV9 dc9 pm9 an9 cd9 ct9), sl9⟩) (c9 : PySem.W.codeIn K cd9 "_law_told_right" = true) (k9 : PySem.W.keepIn K (.ref f9) = true)
    (a10 : PySem.W.nsIn K mainGlobals "_law_size" = some (some (.ref f10))) (l10 : K.lookup f10 = some ⟨oc10, od10, .func (PySem.W.fnOf "_law_size" "_law_size" (defArgs s_l_size) (defBody s_l_size) (defScope s_l_size) .none kV10 dc10 pm10 an10 cd10 ct10), sl10⟩) (c10 : PySem.W.codeIn K cd10 "_law_size" = true) (k10 : PySem.W.keepIn K (.ref f10) = true)
    (a11 : PySem.W.nsIn K mainGlobals "_law_right" = some (some (.ref f11))) (l11 : K.lookup f11 = some ⟨oc11, od11, .func (PySem.W.fnOf "_law_right" "_law_right" (defArgs s_l_right) (defBody s_l_right) (defScope s_l_right) .none kV11 dc11 pm11 an11 cd11 ct11), sl11⟩) (c11 : PySem.W.codeIn K cd11 "_law_right" = true) (k11 : PySem.W.keepIn K (.ref f11) = true)
    (a12 : PySem.W.nsIn K mainGlobals "law" = some (some (.ref f12))) (l12 : K.lookup f12 = some ⟨oc12, od12, .func (PySem.W.fnOf "law" "law" (defArgs s_law) (defBody s_law) (defScope s_law) .none kV12 dc12 pm12 an12 cd12 ct12), sl12⟩) (c12 : PySem.W.codeIn K cd12 "law" = true) (k12 : PySem.W.keepIn K (.ref f12) = true)
    (z_isinstance : PySem.W.nsIn K mainGlobals "isinstance" = some none)
    (z_int : PySem.W.nsIn K mainGlobals "int" = some none)
    (z_bool : PySem.W.nsIn K mainGlobals "bool" = some none)
    (z_len : PySem.W.nsIn K mainGlobals "len" = some none)
    (z_abs : PySem.W.nsIn K mainGlobals "abs" = some none)
    (z_divmod : PySem.W.nsIn K mainGlobals "divmod" = some none)
    (z_repr : PySem.W.nsIn K mainGlobals "repr" = some none)
    (z_range : PySem.W.nsIn K mainGlobals "range" = some none)
    (z_all : PySem.W.nsIn K mainGlobals "all" = some none)
    (z_max : PySem.W.nsIn K mainGlobals "max" = some none)
    (z_min : PySem.W.nsIn K mainGlobals "min" = some none)
    : ∃ fd : FuncData, (∀ (s : Shared) (u : Value), BindsTo s fd ⟨[u], []⟩ [("_law_script", u)]) ∧ ∀ base : Heap, K.In base → base.Ns mainGlobals mg → FnG l.prog w K mg base CX0 7 fa fd ["_law_script"] (spLaw K) := by
  have e := hfa.symm.trans (PySem.W.mg_of X G a12)
  cases e
  have F0 := fun_mk (st := s_is_integer) l0 c0 k0
  have b0 := F0.binds (ps := ["value"]) fun _ _ _ _ _ _ us hl => match us, hl with | [_], _ => rfl
  have m0 := PySem.W.mg_of X G a0
  have F1 := fun_mk (st := s_is_positive) l1 c1 k1
  have b1 := F1.binds (ps := ["value"]) fun _ _ _ _ _ _ us hl => match us, hl with | [_], _ => rfl
  have m1 := PySem.W.mg_of X G a1
  have F2 := fun_mk (st := s_common_divisor) l2 c2 k2
  have b2 := F2.binds (ps := ["one", "other"]) fun _ _ _ _ _ _ us hl => match us, hl with | [_, _], _ => rfl
  have m2 := PySem.W.mg_of X G a2
  have F3 := fun_mk (st := s_lowest_terms) l3 c3 k3
  have b3 := F3.binds (ps := ["top", "bottom"]) fun _ _ _ _ _ _ us hl => match us, hl with | [_, _], _ => rfl
  have m3 := PySem.W.mg_of X G a3
  have F4 : FunD K "fraction" "fraction" (defArgs s_fraction) (defBody s_fraction) (defScope s_fraction) [.int 1] [] f4 _ := ⟨⟨_, _, _, _, _, _, _, _, _, _, rfl, l4, c4, .inr ⟨by simp, T4, _, [.int 1 tk4], tn4, rfl, t4, rfl, .cons ⟨_, rfl⟩ .nil⟩, .inl rfl⟩, k4⟩
  have m4 := PySem.W.mg_of X G a4
  have F5 := fun_mk (st := s_l_cell) l5 c5 k5
  have b5 := F5.binds (ps := ["_law_script", "_law_k"]) fun _ _ _ _ _ _ us hl => match us, hl with | [_, _], _ => rfl
  have m5 := PySem.W.mg_of X G a5
  have F6 := fun_mk (st := s_l_pool) l6 c6 k6
  have b6 := F6.binds (ps := ["_law_figure"]) fun _ _ _ _ _ _ us hl => match us, hl with | [_], _ => rfl
  have m6 := PySem.W.mg_of X G a6
  have F7 := fun_mk (st := s_l_draw) l7 c7 k7
  have b7 := F7.binds (ps := ["_law_pool_here", "_law_most"]) fun _ _ _ _ _ _ us hl => match us, hl with | [_, _], _ => rfl
  have m7 := PySem.W.mg_of X G a7
  have F8 := fun_mk (st := s_l_low) l8 c8 k8
  have b8 := F8.binds (ps := ["_law_high_part", "_law_low_part"]) fun _ _ _ _ _ _ us hl => match us, hl with | [_, _], _ => rfl
  have m8 := PySem.W.mg_of X G a8
  have F9 := fun_mk (st := s_l_told_right) l9 c9 k9
  have b9 := F9.binds (ps := ["_law_high", "_law_low_here"]) fun _ _ _ _ _ _ us hl => match us, hl with | [_, _], _ => rfl
  have m9 := PySem.W.mg_of X G a9
  have F10 := fun_mk (st := s_l_size) l10 c10 k10
  have b10 := F10.binds (ps := ["_law_pool_here"]) fun _ _ _ _ _ _ us hl => match us, hl with | [_], _ => rfl
  have m10 := PySem.W.mg_of X G a10
  have F11 := fun_mk (st := s_l_right) l11 c11 k11
  have b11 := F11.binds (ps := ["_law_pool_here"]) fun _ _ _ _ _ _ us hl => match us, hl with | [_], _ => rfl
  have m11 := PySem.W.mg_of X G a11
  have F12 := fun_mk (st := s_law) l12 c12 k12
  have b12 := F12.binds (ps := ["_law_script"]) fun _ _ _ _ _ _ us hl => match us, hl with | [_], _ => rfl
  have m12 := PySem.W.mg_of X G a12
  have n_isinstance := PySem.W.mg_none_of X G z_isinstance
  have n_int := PySem.W.mg_none_of X G z_int
  have n_bool := PySem.W.mg_none_of X G z_bool
  have n_len := PySem.W.mg_none_of X G z_len
  have n_abs := PySem.W.mg_none_of X G z_abs
  have n_divmod := PySem.W.mg_none_of X G z_divmod
  have n_repr := PySem.W.mg_none_of X G z_repr
  have n_range := PySem.W.mg_none_of X G z_range
  have n_all := PySem.W.mg_none_of X G z_all
  have n_max := PySem.W.mg_none_of X G z_max
  have n_min := PySem.W.mg_none_of X G z_min
  refine ⟨PySem.W.fnOf "law" "law" (defArgs s_law) (defBody s_law) (defScope s_law) .none kV12 dc12 pm12 an12 cd12 ct12, fun s u => .of_eq rfl, fun base inB nsB => ?_⟩
  have B := frac_calls F4
  have g0 := ok_is_positive F1 (ok_is_integer (P := l.prog) (w := w) (mg := mg) (base := base) F0 n_isinstance n_int n_bool) b0 k0 m0
  have g1 := ok_common_divisor (P := l.prog) (w := w) (mg := mg) (base := base) F2
  have g2 := ok_lowest_terms F3 g1 b2 k2 m2
  have g3 := ok_fraction_good F4 g0 b1 k1 m1 g2 b3 k3 m3
  have g4 := ok_cell (P := l.prog) (w := w) (mg := mg) (base := base) F5 n_len
  have g5 := ok_pool (P := l.prog) (w := w) (mg := mg) (base := base) F6 n_abs
  have g6 := ok_draw (P := l.prog) (w := w) (mg := mg) (base := base) F7 n_divmod
  have g7 := ok_llow (P := l.prog) (w := w) (mg := mg) (base := base) F8
  have g8 := ok_told F9 n_repr (.of g7) b8 k8 m8 g3 B k4 m4
  have g9 := ok_size F10 g6 b7 k7 m7
  have g10 := ok_right F11 n_range n_all g9 b10 k10 m10 g8 b9 k9 m9
  exact ok_law F12 n_repr n_all n_range n_max n_min n_len g3 B k4 m4 g8 b9 k9 m9 g10 b11 k11 m11 g5 b6 k6 m6 g4 b5 k5 m5
end Gd
open PySem PySem.W PyProof.Rows
set_option maxRecDepth 100000 in
set_option maxHeartbeats 0 in
theorem PySem.Challenge.cw_sizechains_k02_fractions_of_integers_holds : PySem.Challenge.rw_sizechains_k02_fractions_of_integers.Holds := by
  w_on; o_law; k_head; (case hw => w_witness2)
  k_fill
  refine Gd.walkG (l := PySem.Challenge.rw_sizechains_k02_fractions_of_integers) (k := 7) (n := 63) (x := "_law_script") (sp := Gd.spLaw) rfl (by decide) rfl ⟨rfl, by decide, by decide⟩ (fun w h Y => PySem.W.kIn_of Y) ?F (fun K H a ns hl _ hS => ⟨a, ns, rfl, hS, hl, fun _ => rfl⟩)
  case F =>
    intro w mg fa h KX G hmg
    refine' Gd.all_mk KX G hmg ?a0 ?l0 ?c0 ?k0 ?a1 ?l1 ?c1 ?k1 ?a2 ?l2 ?c2 ?k2 ?a3 ?l3 ?c3 ?k3 ?a4 ?l4 ?c4 ?k4 ?t4 ?a5 ?l5 ?c5 ?k5 ?a6 ?l6 ?c6 ?k6 ?a7 ?l7 ?c7 ?k7 ?a8 ?l8 ?c8 ?k8 ?a9 ?l9 ?c9 ?k9 ?a10 ?l10 ?c10 ?k10 ?a11 ?l11 ?c11 ?k11 ?a12 ?l12 ?c12 ?k12 ?z_isinstance ?z_int ?z_bool ?z_len ?z_abs ?z_divmod ?z_repr ?z_range ?z_all ?z_max ?z_min
    (case a0 => k_is)
    (case l0 => k_is)
    (case c0 => k_is)
    (case k0 => k_is)
    (case a1 => k_is)
    (case l1 => k_is)
    (case c1 => k_is)
    (case k1 => k_is)
    (case a2 => k_is)
    (case l2 => k_is)
    (case c2 => k_is)
    (case k2 => k_is)
    (case a3 => k_is)
    (case l3 => k_is)
    (case c3 => k_is)
    (case k3 => k_is)
    (case a4 => k_is)
    (case l4 => k_is)
    (case c4 => k_is)
    (case k4 => k_is)
    (case t4 => k_is)
    (case a5 => k_is)
    (case l5 => k_is)
    (case c5 => k_is)
    (case k5 => k_is)
    (case a6 => k_is)
    (case l6 => k_is)
    (case c6 => k_is)
    (case k6 => k_is)
    (case a7 => k_is)
    (case l7 => k_is)
    (case c7 => k_is)
    (case k7 => k_is)
    (case a8 => k_is)
    (case l8 => k_is)
    (case c8 => k_is)
    (case k8 => k_is)
    (case a9 => k_is)
    (case l9 => k_is)
    (case c9 => k_is)
    (case k9 => k_is)
    (case a10 => k_is)
    (case l10 => k_is)
    (case c10 => k_is)
    (case k10 => k_is)
    (case a11 => k_is)
    (case l11 => k_is)
    (case c11 => k_is)
    (case k11 => k_is)
    (case a12 => k_is)
    (case l12 => k_is)
    (case c12 => k_is)
    (case k12 => k_is)
    (case z_isinstance => k_is)
    (case z_int => k_is)
    (case z_bool => k_is)
    (case z_len => k_is)
    (case z_abs => k_is)
    (case z_divmod => k_is)
    (case z_repr => k_is)
    (case z_range => k_is)
    (case z_all => k_is)
    (case z_max => k_is)
    (case z_min => k_is)
