import PyProof.Rows.All
import Wide.All
import OpenK.AllK
import Wide.FinOn
import HandS.ForMost
import HandS.Exc
import HandS.TryOnly
import HandS.ExcOwn
import HandS.WordsExc
import HandS.Flow
import HandS.Wide
import HandS.WideBits
import HandS.Defaults
import HandS.IsInst
import HandS.RaiseMore
import PySem.Challenge.RW_sizechains_k04_quotients_and_comparisons
set_option Elab.async false
set_option linter.all false
set_option exponentiation.threshold 10000
set_option maxRecDepth 100000
namespace Gd
open PySem PySem.Spec PyProof.Rows L2
def top (i : Nat) : Stmt := PySem.Challenge.pw_sizechains_k04_quotients_and_comparisons.main.body.getD i (.Pass ⟨0, 0, 0, 0⟩)
abbrev s_InvalidFraction_init : Stmt := inClass (top 2) 0
abbrev s_is_integer : Stmt := top 4
abbrev s_is_positive : Stmt := top 5
abbrev s_common_divisor : Stmt := top 6
abbrev s_lowest_terms : Stmt := top 7
abbrev s_is_fraction : Stmt := top 8
abbrev s_check_fractions : Stmt := top 9
abbrev s_quotient : Stmt := top 10
abbrev s_order : Stmt := top 11
abbrev s_compare : Stmt := top 12
abbrev s_l_cell : Stmt := top 14
abbrev s_l_pool : Stmt := top 15
abbrev s_l_draw : Stmt := top 16
abbrev s_l_low : Stmt := top 17
abbrev s_l_part : Stmt := top 18
abbrev s_l_mul : Stmt := top 19
abbrev s_l_div : Stmt := top 20
abbrev s_l_less : Stmt := top 21
abbrev s_l_told_right : Stmt := top 22
abbrev s_l_right : Stmt := top 23
abbrev s_law : Stmt := top 24
/-! ### base0.lean -/
/-! repr of data at any depth, where no repr is running around -/
structure RRepr (K : PySem.W.Frag) (xs : List V) (H : Hp) (Q : VK) : Prop where
  ex : ∃ (v : V) (d : PyData), xs = [v] ∧ Dp K H v d ∧ isDisplay d = true ∧ d.showable = true ∧ d.hasDict = false ∧ d.depth ≤ 64 ∧ d.shown.length ≤ sizeLine ∧ Q (.str d.shown) H
theorem reprData {X : Cx} (gds : X.A.guards = some []) (room : X.A.units + 70 < cLine) : CallR X (.builtin "repr") (RRepr X.K) := by
  intro pins st sl H xs us Q inv vals want
  obtain ⟨v, d, e, dp, dis, sh, nod, dep, len, q⟩ := want.ex
  subst e
  obtain ⟨u, eu, rel⟩ := vals1 vals
  subst eu
  obtain ⟨as, rd⟩ := Dp.reads inv d v u dp rel
  obtain ⟨a, ea⟩ := isRef_of_reads rd dis
  subst ea
  refine repr_of_reads' rd sh (PyData.noDict_hsm nod) gds (by omega) (fun _ _ z => z) (fun h' u' tk kp => ?_) len
  exact ⟨.str d.shown, H, inv.kept kp, ⟨_, rfl⟩, q⟩

/-! a def's promise where it is known that no repr is running around -/
structure FnG (P : Program) (w : World) (K : PySem.W.Frag) (mg : Str → Option Value) (base : Heap) (CX : CXT) (k : Nat) (f : Addr) (fd : FuncData) (ps : List Str) (sp : Sp) : Prop where
  len : ∀ vs H Q E, sp vs H Q E → vs.length = ps.length
  go : ∀ (A : Around) (out : List Env) (st : Shared) (H : Hp) (as : Args) (us : List Value) (vs : List V) (Q : VK) (E : XK), A.guards = some [] → Room k A → Env0 P w K mg base A out st H →
    BindsTo st fd as (ps.zip us) → Vals vs us → sp vs H Q E → codeAny (model P w) A (.call (.ref f) as) (CR CX out P w H st Q E) st
section
variable {P : Program} {w : World} {K : PySem.W.Frag} {mg : Str → Option Value} {base : Heap} {CX : CXT} {k : Nat} {f : Addr} {fd : FuncData} {ps : List Str} {sp : Sp}
theorem FnG.of (F : FnOk P w K mg base CX k f fd ps sp) : FnG P w K mg base CX k f fd ps sp :=
  ⟨F.len, fun A out st H as us vs Q E _ r e b v h => F.run A out st H as us vs Q E r e b v h⟩
theorem FnG.up {j : Nat} (F : FnG P w K mg base CX j f fd ps sp) (h : j ≤ k) : FnG P w K mg base CX k f fd ps sp :=
  ⟨F.len, fun A out st H as us vs Q E g r e b v s => F.go A out st H as us vs Q E g (r.mono h) e b v s⟩
theorem FnG.imp {sp' : Sp} (F : FnG P w K mg base CX k f fd ps sp) (h : ∀ vs H Q E, sp' vs H Q E → sp vs H Q E) : FnG P w K mg base CX k f fd ps sp' :=
  ⟨fun vs H Q E q => F.len vs H Q E (h _ _ _ _ q), fun A out st H as us vs Q E g r e b v s => F.go A out st H as us vs Q E g r e b v (h _ _ _ _ s)⟩

/-- by the body -/
theorem okG0 {name qual : Str} {params : Arguments} {body : List Stmt} {scope : Scope} {dV kV doc pm cdv ct oc : Value} {an od : Option Addr} {osl : Array (Option Value)} {N : List Str}
    (lk : K.lookup f = some ⟨oc, od, .func (PySem.W.fnOf name qual params body scope dV kV doc pm an cdv ct), osl⟩) (code : PySem.W.codeIn K cdv qual = true) (S : FnScope N ps scope)
    (len : ∀ vs H Q E, sp vs H Q E → vs.length = ps.length)
    (walk : ∀ (A : Around) (out : List Env) (st : Shared) (H : Hp) (vs : List V) (Q : VK) (E : XK), A.guards = some [] → Room k (A.deeper (envOfC qual scope st.heap.objs.size f cdv)) → sp vs H Q E →
      ∃ t, PSs (cxOf CX P w K mg base N qual scope f cdv A out st H E) body t ∧ t { nx := fun _ H' => Q .non H', rt := Q } (start N vs) H) :
    FnG P w K mg base CX (k + 1) f (PySem.W.fnOf name qual params body scope dV kV doc pm an cdv ct) ps sp := by
  refine ⟨len, ?_⟩
  intro A out st H as us vs Q E gds room env binds vals want
  have size := len _ _ _ _ want
  have lim : st.heap.NoLimit := env.mod.nolimit.keeps fun b o e => (env.bs b o e).1
  have inK : K.In st.heap := env.mod.kin.keeps fun b o e => (env.bs b o e).1
  have kinds : ∀ y ∈ ps.zip us, scope.names.lookup y.1 = some .local ∨ (scope.names.lookup y.1 = some .cell ∧ ((cellsFrom (st.heap.objs.size + 1) scope.names []).lookup y.1).isSome = true) := by
    rintro ⟨n, v⟩ mem
    have mem1 : n ∈ ps := (List.of_mem_zip mem).1
    cases S.par n mem1 with
    | inl loc => exact Or.inl loc
    | inr cel => exact Or.inr ⟨cel, PySem.W.cellsFrom_some _ _ _ (Or.inl cel)⟩
  refine codeAny_call_function room.depth (inK _ _ lk) rfl S.co S.gen rfl (PySem.W.codeRec_of inK code) (binds _ _ _ _ ?_)
  refine wpAny_newFunctionEnv_cells S.kind kinds fun en hen s1 inn => ?_
  subst hen
  refine ⟨lim.keeps inn.toInCall.keep, codeAny_func ?_⟩
  obtain ⟨t, term, read⟩ := walk A out st H vs Q E gds (room.deeper _) want
  have inv := inv_start (CX := CX) (E := E) S room.hd env size vals inn
  refine wpAny_mono (term.run [] s1 (start N vs) H _ inv read) (fun fl s' hs => ?_) fun _ _ hs => hs
  have done : ∀ {sl' : L2.St} {H' : Hp} {v : V} {u : Value}, Inv (cxOf CX P w K mg base N qual scope f cdv A out st H E) [] sl' H' s' → RelV v u → Q v H' → CE out P w H st Q u s' := by
    intro sl' H' v u J rel q
    exact ⟨v, H', J.os, J.bare, J.base, J.hok, rel, q⟩
  cases fl with
  | next =>
    obtain ⟨_, _, J, q⟩ := hs
    exact done (v := V.non) (u := Value.none) J rfl q
  | ret u =>
    obtain ⟨_, _, _, J, rel, q⟩ := hs
    exact done J rel q
  | brk => exact (hs.choose_spec.choose_spec.2).elim
  | cont => exact (hs.choose_spec.choose_spec.2).elim

/-- a def of the text without defaults, that lets nothing out -/
theorem okG {x qual : Str} {st : Stmt} {N : List Str} (F : Fun K x qual st f fd) (S : FnScope N ps (defScope st)) (len : ∀ vs H Q E, sp vs H Q E → vs.length = ps.length)
    (walk : ∀ (cdv : Value) (A : Around) (out : List Env) (s : Shared) (H : Hp) (vs : List V) (Q : VK) (E : XK), A.guards = some [] → Room k (A.deeper (envOfC qual (defScope st) s.heap.objs.size f cdv)) → sp vs H Q E →
      ∃ t, PSs (cxOf CX0 P w K mg base N qual (defScope st) f cdv A out s H E).nox (defBody st) t ∧ t { nx := fun _ H' => Q .non H', rt := Q } (start N vs) H) :
    FnG P w K mg base CX0 (k + 1) f fd ps sp := by
  obtain ⟨_, _, _, _, _, _, cdv, _, _, e, lk, code⟩ := F.ex
  subst e
  refine okG0 lk code S len ?_
  intro A out s H vs Q E g r want
  obtain ⟨t, term, read⟩ := walk cdv A out s H vs Q E g r want
  exact ⟨t, term.nox, read⟩
/-- one with defaults, that lets nothing out -/
theorem okD {x qual : Str} {st : Stmt} {N : List Str} {dvs : List V} (F : FunD K x qual (defArgs st) (defBody st) (defScope st) dvs [] f fd) (S : FnScope N ps (defScope st)) (len : ∀ vs H Q E, sp vs H Q E → vs.length = ps.length)
    (walk : ∀ (cdv : Value) (A : Around) (out : List Env) (s : Shared) (H : Hp) (vs : List V) (Q : VK) (E : XK), A.guards = some [] → Room k (A.deeper (envOfC qual (defScope st) s.heap.objs.size f cdv)) → sp vs H Q E →
      ∃ t, PSs (cxOf CX0 P w K mg base N qual (defScope st) f cdv A out s H E).nox (defBody st) t ∧ t { nx := fun _ H' => Q .non H', rt := Q } (start N vs) H) :
    FnG P w K mg base CX0 (k + 1) f fd ps sp := by
  obtain ⟨_, _, _, _, _, _, _, cdv, _, _, e, lk, code, _, _⟩ := F.ex
  subst e
  refine okG0 lk code S len ?_
  intro A out s H vs Q E g r want
  obtain ⟨t, term, read⟩ := walk cdv A out s H vs Q E g r want
  exact ⟨t, term.nox, read⟩
end

/-! calls -/
section
variable {X : Cx} {CX : CXT} {k n : Nat} {f : Addr} {fd : FuncData} {ps ks : List Str} {sp : Sp} {dvs : List V} {ds : List Value} {E : XK} {x : Str} {p pos : Pos} {e : Expr} {es : List Expr} {kws : List Keyword} {t tk : TA} {g : List Value → List Value → List Value} {gV : List V → List V → List V}
theorem goG {pins : List (Addr × Obj)} {sl : L2.St} {H : Hp} {s : Shared} {Q : VK} {us0 us : List Value} {kw : List (Str × Value)} {vs : List V} (F : FnG X.prog X.w X.K X.mg X.base CX k f fd ps sp) (gds : X.A.guards = some []) (hr : Room k X.A) (hx : Passes CX X E)
    (inv : Inv X pins sl H s) (b : BindsTo s fd ⟨us0, kw⟩ (ps.zip us)) (r : Vals vs us) (want : sp vs H Q E) : wpAny (model X.prog X.w) X.A (call (.ref f) us0 kw) (EP X pins sl Q) X.xe s := by
  refine wpAny_call (codeAny_mono (F.go X.A X.stack s H ⟨us0, kw⟩ us vs Q E gds hr inv.env0 b r want) fun r s' got => ?_)
  cases r with
  | error e => exact hx pins sl H s e s' inv got
  | ok fl =>
    cases fl with
    | ret u => exact inv.after got
    | next => exact got.elim
    | brk => exact got.elim
    | cont => exact got.elim
theorem callG (F : FnG X.prog X.w X.K X.mg X.base CX k f fd ps sp) (gds : X.A.guards = some []) (hr : Room k X.A) (hg : Gl X x) (hm : X.mg x = some (.ref f)) (hk : PySem.W.keepIn X.K (.ref f) = true) (hb : Binds X.K fd ps ds) (hd : Vals dvs ds) (hx : Passes CX X E)
    (ha : PA X (e :: es) t) (hdb : (x == ("__debug__" : Str)) = false := by decide) (he : starEach (e :: es) X.env = (false, eval e X.env) :: starEach es X.env := by rfl) (hpl : (backTo pos (starEach es X.env)).any (·.1) = false := by rfl) :
    PE X (.Call (.Name x p) (e :: es) [] pos) (tCall sp dvs E t) := by
  constructor
  intro pins s sl H Q inv want
  refine wpAny_Call_Name_kw (ld_glob inv hg hm ?_ hdb)
  refine PySem.W.callWith_K (h₀ := X.base) inv.ok.mod.kin hk (thn (ha.run pos pins s sl H _ inv want) ?_) he hpl
  rintro us s1 ⟨vs, H1, inv1, rel, q⟩
  refine ⟨inv1.kIn, ?_⟩
  have rel2 : Vals (vs ++ dvs) (us ++ ds) := rel.append hd
  have sz : (us ++ ds).length = ps.length := rel2.length.symm.trans (F.len _ _ _ _ q)
  exact goG F gds hr hx inv1 (hb s1 us inv1.kIn sz) rel2 q
theorem callG0 (F : FnG X.prog X.w X.K X.mg X.base CX k f fd ps sp) (gds : X.A.guards = some []) (hr : Room k X.A) (hg : Gl X x) (hm : X.mg x = some (.ref f)) (hk : PySem.W.keepIn X.K (.ref f) = true) (hb : Binds X.K fd ps ds) (hd : Vals dvs ds) (hx : Passes CX X E)
    (hdb : (x == ("__debug__" : Str)) = false := by decide) : PE X (.Call (.Name x p) [] [] pos) (tCall sp dvs E tNil) := by
  constructor
  intro pins s sl H Q inv want
  refine wpAny_Call_Name_kw (ld_glob inv hg hm ?_ hdb)
  refine PySem.W.callWith_K0 inv.kIn hk ?_
  have q : sp dvs H Q E := want
  have sz : (([] : List Value) ++ ds).length = ps.length := hd.length.symm.trans (F.len _ _ _ _ q)
  exact goG F gds hr hx inv (hb s [] inv.kIn sz) hd q
/-- f(e, .., k = v, ..) -/
theorem callGN (F : FnG X.prog X.w X.K X.mg X.base CX k f fd ps sp) (gds : X.A.guards = some []) (hr : Room k X.A) (hg : Gl X x) (hm : X.mg x = some (.ref f)) (hk : PySem.W.keepIn X.K (.ref f) = true) (hb : KBn X.K fd ps n ks g gV) (hx : Passes CX X E)
    (ha : PA X (e :: es) t) (hkw : PK X kws tk) (hall : (backToKw pos (keywordEach kws X.env)).all (·.1.isSome) = true := by rfl) (hks : (backToKw pos (keywordEach kws X.env)).filterMap (·.1) = ks := by rfl)
    (hdb : (x == ("__debug__" : Str)) = false := by decide) (he : starEach (e :: es) X.env = (false, eval e X.env) :: starEach es X.env := by rfl)
    (hpl : ((backTo pos (starEach (e :: es) X.env)).any (·.1) || (backToKw pos (keywordEach kws X.env)).any (·.1.isNone)) = false := by rfl) :
    PE X (.Call (.Name x p) (e :: es) kws pos) (tCallN n ks.length sp gV E t tk) := by
  constructor
  intro pins s sl H Q inv want
  refine wpAny_Call_Name_kw (ld_glob inv hg hm ?_ hdb)
  refine PySem.W.callWith_KW (h₀ := X.base) inv.ok.mod.kin hk hall (thn (ha.run pos pins s sl H _ inv want) ?_) hpl he
  rintro us s1 ⟨vs, H1, inv1, rel, q⟩
  refine thn (hkw.run pos pins s1 sl H1 _ inv1 q) ?_
  rintro ws s2 ⟨zs, H2, inv2, relz, l1, l2, q2⟩
  refine ⟨inv2.kIn, ?_⟩
  rw [hks]
  exact goG F gds hr hx inv2 (hb.to s2 us ws inv2.kIn (rel.length.symm.trans l1) (relz.length.symm.trans l2)) (hb.rel rel relz) q2
/-- f(k = v, ..) -/
theorem callGK (F : FnG X.prog X.w X.K X.mg X.base CX k f fd ps sp) (gds : X.A.guards = some []) (hr : Room k X.A) (hg : Gl X x) (hm : X.mg x = some (.ref f)) (hk : PySem.W.keepIn X.K (.ref f) = true) (hb : KBn X.K fd ps 0 ks g gV) (hx : Passes CX X E)
    (hkw : PK X kws tk) (hall : (backToKw pos (keywordEach kws X.env)).all (·.1.isSome) = true := by rfl) (hks : (backToKw pos (keywordEach kws X.env)).filterMap (·.1) = ks := by rfl)
    (hdb : (x == ("__debug__" : Str)) = false := by decide)
    (hpl : ((backTo pos (starEach [] X.env)).any (·.1) || (backToKw pos (keywordEach kws X.env)).any (·.1.isNone)) = false := by rfl) :
    PE X (.Call (.Name x p) [] kws pos) (tCallN 0 ks.length sp gV E tNil tk) := by
  constructor
  intro pins s sl H Q inv want
  refine wpAny_Call_Name_kw (ld_glob inv hg hm ?_ hdb)
  refine PySem.W.callWith_KW0 (h₀ := X.base) inv.ok.mod.kin hk hall ?_ hpl
  refine thn (hkw.run pos pins s sl H _ inv want) ?_
  rintro ws s2 ⟨zs, H2, inv2, relz, l1, l2, q2⟩
  refine ⟨inv2.kIn, ?_⟩
  rw [hks]
  exact goG F gds hr hx inv2 (hb.to s2 [] ws inv2.kIn rfl (relz.length.symm.trans l2)) (hb.rel .nil relz) q2
end
/-! ### base1.lean -/
/-! the end: the law's promise at the heap behind the top -/
section
variable {P : Program} {w : World} {K : PySem.W.Frag} {mg mb : Str → Option Value} {k : Nat} {fa a : Addr} {fd : FuncData} {x : Str} {sp : Sp} {st : Shared} {vs : List Value} {ns : List Int}
/-- from one abstract heap in which the script alone may be tracked -/
theorem endCore (inK : K.In st.heap) (hns : st.heap.Ns mainGlobals mg) (hb : st.heap.Ns builtinsNs mb) (hbb : ∀ x : Str, x ≠ "__name__" → mb x = bootBuiltins x) (lim : st.heap.NoLimit) (gens : st.gens = #[])
    (ha : st.heap.get? a = some { cls := .type "list", data := .seq vs.toArray }) (hr : Room k callerA)
    (F : ∀ base : Heap, K.In base → base.Ns mainGlobals mg → FnG P w K mg base CX0 k fa fd [x] sp) (bind : ∀ (s : Shared) (u : Value), BindsTo s fd ⟨[u], []⟩ [(x, u)])
    {H : Hp} (only : Only H) (ok : HOk P w H st.heap) (one : ∀ b, H b ≠ none → b = a) (notK : H a ≠ none → K.lookup a = none) (want : sp [.ref a] H (fun v _ => v = .bl true) fun _ _ _ => False) :
    codeAny (model P w) callerA (.call (.ref fa) ⟨[.ref a], []⟩) (fun r s' => r = .ok (.ret (.bool true)) ∧ OldK st.heap s'.heap ∧ s'.os = st.os ∧ AllBare s'.gens) st := by
  have untracked : ∀ {b : Addr} {o : Obj}, st.heap.get? b = some o → (b = a → o.data ≠ .seq vs.toArray) → H b = none := by
    intro b o e n
    refine Option.eq_none_iff_forall_ne_some.mpr fun u z => ?_
    have eb := one b (by rw [z]; exact fun t => nomatch t)
    subst eb
    rw [ha] at e
    cases e
    exact n rfl rfl
  have toBase : ∀ {b : Addr} {m : Str → Option Value}, st.heap.Ns b m → (hidT st.heap H).Ns b m := by
    rintro b m ⟨o, es, ep, e, d, r⟩
    refine ⟨o, es, ep, hidT_get e (untracked e fun _ z => ?_), d, r⟩
    rw [d] at z
    cases z
  have inBase : K.In (hidT st.heap H) := by
    intro b o e
    refine hidT_get (inK b o e) (Option.eq_none_iff_forall_ne_some.mpr fun u z => ?_)
    have nn : H b ≠ none := by rw [z]; exact fun t => nomatch t
    have eb := one b nn
    subst eb
    rw [notK nn] at e
    cases e
  obtain ⟨mc, l1, l2⟩ := lim
  have md : Mod K mg (hidT st.heap H) := ⟨inBase, toBase hns, ⟨mb, toBase hb, hbb⟩, ⟨mc, toBase l1, l2⟩⟩
  have e0 : Env0 P w K mg (hidT st.heap H) callerA [] st H := by
    refine ⟨rfl, md, fun b o e => of_hidT e, Nat.le_of_eq (hidT_size _ _), trivial, fun b hb => ?_, ok, .of_eq gens⟩
    cases hb
  refine codeAny_mono ((F _ inBase md.glob).go callerA [] st H ⟨[.ref a], []⟩ [.ref a] [.ref a] _ _ rfl hr e0 (bind st (.ref a)) (.cons rfl .nil) want) fun r s' got => ?_
  cases r with
  | error e => exact got.elim
  | ok fl =>
    cases fl with
    | next => exact got.elim
    | brk => exact got.elim
    | cont => exact got.elim
    | ret u =>
      obtain ⟨v, H', os, bare, un, ok', rel, q⟩ := got
      have q2 : v = .bl true := q
      subst q2
      have q3 : u = Value.bool true := rel
      subst q3
      refine ⟨rfl, OldK.of_keep ?_, os, bare⟩
      intro b o e
      rcases only b with z | ⟨ob, xs, z⟩
      · refine un.keep b o e z (fun m => ?_) (by simp)
        cases m
      · have z2 := un.frzs b ob _ z
        obtain ⟨e1, _⟩ := ok b _ z
        obtain ⟨e2, _⟩ := ok' b _ z2
        rw [e1] at e
        cases e
        exact e2

theorem endCall (inK : K.In st.heap) (hns : st.heap.Ns mainGlobals mg) (hb : st.heap.Ns builtinsNs mb) (hbb : ∀ x : Str, x ≠ "__name__" → mb x = bootBuiltins x) (lim : st.heap.NoLimit) (gens : st.gens = #[])
    (ha : st.heap.get? a = some { cls := .type "list", data := .seq vs.toArray }) (hi : IntsAre vs ns) (hl : ns.length ≤ sizeLine) (hr : Room k callerA)
    (F : ∀ base : Heap, K.In base → base.Ns mainGlobals mg → FnG P w K mg base CX0 k fa fd [x] sp) (bind : ∀ (s : Shared) (u : Value), BindsTo s fd ⟨[u], []⟩ [(x, u)])
    (want : ∀ H : Hp, Only H → SqL K H a (ns.map V.int) → sp [.ref a] H (fun v _ => v = .bl true) fun _ _ _ => False) :
    codeAny (model P w) callerA (.call (.ref fa) ⟨[.ref a], []⟩) (fun r s' => r = .ok (.ret (.bool true)) ∧ OldK st.heap s'.heap ∧ s'.os = st.os ∧ AllBare s'.gens) st := by
  have rv := vals_ints hi
  cases hk : K.lookup a with
  | some o =>
    have e := inK a o hk
    rw [ha] at e
    cases e
    have seq : SqL K (fun _ => none) a (ns.map V.int) := .inr ⟨_, vs.toArray, _, hk, rfl, rfl, rfl, by rw [List.size_toArray, hi.length]; exact hl, by simpa using rv⟩
    refine endCore inK hns hb hbb lim gens ha hr F bind (fun _ => .inl rfl) ?_ (fun b z => absurd rfl z) (fun z => absurd rfl z) (want _ (fun _ => .inl rfl) seq)
    intro b u z
    cases (show (none : Option HO) = some u from z)
  | none =>
    have at_a : (fun b => if b = a then some (HO.frz { cls := .type "list", data := .seq vs.toArray } (.lst (ns.map V.int))) else none) a = some (HO.frz { cls := .type "list", data := .seq vs.toArray } (.lst (ns.map V.int))) := if_pos rfl
    have only : Only (fun b => if b = a then some (HO.frz { cls := .type "list", data := .seq vs.toArray } (.lst (ns.map V.int))) else none) := by
      intro b
      by_cases e : b = a
      · exact .inr ⟨_, _, if_pos e⟩
      · exact .inl (if_neg e)
    refine endCore inK hns hb hbb lim gens ha hr F bind only ?_ (fun b z => ?_) (fun _ => hk) (want _ only (.inl (.inr ⟨_, at_a⟩)))
    · intro b u z
      by_cases e : b = a
      · subst e
        cases (at_a.symm.trans z)
        exact ⟨ha, by rw [List.length_map]; exact hl, vs, _, rv, ha⟩
      · cases ((if_neg e).symm.trans z)
    · by_cases e : b = a
      · exact e
      · exact absurd (if_neg e) z
end

theorem walkG {l : PySem.W.OpenLaw} {n k : Nat} {q : Program} {loose : List Str} {XP : (Str → Option Value) → Heap → Prop} {YP : World → Heap → Prop} {d : DefRec} {K : Params → PySem.W.Frag} {sp : PySem.W.Frag → Sp} {x : Str}
    (hn : l.most = some n) (hn2 : n ≤ sizeLine) (hdf : d.params.defaults = []) (hr : Room k callerA) (hY : ∀ (w : World) (h : Heap), YP w h → (K w.params).In h)
    (F : ∀ (w : World) (mg : Str → Option Value) (fa : Addr) (h : Heap), (K w.params).In h → h.Ns mainGlobals mg → mg d.name = some (.ref fa) →
      ∃ fd : FuncData, (∀ (s : Shared) (u : Value), BindsTo s fd ⟨[u], []⟩ [(x, u)]) ∧ ∀ base : Heap, (K w.params).In base → base.Ns mainGlobals mg → FnG l.prog w (K w.params) mg base CX0 k fa fd [x] (sp (K w.params)))
    (want : ∀ (K : PySem.W.Frag) (H : Hp) (a : Addr) (ns : List Int), ns.length ≤ n → Only H → SqL K H a (ns.map V.int) → sp K [.ref a] H (fun v _ => v = .bl true) fun _ _ _ => False) :
    PySem.W.WalkO q loose XP YP l.row.toRowW d [] (fun f vs => PySem.call f vs) := by
  refine Att.attach_call hn hdf ?_
  intro w s₀ s₁ mg mb fa o pm cd doc a vs ns G Y ho hd hcd hmg hobj hints hlen hg
  obtain ⟨fd, hb, hF⟩ := F w mg fa _ (hY w _ Y) G.T.g hmg
  exact endCall (hY w _ Y) G.T.g G.T.b G.T.builtins G.T.nolimit hg hobj hints (Nat.le_trans hlen hn2) hr hF hb fun H only seq => want (K w.params) H a ns hlen only seq

/-! arguments where some parameters have defaults -/
theorem bindD {K : PySem.W.Frag} {x qual : Str} {params : Arguments} {body : List Stmt} {scope : Scope} {dvs : List V} {f : Addr} {fd : FuncData} {ps : List Str}
    (F : FunD K x qual params body scope dvs [] f fd) (n : Nat) (ks : List Str) (g : {α : Type} → List α → List α → List α → List α) (some_ : dvs ≠ [])
    (rel : ∀ {vs ds zs : List V} {us its ws : List Value}, Vals vs us → Vals ds its → Vals zs ws → Vals (g vs ds zs) (g us its ws))
    (h : ∀ (T : Addr) (kV doc pm : Value) (an : Option Addr) (cdv ct : Value) (us its ws : List Value), us.length = n → its.length = dvs.length → ws.length = ks.length →
      ∃ k, bindArgs (PySem.W.fnOf x qual params body scope (.ref T) kV doc pm an cdv ct) ⟨us, ks.zip ws⟩ = seqItems? (.ref T) >>= k ∧ k (some its.toArray) = pure (ps.zip (g us its ws))) :
    ∃ its : List Value, KBn K fd ps n ks (fun us ws => g us its ws) (fun vs zs => g vs dvs zs) := by
  obtain ⟨oc, od, dV, kV, doc, pm, an, cdv, ct, osl, e, lk, hcd, hD, hK⟩ := F.ex
  subst e
  rcases hD with ⟨e, _⟩ | ⟨_, T, o, its, m, e, lT, oT, rT⟩
  · exact absurd e some_
  · subst e
    refine ⟨its, ⟨fun s us ws inK l1 l2 => ?_, fun r1 r2 => rel r1 rT r2⟩⟩
    obtain ⟨k, e1, e2⟩ := h T kV doc pm an cdv ct us its ws l1 rT.length.symm l2
    refine BindsTo.of_looks fun M => ?_
    rw [e1]
    exact looks_items inK lT oT (.of_pure e2)
/-- the same without any default -/
theorem bindN {K : PySem.W.Frag} {x qual : Str} {st : Stmt} {f : Addr} {fd : FuncData} {ps : List Str} (F : Fun K x qual st f fd) (n : Nat) (ks : List Str) (g : {α : Type} → List α → List α → List α)
    (rel : ∀ {vs zs : List V} {us ws : List Value}, Vals vs us → Vals zs ws → Vals (g vs zs) (g us ws))
    (h : ∀ (kV doc pm : Value) (an : Option Addr) (cdv ct : Value) (us ws : List Value), us.length = n → ws.length = ks.length →
      bindArgs (PySem.W.fnOf x qual (defArgs st) (defBody st) (defScope st) .none kV doc pm an cdv ct) ⟨us, ks.zip ws⟩ = pure (ps.zip (g us ws))) :
    KBn K fd ps n ks (fun us ws => g us ws) (fun vs zs => g vs zs) := by
  obtain ⟨oc, od, kV, doc, pm, an, cdv, ct, osl, e, lk, hcd⟩ := F.ex
  subst e
  exact ⟨fun s us ws _ l1 l2 => .of_eq (h kV doc pm an cdv ct us ws l1 l2), fun r1 r2 => rel r1 r2⟩
/-! ### sm.lean -/
/-! what repr shows is short enough: a bound of its depth and of its length -/
structure Sm (k n : Nat) (d : PyData) : Prop where
  sh : d.showable = true
  nd : d.hasDict = false
  dp : d.depth ≤ k
  ln : d.shown.length ≤ n
structure SmL (k n : Nat) (ds : List PyData) : Prop where
  sh : PyData.showableAll ds = true
  nd : PyData.hasDictAll ds = false
  dp : PyData.depthAll ds ≤ k
  ln : ((PyData.shownAll ds).map (·.length)).sum + 2 * ds.length ≤ n
theorem Sm.up {j k n m : Nat} {d : PyData} (h : Sm j n d) (le2 : j ≤ k) (le : n ≤ m) : Sm k m d := ⟨h.sh, h.nd, Nat.le_trans h.dp le2, Nat.le_trans h.ln le⟩
theorem SmL.nil {k : Nat} : SmL k 0 [] := ⟨by simp only [PyData.showableAll], by simp only [PyData.hasDictAll], by simp only [PyData.depthAll]; omega, by rw [PyData.shownAll_nil]; exact Nat.le_refl _⟩
theorem SmL.cons {k n m : Nat} {d : PyData} {ds : List PyData} (h : Sm k n d) (t : SmL k m ds) : SmL k (n + m + 2) (d :: ds) := by
  refine ⟨by simp only [PyData.showableAll, h.sh, t.sh, Bool.and_self], by simp only [PyData.hasDictAll, h.nd, t.nd, Bool.or_self], ?_, ?_⟩
  · have h1 := h.dp
    have h2 := t.dp
    simp only [PyData.depthAll]
    omega
  · have h1 := h.ln
    have h2 := t.ln
    rw [PyData.shownAll_cons]
    simp only [List.map_cons, List.sum_cons, List.length_cons]
    omega
theorem Sm.lst {k n : Nat} {ds : List PyData} (h : SmL k n ds) : Sm (k + 1) (n + 3) (.list ds) := by
  refine ⟨by simp only [PyData.showable, h.sh], by simp only [PyData.hasDict, h.nd], ?_, ?_⟩
  · have := h.dp
    simp only [PyData.depth]
    omega
  · have h1 := h.ln
    have h2 := listText_len_le (PyData.shownAll ds)
    rw [PyData.shownAll_length] at h2
    simp only [PyData.shown]
    omega
theorem Sm.tup {k n : Nat} {ds : List PyData} (h : SmL k n ds) : Sm (k + 1) (n + 3) (.tuple ds) := by
  refine ⟨by simp only [PyData.showable, h.sh], by simp only [PyData.hasDict, h.nd], ?_, ?_⟩
  · have := h.dp
    simp only [PyData.depth]
    omega
  · have h1 := h.ln
    have h2 := tupleText_len_le (PyData.shownAll ds)
    rw [PyData.shownAll_length] at h2
    simp only [PyData.shown]
    omega
theorem two_ten : (2 : Nat) ^ 1900 < 10 ^ 600 := by decide +kernel
theorem intlen {i : Int} (h : i.natAbs < 2 ^ 1900) : (Str.ofString (toString i)).length ≤ 601 := by
  rw [PySem.ofString_length]
  exact PySem.int_text_length_le10 (k := 600) (by decide) (Nat.lt_trans h two_ten)
theorem Sm.int {i : Int} (h : i.natAbs < 2 ^ 1900) : Sm 1 601 (.int i) := by
  have l : i.natAbs.log2 < 1900 := PySem.Flt.log2_lt_of (by decide) h
  refine ⟨?_, by simp only [PyData.hasDict], by simp only [PyData.depth]; omega, ?_⟩
  · have := PyData.showableAll_ints [i] (fun n m => by rw [List.mem_singleton.mp m]; omega)
    simpa only [List.map_cons, List.map_nil, PyData.showableAll, Bool.and_true] using this
  · rw [PyData.shown_int]
    exact intlen h
theorem Sm.bool (b : Bool) : Sm 1 5 (.bool b) := by
  refine ⟨by simp only [PyData.showable], by simp only [PyData.hasDict], by simp only [PyData.depth]; omega, ?_⟩
  rw [PyData.shown_bool]
  cases b <;> decide
/-- equal pairs of ints -/
theorem Sm.pair {a b : Int} (ha : a.natAbs < 2 ^ 1900) (hb : b.natAbs < 2 ^ 1900) : Sm 2 1300 (.tuple [.int a, .int b]) := (Sm.tup ((SmL.cons (Sm.int ha) (SmL.cons (Sm.int hb) SmL.nil)))).up (by decide) (by decide)
/-- what the rule of repr asks, at once -/
theorem repQ {K : PySem.W.Frag} {H : Hp} {Q : VK} {v : V} {d : PyData} {k n : Nat} (dp : Dp K H v d) (dis : isDisplay d = true) (sm : Sm k n d) (hk : k ≤ 64) (hn : n ≤ 16777216) (q : Q (.str d.shown) H) :
    RRepr K [v] H Q :=
  ⟨v, d, rfl, dp, dis, sm.sh, sm.nd, Nat.le_trans sm.dp hk, Nat.le_trans sm.ln (by rw [sizeLine_eq]; exact hn), q⟩
/-! ### rev2.lean -/
/-! t[::-1] of a pair -/
section
variable {prog : Program} {w : World} {A : Around} {E : Value → Shared → Prop} {s : Shared}
theorem rev2_applied {sl : Addr} {u : Tok} {Q : Int × Int × Nat → Shared → Prop} (hs : s.heap.IsSliceOf sl .none .none (.int (-1) u)) (h : Q (1, -1, 2) s) :
    wpAny (model prog w) A (Builtin.Slice.sliceApplied (.ref sl) (pure ((2 : Nat) : Int))) Q E s := by
  obtain ⟨os, e1, e2, e3⟩ := id hs
  unfold Builtin.Slice.sliceApplied Builtin.Slice.sliceFields
  refine wpAny_bind (wpAny_bind (wpAny_field e1 e3 (x := .none) rfl (wpAny_bind (wpAny_field e1 e3 (x := .none) rfl (wpAny_bind (wpAny_field e1 e3 (x := .int (-1) u) rfl (wpAny_pure ?_)))))))
  refine wpAny_bind (slicePart_int ?_)
  show wpAny _ _ (if ((-1 : Int) == 0) = true then _ else _) _ _ s
  rw [if_neg (by decide)]
  refine wpAny_bind (slicePart_none (wpAny_bind (slicePart_none (wpAny_bind (wpAny_pure ?_)))))
  exact wpAny_pure h
theorem rev2_get {t sl : Addr} {a b : Value} {u : Tok} {Q : Value → Shared → Prop} (ht : IsTup s.heap t #[a, b]) (hs : s.heap.IsSliceOf sl .none .none (.int (-1) u))
    (h : Q (.ref s.heap.objs.size) { s with heap := s.heap.push { cls := .type "tuple", data := .seq #[b, a] } }) : wpAny (model prog w) A (getItem (.ref t) (.ref sl)) Q E s := by
  have fits : sizeOk (.seq #[b, a]) := by show (2 : Nat) ≤ sizeLine; rw [sizeLine_eq]; decide
  obtain ⟨os, hos, hcs, hds⟩ := id hs
  have tys : s.TypeIs (.ref sl) "slice" := ⟨os, hos, hcs⟩
  unfold getItem
  try with_reducible refine wpAny_holding ?_
  first | refine wpAny_bind (wpAny_pure ?_) | skip
  refine wpAny_bind (wpAny_sequenceKey ht.typeIs (by decide) ?_)
  refine wpAny_bind (wpAny_callSpecial?_slot (name := Str.ofString "__getitem__") ht.typeIs PyProof.Rows.slot_tuple_getitem (wpAny_call_entry PyProof.Rows.slot_tuple_getitem ht.typeIs entry_tuple_getitem ?_ (args_tuple_getitem _ _)))
  show wpAny _ _ (Builtin.Tuple.tupleItemsOf (.ref t) >>= _) _ _ s
  refine wpAny_bind (PyProof.Rows.tupleItemsOf_ ht ?_)
  refine wpAny_bind (wpAny_typeOf tys ?_)
  rw [if_pos (by decide)]
  refine wpAny_bind (rev2_applied hs ?_)
  show wpAny _ _ (if ((1 : Int) == 0 && (-1 : Int) == 1 && (2 : Nat) == 2) = true then _ else _) _ _ s
  rw [if_neg (by decide)]
  first
    | exact wpAny_bind (m := Builtin.Tuple.tupleExact _) (wpAny_newObj_type (wpAny_pure ⟨_, rfl, wpAny_pure h⟩) fits)
    | exact wpAny_bind (m := Builtin.Tuple.tupleExact _) (wpAny_newObj_type (wpAny_bind (wpAny_pure (wpAny_pure ⟨_, rfl, wpAny_pure h⟩))) fits)
    | exact wpAny_bind (wpAny_bind (m := Builtin.Tuple.tupleExact _) (wpAny_newObj_type (wpAny_pure (wpAny_pure ⟨_, rfl, wpAny_pure h⟩)) fits))
    | exact wpAny_bind (wpAny_bind (m := Builtin.Tuple.tupleExact _) (wpAny_newObj_type (wpAny_pure ⟨_, rfl, wpAny_pure h⟩) fits))
end
structure RRev2 (K : PySem.W.Frag) (x : V) (H : Hp) (Q : VK) : Prop where
  ex : ∃ a v w, x = .ref a ∧ SqT K H a [v, w] ∧ ∀ p, H p = none → Q (.ref p) (upd H p (.tup [w, v]))
def tRev2 (K : PySem.W.Frag) (te : TE) : TE := fun σ H Q => te σ H fun x H1 => RRev2 K x H1 Q
theorem pe_rev2 {X : Cx} {e : Expr} {te : TE} {k : Nat} {p1 p2 p3 pos : Pos} (he : PE X e te) : PE X (.Subscript e (.Slice none none (some (.UnaryOp .USub (.Constant (.int 1) k p1) p2)) p3) pos) (tRev2 X.K te) := by
  constructor
  intro pins s sl H Q inv want
  refine Subscript_ (thn (he.run pins s sl H _ inv want) ?_)
  rintro v s1 ⟨x, H1, inv1, rel, ⟨a, b, c, ex, hx, q⟩⟩
  subst ex
  cases rel
  have step : PO X (some (.UnaryOp .USub (.Constant (.int 1) k p1) p2)) (tPart (tUn (rU fun i => .int (-i)) (tC (.int 1)))) := po_some (pe_un un_neg pe_int)
  refine wpAny_Slice (thn (po_none.run pins s1 sl H1 (fun o H2 => o = none ∧ H2 = H1) inv1 ⟨rfl, rfl⟩) ?_)
  rintro vl s2 ⟨l, H2, inv2, pl, el, e2⟩
  subst el e2
  refine thn (po_none.run pins s2 sl H2 (fun o H3 => o = none ∧ H3 = H2) inv2 ⟨rfl, rfl⟩) ?_
  rintro vu s3 ⟨u, H3, inv3, pu, eu, e3⟩
  subst eu e3
  refine thn (step.run pins s3 sl H3 (fun o H4 => o = some (-1) ∧ H4 = H3) inv3 ⟨1, rfl, -1, rfl, rfl, rfl⟩) ?_
  rintro vs s4 ⟨o, H4, inv4, ps, eo, e4⟩
  subst eo e4
  cases pl
  cases pu
  cases ps with
  | int _ tk =>
    have inv5 : Inv X pins sl H4 { s4 with heap := s4.heap.push { cls := .type "slice", data := .fields #[.none, .none, .int (-1) tk] } } := inv4.kept (t' := s4.toks) fun b ob q => Heap.get?_push_of_some _ q
    obtain ⟨its, r, ht, hz⟩ := inv5.tuple hx
    obtain ⟨u1, u2, e5, r1, r2⟩ := vals2 r
    subst e5
    show wpAny (model X.prog X.w) X.A (subscriptTail e (.Slice none none (some (.UnaryOp .USub (.Constant (.int 1) k p1) p2)) p3) (.ref a) (.ref s4.heap.objs.size)) (EP X pins sl Q) X.xe _
    refine tail_any (ops := [.ref a, .ref s4.heap.objs.size]) ht.typeIs (PyProof.Rows.slot_tuple_getitem.lookup) ?_ (by with_unfolding_all rfl)
    refine rev2_get (u := tk) ht (Heap.IsSliceOf.new _ _ _ _) ?_
    refine ⟨.ref _, _, inv5.laid (t' := s4.toks) (o := .tup [c, b]) (fun b ob q => Heap.get?_push_of_some _ q) (Nat.le_refl _) ?_, rfl, q _ (inv5.hok.fresh (Nat.le_refl _))⟩
    refine ⟨by show 2 ≤ sizeLine; rw [sizeLine_eq]; decide, [u2, u1], .cons r2 (.cons r1 .nil), IsTup.new _ _⟩
/-! ### exact_low.lean -/
/-! heaps -/
theorem same_upd {H : Hp} {p : Addr} {o : HO} (h : H p = none) : Same H (upd H p o) := fun b u q => by rw [upd_ne (ne_of_none q h)]; exact q

/-! is a value a positive int -/
def isPos : V → Bool
  | .int i => decide (0 < i)
  | _ => false
/-- the value is of a type that is no int -/
def NoInt (K : PySem.W.Frag) (H : Hp) (v : V) : Prop := ∃ t, TyX K H v t ∧ PySem.W.kitOne K t (.type "int") = some false
inductive Any (K : PySem.W.Frag) (H : Hp) : V → Prop where
  | int (i : Int) : Any K H (.int i)
  | bl (b : Bool) : Any K H (.bl b)
  | no {v : V} (h : NoInt K H v) : Any K H v
theorem NoInt.isPos {K : PySem.W.Frag} {H : Hp} {v : V} (h : NoInt K H v) : isPos v = false := by
  obtain ⟨t, ty, e⟩ := h
  cases v with
  | int i =>
    cases ty with
    | base b =>
      cases b with
      | int =>
        have z : PySem.W.kitOne K (.type "int") (.type "int") = some true := kit_ty (by decide +kernel)
        rw [z] at e
        cases e
  | _ => rfl
def isInt : V → Bool
  | .int _ => true
  | _ => false
theorem NoInt.isInt {K : PySem.W.Frag} {H : Hp} {v : V} (h : NoInt K H v) : isInt v = false := by
  obtain ⟨t, ty, e⟩ := h
  cases v with
  | int i =>
    cases ty with
    | base b =>
      cases b with
      | int =>
        have z : PySem.W.kitOne K (.type "int") (.type "int") = some true := kit_ty (by decide +kernel)
        rw [z] at e
        cases e
  | _ => rfl
def spIsInt (K : PySem.W.Frag) : Sp := fun vs H Q _ => ∃ v, vs = [v] ∧ Any K H v ∧ Q (.bl (isInt v)) H
def spIsPos (K : PySem.W.Frag) : Sp := fun vs H Q _ => ∃ v, vs = [v] ∧ Any K H v ∧ Q (.bl (isPos v)) H
section
variable {P : Program} {w : World} {K : PySem.W.Frag} {mg : Str → Option Value} {base : Heap} {f : Addr} {fd : FuncData}
theorem scIsInt : FnScope ["value"] ["value"] (defScope s_is_integer) := ⟨rfl, rfl, rfl, by decide +kernel, rfl, by decide +kernel, by decide +kernel⟩
theorem ok_is_integer (F : Fun K "is_integer" "is_integer" s_is_integer f fd) (m1 : mg "isinstance" = none) (m2 : mg "int" = none) (m3 : mg "bool" = none) :
    FnOk P w K mg base CX0 1 f fd ["value"] (spIsInt K) := by
  refine F.ok scIsInt (fun vs H Q E h => ?_) (fun cdv A outer s H vs Q E hr h => ?_)
  · obtain ⟨v, rfl, _⟩ := h
    rfl
  obtain ⟨v, rfl, a, q⟩ := h
  refine ⟨_, pss_one (ps_ret (pe_and (pe_callB call_isi (by rfl) m1 PyProof.Rows.boot_isinstance (pa_cons (pv 0) (pa_cons (pe_bltn (v := .ty "int") (by rfl) m2 PyProof.Rows.boot_int rfl) pa_nil)))
    (pe_one (pe_not (pe_callB call_isi (by rfl) m1 PyProof.Rows.boot_isinstance (pa_cons (pv 0) (pa_cons (pe_bltn (v := .ty "bool") (by rfl) m3 PyProof.Rows.boot_bool rfl) pa_nil))))))), ?_⟩
  cases a with
  | int i =>
    refine ⟨_, rfl, _, _, _, _, true, rfl, .ty "int", .base (.int i), kit_ty (by decide +kernel), _, rfl, iteT ?_⟩
    exact ⟨_, rfl, _, _, _, _, false, rfl, .ty "bool", .base (.int i), kit_ty (by decide +kernel), _, rfl, q⟩
  | bl b =>
    refine ⟨_, rfl, _, _, _, _, true, rfl, .ty "int", .base (.bl b), kit_ty (by decide +kernel), _, rfl, iteT ?_⟩
    exact ⟨_, rfl, _, _, _, _, true, rfl, .ty "bool", .base (.bl b), kit_ty (by decide +kernel), _, rfl, q⟩
  | no h =>
    rw [h.isInt] at q
    obtain ⟨t, ty, e⟩ := h
    exact ⟨_, rfl, _, _, _, _, false, rfl, .ty "int", ty, e, _, rfl, iteF q⟩
theorem scIsPos : FnScope ["value"] ["value"] (defScope s_is_positive) := ⟨rfl, rfl, rfl, by decide +kernel, rfl, by decide +kernel, by decide +kernel⟩
theorem ok_is_positive {g0 : Addr} {gd0 : FuncData} (F : Fun K "is_positive" "is_positive" s_is_positive f fd)
    (G0 : FnOk P w K mg base CX0 1 g0 gd0 ["value"] (spIsInt K)) (b0 : Binds K gd0 ["value"] []) (k0 : PySem.W.keepIn K (.ref g0) = true) (m0 : mg "is_integer" = some (.ref g0)) :
    FnOk P w K mg base CX0 2 f fd ["value"] (spIsPos K) := by
  refine F.ok scIsPos (fun vs H Q E h => ?_) (fun cdv A outer s H vs Q E hr h => ?_)
  · obtain ⟨v, rfl, _⟩ := h
    rfl
  obtain ⟨v, rfl, a, q⟩ := h
  refine ⟨_, pss_one (ps_ret (pe_and (pe_call G0 hr rfl m0 k0 b0 .nil pass0 (pa_cons (pv 0) pa_nil)) (pe_one (pe_cmpR op_gt (pv 0) pe_int (nomark _))))), ?_⟩
  refine ⟨_, rfl, v, rfl, a, ?_⟩
  cases a with
  | int i => exact ⟨_, rfl, iteT ⟨_, rfl, _, _, rfl, rfl, q⟩⟩
  | bl b => exact ⟨_, rfl, iteF q⟩
  | no h =>
    rw [h.isInt]
    rw [h.isPos] at q
    exact ⟨_, rfl, iteF q⟩

/-! the greatest common divisor -/
def gcdI (a b : Int) : Int := (Int.gcd a b : Int)
theorem gcdI_step {a b : Int} (hb : 0 < b) : gcdI b (a.fmod b) = gcdI a b := by
  unfold gcdI
  rw [Int.fmod_eq_emod_of_nonneg a (by omega), Int.gcd_comm a b, Int.emod_def, Int.mul_comm b, Int.gcd_sub_mul_right_right]
theorem gcdI_zero {a : Int} (ha : 0 < a) : gcdI a 0 = a := by
  unfold gcdI
  rw [Int.gcd_zero_right]
  omega
theorem gcdI_pos {a b : Int} (ha : 0 < a) : 0 < gcdI a b := by
  unfold gcdI
  have := Int.gcd_pos_of_ne_zero_left b (show a ≠ 0 by omega)
  omega
theorem gcdI_le {a b : Int} (ha : 0 < a) : gcdI a b ≤ a := by
  unfold gcdI
  exact Int.le_of_dvd ha (Int.gcd_dvd_left ..)
theorem fmod_lt {a b : Int} (hb : 0 < b) : 0 ≤ a.fmod b ∧ a.fmod b < b := by
  rw [Int.fmod_eq_emod_of_nonneg a (by omega)]
  exact ⟨Int.emod_nonneg _ (by omega), Int.emod_lt_of_pos _ hb⟩
def spGcd : Sp := fun vs H Q _ => ∃ a b : Int, vs = [.int a, .int b] ∧ 0 < a ∧ 0 ≤ b ∧ Q (.int (gcdI a b)) H
theorem scGcd : FnScope ["one", "other"] ["one", "other"] (defScope s_common_divisor) := ⟨rfl, rfl, rfl, by decide +kernel, rfl, by decide +kernel, by decide +kernel⟩
theorem ok_common_divisor (F : Fun K "common_divisor" "common_divisor" s_common_divisor f fd) : FnOk P w K mg base CX0 2 f fd ["one", "other"] spGcd := by
  refine F.ok scGcd (fun vs H Q E h => ?_) (fun cdv A outer s H vs Q E hr h => ?_)
  · obtain ⟨a, b, rfl, _⟩ := h
    rfl
  obtain ⟨a, b, rfl, ha, hb, q⟩ := h
  refine ⟨_, pss_cons (ps_while PassesOwn.never (pt_cmpR op_gt (pv 1) pe_int (nomark _))
      (pss_one (ps_par (i := 0) (j := 1) (by rfl) scGcd.nd rfl rfl (by decide) rfl rfl (pa_cons (pv 1) (pa_cons (pe_op op_modN (pv 0) (pv 1)) pa_nil)) (by rfl))))
    (pss_one (ps_ret (pv 0))), ?_⟩
  refine while_by (fun σ H' => H' = H ∧ ∃ x y : Int, σ = [some (.int x), some (.int y)] ∧ 0 < x ∧ 0 ≤ y ∧ gcdI x y = gcdI a b) (fun σ _ => match σ with | [_, some (.int y)] => y.toNat | _ => 0)
    ⟨rfl, a, b, rfl, ha, hb, rfl⟩ ?_ (fun σ H Q Q' m ⟨v, h1, i, j, e1, e2, k, e3, q⟩ => ⟨v, h1, i, j, e1, e2, k, e3, m _ _ q⟩)
  rintro σ H' ⟨rfl, x, y, rfl, hx, hy, g⟩
  refine ⟨_, rfl, _, _, rfl, rfl, _, rfl, ?_⟩
  refine ite2 (fun c => ?_) (fun c => ?_)
  · have c' : 0 < y := of_decide_eq_true c
    have fm := fmod_lt (a := x) c'
    refine ⟨_, rfl, _, rfl, _, rfl, _, _, rfl, rfl, by omega, _, _, rfl, ?_⟩
    refine ⟨⟨rfl, y, _, rfl, c', fm.1, (gcdI_step c').trans g⟩, ?_⟩
    show (x.fmod y).toNat < y.toNat
    omega
  · have c' : ¬ 0 < y := of_decide_eq_false (Bool.eq_false_iff.mpr c)
    have e : y = 0 := by omega
    subst e
    rw [gcdI_zero hx] at g
    subst g
    exact ⟨_, rfl, q⟩

/-! lowest terms -/
def lowT (a b : Int) : HO := .tup [.int (a / gcdI a b), .int (b / gcdI a b)]
def Bd : Nat := 8000
def big (a : Int) : Prop := 0 < a ∧ a.natAbs < 2 ^ Bd
theorem gcd_div {a b : Int} (ha : big a) (x : Int) : CDivW x (gcdI a b) := wide_div (gcdI_pos ha.1) (b := Bd) (by
  have h1 := gcdI_le (b := b) ha.1
  have h2 := gcdI_pos (b := b) ha.1
  exact wide_le (by omega) h1 ha.2) (by decide) (by decide)
def spLow : Sp := fun vs H Q _ => ∃ a b : Int, vs = [.int a, .int b] ∧ big a ∧ 0 < b ∧ ∀ p, H p = none → Q (.ref p) (upd H p (lowT a b))
theorem scLow : FnScope ["top", "bottom", "divisor"] ["top", "bottom"] (defScope s_lowest_terms) := ⟨rfl, rfl, rfl, by decide +kernel, rfl, by decide +kernel, by decide +kernel⟩
theorem ok_lowest_terms {g : Addr} {gd : FuncData} (F : Fun K "lowest_terms" "lowest_terms" s_lowest_terms f fd) (G : FnOk P w K mg base CX0 2 g gd ["one", "other"] spGcd) (bG : Binds K gd ["one", "other"] []) (kG : PySem.W.keepIn K (.ref g) = true) (mG : mg "common_divisor" = some (.ref g)) :
    FnOk P w K mg base CX0 3 f fd ["top", "bottom"] spLow := by
  refine F.ok scLow (fun vs H Q E h => ?_) (fun cdv A outer s H vs Q E hr h => ?_)
  · obtain ⟨a, b, rfl, _⟩ := h
    rfl
  obtain ⟨a, b, rfl, ha, hb, q⟩ := h
  refine ⟨_, pss_cons (ps_set (i := 2) scLow.nd rfl (.inl rfl) (pe_call G hr rfl mG kG bG .nil pass0 (pa_cons (pv 0) (pa_cons (pv 1) pa_nil))))
    (pss_one (ps_ret (pe_tup (pa_cons (pe_op op_fdivW (pv 0) (pv 2)) (pa_cons (pe_op op_fdivW (pv 1) (pv 2)) pa_nil))))), ?_⟩
  refine ⟨_, rfl, _, rfl, a, b, rfl, ha.1, by omega, ?_⟩
  exact ⟨_, rfl, _, rfl, _, _, rfl, rfl, gcd_div ha a, _, rfl, _, rfl, _, _, rfl, rfl, gcd_div ha b, by show 2 ≤ sizeLine; decide, q⟩

end
/-! ### mid.lean -/
theorem roomR {k : Nat} {A : Around} (r : Room k A) : A.units + 70 < cLine := by have := r.un; omega
/-! numbers that repr can show -/
def mid (a : Int) : Prop := 0 < a ∧ a.natAbs < 2 ^ 1900
theorem mid.big {a : Int} (h : mid a) : big a := ⟨h.1, Nat.lt_of_lt_of_le h.2 (Nat.pow_le_pow_right (by decide) (by decide))⟩
theorem mid_div {a b : Int} (ha : mid a) (hb : 0 < b) : (a / gcdI a b).natAbs < 2 ^ 1900 := by
  have g := gcdI_pos (b := b) ha.1
  have h1 : 0 ≤ a / gcdI a b := Int.ediv_nonneg (by have := ha.1; omega) (by omega)
  have h2 : a / gcdI a b ≤ a := Int.ediv_le_self _ (by have := ha.1; omega)
  exact wide_le h1 h2 ha.2
theorem gcdI_comm (a b : Int) : gcdI a b = gcdI b a := by unfold gcdI; rw [Int.gcd_comm]
theorem mid_div2 {a b : Int} (ha : mid a) (hb : mid b) : (b / gcdI a b).natAbs < 2 ^ 1900 := by rw [gcdI_comm]; exact mid_div hb ha.1
def lowD (a b : Int) : PyData := .tuple [.int (a / gcdI a b), .int (b / gcdI a b)]
theorem lowD_sm {a b : Int} (ha : mid a) (hb : mid b) : Sm 2 1300 (lowD a b) := Sm.pair (mid_div ha hb.1) (mid_div2 ha hb)
theorem lowT_dp {K : PySem.W.Frag} {H : Hp} {p : Addr} {a b : Int} (h : H p = some (lowT a b)) : Dp K H (.ref p) (lowD a b) := .tup (.inl (.inl h)) (.cons (.int _) (.cons (.int _) .nil))
theorem gcdI_one {a : Int} : gcdI a 1 = 1 := by
  unfold gcdI
  rw [Int.gcd_one_right]
  rfl
theorem lowT_one (a : Int) : lowT a 1 = .tup [.int a, .int 1] := by
  unfold lowT
  rw [gcdI_one, Int.ediv_one]
  rfl
theorem lowT_eq {a b x y : Int} (h1 : a / gcdI a b = x) (h2 : b / gcdI a b = y) : lowT a b = .tup [.int x, .int y] := by
  unfold lowT
  rw [h1, h2]
theorem tupD {K : PySem.W.Frag} {H : Hp} {p : Addr} {a b : Int} (h : H p = some (.tup [.int a, .int b])) : Dp K H (.ref p) (.tuple [.int a, .int b]) := .tup (.inl (.inl h)) (.cons (.int _) (.cons (.int _) .nil))
/-! ### frac.lean -/
/-! a fraction: lowest terms, both below 2 ^ n -/
structure Fr (n : Nat) (a b : Int) : Prop where
  a0 : 0 < a
  b0 : 0 < b
  g : gcdI a b = 1
  al : a.natAbs < 2 ^ n
  bl : b.natAbs < 2 ^ n
theorem Fr.up {n m : Nat} {a b : Int} (h : Fr n a b) (le : n ≤ m) : Fr m a b := ⟨h.a0, h.b0, h.g, Nat.lt_of_lt_of_le h.al (Nat.pow_le_pow_right (by decide) le), Nat.lt_of_lt_of_le h.bl (Nat.pow_le_pow_right (by decide) le)⟩
theorem Fr.big {n : Nat} {a b : Int} (h : Fr n a b) (hn : n ≤ 8000) : big a := ⟨h.a0, Nat.lt_of_lt_of_le h.al (Nat.pow_le_pow_right (by decide) hn)⟩
theorem gcdI_low {a b : Int} (ha : 0 < a) : gcdI (a / gcdI a b) (b / gcdI a b) = 1 := by
  have h := gcdI_pos (b := b) ha
  unfold gcdI at h ⊢
  rw [Int.gcd_ediv_gcd_ediv_gcd (by omega)]
  rfl
theorem low_pos {a b : Int} (ha : 0 < a) (hb : 0 < b) : 0 < a / gcdI a b ∧ 0 < b / gcdI a b := by
  have h := gcdI_pos (b := b) ha
  refine ⟨Int.ediv_pos_of_pos_of_dvd ha (by omega) (Int.gcd_dvd_left ..), Int.ediv_pos_of_pos_of_dvd hb (by omega) (Int.gcd_dvd_right ..)⟩
theorem low_le {a b : Int} (ha : 0 < a) (hb : 0 < b) : a / gcdI a b ≤ a ∧ b / gcdI a b ≤ b := ⟨Int.ediv_le_self _ (by omega), Int.ediv_le_self _ (by omega)⟩
theorem fr_low {n : Nat} {a b : Int} (ha : 0 < a) (hb : 0 < b) (la : a.natAbs < 2 ^ n) (lb : b.natAbs < 2 ^ n) : Fr n (a / gcdI a b) (b / gcdI a b) := by
  have p := low_pos ha hb
  have l := low_le ha hb
  exact ⟨p.1, p.2, gcdI_low ha, wide_le (by omega) l.1 la, wide_le (by omega) l.2 lb⟩
theorem low_fr {n : Nat} {a b : Int} (h : Fr n a b) : lowT a b = .tup [.int a, .int b] := by
  unfold lowT
  rw [h.g, Int.ediv_one, Int.ediv_one]
theorem fr_lt {a : Int} {n : Nat} (h : 0 < a) (l : a < 2 ^ n) : a.natAbs < 2 ^ n := by
  have e : ((2 ^ n : Nat) : Int) = (2 : Int) ^ n := by norm_cast
  omega
/-- a fraction stands at p -/
def FrAt (n : Nat) (H : Hp) (p : Addr) (a b : Int) : Prop := H p = some (.tup [.int a, .int b]) ∧ Fr n a b
theorem FrAt.same {n : Nat} {H H' : Hp} {p : Addr} {a b : Int} (h : FrAt n H p a b) (s : Same H H') : FrAt n H' p a b := ⟨s _ _ h.1, h.2⟩
theorem FrAt.seq {n : Nat} {K : PySem.W.Frag} {H : Hp} {p : Addr} {a b : Int} (h : FrAt n H p a b) : SqT K H p [.int a, .int b] := .inl (.inl h.1)
/-- .. as a value -/
def FrV (n : Nat) (H : Hp) (v : V) : Prop := ∃ p a b, v = .ref p ∧ FrAt n H p a b
theorem FrV.same {n : Nat} {H H' : Hp} {v : V} (h : FrV n H v) (s : Same H H') : FrV n H' v := by
  obtain ⟨p, a, b, e, h⟩ := h
  exact ⟨p, a, b, e, h.same s⟩
theorem mul_pos {a b : Int} (ha : 0 < a) (hb : 0 < b) : 0 < a * b := Int.mul_pos ha hb
/-- a weaker reading of an expression -/
theorem pe_weak {X : Cx} {e : Expr} {t t' : TE} (he : PE X e t) (imp : ∀ sl H Q, t' sl H Q → t sl H Q) : PE X e t' := ⟨fun pins s sl H Q inv h => he.run pins s sl H Q inv (imp sl H Q h)⟩
/-! ### exact_check.lean -/
section
variable {P : Program} {w : World} {K : PySem.W.Frag} {mg : Str → Option Value} {base : Heap} {f : Addr} {fd : FuncData}
/-! is_fraction of a fraction -/
theorem scIsFrac : FnScope ["value", "top", "bottom"] ["value"] (defScope s_is_fraction) := ⟨rfl, rfl, rfl, by decide +kernel, rfl, by decide +kernel, by decide +kernel⟩
def spIsFracGood : Sp := fun vs H Q _ => ∃ v, vs = [v] ∧ FrV 8000 H v ∧ Q (.bl true) H
theorem ok_is_fraction_good {g1 g2 : Addr} {gd1 gd2 : FuncData} (F : Fun K "is_fraction" "is_fraction" s_is_fraction f fd) (mi : mg "isinstance" = none) (mt : mg "tuple" = none) (ml : mg "len" = none)
    (G1 : FnOk P w K mg base CX0 2 g1 gd1 ["value"] (spIsPos K)) (b1 : Binds K gd1 ["value"] []) (k1 : PySem.W.keepIn K (.ref g1) = true) (m1 : mg "is_positive" = some (.ref g1))
    (G2 : FnOk P w K mg base CX0 2 g2 gd2 ["one", "other"] spGcd) (b2 : Binds K gd2 ["one", "other"] []) (k2 : PySem.W.keepIn K (.ref g2) = true) (m2 : mg "common_divisor" = some (.ref g2)) :
    FnOk P w K mg base CX0 3 f fd ["value"] spIsFracGood := by
  refine F.ok scIsFrac (fun vs H Q E h => ?_) (fun cdv A outer s H vs Q E hr h => ?_)
  · obtain ⟨v, rfl, _⟩ := h
    rfl
  obtain ⟨v, rfl, ⟨p, a, b, rfl, hp⟩, q⟩ := h
  refine ⟨_, pss_cons (ps_if (PW.pt (pw_or (pt_not (pt_val (pe_callB call_isi (by rfl) mi PyProof.Rows.boot_isinstance (pa_cons (pv 0) (pa_cons (pe_bltn (v := .ty "tuple") (by rfl) mt PyProof.Rows.boot_tuple rfl) pa_nil)))))
      (pw_or1 (pt_cmpR op_ne (pe_callB call_len (by rfl) ml PySem.boot_len (pa_cons (pv 0) pa_nil)) pe_int (nomark _))))) (pss_one (ps_ret pe_bl)) pss_nil)
    (pss_cons (ps_asg (pv 0) (pg_tup (by rfl) (pgs_cons (pg_name (i := 1) scIsFrac.nd rfl (.inl rfl)) (pgs_cons (pg_name (i := 2) scIsFrac.nd rfl (.inl rfl)) pgs_nil))))
    (pss_cons (ps_if (PW.pt (pw_or (pt_not (pt_val (pe_call G1 hr rfl m1 k1 b1 .nil pass0 (pa_cons (pv 1) pa_nil)))) (pw_or1 (pt_not (pt_val (pe_call G1 hr rfl m1 k1 b1 .nil pass0 (pa_cons (pv 2) pa_nil))))))) (pss_one (ps_ret pe_bl)) pss_nil)
    (pss_one (ps_ret (pe_cmpR op_eq (pe_call G2 hr rfl m2 k2 b2 .nil pass0 (pa_cons (pv 1) (pa_cons (pv 2) pa_nil))) pe_int (nomark _)))))), ?_⟩
  refine ⟨_, rfl, _, _, _, _, true, rfl, .ty "tuple", .base (.tup hp.1), kit_ty (by decide +kernel), _, rfl, iteF ?_⟩
  refine ⟨_, rfl, _, _, rfl, .inr ⟨_, hp.seq, rfl⟩, rfl, _, rfl, iteF ?_⟩
  refine ⟨_, rfl, p, _, rfl, hp.seq, rfl, _, _, rfl, _, _, rfl, rfl, ?_⟩
  refine ⟨_, rfl, .int a, rfl, .int a, _, rfl, ?_⟩
  have ha : isPos (.int a) = true := decide_eq_true hp.2.a0
  have hb : isPos (.int b) = true := decide_eq_true hp.2.b0
  rw [ha]
  refine iteF ?_
  refine ⟨_, rfl, .int b, rfl, .int b, _, rfl, ?_⟩
  rw [hb]
  refine iteF ?_
  refine ⟨_, rfl, _, rfl, a, b, rfl, hp.2.a0, by have := hp.2.b0; omega, rfl, ?_⟩
  rw [hp.2.g]
  exact q

/-! check_fractions of fractions -/
theorem scCheck : FnScope ["values", "value"] ["values"] (defScope s_check_fractions) := ⟨rfl, rfl, rfl, by decide +kernel, rfl, by decide +kernel, by decide +kernel⟩
def spCheckGood (K : PySem.W.Frag) : Sp := fun vs H Q _ => ∃ p xs, vs = [.ref p] ∧ SqT K H p xs ∧ (∀ x ∈ xs, FrV 8000 H x) ∧ Q .non H
theorem ok_check_good {g1 : Addr} {gd1 : FuncData} (F : Fun K "check_fractions" "check_fractions" s_check_fractions f fd)
    (G1 : FnOk P w K mg base CX0 3 g1 gd1 ["value"] spIsFracGood) (b1 : Binds K gd1 ["value"] []) (k1 : PySem.W.keepIn K (.ref g1) = true) (m1 : mg "is_fraction" = some (.ref g1)) :
    FnOk P w K mg base CX0 4 f fd ["values"] (spCheckGood K) := by
  refine F.ok scCheck (fun vs H Q E h => ?_) (fun cdv A outer s H vs Q E hr h => ?_)
  · obtain ⟨p, xs, rfl, _⟩ := h
    rfl
  obtain ⟨p, xs, rfl, hp, good, q⟩ := h
  refine ⟨_, pss_one (ps_for PassesOwn.never rfl (pi_tup (pv 0)) (pg_name (i := 1) scCheck.nd rfl (.inl rfl))
      (pss_one (ps_if (pt_not (pt_val (pe_call G1 hr rfl m1 k1 b1 .nil pass0 (pa_cons (pv 1) pa_nil)))) (pss_one ps_never) pss_nil))), ?_⟩
  refine ⟨_, rfl, p, rfl, ⟨_, hp⟩, for_tup (K := K) (a := p) (xs := xs) (fun _ σ H2 => H2 = H ∧ ∃ v, σ = [some (.ref p), v]) ⟨rfl, none, rfl⟩ (fun i σ H2 _ h => ?_) ?_ ?_⟩
  · obtain ⟨rfl, _⟩ := h
    exact hp
  · rintro i x σ H2 hi ⟨rfl, v, rfl⟩
    exact ⟨_, rfl, x, rfl, good x (List.mem_of_getElem? hi), _, rfl, iteF ⟨rfl, _, rfl⟩⟩
  · rintro σ H2 ⟨rfl, v, rfl⟩
    exact q
end
/-! ### quot_bits.lean -/
theorem mulW {a b : Int} (ha : a.natAbs < 2 ^ 3900) (hb : b.natAbs < 2 ^ 3900) : CMulW a b := wide_mul ha hb (by decide) (by decide) (by decide)
theorem big_mul {a b : Int} (a0 : 0 < a) (b0 : 0 < b) (ha : a.natAbs < 2 ^ 3900) (hb : b.natAbs < 2 ^ 3900) : big (a * b) := ⟨mul_pos a0 b0, Nat.lt_of_lt_of_le (wide_lt ha hb) (Nat.pow_le_pow_right (by decide) (by decide))⟩
/-! ### exact_quot.lean -/
section
variable {P : Program} {w : World} {K : PySem.W.Frag} {mg : Str → Option Value} {base : Heap} {f : Addr} {fd : FuncData}
/-! quotient, compare of fractions -/
def gOO {α : Type} (_ ws : List α) : List α := match ws with
  | [b, t] => [t, b]
  | _ => []
def gO1 {α : Type} (us ws : List α) : List α := match us, ws with
  | [x], [b] => [x, b]
  | _, _ => []
/-- how two arguments one, other come by name -/
structure TwoCalls (K : PySem.W.Frag) (fd : FuncData) : Prop where
  oo : KBn K fd ["one", "other"] 0 ["other", "one"] (fun us ws => gOO us ws) (fun vs zs => gOO vs zs)
  o1 : KBn K fd ["one", "other"] 1 ["other"] (fun us ws => gO1 us ws) (fun vs zs => gO1 vs zs)
theorem rel_OO {vs zs : List V} {us ws : List Value} (_ : Vals vs us) (r : Vals zs ws) : Vals (gOO vs zs) (gOO us ws) := by
  cases r with
  | nil => exact .nil
  | cons a r => cases r with
    | nil => exact .nil
    | cons b r => cases r with
      | nil => exact .cons b (.cons a .nil)
      | cons _ _ => exact .nil
theorem rel_O1 {vs zs : List V} {us ws : List Value} (r0 : Vals vs us) (r : Vals zs ws) : Vals (gO1 vs zs) (gO1 us ws) := by
  cases r0 with
  | nil => exact .nil
  | cons x r0 => cases r0 with
    | cons _ _ => exact .nil
    | nil => cases r with
      | nil => exact .nil
      | cons a r => cases r with
        | nil => exact .cons x (.cons a .nil)
        | cons _ _ => exact .nil
def spQuot : Sp := fun vs H Q _ => ∃ p q a b c d, vs = [.ref p, .ref q] ∧ FrAt 3900 H p a b ∧ FrAt 3900 H q c d ∧ ∀ H' t, Same H H' → H t = none → H' t = some (lowT (a * d) (b * c)) → Q (.ref t) H'
theorem two_good {H : Hp} {p q t : Addr} {a b c d : Int} (hp : FrAt 3900 H p a b) (hq : FrAt 3900 H q c d) (ht : H t = none) : ∀ x ∈ [V.ref p, .ref q], FrV 8000 (upd H t (.tup [.ref p, .ref q])) x := by
  have s := same_upd (o := .tup [.ref p, .ref q]) ht
  intro x hx
  simp only [List.mem_cons, List.not_mem_nil, or_false] at hx
  rcases hx with rfl | rfl
  · exact ⟨p, a, b, rfl, s _ _ hp.1, hp.2.up (by decide)⟩
  · exact ⟨q, c, d, rfl, s _ _ hq.1, hq.2.up (by decide)⟩
theorem scQuot : FnScope ["one", "other"] ["one", "other"] (defScope s_quotient) := ⟨rfl, rfl, rfl, by decide +kernel, rfl, by decide +kernel, by decide +kernel⟩
theorem ok_quot_good {g1 g2 : Addr} {gd1 gd2 : FuncData} (F : Fun K "quotient" "quotient" s_quotient f fd)
    (G1 : FnOk P w K mg base CX0 4 g1 gd1 ["values"] (spCheckGood K)) (b1 : Binds K gd1 ["values"] []) (k1 : PySem.W.keepIn K (.ref g1) = true) (m1 : mg "check_fractions" = some (.ref g1))
    (G2 : FnOk P w K mg base CX0 3 g2 gd2 ["top", "bottom"] spLow) (b2 : Binds K gd2 ["top", "bottom"] []) (k2 : PySem.W.keepIn K (.ref g2) = true) (m2 : mg "lowest_terms" = some (.ref g2)) :
    FnOk P w K mg base CX0 5 f fd ["one", "other"] spQuot := by
  refine F.ok scQuot (fun vs H Q E h => ?_) (fun cdv A outer s H vs Q E hr h => ?_)
  · obtain ⟨p, q, a, b, c, d, rfl, _⟩ := h
    rfl
  obtain ⟨p, q, a, b, c, d, rfl, hp, hq, k⟩ := h
  refine ⟨_, pss_cons (ps_expr (pe_call G1 hr rfl m1 k1 b1 .nil pass0 (pa_cons (pe_tup (pa_cons (pv 0) (pa_cons (pv 1) pa_nil))) pa_nil)))
    (pss_one (ps_ret (pe_call G2 (hr.mono (by decide)) rfl m2 k2 b2 .nil pass0 (pa_cons (pe_op op_mulW (pe_ix ix_tup (pv 0) pe_int (fun _ _ => rfl)) (pe_ix ix_tup (pv 1) pe_int (fun _ _ => rfl))) (pa_cons (pe_op op_mulW (pe_ix ix_tup (pv 0) pe_int (fun _ _ => rfl)) (pe_ix ix_tup (pv 1) pe_int (fun _ _ => rfl))) pa_nil))))), ?_⟩
  refine ⟨_, rfl, _, rfl, by show 2 ≤ sizeLine; decide, fun t ht => ?_⟩
  have s1 := same_upd (o := .tup [.ref p, .ref q]) ht
  refine ⟨t, _, rfl, .inl (.inl upd_same), two_good hp hq ht, ?_⟩
  have hp1 := (hp.same s1).seq (K := K)
  have hq1 := (hq.same s1).seq (K := K)
  refine ⟨_, rfl, p, _, _, _, rfl, rfl, hp1, rfl, _, rfl, q, _, _, _, rfl, rfl, hq1, rfl, _, _, rfl, rfl, mulW hp.2.al hq.2.bl, ?_⟩
  refine ⟨_, rfl, p, _, _, _, rfl, rfl, hp1, rfl, _, rfl, q, _, _, _, rfl, rfl, hq1, rfl, _, _, rfl, rfl, mulW hp.2.bl hq.2.al, ?_⟩
  exact ⟨a * d, b * c, rfl, big_mul hp.2.a0 hq.2.b0 hp.2.al hq.2.bl, mul_pos hp.2.b0 hq.2.a0, fun u hu => k _ u (s1.trans (same_upd hu)) (s1.free hu) upd_same⟩
def sgn (l r : Int) : Int := if l < r then -1 else if r < l then 1 else 0
def spComp : Sp := fun vs H Q _ => ∃ p q a b c d, vs = [.ref p, .ref q] ∧ FrAt 3900 H p a b ∧ FrAt 3900 H q c d ∧ ∀ H', Same H H' → Q (.int (sgn (a * d) (c * b))) H'
theorem scOrder : FnScope ["left", "right"] ["left", "right"] (defScope s_order) := ⟨rfl, rfl, rfl, by decide +kernel, rfl, by decide +kernel, by decide +kernel⟩
def spOrder : Sp := fun vs H Q _ => ∃ l r : Int, vs = [.int l, .int r] ∧ Q (.int (sgn l r)) H
theorem ok_order (F : Fun K "order" "order" s_order f fd) : FnOk P w K mg base CX0 1 f fd ["left", "right"] spOrder := by
  refine F.ok scOrder (fun vs H Q E h => ?_) (fun cdv A outer s H vs Q E hr h => ?_)
  · obtain ⟨l, r, rfl, _⟩ := h
    rfl
  obtain ⟨l, r, rfl, kk⟩ := h
  refine ⟨_, pss_cons (ps_if (pt_cmpR op_lt (pv 0) (pv 1) (nomark _)) (pss_one (ps_ret (pe_un un_neg pe_int))) pss_nil)
    (pss_cons (ps_if (pt_cmpR op_gt (pv 0) (pv 1) (nomark _)) (pss_one (ps_ret pe_int)) pss_nil)
    (pss_one (ps_ret pe_int))), ?_⟩
  unfold sgn at kk
  refine ⟨_, rfl, _, rfl, _, _, rfl, rfl, _, rfl, ?_⟩
  refine ite2 (fun h => ?_) (fun h => ?_)
  · have h' : l < r := of_decide_eq_true h
    rw [if_pos h'] at kk
    exact ⟨1, rfl, kk⟩
  · have h' : ¬ l < r := of_decide_eq_false (Bool.eq_false_iff.mpr h)
    rw [if_neg h'] at kk
    refine ⟨_, rfl, _, rfl, _, _, rfl, rfl, _, rfl, ?_⟩
    refine ite2 (fun h2 => ?_) (fun h2 => ?_)
    · have h2' : r < l := of_decide_eq_true h2
      rw [if_pos h2'] at kk
      exact kk
    · have h2' : ¬ r < l := of_decide_eq_false (Bool.eq_false_iff.mpr h2)
      rw [if_neg h2'] at kk
      exact kk
theorem scComp : FnScope ["one", "other"] ["one", "other"] (defScope s_compare) := ⟨rfl, rfl, rfl, by decide +kernel, rfl, by decide +kernel, by decide +kernel⟩
theorem ok_comp_good {g1 g2 : Addr} {gd1 gd2 : FuncData} (F : Fun K "compare" "compare" s_compare f fd)
    (G1 : FnOk P w K mg base CX0 4 g1 gd1 ["values"] (spCheckGood K)) (b1 : Binds K gd1 ["values"] []) (k1 : PySem.W.keepIn K (.ref g1) = true) (m1 : mg "check_fractions" = some (.ref g1))
    (G2 : FnOk P w K mg base CX0 1 g2 gd2 ["left", "right"] spOrder) (b2 : Binds K gd2 ["left", "right"] []) (k2 : PySem.W.keepIn K (.ref g2) = true) (m2 : mg "order" = some (.ref g2)) :
    FnOk P w K mg base CX0 5 f fd ["one", "other"] spComp := by
  refine F.ok scComp (fun vs H Q E h => ?_) (fun cdv A outer s H vs Q E hr h => ?_)
  · obtain ⟨p, q, a, b, c, d, rfl, _⟩ := h
    rfl
  obtain ⟨p, q, a, b, c, d, rfl, hp, hq, k⟩ := h
  refine ⟨_, pss_cons (ps_expr (pe_call G1 hr rfl m1 k1 b1 .nil pass0 (pa_cons (pe_tup (pa_cons (pv 0) (pa_cons (pv 1) pa_nil))) pa_nil)))
    (pss_one (ps_ret (pe_call G2 (hr.mono (by decide)) rfl m2 k2 b2 .nil pass0 (pa_cons (pe_op op_mulW (pe_ix ix_tup (pv 0) pe_int (fun _ _ => rfl)) (pe_ix ix_tup (pv 1) pe_int (fun _ _ => rfl))) (pa_cons (pe_op op_mulW (pe_ix ix_tup (pv 1) pe_int (fun _ _ => rfl)) (pe_ix ix_tup (pv 0) pe_int (fun _ _ => rfl))) pa_nil))))), ?_⟩
  refine ⟨_, rfl, _, rfl, by show 2 ≤ sizeLine; decide, fun t ht => ?_⟩
  have s1 := same_upd (o := .tup [.ref p, .ref q]) ht
  refine ⟨t, _, rfl, .inl (.inl upd_same), two_good hp hq ht, ?_⟩
  have hp1 := (hp.same s1).seq (K := K)
  have hq1 := (hq.same s1).seq (K := K)
  refine ⟨_, rfl, p, _, _, _, rfl, rfl, hp1, rfl, _, rfl, q, _, _, _, rfl, rfl, hq1, rfl, _, _, rfl, rfl, mulW hp.2.al hq.2.bl, ?_⟩
  refine ⟨_, rfl, q, _, _, _, rfl, rfl, hq1, rfl, _, rfl, p, _, _, _, rfl, rfl, hp1, rfl, _, _, rfl, rfl, mulW hq.2.al hp.2.bl, ?_⟩
  exact ⟨_, _, rfl, k _ s1⟩
end
/-! ### exact_quot_calls.lean -/
theorem two_calls_quot {K : PySem.W.Frag} {f : Addr} {fd : FuncData} (F : Fun K "quotient" "quotient" s_quotient f fd) : TwoCalls K fd :=
  ⟨bindN F 0 ["other", "one"] gOO rel_OO (fun _ _ _ _ _ _ us ws h1 h2 => match us, ws, h1, h2 with | [], [_, _], _, _ => rfl),
   bindN F 1 ["other"] gO1 rel_O1 (fun _ _ _ _ _ _ us ws h1 h2 => match us, ws, h1, h2 with | [_], [_], _, _ => rfl)⟩
theorem two_calls_comp {K : PySem.W.Frag} {f : Addr} {fd : FuncData} (F : Fun K "compare" "compare" s_compare f fd) : TwoCalls K fd :=
  ⟨bindN F 0 ["other", "one"] gOO rel_OO (fun _ _ _ _ _ _ us ws h1 h2 => match us, ws, h1, h2 with | [], [_, _], _, _ => rfl),
   bindN F 1 ["other"] gO1 rel_O1 (fun _ _ _ _ _ _ us ws h1 h2 => match us, ws, h1, h2 with | [_], [_], _, _ => rfl)⟩
/-! ### prelude_cell.lean -/
section
variable {P : Program} {w : World} {K : PySem.W.Frag} {mg : Str → Option Value} {base : Heap} {f : Addr} {fd : FuncData}
/-! a cell of the script: some int -/
theorem scCell : FnScope ["_law_script", "_law_k", "_law_state", "_law_figure"] ["_law_script", "_law_k"] (defScope s_l_cell) := ⟨rfl, rfl, rfl, by decide +kernel, rfl, by decide +kernel, by decide +kernel⟩
def spCell (K : PySem.W.Frag) : Sp := fun vs H Q _ => ∃ (a : Addr) (ns : List Int) (k : Int), vs = [.ref a, .int k] ∧ SqL K H a (ns.map V.int) ∧ ns.length ≤ 63 ∧ 0 ≤ k ∧ k < 2 ^ 60 ∧ ∀ (z : Int) H', Same H H' → Q (.int z) H'
theorem nzM : (2147483137 : Int) ≠ 0 := by decide
theorem cut_ints (ns : List Int) (lo hi : Option Int) : ∃ ms : List Int, cutV (ns.map V.int) lo hi = ms.map V.int := by
  refine ⟨(ns.drop (HT.sIx (ns.map V.int).length 0 lo)).take (HT.sIx (ns.map V.int).length (ns.map V.int).length hi - HT.sIx (ns.map V.int).length 0 lo), ?_⟩
  unfold cutV
  rw [List.map_take, List.map_drop]
theorem get_int {ns : List Int} {i : Nat} {x : V} (h : (ns.map V.int)[i]? = some x) : ∃ z : Int, x = .int z := by
  rw [List.getElem?_map] at h
  cases e : ns[i]? with
  | none => rw [e] at h; cases h
  | some z => rw [e] at h; exact ⟨z, (Option.some.inj h).symm⟩
theorem ok_cell (F : Fun K "_law_cell" "_law_cell" s_l_cell f fd) (ml : mg "len" = none) : FnOk P w K mg base CX0 2 f fd ["_law_script", "_law_k"] (spCell K) := by
  refine F.ok scCell (fun vs H Q E h => ?_) (fun cdv A outer s H vs Q E hr h => ?_)
  · obtain ⟨a, ns, k, rfl, _⟩ := h
    rfl
  obtain ⟨a, ns, k, rfl, hS, h63, h0, hk, q⟩ := h
  refine ⟨_, pss_cons (ps_if (pt_cmpR op_lt (pv 1) (pe_callB call_len_seq (by rfl) ml PySem.boot_len (pa_cons (pv 0) pa_nil)) (nomark _)) (pss_one (ps_ret (pe_ix ix_list (pv 0) (pv 1) (fun _ _ => rfl)))) pss_nil)
    (pss_cons (ps_set (i := 2) scCell.nd rfl (.inl rfl) (pe_op op_modN (pe_op op_mul pe_int (pe_op op_add (pe_op op_add (pe_op op_mul (pv 1) (pv 1)) (pe_op op_mul pe_int (pv 1))) pe_int)) pe_int))
    (pss_cons (ps_for PassesOwn.never rfl (pi_list (pe_slice sl_list (pv 0) po_none (po_some pe_int))) (pg_name (i := 3) scCell.nd rfl (.inl rfl))
      (pss_one (ps_set (i := 2) scCell.nd rfl (.inl rfl) (pe_op op_modN (pe_op op_add (pe_op op_mul (pv 2) pe_int) (pv 3)) pe_int))))
    (pss_one (ps_ret (pv 2))))), ?_⟩
  refine ⟨_, rfl, _, rfl, a, _, rfl, .inl hS, _, _, rfl, rfl, _, rfl, ?_⟩
  refine ite2 (fun c => ?_) (fun c => ?_)
  · have c' : k < (((ns.map V.int).length : Nat) : Int) := of_decide_eq_true c
    rw [List.length_map] at c'
    have hn : k.toNat < ns.length := by omega
    have at_ : atI (ns.map V.int) k = some (.int ns[k.toNat]) := by
      have := atI_nat (xs := ns.map V.int) (j := k.toNat) (v := .int ns[k.toNat]) (by rw [List.getElem?_map, List.getElem?_eq_getElem hn]; rfl)
      rw [show ((k.toNat : Nat) : Int) = k by omega] at this
      exact this
    exact ⟨_, rfl, _, rfl, a, _, _, _, rfl, rfl, hS, at_, q _ H (Same.refl H)⟩
  · refine ⟨_, rfl, _, rfl, _, _, rfl, rfl, .inl (by omega), _, rfl, _, _, rfl, rfl, .inl (by omega), _, _, rfl, rfl, _, _, rfl, rfl, _, _, rfl, rfl, .inl (by omega), _, _, rfl, rfl, nzM, ?_⟩
    refine ⟨_, rfl, _, rfl, a, _, rfl, hS, fun p hp => ?_⟩
    obtain ⟨ms, em⟩ := cut_ints ns none (some 3)
    have s1 : Same H (upd H p (.lst (cutV (ns.map V.int) none (some 3)))) := same_upd hp
    refine ⟨p, rfl, ⟨_, SqL.of upd_same⟩, ?_⟩
    rw [em] at s1 ⊢
    refine for_list (K := K) (a := p) (xs := ms.map V.int) (fun _ σ H2 => H2 = upd H p (.lst (ms.map V.int)) ∧ ∃ (z : Int) (v : Option V), σ = [some (.ref a), some (.int k), some (.int z), v] ∧ 0 ≤ z ∧ z < 2147483137) ?_ (fun i σ H2 _ h => ?_) ?_ ?_
    · exact ⟨rfl, _, none, rfl, fmod_lt (by decide)⟩
    · obtain ⟨rfl, _⟩ := h
      exact SqL.of upd_same
    · rintro i x σ H2 hi ⟨rfl, z, v, rfl, z0, z1⟩
      obtain ⟨y, rfl⟩ := get_int hi
      exact ⟨_, rfl, _, _, rfl, rfl, .inl (by omega), _, rfl, _, _, rfl, rfl, _, _, rfl, rfl, nzM, rfl, _, _, rfl, fmod_lt (by decide)⟩
    · rintro σ H2 ⟨rfl, z, v, rfl, _⟩
      exact ⟨_, rfl, q _ _ s1⟩

/-! the pool -/
def Pool (H : Hp) (p : Addr) : Prop := ∃ x d c : Int, H p = some (.lst [.int x, .int d, .int c]) ∧ 0 ≤ x ∧ x < 2147483137 ∧ 0 ≤ d
def Keep (p : Addr) (H H' : Hp) : Prop := ∀ b o, b ≠ p → H b = some o → H' b = some o
theorem Keep.refl (p : Addr) (H : Hp) : Keep p H H := fun _ _ _ h => h
theorem Keep.trans {p : Addr} {H H1 H2 : Hp} (a : Keep p H H1) (b : Keep p H1 H2) : Keep p H H2 := fun c o n h => b c o n (a c o n h)
theorem Same.keep {H H' : Hp} (s : Same H H') (p : Addr) : Keep p H H' := fun b o _ h => s b o h
theorem Keep.at {H : Hp} {p : Addr} {o : HO} : Keep p H (upd H p o) := fun b u n h => by rw [upd_ne n]; exact h
theorem Pool.same {H H' : Hp} {p : Addr} (h : Pool H p) (s : Same H H') : Pool H' p := by
  obtain ⟨x, d, c, e, r⟩ := h
  exact ⟨x, d, c, s _ _ e, r⟩
/-- what lies elsewhere stays -/
theorem Keep.same {p : Addr} {H0 H H' : Hp} (k : Keep p H H') (s : Same H0 H) (n : H0 p = none) : Same H0 H' := fun b o h => k b o (ne_of_none h n) (s b o h)
theorem scPool : FnScope ["_law_figure", "_law_digits"] ["_law_figure"] (defScope s_l_pool) := ⟨rfl, rfl, rfl, by decide +kernel, rfl, by decide +kernel, by decide +kernel⟩
def spPool : Sp := fun vs H Q _ => ∃ z : Int, vs = [.int z] ∧ ∀ p H', Same H H' → H p = none → Pool H' p → Q (.ref p) H'
theorem ok_pool (F : Fun K "_law_pool" "_law_pool" s_l_pool f fd) (ma : mg "abs" = none) : FnOk P w K mg base CX0 2 f fd ["_law_figure"] spPool := by
  refine F.ok scPool (fun vs H Q E h => ?_) (fun cdv A outer s H vs Q E hr h => ?_)
  · obtain ⟨z, rfl, _⟩ := h
    rfl
  obtain ⟨z, rfl, q⟩ := h
  refine ⟨_, pss_cons (ps_set (i := 1) scPool.nd rfl (.inl rfl) (pe_ifExp (PW.pt (pw_or (pt_cmpR op_lt (pv 0) pe_int (nomark _)) (pw_or1 (pt_cmpR op_ge (pv 0) (pe_op op_pow pe_int pe_int) (nomark _)))))
      (pe_callB call_abs (by rfl) ma PyProof.Rows.boot_abs (pa_cons (pv 0) pa_nil)) pe_int))
    (pss_one (ps_ret (pe_lst (pa_cons (pe_op op_modN (pv 0) pe_int) (pa_cons (pv 1) (pa_cons pe_int pa_nil)))))), ?_⟩
  have fin : ∀ d : Int, 0 ≤ d → ∀ p, H p = none → Q (.ref p) (upd H p (.lst [.int (z.fmod 2147483137), .int d, .int 0])) := fun d hd p hp =>
    q p _ (same_upd hp) hp ⟨_, d, 0, upd_same, (fmod_lt (by decide)).1, (fmod_lt (by decide)).2, hd⟩
  refine ⟨_, rfl, _, _, rfl, rfl, _, rfl, ?_⟩
  refine ite2 (fun c => ?_) (fun c => ?_)
  · refine iteT ⟨_, rfl, _, rfl, ?_⟩
    refine ⟨_, rfl, _, _, rfl, rfl, nzM, _, rfl, by show 3 ≤ sizeLine; decide, fin _ ?_⟩
    split <;> omega
  · refine ⟨_, rfl, _, _, rfl, rfl, ⟨by decide, by decide, by decide⟩, _, _, rfl, rfl, _, rfl, ?_⟩
    refine ite2 (fun c => ?_) (fun c => ?_)
    · refine ⟨_, rfl, _, rfl, ?_⟩
      refine ⟨_, rfl, _, _, rfl, rfl, nzM, _, rfl, by show 3 ≤ sizeLine; decide, fin _ ?_⟩
      split <;> omega
    · refine ⟨_, rfl, _, _, rfl, rfl, nzM, _, rfl, by show 3 ≤ sizeLine; decide, fin _ ?_⟩
      omega
end
/-! ### prelude_draw.lean -/
section
variable {P : Program} {w : World} {K : PySem.W.Frag} {mg : Str → Option Value} {base : Heap} {f : Addr} {fd : FuncData}
/-! a draw -/
theorem scDraw : FnScope ["_law_pool_here", "_law_most", "_law_state", "_law_digit"] ["_law_pool_here", "_law_most"] (defScope s_l_draw) := ⟨rfl, rfl, rfl, by decide +kernel, rfl, by decide +kernel, by decide +kernel⟩
def spDraw : Sp := fun vs H Q _ => ∃ (p : Addr) (m : Int), vs = [.ref p, .int m] ∧ Pool H p ∧ big m ∧ ∀ (r : Int) H', Keep p H H' → Pool H' p → 0 ≤ r → r < m → Q (.int r) H'
theorem divP {i j : Int} (h : big j) : CDivP i j := ⟨h.1, PyProof.noPylong_of_log2 (wide_div (i := i) h.1 h.2 (by decide) (by decide)).2⟩
theorem ok_draw (F : Fun K "_law_draw" "_law_draw" s_l_draw f fd) (md : mg "divmod" = none) : FnOk P w K mg base CX0 2 f fd ["_law_pool_here", "_law_most"] spDraw := by
  refine F.ok scDraw (fun vs H Q E h => ?_) (fun cdv A outer s H vs Q E hr h => ?_)
  · obtain ⟨p, m, rfl, _⟩ := h
    rfl
  obtain ⟨p, m, rfl, ⟨x, d, c, hp, x0, x1, d0⟩, hm, q⟩ := h
  refine ⟨_, pss_cons (ps_asg (pe_op op_add (pe_ix ix_list (pv 0) pe_int (fun _ _ => rfl)) pe_int) (pg_sub (pv 0) pe_int set_list))
    (pss_cons (ps_set (i := 2) scDraw.nd rfl (.inl rfl) (pe_ix ix_list (pv 0) pe_int (fun _ _ => rfl)))
    (pss_cons (ps_asg (pe_op op_modN (pe_op op_add (pe_op op_mul (pv 2) (pe_op op_add (pe_op op_modN (pv 2) pe_int) pe_int)) (pe_op op_mul pe_int (pe_ix ix_list (pv 0) pe_int (fun _ _ => rfl)))) pe_int) (pg_sub (pv 0) pe_int set_list))
    (pss_cons (ps_if (pt_cmpR op_gt (pe_ix ix_list (pv 0) pe_int (fun _ _ => rfl)) pe_int (nomark _))
      (pss_cons (ps_asg (pe_callB call_divmodW (by rfl) md PyProof.Rows.boot_divmod (pa_cons (pe_ix ix_list (pv 0) pe_int (fun _ _ => rfl)) (pa_cons (pv 1) pa_nil)))
        (pg_tup rfl (pgs_cons (pg_sub (pv 0) pe_int set_list) (pgs_cons (pg_name (i := 3) scDraw.nd rfl (.inl rfl)) pgs_nil))))
      (pss_one (ps_ret (pv 3)))) pss_nil)
    (pss_one (ps_ret (pe_op op_modN (pe_op op_fdiv (pe_ix ix_list (pv 0) pe_int (fun _ _ => rfl)) pe_int) (pv 1))))))), ?_⟩
  -- the count
  refine ⟨_, rfl, p, _, _, _, rfl, rfl, SqL.of hp, rfl, _, _, rfl, rfl, _, rfl, p, _, _, _, rfl, rfl, hp, rfl, ?_⟩
  refine ⟨_, rfl, p, _, _, _, rfl, rfl, SqL.of upd_same, rfl, ?_⟩
  -- the state
  refine ⟨_, rfl, _, rfl, _, _, rfl, rfl, by show (50023 : Int) ≠ 0; decide, _, _, rfl, rfl, _, _, rfl, rfl, .inl (by omega), _, rfl, p, _, _, _, rfl, rfl, SqL.of upd_same, rfl, _, _, rfl, rfl, .inl (by omega), _, _, rfl, rfl, _, _, rfl, rfl, nzM, ?_⟩
  refine ⟨_, rfl, p, _, _, _, rfl, rfl, upd_same, rfl, ?_⟩
  have hy2 : 0 ≤ (x * (x.fmod 50023 + 30013) + 80029 * (c + 1)).fmod 2147483137 ∧ (x * (x.fmod 50023 + 30013) + 80029 * (c + 1)).fmod 2147483137 < 2147483137 := fmod_lt (by decide)
  have hp1 : upd (upd H p (.lst [.int x, .int d, .int (c + 1)])) p (.lst [.int ((x * (x.fmod 50023 + 30013) + 80029 * (c + 1)).fmod 2147483137), .int d, .int (c + 1)]) p = some (.lst [.int ((x * (x.fmod 50023 + 30013) + 80029 * (c + 1)).fmod 2147483137), .int d, .int (c + 1)]) := upd_same
  have k1 : Keep p H (upd (upd H p (.lst [.int x, .int d, .int (c + 1)])) p (.lst [.int ((x * (x.fmod 50023 + 30013) + 80029 * (c + 1)).fmod 2147483137), .int d, .int (c + 1)])) := Keep.at.trans Keep.at
  -- digits, if there are some
  refine ⟨_, rfl, p, _, _, _, rfl, rfl, SqL.of hp1, rfl, _, _, rfl, rfl, _, rfl, ?_⟩
  refine ite2 (fun cc => ?_) (fun cc => ?_)
  · refine ⟨_, rfl, p, _, _, _, rfl, rfl, SqL.of hp1, rfl, _, rfl, d, m, rfl, divP hm, fun t ht => ?_⟩
    have ntp : p ≠ t := ne_of_none hp1 ht
    refine ⟨t, _, rfl, .inl (.inl upd_same), rfl, _, _, rfl, _, rfl, p, _, _, _, rfl, rfl, by rw [upd_ne ntp]; exact hp1, rfl, _, _, rfl, rfl, ?_⟩
    refine ⟨_, rfl, q _ _ ((k1.trans (Same.keep (same_upd ht) p)).trans Keep.at) ⟨_, _, _, upd_same, hy2.1, hy2.2, Int.ediv_nonneg d0 (by have := hm.1; omega)⟩ (Int.emod_nonneg _ (by have := hm.1; omega)) (Int.emod_lt_of_pos _ hm.1)⟩
  · refine ⟨_, rfl, p, _, _, _, rfl, rfl, SqL.of hp1, rfl, _, _, rfl, rfl, ⟨by decide, by decide⟩, _, rfl, _, _, rfl, rfl, by have := hm.1; omega, ?_⟩
    exact q _ _ k1 ⟨_, _, _, hp1, hy2.1, hy2.2, d0⟩ (fmod_lt hm.1).1 (fmod_lt hm.1).2

/-! the law's own lowest terms -/
theorem scLLow : FnScope ["_law_high_part", "_law_low_part", "_law_lead", "_law_rest"] ["_law_high_part", "_law_low_part"] (defScope s_l_low) := ⟨rfl, rfl, rfl, by decide +kernel, rfl, by decide +kernel, by decide +kernel⟩
theorem ok_llow (F : Fun K "_law_low" "_law_low" s_l_low f fd) : FnOk P w K mg base CX0 2 f fd ["_law_high_part", "_law_low_part"] spLow := by
  refine F.ok scLLow (fun vs H Q E h => ?_) (fun cdv A outer s H vs Q E hr h => ?_)
  · obtain ⟨a, b, rfl, _⟩ := h
    rfl
  obtain ⟨a, b, rfl, ha, hb, q⟩ := h
  refine ⟨_, pss_cons (ps_par (i := 2) (j := 3) (by rfl) scLLow.nd rfl rfl (by decide) rfl rfl (pa_cons (pv 0) (pa_cons (pv 1) pa_nil)) (by rfl))
    (pss_cons (ps_while PassesOwn.never (pt_cmpR op_gt (pv 3) pe_int (nomark _))
      (pss_one (ps_par (i := 2) (j := 3) (by rfl) scLLow.nd rfl rfl (by decide) rfl rfl (pa_cons (pv 3) (pa_cons (pe_op op_modN (pv 2) (pv 3)) pa_nil)) (by rfl))))
    (pss_one (ps_ret (pe_tup (pa_cons (pe_op op_fdivW (pv 0) (pv 2)) (pa_cons (pe_op op_fdivW (pv 1) (pv 2)) pa_nil)))))), ?_⟩
  refine ⟨_, rfl, _, rfl, _, _, rfl, ?_⟩
  refine while_by (fun σ H' => H' = H ∧ ∃ x y : Int, σ = [some (.int a), some (.int b), some (.int x), some (.int y)] ∧ 0 < x ∧ 0 ≤ y ∧ gcdI x y = gcdI a b) (fun σ _ => match σ with | [_, _, _, some (.int y)] => y.toNat | _ => 0)
    ⟨rfl, a, b, rfl, ha.1, by omega, rfl⟩ ?_ (fun σ H Q Q' m ⟨v, h1, i, j, e1, e2, k, e3, q⟩ => ⟨v, h1, i, j, e1, e2, k, e3, m _ _ q⟩)
  rintro σ H' ⟨rfl, x, y, rfl, hx, hy, g⟩
  refine ⟨_, rfl, _, _, rfl, rfl, _, rfl, ?_⟩
  refine ite2 (fun c => ?_) (fun c => ?_)
  · have c' : 0 < y := of_decide_eq_true c
    have fm := fmod_lt (a := x) c'
    refine ⟨_, rfl, _, rfl, _, rfl, _, _, rfl, rfl, by omega, _, _, rfl, ?_⟩
    refine ⟨⟨rfl, y, _, rfl, c', fm.1, (gcdI_step c').trans g⟩, ?_⟩
    show (x.fmod y).toNat < y.toNat
    omega
  · have c' : ¬ 0 < y := of_decide_eq_false (Bool.eq_false_iff.mpr c)
    have e : y = 0 := by omega
    subst e
    rw [gcdI_zero hx] at g
    subst g
    exact ⟨_, rfl, _, rfl, _, _, rfl, rfl, gcd_div ha a, _, rfl, _, rfl, _, _, rfl, rfl, gcd_div ha b, by show 2 ≤ sizeLine; decide, q⟩
end
/-! ### prelude_part.lean -/
section
variable {P : Program} {w : World} {K : PySem.W.Frag} {mg : Str → Option Value} {base : Heap} {f : Addr} {fd : FuncData}
/-! a drawn fraction -/
theorem at2 {x0 x1 : V} {r : Int} (h0 : 0 ≤ r) (h1 : r < 2) : ∃ v, atI [x0, x1] r = some v ∧ (v = x0 ∨ v = x1) := by
  have : r = 0 ∨ r = 1 := by omega
  rcases this with rfl | rfl
  · exact ⟨x0, rfl, .inl rfl⟩
  · exact ⟨x1, rfl, .inr rfl⟩
/-- a place of a list of four -/
theorem at4 {x0 x1 x2 x3 : V} {r : Int} (h0 : 0 ≤ r) (h1 : r < 4) : ∃ v, atI [x0, x1, x2, x3] r = some v ∧ (v = x0 ∨ v = x1 ∨ v = x2 ∨ v = x3) := by
  have : r = 0 ∨ r = 1 ∨ r = 2 ∨ r = 3 := by omega
  rcases this with rfl | rfl | rfl | rfl
  · exact ⟨x0, rfl, .inl rfl⟩
  · exact ⟨x1, rfl, .inr (.inl rfl)⟩
  · exact ⟨x2, rfl, .inr (.inr (.inl rfl))⟩
  · exact ⟨x3, rfl, .inr (.inr (.inr rfl))⟩
theorem Pool.ne {H : Hp} {p L : Addr} (hp : Pool H p) (nL : H L = none) : L ≠ p := by
  obtain ⟨_, _, _, e, _⟩ := hp
  exact (ne_of_none e nL).symm
theorem big_of {a : Int} (n : Nat) (h : 0 < a) (l : a < 2 ^ n) (hn : n ≤ 8000) : big a := by
  refine ⟨h, ?_⟩
  have e : ((2 ^ n : Nat) : Int) = (2 : Int) ^ n := by norm_cast
  have : a.natAbs < 2 ^ n := by omega
  exact Nat.lt_of_lt_of_le this (Nat.pow_le_pow_right (by decide) hn)
theorem fr_one {n : Nat} {a : Int} (h : 0 < a) (l : a < 2 ^ n) (hn : 1 ≤ n) : Fr n a 1 := ⟨h, by decide, gcdI_one, fr_lt h l, Nat.lt_of_lt_of_le (by decide : (1 : Int).natAbs < 2 ^ 1) (Nat.pow_le_pow_right (by decide) hn)⟩
theorem fr_drawn {a b : Int} (ha : 0 < a) (hb : 0 < b) (la : a ≤ 10 ^ 20) (lb : b ≤ 10 ^ 20) : Fr 70 (a / gcdI a b) (b / gcdI a b) :=
  fr_low ha hb (fr_lt ha (Int.lt_of_le_of_lt la (by decide))) (fr_lt hb (Int.lt_of_le_of_lt lb (by decide)))
theorem scPart : FnScope ["_law_pool_here", "_law_great", "_law_way", "_law_most"] ["_law_pool_here", "_law_great"] (defScope s_l_part) := ⟨rfl, rfl, rfl, by decide +kernel, rfl, by decide +kernel, by decide +kernel⟩
def spPart : Sp := fun vs H Q _ => ∃ (p : Addr) (g : Bool), vs = [.ref p, .bl g] ∧ Pool H p ∧ ∀ t a b H', Keep p H H' → Pool H' p → H t = none → FrAt 70 H' t a b → Q (.ref t) H'
theorem ok_part {g1 g2 : Addr} {gd1 gd2 : FuncData} (F : Fun K "_law_part" "_law_part" s_l_part f fd)
    (G1 : FnOk P w K mg base CX0 2 g1 gd1 ["_law_pool_here", "_law_most"] spDraw) (b1 : Binds K gd1 ["_law_pool_here", "_law_most"] []) (k1 : PySem.W.keepIn K (.ref g1) = true) (m1 : mg "_law_draw" = some (.ref g1))
    (G2 : FnOk P w K mg base CX0 2 g2 gd2 ["_law_high_part", "_law_low_part"] spLow) (b2 : Binds K gd2 ["_law_high_part", "_law_low_part"] []) (k2 : PySem.W.keepIn K (.ref g2) = true) (m2 : mg "_law_low" = some (.ref g2)) :
    FnOk P w K mg base CX0 3 f fd ["_law_pool_here", "_law_great"] spPart := by
  refine F.ok scPart (fun vs H Q E h => ?_) (fun cdv A outer s H vs Q E hr h => ?_)
  · obtain ⟨p, g, rfl, _⟩ := h
    rfl
  obtain ⟨p, g, rfl, hp, q⟩ := h
  have l1 : ∀ n : Nat, n ≤ 1000 → n ≤ sizeLine := fun n h => Nat.le_of_lt (small1000 h)
  refine ⟨_, pss_cons (ps_set (i := 2) scPart.nd rfl (.inl rfl) (pe_call G1 hr rfl m1 k1 b1 .nil pass0 (pa_cons (pv 0) (pa_cons pe_int pa_nil))))
    (pss_cons (ps_if (pt_cmpR op_lt (pv 2) pe_int (nomark _))
      (pss_one (ps_ret (pe_tup (pa_cons (pe_op op_add pe_int (pe_call G1 hr rfl m1 k1 b1 .nil pass0 (pa_cons (pv 0) (pa_cons (pe_ix ix_list (pe_lst (pa_cons pe_int (pa_cons pe_int pa_nil))) (pv 2) (fun _ _ => rfl)) pa_nil)))) (pa_cons pe_int pa_nil))))) pss_nil)
    (pss_cons (ps_set (i := 3) scPart.nd rfl (.inl rfl) (pe_ix ix_list (pe_lst (pa_cons pe_int (pa_cons pe_int (pa_cons (pe_op op_pow pe_int pe_int) (pa_cons (pe_ifExp (pt_val (pv 1)) (pe_op op_pow pe_int pe_int) pe_int) pa_nil))))) (pe_op op_sub (pv 2) pe_int) (fun _ _ => rfl)))
    (pss_one (ps_ret (pe_call G2 hr rfl m2 k2 b2 .nil pass0 (pa_cons (pe_op op_add pe_int (pe_call G1 hr rfl m1 k1 b1 .nil pass0 (pa_cons (pv 0) (pa_cons (pv 3) pa_nil)))) (pa_cons (pe_op op_add pe_int (pe_call G1 hr rfl m1 k1 b1 .nil pass0 (pa_cons (pv 0) (pa_cons (pv 3) pa_nil)))) pa_nil))))))), ?_⟩
  refine ⟨_, rfl, p, 6, rfl, hp, big_of 8 (by decide) (by decide) (by decide), fun r H1 kp hp1 r0 r6 => ?_⟩
  refine ⟨_, rfl, _, _, rfl, rfl, _, rfl, ?_⟩
  refine ite2 (fun c => ?_) (fun c => ?_)
  · have c' : r < 2 := of_decide_eq_true c
    refine ⟨_, rfl, l1 2 (by decide), fun L nL => ?_⟩
    have s1 := same_upd (o := .lst [.int 12, .int 2000]) nL
    obtain ⟨v, ev, vv⟩ := at2 (x0 := .int 12) (x1 := .int 2000) r0 c'
    have vi : ∃ m : Int, v = .int m ∧ 0 < m ∧ m ≤ 2000 := by
      rcases vv with rfl | rfl
      · exact ⟨_, rfl, by decide, by decide⟩
      · exact ⟨_, rfl, by decide, by decide⟩
    obtain ⟨m, rfl, m0, m1⟩ := vi
    refine ⟨_, rfl, L, _, _, _, rfl, rfl, SqL.of upd_same, ev, p, m, rfl, hp1.same s1, big_of 20 m0 (Int.lt_of_le_of_lt m1 (by decide)) (by decide), fun z H2 kp2 hp2 z0 z1 => ?_⟩
    refine ⟨_, _, rfl, rfl, l1 2 (by decide), fun t nt => ?_⟩
    have s2 := same_upd (o := .tup [.int (1 + z), .int 1]) nt
    have kall := kp.trans ((Same.keep s1 p).trans kp2)
    have ntp : H t = none := by
      refine Option.eq_none_iff_forall_ne_some.mpr fun o e => ?_
      by_cases ep : t = p
      · subst ep
        obtain ⟨_, _, _, e2, _⟩ := hp2
        rw [nt] at e2
        cases e2
      · have := kall t o ep e
        rw [nt] at this
        cases this
    exact q t (1 + z) 1 _ (kall.trans (Same.keep s2 p)) (hp2.same s2) ntp ⟨upd_same, fr_one (by omega) (Int.lt_of_le_of_lt (show 1 + z ≤ 2000 by omega) (by decide)) (by decide)⟩
  · have c' : ¬ r < 2 := of_decide_eq_false (Bool.eq_false_iff.mpr c)
    -- the list of four, its last by the flag
    have go : ∀ (mm : Int), 0 < mm → mm ≤ 10 ^ 20 → ∀ L, H1 L = none →
        ∃ m : Int, atI [V.int 12, .int 60, .int (10 ^ 6), .int mm] (r - 2) = some (.int m) ∧ 0 < m ∧ m ≤ 10 ^ 20 := by
      intro mm h0 h1 L nL
      obtain ⟨v, ev, vv⟩ := at4 (x0 := .int 12) (x1 := .int 60) (x2 := .int (10 ^ 6)) (x3 := .int mm) (show 0 ≤ r - 2 by omega) (by omega)
      rcases vv with rfl | rfl | rfl | rfl
      · exact ⟨_, ev, by decide, by decide⟩
      · exact ⟨_, ev, by decide, by decide⟩
      · exact ⟨_, ev, by decide, by decide⟩
      · exact ⟨_, ev, h0, h1⟩
    have fin : ∀ (m : Int) (L : Addr) (o : HO), 0 < m → m ≤ 10 ^ 20 → H1 L = none →
        ∀ z1 H2, Keep p (upd H1 L o) H2 → Pool H2 p → 0 ≤ z1 → z1 < m → ∀ z2 H3, Keep p H2 H3 → Pool H3 p → 0 ≤ z2 → z2 < m →
        ∀ t, H3 t = none → Q (.ref t) (upd H3 t (lowT (1 + z1) (1 + z2))) := by
      intro m L o m0 m1 nL z1 H2 k2 p2 z10 z11 z2 H3 k3 p3 z20 z21 t nt
      have kall := kp.trans ((Same.keep (same_upd (o := o) nL) p).trans (k2.trans k3))
      have ntp : H t = none := by
        refine Option.eq_none_iff_forall_ne_some.mpr fun o e => ?_
        by_cases ep : t = p
        · subst ep
          obtain ⟨_, _, _, e2, _⟩ := p3
          rw [nt] at e2
          cases e2
        · have := kall t o ep e
          rw [nt] at this
          cases this
      have s2 := same_upd (o := lowT (1 + z1) (1 + z2)) nt
      exact q t _ _ _ (kall.trans (Same.keep s2 p)) (p3.same s2) ntp ⟨upd_same, fr_drawn (by omega) (by omega) (by omega) (by omega)⟩
    refine ⟨_, _, rfl, rfl, ⟨by decide, by decide, by decide⟩, _, rfl, _, rfl, ?_⟩
    cases g with
    | true =>
      refine iteT ⟨_, _, rfl, rfl, ⟨by decide, by decide, by decide⟩, l1 4 (by decide), fun L nL => ?_⟩
      obtain ⟨m, em, m0, m1⟩ := go (10 ^ 20) (by decide) (by decide) L nL
      refine ⟨_, rfl, _, _, rfl, rfl, L, _, _, _, rfl, rfl, SqL.of upd_same, em, ?_⟩
      refine ⟨_, rfl, _, rfl, p, m, rfl, hp1.same (same_upd nL), big_of 70 m0 (Int.lt_of_le_of_lt m1 (by decide)) (by decide), fun z1 H2 k2 p2 z10 z11 => ⟨_, _, rfl, rfl, ?_⟩⟩
      refine ⟨_, rfl, _, rfl, p, m, rfl, p2, big_of 70 m0 (Int.lt_of_le_of_lt m1 (by decide)) (by decide), fun z2 H3 k3 p3 z20 z21 => ⟨_, _, rfl, rfl, ?_⟩⟩
      exact ⟨1 + z1, 1 + z2, rfl, big_of 70 (by omega) (Int.lt_of_le_of_lt (show 1 + z1 ≤ 10 ^ 20 by omega) (by decide)) (by decide), by omega, fin m L _ m0 m1 nL z1 H2 k2 p2 z10 z11 z2 H3 k3 p3 z20 z21⟩
    | false =>
      refine iteF ⟨l1 4 (by decide), fun L nL => ?_⟩
      obtain ⟨m, em, m0, m1⟩ := go 90 (by decide) (by decide) L nL
      refine ⟨_, rfl, _, _, rfl, rfl, L, _, _, _, rfl, rfl, SqL.of upd_same, em, ?_⟩
      refine ⟨_, rfl, _, rfl, p, m, rfl, hp1.same (same_upd nL), big_of 70 m0 (Int.lt_of_le_of_lt m1 (by decide)) (by decide), fun z1 H2 k2 p2 z10 z11 => ⟨_, _, rfl, rfl, ?_⟩⟩
      refine ⟨_, rfl, _, rfl, p, m, rfl, p2, big_of 70 m0 (Int.lt_of_le_of_lt m1 (by decide)) (by decide), fun z2 H3 k3 p3 z20 z21 => ⟨_, _, rfl, rfl, ?_⟩⟩
      exact ⟨1 + z1, 1 + z2, rfl, big_of 70 (by omega) (Int.lt_of_le_of_lt (show 1 + z1 ≤ 10 ^ 20 by omega) (by decide)) (by decide), by omega, fin m L _ m0 m1 nL z1 H2 k2 p2 z10 z11 z2 H3 k3 p3 z20 z21⟩
end
/-! ### law_ops.lean -/
section
variable {P : Program} {w : World} {K : PySem.W.Frag} {mg : Str → Option Value} {base : Heap} {f : Addr} {fd : FuncData}
/-! the law's own products, quotients, comparisons -/
theorem scLMul : FnScope ["_law_lead", "_law_more"] ["_law_lead", "_law_more"] (defScope s_l_mul) := ⟨rfl, rfl, rfl, by decide +kernel, rfl, by decide +kernel, by decide +kernel⟩
def spLMul : Sp := fun vs H Q _ => ∃ p q a b c d, vs = [.ref p, .ref q] ∧ FrAt 3900 H p a b ∧ FrAt 3900 H q c d ∧ ∀ t, H t = none → Q (.ref t) (upd H t (lowT (a * c) (b * d)))
theorem ok_lmul {g2 : Addr} {gd2 : FuncData} (F : Fun K "_law_mul" "_law_mul" s_l_mul f fd)
    (G2 : FnOk P w K mg base CX0 2 g2 gd2 ["_law_high_part", "_law_low_part"] spLow) (b2 : Binds K gd2 ["_law_high_part", "_law_low_part"] []) (k2 : PySem.W.keepIn K (.ref g2) = true) (m2 : mg "_law_low" = some (.ref g2)) :
    FnOk P w K mg base CX0 3 f fd ["_law_lead", "_law_more"] spLMul := by
  refine F.ok scLMul (fun vs H Q E h => ?_) (fun cdv A outer s H vs Q E hr h => ?_)
  · obtain ⟨p, q, a, b, c, d, rfl, _⟩ := h
    rfl
  obtain ⟨p, q, a, b, c, d, rfl, hp, hq, k⟩ := h
  refine ⟨_, pss_one (ps_ret (pe_call G2 hr rfl m2 k2 b2 .nil pass0 (pa_cons (pe_op op_mulW (pe_ix ix_tup (pv 0) pe_int (fun _ _ => rfl)) (pe_ix ix_tup (pv 1) pe_int (fun _ _ => rfl))) (pa_cons (pe_op op_mulW (pe_ix ix_tup (pv 0) pe_int (fun _ _ => rfl)) (pe_ix ix_tup (pv 1) pe_int (fun _ _ => rfl))) pa_nil)))), ?_⟩
  have hp1 := hp.seq (K := K)
  have hq1 := hq.seq (K := K)
  refine ⟨_, rfl, p, _, _, _, rfl, rfl, hp1, rfl, _, rfl, q, _, _, _, rfl, rfl, hq1, rfl, _, _, rfl, rfl, mulW hp.2.al hq.2.al, ?_⟩
  refine ⟨_, rfl, p, _, _, _, rfl, rfl, hp1, rfl, _, rfl, q, _, _, _, rfl, rfl, hq1, rfl, _, _, rfl, rfl, mulW hp.2.bl hq.2.bl, ?_⟩
  exact ⟨a * c, b * d, rfl, big_mul hp.2.a0 hq.2.a0 hp.2.al hq.2.al, mul_pos hp.2.b0 hq.2.b0, fun u hu => k u hu⟩
/-! ### law_div.lean -/
theorem scLDiv : FnScope ["_law_lead", "_law_more"] ["_law_lead", "_law_more"] (defScope s_l_div) := ⟨rfl, rfl, rfl, by decide +kernel, rfl, by decide +kernel, by decide +kernel⟩
def spLDiv : Sp := fun vs H Q _ => ∃ p q a b c d, vs = [.ref p, .ref q] ∧ FrAt 3900 H p a b ∧ FrAt 3900 H q c d ∧ ∀ t, H t = none → Q (.ref t) (upd H t (lowT (a * d) (b * c)))
theorem ok_ldiv {g2 : Addr} {gd2 : FuncData} (F : Fun K "_law_div" "_law_div" s_l_div f fd)
    (G2 : FnOk P w K mg base CX0 2 g2 gd2 ["_law_high_part", "_law_low_part"] spLow) (b2 : Binds K gd2 ["_law_high_part", "_law_low_part"] []) (k2 : PySem.W.keepIn K (.ref g2) = true) (m2 : mg "_law_low" = some (.ref g2)) :
    FnOk P w K mg base CX0 3 f fd ["_law_lead", "_law_more"] spLDiv := by
  refine F.ok scLDiv (fun vs H Q E h => ?_) (fun cdv A outer s H vs Q E hr h => ?_)
  · obtain ⟨p, q, a, b, c, d, rfl, _⟩ := h
    rfl
  obtain ⟨p, q, a, b, c, d, rfl, hp, hq, k⟩ := h
  refine ⟨_, pss_one (ps_ret (pe_call G2 hr rfl m2 k2 b2 .nil pass0 (pa_cons (pe_op op_mulW (pe_ix ix_tup (pv 0) pe_int (fun _ _ => rfl)) (pe_ix ix_tup (pv 1) pe_int (fun _ _ => rfl))) (pa_cons (pe_op op_mulW (pe_ix ix_tup (pv 0) pe_int (fun _ _ => rfl)) (pe_ix ix_tup (pv 1) pe_int (fun _ _ => rfl))) pa_nil)))), ?_⟩
  have hp1 := hp.seq (K := K)
  have hq1 := hq.seq (K := K)
  refine ⟨_, rfl, p, _, _, _, rfl, rfl, hp1, rfl, _, rfl, q, _, _, _, rfl, rfl, hq1, rfl, _, _, rfl, rfl, mulW hp.2.al hq.2.bl, ?_⟩
  refine ⟨_, rfl, p, _, _, _, rfl, rfl, hp1, rfl, _, rfl, q, _, _, _, rfl, rfl, hq1, rfl, _, _, rfl, rfl, mulW hp.2.bl hq.2.al, ?_⟩
  exact ⟨a * d, b * c, rfl, big_mul hp.2.a0 hq.2.b0 hp.2.al hq.2.bl, mul_pos hp.2.b0 hq.2.a0, fun u hu => k u hu⟩
/-! ### law_less.lean -/
theorem scLLess : FnScope ["_law_lead", "_law_more"] ["_law_lead", "_law_more"] (defScope s_l_less) := ⟨rfl, rfl, rfl, by decide +kernel, rfl, by decide +kernel, by decide +kernel⟩
def spLLess : Sp := fun vs H Q _ => ∃ p q a b c d, vs = [.ref p, .ref q] ∧ FrAt 3900 H p a b ∧ FrAt 3900 H q c d ∧ Q (.bl (decide (a * d < c * b))) H
theorem ok_lless (F : Fun K "_law_less" "_law_less" s_l_less f fd) : FnOk P w K mg base CX0 2 f fd ["_law_lead", "_law_more"] spLLess := by
  refine F.ok scLLess (fun vs H Q E h => ?_) (fun cdv A outer s H vs Q E hr h => ?_)
  · obtain ⟨p, q, a, b, c, d, rfl, _⟩ := h
    rfl
  obtain ⟨p, q, a, b, c, d, rfl, hp, hq, k⟩ := h
  refine ⟨_, pss_one (ps_ret (pe_cmpR op_lt (pe_op op_mulW (pe_ix ix_tup (pv 0) pe_int (fun _ _ => rfl)) (pe_ix ix_tup (pv 1) pe_int (fun _ _ => rfl))) (pe_op op_mulW (pe_ix ix_tup (pv 1) pe_int (fun _ _ => rfl)) (pe_ix ix_tup (pv 0) pe_int (fun _ _ => rfl))) (nomark _))), ?_⟩
  have hp1 := hp.seq (K := K)
  have hq1 := hq.seq (K := K)
  refine ⟨_, rfl, p, _, _, _, rfl, rfl, hp1, rfl, _, rfl, q, _, _, _, rfl, rfl, hq1, rfl, _, _, rfl, rfl, mulW hp.2.al hq.2.bl, ?_⟩
  refine ⟨_, rfl, q, _, _, _, rfl, rfl, hq1, rfl, _, rfl, p, _, _, _, rfl, rfl, hp1, rfl, _, _, rfl, rfl, mulW hq.2.al hp.2.bl, ?_⟩
  exact ⟨_, _, rfl, rfl, k⟩
/-! ### k04_told.lean -/
theorem sgn_neg (l r : Int) : 0 - sgn l r = sgn r l := by
  unfold sgn
  split <;> split <;> omega
theorem sgn_small (l r : Int) : (sgn l r).natAbs < 2 ^ 1900 := by
  have : sgn l r = -1 ∨ sgn l r = 0 ∨ sgn l r = 1 := by
    unfold sgn
    split
    · exact .inl rfl
    · split
      · exact .inr (.inr rfl)
      · exact .inr (.inl rfl)
  rcases this with h | h | h <;> rw [h] <;> decide
theorem intsD {K : PySem.W.Frag} {H : Hp} {p : Addr} {a b c d : Int} (h : H p = some (.lst [.int a, .int b, .int c, .int d])) : Dp K H (.ref p) (.list [.int a, .int b, .int c, .int d]) := .lst (SqL.of h) (.cons (.int _) (.cons (.int _) (.cons (.int _) (.cons (.int _) .nil))))
theorem lowT_rev {a b c d x y : Int} (h : lowT (c * b) (d * a) = .tup [.int x, .int y]) : lowT (a * d) (b * c) = .tup [.int y, .int x] := by
  unfold lowT at h ⊢
  cases h
  rw [Int.mul_comm a d, Int.mul_comm b c, gcdI_comm (d * a) (c * b)]
theorem scTold4 : FnScope ["_law_lead", "_law_more", "_law_sign", "_law_told"] ["_law_lead", "_law_more"] (defScope s_l_told_right) := ⟨rfl, rfl, rfl, by decide +kernel, rfl, by decide +kernel, by decide +kernel⟩
def tSgn : TE := fun σ H Q => ∃ p q a b c d, σ[0]? = some (some (.ref p)) ∧ σ[1]? = some (some (.ref q)) ∧ FrAt 3900 H p a b ∧ FrAt 3900 H q c d ∧ Q (.int (sgn (a * d) (c * b))) H
def spTold4 : Sp := fun vs H Q _ => ∃ p q a b c d, vs = [.ref p, .ref q] ∧ FrAt 900 H p a b ∧ FrAt 900 H q c d ∧ ∀ H', Same H H' → Q (.bl true) H'
theorem FrAt.up {n m : Nat} {H : Hp} {p : Addr} {a b : Int} (h : FrAt n H p a b) (le : n ≤ m) : FrAt m H p a b := ⟨h.1, h.2.up le⟩
theorem mid_prod {a b : Int} (a0 : 0 < a) (b0 : 0 < b) (ha : a.natAbs < 2 ^ 900) (hb : b.natAbs < 2 ^ 900) : mid (a * b) := ⟨mul_pos a0 b0, Nat.lt_of_lt_of_le (wide_lt ha hb) (Nat.pow_le_pow_right (by decide) (by decide))⟩
theorem ok_told4 {g1 g2 g3 g4 : Addr} {gd1 gd2 gd3 gd4 : FuncData} (F : Fun K "_law_told_right" "_law_told_right" s_l_told_right f fd) (mr : mg "repr" = none) (mi : mg "int" = none)
    (G1 : FnG P w K mg base CX0 2 g1 gd1 ["_law_lead", "_law_more"] spLLess) (b1 : Binds K gd1 ["_law_lead", "_law_more"] []) (k1 : PySem.W.keepIn K (.ref g1) = true) (m1 : mg "_law_less" = some (.ref g1))
    (G2 : FnG P w K mg base CX0 5 g2 gd2 ["one", "other"] spComp) (b2 : Binds K gd2 ["one", "other"] []) (T2 : TwoCalls K gd2) (k2 : PySem.W.keepIn K (.ref g2) = true) (m2 : mg "compare" = some (.ref g2))
    (G3 : FnG P w K mg base CX0 5 g3 gd3 ["one", "other"] spQuot) (b3 : Binds K gd3 ["one", "other"] []) (T3 : TwoCalls K gd3) (k3 : PySem.W.keepIn K (.ref g3) = true) (m3 : mg "quotient" = some (.ref g3))
    (G4 : FnG P w K mg base CX0 3 g4 gd4 ["_law_lead", "_law_more"] spLDiv) (b4 : Binds K gd4 ["_law_lead", "_law_more"] []) (k4 : PySem.W.keepIn K (.ref g4) = true) (m4 : mg "_law_div" = some (.ref g4)) :
    FnG P w K mg base CX0 6 f fd ["_law_lead", "_law_more"] spTold4 := by
  refine okG F scTold4 (fun vs H Q E h => ?_) (fun cdv A outer s H vs Q E hg hr h => ?_)
  · obtain ⟨p, q, a, b, c, d, rfl, _⟩ := h
    rfl
  obtain ⟨p, q, a, b, c, d, rfl, hp0, hq0, k⟩ := h
  have r1 : Room 2 _ := hr.mono (by decide)
  have r2 : Room 3 _ := hr.mono (by decide)
  have l1 : ∀ n : Nat, n ≤ 1000 → n ≤ sizeLine := fun n h => Nat.le_of_lt (small1000 h)
  refine ⟨_, pss_cons (ps_set (i := 2) scTold4.nd rfl (.inl rfl) (pe_weak (t' := tSgn) (pe_ifExp (pt_val (callG G1 hg r1 rfl m1 k1 b1 .nil pass0 (pa_cons (pv 0) (pa_cons (pv 1) pa_nil)))) (pe_op op_sub pe_int pe_int)
      (pe_callTy call_int1 (by rfl) mi (by decide +kernel) (pa_cons (callG G1 hg r1 rfl m1 k1 b1 .nil pass0 (pa_cons (pv 1) (pa_cons (pv 0) pa_nil))) pa_nil))) (by
        rintro sl H Q ⟨p, q, a, b, c, d, e0, e1, hp, hq, k⟩
        refine ⟨_, e0, _, e1, p, q, a, b, c, d, rfl, hp, hq, _, rfl, ?_⟩
        unfold sgn at k
        by_cases h1 : a * d < c * b
        · rw [if_pos h1] at k
          rw [decide_eq_true h1]
          exact iteT ⟨_, _, rfl, rfl, k⟩
        · rw [if_neg h1] at k
          rw [decide_eq_false h1]
          refine iteF ⟨_, e1, _, e0, q, p, c, d, a, b, rfl, hq, hp, .inr ⟨_, rfl, ?_⟩⟩
          by_cases h2 : c * b < a * d
          · rw [if_pos h2] at k
            rw [decide_eq_true h2]
            exact k
          · rw [if_neg h2] at k
            rw [decide_eq_false h2]
            exact k)))
    (pss_cons (ps_set (i := 3) scTold4.nd rfl (.inl rfl) (pe_lst
      (pa_cons (callG G2 hg hr rfl m2 k2 b2 .nil pass0 (pa_cons (pv 0) (pa_cons (pv 1) pa_nil)))
      (pa_cons (callGK G2 hg hr rfl m2 k2 T2.oo pass0 (pk_cons (pv 1) (pk_cons (pv 0) pk_nil)))
      (pa_cons (callGN G2 hg hr rfl m2 k2 T2.o1 pass0 (pa_cons (pv 0) pa_nil) (pk_cons (pv 1) pk_nil))
      (pa_cons (pe_op op_sub pe_int (callG G2 hg hr rfl m2 k2 b2 .nil pass0 (pa_cons (pv 1) (pa_cons (pv 0) pa_nil)))) pa_nil))))))
    (pss_cons (ps_if (pt_cmpR op_ne (pe_callB (reprData hg (roomR hr)) (by rfl) mr PyProof.Rows.boot_repr (pa_cons (pv 3) pa_nil)) (pe_callB (reprData hg (roomR hr)) (by rfl) mr PyProof.Rows.boot_repr (pa_cons (pe_op op_rep (pe_lst (pa_cons (pv 2) pa_nil)) pe_int) pa_nil)) (nomark _))
      (pss_one (ps_ret pe_bl)) pss_nil)
    (pss_cons (ps_set (i := 3) scTold4.nd rfl (.inl rfl) (pe_lst
      (pa_cons (callG G3 hg hr rfl m3 k3 b3 .nil pass0 (pa_cons (pv 0) (pa_cons (pv 1) pa_nil)))
      (pa_cons (callGK G3 hg hr rfl m3 k3 T3.oo pass0 (pk_cons (pv 1) (pk_cons (pv 0) pk_nil)))
      (pa_cons (callG G3 hg hr rfl m3 k3 b3 .nil pass0 (pa_cons (pv 0) (pa_cons (pv 1) pa_nil)))
      (pa_cons (pe_rev2 (callG G3 hg hr rfl m3 k3 b3 .nil pass0 (pa_cons (pv 1) (pa_cons (pv 0) pa_nil)))) pa_nil))))))
    (pss_one (ps_ret (pe_cmpR op_eq (pe_callB (reprData hg (roomR hr)) (by rfl) mr PyProof.Rows.boot_repr (pa_cons (pv 3) pa_nil))
      (pe_callB (reprData hg (roomR hr)) (by rfl) mr PyProof.Rows.boot_repr (pa_cons (pe_op op_rep (pe_lst (pa_cons (callG G4 hg r2 rfl m4 k4 b4 .nil pass0 (pa_cons (pv 0) (pa_cons (pv 1) pa_nil))) pa_nil)) pe_int) pa_nil)) (nomark _))))))), ?_⟩
  have hp := hp0.up (m := 3900) (by decide)
  have hq := hq0.up (m := 3900) (by decide)
  have e4 := sgn_neg (c * b) (a * d)
  refine ⟨p, q, a, b, c, d, rfl, rfl, hp, hq, ?_⟩
  refine ⟨_, rfl, _, rfl, p, q, a, b, c, d, rfl, hp, hq, fun H1 s1 => ?_⟩
  have hp1 := hp.same s1
  have hq1 := hq.same s1
  refine ⟨_, rfl, _, rfl, rfl, rfl, p, q, a, b, c, d, rfl, hp1, hq1, fun H2 s2 => ?_⟩
  have hp2 := hp1.same s2
  have hq2 := hq1.same s2
  refine ⟨_, rfl, _, rfl, rfl, rfl, p, q, a, b, c, d, rfl, hp2, hq2, fun H3 s3 => ?_⟩
  have hp3 := hp2.same s3
  have hq3 := hq2.same s3
  refine ⟨_, rfl, _, rfl, q, p, c, d, a, b, rfl, hq3, hp3, fun H4 s4 => ?_⟩
  have hp4 := hp3.same s4
  have hq4 := hq3.same s4
  refine ⟨_, _, rfl, rfl, l1 4 (by decide), fun L nL => ?_⟩
  have s5 := same_upd (o := .lst [.int (sgn (a * d) (c * b)), .int (sgn (a * d) (c * b)), .int (sgn (a * d) (c * b)), .int (0 - sgn (c * b) (a * d))]) nL
  have w1 := Sm.int (sgn_small (a * d) (c * b))
  have w2 := Sm.int (i := 0 - sgn (c * b) (a * d)) (by rw [e4]; exact sgn_small _ _)
  refine ⟨_, rfl, repQ (intsD upd_same) rfl (Sm.lst (SmL.cons w1 (SmL.cons w1 (SmL.cons w1 (SmL.cons w2 SmL.nil))))) (by decide) (by decide) ?_⟩
  refine ⟨_, rfl, l1 1 (by decide), fun M nM => ?_⟩
  refine ⟨M, 4, _, rfl, rfl, upd_same, by decide, by decide, l1 4 (by decide), fun N nN => ?_⟩
  have s6 := fun o => same_upd (o := o) nM
  have s7 := fun o => same_upd (o := o) nN
  refine repQ (intsD upd_same) rfl (Sm.lst (SmL.cons w1 (SmL.cons w1 (SmL.cons w1 (SmL.cons w1 SmL.nil))))) (by decide) (by decide) ?_
  refine ⟨rfl, _, rfl, iteNS (by rw [e4]) ?_⟩
  -- the quotients
  have s57 := s5.trans ((s6 (.lst [.int (sgn (a * d) (c * b))])).trans (s7 (.lst [.int (sgn (a * d) (c * b)), .int (sgn (a * d) (c * b)), .int (sgn (a * d) (c * b)), .int (sgn (a * d) (c * b))])))
  have hp5 := hp4.same s57
  have hq5 := hq4.same s57
  refine ⟨_, rfl, _, rfl, p, q, a, b, c, d, rfl, hp5, hq5, fun G1' t1 g1 n1 d1 => ?_⟩
  have hp6 := hp5.same g1
  have hq6 := hq5.same g1
  refine ⟨_, rfl, _, rfl, rfl, rfl, p, q, a, b, c, d, rfl, hp6, hq6, fun G2' t2 g2 n2 d2 => ?_⟩
  have hp7 := hp6.same g2
  have hq7 := hq6.same g2
  refine ⟨_, rfl, _, rfl, p, q, a, b, c, d, rfl, hp7, hq7, fun G3' t3 g3 n3 d3 => ?_⟩
  have hp8 := hp7.same g3
  have hq8 := hq7.same g3
  refine ⟨_, rfl, _, rfl, q, p, c, d, a, b, rfl, hq8, hp8, fun G4' t4 g4 n4 d4 => ?_⟩
  have hp9 := hp8.same g4
  have hq9 := hq8.same g4
  refine ⟨t4, _, _, rfl, .inl (.inl d4), fun t5 n5 => ?_⟩
  have e5 : ∀ G, upd G4' t5 (.tup [V.int (d * a / gcdI (c * b) (d * a)), V.int (c * b / gcdI (c * b) (d * a))]) t5 = some G → some G = some (lowT (a * d) (b * c)) := fun G h => by
    rw [lowT_rev (x := c * b / gcdI (c * b) (d * a)) (y := d * a / gcdI (c * b) (d * a)) rfl, ← h]
    exact upd_same
  have d5 : upd G4' t5 (.tup [V.int (d * a / gcdI (c * b) (d * a)), V.int (c * b / gcdI (c * b) (d * a))]) t5 = some (lowT (a * d) (b * c)) := upd_same.trans (e5 _ upd_same)
  have g5 := same_upd (o := .tup [V.int (d * a / gcdI (c * b) (d * a)), V.int (c * b / gcdI (c * b) (d * a))]) n5
  refine ⟨l1 4 (by decide), fun L2' nL2 => ?_⟩
  have g6 := same_upd (o := .lst [.ref t1, .ref t2, .ref t3, .ref t5]) nL2
  have m1 := mid_prod hp0.2.a0 hq0.2.b0 hp0.2.al hq0.2.bl
  have m2 := mid_prod hp0.2.b0 hq0.2.a0 hp0.2.bl hq0.2.al
  have ll := lowD_sm m1 m2
  have smq := Sm.lst (SmL.cons ll (SmL.cons ll (SmL.cons ll (SmL.cons ll SmL.nil))))
  have dp4 : Dp K _ (.ref L2') (.list [lowD (a * d) (b * c), lowD (a * d) (b * c), lowD (a * d) (b * c), lowD (a * d) (b * c)]) := .lst (SqL.of upd_same) (.cons (lowT_dp (g6 _ _ (g5 _ _ (g4 _ _ (g3 _ _ (g2 _ _ d1)))))) (.cons (lowT_dp (g6 _ _ (g5 _ _ (g4 _ _ (g3 _ _ d2))))) (.cons (lowT_dp (g6 _ _ (g5 _ _ (g4 _ _ d3)))) (.cons (lowT_dp (g6 _ _ d5)) .nil))))
  refine ⟨_, rfl, repQ dp4 rfl smq (by decide) (by decide) ?_⟩
  refine ⟨_, rfl, _, rfl, p, q, a, b, c, d, rfl, (hp9.same g5).same g6, (hq9.same g5).same g6, fun u nu => ?_⟩
  have g7 := same_upd (o := lowT (a * d) (b * c)) nu
  refine ⟨l1 1 (by decide), fun M2 nM2 => ?_⟩
  have g8 := same_upd (o := .lst [.ref u]) nM2
  refine ⟨M2, 4, _, rfl, rfl, upd_same, by decide, by decide, l1 4 (by decide), fun N2 nN2 => ?_⟩
  have g9 := same_upd (o := .lst [.ref u, .ref u, .ref u, .ref u]) nN2
  have eu := lowT_dp (K := K) (g9 _ _ (g8 _ _ (upd_same (o := lowT (a * d) (b * c)))))
  have dq4 : Dp K _ (.ref N2) (.list [lowD (a * d) (b * c), lowD (a * d) (b * c), lowD (a * d) (b * c), lowD (a * d) (b * c)]) := .lst (SqL.of upd_same) (.cons eu (.cons eu (.cons eu (.cons eu .nil))))
  refine repQ dq4 rfl smq (by decide) (by decide) ?_
  refine ⟨rfl, ?_⟩
  rw [decide_eq_true rfl]
  exact k _ (s1.trans (s2.trans (s3.trans (s4.trans (s57.trans (g1.trans (g2.trans (g3.trans (g4.trans (g5.trans (g6.trans (g7.trans (g8.trans g9)))))))))))))
end
/-! ### k04_right.lean -/
section
variable {P : Program} {w : World} {K : PySem.W.Frag} {mg : Str → Option Value} {base : Heap} {f : Addr} {fd : FuncData}
theorem all_true (n : Nat) : (List.replicate n true).all id = true := by rw [List.all_replicate]; cases n <;> rfl
theorem rep_bl (n : Nat) : (List.replicate n true).map V.bl = List.replicate n (V.bl true) := List.map_replicate
theorem rep_snoc (n : Nat) (v : V) : List.replicate n v ++ [v] = List.replicate (n + 1) v := List.replicate_succ'.symm
/-- a pair of fractions -/
def PairFr (n : Nat) (H : Hp) (v : V) : Prop := ∃ t p q a b c d, v = .ref t ∧ H t = some (.tup [.ref p, .ref q]) ∧ FrAt n H p a b ∧ FrAt n H q c d
theorem PairFr.same {n : Nat} {H H' : Hp} {v : V} (h : PairFr n H v) (s : Same H H') : PairFr n H' v := by
  obtain ⟨t, p, q, a, b, c, d, e, h1, h2, h3⟩ := h
  exact ⟨t, p, q, a, b, c, d, e, s _ _ h1, h2.same s, h3.same s⟩
theorem gcdI_succ (h : Int) : gcdI h (h + 1) = 1 := by
  unfold gcdI
  have d : ((Int.gcd h (h + 1) : Nat) : Int) ∣ 1 := by
    have := Int.dvd_sub (Int.gcd_dvd_right h (h + 1)) (Int.gcd_dvd_left h (h + 1))
    rwa [show h + 1 - h = 1 by omega] at this
  exact Int.eq_one_of_dvd_one (by omega) d
theorem fr_succ {n : Nat} {h : Int} (h0 : 0 < h) (l : h.natAbs < 2 ^ n) (hn : 1 ≤ n) : Fr (n + 1) h (h + 1) := by
  have e : 2 ^ (n + 1) = 2 ^ n * 2 := Nat.pow_succ ..
  have p : 2 ^ 1 ≤ 2 ^ n := Nat.pow_le_pow_right (by decide) hn
  exact ⟨h0, by omega, gcdI_succ h, by omega, by omega⟩
theorem scRight4 : FnScope ["_law_pool_here", "_law_turn", "_law_lead", "_law_more", "_law_high", "_law_near", "_law_pairs", "_law_pair"] ["_law_pool_here"] (defScope s_l_right) := ⟨rfl, rfl, rfl, by decide +kernel, rfl, by decide +kernel, by decide +kernel⟩
def spRight : Sp := fun vs H Q _ => ∃ (p : Addr), vs = [.ref p] ∧ Pool H p ∧ ∀ H', Keep p H H' → Pool H' p → Q (.bl true) H'
theorem ok_right4 {g1 g2 g3 g4 g5 : Addr} {gd1 gd2 gd3 gd4 gd5 : FuncData} (F : Fun K "_law_right" "_law_right" s_l_right f fd) (mr : mg "range" = none) (ma : mg "all" = none)
    (G1 : FnOk P w K mg base CX0 3 g1 gd1 ["_law_pool_here", "_law_great"] spPart) (b1 : Binds K gd1 ["_law_pool_here", "_law_great"] []) (k1 : PySem.W.keepIn K (.ref g1) = true) (m1 : mg "_law_part" = some (.ref g1))
    (G2 : FnOk P w K mg base CX0 2 g2 gd2 ["_law_high_part", "_law_low_part"] spLow) (b2 : Binds K gd2 ["_law_high_part", "_law_low_part"] []) (k2 : PySem.W.keepIn K (.ref g2) = true) (m2 : mg "_law_low" = some (.ref g2))
    (G3 : FnOk P w K mg base CX0 2 g3 gd3 ["_law_pool_here", "_law_most"] spDraw) (b3 : Binds K gd3 ["_law_pool_here", "_law_most"] []) (k3 : PySem.W.keepIn K (.ref g3) = true) (m3 : mg "_law_draw" = some (.ref g3))
    (G4 : FnOk P w K mg base CX0 3 g4 gd4 ["_law_lead", "_law_more"] spLMul) (b4 : Binds K gd4 ["_law_lead", "_law_more"] []) (k4 : PySem.W.keepIn K (.ref g4) = true) (m4 : mg "_law_mul" = some (.ref g4))
    (G5 : FnG P w K mg base CX0 6 g5 gd5 ["_law_lead", "_law_more"] spTold4) (b5 : Binds K gd5 ["_law_lead", "_law_more"] []) (k5 : PySem.W.keepIn K (.ref g5) = true) (m5 : mg "_law_told_right" = some (.ref g5)) :
    FnG P w K mg base CX0 7 f fd ["_law_pool_here"] spRight := by
  refine okG F scRight4 (fun vs H Q E h => ?_) (fun cdv A outer s H vs Q E hg hr h => ?_)
  · obtain ⟨a, rfl, _⟩ := h
    rfl
  obtain ⟨p, rfl, hp, q⟩ := h
  have r1 : Room 2 _ := hr.mono (by decide)
  have r2 : Room 3 _ := hr.mono (by decide)
  have l1 : ∀ n : Nat, n ≤ 1000 → n ≤ sizeLine := fun n h => Nat.le_of_lt (small1000 h)
  refine ⟨_, pss_cons (ps_for PassesOwn.never rfl (pi_range1 rfl mr (pa_cons pe_int pa_nil)) (pg_name (i := 1) scRight4.nd rfl (.inl rfl))
      (pss_cons (ps_par (i := 2) (j := 3) (by rfl) scRight4.nd rfl rfl (by decide) rfl rfl (pa_cons (pe_call G1 r2 rfl m1 k1 b1 .nil pass0 (pa_cons (pv 0) (pa_cons pe_bl pa_nil))) (pa_cons (pe_call G1 r2 rfl m1 k1 b1 .nil pass0 (pa_cons (pv 0) (pa_cons pe_bl pa_nil))) pa_nil)) (by rfl))
      (pss_cons (ps_par (i := 4) (j := 5) (by rfl) scRight4.nd rfl rfl (by decide) rfl rfl (pa_cons (pe_ix ix_tup (pv 2) pe_int (fun _ _ => rfl)) (pa_cons (pe_call G2 r1 rfl m2 k2 b2 .nil pass0 (pa_cons (pe_op op_add pe_int (pe_call G3 r1 rfl m3 k3 b3 .nil pass0 (pa_cons (pv 0) (pa_cons pe_int pa_nil)))) (pa_cons (pe_op op_add pe_int (pe_call G3 r1 rfl m3 k3 b3 .nil pass0 (pa_cons (pv 0) (pa_cons pe_int pa_nil)))) pa_nil))) pa_nil)) (by rfl))
      (pss_cons (ps_set (i := 6) scRight4.nd rfl (.inl rfl) (pe_lst (pa_cons (pe_tup (pa_cons (pv 2) (pa_cons (pv 3) pa_nil))) (pa_cons (pe_tup (pa_cons (pv 2) (pa_cons (pv 2) pa_nil)))
        (pa_cons (pe_tup (pa_cons (pe_tup (pa_cons (pv 4) (pa_cons (pe_op op_add (pv 4) pe_int) pa_nil))) (pa_cons (pe_tup (pa_cons (pe_op op_add (pv 4) pe_int) (pa_cons (pe_op op_add (pv 4) pe_int) pa_nil))) pa_nil)))
        (pa_cons (pe_tup (pa_cons (pv 2) (pa_cons (pe_call G4 r2 rfl m4 k4 b4 .nil pass0 (pa_cons (pv 2) (pa_cons (pv 5) pa_nil))) pa_nil))) pa_nil))))))
      (pss_cons (ps_expr (pe_bm PySem.F.plainAttrs_list PySem.F.slot_list_append PySem.F.type_list_append mt_append (pv 6) (pa_cons (pe_tup (pa_cons (pv 2) (pa_cons (pe_call G2 r1 rfl m2 k2 b2 .nil pass0 (pa_cons (pe_op op_add (pv 4) pe_int) (pa_cons (pe_ix ix_tup (pv 2) pe_int (fun _ _ => rfl)) pa_nil))) pa_nil))) pa_nil)))
      (pss_one (ps_if (pt_not (pt_val (pe_callB (cr_all (by rfl)) (by rfl) ma (by decide +kernel) (pa_cons
          (pe_lc (own := [("_law_pair", 7)]) (g := gName 7) (tt := tYes) (by rfl) scRight4.nd (pi_list (pv 6)) (blkOk_by (own := [("_law_pair", 7)]) (N := ["_law_pool_here", "_law_turn", "_law_lead", "_law_more", "_law_high", "_law_near", "_law_pairs", "_law_pair"]) (sc := defScope s_l_right) (by decide +kernel))
            (fun _ _ _ _ _ => pg_name (i := 7) scRight4.nd rfl (Or.inl rfl)) (fun _ _ _ _ _ => pts_nil)
            (fun _ _ _ _ _ => callG G5 hg hr rfl m5 k5 b5 .nil pass0 (pa_cons (pe_ix (r := rIxT K) ix_tup (pv 7) pe_int (fun _ _ => rfl)) (pa_cons (pe_ix (r := rIxT K) ix_tup (pv 7) pe_int (fun _ _ => rfl)) pa_nil)))) pa_nil))))
        (pss_one (ps_ret pe_bl)) pss_nil)))))))
    (pss_one (ps_ret pe_bl)), ?_⟩
  refine ⟨12, rfl, by decide, by decide, for_range (n := 12) (fun _ σ H1 => ∃ v1 v2 v3 v4 v5 v6 v7, σ = [some (.ref p), v1, v2, v3, v4, v5, v6, v7] ∧ Keep p H H1 ∧ Pool H1 p) ⟨_, _, _, _, _, _, _, rfl, Keep.refl p H, hp⟩ ?_ ?_⟩
  · rintro i σ H1 hi ⟨v1, v2, v3, v4, v5, v6, v7, rfl, kp, hp1⟩
    refine ⟨_, rfl, p, true, rfl, hp1, fun t1 a b H2 kx hp2 nt1 f1 => ?_⟩
    refine ⟨_, rfl, p, true, rfl, hp2, fun t2 c d H3 ky hp3 nt2 f2 => ?_⟩
    have n1p : t1 ≠ p := hp1.ne nt1
    have f1 : FrAt 70 H3 t1 a b := ⟨ky _ _ n1p f1.1, f1.2⟩
    refine ⟨_, _, rfl, ?_⟩
    refine ⟨_, rfl, t1, _, _, _, rfl, rfl, f1.seq, rfl, ?_⟩
    refine ⟨_, rfl, p, 9, rfl, hp3, big_of 8 (by decide) (by decide) (by decide), fun z1 H4 kz hp4 z10 z11 => ⟨_, _, rfl, rfl, ?_⟩⟩
    refine ⟨_, rfl, p, 9, rfl, hp4, big_of 8 (by decide) (by decide) (by decide), fun z2 H5 kw hp5 z20 z21 => ⟨_, _, rfl, rfl, ?_⟩⟩
    have n2p : t2 ≠ p := hp2.ne nt2
    have f1 : FrAt 70 H5 t1 a b := ⟨kw _ _ n1p (kz _ _ n1p f1.1), f1.2⟩
    have f2 : FrAt 70 H5 t2 c d := ⟨kw _ _ n2p (kz _ _ n2p f2.1), f2.2⟩
    refine ⟨1 + z1, 1 + z2, rfl, big_of 8 (by omega) (by omega) (by decide), by omega, fun t3 nt3 => ?_⟩
    have f3 : FrAt 70 (upd H5 t3 (lowT (1 + z1) (1 + z2))) t3 _ _ := ⟨upd_same, fr_low (by omega) (by omega) (fr_lt (by omega) (by omega)) (fr_lt (by omega) (by omega))⟩
    have s3 := same_upd (o := lowT (1 + z1) (1 + z2)) nt3
    have k5 : Keep p H _ := (kp.trans (kx.trans (ky.trans (kz.trans kw)))).trans (Same.keep s3 p)
    have hp6 := hp5.same s3
    have f1 := f1.same s3
    have f2 := f2.same s3
    generalize upd H5 t3 (lowT (1 + z1) (1 + z2)) = H6 at f3 k5 hp6 f1 f2 ⊢
    generalize (1 + z1) / gcdI (1 + z1) (1 + z2) = c3 at f3 ⊢
    generalize (1 + z2) / gcdI (1 + z1) (1 + z2) = d3 at f3 ⊢
    clear s3 nt3
    refine ⟨_, _, rfl, ?_⟩
    -- the pairs
    refine ⟨_, rfl, _, rfl, l1 2 (by decide), fun u1 o1 => ?_⟩
    have s1 := same_upd (o := .tup [.ref t1, .ref t2]) o1
    have e1 : upd H6 u1 (.tup [.ref t1, .ref t2]) u1 = some (.tup [.ref t1, .ref t2]) := upd_same
    generalize upd H6 u1 (.tup [.ref t1, .ref t2]) = A1 at s1 e1 ⊢
    refine ⟨_, rfl, _, rfl, l1 2 (by decide), fun u2 o2 => ?_⟩
    have s2 := same_upd (o := .tup [.ref t1, .ref t1]) o2
    have e2 : upd A1 u2 (.tup [.ref t1, .ref t1]) u2 = some (.tup [.ref t1, .ref t1]) := upd_same
    generalize upd A1 u2 (.tup [.ref t1, .ref t1]) = A2 at s2 e2 ⊢
    refine ⟨_, rfl, _, rfl, _, _, rfl, rfl, l1 2 (by decide), fun u3 o3 => ?_⟩
    have s3 := same_upd (o := .tup [.int a, .int (a + 1)]) o3
    have e3 : upd A2 u3 (.tup [.int a, .int (a + 1)]) u3 = some (.tup [.int a, .int (a + 1)]) := upd_same
    generalize upd A2 u3 (.tup [.int a, .int (a + 1)]) = A3 at s3 e3 ⊢
    refine ⟨_, rfl, _, _, rfl, rfl, _, rfl, _, _, rfl, rfl, l1 2 (by decide), fun u4 o4 => ?_⟩
    have s4 := same_upd (o := .tup [.int (a + 1), .int (a + 2)]) o4
    have e4 : upd A3 u4 (.tup [.int (a + 1), .int (a + 2)]) u4 = some (.tup [.int (a + 1), .int (a + 2)]) := upd_same
    generalize upd A3 u4 (.tup [.int (a + 1), .int (a + 2)]) = A4 at s4 e4 ⊢
    refine ⟨l1 2 (by decide), fun u5 o5 => ?_⟩
    have s5 := same_upd (o := .tup [.ref u3, .ref u4]) o5
    have e5 : upd A4 u5 (.tup [.ref u3, .ref u4]) u5 = some (.tup [.ref u3, .ref u4]) := upd_same
    generalize upd A4 u5 (.tup [.ref u3, .ref u4]) = A5 at s5 e5 ⊢
    have s15 := s1.trans (s2.trans (s3.trans (s4.trans s5)))
    have f1 := f1.same s15
    have f2 := f2.same s15
    have f3 := f3.same s15
    refine ⟨_, rfl, _, rfl, _, rfl, t1, t3, a, b, c3, d3, rfl, f1.up (by decide), f3.up (by decide), fun u6 o6 => ?_⟩
    have s6 := same_upd (o := lowT (a * c3) (b * d3)) o6
    have e6 : upd A5 u6 (lowT (a * c3) (b * d3)) u6 = some (lowT (a * c3) (b * d3)) := upd_same
    generalize upd A5 u6 (lowT (a * c3) (b * d3)) = A6 at s6 e6 ⊢
    have f6 : FrAt 140 A6 u6 _ _ := ⟨e6, fr_low (mul_pos f1.2.a0 f3.2.a0) (mul_pos f1.2.b0 f3.2.b0) (wide_lt f1.2.al f3.2.al) (wide_lt f1.2.bl f3.2.bl)⟩
    refine ⟨l1 2 (by decide), fun u7 o7 => ?_⟩
    have s7 := same_upd (o := .tup [.ref t1, .ref u6]) o7
    have e7 : upd A6 u7 (.tup [.ref t1, .ref u6]) u7 = some (.tup [.ref t1, .ref u6]) := upd_same
    generalize upd A6 u7 (.tup [.ref t1, .ref u6]) = A7 at s7 e7 ⊢
    have s67 := s6.trans s7
    have s57 := s5.trans s67
    have f1 := f1.same s67
    have a0 := f1.2.a0
    have al := f1.2.al
    have p70 : (2 : Nat) ^ 71 = 2 ^ 70 * 2 := Nat.pow_succ ..
    have p71 : 1 < (2 : Nat) ^ 70 := by decide
    have al1 : (a + 1).natAbs < 2 ^ 71 := by omega
    have ok4 : ∀ v ∈ [V.ref u1, .ref u2, .ref u5, .ref u7], PairFr 900 A7 v := by
      intro v hv
      simp only [List.mem_cons, List.not_mem_nil, or_false] at hv
      rcases hv with rfl | rfl | rfl | rfl
      · exact ⟨u1, t1, t2, _, _, _, _, rfl, s57 _ _ (s4 _ _ (s3 _ _ (s2 _ _ e1))), f1.up (by decide), (f2.same s67).up (by decide)⟩
      · exact ⟨u2, t1, t1, _, _, _, _, rfl, s57 _ _ (s4 _ _ (s3 _ _ e2)), f1.up (by decide), f1.up (by decide)⟩
      · exact ⟨u5, u3, u4, a, a + 1, a + 1, a + 2, rfl, s67 _ _ e5, ⟨s57 _ _ (s4 _ _ e3), (fr_succ a0 al (by decide)).up (by decide)⟩, ⟨s57 _ _ e4, by
          have := fr_succ (n := 71) (h := a + 1) (by omega) al1 (by decide)
          rw [show a + 1 + 1 = a + 2 by omega] at this
          exact this.up (by decide)⟩⟩
      · exact ⟨u7, t1, u6, _, _, _, _, rfl, e7, f1.up (by decide), FrAt.up ⟨s7 _ _ f6.1, f6.2⟩ (by decide)⟩
    have k7 := k5.trans (Same.keep (s15.trans s67) p)
    have hp7 := hp6.same (s15.trans s67)
    refine ⟨l1 4 (by decide), fun L nL => ?_⟩
    clear s1 s2 s3 s4 s5 s15 s6 s7 s67 s57 f6 f2 f3 o1 o2 o3 o4 o5 o6 o7 e1 e2 e3 e4 e5 e6 e7
    have s8 := same_upd (o := .lst [.ref u1, .ref u2, .ref u5, .ref u7]) nL
    have e8 : upd A7 L (.lst [.ref u1, .ref u2, .ref u5, .ref u7]) L = some (.lst [.ref u1, .ref u2, .ref u5, .ref u7]) := upd_same
    generalize upd A7 L (.lst [.ref u1, .ref u2, .ref u5, .ref u7]) = A8 at s8 e8 ⊢
    -- one pair more
    have n1 : t1 ≠ L := ne_of_none f1.1 nL
    have f1 := f1.same s8
    refine ⟨_, rfl, .inl ⟨rfl, _, .inl (.inl e8)⟩, ?_⟩
    refine ⟨_, rfl, _, rfl, _, _, rfl, rfl, _, rfl, t1, _, _, _, rfl, rfl, f1.seq, rfl, a + 1, b, rfl, ⟨by omega, Nat.lt_of_lt_of_le al1 (Nat.pow_le_pow_right (by decide) (by decide))⟩, f1.2.b0, fun u8 o8 => ?_⟩
    have s9 := same_upd (o := lowT (a + 1) b) o8
    have e9 : upd A8 u8 (lowT (a + 1) b) u8 = some (lowT (a + 1) b) := upd_same
    generalize upd A8 u8 (lowT (a + 1) b) = A9 at s9 e9 ⊢
    have f8 : FrAt 71 A9 u8 _ _ := ⟨e9, fr_low (by omega) f1.2.b0 al1 (f1.2.up (by decide)).bl⟩
    refine ⟨l1 2 (by decide), fun u9 o9 => ?_⟩
    have s10 := same_upd (o := .tup [.ref t1, .ref u8]) o9
    have e10 : upd A9 u9 (.tup [.ref t1, .ref u8]) u9 = some (.tup [.ref t1, .ref u8]) := upd_same
    generalize upd A9 u9 (.tup [.ref t1, .ref u8]) = B0 at s10 e10 ⊢
    have hL := s10 _ _ (s9 _ _ e8)
    refine ⟨L, _, _, rfl, rfl, hL, small1000 (by show 4 ≤ 1000; decide), ?_⟩
    have kL : Same A7 (upd B0 L (.lst ([.ref u1, .ref u2, .ref u5, .ref u7] ++ [.ref u9]))) := Keep.same (p := L) Keep.at (s8.trans (s9.trans s10)) nL
    have n9 : u9 ≠ L := (ne_of_none (s9 _ _ e8) o9).symm
    have n8 : u8 ≠ L := (ne_of_none e8 o8).symm
    have f1 : FrAt 70 (upd B0 L (.lst ([.ref u1, .ref u2, .ref u5, .ref u7] ++ [.ref u9]))) t1 a b := ⟨Keep.at _ _ n1 (s10 _ _ (s9 _ _ f1.1)), f1.2⟩
    have f8 : FrAt 71 (upd B0 L (.lst ([.ref u1, .ref u2, .ref u5, .ref u7] ++ [.ref u9]))) u8 _ _ := ⟨Keep.at _ _ n8 (s10 _ _ f8.1), f8.2⟩
    have h9 : upd B0 L (.lst ([.ref u1, .ref u2, .ref u5, .ref u7] ++ [.ref u9])) u9 = some (.tup [.ref t1, .ref u8]) := Keep.at _ _ n9 e10
    have hL : upd B0 L (.lst ([.ref u1, .ref u2, .ref u5, .ref u7] ++ [.ref u9])) L = some (.lst ([.ref u1, .ref u2, .ref u5, .ref u7] ++ [.ref u9])) := upd_same
    generalize upd B0 L (.lst ([.ref u1, .ref u2, .ref u5, .ref u7] ++ [.ref u9])) = C0 at kL f1 f8 h9 hL ⊢
    have ok5 : ∀ v ∈ [V.ref u1, .ref u2, .ref u5, .ref u7] ++ [V.ref u9], PairFr 900 C0 v := by
      intro v hv
      rcases List.mem_append.mp hv with hv | hv
      · exact (ok4 v hv).same kL
      · rw [List.mem_singleton.mp hv]
        exact ⟨u9, t1, u8, _, _, _, _, rfl, h9, f1.up (by decide), f8.up (by decide)⟩
    have k8 := k7.trans (Same.keep kL p)
    have hp8 := hp7.same kL
    refine ⟨_, rfl, L, rfl, ⟨_, SqL.of hL⟩, fun D nD => ?_⟩
    have sD := same_upd (o := .lst []) nD
    refine lc_list (K := K) (a := L) (xs := [V.ref u1, .ref u2, .ref u5, .ref u7] ++ [V.ref u9]) (fun i C1 => Same C0 C1 ∧ C1 D = some (.lst (List.replicate i (.bl true))) ∧ i ≤ 5) ⟨sD, upd_same, by decide⟩ (fun i C1 _ h => SqL.of (h.1 _ _ hL)) ?_ ?_
    · rintro i v C1 hi ⟨s6, hD, i4⟩
      obtain ⟨t, pp, qq, x, y, z, ww, rfl, ht, hpp, hqq⟩ := (ok5 v (List.mem_of_getElem? hi)).same s6
      have hi4 : i < 5 := (List.getElem?_eq_some_iff.mp hi).1
      refine ⟨rfl, _, rfl, t, _, _, _, rfl, rfl, .inl (.inl ht), rfl, _, rfl, t, _, _, _, rfl, rfl, .inl (.inl ht), rfl, pp, qq, x, y, z, ww, rfl, hpp, hqq, fun C2 s7 => ?_⟩
      refine ⟨_, s7 _ _ hD, by rw [List.length_replicate]; exact small1000 (by omega), fun c o e => ?_, ?_, by omega⟩
      · rw [upd_ne (ne_of_none e nD)]
        exact s7 _ _ (s6 _ _ e)
      · rw [upd_same, rep_snoc]
    · rintro C1 ⟨s6, hD, _⟩
      refine ⟨D, List.replicate 5 true, rfl, ?_, _, rfl, ?_⟩
      · rw [rep_bl]
        exact SqL.of hD
      · rw [all_true]
        exact iteF ⟨_, _, _, _, _, _, _, rfl, k8.trans (Same.keep s6 p), hp8.same s6⟩
  · rintro σ H1 ⟨v1, v2, v3, v4, v5, v6, v7, rfl, kp, hp1⟩
    exact q _ kp hp1
end
/-! ### k04_law.lean -/
section
variable {P : Program} {w : World} {K : PySem.W.Frag} {mg : Str → Option Value} {base : Heap} {f : Addr} {fd : FuncData}
theorem scLaw : FnScope ["_law_script", "_law_far", "_law_told", "_law_pairs", "_law_pair", "_law_k"] ["_law_script"] (defScope s_law) := ⟨rfl, rfl, rfl, by decide +kernel, rfl, by decide +kernel, by decide +kernel⟩
def spLaw (K : PySem.W.Frag) : Sp := fun vs H Q _ => ∃ (a : Addr) (ns : List Int), vs = [.ref a] ∧ SqL K H a (ns.map V.int) ∧ ns.length ≤ 63 ∧ ∀ H', Q (.bl true) H'
def far : Int := 10 ^ 39
theorem frK {a b : Int} (n : Nat) (a0 : 0 < a) (b0 : 0 < b) (g : gcdI a b = 1) (al : a.natAbs < 2 ^ 200) (bl : b.natAbs < 2 ^ 200) (hn : 200 ≤ n) : Fr n a b := Fr.up ⟨a0, b0, g, al, bl⟩ hn
theorem ok_law {g1 g2 g3 gR gP gC : Addr} {gd1 gd2 gd3 gdR gdP gdC : FuncData} (F : Fun K "law" "law" s_law f fd) (mr : mg "repr" = none) (ma : mg "all" = none) (mrg : mg "range" = none) (mx : mg "max" = none) (mn : mg "min" = none) (ml : mg "len" = none)
    (GR : FnG P w K mg base CX0 7 gR gdR ["_law_pool_here"] spRight) (bR : Binds K gdR ["_law_pool_here"] []) (kR : PySem.W.keepIn K (.ref gR) = true) (mR : mg "_law_right" = some (.ref gR))
    (GP : FnOk P w K mg base CX0 2 gP gdP ["_law_figure"] spPool) (bP : Binds K gdP ["_law_figure"] []) (kP : PySem.W.keepIn K (.ref gP) = true) (mP : mg "_law_pool" = some (.ref gP))
    (GC : FnOk P w K mg base CX0 2 gC gdC ["_law_script", "_law_k"] (spCell K)) (bC : Binds K gdC ["_law_script", "_law_k"] []) (kC : PySem.W.keepIn K (.ref gC) = true) (mC : mg "_law_cell" = some (.ref gC))
    (G1 : FnG P w K mg base CX0 5 g1 gd1 ["one", "other"] spComp) (b1 : Binds K gd1 ["one", "other"] []) (k1 : PySem.W.keepIn K (.ref g1) = true) (m1 : mg "compare" = some (.ref g1))
    (G2 : FnG P w K mg base CX0 5 g2 gd2 ["one", "other"] spQuot) (b2 : Binds K gd2 ["one", "other"] []) (k2 : PySem.W.keepIn K (.ref g2) = true) (m2 : mg "quotient" = some (.ref g2))
    (G3 : FnG P w K mg base CX0 6 g3 gd3 ["_law_lead", "_law_more"] spTold4) (b3 : Binds K gd3 ["_law_lead", "_law_more"] []) (k3 : PySem.W.keepIn K (.ref g3) = true) (m3 : mg "_law_told_right" = some (.ref g3)) :
    FnG P w K mg base CX0 8 f fd ["_law_script"] (spLaw K) := by
  refine okG F scLaw (fun vs H Q E h => ?_) (fun cdv A outer s H vs Q E hg hr h => ?_)
  · obtain ⟨a, ns, rfl, _⟩ := h
    rfl
  obtain ⟨a, ns, rfl, hS, h63, q⟩ := h
  have r1 : Room 2 _ := hr.mono (by decide)
  have r4 : Room 5 _ := hr.mono (by decide)
  have r5 : Room 6 _ := hr.mono (by decide)
  have l1 : ∀ n : Nat, n ≤ 1000 → n ≤ sizeLine := fun n h => Nat.le_of_lt (small1000 h)
  refine ⟨_, pss_cons (ps_set (i := 1) scLaw.nd rfl (.inl rfl) (pe_weak (t' := tC (.int far)) (pe_op op_pow pe_int pe_int) (fun _ _ _ h => ⟨_, _, rfl, rfl, ⟨by decide, by decide, by decide⟩, h⟩)))
    (pss_cons (ps_set (i := 2) scLaw.nd rfl (.inl rfl) (pe_lst
      (pa_cons (callG G1 hg r4 rfl m1 k1 b1 .nil pass0 (pa_cons (pe_tup (pa_cons pe_int (pa_cons pe_int pa_nil))) (pa_cons (pe_tup (pa_cons pe_int (pa_cons pe_int pa_nil))) pa_nil)))
      (pa_cons (callG G1 hg r4 rfl m1 k1 b1 .nil pass0 (pa_cons (pe_tup (pa_cons pe_int (pa_cons pe_int pa_nil))) (pa_cons (pe_tup (pa_cons pe_int (pa_cons pe_int pa_nil))) pa_nil)))
      (pa_cons (callG G1 hg r4 rfl m1 k1 b1 .nil pass0 (pa_cons (pe_tup (pa_cons pe_int (pa_cons pe_int pa_nil))) (pa_cons (pe_tup (pa_cons pe_int (pa_cons pe_int pa_nil))) pa_nil)))
      (pa_cons (callG G1 hg r4 rfl m1 k1 b1 .nil pass0 (pa_cons (pe_tup (pa_cons pe_int (pa_cons pe_int pa_nil))) (pa_cons (pe_tup (pa_cons pe_int (pa_cons pe_int pa_nil))) pa_nil))) pa_nil))))))
    (pss_cons (ps_if (PW.pt (pw_or (pt_cmpR op_ne (pe_callB (reprData hg (roomR hr)) (by rfl) mr PyProof.Rows.boot_repr (pa_cons (pv 2) pa_nil))
          (pe_callB (reprData hg (roomR hr)) (by rfl) mr PyProof.Rows.boot_repr (pa_cons (pe_lst (pa_cons pe_int (pa_cons (pe_un un_neg pe_int) (pa_cons (pe_un un_neg pe_int) (pa_cons pe_int pa_nil))))) pa_nil)) (nomark _))
        (pw_or1 (pt_cmpR (op_neD hr.units) (callG G2 hg r4 rfl m2 k2 b2 .nil pass0 (pa_cons (pe_tup (pa_cons pe_int (pa_cons pe_int pa_nil))) (pa_cons (pe_tup (pa_cons pe_int (pa_cons pe_int pa_nil))) pa_nil))) (pe_tup (pa_cons pe_int (pa_cons pe_int pa_nil))) (nomark _)))))
      (pss_one (ps_ret pe_bl)) pss_nil)
    (pss_cons (ps_set (i := 3) scLaw.nd rfl (.inl rfl) (pe_lst
      (pa_cons (pe_tup (pa_cons (pe_tup (pa_cons (pv 1) (pa_cons (pe_op op_add (pv 1) pe_int) pa_nil))) (pa_cons (pe_tup (pa_cons (pe_op op_add (pv 1) pe_int) (pa_cons (pe_op op_add (pv 1) pe_int) pa_nil))) pa_nil)))
      (pa_cons (pe_tup (pa_cons (pe_tup (pa_cons (pe_op op_add (pv 1) pe_int) (pa_cons (pv 1) pa_nil))) (pa_cons (pe_tup (pa_cons (pe_op op_add (pv 1) pe_int) (pa_cons (pe_op op_add (pv 1) pe_int) pa_nil))) pa_nil)))
      (pa_cons (pe_tup (pa_cons (pe_tup (pa_cons (pv 1) (pa_cons pe_int pa_nil))) (pa_cons (pe_tup (pa_cons pe_int (pa_cons (pv 1) pa_nil))) pa_nil))) pa_nil)))))
    (pss_cons (ps_if (pt_not (pt_val (pe_callB (cr_all (by rfl)) (by rfl) ma (by decide +kernel) (pa_cons
          (pe_lc (own := [("_law_pair", 4)]) (g := gName 4) (tt := tYes) (by rfl) scLaw.nd (pi_list (pv 3)) (blkOk_by (own := [("_law_pair", 4)]) (N := ["_law_script", "_law_far", "_law_told", "_law_pairs", "_law_pair", "_law_k"]) (sc := defScope s_law) (by decide +kernel))
            (fun _ _ _ _ _ => pg_name (i := 4) scLaw.nd rfl (Or.inl rfl)) (fun _ _ _ _ _ => pts_nil)
            (fun _ _ _ _ _ => callG G3 hg r5 rfl m3 k3 b3 .nil pass0 (pa_cons (pe_ix (r := rIxT K) ix_tup (pv 4) pe_int (fun _ _ => rfl)) (pa_cons (pe_ix (r := rIxT K) ix_tup (pv 4) pe_int (fun _ _ => rfl)) pa_nil)))) pa_nil))))
      (pss_one (ps_ret pe_bl)) pss_nil)
    (pss_one (ps_ret (pe_callB (cr_all (by rfl)) (by rfl) ma (by decide +kernel) (pa_cons
          (pe_lc (own := [("_law_k", 5)]) (g := gName 5) (tt := tYes) (by rfl) scLaw.nd
            (pi_range1 rfl mrg (pa_cons (pe_callB (call_max2 (by rfl)) (by rfl) mx (by decide +kernel) (pa_cons pe_int (pa_cons (pe_callB (call_min2 (by rfl)) (by rfl) mn (by decide +kernel) (pa_cons (pe_callB call_len_seq (by rfl) ml PySem.boot_len (pa_cons (pv 0) pa_nil)) (pa_cons pe_int pa_nil))) pa_nil))) pa_nil))
            (blkOk_by (own := [("_law_k", 5)]) (N := ["_law_script", "_law_far", "_law_told", "_law_pairs", "_law_pair", "_law_k"]) (sc := defScope s_law) (by decide +kernel))
            (fun _ _ _ _ _ => pg_name (i := 5) scLaw.nd rfl (Or.inl rfl)) (fun _ _ _ _ _ => pts_nil)
            (fun _ _ _ _ _ => callG GR hg hr rfl mR kR bR .nil pass0 (pa_cons (pe_call GP r1 rfl mP kP bP .nil pass0 (pa_cons (pe_call GC r1 rfl mC kC bC .nil pass0 (pa_cons (pv 0) (pa_cons (pv 5) pa_nil))) pa_nil)) pa_nil))) pa_nil)))))))), ?_⟩
  -- compare, four times
  refine ⟨l1 2 (by decide), fun u1 o1 => ?_⟩
  have s1 := same_upd (o := .tup [.int 1, .int 2]) o1
  have e1 : upd H u1 (.tup [.int 1, .int 2]) u1 = some (.tup [.int 1, .int 2]) := upd_same
  generalize upd H u1 (.tup [.int 1, .int 2]) = A1 at s1 e1 ⊢
  refine ⟨l1 2 (by decide), fun u2 o2 => ?_⟩
  have s2 := same_upd (o := .tup [.int 1, .int 3]) o2
  have e2 : upd A1 u2 (.tup [.int 1, .int 3]) u2 = some (.tup [.int 1, .int 3]) := upd_same
  generalize upd A1 u2 (.tup [.int 1, .int 3]) = A2 at s2 e2 ⊢
  refine ⟨u1, u2, 1, 2, 1, 3, rfl, ⟨s2 _ _ e1, frK _ (by decide) (by decide) (by decide +kernel) (by decide) (by decide) (by decide)⟩, ⟨e2, frK _ (by decide) (by decide) (by decide +kernel) (by decide) (by decide) (by decide)⟩, fun A3 s3 => ?_⟩
  refine ⟨l1 2 (by decide), fun u3 o3 => ?_⟩
  have s4 := same_upd (o := .tup [.int 2, .int 3]) o3
  have e4 : upd A3 u3 (.tup [.int 2, .int 3]) u3 = some (.tup [.int 2, .int 3]) := upd_same
  generalize upd A3 u3 (.tup [.int 2, .int 3]) = A4 at s4 e4 ⊢
  refine ⟨l1 2 (by decide), fun u4 o4 => ?_⟩
  have s5 := same_upd (o := .tup [.int 1, .int 1]) o4
  have e5 : upd A4 u4 (.tup [.int 1, .int 1]) u4 = some (.tup [.int 1, .int 1]) := upd_same
  generalize upd A4 u4 (.tup [.int 1, .int 1]) = A5 at s5 e5 ⊢
  refine ⟨u3, u4, 2, 3, 1, 1, rfl, ⟨s5 _ _ e4, frK _ (by decide) (by decide) (by decide +kernel) (by decide) (by decide) (by decide)⟩, ⟨e5, frK _ (by decide) (by decide) (by decide +kernel) (by decide) (by decide) (by decide)⟩, fun A6 s6 => ?_⟩
  refine ⟨l1 2 (by decide), fun u5 o5 => ?_⟩
  have s7 := same_upd (o := .tup [.int 9, .int 10]) o5
  have e7 : upd A6 u5 (.tup [.int 9, .int 10]) u5 = some (.tup [.int 9, .int 10]) := upd_same
  generalize upd A6 u5 (.tup [.int 9, .int 10]) = A7 at s7 e7 ⊢
  refine ⟨l1 2 (by decide), fun u6 o6 => ?_⟩
  have s8 := same_upd (o := .tup [.int 10, .int 11]) o6
  have e8 : upd A7 u6 (.tup [.int 10, .int 11]) u6 = some (.tup [.int 10, .int 11]) := upd_same
  generalize upd A7 u6 (.tup [.int 10, .int 11]) = A8 at s8 e8 ⊢
  refine ⟨u5, u6, 9, 10, 10, 11, rfl, ⟨s8 _ _ e7, frK _ (by decide) (by decide) (by decide +kernel) (by decide) (by decide) (by decide)⟩, ⟨e8, frK _ (by decide) (by decide) (by decide +kernel) (by decide) (by decide) (by decide)⟩, fun A9 s9 => ?_⟩
  refine ⟨l1 2 (by decide), fun u7 o7 => ?_⟩
  have s10 := same_upd (o := .tup [.int 7, .int 2]) o7
  have e10 : upd A9 u7 (.tup [.int 7, .int 2]) u7 = some (.tup [.int 7, .int 2]) := upd_same
  generalize upd A9 u7 (.tup [.int 7, .int 2]) = B1 at s10 e10 ⊢
  refine ⟨l1 2 (by decide), fun u8 o8 => ?_⟩
  have s11 := same_upd (o := .tup [.int 3, .int 1]) o8
  have e11 : upd B1 u8 (.tup [.int 3, .int 1]) u8 = some (.tup [.int 3, .int 1]) := upd_same
  generalize upd B1 u8 (.tup [.int 3, .int 1]) = B2 at s11 e11 ⊢
  refine ⟨u7, u8, 7, 2, 3, 1, rfl, ⟨s11 _ _ e10, frK _ (by decide) (by decide) (by decide +kernel) (by decide) (by decide) (by decide)⟩, ⟨e11, frK _ (by decide) (by decide) (by decide +kernel) (by decide) (by decide) (by decide)⟩, fun B3 s12 => ?_⟩
  refine ⟨l1 4 (by decide), fun L nL => ?_⟩
  have s13 := same_upd (o := .lst [.int (sgn (1 * 3) (1 * 2)), .int (sgn (2 * 1) (1 * 3)), .int (sgn (9 * 11) (10 * 10)), .int (sgn (7 * 1) (3 * 2))]) nL
  have e13 : upd B3 L (.lst [.int (sgn (1 * 3) (1 * 2)), .int (sgn (2 * 1) (1 * 3)), .int (sgn (9 * 11) (10 * 10)), .int (sgn (7 * 1) (3 * 2))]) L = some (.lst [.int (sgn (1 * 3) (1 * 2)), .int (sgn (2 * 1) (1 * 3)), .int (sgn (9 * 11) (10 * 10)), .int (sgn (7 * 1) (3 * 2))]) := upd_same
  generalize upd B3 L (.lst [.int (sgn (1 * 3) (1 * 2)), .int (sgn (2 * 1) (1 * 3)), .int (sgn (9 * 11) (10 * 10)), .int (sgn (7 * 1) (3 * 2))]) = B4 at s13 e13 ⊢
  rw [show sgn (1 * 3) (1 * 2) = 1 by decide, show sgn (2 * 1) (1 * 3) = -1 by decide, show sgn (9 * 11) (10 * 10) = -1 by decide, show sgn (7 * 1) (3 * 2) = 1 by decide] at e13
  have sm4 := Sm.lst (SmL.cons (Sm.int (i := 1) (by decide)) (SmL.cons (Sm.int (i := -1) (by decide)) (SmL.cons (Sm.int (i := -1) (by decide)) (SmL.cons (Sm.int (i := 1) (by decide)) SmL.nil))))
  refine ⟨_, rfl, repQ (intsD e13) rfl sm4 (by decide) (by decide) ?_⟩
  refine ⟨1, rfl, 1, rfl, l1 4 (by decide), fun M nM => ?_⟩
  have s14 := same_upd (o := .lst [.int 1, .int (-1), .int (-1), .int 1]) nM
  have e14 : upd B4 M (.lst [.int 1, .int (-1), .int (-1), .int 1]) M = some (.lst [.int 1, .int (-1), .int (-1), .int 1]) := upd_same
  generalize upd B4 M (.lst [.int 1, .int (-1), .int (-1), .int 1]) = B5 at s14 e14 ⊢
  refine repQ (intsD e14) rfl sm4 (by decide) (by decide) ?_
  refine ⟨rfl, _, rfl, iteNS rfl ?_⟩
  -- a quotient
  refine ⟨l1 2 (by decide), fun u1 o1 => ?_⟩
  have t1 := same_upd (o := .tup [.int 3, .int 2]) o1
  have e1 : upd B5 u1 (.tup [.int 3, .int 2]) u1 = some (.tup [.int 3, .int 2]) := upd_same
  generalize upd B5 u1 (.tup [.int 3, .int 2]) = C1 at t1 e1 ⊢
  refine ⟨l1 2 (by decide), fun u2 o2 => ?_⟩
  have t2 := same_upd (o := .tup [.int 3, .int 4]) o2
  have e2 : upd C1 u2 (.tup [.int 3, .int 4]) u2 = some (.tup [.int 3, .int 4]) := upd_same
  generalize upd C1 u2 (.tup [.int 3, .int 4]) = C2 at t2 e2 ⊢
  refine ⟨u1, u2, 3, 2, 3, 4, rfl, ⟨t2 _ _ e1, frK _ (by decide) (by decide) (by decide +kernel) (by decide) (by decide) (by decide)⟩, ⟨e2, frK _ (by decide) (by decide) (by decide +kernel) (by decide) (by decide) (by decide)⟩, fun C3 x t3 nx ex => ?_⟩
  rw [lowT_eq (x := 2) (y := 1) (by decide +kernel) (by decide +kernel)] at ex
  refine ⟨l1 2 (by decide), fun y ny => ?_⟩
  have t4 := same_upd (o := .tup [.int 2, .int 1]) ny
  have ey : upd C3 y (.tup [.int 2, .int 1]) y = some (.tup [.int 2, .int 1]) := upd_same
  generalize upd C3 y (.tup [.int 2, .int 1]) = C4 at t4 ey ⊢
  refine ⟨.tuple [.int 2, .int 1], .tuple [.int 2, .int 1], tupD (t4 _ _ ex), tupD ey, by decide, by decide, _, rfl, iteF ?_⟩
  have sA : Same H C4 := s1.trans (s2.trans (s3.trans (s4.trans (s5.trans (s6.trans (s7.trans (s8.trans (s9.trans (s10.trans (s11.trans (s12.trans (s13.trans (s14.trans (t1.trans (t2.trans (t3.trans t4))))))))))))))))
  clear s1 s2 s3 s4 s5 s6 s7 s8 s9 s10 s11 s12 s13 s14 t1 t2 t3 t4 e1 e2 e4 e5 e7 e8 e10 e11 e13 e14 ex ey
  -- pairs of neighbours
  have fb : ∀ n : Nat, 200 ≤ n → Fr n far (far + 1) := fun n h => frK n (by decide) (by decide) (gcdI_succ _) (by decide) (by decide) h
  refine ⟨_, rfl, _, rfl, _, _, rfl, rfl, l1 2 (by decide), fun u1 o1 => ?_⟩
  have s1 := same_upd (o := .tup [.int far, .int (far + 1)]) o1
  have e1 : upd C4 u1 (.tup [.int far, .int (far + 1)]) u1 = some (.tup [.int far, .int (far + 1)]) := upd_same
  generalize upd C4 u1 (.tup [.int far, .int (far + 1)]) = A1 at s1 e1 ⊢
  refine ⟨_, rfl, _, _, rfl, rfl, _, rfl, _, _, rfl, rfl, l1 2 (by decide), fun u2 o2 => ?_⟩
  have s2 := same_upd (o := .tup [.int (far + 1), .int (far + 2)]) o2
  have e2 : upd A1 u2 (.tup [.int (far + 1), .int (far + 2)]) u2 = some (.tup [.int (far + 1), .int (far + 2)]) := upd_same
  generalize upd A1 u2 (.tup [.int (far + 1), .int (far + 2)]) = A2 at s2 e2 ⊢
  refine ⟨l1 2 (by decide), fun u3 o3 => ?_⟩
  have s3 := same_upd (o := .tup [.ref u1, .ref u2]) o3
  have e3 : upd A2 u3 (.tup [.ref u1, .ref u2]) u3 = some (.tup [.ref u1, .ref u2]) := upd_same
  generalize upd A2 u3 (.tup [.ref u1, .ref u2]) = A3 at s3 e3 ⊢
  refine ⟨_, rfl, _, _, rfl, rfl, _, rfl, l1 2 (by decide), fun u4 o4 => ?_⟩
  have s4 := same_upd (o := .tup [.int (far + 1), .int far]) o4
  have e4 : upd A3 u4 (.tup [.int (far + 1), .int far]) u4 = some (.tup [.int (far + 1), .int far]) := upd_same
  generalize upd A3 u4 (.tup [.int (far + 1), .int far]) = A4 at s4 e4 ⊢
  refine ⟨_, rfl, _, _, rfl, rfl, _, rfl, _, _, rfl, rfl, l1 2 (by decide), fun u5 o5 => ?_⟩
  have s5 := same_upd (o := .tup [.int (far + 2), .int (far + 1)]) o5
  have e5 : upd A4 u5 (.tup [.int (far + 2), .int (far + 1)]) u5 = some (.tup [.int (far + 2), .int (far + 1)]) := upd_same
  generalize upd A4 u5 (.tup [.int (far + 2), .int (far + 1)]) = A5 at s5 e5 ⊢
  refine ⟨l1 2 (by decide), fun u6 o6 => ?_⟩
  have s6 := same_upd (o := .tup [.ref u4, .ref u5]) o6
  have e6 : upd A5 u6 (.tup [.ref u4, .ref u5]) u6 = some (.tup [.ref u4, .ref u5]) := upd_same
  generalize upd A5 u6 (.tup [.ref u4, .ref u5]) = A6 at s6 e6 ⊢
  refine ⟨_, rfl, l1 2 (by decide), fun u7 o7 => ?_⟩
  have s7 := same_upd (o := .tup [.int far, .int 1]) o7
  have e7 : upd A6 u7 (.tup [.int far, .int 1]) u7 = some (.tup [.int far, .int 1]) := upd_same
  generalize upd A6 u7 (.tup [.int far, .int 1]) = A7 at s7 e7 ⊢
  refine ⟨_, rfl, l1 2 (by decide), fun u8 o8 => ?_⟩
  have s8 := same_upd (o := .tup [.int 1, .int far]) o8
  have e8 : upd A7 u8 (.tup [.int 1, .int far]) u8 = some (.tup [.int 1, .int far]) := upd_same
  generalize upd A7 u8 (.tup [.int 1, .int far]) = A8 at s8 e8 ⊢
  refine ⟨l1 2 (by decide), fun u9 o9 => ?_⟩
  have s9 := same_upd (o := .tup [.ref u7, .ref u8]) o9
  have e9 : upd A8 u9 (.tup [.ref u7, .ref u8]) u9 = some (.tup [.ref u7, .ref u8]) := upd_same
  generalize upd A8 u9 (.tup [.ref u7, .ref u8]) = A9 at s9 e9 ⊢
  refine ⟨l1 3 (by decide), fun L nL => ?_⟩
  have s10 := same_upd (o := .lst [.ref u3, .ref u6, .ref u9]) nL
  have eL : upd A9 L (.lst [.ref u3, .ref u6, .ref u9]) L = some (.lst [.ref u3, .ref u6, .ref u9]) := upd_same
  generalize upd A9 L (.lst [.ref u3, .ref u6, .ref u9]) = B0 at s10 eL ⊢
  have ok3 : ∀ v ∈ [V.ref u3, .ref u6, .ref u9], PairFr 900 B0 v := by
    intro v hv
    simp only [List.mem_cons, List.not_mem_nil, or_false] at hv
    have g79 := s8.trans (s9.trans s10)
    have g49 := s5.trans (s6.trans (s7.trans g79))
    have g19 := s2.trans (s3.trans (s4.trans g49))
    rcases hv with rfl | rfl | rfl
    · exact ⟨u3, u1, u2, far, far + 1, far + 1, far + 2, rfl, s4.trans g49 _ _ e3, ⟨g19 _ _ e1, frK _ (by decide) (by decide) (by decide +kernel) (by decide) (by decide) (by decide)⟩, ⟨s3.trans (s4.trans g49) _ _ e2, frK _ (by decide) (by decide) (by decide +kernel) (by decide) (by decide) (by decide)⟩⟩
    · exact ⟨u6, u4, u5, far + 1, far, far + 2, far + 1, rfl, s7.trans g79 _ _ e6, ⟨g49 _ _ e4, frK _ (by decide) (by decide) (by decide +kernel) (by decide) (by decide) (by decide)⟩, ⟨s6.trans (s7.trans g79) _ _ e5, frK _ (by decide) (by decide) (by decide +kernel) (by decide) (by decide) (by decide)⟩⟩
    · exact ⟨u9, u7, u8, far, 1, 1, far, rfl, s10 _ _ e9, ⟨g79 _ _ e7, frK _ (by decide) (by decide) (by decide +kernel) (by decide) (by decide) (by decide)⟩, ⟨s9.trans s10 _ _ e8, frK _ (by decide) (by decide) (by decide +kernel) (by decide) (by decide) (by decide)⟩⟩
  have sB : Same H B0 := sA.trans (s1.trans (s2.trans (s3.trans (s4.trans (s5.trans (s6.trans (s7.trans (s8.trans (s9.trans s10)))))))))
  refine ⟨_, rfl, L, rfl, ⟨_, SqL.of eL⟩, fun D nD => ?_⟩
  have sD := same_upd (o := .lst []) nD
  refine lc_list (K := K) (a := L) (xs := [V.ref u3, .ref u6, .ref u9]) (fun i C1 => Same B0 C1 ∧ C1 D = some (.lst (List.replicate i (.bl true))) ∧ i ≤ 3) ⟨sD, upd_same, by decide⟩ (fun i C1 _ h => SqL.of (h.1 _ _ eL)) ?_ ?_
  · rintro i v C1 hi ⟨s6, hD, i4⟩
    obtain ⟨t, pp, qq, x, y, z, ww, rfl, ht, hpp, hqq⟩ := (ok3 v (List.mem_of_getElem? hi)).same s6
    have hi4 : i < 3 := (List.getElem?_eq_some_iff.mp hi).1
    refine ⟨rfl, _, rfl, t, _, _, _, rfl, rfl, .inl (.inl ht), rfl, _, rfl, t, _, _, _, rfl, rfl, .inl (.inl ht), rfl, pp, qq, x, y, z, ww, rfl, hpp, hqq, fun C2 s7 => ?_⟩
    refine ⟨_, s7 _ _ hD, by rw [List.length_replicate]; exact small1000 (by omega), fun c o e => ?_, ?_, by omega⟩
    · rw [upd_ne (ne_of_none e nD)]
      exact s7 _ _ (s6 _ _ e)
    · rw [upd_same, rep_snoc]
  · rintro C1 ⟨s6, hD, _⟩
    refine ⟨D, List.replicate 3 true, rfl, ?_, _, rfl, ?_⟩
    · rw [rep_bl]
      exact SqL.of hD
    rw [all_true]
    refine iteF ?_
    have sAll := sB.trans s6
    clear hD nD sD ok3 eL
    -- the cells
    refine ⟨_, rfl, a, _, rfl, .inl (sAll.seq hS), _, _, rfl, _, _, rfl, ?_⟩
    have bounds : ∀ x : Int, 0 ≤ x → x ≤ 63 → 0 ≤ (if (if (5 : Int) < x then 5 else x) > 2 then (if (5 : Int) < x then 5 else x) else 2) ∧ (if (if (5 : Int) < x then 5 else x) > 2 then (if (5 : Int) < x then 5 else x) else 2) ≤ 5 := by
      intro x h0 h1
      split <;> split <;> omega
    have bd := bounds (((ns.map V.int).length : Nat) : Int) (by omega) (by rw [List.length_map]; omega)
    refine ⟨_, rfl, ?_⟩
    generalize (if (if (5 : Int) < (((ns.map V.int).length : Nat) : Int) then 5 else (((ns.map V.int).length : Nat) : Int)) > 2 then (if (5 : Int) < (((ns.map V.int).length : Nat) : Int) then 5 else (((ns.map V.int).length : Nat) : Int)) else 2) = m at bd ⊢
    refine ⟨by omega, by omega, fun D nD => ?_⟩
    have sD := same_upd (o := .lst []) nD
    refine lc_range (lo := 0) (n := m.toNat) (fun i H7 => Same C1 H7 ∧ H7 D = some (.lst (List.replicate i (.bl true)))) ⟨sD, upd_same⟩ ?_ ?_
    · rintro i H7 hi ⟨s10, hD⟩
      refine ⟨rfl, _, rfl, _, rfl, a, ns, 0 + i, rfl, s10.seq (sAll.seq hS), h63, by omega, by omega, fun z H8 s11 => ?_⟩
      refine ⟨z, rfl, fun p H9 s12 np pl => ?_⟩
      refine ⟨p, rfl, pl, fun H10 kp pl2 => ?_⟩
      have s13 : Same H7 H10 := kp.same (s11.trans s12) (s11.free np)
      refine ⟨_, s13 _ _ hD, by rw [List.length_replicate]; exact small1000 (by omega), fun c o e => ?_, ?_⟩
      · rw [upd_ne (ne_of_none e nD)]
        exact s13 _ _ (s10 _ _ e)
      · rw [upd_same, rep_snoc]
    · rintro H7 ⟨s10, hD⟩
      refine ⟨D, List.replicate m.toNat true, rfl, ?_, ?_⟩
      · rw [rep_bl]
        exact SqL.of hD
      · rw [all_true]
        exact q _
end
set_option maxHeartbeats 0 in
theorem all_mk {l : PySem.W.OpenLaw} {w : World} {K : PySem.W.Frag} {h : Heap} {mg : Str → Option Value} {fa : Addr} (X : K.In h) (G : h.Ns mainGlobals mg) (hfa : mg "law" = some (.ref fa))
    {f0 f1 f2 f3 f4 f5 f6 f7 f8 f9 f10 f11 f12 f13 f14 f15 f16 f17 f18 f19 : Addr} {od0 an0 od1 an1 od2 an2 od3 an3 od4 an4 od5 an5 od6 an6 od7 an7 od8 an8 od9 an9 od10 an10 od11 an11 od12 an12 od13 an13 od14 an14 od15 an15 od16 an16 od17 an17 od18 an18 od19 an19 : Option Addr} {sl0 sl1 sl2 sl3 sl4 sl5 sl6 sl7 sl8 sl9 sl10 sl11 sl12 sl13 sl14 sl15 sl16 sl17 sl18 sl19 : Array (Option Value)} {oc0 kV0 dc0 pm0 cd0 ct0 oc1 kV1 dc1 pm1 cd1 ct1 oc2 kV2 dc2 pm2 cd2 ct2 oc3 kV3 dc3 pm3 cd3 ct3 oc4 kV4 dc4 pm4 cd4 ct4 oc5 kV5 dc5 pm5 cd5 ct5 oc6 kV6 dc6 pm6 cd6 ct6 oc7 kV7 dc7 pm7 cd7 ct7 oc8 kV8 dc8 pm8 cd8 ct8 oc9 kV9 dc9 pm9 cd9 ct9 oc10 kV10 dc10 pm10 cd10 ct10 oc11 kV11 dc11 pm11 cd11 ct11 oc12 kV12 dc12 pm12 cd12 ct12 oc13 kV13 dc13 pm13 cd13 ct13 oc14 kV14 dc14 pm14 cd14 ct14 oc15 kV15 dc15 pm15 cd15 ct15 oc16 kV16 dc16 pm16 cd16 ct16 oc17 kV17 dc17 pm17 cd17 ct17 oc18 kV18 dc18 pm18 cd18 ct18 oc19 kV19 dc19 pm19 cd19 ct19 : Value}
    (a0 : PySem.W.nsIn K mainGlobals "is_integer" = some (some (.ref f0))) (l0 : K.lookup f0 = some ⟨oc0, od0, .func (PySem.W.fnOf "is_integer" "is_integer" (defArgs s_is_integer) (defBody s_is_integer) (defScope s_is_integer) .none kV0 dc0 pm0 an0 cd0 ct0), sl0⟩) (c0 : PySem.W.codeIn K cd0 "is_integer" = true) (k0 : PySem.W.keepIn K (.ref f0) = true)
    (a1 : PySem.W.nsIn K mainGlobals "is_positive" = some (some (.ref f1))) (l1 : K.lookup f1 = some ⟨oc1, od1, .func (PySem.W.fnOf "is_positive" "is_positive" (defArgs s_is_positive) (defBody s_is_positive) (defScope s_is_positive) .none kV1 dc1 pm1 an1 cd1 ct1), sl1⟩) (c1 : PySem.W.codeIn K cd1 "is_positive" = true) (k1 : PySem.W.keepIn K (.ref f1) = true)
    (a2 : PySem.W.nsIn K mainGlobals "common_divisor" = some (some (.ref f2))) (l2 : K.lookup f2 = some ⟨oc2, od2, .func (PySem.W.fnOf "common_divisor" "common_divisor" (defArgs s_common_divisor) (defBody s_common_divisor) (defScope s_common_divisor) .none kV2 dc2 pm2 an2 cd2 ct2), sl2⟩) (c2 : PySem.W.codeIn K cd2 "common_divisor" = true) (k2 : PySem.W.keepIn K (.ref f2) = true)
    (a3 : PySem.W.nsIn K mainGlobals "lowest_terms" = some (some (.ref f3))) (l3 : K.lookup f3 = some ⟨oc3, od3, .func (PySem.W.fnOf "lowest_terms" "lowest_terms" (defArgs s_lowest_terms) (defBody s_lowest_terms) (defScope s_lowest_terms) .none kV3 dc3 pm3 an3 cd3 ct3), sl3⟩) (c3 : PySem.W.codeIn K cd3 "lowest_terms" = true) (k3 : PySem.W.keepIn K (.ref f3) = true)
    (a4 : PySem.W.nsIn K mainGlobals "is_fraction" = some (some (.ref f4))) (l4 : K.lookup f4 = some ⟨oc4, od4, .func (PySem.W.fnOf "is_fraction" "is_fraction" (defArgs s_is_fraction) (defBody s_is_fraction) (defScope s_is_fraction) .none kV4 dc4 pm4 an4 cd4 ct4), sl4⟩) (c4 : PySem.W.codeIn K cd4 "is_fraction" = true) (k4 : PySem.W.keepIn K (.ref f4) = true)
    (a5 : PySem.W.nsIn K mainGlobals "check_fractions" = some (some (.ref f5))) (l5 : K.lookup f5 = some ⟨oc5, od5, .func (PySem.W.fnOf "check_fractions" "check_fractions" (defArgs s_check_fractions) (defBody s_check_fractions) (defScope s_check_fractions) .none kV5 dc5 pm5 an5 cd5 ct5), sl5⟩) (c5 : PySem.W.codeIn K cd5 "check_fractions" = true) (k5 : PySem.W.keepIn K (.ref f5) = true)
    (a6 : PySem.W.nsIn K mainGlobals "quotient" = some (some (.ref f6))) (l6 : K.lookup f6 = some ⟨oc6, od6, .func (PySem.W.fnOf "quotient" "quotient" (defArgs s_quotient) (defBody s_quotient) (defScope s_quotient) .none kV6 dc6 pm6 an6 cd6 ct6), sl6⟩) (c6 : PySem.W.codeIn K cd6 "quotient" = true) (k6 : PySem.W.keepIn K (.ref f6) = true)
    (a7 : PySem.W.nsIn K mainGlobals "order" = some (some (.ref f7))) (l7 : K.lookup f7 = some ⟨oc7, od7, .func (PySem.W.fnOf "order" "order" (defArgs s_order) (defBody s_order) (defScope s_order) .none kV7 dc7 pm7 an7 cd7 ct7), sl7⟩) (c7 : PySem.W.codeIn K cd7 "order" = true) (k7 : PySem.W.keepIn K (.ref f7) = true)
    (a8 : PySem.W.nsIn K mainGlobals "compare" = some (some (.ref f8))) (l8 : K.lookup f8 = some ⟨oc8, od8, .func (PySem.W.fnOf "compare" "compare" (defArgs s_compare) (defBody s_compare) (defScope s_compare) .none kV8 dc8 pm8 an8 cd8 ct8), sl8⟩) (c8 : PySem.W.codeIn K cd8 "compare" = true) (k8 : PySem.W.keepIn K (.ref f8) = true)
    (a9 : PySem.W.nsIn K mainGlobals "_law_cell" = some (some (.ref f9))) (l9 : K.lookup f9 = some ⟨oc9, od9, .func (PySem.W.fnOf "_law_cell" "_law_cell" (defArgs s_l_cell) (defBody s_l_cell) (defScope s_l_cell) .none kV9 dc9 pm9 an9 cd9 ct9), sl9⟩) (c9 : PySem.W.codeIn K cd9 "_law_cell" = true) (k9 : PySem.W.keepIn K (.ref f9) = true)
    (a10 : PySem.W.nsIn K mainGlobals "_law_pool" = some (some (.ref f10))) (l10 : K.lookup f10 = some ⟨oc10, od10, .func (PySem.W.fnOf "_law_pool" "_law_pool" (defArgs s_l_pool) (defBody s_l_pool) (defScope s_l_pool) .none kV10 dc10 pm10 an10 cd10 ct10), sl10⟩) (c10 : PySem.W.codeIn K cd10 "_law_pool" = true) (k10 : PySem.W.keepIn K (.ref f10) = true)
    (a11 : PySem.W.nsIn K mainGlobals "_law_draw" = some (some (.ref f11))) (l11 : K.lookup f11 = some ⟨oc11, od11, .func (PySem.W.fnOf "_law_draw" "_law_draw" (defArgs s_l_draw) (defBody s_l_draw) (defScope s_l_draw) .none kV11 dc11 pm11 an11 cd11 ct11), sl11⟩) (c11 : PySem.W.codeIn K cd11 "_law_draw" = true) (k11 : PySem.W.keepIn K (.ref f11) = true)
    (a12 : PySem.W.nsIn K mainGlobals "_law_low" = some (some (.ref f12))) (l12 : K.lookup f12 = some ⟨oc12, od12, .func (PySem.W.fnOf "_law_low" "_law_low" (defArgs s_l_low) (defBody s_l_low) (defScope s_l_low) .none kV12 dc12 pm12 an12 cd12 ct12), sl12⟩) (c12 : PySem.W.codeIn K cd12 "_law_low" = true) (k12 : PySem.W.keepIn K (.ref f12) = true)
    (a13 : PySem.W.nsIn K mainGlobals "_law_part" = some (some (.ref f13))) (l13 : K.lookup f13 = some ⟨oc13, od13, .func (PySem.W.fnOf "_law_part" "_law_part" (defArgs s_l_part) (defBody s_l_part) (defScope s_l_part) .none kV13 dc13 pm13 an13 cd13 ct13), sl13⟩) (c13 : PySem.W.codeIn K cd13 "_law_part" = true) (k13 : PySem.W.keepIn K (.ref f13) = true)
    (a14 : PySem.W.nsIn K mainGlobals "_law_mul" = some (some (.ref f14))) (l14 : K.lookup f14 = some ⟨oc14, od14, .func (PySem.W.fnOf "_law_mul" "_law_mul" (defArgs s_l_mul) (defBody s_l_mul) (defScope s_l_mul) .none kV14 dc14 pm14 an14 cd14 ct14), sl14⟩) (c14 : PySem.W.codeIn K cd14 "_law_mul" = true) (k14 : PySem.W.keepIn K (.ref f14) = true)
    (a15 : PySem.W.nsIn K mainGlobals "_law_div" = some (some (.ref f15))) (l15 : K.lookup f15 = some ⟨oc15, od15, .func (PySem.W.fnOf "_law_div" "_law_div" (defArgs s_l_div) (defBody s_l_div) (defScope s_l_div) .none kV15 dc15 pm15 an15 cd15 ct15), sl15⟩) (c15 : PySem.W.codeIn K cd15 "_law_div" = true) (k15 : PySem.W.keepIn K (.ref f15) = true)
    (a16 : PySem.W.nsIn K mainGlobals "_law_less" = some (some (.ref f16))) (l16 : K.lookup f16 = some ⟨oc16, od16, .func (PySem.W.fnOf "_law_less" "_law_less" (defArgs s_l_less) (defBody s_l_less) (defScope s_l_less) .none kV16 dc16 pm16 an16 cd16 ct16), sl16⟩) (c16 : PySem.W.codeIn K cd16 "_law_less" = true) (k16 : PySem.W.keepIn K (.ref f16) = true)
    (a17 : PySem.W.nsIn K mainGlobals "_law_told_right" = some (some (.ref f17))) (l17 : K.lookup f17 = some ⟨oc17, od17, .func (PySem.W.fnOf "_law_told_right" "_law_told_right" (defArgs s_l_told_right) (defBody s_l_told_right) (defScope s_l_told_right) .none kV17 dc17 pm17 an17 cd17 ct17), sl17⟩) (c17 : PySem.W.codeIn K cd17 "_law_told_right" = true) (k17 : PySem.W.keepIn K (.ref f17) = true)
    (a18 : PySem.W.nsIn K mainGlobals "_law_right" = some (some (.ref f18))) (l18 : K.lookup f18 = some ⟨oc18, od18, .func (PySem.W.fnOf "_law_right" "_law_right" (defArgs s_l_right) (defBody s_l_right) (defScope s_l_right) .none kV18 dc18 pm18 an18 cd18 ct18), sl18⟩) (c18 : PySem.W.codeIn K cd18 "_law_right" = true) (k18 : PySem.W.keepIn K (.ref f18) = true)
    (a19 : PySem.W.nsIn K mainGlobals "law" = some (some (.ref f19))) (l19 : K.lookup f19 = some ⟨oc19, od19, .func (PySem.W.fnOf "law" "law" (defArgs s_law) (defBody s_law) (defScope s_law) .none kV19 dc19 pm19 an19 cd19 ct19), sl19⟩) (c19 : PySem.W.codeIn K cd19 "law" = true) (k19 : PySem.W.keepIn K (.ref f19) = true)
    (z_isinstance : PySem.W.nsIn K mainGlobals "isinstance" = some none)
    (z_int : PySem.W.nsIn K mainGlobals "int" = some none)
    (z_bool : PySem.W.nsIn K mainGlobals "bool" = some none)
    (z_len : PySem.W.nsIn K mainGlobals "len" = some none)
    (z_abs : PySem.W.nsIn K mainGlobals "abs" = some none)
    (z_divmod : PySem.W.nsIn K mainGlobals "divmod" = some none)
    (z_repr : PySem.W.nsIn K mainGlobals "repr" = some none)
    (z_range : PySem.W.nsIn K mainGlobals "range" = some none)
    (z_all : PySem.W.nsIn K mainGlobals "all" = some none)
    (z_max : PySem.W.nsIn K mainGlobals "max" = some none)
    (z_min : PySem.W.nsIn K mainGlobals "min" = some none)
    (z_tuple : PySem.W.nsIn K mainGlobals "tuple" = some none)
    : ∃ fd : FuncData, (∀ (s : Shared) (u : Value), BindsTo s fd ⟨[u], []⟩ [("_law_script", u)]) ∧ ∀ base : Heap, K.In base → base.Ns mainGlobals mg → FnG l.prog w K mg base CX0 8 fa fd ["_law_script"] (spLaw K) := by
  have e := hfa.symm.trans (PySem.W.mg_of X G a19)
  cases e
  have F0 := fun_mk (st := s_is_integer) l0 c0 k0
  have b0 := F0.binds (ps := ["value"]) fun _ _ _ _ _ _ us hl => match us, hl with | [_], _ => rfl
  have m0 := PySem.W.mg_of X G a0
  have F1 := fun_mk (st := s_is_positive) l1 c1 k1
  have b1 := F1.binds (ps := ["value"]) fun _ _ _ _ _ _ us hl => match us, hl with | [_], _ => rfl
  have m1 := PySem.W.mg_of X G a1
  have F2 := fun_mk (st := s_common_divisor) l2 c2 k2
  have b2 := F2.binds (ps := ["one", "other"]) fun _ _ _ _ _ _ us hl => match us, hl with | [_, _], _ => rfl
  have m2 := PySem.W.mg_of X G a2
  have F3 := fun_mk (st := s_lowest_terms) l3 c3 k3
  have b3 := F3.binds (ps := ["top", "bottom"]) fun _ _ _ _ _ _ us hl => match us, hl with | [_, _], _ => rfl
  have m3 := PySem.W.mg_of X G a3
  have F4 := fun_mk (st := s_is_fraction) l4 c4 k4
  have b4 := F4.binds (ps := ["value"]) fun _ _ _ _ _ _ us hl => match us, hl with | [_], _ => rfl
  have m4 := PySem.W.mg_of X G a4
  have F5 := fun_mk (st := s_check_fractions) l5 c5 k5
  have b5 := F5.binds (ps := ["values"]) fun _ _ _ _ _ _ us hl => match us, hl with | [_], _ => rfl
  have m5 := PySem.W.mg_of X G a5
  have F6 := fun_mk (st := s_quotient) l6 c6 k6
  have b6 := F6.binds (ps := ["one", "other"]) fun _ _ _ _ _ _ us hl => match us, hl with | [_, _], _ => rfl
  have m6 := PySem.W.mg_of X G a6
  have F7 := fun_mk (st := s_order) l7 c7 k7
  have b7 := F7.binds (ps := ["left", "right"]) fun _ _ _ _ _ _ us hl => match us, hl with | [_, _], _ => rfl
  have m7 := PySem.W.mg_of X G a7
  have F8 := fun_mk (st := s_compare) l8 c8 k8
  have b8 := F8.binds (ps := ["one", "other"]) fun _ _ _ _ _ _ us hl => match us, hl with | [_, _], _ => rfl
  have m8 := PySem.W.mg_of X G a8
  have F9 := fun_mk (st := s_l_cell) l9 c9 k9
  have b9 := F9.binds (ps := ["_law_script", "_law_k"]) fun _ _ _ _ _ _ us hl => match us, hl with | [_, _], _ => rfl
  have m9 := PySem.W.mg_of X G a9
  have F10 := fun_mk (st := s_l_pool) l10 c10 k10
  have b10 := F10.binds (ps := ["_law_figure"]) fun _ _ _ _ _ _ us hl => match us, hl with | [_], _ => rfl
  have m10 := PySem.W.mg_of X G a10
  have F11 := fun_mk (st := s_l_draw) l11 c11 k11
  have b11 := F11.binds (ps := ["_law_pool_here", "_law_most"]) fun _ _ _ _ _ _ us hl => match us, hl with | [_, _], _ => rfl
  have m11 := PySem.W.mg_of X G a11
  have F12 := fun_mk (st := s_l_low) l12 c12 k12
  have b12 := F12.binds (ps := ["_law_high_part", "_law_low_part"]) fun _ _ _ _ _ _ us hl => match us, hl with | [_, _], _ => rfl
  have m12 := PySem.W.mg_of X G a12
  have F13 := fun_mk (st := s_l_part) l13 c13 k13
  have b13 := F13.binds (ps := ["_law_pool_here", "_law_great"]) fun _ _ _ _ _ _ us hl => match us, hl with | [_, _], _ => rfl
  have m13 := PySem.W.mg_of X G a13
  have F14 := fun_mk (st := s_l_mul) l14 c14 k14
  have b14 := F14.binds (ps := ["_law_lead", "_law_more"]) fun _ _ _ _ _ _ us hl => match us, hl with | [_, _], _ => rfl
  have m14 := PySem.W.mg_of X G a14
  have F15 := fun_mk (st := s_l_div) l15 c15 k15
  have b15 := F15.binds (ps := ["_law_lead", "_law_more"]) fun _ _ _ _ _ _ us hl => match us, hl with | [_, _], _ => rfl
  have m15 := PySem.W.mg_of X G a15
  have F16 := fun_mk (st := s_l_less) l16 c16 k16
  have b16 := F16.binds (ps := ["_law_lead", "_law_more"]) fun _ _ _ _ _ _ us hl => match us, hl with | [_, _], _ => rfl
  have m16 := PySem.W.mg_of X G a16
  have F17 := fun_mk (st := s_l_told_right) l17 c17 k17
  have b17 := F17.binds (ps := ["_law_lead", "_law_more"]) fun _ _ _ _ _ _ us hl => match us, hl with | [_, _], _ => rfl
  have m17 := PySem.W.mg_of X G a17
  have F18 := fun_mk (st := s_l_right) l18 c18 k18
  have b18 := F18.binds (ps := ["_law_pool_here"]) fun _ _ _ _ _ _ us hl => match us, hl with | [_], _ => rfl
  have m18 := PySem.W.mg_of X G a18
  have F19 := fun_mk (st := s_law) l19 c19 k19
  have b19 := F19.binds (ps := ["_law_script"]) fun _ _ _ _ _ _ us hl => match us, hl with | [_], _ => rfl
  have m19 := PySem.W.mg_of X G a19
  have n_isinstance := PySem.W.mg_none_of X G z_isinstance
  have n_int := PySem.W.mg_none_of X G z_int
  have n_bool := PySem.W.mg_none_of X G z_bool
  have n_len := PySem.W.mg_none_of X G z_len
  have n_abs := PySem.W.mg_none_of X G z_abs
  have n_divmod := PySem.W.mg_none_of X G z_divmod
  have n_repr := PySem.W.mg_none_of X G z_repr
  have n_range := PySem.W.mg_none_of X G z_range
  have n_all := PySem.W.mg_none_of X G z_all
  have n_max := PySem.W.mg_none_of X G z_max
  have n_min := PySem.W.mg_none_of X G z_min
  have n_tuple := PySem.W.mg_none_of X G z_tuple
  refine ⟨PySem.W.fnOf "law" "law" (defArgs s_law) (defBody s_law) (defScope s_law) .none kV19 dc19 pm19 an19 cd19 ct19, fun s u => .of_eq rfl, fun base inB nsB => ?_⟩
  have g0 := ok_is_positive F1 (ok_is_integer (P := l.prog) (w := w) (mg := mg) (base := base) F0 n_isinstance n_int n_bool) b0 k0 m0
  have g1 := ok_common_divisor (P := l.prog) (w := w) (mg := mg) (base := base) F2
  have g2 := ok_lowest_terms F3 g1 b2 k2 m2
  have g3 := ok_is_fraction_good F4 n_isinstance n_tuple n_len g0 b1 k1 m1 g1 b2 k2 m2
  have g4 := ok_check_good F5 g3 b4 k4 m4
  have g5 := ok_quot_good F6 g4 b5 k5 m5 g2 b3 k3 m3
  have g6 := ok_comp_good F8 g4 b5 k5 m5 (ok_order (P := l.prog) (w := w) (mg := mg) (base := base) F7) b7 k7 m7
  have l0 := ok_cell (P := l.prog) (w := w) (mg := mg) (base := base) F9 n_len
  have l1 := ok_pool (P := l.prog) (w := w) (mg := mg) (base := base) F10 n_abs
  have l2 := ok_draw (P := l.prog) (w := w) (mg := mg) (base := base) F11 n_divmod
  have l3 := ok_llow (P := l.prog) (w := w) (mg := mg) (base := base) F12
  have l4 := ok_part F13 l2 b11 k11 m11 l3 b12 k12 m12
  have l5 := ok_lmul F14 l3 b12 k12 m12
  have l6 := ok_ldiv F15 l3 b12 k12 m12
  have l7 := ok_lless (P := l.prog) (w := w) (mg := mg) (base := base) F16
  have l8 := ok_told4 F17 n_repr n_int (.of l7) b16 k16 m16 (.of g6) b8 (two_calls_comp F8) k8 m8 (.of g5) b6 (two_calls_quot F6) k6 m6 (.of l6) b15 k15 m15
  have l9 := ok_right4 F18 n_range n_all l4 b13 k13 m13 l3 b12 k12 m12 l2 b11 k11 m11 l5 b14 k14 m14 l8 b17 k17 m17
  exact ok_law F19 n_repr n_all n_range n_max n_min n_len l9 b18 k18 m18 l1 b10 k10 m10 l0 b9 k9 m9 (.of g6) b8 k8 m8 (.of g5) b6 k6 m6 l8 b17 k17 m17
end Gd
open PySem PySem.W PyProof.Rows
set_option maxRecDepth 100000 in
set_option maxHeartbeats 0 in
theorem PySem.Challenge.cw_sizechains_k04_quotients_and_comparisons_holds : PySem.Challenge.rw_sizechains_k04_quotients_and_comparisons.Holds := by
  w_on; o_law; k_head; (case hw => w_witness2)
  k_fill
  refine Gd.walkG (l := PySem.Challenge.rw_sizechains_k04_quotients_and_comparisons) (k := 8) (n := 63) (x := "_law_script") (sp := Gd.spLaw) rfl (by decide) rfl ⟨rfl, by decide, by decide⟩ (fun w h Y => PySem.W.kIn_of Y) ?F (fun K H a ns hl _ hS => ⟨a, ns, rfl, hS, hl, fun _ => rfl⟩)
  case F =>
    intro w mg fa h KX G hmg
    refine' Gd.all_mk KX G hmg ?a0 ?l0 ?c0 ?k0 ?a1 ?l1 ?c1 ?k1 ?a2 ?l2 ?c2 ?k2 ?a3 ?l3 ?c3 ?k3 ?a4 ?l4 ?c4 ?k4 ?a5 ?l5 ?c5 ?k5 ?a6 ?l6 ?c6 ?k6 ?a7 ?l7 ?c7 ?k7 ?a8 ?l8 ?c8 ?k8 ?a9 ?l9 ?c9 ?k9 ?a10 ?l10 ?c10 ?k10 ?a11 ?l11 ?c11 ?k11 ?a12 ?l12 ?c12 ?k12 ?a13 ?l13 ?c13 ?k13 ?a14 ?l14 ?c14 ?k14 ?a15 ?l15 ?c15 ?k15 ?a16 ?l16 ?c16 ?k16 ?a17 ?l17 ?c17 ?k17 ?a18 ?l18 ?c18 ?k18 ?a19 ?l19 ?c19 ?k19 ?z_isinstance ?z_int ?z_bool ?z_len ?z_abs ?z_divmod ?z_repr ?z_range ?z_all ?z_max ?z_min ?z_tuple
    (case a0 => k_is)
    (case l0 => k_is)
    (case c0 => k_is)
    (case k0 => k_is)
    (case a1 => k_is)
    (case l1 => k_is)
    (case c1 => k_is)
    (case k1 => k_is)
    (case a2 => k_is)
    (case l2 => k_is)
    (case c2 => k_is)
    (case k2 => k_is)
    (case a3 => k_is)
    (case l3 => k_is)
    (case c3 => k_is)
    (case k3 => k_is)
    (case a4 => k_is)
    (case l4 => k_is)
    (case c4 => k_is)
    (case k4 => k_is)
    (case a5 => k_is)
    (case l5 => k_is)
    (case c5 => k_is)
    (case k5 => k_is)
    (case a6 => k_is)
    (case l6 => k_is)
    (case c6 => k_is)
    (case k6 => k_is)
    (case a7 => k_is)
    (case l7 => k_is)
    (case c7 => k_is)
    (case k7 => k_is)
    (case a8 => k_is)
    (case l8 => k_is)
    (case c8 => k_is)
    (case k8 => k_is)
    (case a9 => k_is)
    (case l9 => k_is)
    (case c9 => k_is)
    (case k9 => k_is)
    (case a10 => k_is)
    (case l10 => k_is)
    (case c10 => k_is)
    (case k10 => k_is)
    (case a11 => k_is)
    (case l11 => k_is)
    (case c11 => k_is)
    (case k11 => k_is)
    (case a12 => k_is)
    (case l12 => k_is)
    (case c12 => k_is)
    (case k12 => k_is)
    (case a13 => k_is)
    (case l13 => k_is)
    (case c13 => k_is)
    (case k13 => k_is)
    (case a14 => k_is)
    (case l14 => k_is)
    (case c14 => k_is)
    (case k14 => k_is)
    (case a15 => k_is)
    (case l15 => k_is)
    (case c15 => k_is)
    (case k15 => k_is)
    (case a16 => k_is)
    (case l16 => k_is)
    (case c16 => k_is)
    (case k16 => k_is)
    (case a17 => k_is)
    (case l17 => k_is)
    (case c17 => k_is)
    (case k17 => k_is)
    (case a18 => k_is)
    (case l18 => k_is)
    (case c18 => k_is)
    (case k18 => k_is)
    (case a19 => k_is)
    (case l19 => k_is)
    (case c19 => k_is)
    (case k19 => k_is)
    (case z_isinstance => k_is)
    (case z_int => k_is)
    (case z_bool => k_is)
    (case z_len => k_is)
    (case z_abs => k_is)
    (case z_divmod => k_is)
    (case z_repr => k_is)
    (case z_range => k_is)
    (case z_all => k_is)
    (case z_max => k_is)
    (case z_min => k_is)
    (case z_tuple => k_is)
