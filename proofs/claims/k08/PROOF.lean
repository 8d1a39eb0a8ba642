import PyProof.Rows.All
import Wide.All
import OpenK.AllK
import Wide.FinOn
import HandS.ForMost
import HandS.Exc
import HandS.TryOnly
import HandS.ExcOwn
import HandS.WordsExc
import HandS.Flow
import HandS.Wide
import HandS.WideBits
import HandS.Defaults
import HandS.IsInst
import HandS.RaiseMore
import HandS.FStr
import HandS.Text
import HandS.StrMore
import HandS.Star
import HandS.ClsMeth
import HandS.Property
import HandS.CallLocal
import HandS.MakeKwOnly
import KE.KCallOwn
import PyProof.InstSpecial
import PySem.Challenge.RW_sizechains_k08_sizes_made
set_option Elab.async false
set_option linter.all false
set_option exponentiation.threshold 10000
set_option maxRecDepth 100000
namespace Gd
open PySem PySem.Spec PyProof.Rows L2
def top (i : Nat) : Stmt := PySem.Challenge.pw_sizechains_k08_sizes_made.main.body.getD i (.Pass ⟨0, 0, 0, 0⟩)
abbrev s_InvalidFraction_init : Stmt := inClass (top 2) 0
abbrev s_InvalidText_init : Stmt := inClass (top 3) 0
abbrev s_is_integer : Stmt := top 5
abbrev s_is_positive : Stmt := top 6
abbrev s_common_divisor : Stmt := top 7
abbrev s_lowest_terms : Stmt := top 8
abbrev s_is_fraction : Stmt := top 9
abbrev s_check_fractions : Stmt := top 10
abbrev s_as_fraction : Stmt := top 11
abbrev s_product : Stmt := top 12
abbrev s_quotient : Stmt := top 13
abbrev s_order : Stmt := top 14
abbrev s_compare : Stmt := top 15
abbrev s_format_fraction : Stmt := top 16
abbrev s_is_numeral : Stmt := top 17
abbrev s_find_fraction : Stmt := top 18
abbrev s_Size_init : Stmt := inClass (top 20) 0
abbrev s_Size_read : Stmt := inClass (top 20) 1
abbrev s_Size_ratio : Stmt := inClass (top 20) 2
abbrev s_Size_turned : Stmt := inClass (top 20) 3
abbrev s_Size_eq : Stmt := inClass (top 20) 4
abbrev s_Size_contains : Stmt := inClass (top 20) 5
abbrev s_Size_mul : Stmt := inClass (top 20) 6
abbrev s_Size_str : Stmt := inClass (top 20) 7
abbrev s_Size_repr : Stmt := inClass (top 20) 8
abbrev s_l_cell : Stmt := top 22
abbrev s_l_pool : Stmt := top 23
abbrev s_l_draw : Stmt := top 24
abbrev s_l_low : Stmt := top 25
abbrev s_l_mul : Stmt := top 26
abbrev s_l_div : Stmt := top 27
abbrev s_l_part : Stmt := top 28
abbrev s_l_sides : Stmt := top 29
abbrev s_l_shown : Stmt := top 30
abbrev s_l_given : Stmt := top 31
abbrev s_l_made : Stmt := top 32
abbrev s_l_told : Stmt := top 33
abbrev s_l_due : Stmt := top 34
abbrev s_l_right : Stmt := top 35
abbrev s_law : Stmt := top 36
/-! ### base0.lean -/
/-! repr of data at any depth, where no repr is running around -/
structure RRepr (K : PySem.W.Frag) (xs : List V) (H : Hp) (Q : VK) : Prop where
  ex : ∃ (v : V) (d : PyData), xs = [v] ∧ Dp K H v d ∧ isDisplay d = true ∧ d.showable = true ∧ d.hasDict = false ∧ d.depth ≤ 64 ∧ d.shown.length ≤ sizeLine ∧ Q (.str d.shown) H
theorem reprData {X : Cx} (gds : X.A.guards = some []) (room : X.A.units + 70 < cLine) : CallR X (.builtin "repr") (RRepr X.K) := by
  intro pins st sl H xs us Q inv vals want
  obtain ⟨v, d, e, dp, dis, sh, nod, dep, len, q⟩ := want.ex
  subst e
  obtain ⟨u, eu, rel⟩ := vals1 vals
  subst eu
  obtain ⟨as, rd⟩ := Dp.reads inv d v u dp rel
  obtain ⟨a, ea⟩ := isRef_of_reads rd dis
  subst ea
  refine repr_of_reads' rd sh (PyData.noDict_hsm nod) gds (by omega) (fun _ _ z => z) (fun h' u' tk kp => ?_) len
  exact ⟨.str d.shown, H, inv.kept kp, ⟨_, rfl⟩, q⟩

/-! a def's promise where it is known that no repr is running around -/
structure FnG (P : Program) (w : World) (K : PySem.W.Frag) (mg : Str → Option Value) (base : Heap) (CX : CXT) (k : Nat) (f : Addr) (fd : FuncData) (ps : List Str) (sp : Sp) : Prop where
  len : ∀ vs H Q E, sp vs H Q E → vs.length = ps.length
  go : ∀ (A : Around) (out : List Env) (st : Shared) (H : Hp) (as : Args) (us : List Value) (vs : List V) (Q : VK) (E : XK), A.guards = some [] → Room k A → Env0 P w K mg base A out st H →
    BindsTo st fd as (ps.zip us) → Vals vs us → sp vs H Q E → codeAny (model P w) A (.call (.ref f) as) (CR CX out P w H st Q E) st
section
variable {P : Program} {w : World} {K : PySem.W.Frag} {mg : Str → Option Value} {base : Heap} {CX : CXT} {k : Nat} {f : Addr} {fd : FuncData} {ps : List Str} {sp : Sp}
theorem FnG.of (F : FnOk P w K mg base CX k f fd ps sp) : FnG P w K mg base CX k f fd ps sp :=
  ⟨F.len, fun A out st H as us vs Q E _ r e b v h => F.run A out st H as us vs Q E r e b v h⟩
theorem FnG.up {j : Nat} (F : FnG P w K mg base CX j f fd ps sp) (h : j ≤ k) : FnG P w K mg base CX k f fd ps sp :=
  ⟨F.len, fun A out st H as us vs Q E g r e b v s => F.go A out st H as us vs Q E g (r.mono h) e b v s⟩
theorem FnG.imp {sp' : Sp} (F : FnG P w K mg base CX k f fd ps sp) (h : ∀ vs H Q E, sp' vs H Q E → sp vs H Q E) : FnG P w K mg base CX k f fd ps sp' :=
  ⟨fun vs H Q E q => F.len vs H Q E (h _ _ _ _ q), fun A out st H as us vs Q E g r e b v s => F.go A out st H as us vs Q E g r e b v (h _ _ _ _ s)⟩

/-- by the body -/
theorem okG0 {name qual : Str} {params : Arguments} {body : List Stmt} {scope : Scope} {dV kV doc pm cdv ct oc : Value} {an od : Option Addr} {osl : Array (Option Value)} {N : List Str}
    (lk : K.lookup f = some ⟨oc, od, .func (PySem.W.fnOf name qual params body scope dV kV doc pm an cdv ct), osl⟩) (code : PySem.W.codeIn K cdv qual = true) (S : FnScope N ps scope)
    (len : ∀ vs H Q E, sp vs H Q E → vs.length = ps.length)
    (walk : ∀ (A : Around) (out : List Env) (st : Shared) (H : Hp) (vs : List V) (Q : VK) (E : XK), A.guards = some [] → Room k (A.deeper (envOfC qual scope st.heap.objs.size f cdv)) → sp vs H Q E →
      ∃ t, PSs (cxOf CX P w K mg base N qual scope f cdv A out st H E) body t ∧ t { nx := fun _ H' => Q .non H', rt := Q } (start N vs) H) :
    FnG P w K mg base CX (k + 1) f (PySem.W.fnOf name qual params body scope dV kV doc pm an cdv ct) ps sp := by
  refine ⟨len, ?_⟩
  intro A out st H as us vs Q E gds room env binds vals want
  have size := len _ _ _ _ want
  have lim : st.heap.NoLimit := env.mod.nolimit.keeps fun b o e => (env.bs b o e).1
  have inK : K.In st.heap := env.mod.kin.keeps fun b o e => (env.bs b o e).1
  have kinds : ∀ y ∈ ps.zip us, scope.names.lookup y.1 = some .local ∨ (scope.names.lookup y.1 = some .cell ∧ ((cellsFrom (st.heap.objs.size + 1) scope.names []).lookup y.1).isSome = true) := by
    rintro ⟨n, v⟩ mem
    have mem1 : n ∈ ps := (List.of_mem_zip mem).1
    cases S.par n mem1 with
    | inl loc => exact Or.inl loc
    | inr cel => exact Or.inr ⟨cel, PySem.W.cellsFrom_some _ _ _ (Or.inl cel)⟩
  refine codeAny_call_function room.depth (inK _ _ lk) rfl S.co S.gen rfl (PySem.W.codeRec_of inK code) (binds _ _ _ _ ?_)
  refine wpAny_newFunctionEnv_cells S.kind kinds fun en hen s1 inn => ?_
  subst hen
  refine ⟨lim.keeps inn.toInCall.keep, codeAny_func ?_⟩
  obtain ⟨t, term, read⟩ := walk A out st H vs Q E gds (room.deeper _) want
  have inv := inv_start (CX := CX) (E := E) S room.hd env size vals inn
  refine wpAny_mono (term.run [] s1 (start N vs) H _ inv read) (fun fl s' hs => ?_) fun _ _ hs => hs
  have done : ∀ {sl' : L2.St} {H' : Hp} {v : V} {u : Value}, Inv (cxOf CX P w K mg base N qual scope f cdv A out st H E) [] sl' H' s' → RelV v u → Q v H' → CE out P w H st Q u s' := by
    intro sl' H' v u J rel q
    exact ⟨v, H', J.os, J.bare, J.base, J.hok, rel, q⟩
  cases fl with
  | next =>
    obtain ⟨_, _, J, q⟩ := hs
    exact done (v := V.non) (u := Value.none) J rfl q
  | ret u =>
    obtain ⟨_, _, _, J, rel, q⟩ := hs
    exact done J rel q
  | brk => exact (hs.choose_spec.choose_spec.2).elim
  | cont => exact (hs.choose_spec.choose_spec.2).elim

/-- a def of the text without defaults, that lets nothing out -/
theorem okG {x qual : Str} {st : Stmt} {N : List Str} (F : Fun K x qual st f fd) (S : FnScope N ps (defScope st)) (len : ∀ vs H Q E, sp vs H Q E → vs.length = ps.length)
    (walk : ∀ (cdv : Value) (A : Around) (out : List Env) (s : Shared) (H : Hp) (vs : List V) (Q : VK) (E : XK), A.guards = some [] → Room k (A.deeper (envOfC qual (defScope st) s.heap.objs.size f cdv)) → sp vs H Q E →
      ∃ t, PSs (cxOf CX0 P w K mg base N qual (defScope st) f cdv A out s H E).nox (defBody st) t ∧ t { nx := fun _ H' => Q .non H', rt := Q } (start N vs) H) :
    FnG P w K mg base CX0 (k + 1) f fd ps sp := by
  obtain ⟨_, _, _, _, _, _, cdv, _, _, e, lk, code⟩ := F.ex
  subst e
  refine okG0 lk code S len ?_
  intro A out s H vs Q E g r want
  obtain ⟨t, term, read⟩ := walk cdv A out s H vs Q E g r want
  exact ⟨t, term.nox, read⟩
/-- one with defaults, that lets nothing out -/
theorem okD {x qual : Str} {st : Stmt} {N : List Str} {dvs : List V} (F : FunD K x qual (defArgs st) (defBody st) (defScope st) dvs [] f fd) (S : FnScope N ps (defScope st)) (len : ∀ vs H Q E, sp vs H Q E → vs.length = ps.length)
    (walk : ∀ (cdv : Value) (A : Around) (out : List Env) (s : Shared) (H : Hp) (vs : List V) (Q : VK) (E : XK), A.guards = some [] → Room k (A.deeper (envOfC qual (defScope st) s.heap.objs.size f cdv)) → sp vs H Q E →
      ∃ t, PSs (cxOf CX0 P w K mg base N qual (defScope st) f cdv A out s H E).nox (defBody st) t ∧ t { nx := fun _ H' => Q .non H', rt := Q } (start N vs) H) :
    FnG P w K mg base CX0 (k + 1) f fd ps sp := by
  obtain ⟨_, _, _, _, _, _, _, cdv, _, _, e, lk, code, _, _⟩ := F.ex
  subst e
  refine okG0 lk code S len ?_
  intro A out s H vs Q E g r want
  obtain ⟨t, term, read⟩ := walk cdv A out s H vs Q E g r want
  exact ⟨t, term.nox, read⟩
end

/-! calls -/
section
variable {X : Cx} {CX : CXT} {k n : Nat} {f : Addr} {fd : FuncData} {ps ks : List Str} {sp : Sp} {dvs : List V} {ds : List Value} {E : XK} {x : Str} {p pos : Pos} {e : Expr} {es : List Expr} {kws : List Keyword} {t tk : TA} {g : List Value → List Value → List Value} {gV : List V → List V → List V}
theorem goG {pins : List (Addr × Obj)} {sl : L2.St} {H : Hp} {s : Shared} {Q : VK} {us0 us : List Value} {kw : List (Str × Value)} {vs : List V} (F : FnG X.prog X.w X.K X.mg X.base CX k f fd ps sp) (gds : X.A.guards = some []) (hr : Room k X.A) (hx : Passes CX X E)
    (inv : Inv X pins sl H s) (b : BindsTo s fd ⟨us0, kw⟩ (ps.zip us)) (r : Vals vs us) (want : sp vs H Q E) : wpAny (model X.prog X.w) X.A (call (.ref f) us0 kw) (EP X pins sl Q) X.xe s := by
  refine wpAny_call (codeAny_mono (F.go X.A X.stack s H ⟨us0, kw⟩ us vs Q E gds hr inv.env0 b r want) fun r s' got => ?_)
  cases r with
  | error e => exact hx pins sl H s e s' inv got
  | ok fl =>
    cases fl with
    | ret u => exact inv.after got
    | next => exact got.elim
    | brk => exact got.elim
    | cont => exact got.elim
theorem callG (F : FnG X.prog X.w X.K X.mg X.base CX k f fd ps sp) (gds : X.A.guards = some []) (hr : Room k X.A) (hg : Gl X x) (hm : X.mg x = some (.ref f)) (hk : PySem.W.keepIn X.K (.ref f) = true) (hb : Binds X.K fd ps ds) (hd : Vals dvs ds) (hx : Passes CX X E)
    (ha : PA X (e :: es) t) (hdb : (x == ("__debug__" : Str)) = false := by decide) (he : starEach (e :: es) X.env = (false, eval e X.env) :: starEach es X.env := by rfl) (hpl : (backTo pos (starEach es X.env)).any (·.1) = false := by rfl) :
    PE X (.Call (.Name x p) (e :: es) [] pos) (tCall sp dvs E t) := by
  constructor
  intro pins s sl H Q inv want
  refine wpAny_Call_Name_kw (ld_glob inv hg hm ?_ hdb)
  refine PySem.W.callWith_K (h₀ := X.base) inv.ok.mod.kin hk (thn (ha.run pos pins s sl H _ inv want) ?_) he hpl
  rintro us s1 ⟨vs, H1, inv1, rel, q⟩
  refine ⟨inv1.kIn, ?_⟩
  have rel2 : Vals (vs ++ dvs) (us ++ ds) := rel.append hd
  have sz : (us ++ ds).length = ps.length := rel2.length.symm.trans (F.len _ _ _ _ q)
  exact goG F gds hr hx inv1 (hb s1 us inv1.kIn sz) rel2 q
theorem callG0 (F : FnG X.prog X.w X.K X.mg X.base CX k f fd ps sp) (gds : X.A.guards = some []) (hr : Room k X.A) (hg : Gl X x) (hm : X.mg x = some (.ref f)) (hk : PySem.W.keepIn X.K (.ref f) = true) (hb : Binds X.K fd ps ds) (hd : Vals dvs ds) (hx : Passes CX X E)
    (hdb : (x == ("__debug__" : Str)) = false := by decide) : PE X (.Call (.Name x p) [] [] pos) (tCall sp dvs E tNil) := by
  constructor
  intro pins s sl H Q inv want
  refine wpAny_Call_Name_kw (ld_glob inv hg hm ?_ hdb)
  refine PySem.W.callWith_K0 inv.kIn hk ?_
  have q : sp dvs H Q E := want
  have sz : (([] : List Value) ++ ds).length = ps.length := hd.length.symm.trans (F.len _ _ _ _ q)
  exact goG F gds hr hx inv (hb s [] inv.kIn sz) hd q
/-- f(e, .., k = v, ..) -/
theorem callGN (F : FnG X.prog X.w X.K X.mg X.base CX k f fd ps sp) (gds : X.A.guards = some []) (hr : Room k X.A) (hg : Gl X x) (hm : X.mg x = some (.ref f)) (hk : PySem.W.keepIn X.K (.ref f) = true) (hb : KBn X.K fd ps n ks g gV) (hx : Passes CX X E)
    (ha : PA X (e :: es) t) (hkw : PK X kws tk) (hall : (backToKw pos (keywordEach kws X.env)).all (·.1.isSome) = true := by rfl) (hks : (backToKw pos (keywordEach kws X.env)).filterMap (·.1) = ks := by rfl)
    (hdb : (x == ("__debug__" : Str)) = false := by decide) (he : starEach (e :: es) X.env = (false, eval e X.env) :: starEach es X.env := by rfl)
    (hpl : ((backTo pos (starEach (e :: es) X.env)).any (·.1) || (backToKw pos (keywordEach kws X.env)).any (·.1.isNone)) = false := by rfl) :
    PE X (.Call (.Name x p) (e :: es) kws pos) (tCallN n ks.length sp gV E t tk) := by
  constructor
  intro pins s sl H Q inv want
  refine wpAny_Call_Name_kw (ld_glob inv hg hm ?_ hdb)
  refine PySem.W.callWith_KW (h₀ := X.base) inv.ok.mod.kin hk hall (thn (ha.run pos pins s sl H _ inv want) ?_) hpl he
  rintro us s1 ⟨vs, H1, inv1, rel, q⟩
  refine thn (hkw.run pos pins s1 sl H1 _ inv1 q) ?_
  rintro ws s2 ⟨zs, H2, inv2, relz, l1, l2, q2⟩
  refine ⟨inv2.kIn, ?_⟩
  rw [hks]
  exact goG F gds hr hx inv2 (hb.to s2 us ws inv2.kIn (rel.length.symm.trans l1) (relz.length.symm.trans l2)) (hb.rel rel relz) q2
/-- f(k = v, ..) -/
theorem callGK (F : FnG X.prog X.w X.K X.mg X.base CX k f fd ps sp) (gds : X.A.guards = some []) (hr : Room k X.A) (hg : Gl X x) (hm : X.mg x = some (.ref f)) (hk : PySem.W.keepIn X.K (.ref f) = true) (hb : KBn X.K fd ps 0 ks g gV) (hx : Passes CX X E)
    (hkw : PK X kws tk) (hall : (backToKw pos (keywordEach kws X.env)).all (·.1.isSome) = true := by rfl) (hks : (backToKw pos (keywordEach kws X.env)).filterMap (·.1) = ks := by rfl)
    (hdb : (x == ("__debug__" : Str)) = false := by decide)
    (hpl : ((backTo pos (starEach [] X.env)).any (·.1) || (backToKw pos (keywordEach kws X.env)).any (·.1.isNone)) = false := by rfl) :
    PE X (.Call (.Name x p) [] kws pos) (tCallN 0 ks.length sp gV E tNil tk) := by
  constructor
  intro pins s sl H Q inv want
  refine wpAny_Call_Name_kw (ld_glob inv hg hm ?_ hdb)
  refine PySem.W.callWith_KW0 (h₀ := X.base) inv.ok.mod.kin hk hall ?_ hpl
  refine thn (hkw.run pos pins s sl H _ inv want) ?_
  rintro ws s2 ⟨zs, H2, inv2, relz, l1, l2, q2⟩
  refine ⟨inv2.kIn, ?_⟩
  rw [hks]
  exact goG F gds hr hx inv2 (hb.to s2 [] ws inv2.kIn rfl (relz.length.symm.trans l2)) (hb.rel .nil relz) q2
end
/-! ### base1.lean -/
/-! the end: the law's promise at the heap behind the top -/
section
variable {P : Program} {w : World} {K : PySem.W.Frag} {mg mb : Str → Option Value} {k : Nat} {fa a : Addr} {fd : FuncData} {x : Str} {sp : Sp} {st : Shared} {vs : List Value} {ns : List Int}
/-- from one abstract heap in which the script alone may be tracked -/
theorem endCore (inK : K.In st.heap) (hns : st.heap.Ns mainGlobals mg) (hb : st.heap.Ns builtinsNs mb) (hbb : ∀ x : Str, x ≠ "__name__" → mb x = bootBuiltins x) (lim : st.heap.NoLimit) (gens : st.gens = #[])
    (ha : st.heap.get? a = some { cls := .type "list", data := .seq vs.toArray }) (hr : Room k callerA)
    (F : ∀ base : Heap, K.In base → base.Ns mainGlobals mg → FnG P w K mg base CX0 k fa fd [x] sp) (bind : ∀ (s : Shared) (u : Value), BindsTo s fd ⟨[u], []⟩ [(x, u)])
    {H : Hp} (only : Only H) (ok : HOk P w H st.heap) (one : ∀ b, H b ≠ none → b = a) (notK : H a ≠ none → K.lookup a = none) (want : sp [.ref a] H (fun v _ => v = .bl true) fun _ _ _ => False) :
    codeAny (model P w) callerA (.call (.ref fa) ⟨[.ref a], []⟩) (fun r s' => r = .ok (.ret (.bool true)) ∧ OldK st.heap s'.heap ∧ s'.os = st.os ∧ AllBare s'.gens) st := by
  have untracked : ∀ {b : Addr} {o : Obj}, st.heap.get? b = some o → (b = a → o.data ≠ .seq vs.toArray) → H b = none := by
    intro b o e n
    refine Option.eq_none_iff_forall_ne_some.mpr fun u z => ?_
    have eb := one b (by rw [z]; exact fun t => nomatch t)
    subst eb
    rw [ha] at e
    cases e
    exact n rfl rfl
  have toBase : ∀ {b : Addr} {m : Str → Option Value}, st.heap.Ns b m → (hidT st.heap H).Ns b m := by
    rintro b m ⟨o, es, ep, e, d, r⟩
    refine ⟨o, es, ep, hidT_get e (untracked e fun _ z => ?_), d, r⟩
    rw [d] at z
    cases z
  have inBase : K.In (hidT st.heap H) := by
    intro b o e
    refine hidT_get (inK b o e) (Option.eq_none_iff_forall_ne_some.mpr fun u z => ?_)
    have nn : H b ≠ none := by rw [z]; exact fun t => nomatch t
    have eb := one b nn
    subst eb
    rw [notK nn] at e
    cases e
  obtain ⟨mc, l1, l2⟩ := lim
  have md : Mod K mg (hidT st.heap H) := ⟨inBase, toBase hns, ⟨mb, toBase hb, hbb⟩, ⟨mc, toBase l1, l2⟩⟩
  have e0 : Env0 P w K mg (hidT st.heap H) callerA [] st H := by
    refine ⟨rfl, md, fun b o e => of_hidT e, Nat.le_of_eq (hidT_size _ _), trivial, fun b hb => ?_, ok, .of_eq gens⟩
    cases hb
  refine codeAny_mono ((F _ inBase md.glob).go callerA [] st H ⟨[.ref a], []⟩ [.ref a] [.ref a] _ _ rfl hr e0 (bind st (.ref a)) (.cons rfl .nil) want) fun r s' got => ?_
  cases r with
  | error e => exact got.elim
  | ok fl =>
    cases fl with
    | next => exact got.elim
    | brk => exact got.elim
    | cont => exact got.elim
    | ret u =>
      obtain ⟨v, H', os, bare, un, ok', rel, q⟩ := got
      have q2 : v = .bl true := q
      subst q2
      have q3 : u = Value.bool true := rel
      subst q3
      refine ⟨rfl, OldK.of_keep ?_, os, bare⟩
      intro b o e
      rcases only b with z | ⟨ob, xs, z⟩
      · refine un.keep b o e z (fun m => ?_) (by simp)
        cases m
      · have z2 := un.frzs b ob _ z
        obtain ⟨e1, _⟩ := ok b _ z
        obtain ⟨e2, _⟩ := ok' b _ z2
        rw [e1] at e
        cases e
        exact e2

theorem endCall (inK : K.In st.heap) (hns : st.heap.Ns mainGlobals mg) (hb : st.heap.Ns builtinsNs mb) (hbb : ∀ x : Str, x ≠ "__name__" → mb x = bootBuiltins x) (lim : st.heap.NoLimit) (gens : st.gens = #[])
    (ha : st.heap.get? a = some { cls := .type "list", data := .seq vs.toArray }) (hi : IntsAre vs ns) (hl : ns.length ≤ sizeLine) (hr : Room k callerA)
    (F : ∀ base : Heap, K.In base → base.Ns mainGlobals mg → FnG P w K mg base CX0 k fa fd [x] sp) (bind : ∀ (s : Shared) (u : Value), BindsTo s fd ⟨[u], []⟩ [(x, u)])
    (want : ∀ H : Hp, Only H → SqL K H a (ns.map V.int) → sp [.ref a] H (fun v _ => v = .bl true) fun _ _ _ => False) :
    codeAny (model P w) callerA (.call (.ref fa) ⟨[.ref a], []⟩) (fun r s' => r = .ok (.ret (.bool true)) ∧ OldK st.heap s'.heap ∧ s'.os = st.os ∧ AllBare s'.gens) st := by
  have rv := vals_ints hi
  cases hk : K.lookup a with
  | some o =>
    have e := inK a o hk
    rw [ha] at e
    cases e
    have seq : SqL K (fun _ => none) a (ns.map V.int) := .inr ⟨_, vs.toArray, _, hk, rfl, rfl, rfl, by rw [List.size_toArray, hi.length]; exact hl, by simpa using rv⟩
    refine endCore inK hns hb hbb lim gens ha hr F bind (fun _ => .inl rfl) ?_ (fun b z => absurd rfl z) (fun z => absurd rfl z) (want _ (fun _ => .inl rfl) seq)
    intro b u z
    cases (show (none : Option HO) = some u from z)
  | none =>
    have at_a : (fun b => if b = a then some (HO.frz { cls := .type "list", data := .seq vs.toArray } (.lst (ns.map V.int))) else none) a = some (HO.frz { cls := .type "list", data := .seq vs.toArray } (.lst (ns.map V.int))) := if_pos rfl
    have only : Only (fun b => if b = a then some (HO.frz { cls := .type "list", data := .seq vs.toArray } (.lst (ns.map V.int))) else none) := by
      intro b
      by_cases e : b = a
      · exact .inr ⟨_, _, if_pos e⟩
      · exact .inl (if_neg e)
    refine endCore inK hns hb hbb lim gens ha hr F bind only ?_ (fun b z => ?_) (fun _ => hk) (want _ only (.inl (.inr ⟨_, at_a⟩)))
    · intro b u z
      by_cases e : b = a
      · subst e
        cases (at_a.symm.trans z)
        exact ⟨ha, by rw [List.length_map]; exact hl, vs, _, rv, ha⟩
      · cases ((if_neg e).symm.trans z)
    · by_cases e : b = a
      · exact e
      · exact absurd (if_neg e) z
end

theorem walkG {l : PySem.W.OpenLaw} {n k : Nat} {q : Program} {loose : List Str} {XP : (Str → Option Value) → Heap → Prop} {YP : World → Heap → Prop} {d : DefRec} {K : Params → PySem.W.Frag} {sp : PySem.W.Frag → Sp} {x : Str}
    (hn : l.most = some n) (hn2 : n ≤ sizeLine) (hdf : d.params.defaults = []) (hr : Room k callerA) (hY : ∀ (w : World) (h : Heap), YP w h → (K w.params).In h)
    (F : ∀ (w : World) (mg : Str → Option Value) (fa : Addr) (h : Heap), (K w.params).In h → h.Ns mainGlobals mg → mg d.name = some (.ref fa) →
      ∃ fd : FuncData, (∀ (s : Shared) (u : Value), BindsTo s fd ⟨[u], []⟩ [(x, u)]) ∧ ∀ base : Heap, (K w.params).In base → base.Ns mainGlobals mg → FnG l.prog w (K w.params) mg base CX0 k fa fd [x] (sp (K w.params)))
    (want : ∀ (K : PySem.W.Frag) (H : Hp) (a : Addr) (ns : List Int), ns.length ≤ n → Only H → SqL K H a (ns.map V.int) → sp K [.ref a] H (fun v _ => v = .bl true) fun _ _ _ => False) :
    PySem.W.WalkO q loose XP YP l.row.toRowW d [] (fun f vs => PySem.call f vs) := by
  refine Att.attach_call hn hdf ?_
  intro w s₀ s₁ mg mb fa o pm cd doc a vs ns G Y ho hd hcd hmg hobj hints hlen hg
  obtain ⟨fd, hb, hF⟩ := F w mg fa _ (hY w _ Y) G.T.g hmg
  exact endCall (hY w _ Y) G.T.g G.T.b G.T.builtins G.T.nolimit hg hobj hints (Nat.le_trans hlen hn2) hr hF hb fun H only seq => want (K w.params) H a ns hlen only seq

/-! arguments where some parameters have defaults -/
theorem bindD {K : PySem.W.Frag} {x qual : Str} {params : Arguments} {body : List Stmt} {scope : Scope} {dvs : List V} {f : Addr} {fd : FuncData} {ps : List Str}
    (F : FunD K x qual params body scope dvs [] f fd) (n : Nat) (ks : List Str) (g : {α : Type} → List α → List α → List α → List α) (some_ : dvs ≠ [])
    (rel : ∀ {vs ds zs : List V} {us its ws : List Value}, Vals vs us → Vals ds its → Vals zs ws → Vals (g vs ds zs) (g us its ws))
    (h : ∀ (T : Addr) (kV doc pm : Value) (an : Option Addr) (cdv ct : Value) (us its ws : List Value), us.length = n → its.length = dvs.length → ws.length = ks.length →
      ∃ k, bindArgs (PySem.W.fnOf x qual params body scope (.ref T) kV doc pm an cdv ct) ⟨us, ks.zip ws⟩ = seqItems? (.ref T) >>= k ∧ k (some its.toArray) = pure (ps.zip (g us its ws))) :
    ∃ its : List Value, KBn K fd ps n ks (fun us ws => g us its ws) (fun vs zs => g vs dvs zs) := by
  obtain ⟨oc, od, dV, kV, doc, pm, an, cdv, ct, osl, e, lk, hcd, hD, hK⟩ := F.ex
  subst e
  rcases hD with ⟨e, _⟩ | ⟨_, T, o, its, m, e, lT, oT, rT⟩
  · exact absurd e some_
  · subst e
    refine ⟨its, ⟨fun s us ws inK l1 l2 => ?_, fun r1 r2 => rel r1 rT r2⟩⟩
    obtain ⟨k, e1, e2⟩ := h T kV doc pm an cdv ct us its ws l1 rT.length.symm l2
    refine BindsTo.of_looks fun M => ?_
    rw [e1]
    exact looks_items inK lT oT (.of_pure e2)
/-- the same without any default -/
theorem bindN {K : PySem.W.Frag} {x qual : Str} {st : Stmt} {f : Addr} {fd : FuncData} {ps : List Str} (F : Fun K x qual st f fd) (n : Nat) (ks : List Str) (g : {α : Type} → List α → List α → List α)
    (rel : ∀ {vs zs : List V} {us ws : List Value}, Vals vs us → Vals zs ws → Vals (g vs zs) (g us ws))
    (h : ∀ (kV doc pm : Value) (an : Option Addr) (cdv ct : Value) (us ws : List Value), us.length = n → ws.length = ks.length →
      bindArgs (PySem.W.fnOf x qual (defArgs st) (defBody st) (defScope st) .none kV doc pm an cdv ct) ⟨us, ks.zip ws⟩ = pure (ps.zip (g us ws))) :
    KBn K fd ps n ks (fun us ws => g us ws) (fun vs zs => g vs zs) := by
  obtain ⟨oc, od, kV, doc, pm, an, cdv, ct, osl, e, lk, hcd⟩ := F.ex
  subst e
  exact ⟨fun s us ws _ l1 l2 => .of_eq (h kV doc pm an cdv ct us ws l1 l2), fun r1 r2 => rel r1 r2⟩
/-! ### sm.lean -/
/-! what repr shows is short enough: a bound of its depth and of its length -/
structure Sm (k n : Nat) (d : PyData) : Prop where
  sh : d.showable = true
  nd : d.hasDict = false
  dp : d.depth ≤ k
  ln : d.shown.length ≤ n
structure SmL (k n : Nat) (ds : List PyData) : Prop where
  sh : PyData.showableAll ds = true
  nd : PyData.hasDictAll ds = false
  dp : PyData.depthAll ds ≤ k
  ln : ((PyData.shownAll ds).map (·.length)).sum + 2 * ds.length ≤ n
theorem Sm.up {j k n m : Nat} {d : PyData} (h : Sm j n d) (le2 : j ≤ k) (le : n ≤ m) : Sm k m d := ⟨h.sh, h.nd, Nat.le_trans h.dp le2, Nat.le_trans h.ln le⟩
theorem SmL.nil {k : Nat} : SmL k 0 [] := ⟨by simp only [PyData.showableAll], by simp only [PyData.hasDictAll], by simp only [PyData.depthAll]; omega, by rw [PyData.shownAll_nil]; exact Nat.le_refl _⟩
theorem SmL.cons {k n m : Nat} {d : PyData} {ds : List PyData} (h : Sm k n d) (t : SmL k m ds) : SmL k (n + m + 2) (d :: ds) := by
  refine ⟨by simp only [PyData.showableAll, h.sh, t.sh, Bool.and_self], by simp only [PyData.hasDictAll, h.nd, t.nd, Bool.or_self], ?_, ?_⟩
  · have h1 := h.dp
    have h2 := t.dp
    simp only [PyData.depthAll]
    omega
  · have h1 := h.ln
    have h2 := t.ln
    rw [PyData.shownAll_cons]
    simp only [List.map_cons, List.sum_cons, List.length_cons]
    omega
theorem Sm.lst {k n : Nat} {ds : List PyData} (h : SmL k n ds) : Sm (k + 1) (n + 3) (.list ds) := by
  refine ⟨by simp only [PyData.showable, h.sh], by simp only [PyData.hasDict, h.nd], ?_, ?_⟩
  · have := h.dp
    simp only [PyData.depth]
    omega
  · have h1 := h.ln
    have h2 := listText_len_le (PyData.shownAll ds)
    rw [PyData.shownAll_length] at h2
    simp only [PyData.shown]
    omega
theorem Sm.tup {k n : Nat} {ds : List PyData} (h : SmL k n ds) : Sm (k + 1) (n + 3) (.tuple ds) := by
  refine ⟨by simp only [PyData.showable, h.sh], by simp only [PyData.hasDict, h.nd], ?_, ?_⟩
  · have := h.dp
    simp only [PyData.depth]
    omega
  · have h1 := h.ln
    have h2 := tupleText_len_le (PyData.shownAll ds)
    rw [PyData.shownAll_length] at h2
    simp only [PyData.shown]
    omega
theorem two_ten : (2 : Nat) ^ 1900 < 10 ^ 600 := by decide +kernel
theorem intlen {i : Int} (h : i.natAbs < 2 ^ 1900) : (Str.ofString (toString i)).length ≤ 601 := by
  rw [PySem.ofString_length]
  exact PySem.int_text_length_le10 (k := 600) (by decide) (Nat.lt_trans h two_ten)
theorem Sm.int {i : Int} (h : i.natAbs < 2 ^ 1900) : Sm 1 601 (.int i) := by
  have l : i.natAbs.log2 < 1900 := PySem.Flt.log2_lt_of (by decide) h
  refine ⟨?_, by simp only [PyData.hasDict], by simp only [PyData.depth]; omega, ?_⟩
  · have := PyData.showableAll_ints [i] (fun n m => by rw [List.mem_singleton.mp m]; omega)
    simpa only [List.map_cons, List.map_nil, PyData.showableAll, Bool.and_true] using this
  · rw [PyData.shown_int]
    exact intlen h
theorem Sm.bool (b : Bool) : Sm 1 5 (.bool b) := by
  refine ⟨by simp only [PyData.showable], by simp only [PyData.hasDict], by simp only [PyData.depth]; omega, ?_⟩
  rw [PyData.shown_bool]
  cases b <;> decide
/-- equal pairs of ints -/
theorem Sm.pair {a b : Int} (ha : a.natAbs < 2 ^ 1900) (hb : b.natAbs < 2 ^ 1900) : Sm 2 1300 (.tuple [.int a, .int b]) := (Sm.tup ((SmL.cons (Sm.int ha) (SmL.cons (Sm.int hb) SmL.nil)))).up (by decide) (by decide)
/-- what the rule of repr asks, at once -/
theorem repQ {K : PySem.W.Frag} {H : Hp} {Q : VK} {v : V} {d : PyData} {k n : Nat} (dp : Dp K H v d) (dis : isDisplay d = true) (sm : Sm k n d) (hk : k ≤ 64) (hn : n ≤ 16777216) (q : Q (.str d.shown) H) :
    RRepr K [v] H Q :=
  ⟨v, d, rfl, dp, dis, sm.sh, sm.nd, Nat.le_trans sm.dp hk, Nat.le_trans sm.ln (by rw [sizeLine_eq]; exact hn), q⟩
/-! ### rev2.lean -/
/-! t[::-1] of a pair -/
section
variable {prog : Program} {w : World} {A : Around} {E : Value → Shared → Prop} {s : Shared}
theorem rev2_applied {sl : Addr} {u : Tok} {Q : Int × Int × Nat → Shared → Prop} (hs : s.heap.IsSliceOf sl .none .none (.int (-1) u)) (h : Q (1, -1, 2) s) :
    wpAny (model prog w) A (Builtin.Slice.sliceApplied (.ref sl) (pure ((2 : Nat) : Int))) Q E s := by
  obtain ⟨os, e1, e2, e3⟩ := id hs
  unfold Builtin.Slice.sliceApplied Builtin.Slice.sliceFields
  refine wpAny_bind (wpAny_bind (wpAny_field e1 e3 (x := .none) rfl (wpAny_bind (wpAny_field e1 e3 (x := .none) rfl (wpAny_bind (wpAny_field e1 e3 (x := .int (-1) u) rfl (wpAny_pure ?_)))))))
  refine wpAny_bind (slicePart_int ?_)
  show wpAny _ _ (if ((-1 : Int) == 0) = true then _ else _) _ _ s
  rw [if_neg (by decide)]
  refine wpAny_bind (slicePart_none (wpAny_bind (slicePart_none (wpAny_bind (wpAny_pure ?_)))))
  exact wpAny_pure h
theorem rev2_get {t sl : Addr} {a b : Value} {u : Tok} {Q : Value → Shared → Prop} (ht : IsTup s.heap t #[a, b]) (hs : s.heap.IsSliceOf sl .none .none (.int (-1) u))
    (h : Q (.ref s.heap.objs.size) { s with heap := s.heap.push { cls := .type "tuple", data := .seq #[b, a] } }) : wpAny (model prog w) A (getItem (.ref t) (.ref sl)) Q E s := by
  have fits : sizeOk (.seq #[b, a]) := by show (2 : Nat) ≤ sizeLine; rw [sizeLine_eq]; decide
  obtain ⟨os, hos, hcs, hds⟩ := id hs
  have tys : s.TypeIs (.ref sl) "slice" := ⟨os, hos, hcs⟩
  unfold getItem
  try with_reducible refine wpAny_holding ?_
  first | refine wpAny_bind (wpAny_pure ?_) | skip
  refine wpAny_bind (wpAny_sequenceKey ht.typeIs (by decide) ?_)
  refine wpAny_bind (wpAny_callSpecial?_slot (name := Str.ofString "__getitem__") ht.typeIs PyProof.Rows.slot_tuple_getitem (wpAny_call_entry PyProof.Rows.slot_tuple_getitem ht.typeIs entry_tuple_getitem ?_ (args_tuple_getitem _ _)))
  show wpAny _ _ (Builtin.Tuple.tupleItemsOf (.ref t) >>= _) _ _ s
  refine wpAny_bind (PyProof.Rows.tupleItemsOf_ ht ?_)
  refine wpAny_bind (wpAny_typeOf tys ?_)
  rw [if_pos (by decide)]
  refine wpAny_bind (rev2_applied hs ?_)
  show wpAny _ _ (if ((1 : Int) == 0 && (-1 : Int) == 1 && (2 : Nat) == 2) = true then _ else _) _ _ s
  rw [if_neg (by decide)]
  first
    | exact wpAny_bind (m := Builtin.Tuple.tupleExact _) (wpAny_newObj_type (wpAny_pure ⟨_, rfl, wpAny_pure h⟩) fits)
    | exact wpAny_bind (m := Builtin.Tuple.tupleExact _) (wpAny_newObj_type (wpAny_bind (wpAny_pure (wpAny_pure ⟨_, rfl, wpAny_pure h⟩))) fits)
    | exact wpAny_bind (wpAny_bind (m := Builtin.Tuple.tupleExact _) (wpAny_newObj_type (wpAny_pure (wpAny_pure ⟨_, rfl, wpAny_pure h⟩)) fits))
    | exact wpAny_bind (wpAny_bind (m := Builtin.Tuple.tupleExact _) (wpAny_newObj_type (wpAny_pure ⟨_, rfl, wpAny_pure h⟩) fits))
end
structure RRev2 (K : PySem.W.Frag) (x : V) (H : Hp) (Q : VK) : Prop where
  ex : ∃ a v w, x = .ref a ∧ SqT K H a [v, w] ∧ ∀ p, H p = none → Q (.ref p) (upd H p (.tup [w, v]))
def tRev2 (K : PySem.W.Frag) (te : TE) : TE := fun σ H Q => te σ H fun x H1 => RRev2 K x H1 Q
theorem pe_rev2 {X : Cx} {e : Expr} {te : TE} {k : Nat} {p1 p2 p3 pos : Pos} (he : PE X e te) : PE X (.Subscript e (.Slice none none (some (.UnaryOp .USub (.Constant (.int 1) k p1) p2)) p3) pos) (tRev2 X.K te) := by
  constructor
  intro pins s sl H Q inv want
  refine Subscript_ (thn (he.run pins s sl H _ inv want) ?_)
  rintro v s1 ⟨x, H1, inv1, rel, ⟨a, b, c, ex, hx, q⟩⟩
  subst ex
  cases rel
  have step : PO X (some (.UnaryOp .USub (.Constant (.int 1) k p1) p2)) (tPart (tUn (rU fun i => .int (-i)) (tC (.int 1)))) := po_some (pe_un un_neg pe_int)
  refine wpAny_Slice (thn (po_none.run pins s1 sl H1 (fun o H2 => o = none ∧ H2 = H1) inv1 ⟨rfl, rfl⟩) ?_)
  rintro vl s2 ⟨l, H2, inv2, pl, el, e2⟩
  subst el e2
  refine thn (po_none.run pins s2 sl H2 (fun o H3 => o = none ∧ H3 = H2) inv2 ⟨rfl, rfl⟩) ?_
  rintro vu s3 ⟨u, H3, inv3, pu, eu, e3⟩
  subst eu e3
  refine thn (step.run pins s3 sl H3 (fun o H4 => o = some (-1) ∧ H4 = H3) inv3 ⟨1, rfl, -1, rfl, rfl, rfl⟩) ?_
  rintro vs s4 ⟨o, H4, inv4, ps, eo, e4⟩
  subst eo e4
  cases pl
  cases pu
  cases ps with
  | int _ tk =>
    have inv5 : Inv X pins sl H4 { s4 with heap := s4.heap.push { cls := .type "slice", data := .fields #[.none, .none, .int (-1) tk] } } := inv4.kept (t' := s4.toks) fun b ob q => Heap.get?_push_of_some _ q
    obtain ⟨its, r, ht, hz⟩ := inv5.tuple hx
    obtain ⟨u1, u2, e5, r1, r2⟩ := vals2 r
    subst e5
    show wpAny (model X.prog X.w) X.A (subscriptTail e (.Slice none none (some (.UnaryOp .USub (.Constant (.int 1) k p1) p2)) p3) (.ref a) (.ref s4.heap.objs.size)) (EP X pins sl Q) X.xe _
    refine tail_any (ops := [.ref a, .ref s4.heap.objs.size]) ht.typeIs (PyProof.Rows.slot_tuple_getitem.lookup) ?_ (by with_unfolding_all rfl)
    refine rev2_get (u := tk) ht (Heap.IsSliceOf.new _ _ _ _) ?_
    refine ⟨.ref _, _, inv5.laid (t' := s4.toks) (o := .tup [c, b]) (fun b ob q => Heap.get?_push_of_some _ q) (Nat.le_refl _) ?_, rfl, q _ (inv5.hok.fresh (Nat.le_refl _))⟩
    refine ⟨by show 2 ≤ sizeLine; rw [sizeLine_eq]; decide, [u2, u1], .cons r2 (.cons r1 .nil), IsTup.new _ _⟩
/-! ### exact_low.lean -/
/-! heaps -/
theorem same_upd {H : Hp} {p : Addr} {o : HO} (h : H p = none) : Same H (upd H p o) := fun b u q => by rw [upd_ne (ne_of_none q h)]; exact q

/-! is a value a positive int -/
def isPos : V → Bool
  | .int i => decide (0 < i)
  | _ => false
/-- the value is of a type that is no int -/
def NoInt (K : PySem.W.Frag) (H : Hp) (v : V) : Prop := ∃ t, TyX K H v t ∧ PySem.W.kitOne K t (.type "int") = some false
inductive Any (K : PySem.W.Frag) (H : Hp) : V → Prop where
  | int (i : Int) : Any K H (.int i)
  | bl (b : Bool) : Any K H (.bl b)
  | no {v : V} (h : NoInt K H v) : Any K H v
theorem NoInt.isPos {K : PySem.W.Frag} {H : Hp} {v : V} (h : NoInt K H v) : isPos v = false := by
  obtain ⟨t, ty, e⟩ := h
  cases v with
  | int i =>
    cases ty with
    | base b =>
      cases b with
      | int =>
        have z : PySem.W.kitOne K (.type "int") (.type "int") = some true := kit_ty (by decide +kernel)
        rw [z] at e
        cases e
  | _ => rfl
def isInt : V → Bool
  | .int _ => true
  | _ => false
theorem NoInt.isInt {K : PySem.W.Frag} {H : Hp} {v : V} (h : NoInt K H v) : isInt v = false := by
  obtain ⟨t, ty, e⟩ := h
  cases v with
  | int i =>
    cases ty with
    | base b =>
      cases b with
      | int =>
        have z : PySem.W.kitOne K (.type "int") (.type "int") = some true := kit_ty (by decide +kernel)
        rw [z] at e
        cases e
  | _ => rfl
def spIsInt (K : PySem.W.Frag) : Sp := fun vs H Q _ => ∃ v, vs = [v] ∧ Any K H v ∧ Q (.bl (isInt v)) H
def spIsPos (K : PySem.W.Frag) : Sp := fun vs H Q _ => ∃ v, vs = [v] ∧ Any K H v ∧ Q (.bl (isPos v)) H
section
variable {P : Program} {w : World} {K : PySem.W.Frag} {mg : Str → Option Value} {base : Heap} {f : Addr} {fd : FuncData}
theorem scIsInt : FnScope ["value"] ["value"] (defScope s_is_integer) := ⟨rfl, rfl, rfl, by decide +kernel, rfl, by decide +kernel, by decide +kernel⟩
theorem ok_is_integer (F : Fun K "is_integer" "is_integer" s_is_integer f fd) (m1 : mg "isinstance" = none) (m2 : mg "int" = none) (m3 : mg "bool" = none) :
    FnOk P w K mg base CX0 1 f fd ["value"] (spIsInt K) := by
  refine F.ok scIsInt (fun vs H Q E h => ?_) (fun cdv A outer s H vs Q E hr h => ?_)
  · obtain ⟨v, rfl, _⟩ := h
    rfl
  obtain ⟨v, rfl, a, q⟩ := h
  refine ⟨_, pss_one (ps_ret (pe_and (pe_callB call_isi (by rfl) m1 PyProof.Rows.boot_isinstance (pa_cons (pv 0) (pa_cons (pe_bltn (v := .ty "int") (by rfl) m2 PyProof.Rows.boot_int rfl) pa_nil)))
    (pe_one (pe_not (pe_callB call_isi (by rfl) m1 PyProof.Rows.boot_isinstance (pa_cons (pv 0) (pa_cons (pe_bltn (v := .ty "bool") (by rfl) m3 PyProof.Rows.boot_bool rfl) pa_nil))))))), ?_⟩
  cases a with
  | int i =>
    refine ⟨_, rfl, _, _, _, _, true, rfl, .ty "int", .base (.int i), kit_ty (by decide +kernel), _, rfl, iteT ?_⟩
    exact ⟨_, rfl, _, _, _, _, false, rfl, .ty "bool", .base (.int i), kit_ty (by decide +kernel), _, rfl, q⟩
  | bl b =>
    refine ⟨_, rfl, _, _, _, _, true, rfl, .ty "int", .base (.bl b), kit_ty (by decide +kernel), _, rfl, iteT ?_⟩
    exact ⟨_, rfl, _, _, _, _, true, rfl, .ty "bool", .base (.bl b), kit_ty (by decide +kernel), _, rfl, q⟩
  | no h =>
    rw [h.isInt] at q
    obtain ⟨t, ty, e⟩ := h
    exact ⟨_, rfl, _, _, _, _, false, rfl, .ty "int", ty, e, _, rfl, iteF q⟩
theorem scIsPos : FnScope ["value"] ["value"] (defScope s_is_positive) := ⟨rfl, rfl, rfl, by decide +kernel, rfl, by decide +kernel, by decide +kernel⟩
theorem ok_is_positive {g0 : Addr} {gd0 : FuncData} (F : Fun K "is_positive" "is_positive" s_is_positive f fd)
    (G0 : FnOk P w K mg base CX0 1 g0 gd0 ["value"] (spIsInt K)) (b0 : Binds K gd0 ["value"] []) (k0 : PySem.W.keepIn K (.ref g0) = true) (m0 : mg "is_integer" = some (.ref g0)) :
    FnOk P w K mg base CX0 2 f fd ["value"] (spIsPos K) := by
  refine F.ok scIsPos (fun vs H Q E h => ?_) (fun cdv A outer s H vs Q E hr h => ?_)
  · obtain ⟨v, rfl, _⟩ := h
    rfl
  obtain ⟨v, rfl, a, q⟩ := h
  refine ⟨_, pss_one (ps_ret (pe_and (pe_call G0 hr rfl m0 k0 b0 .nil pass0 (pa_cons (pv 0) pa_nil)) (pe_one (pe_cmpR op_gt (pv 0) pe_int (nomark _))))), ?_⟩
  refine ⟨_, rfl, v, rfl, a, ?_⟩
  cases a with
  | int i => exact ⟨_, rfl, iteT ⟨_, rfl, _, _, rfl, rfl, q⟩⟩
  | bl b => exact ⟨_, rfl, iteF q⟩
  | no h =>
    rw [h.isInt]
    rw [h.isPos] at q
    exact ⟨_, rfl, iteF q⟩

/-! the greatest common divisor -/
def gcdI (a b : Int) : Int := (Int.gcd a b : Int)
theorem gcdI_step {a b : Int} (hb : 0 < b) : gcdI b (a.fmod b) = gcdI a b := by
  unfold gcdI
  rw [Int.fmod_eq_emod_of_nonneg a (by omega), Int.gcd_comm a b, Int.emod_def, Int.mul_comm b, Int.gcd_sub_mul_right_right]
theorem gcdI_zero {a : Int} (ha : 0 < a) : gcdI a 0 = a := by
  unfold gcdI
  rw [Int.gcd_zero_right]
  omega
theorem gcdI_pos {a b : Int} (ha : 0 < a) : 0 < gcdI a b := by
  unfold gcdI
  have := Int.gcd_pos_of_ne_zero_left b (show a ≠ 0 by omega)
  omega
theorem gcdI_le {a b : Int} (ha : 0 < a) : gcdI a b ≤ a := by
  unfold gcdI
  exact Int.le_of_dvd ha (Int.gcd_dvd_left ..)
theorem fmod_lt {a b : Int} (hb : 0 < b) : 0 ≤ a.fmod b ∧ a.fmod b < b := by
  rw [Int.fmod_eq_emod_of_nonneg a (by omega)]
  exact ⟨Int.emod_nonneg _ (by omega), Int.emod_lt_of_pos _ hb⟩
def spGcd : Sp := fun vs H Q _ => ∃ a b : Int, vs = [.int a, .int b] ∧ 0 < a ∧ 0 ≤ b ∧ Q (.int (gcdI a b)) H
theorem scGcd : FnScope ["one", "other"] ["one", "other"] (defScope s_common_divisor) := ⟨rfl, rfl, rfl, by decide +kernel, rfl, by decide +kernel, by decide +kernel⟩
theorem ok_common_divisor (F : Fun K "common_divisor" "common_divisor" s_common_divisor f fd) : FnOk P w K mg base CX0 2 f fd ["one", "other"] spGcd := by
  refine F.ok scGcd (fun vs H Q E h => ?_) (fun cdv A outer s H vs Q E hr h => ?_)
  · obtain ⟨a, b, rfl, _⟩ := h
    rfl
  obtain ⟨a, b, rfl, ha, hb, q⟩ := h
  refine ⟨_, pss_cons (ps_while PassesOwn.never (pt_cmpR op_gt (pv 1) pe_int (nomark _))
      (pss_one (ps_par (i := 0) (j := 1) (by rfl) scGcd.nd rfl rfl (by decide) rfl rfl (pa_cons (pv 1) (pa_cons (pe_op op_modN (pv 0) (pv 1)) pa_nil)) (by rfl))))
    (pss_one (ps_ret (pv 0))), ?_⟩
  refine while_by (fun σ H' => H' = H ∧ ∃ x y : Int, σ = [some (.int x), some (.int y)] ∧ 0 < x ∧ 0 ≤ y ∧ gcdI x y = gcdI a b) (fun σ _ => match σ with | [_, some (.int y)] => y.toNat | _ => 0)
    ⟨rfl, a, b, rfl, ha, hb, rfl⟩ ?_ (fun σ H Q Q' m ⟨v, h1, i, j, e1, e2, k, e3, q⟩ => ⟨v, h1, i, j, e1, e2, k, e3, m _ _ q⟩)
  rintro σ H' ⟨rfl, x, y, rfl, hx, hy, g⟩
  refine ⟨_, rfl, _, _, rfl, rfl, _, rfl, ?_⟩
  refine ite2 (fun c => ?_) (fun c => ?_)
  · have c' : 0 < y := of_decide_eq_true c
    have fm := fmod_lt (a := x) c'
    refine ⟨_, rfl, _, rfl, _, rfl, _, _, rfl, rfl, by omega, _, _, rfl, ?_⟩
    refine ⟨⟨rfl, y, _, rfl, c', fm.1, (gcdI_step c').trans g⟩, ?_⟩
    show (x.fmod y).toNat < y.toNat
    omega
  · have c' : ¬ 0 < y := of_decide_eq_false (Bool.eq_false_iff.mpr c)
    have e : y = 0 := by omega
    subst e
    rw [gcdI_zero hx] at g
    subst g
    exact ⟨_, rfl, q⟩

/-! lowest terms -/
def lowT (a b : Int) : HO := .tup [.int (a / gcdI a b), .int (b / gcdI a b)]
def Bd : Nat := 8000
def big (a : Int) : Prop := 0 < a ∧ a.natAbs < 2 ^ Bd
theorem gcd_div {a b : Int} (ha : big a) (x : Int) : CDivW x (gcdI a b) := wide_div (gcdI_pos ha.1) (b := Bd) (by
  have h1 := gcdI_le (b := b) ha.1
  have h2 := gcdI_pos (b := b) ha.1
  exact wide_le (by omega) h1 ha.2) (by decide) (by decide)
def spLow : Sp := fun vs H Q _ => ∃ a b : Int, vs = [.int a, .int b] ∧ big a ∧ 0 < b ∧ ∀ p, H p = none → Q (.ref p) (upd H p (lowT a b))
theorem scLow : FnScope ["top", "bottom", "divisor"] ["top", "bottom"] (defScope s_lowest_terms) := ⟨rfl, rfl, rfl, by decide +kernel, rfl, by decide +kernel, by decide +kernel⟩
theorem ok_lowest_terms {g : Addr} {gd : FuncData} (F : Fun K "lowest_terms" "lowest_terms" s_lowest_terms f fd) (G : FnOk P w K mg base CX0 2 g gd ["one", "other"] spGcd) (bG : Binds K gd ["one", "other"] []) (kG : PySem.W.keepIn K (.ref g) = true) (mG : mg "common_divisor" = some (.ref g)) :
    FnOk P w K mg base CX0 3 f fd ["top", "bottom"] spLow := by
  refine F.ok scLow (fun vs H Q E h => ?_) (fun cdv A outer s H vs Q E hr h => ?_)
  · obtain ⟨a, b, rfl, _⟩ := h
    rfl
  obtain ⟨a, b, rfl, ha, hb, q⟩ := h
  refine ⟨_, pss_cons (ps_set (i := 2) scLow.nd rfl (.inl rfl) (pe_call G hr rfl mG kG bG .nil pass0 (pa_cons (pv 0) (pa_cons (pv 1) pa_nil))))
    (pss_one (ps_ret (pe_tup (pa_cons (pe_op op_fdivW (pv 0) (pv 2)) (pa_cons (pe_op op_fdivW (pv 1) (pv 2)) pa_nil))))), ?_⟩
  refine ⟨_, rfl, _, rfl, a, b, rfl, ha.1, by omega, ?_⟩
  exact ⟨_, rfl, _, rfl, _, _, rfl, rfl, gcd_div ha a, _, rfl, _, rfl, _, _, rfl, rfl, gcd_div ha b, by show 2 ≤ sizeLine; decide, q⟩

end
/-! ### mid.lean -/
theorem roomR {k : Nat} {A : Around} (r : Room k A) : A.units + 70 < cLine := by have := r.un; omega
/-! numbers that repr can show -/
def mid (a : Int) : Prop := 0 < a ∧ a.natAbs < 2 ^ 1900
theorem mid.big {a : Int} (h : mid a) : big a := ⟨h.1, Nat.lt_of_lt_of_le h.2 (Nat.pow_le_pow_right (by decide) (by decide))⟩
theorem mid_div {a b : Int} (ha : mid a) (hb : 0 < b) : (a / gcdI a b).natAbs < 2 ^ 1900 := by
  have g := gcdI_pos (b := b) ha.1
  have h1 : 0 ≤ a / gcdI a b := Int.ediv_nonneg (by have := ha.1; omega) (by omega)
  have h2 : a / gcdI a b ≤ a := Int.ediv_le_self _ (by have := ha.1; omega)
  exact wide_le h1 h2 ha.2
theorem gcdI_comm (a b : Int) : gcdI a b = gcdI b a := by unfold gcdI; rw [Int.gcd_comm]
theorem mid_div2 {a b : Int} (ha : mid a) (hb : mid b) : (b / gcdI a b).natAbs < 2 ^ 1900 := by rw [gcdI_comm]; exact mid_div hb ha.1
def lowD (a b : Int) : PyData := .tuple [.int (a / gcdI a b), .int (b / gcdI a b)]
theorem lowD_sm {a b : Int} (ha : mid a) (hb : mid b) : Sm 2 1300 (lowD a b) := Sm.pair (mid_div ha hb.1) (mid_div2 ha hb)
theorem lowT_dp {K : PySem.W.Frag} {H : Hp} {p : Addr} {a b : Int} (h : H p = some (lowT a b)) : Dp K H (.ref p) (lowD a b) := .tup (.inl (.inl h)) (.cons (.int _) (.cons (.int _) .nil))
theorem gcdI_one {a : Int} : gcdI a 1 = 1 := by
  unfold gcdI
  rw [Int.gcd_one_right]
  rfl
theorem lowT_one (a : Int) : lowT a 1 = .tup [.int a, .int 1] := by
  unfold lowT
  rw [gcdI_one, Int.ediv_one]
  rfl
theorem lowT_eq {a b x y : Int} (h1 : a / gcdI a b = x) (h2 : b / gcdI a b = y) : lowT a b = .tup [.int x, .int y] := by
  unfold lowT
  rw [h1, h2]
theorem tupD {K : PySem.W.Frag} {H : Hp} {p : Addr} {a b : Int} (h : H p = some (.tup [.int a, .int b])) : Dp K H (.ref p) (.tuple [.int a, .int b]) := .tup (.inl (.inl h)) (.cons (.int _) (.cons (.int _) .nil))
/-! ### frac.lean -/
/-! a fraction: lowest terms, both below 2 ^ n -/
structure Fr (n : Nat) (a b : Int) : Prop where
  a0 : 0 < a
  b0 : 0 < b
  g : gcdI a b = 1
  al : a.natAbs < 2 ^ n
  bl : b.natAbs < 2 ^ n
theorem Fr.up {n m : Nat} {a b : Int} (h : Fr n a b) (le : n ≤ m) : Fr m a b := ⟨h.a0, h.b0, h.g, Nat.lt_of_lt_of_le h.al (Nat.pow_le_pow_right (by decide) le), Nat.lt_of_lt_of_le h.bl (Nat.pow_le_pow_right (by decide) le)⟩
theorem Fr.big {n : Nat} {a b : Int} (h : Fr n a b) (hn : n ≤ 8000) : big a := ⟨h.a0, Nat.lt_of_lt_of_le h.al (Nat.pow_le_pow_right (by decide) hn)⟩
theorem gcdI_low {a b : Int} (ha : 0 < a) : gcdI (a / gcdI a b) (b / gcdI a b) = 1 := by
  have h := gcdI_pos (b := b) ha
  unfold gcdI at h ⊢
  rw [Int.gcd_ediv_gcd_ediv_gcd (by omega)]
  rfl
theorem low_pos {a b : Int} (ha : 0 < a) (hb : 0 < b) : 0 < a / gcdI a b ∧ 0 < b / gcdI a b := by
  have h := gcdI_pos (b := b) ha
  refine ⟨Int.ediv_pos_of_pos_of_dvd ha (by omega) (Int.gcd_dvd_left ..), Int.ediv_pos_of_pos_of_dvd hb (by omega) (Int.gcd_dvd_right ..)⟩
theorem low_le {a b : Int} (ha : 0 < a) (hb : 0 < b) : a / gcdI a b ≤ a ∧ b / gcdI a b ≤ b := ⟨Int.ediv_le_self _ (by omega), Int.ediv_le_self _ (by omega)⟩
theorem fr_low {n : Nat} {a b : Int} (ha : 0 < a) (hb : 0 < b) (la : a.natAbs < 2 ^ n) (lb : b.natAbs < 2 ^ n) : Fr n (a / gcdI a b) (b / gcdI a b) := by
  have p := low_pos ha hb
  have l := low_le ha hb
  exact ⟨p.1, p.2, gcdI_low ha, wide_le (by omega) l.1 la, wide_le (by omega) l.2 lb⟩
theorem low_fr {n : Nat} {a b : Int} (h : Fr n a b) : lowT a b = .tup [.int a, .int b] := by
  unfold lowT
  rw [h.g, Int.ediv_one, Int.ediv_one]
theorem fr_lt {a : Int} {n : Nat} (h : 0 < a) (l : a < 2 ^ n) : a.natAbs < 2 ^ n := by
  have e : ((2 ^ n : Nat) : Int) = (2 : Int) ^ n := by norm_cast
  omega
/-- a fraction stands at p -/
def FrAt (n : Nat) (H : Hp) (p : Addr) (a b : Int) : Prop := H p = some (.tup [.int a, .int b]) ∧ Fr n a b
theorem FrAt.same {n : Nat} {H H' : Hp} {p : Addr} {a b : Int} (h : FrAt n H p a b) (s : Same H H') : FrAt n H' p a b := ⟨s _ _ h.1, h.2⟩
theorem FrAt.seq {n : Nat} {K : PySem.W.Frag} {H : Hp} {p : Addr} {a b : Int} (h : FrAt n H p a b) : SqT K H p [.int a, .int b] := .inl (.inl h.1)
/-- .. as a value -/
def FrV (n : Nat) (H : Hp) (v : V) : Prop := ∃ p a b, v = .ref p ∧ FrAt n H p a b
theorem FrV.same {n : Nat} {H H' : Hp} {v : V} (h : FrV n H v) (s : Same H H') : FrV n H' v := by
  obtain ⟨p, a, b, e, h⟩ := h
  exact ⟨p, a, b, e, h.same s⟩
theorem mul_pos {a b : Int} (ha : 0 < a) (hb : 0 < b) : 0 < a * b := Int.mul_pos ha hb
/-- a weaker reading of an expression -/
theorem pe_weak {X : Cx} {e : Expr} {t t' : TE} (he : PE X e t) (imp : ∀ sl H Q, t' sl H Q → t sl H Q) : PE X e t' := ⟨fun pins s sl H Q inv h => he.run pins s sl H Q inv (imp sl H Q h)⟩
/-! ### exact_check.lean -/
section
variable {P : Program} {w : World} {K : PySem.W.Frag} {mg : Str → Option Value} {base : Heap} {f : Addr} {fd : FuncData}
/-! is_fraction of a fraction -/
theorem scIsFrac : FnScope ["value", "top", "bottom"] ["value"] (defScope s_is_fraction) := ⟨rfl, rfl, rfl, by decide +kernel, rfl, by decide +kernel, by decide +kernel⟩
def spIsFracGood : Sp := fun vs H Q _ => ∃ v, vs = [v] ∧ FrV 8000 H v ∧ Q (.bl true) H
theorem ok_is_fraction_good {g1 g2 : Addr} {gd1 gd2 : FuncData} (F : Fun K "is_fraction" "is_fraction" s_is_fraction f fd) (mi : mg "isinstance" = none) (mt : mg "tuple" = none) (ml : mg "len" = none)
    (G1 : FnOk P w K mg base CX0 2 g1 gd1 ["value"] (spIsPos K)) (b1 : Binds K gd1 ["value"] []) (k1 : PySem.W.keepIn K (.ref g1) = true) (m1 : mg "is_positive" = some (.ref g1))
    (G2 : FnOk P w K mg base CX0 2 g2 gd2 ["one", "other"] spGcd) (b2 : Binds K gd2 ["one", "other"] []) (k2 : PySem.W.keepIn K (.ref g2) = true) (m2 : mg "common_divisor" = some (.ref g2)) :
    FnOk P w K mg base CX0 3 f fd ["value"] spIsFracGood := by
  refine F.ok scIsFrac (fun vs H Q E h => ?_) (fun cdv A outer s H vs Q E hr h => ?_)
  · obtain ⟨v, rfl, _⟩ := h
    rfl
  obtain ⟨v, rfl, ⟨p, a, b, rfl, hp⟩, q⟩ := h
  refine ⟨_, pss_cons (ps_if (PW.pt (pw_or (pt_not (pt_val (pe_callB call_isi (by rfl) mi PyProof.Rows.boot_isinstance (pa_cons (pv 0) (pa_cons (pe_bltn (v := .ty "tuple") (by rfl) mt PyProof.Rows.boot_tuple rfl) pa_nil)))))
      (pw_or1 (pt_cmpR op_ne (pe_callB call_len (by rfl) ml PySem.boot_len (pa_cons (pv 0) pa_nil)) pe_int (nomark _))))) (pss_one (ps_ret pe_bl)) pss_nil)
    (pss_cons (ps_asg (pv 0) (pg_tup (by rfl) (pgs_cons (pg_name (i := 1) scIsFrac.nd rfl (.inl rfl)) (pgs_cons (pg_name (i := 2) scIsFrac.nd rfl (.inl rfl)) pgs_nil))))
    (pss_cons (ps_if (PW.pt (pw_or (pt_not (pt_val (pe_call G1 hr rfl m1 k1 b1 .nil pass0 (pa_cons (pv 1) pa_nil)))) (pw_or1 (pt_not (pt_val (pe_call G1 hr rfl m1 k1 b1 .nil pass0 (pa_cons (pv 2) pa_nil))))))) (pss_one (ps_ret pe_bl)) pss_nil)
    (pss_one (ps_ret (pe_cmpR op_eq (pe_call G2 hr rfl m2 k2 b2 .nil pass0 (pa_cons (pv 1) (pa_cons (pv 2) pa_nil))) pe_int (nomark _)))))), ?_⟩
  refine ⟨_, rfl, _, _, _, _, true, rfl, .ty "tuple", .base (.tup hp.1), kit_ty (by decide +kernel), _, rfl, iteF ?_⟩
  refine ⟨_, rfl, _, _, rfl, .inr ⟨_, hp.seq, rfl⟩, rfl, _, rfl, iteF ?_⟩
  refine ⟨_, rfl, p, _, rfl, hp.seq, rfl, _, _, rfl, _, _, rfl, rfl, ?_⟩
  refine ⟨_, rfl, .int a, rfl, .int a, _, rfl, ?_⟩
  have ha : isPos (.int a) = true := decide_eq_true hp.2.a0
  have hb : isPos (.int b) = true := decide_eq_true hp.2.b0
  rw [ha]
  refine iteF ?_
  refine ⟨_, rfl, .int b, rfl, .int b, _, rfl, ?_⟩
  rw [hb]
  refine iteF ?_
  refine ⟨_, rfl, _, rfl, a, b, rfl, hp.2.a0, by have := hp.2.b0; omega, rfl, ?_⟩
  rw [hp.2.g]
  exact q

/-! check_fractions of fractions -/
theorem scCheck : FnScope ["values", "value"] ["values"] (defScope s_check_fractions) := ⟨rfl, rfl, rfl, by decide +kernel, rfl, by decide +kernel, by decide +kernel⟩
def spCheckGood (K : PySem.W.Frag) : Sp := fun vs H Q _ => ∃ p xs, vs = [.ref p] ∧ SqT K H p xs ∧ (∀ x ∈ xs, FrV 8000 H x) ∧ Q .non H
theorem ok_check_good {g1 : Addr} {gd1 : FuncData} (F : Fun K "check_fractions" "check_fractions" s_check_fractions f fd)
    (G1 : FnOk P w K mg base CX0 3 g1 gd1 ["value"] spIsFracGood) (b1 : Binds K gd1 ["value"] []) (k1 : PySem.W.keepIn K (.ref g1) = true) (m1 : mg "is_fraction" = some (.ref g1)) :
    FnOk P w K mg base CX0 4 f fd ["values"] (spCheckGood K) := by
  refine F.ok scCheck (fun vs H Q E h => ?_) (fun cdv A outer s H vs Q E hr h => ?_)
  · obtain ⟨p, xs, rfl, _⟩ := h
    rfl
  obtain ⟨p, xs, rfl, hp, good, q⟩ := h
  refine ⟨_, pss_one (ps_for PassesOwn.never rfl (pi_tup (pv 0)) (pg_name (i := 1) scCheck.nd rfl (.inl rfl))
      (pss_one (ps_if (pt_not (pt_val (pe_call G1 hr rfl m1 k1 b1 .nil pass0 (pa_cons (pv 1) pa_nil)))) (pss_one ps_never) pss_nil))), ?_⟩
  refine ⟨_, rfl, p, rfl, ⟨_, hp⟩, for_tup (K := K) (a := p) (xs := xs) (fun _ σ H2 => H2 = H ∧ ∃ v, σ = [some (.ref p), v]) ⟨rfl, none, rfl⟩ (fun i σ H2 _ h => ?_) ?_ ?_⟩
  · obtain ⟨rfl, _⟩ := h
    exact hp
  · rintro i x σ H2 hi ⟨rfl, v, rfl⟩
    exact ⟨_, rfl, x, rfl, good x (List.mem_of_getElem? hi), _, rfl, iteF ⟨rfl, _, rfl⟩⟩
  · rintro σ H2 ⟨rfl, v, rfl⟩
    exact q
end
/-! ### quot_bits.lean -/
theorem mulW {a b : Int} (ha : a.natAbs < 2 ^ 3900) (hb : b.natAbs < 2 ^ 3900) : CMulW a b := wide_mul ha hb (by decide) (by decide) (by decide)
theorem big_mul {a b : Int} (a0 : 0 < a) (b0 : 0 < b) (ha : a.natAbs < 2 ^ 3900) (hb : b.natAbs < 2 ^ 3900) : big (a * b) := ⟨mul_pos a0 b0, Nat.lt_of_lt_of_le (wide_lt ha hb) (Nat.pow_le_pow_right (by decide) (by decide))⟩
/-! ### exact_quot.lean -/
section
variable {P : Program} {w : World} {K : PySem.W.Frag} {mg : Str → Option Value} {base : Heap} {f : Addr} {fd : FuncData}
/-! quotient, compare of fractions -/
def gOO {α : Type} (_ ws : List α) : List α := match ws with
  | [b, t] => [t, b]
  | _ => []
def gO1 {α : Type} (us ws : List α) : List α := match us, ws with
  | [x], [b] => [x, b]
  | _, _ => []
/-- how two arguments one, other come by name -/
structure TwoCalls (K : PySem.W.Frag) (fd : FuncData) : Prop where
  oo : KBn K fd ["one", "other"] 0 ["other", "one"] (fun us ws => gOO us ws) (fun vs zs => gOO vs zs)
  o1 : KBn K fd ["one", "other"] 1 ["other"] (fun us ws => gO1 us ws) (fun vs zs => gO1 vs zs)
theorem rel_OO {vs zs : List V} {us ws : List Value} (_ : Vals vs us) (r : Vals zs ws) : Vals (gOO vs zs) (gOO us ws) := by
  cases r with
  | nil => exact .nil
  | cons a r => cases r with
    | nil => exact .nil
    | cons b r => cases r with
      | nil => exact .cons b (.cons a .nil)
      | cons _ _ => exact .nil
theorem rel_O1 {vs zs : List V} {us ws : List Value} (r0 : Vals vs us) (r : Vals zs ws) : Vals (gO1 vs zs) (gO1 us ws) := by
  cases r0 with
  | nil => exact .nil
  | cons x r0 => cases r0 with
    | cons _ _ => exact .nil
    | nil => cases r with
      | nil => exact .nil
      | cons a r => cases r with
        | nil => exact .cons x (.cons a .nil)
        | cons _ _ => exact .nil
def spQuot : Sp := fun vs H Q _ => ∃ p q a b c d, vs = [.ref p, .ref q] ∧ FrAt 3900 H p a b ∧ FrAt 3900 H q c d ∧ ∀ H' t, Same H H' → H t = none → H' t = some (lowT (a * d) (b * c)) → Q (.ref t) H'
theorem two_good {H : Hp} {p q t : Addr} {a b c d : Int} (hp : FrAt 3900 H p a b) (hq : FrAt 3900 H q c d) (ht : H t = none) : ∀ x ∈ [V.ref p, .ref q], FrV 8000 (upd H t (.tup [.ref p, .ref q])) x := by
  have s := same_upd (o := .tup [.ref p, .ref q]) ht
  intro x hx
  simp only [List.mem_cons, List.not_mem_nil, or_false] at hx
  rcases hx with rfl | rfl
  · exact ⟨p, a, b, rfl, s _ _ hp.1, hp.2.up (by decide)⟩
  · exact ⟨q, c, d, rfl, s _ _ hq.1, hq.2.up (by decide)⟩
theorem scQuot : FnScope ["one", "other"] ["one", "other"] (defScope s_quotient) := ⟨rfl, rfl, rfl, by decide +kernel, rfl, by decide +kernel, by decide +kernel⟩
theorem ok_quot_good {g1 g2 : Addr} {gd1 gd2 : FuncData} (F : Fun K "quotient" "quotient" s_quotient f fd)
    (G1 : FnOk P w K mg base CX0 4 g1 gd1 ["values"] (spCheckGood K)) (b1 : Binds K gd1 ["values"] []) (k1 : PySem.W.keepIn K (.ref g1) = true) (m1 : mg "check_fractions" = some (.ref g1))
    (G2 : FnOk P w K mg base CX0 3 g2 gd2 ["top", "bottom"] spLow) (b2 : Binds K gd2 ["top", "bottom"] []) (k2 : PySem.W.keepIn K (.ref g2) = true) (m2 : mg "lowest_terms" = some (.ref g2)) :
    FnOk P w K mg base CX0 5 f fd ["one", "other"] spQuot := by
  refine F.ok scQuot (fun vs H Q E h => ?_) (fun cdv A outer s H vs Q E hr h => ?_)
  · obtain ⟨p, q, a, b, c, d, rfl, _⟩ := h
    rfl
  obtain ⟨p, q, a, b, c, d, rfl, hp, hq, k⟩ := h
  refine ⟨_, pss_cons (ps_expr (pe_call G1 hr rfl m1 k1 b1 .nil pass0 (pa_cons (pe_tup (pa_cons (pv 0) (pa_cons (pv 1) pa_nil))) pa_nil)))
    (pss_one (ps_ret (pe_call G2 (hr.mono (by decide)) rfl m2 k2 b2 .nil pass0 (pa_cons (pe_op op_mulW (pe_ix ix_tup (pv 0) pe_int (fun _ _ => rfl)) (pe_ix ix_tup (pv 1) pe_int (fun _ _ => rfl))) (pa_cons (pe_op op_mulW (pe_ix ix_tup (pv 0) pe_int (fun _ _ => rfl)) (pe_ix ix_tup (pv 1) pe_int (fun _ _ => rfl))) pa_nil))))), ?_⟩
  refine ⟨_, rfl, _, rfl, by show 2 ≤ sizeLine; decide, fun t ht => ?_⟩
  have s1 := same_upd (o := .tup [.ref p, .ref q]) ht
  refine ⟨t, _, rfl, .inl (.inl upd_same), two_good hp hq ht, ?_⟩
  have hp1 := (hp.same s1).seq (K := K)
  have hq1 := (hq.same s1).seq (K := K)
  refine ⟨_, rfl, p, _, _, _, rfl, rfl, hp1, rfl, _, rfl, q, _, _, _, rfl, rfl, hq1, rfl, _, _, rfl, rfl, mulW hp.2.al hq.2.bl, ?_⟩
  refine ⟨_, rfl, p, _, _, _, rfl, rfl, hp1, rfl, _, rfl, q, _, _, _, rfl, rfl, hq1, rfl, _, _, rfl, rfl, mulW hp.2.bl hq.2.al, ?_⟩
  exact ⟨a * d, b * c, rfl, big_mul hp.2.a0 hq.2.b0 hp.2.al hq.2.bl, mul_pos hp.2.b0 hq.2.a0, fun u hu => k _ u (s1.trans (same_upd hu)) (s1.free hu) upd_same⟩
def sgn (l r : Int) : Int := if l < r then -1 else if r < l then 1 else 0
def spComp : Sp := fun vs H Q _ => ∃ p q a b c d, vs = [.ref p, .ref q] ∧ FrAt 3900 H p a b ∧ FrAt 3900 H q c d ∧ ∀ H', Same H H' → Q (.int (sgn (a * d) (c * b))) H'
theorem scOrder : FnScope ["left", "right"] ["left", "right"] (defScope s_order) := ⟨rfl, rfl, rfl, by decide +kernel, rfl, by decide +kernel, by decide +kernel⟩
def spOrder : Sp := fun vs H Q _ => ∃ l r : Int, vs = [.int l, .int r] ∧ Q (.int (sgn l r)) H
theorem ok_order (F : Fun K "order" "order" s_order f fd) : FnOk P w K mg base CX0 1 f fd ["left", "right"] spOrder := by
  refine F.ok scOrder (fun vs H Q E h => ?_) (fun cdv A outer s H vs Q E hr h => ?_)
  · obtain ⟨l, r, rfl, _⟩ := h
    rfl
  obtain ⟨l, r, rfl, kk⟩ := h
  refine ⟨_, pss_cons (ps_if (pt_cmpR op_lt (pv 0) (pv 1) (nomark _)) (pss_one (ps_ret (pe_un un_neg pe_int))) pss_nil)
    (pss_cons (ps_if (pt_cmpR op_gt (pv 0) (pv 1) (nomark _)) (pss_one (ps_ret pe_int)) pss_nil)
    (pss_one (ps_ret pe_int))), ?_⟩
  unfold sgn at kk
  refine ⟨_, rfl, _, rfl, _, _, rfl, rfl, _, rfl, ?_⟩
  refine ite2 (fun h => ?_) (fun h => ?_)
  · have h' : l < r := of_decide_eq_true h
    rw [if_pos h'] at kk
    exact ⟨1, rfl, kk⟩
  · have h' : ¬ l < r := of_decide_eq_false (Bool.eq_false_iff.mpr h)
    rw [if_neg h'] at kk
    refine ⟨_, rfl, _, rfl, _, _, rfl, rfl, _, rfl, ?_⟩
    refine ite2 (fun h2 => ?_) (fun h2 => ?_)
    · have h2' : r < l := of_decide_eq_true h2
      rw [if_pos h2'] at kk
      exact kk
    · have h2' : ¬ r < l := of_decide_eq_false (Bool.eq_false_iff.mpr h2)
      rw [if_neg h2'] at kk
      exact kk
theorem scComp : FnScope ["one", "other"] ["one", "other"] (defScope s_compare) := ⟨rfl, rfl, rfl, by decide +kernel, rfl, by decide +kernel, by decide +kernel⟩
theorem ok_comp_good {g1 g2 : Addr} {gd1 gd2 : FuncData} (F : Fun K "compare" "compare" s_compare f fd)
    (G1 : FnOk P w K mg base CX0 4 g1 gd1 ["values"] (spCheckGood K)) (b1 : Binds K gd1 ["values"] []) (k1 : PySem.W.keepIn K (.ref g1) = true) (m1 : mg "check_fractions" = some (.ref g1))
    (G2 : FnOk P w K mg base CX0 1 g2 gd2 ["left", "right"] spOrder) (b2 : Binds K gd2 ["left", "right"] []) (k2 : PySem.W.keepIn K (.ref g2) = true) (m2 : mg "order" = some (.ref g2)) :
    FnOk P w K mg base CX0 5 f fd ["one", "other"] spComp := by
  refine F.ok scComp (fun vs H Q E h => ?_) (fun cdv A outer s H vs Q E hr h => ?_)
  · obtain ⟨p, q, a, b, c, d, rfl, _⟩ := h
    rfl
  obtain ⟨p, q, a, b, c, d, rfl, hp, hq, k⟩ := h
  refine ⟨_, pss_cons (ps_expr (pe_call G1 hr rfl m1 k1 b1 .nil pass0 (pa_cons (pe_tup (pa_cons (pv 0) (pa_cons (pv 1) pa_nil))) pa_nil)))
    (pss_one (ps_ret (pe_call G2 (hr.mono (by decide)) rfl m2 k2 b2 .nil pass0 (pa_cons (pe_op op_mulW (pe_ix ix_tup (pv 0) pe_int (fun _ _ => rfl)) (pe_ix ix_tup (pv 1) pe_int (fun _ _ => rfl))) (pa_cons (pe_op op_mulW (pe_ix ix_tup (pv 1) pe_int (fun _ _ => rfl)) (pe_ix ix_tup (pv 0) pe_int (fun _ _ => rfl))) pa_nil))))), ?_⟩
  refine ⟨_, rfl, _, rfl, by show 2 ≤ sizeLine; decide, fun t ht => ?_⟩
  have s1 := same_upd (o := .tup [.ref p, .ref q]) ht
  refine ⟨t, _, rfl, .inl (.inl upd_same), two_good hp hq ht, ?_⟩
  have hp1 := (hp.same s1).seq (K := K)
  have hq1 := (hq.same s1).seq (K := K)
  refine ⟨_, rfl, p, _, _, _, rfl, rfl, hp1, rfl, _, rfl, q, _, _, _, rfl, rfl, hq1, rfl, _, _, rfl, rfl, mulW hp.2.al hq.2.bl, ?_⟩
  refine ⟨_, rfl, q, _, _, _, rfl, rfl, hq1, rfl, _, rfl, p, _, _, _, rfl, rfl, hp1, rfl, _, _, rfl, rfl, mulW hq.2.al hp.2.bl, ?_⟩
  exact ⟨_, _, rfl, k _ s1⟩
end
/-! ### exact_text.lean -/
/-! the text of a fraction -/
def numS (i : Int) : Str := Str.ofString (toString i)
def fmtS (a b : Int) : Str := if b = 1 then numS a else ((Str.empty ++ numS a) ++ Str.ofString "/") ++ numS b
theorem numS_tl {n : Nat} : TL.tl (numS (n : Int)) = TL.numL n := TL.tl_num n
theorem numS_len {i : Int} (h : i.natAbs < 2 ^ 1900) : (numS i).length ≤ 601 := intlen h
theorem dig_ok {c : Nat} (h : 48 ≤ c ∧ c ≤ 57) : Unicode.isDigit c = true := by
  have : c = 48 ∨ c = 49 ∨ c = 50 ∨ c = 51 ∨ c = 52 ∨ c = 53 ∨ c = 54 ∨ c = 55 ∨ c = 56 ∨ c = 57 := by omega
  rcases this with rfl | rfl | rfl | rfl | rfl | rfl | rfl | rfl | rfl | rfl <;> decide +kernel
theorem numS_num {i : Int} (h : 0 ≤ i) : Txt.isascii (numS i) = true ∧ Txt.isdigit (numS i) = true := by
  obtain ⟨n, rfl⟩ : ∃ n : Nat, i = (n : Int) := ⟨i.toNat, by omega⟩
  have e : (numS (n : Int)).cps.toList = TL.numL n := numS_tl
  have d := TL.numL_digits n
  have al : ∀ p : Nat → Bool, (∀ c, 48 ≤ c ∧ c ≤ 57 → p c = true) → (numS (n : Int)).cps.all p = true := fun p hp => by
    rw [← Array.all_toList, e, List.all_eq_true]
    exact fun c hc => hp c (d c hc)
  refine ⟨al _ fun c h => by simp; omega, ?_⟩
  have l : (numS (n : Int)).length > 0 := by
    have := TL.numL_ne n
    have e2 : (numS (n : Int)).length = (TL.numL n).length := by rw [← e]; simp [Str.length]
    rw [e2]
    exact List.length_pos_iff.mpr this
  unfold Txt.isdigit
  rw [al _ fun c h => dig_ok h, Bool.and_true]
  exact decide_eq_true l
theorem numS_int {i : Int} (h : 0 ≤ i) (l : i.natAbs < 2 ^ 1900) : intText? (numS i) = some i := by
  obtain ⟨n, rfl⟩ : ∃ n : Nat, i = (n : Int) := ⟨i.toNat, by omega⟩
  have ln := numS_len l
  have e2 : (numS (n : Int)).length = (TL.numL n).length := by rw [← numS_tl]; simp [Str.length, TL.tl]
  exact TL.int_num (by omega)
theorem numS_free {i : Int} (h : 0 ≤ i) {s : Nat} (hs : s < 48 ∨ 57 < s) : s ∉ TL.tl (numS i) := by
  obtain ⟨n, rfl⟩ : ∃ n : Nat, i = (n : Int) := ⟨i.toNat, by omega⟩
  rw [numS_tl]
  exact TL.numL_free hs
theorem empty_app (x : Str) : Str.empty ++ x = x := TL.ext_tl (by rw [TL.tl_append]; rfl)
theorem slash_tl : TL.tl (Str.ofString "/") = 47 :: [] := by decide +kernel
theorem part_one {a : Int} (h : 0 ≤ a) : Txt.partition (numS a) (Str.ofString "/") = (numS a, Str.empty, Str.empty) := TL.partition_none slash_tl (numS_free h (.inl (by decide)))
theorem part_two {a b : Int} (h : 0 ≤ a) : Txt.partition (((Str.empty ++ numS a) ++ Str.ofString "/") ++ numS b) (Str.ofString "/") = (numS a, Str.ofString "/", numS b) := by
  rw [empty_app]
  exact TL.partition_app slash_tl (numS_free h (.inl (by decide)))
theorem fmtS_len {n : Nat} {a b : Int} (h : Fr n a b) (hn : n ≤ 1900) : (fmtS a b).length ≤ 1300 := by
  have ha := numS_len (h.up hn).al
  have hb := numS_len (h.up hn).bl
  unfold fmtS
  split
  · omega
  · rw [strLen_append, strLen_append, strLen_append]
    have : (Str.ofString "/").length = 1 := by decide +kernel
    have : Str.empty.length = 0 := by decide +kernel
    omega
section
variable {P : Program} {w : World} {K : PySem.W.Frag} {mg : Str → Option Value} {base : Heap} {f : Addr} {fd : FuncData}
theorem scFmt : FnScope ["number", "top", "bottom"] ["number"] (defScope s_format_fraction) := ⟨rfl, rfl, rfl, by decide +kernel, rfl, by decide +kernel, by decide +kernel⟩
def spFmt : Sp := fun vs H Q _ => ∃ p a b, vs = [.ref p] ∧ FrAt 1900 H p a b ∧ ∀ H', Same H H' → Q (.str (fmtS a b)) H'
theorem ok_format_good {g1 : Addr} {gd1 : FuncData} (F : Fun K "format_fraction" "format_fraction" s_format_fraction f fd)
    (G1 : FnOk P w K mg base CX0 4 g1 gd1 ["values"] (spCheckGood K)) (b1 : Binds K gd1 ["values"] []) (k1 : PySem.W.keepIn K (.ref g1) = true) (m1 : mg "check_fractions" = some (.ref g1)) :
    FnOk P w K mg base CX0 5 f fd ["number"] spFmt := by
  refine F.ok scFmt (fun vs H Q E h => ?_) (fun cdv A outer s H vs Q E hr h => ?_)
  · obtain ⟨p, a, b, rfl, _⟩ := h
    rfl
  obtain ⟨p, a, b, rfl, hp, q⟩ := h
  refine ⟨_, pss_cons (ps_expr (pe_call G1 hr rfl m1 k1 b1 .nil pass0 (pa_cons (pe_tup (pa_cons (pv 0) pa_nil)) pa_nil)))
    (pss_cons (ps_asg (pv 0) (pg_tup (by rfl) (pgs_cons (pg_name (i := 1) scFmt.nd rfl (.inl rfl)) (pgs_cons (pg_name (i := 2) scFmt.nd rfl (.inl rfl)) pgs_nil))))
    (pss_cons (ps_if (pt_cmpR op_eq (pv 2) pe_int (nomark _)) (pss_one (ps_ret (pe_joined1 (pe_fmt (pv 1))))) pss_nil)
    (pss_one (ps_ret (pe_joined (.cons (pe_fmt (pv 1)) (.cons pe_str (.cons (pe_fmt (pv 2)) .nil)))))))), ?_⟩
  have la : a.natAbs.log2 < 1920 := Nat.lt_of_lt_of_le (PySem.Flt.log2_lt_of (by decide) hp.2.al) (by decide)
  have lb : b.natAbs.log2 < 1920 := Nat.lt_of_lt_of_le (PySem.Flt.log2_lt_of (by decide) hp.2.bl) (by decide)
  have ln := fmtS_len hp.2 (by decide)
  refine ⟨_, rfl, by show 1 ≤ sizeLine; decide, fun t ht => ?_⟩
  have s1 := same_upd (o := .tup [.ref p]) ht
  have e1 : upd H t (.tup [.ref p]) t = some (.tup [.ref p]) := upd_same
  generalize upd H t (.tup [.ref p]) = A1 at s1 e1 ⊢
  have hp1 := hp.same s1
  refine ⟨t, _, rfl, .inl (.inl e1), ?_, ?_⟩
  · intro x hx
    rw [List.mem_singleton.mp hx]
    exact ⟨p, a, b, rfl, hp1.1, hp1.2.up (by decide)⟩
  refine ⟨_, rfl, p, _, rfl, hp1.seq, rfl, _, _, rfl, _, _, rfl, rfl, ?_⟩
  refine ⟨_, rfl, rfl, _, rfl, ?_⟩
  have q := q _ s1
  unfold fmtS at q ln
  by_cases hb : b = 1
  · rw [if_pos hb] at q
    rw [decide_eq_true (by rw [hb])]
    exact iteT ⟨_, rfl, .inr ⟨a, rfl, la, q⟩⟩
  · rw [if_neg hb] at q ln
    rw [decide_eq_false fun e => hb (V.int.inj e)]
    refine iteF ?_
    rw [strLen_append, strLen_append, strLen_append] at ln
    have z : Str.empty.length = 0 := by decide +kernel
    have le : ∀ n : Nat, n ≤ 1300 → n ≤ sizeLine := fun n h => by rw [sizeLine_eq]; omega
    refine ⟨_, rfl, .inr ⟨a, rfl, la, numS a, rfl, le _ (by rw [strLen_append]; omega), Str.ofString "/", rfl, le _ (by rw [strLen_append, strLen_append]; omega), ?_⟩⟩
    exact ⟨_, rfl, .inr ⟨b, rfl, lb, numS b, rfl, le _ (by rw [strLen_append, strLen_append, strLen_append]; omega), q⟩⟩
theorem scNum : FnScope ["text"] ["text"] (defScope s_is_numeral) := ⟨rfl, rfl, rfl, by decide +kernel, rfl, by decide +kernel, by decide +kernel⟩
def spNum : Sp := fun vs H Q _ => ∃ x, vs = [.str x] ∧ Q (.bl (Txt.isascii x && Txt.isdigit x)) H
theorem ok_is_numeral (F : Fun K "is_numeral" "is_numeral" s_is_numeral f fd) : FnOk P w K mg base CX0 2 f fd ["text"] spNum := by
  refine F.ok scNum (fun vs H Q E h => ?_) (fun cdv A outer s H vs Q E hr h => ?_)
  · obtain ⟨x, rfl, _⟩ := h
    rfl
  obtain ⟨x, rfl, q⟩ := h
  refine ⟨_, pss_one (ps_ret (pe_and (pe_m0 PySem.F.slot_str_isascii PySem.F.type_str_isascii mt_isascii (pv 0)) (pe_one (pe_m0 PySem.F.slot_str_isdigit PySem.F.type_str_isdigit mt_isdigit (pv 0))))), ?_⟩
  refine ⟨_, rfl, ⟨_, rfl⟩, x, rfl, rfl, trivial, _, rfl, ?_⟩
  cases e : Txt.isascii x with
  | true =>
    rw [e, Bool.true_and] at q
    exact iteT ⟨_, rfl, ⟨_, rfl⟩, x, rfl, rfl, trivial, q⟩
  | false =>
    rw [e, Bool.false_and] at q
    exact iteF q
end
/-! ### exact_find.lean -/
section
variable {P : Program} {w : World} {K : PySem.W.Frag} {mg : Str → Option Value} {base : Heap} {f : Addr} {fd : FuncData}
/-! find_fraction of a fraction's text -/
theorem one_num : (Txt.isascii (Str.ofString "1") && Txt.isdigit (Str.ofString "1")) = true := by decide +kernel
theorem one_int : intText? (Str.ofString "1") = some 1 := by decide +kernel
theorem fr_of {n : Nat} {a b : Int} (h : Fr n a b) (hn : n ≤ 1900) : Fr 1900 a b := h.up hn
theorem scFind : FnScope ["text", "top", "slash", "bottom", "number"] ["text"] (defScope s_find_fraction) := ⟨rfl, rfl, rfl, by decide +kernel, rfl, by decide +kernel, by decide +kernel⟩
def spFindGood : Sp := fun vs H Q _ => ∃ a b, vs = [.str (fmtS a b)] ∧ Fr 1900 a b ∧ ∀ H' t, Same H H' → H t = none → FrAt 1900 H' t a b → Q (.ref t) H'
theorem ok_find_good {g1 g2 g3 : Addr} {gd1 gd2 gd3 : FuncData} (F : Fun K "find_fraction" "find_fraction" s_find_fraction f fd) (mi : mg "isinstance" = none) (ms : mg "str" = none) (mint : mg "int" = none)
    (G1 : FnOk P w K mg base CX0 2 g1 gd1 ["text"] spNum) (b1 : Binds K gd1 ["text"] []) (k1 : PySem.W.keepIn K (.ref g1) = true) (m1 : mg "is_numeral" = some (.ref g1))
    (G2 : FnOk P w K mg base CX0 3 g2 gd2 ["value"] spIsFracGood) (b2 : Binds K gd2 ["value"] []) (k2 : PySem.W.keepIn K (.ref g2) = true) (m2 : mg "is_fraction" = some (.ref g2))
    (G3 : FnOk P w K mg base CX0 5 g3 gd3 ["number"] spFmt) (b3 : Binds K gd3 ["number"] []) (k3 : PySem.W.keepIn K (.ref g3) = true) (m3 : mg "format_fraction" = some (.ref g3)) :
    FnOk P w K mg base CX0 6 f fd ["text"] spFindGood := by
  refine F.ok scFind (fun vs H Q E h => ?_) (fun cdv A outer s H vs Q E hr h => ?_)
  · obtain ⟨a, b, rfl, _⟩ := h
    rfl
  obtain ⟨a, b, rfl, fr, q⟩ := h
  have r1 : Room 2 _ := hr.mono (by decide)
  have r2 : Room 3 _ := hr.mono (by decide)
  have l1 : ∀ n : Nat, n ≤ 1000 → n ≤ sizeLine := fun n h => Nat.le_of_lt (small1000 h)
  refine ⟨_, pss_cons (ps_if (pt_not (pt_val (pe_callB call_isi (by rfl) mi PyProof.Rows.boot_isinstance (pa_cons (pv 0) (pa_cons (pe_bltn (v := .ty "str") (by rfl) ms PyProof.Rows.boot_str rfl) pa_nil))))) (pss_one (ps_ret pe_non)) pss_nil)
    (pss_cons (ps_asg (pe_partition (pv 0) pe_str) (pg_tup (by rfl) (pgs_cons (pg_name (i := 1) scFind.nd rfl (.inl rfl)) (pgs_cons (pg_name (i := 2) scFind.nd rfl (.inl rfl)) (pgs_cons (pg_name (i := 3) scFind.nd rfl (.inl rfl)) pgs_nil)))))
    (pss_cons (ps_if (pt_cmpR op_eq (pv 2) pe_str (nomark _)) (pss_one (ps_set (i := 3) scFind.nd rfl (.inl rfl) pe_str)) pss_nil)
    (pss_cons (ps_if (PW.pt (pw_or (pt_not (pt_val (pe_call G1 r1 rfl m1 k1 b1 .nil pass0 (pa_cons (pv 1) pa_nil)))) (pw_or1 (pt_not (pt_val (pe_call G1 r1 rfl m1 k1 b1 .nil pass0 (pa_cons (pv 3) pa_nil))))))) (pss_one (ps_ret pe_non)) pss_nil)
    (pss_cons (ps_set (i := 4) scFind.nd rfl (.inl rfl) (pe_tup (pa_cons (pe_callTy call_int_str (by rfl) mint (by decide +kernel) (pa_cons (pv 1) pa_nil)) (pa_cons (pe_callTy call_int_str (by rfl) mint (by decide +kernel) (pa_cons (pv 3) pa_nil)) pa_nil))))
    (pss_cons (ps_if (PW.pt (pw_or (pt_not (pt_val (pe_call G2 r2 rfl m2 k2 b2 .nil pass0 (pa_cons (pv 4) pa_nil)))) (pw_or1 (pt_cmpR op_ne (pe_call G3 hr rfl m3 k3 b3 .nil pass0 (pa_cons (pv 4) pa_nil)) (pv 0) (nomark _))))) (pss_one (ps_ret pe_non)) pss_nil)
    (pss_one (ps_ret (pv 4)))))))), ?_⟩
  have ln := fmtS_len fr (by decide)
  have na := numS_num (i := a) (by have := fr.a0; omega)
  have nb := numS_num (i := b) (by have := fr.b0; omega)
  have ia := numS_int (i := a) (by have := fr.a0; omega) fr.al
  have ib := numS_int (i := b) (by have := fr.b0; omega) fr.bl
  have la := numS_len fr.al
  have lb := numS_len fr.bl
  refine ⟨_, rfl, _, _, _, _, true, rfl, .ty "str", .base (.str _), kit_ty (by decide +kernel), _, rfl, iteF ?_⟩
  refine ⟨_, rfl, ⟨_, rfl⟩, _, _, rfl, rfl, by decide +kernel, by rw [sizeLine_eq]; omega, fun t ht => ?_⟩
  have e0 : (Str.empty = Str.ofString "") := by decide +kernel
  have e1' : ¬ (Str.ofString "/" = Str.ofString "") := by decide +kernel
  by_cases hb : b = 1
  case' pos =>
    have et : fmtS a b = numS a := if_pos hb
    rw [show Txt.partition (fmtS a b) (Str.ofString "/") = (numS a, Str.empty, Str.empty) by rw [et]; exact part_one (by have := fr.a0; omega)]
    have s1 := same_upd (o := .tup [.str (numS a), .str Str.empty, .str Str.empty]) ht
    have e1 : upd H t (.tup [.str (numS a), .str Str.empty, .str Str.empty]) t = some (.tup [.str (numS a), .str Str.empty, .str Str.empty]) := upd_same
    generalize upd H t (.tup [.str (numS a), .str Str.empty, .str Str.empty]) = A1 at s1 e1 ⊢
    refine ⟨t, _, rfl, .inl (.inl e1), rfl, _, _, rfl, _, _, rfl, _, _, rfl, rfl, ?_⟩
    refine ⟨_, rfl, rfl, _, rfl, ?_⟩
    rw [decide_eq_true (congrArg V.str e0)]
    refine iteT ?_
    have nbs := one_num
    have ibs : intText? (Str.ofString "1") = some b := by rw [hb]; exact one_int
    have lbs : (Str.ofString "1").length ≤ 640 := by decide +kernel
  case' neg =>
    have et : fmtS a b = ((Str.empty ++ numS a) ++ Str.ofString "/") ++ numS b := if_neg hb
    rw [show Txt.partition (fmtS a b) (Str.ofString "/") = (numS a, Str.ofString "/", numS b) by rw [et]; exact part_two (by have := fr.a0; omega)]
    have s1 := same_upd (o := .tup [.str (numS a), .str (Str.ofString "/"), .str (numS b)]) ht
    have e1 : upd H t (.tup [.str (numS a), .str (Str.ofString "/"), .str (numS b)]) t = some (.tup [.str (numS a), .str (Str.ofString "/"), .str (numS b)]) := upd_same
    generalize upd H t (.tup [.str (numS a), .str (Str.ofString "/"), .str (numS b)]) = A1 at s1 e1 ⊢
    refine ⟨t, _, rfl, .inl (.inl e1), rfl, _, _, rfl, _, _, rfl, _, _, rfl, rfl, ?_⟩
    refine ⟨_, rfl, rfl, _, rfl, ?_⟩
    rw [decide_eq_false fun e => e1' (V.str.inj e)]
    refine iteF ?_
    have nbs : (Txt.isascii (numS b) && Txt.isdigit (numS b)) = true := by rw [nb.1, nb.2]; rfl
    have ibs := ib
    have lbs : (numS b).length ≤ 640 := by omega
  all_goals
    refine ⟨_, rfl, _, rfl, _, rfl, ?_⟩
    rw [na.1, na.2]
    refine iteF ?_
    refine ⟨_, rfl, _, rfl, _, rfl, ?_⟩
    rw [nbs]
    refine iteF ?_
    refine ⟨_, rfl, _, a, rfl, ia, by omega, _, rfl, _, b, rfl, ibs, lbs, l1 2 (by decide), fun u nu => ?_⟩
    have s2 := same_upd (o := .tup [.int a, .int b]) nu
    have e2 : upd A1 u (.tup [.int a, .int b]) u = some (.tup [.int a, .int b]) := upd_same
    generalize upd A1 u (.tup [.int a, .int b]) = A2 at s2 e2 ⊢
    have s12 := s1.trans s2
    refine ⟨_, rfl, .ref u, rfl, ⟨u, a, b, rfl, e2, fr.up (by decide)⟩, _, rfl, iteF ?_⟩
    refine ⟨_, rfl, u, a, b, rfl, ⟨e2, fr⟩, fun A3 s3 => ?_⟩
    refine ⟨_, rfl, rfl, _, rfl, ?_⟩
    rw [decide_eq_true rfl]
    refine iteF ⟨_, rfl, ?_⟩
    exact q _ u (s12.trans s3) (s1.free nu) ⟨s3 _ _ e2, fr⟩
end
/-! ### prelude_cell.lean -/
section
variable {P : Program} {w : World} {K : PySem.W.Frag} {mg : Str → Option Value} {base : Heap} {f : Addr} {fd : FuncData}
/-! a cell of the script: some int -/
theorem scCell : FnScope ["_law_script", "_law_k", "_law_state", "_law_figure"] ["_law_script", "_law_k"] (defScope s_l_cell) := ⟨rfl, rfl, rfl, by decide +kernel, rfl, by decide +kernel, by decide +kernel⟩
def spCell (K : PySem.W.Frag) : Sp := fun vs H Q _ => ∃ (a : Addr) (ns : List Int) (k : Int), vs = [.ref a, .int k] ∧ SqL K H a (ns.map V.int) ∧ ns.length ≤ 63 ∧ 0 ≤ k ∧ k < 2 ^ 60 ∧ ∀ (z : Int) H', Same H H' → Q (.int z) H'
theorem nzM : (2147483137 : Int) ≠ 0 := by decide
theorem cut_ints (ns : List Int) (lo hi : Option Int) : ∃ ms : List Int, cutV (ns.map V.int) lo hi = ms.map V.int := by
  refine ⟨(ns.drop (HT.sIx (ns.map V.int).length 0 lo)).take (HT.sIx (ns.map V.int).length (ns.map V.int).length hi - HT.sIx (ns.map V.int).length 0 lo), ?_⟩
  unfold cutV
  rw [List.map_take, List.map_drop]
theorem get_int {ns : List Int} {i : Nat} {x : V} (h : (ns.map V.int)[i]? = some x) : ∃ z : Int, x = .int z := by
  rw [List.getElem?_map] at h
  cases e : ns[i]? with
  | none => rw [e] at h; cases h
  | some z => rw [e] at h; exact ⟨z, (Option.some.inj h).symm⟩
theorem ok_cell (F : Fun K "_law_cell" "_law_cell" s_l_cell f fd) (ml : mg "len" = none) : FnOk P w K mg base CX0 2 f fd ["_law_script", "_law_k"] (spCell K) := by
  refine F.ok scCell (fun vs H Q E h => ?_) (fun cdv A outer s H vs Q E hr h => ?_)
  · obtain ⟨a, ns, k, rfl, _⟩ := h
    rfl
  obtain ⟨a, ns, k, rfl, hS, h63, h0, hk, q⟩ := h
  refine ⟨_, pss_cons (ps_if (pt_cmpR op_lt (pv 1) (pe_callB call_len_seq (by rfl) ml PySem.boot_len (pa_cons (pv 0) pa_nil)) (nomark _)) (pss_one (ps_ret (pe_ix ix_list (pv 0) (pv 1) (fun _ _ => rfl)))) pss_nil)
    (pss_cons (ps_set (i := 2) scCell.nd rfl (.inl rfl) (pe_op op_modN (pe_op op_mul pe_int (pe_op op_add (pe_op op_add (pe_op op_mul (pv 1) (pv 1)) (pe_op op_mul pe_int (pv 1))) pe_int)) pe_int))
    (pss_cons (ps_for PassesOwn.never rfl (pi_list (pe_slice sl_list (pv 0) po_none (po_some pe_int))) (pg_name (i := 3) scCell.nd rfl (.inl rfl))
      (pss_one (ps_set (i := 2) scCell.nd rfl (.inl rfl) (pe_op op_modN (pe_op op_add (pe_op op_mul (pv 2) pe_int) (pv 3)) pe_int))))
    (pss_one (ps_ret (pv 2))))), ?_⟩
  refine ⟨_, rfl, _, rfl, a, _, rfl, .inl hS, _, _, rfl, rfl, _, rfl, ?_⟩
  refine ite2 (fun c => ?_) (fun c => ?_)
  · have c' : k < (((ns.map V.int).length : Nat) : Int) := of_decide_eq_true c
    rw [List.length_map] at c'
    have hn : k.toNat < ns.length := by omega
    have at_ : atI (ns.map V.int) k = some (.int ns[k.toNat]) := by
      have := atI_nat (xs := ns.map V.int) (j := k.toNat) (v := .int ns[k.toNat]) (by rw [List.getElem?_map, List.getElem?_eq_getElem hn]; rfl)
      rw [show ((k.toNat : Nat) : Int) = k by omega] at this
      exact this
    exact ⟨_, rfl, _, rfl, a, _, _, _, rfl, rfl, hS, at_, q _ H (Same.refl H)⟩
  · refine ⟨_, rfl, _, rfl, _, _, rfl, rfl, .inl (by omega), _, rfl, _, _, rfl, rfl, .inl (by omega), _, _, rfl, rfl, _, _, rfl, rfl, _, _, rfl, rfl, .inl (by omega), _, _, rfl, rfl, nzM, ?_⟩
    refine ⟨_, rfl, _, rfl, a, _, rfl, hS, fun p hp => ?_⟩
    obtain ⟨ms, em⟩ := cut_ints ns none (some 3)
    have s1 : Same H (upd H p (.lst (cutV (ns.map V.int) none (some 3)))) := same_upd hp
    refine ⟨p, rfl, ⟨_, SqL.of upd_same⟩, ?_⟩
    rw [em] at s1 ⊢
    refine for_list (K := K) (a := p) (xs := ms.map V.int) (fun _ σ H2 => H2 = upd H p (.lst (ms.map V.int)) ∧ ∃ (z : Int) (v : Option V), σ = [some (.ref a), some (.int k), some (.int z), v] ∧ 0 ≤ z ∧ z < 2147483137) ?_ (fun i σ H2 _ h => ?_) ?_ ?_
    · exact ⟨rfl, _, none, rfl, fmod_lt (by decide)⟩
    · obtain ⟨rfl, _⟩ := h
      exact SqL.of upd_same
    · rintro i x σ H2 hi ⟨rfl, z, v, rfl, z0, z1⟩
      obtain ⟨y, rfl⟩ := get_int hi
      exact ⟨_, rfl, _, _, rfl, rfl, .inl (by omega), _, rfl, _, _, rfl, rfl, _, _, rfl, rfl, nzM, rfl, _, _, rfl, fmod_lt (by decide)⟩
    · rintro σ H2 ⟨rfl, z, v, rfl, _⟩
      exact ⟨_, rfl, q _ _ s1⟩

/-! the pool -/
def Pool (H : Hp) (p : Addr) : Prop := ∃ x d c : Int, H p = some (.lst [.int x, .int d, .int c]) ∧ 0 ≤ x ∧ x < 2147483137 ∧ 0 ≤ d
def Keep (p : Addr) (H H' : Hp) : Prop := ∀ b o, b ≠ p → H b = some o → H' b = some o
theorem Keep.refl (p : Addr) (H : Hp) : Keep p H H := fun _ _ _ h => h
theorem Keep.trans {p : Addr} {H H1 H2 : Hp} (a : Keep p H H1) (b : Keep p H1 H2) : Keep p H H2 := fun c o n h => b c o n (a c o n h)
theorem Same.keep {H H' : Hp} (s : Same H H') (p : Addr) : Keep p H H' := fun b o _ h => s b o h
theorem Keep.at {H : Hp} {p : Addr} {o : HO} : Keep p H (upd H p o) := fun b u n h => by rw [upd_ne n]; exact h
theorem Pool.same {H H' : Hp} {p : Addr} (h : Pool H p) (s : Same H H') : Pool H' p := by
  obtain ⟨x, d, c, e, r⟩ := h
  exact ⟨x, d, c, s _ _ e, r⟩
/-- what lies elsewhere stays -/
theorem Keep.same {p : Addr} {H0 H H' : Hp} (k : Keep p H H') (s : Same H0 H) (n : H0 p = none) : Same H0 H' := fun b o h => k b o (ne_of_none h n) (s b o h)
theorem scPool : FnScope ["_law_figure", "_law_digits"] ["_law_figure"] (defScope s_l_pool) := ⟨rfl, rfl, rfl, by decide +kernel, rfl, by decide +kernel, by decide +kernel⟩
def spPool : Sp := fun vs H Q _ => ∃ z : Int, vs = [.int z] ∧ ∀ p H', Same H H' → H p = none → Pool H' p → Q (.ref p) H'
theorem ok_pool (F : Fun K "_law_pool" "_law_pool" s_l_pool f fd) (ma : mg "abs" = none) : FnOk P w K mg base CX0 2 f fd ["_law_figure"] spPool := by
  refine F.ok scPool (fun vs H Q E h => ?_) (fun cdv A outer s H vs Q E hr h => ?_)
  · obtain ⟨z, rfl, _⟩ := h
    rfl
  obtain ⟨z, rfl, q⟩ := h
  refine ⟨_, pss_cons (ps_set (i := 1) scPool.nd rfl (.inl rfl) (pe_ifExp (PW.pt (pw_or (pt_cmpR op_lt (pv 0) pe_int (nomark _)) (pw_or1 (pt_cmpR op_ge (pv 0) (pe_op op_pow pe_int pe_int) (nomark _)))))
      (pe_callB call_abs (by rfl) ma PyProof.Rows.boot_abs (pa_cons (pv 0) pa_nil)) pe_int))
    (pss_one (ps_ret (pe_lst (pa_cons (pe_op op_modN (pv 0) pe_int) (pa_cons (pv 1) (pa_cons pe_int pa_nil)))))), ?_⟩
  have fin : ∀ d : Int, 0 ≤ d → ∀ p, H p = none → Q (.ref p) (upd H p (.lst [.int (z.fmod 2147483137), .int d, .int 0])) := fun d hd p hp =>
    q p _ (same_upd hp) hp ⟨_, d, 0, upd_same, (fmod_lt (by decide)).1, (fmod_lt (by decide)).2, hd⟩
  refine ⟨_, rfl, _, _, rfl, rfl, _, rfl, ?_⟩
  refine ite2 (fun c => ?_) (fun c => ?_)
  · refine iteT ⟨_, rfl, _, rfl, ?_⟩
    refine ⟨_, rfl, _, _, rfl, rfl, nzM, _, rfl, by show 3 ≤ sizeLine; decide, fin _ ?_⟩
    split <;> omega
  · refine ⟨_, rfl, _, _, rfl, rfl, ⟨by decide, by decide, by decide⟩, _, _, rfl, rfl, _, rfl, ?_⟩
    refine ite2 (fun c => ?_) (fun c => ?_)
    · refine ⟨_, rfl, _, rfl, ?_⟩
      refine ⟨_, rfl, _, _, rfl, rfl, nzM, _, rfl, by show 3 ≤ sizeLine; decide, fin _ ?_⟩
      split <;> omega
    · refine ⟨_, rfl, _, _, rfl, rfl, nzM, _, rfl, by show 3 ≤ sizeLine; decide, fin _ ?_⟩
      omega
end
/-! ### prelude_draw.lean -/
section
variable {P : Program} {w : World} {K : PySem.W.Frag} {mg : Str → Option Value} {base : Heap} {f : Addr} {fd : FuncData}
/-! a draw -/
theorem scDraw : FnScope ["_law_pool_here", "_law_most", "_law_state", "_law_digit"] ["_law_pool_here", "_law_most"] (defScope s_l_draw) := ⟨rfl, rfl, rfl, by decide +kernel, rfl, by decide +kernel, by decide +kernel⟩
def spDraw : Sp := fun vs H Q _ => ∃ (p : Addr) (m : Int), vs = [.ref p, .int m] ∧ Pool H p ∧ big m ∧ ∀ (r : Int) H', Keep p H H' → Pool H' p → 0 ≤ r → r < m → Q (.int r) H'
theorem divP {i j : Int} (h : big j) : CDivP i j := ⟨h.1, PyProof.noPylong_of_log2 (wide_div (i := i) h.1 h.2 (by decide) (by decide)).2⟩
theorem ok_draw (F : Fun K "_law_draw" "_law_draw" s_l_draw f fd) (md : mg "divmod" = none) : FnOk P w K mg base CX0 2 f fd ["_law_pool_here", "_law_most"] spDraw := by
  refine F.ok scDraw (fun vs H Q E h => ?_) (fun cdv A outer s H vs Q E hr h => ?_)
  · obtain ⟨p, m, rfl, _⟩ := h
    rfl
  obtain ⟨p, m, rfl, ⟨x, d, c, hp, x0, x1, d0⟩, hm, q⟩ := h
  refine ⟨_, pss_cons (ps_asg (pe_op op_add (pe_ix ix_list (pv 0) pe_int (fun _ _ => rfl)) pe_int) (pg_sub (pv 0) pe_int set_list))
    (pss_cons (ps_set (i := 2) scDraw.nd rfl (.inl rfl) (pe_ix ix_list (pv 0) pe_int (fun _ _ => rfl)))
    (pss_cons (ps_asg (pe_op op_modN (pe_op op_add (pe_op op_mul (pv 2) (pe_op op_add (pe_op op_modN (pv 2) pe_int) pe_int)) (pe_op op_mul pe_int (pe_ix ix_list (pv 0) pe_int (fun _ _ => rfl)))) pe_int) (pg_sub (pv 0) pe_int set_list))
    (pss_cons (ps_if (pt_cmpR op_gt (pe_ix ix_list (pv 0) pe_int (fun _ _ => rfl)) pe_int (nomark _))
      (pss_cons (ps_asg (pe_callB call_divmodW (by rfl) md PyProof.Rows.boot_divmod (pa_cons (pe_ix ix_list (pv 0) pe_int (fun _ _ => rfl)) (pa_cons (pv 1) pa_nil)))
        (pg_tup rfl (pgs_cons (pg_sub (pv 0) pe_int set_list) (pgs_cons (pg_name (i := 3) scDraw.nd rfl (.inl rfl)) pgs_nil))))
      (pss_one (ps_ret (pv 3)))) pss_nil)
    (pss_one (ps_ret (pe_op op_modN (pe_op op_fdiv (pe_ix ix_list (pv 0) pe_int (fun _ _ => rfl)) pe_int) (pv 1))))))), ?_⟩
  -- the count
  refine ⟨_, rfl, p, _, _, _, rfl, rfl, SqL.of hp, rfl, _, _, rfl, rfl, _, rfl, p, _, _, _, rfl, rfl, hp, rfl, ?_⟩
  refine ⟨_, rfl, p, _, _, _, rfl, rfl, SqL.of upd_same, rfl, ?_⟩
  -- the state
  refine ⟨_, rfl, _, rfl, _, _, rfl, rfl, by show (50023 : Int) ≠ 0; decide, _, _, rfl, rfl, _, _, rfl, rfl, .inl (by omega), _, rfl, p, _, _, _, rfl, rfl, SqL.of upd_same, rfl, _, _, rfl, rfl, .inl (by omega), _, _, rfl, rfl, _, _, rfl, rfl, nzM, ?_⟩
  refine ⟨_, rfl, p, _, _, _, rfl, rfl, upd_same, rfl, ?_⟩
  have hy2 : 0 ≤ (x * (x.fmod 50023 + 30013) + 80029 * (c + 1)).fmod 2147483137 ∧ (x * (x.fmod 50023 + 30013) + 80029 * (c + 1)).fmod 2147483137 < 2147483137 := fmod_lt (by decide)
  have hp1 : upd (upd H p (.lst [.int x, .int d, .int (c + 1)])) p (.lst [.int ((x * (x.fmod 50023 + 30013) + 80029 * (c + 1)).fmod 2147483137), .int d, .int (c + 1)]) p = some (.lst [.int ((x * (x.fmod 50023 + 30013) + 80029 * (c + 1)).fmod 2147483137), .int d, .int (c + 1)]) := upd_same
  have k1 : Keep p H (upd (upd H p (.lst [.int x, .int d, .int (c + 1)])) p (.lst [.int ((x * (x.fmod 50023 + 30013) + 80029 * (c + 1)).fmod 2147483137), .int d, .int (c + 1)])) := Keep.at.trans Keep.at
  -- digits, if there are some
  refine ⟨_, rfl, p, _, _, _, rfl, rfl, SqL.of hp1, rfl, _, _, rfl, rfl, _, rfl, ?_⟩
  refine ite2 (fun cc => ?_) (fun cc => ?_)
  · refine ⟨_, rfl, p, _, _, _, rfl, rfl, SqL.of hp1, rfl, _, rfl, d, m, rfl, divP hm, fun t ht => ?_⟩
    have ntp : p ≠ t := ne_of_none hp1 ht
    refine ⟨t, _, rfl, .inl (.inl upd_same), rfl, _, _, rfl, _, rfl, p, _, _, _, rfl, rfl, by rw [upd_ne ntp]; exact hp1, rfl, _, _, rfl, rfl, ?_⟩
    refine ⟨_, rfl, q _ _ ((k1.trans (Same.keep (same_upd ht) p)).trans Keep.at) ⟨_, _, _, upd_same, hy2.1, hy2.2, Int.ediv_nonneg d0 (by have := hm.1; omega)⟩ (Int.emod_nonneg _ (by have := hm.1; omega)) (Int.emod_lt_of_pos _ hm.1)⟩
  · refine ⟨_, rfl, p, _, _, _, rfl, rfl, SqL.of hp1, rfl, _, _, rfl, rfl, ⟨by decide, by decide⟩, _, rfl, _, _, rfl, rfl, by have := hm.1; omega, ?_⟩
    exact q _ _ k1 ⟨_, _, _, hp1, hy2.1, hy2.2, d0⟩ (fmod_lt hm.1).1 (fmod_lt hm.1).2

/-! the law's own lowest terms -/
theorem scLLow : FnScope ["_law_high_part", "_law_low_part", "_law_lead", "_law_rest"] ["_law_high_part", "_law_low_part"] (defScope s_l_low) := ⟨rfl, rfl, rfl, by decide +kernel, rfl, by decide +kernel, by decide +kernel⟩
theorem ok_llow (F : Fun K "_law_low" "_law_low" s_l_low f fd) : FnOk P w K mg base CX0 2 f fd ["_law_high_part", "_law_low_part"] spLow := by
  refine F.ok scLLow (fun vs H Q E h => ?_) (fun cdv A outer s H vs Q E hr h => ?_)
  · obtain ⟨a, b, rfl, _⟩ := h
    rfl
  obtain ⟨a, b, rfl, ha, hb, q⟩ := h
  refine ⟨_, pss_cons (ps_par (i := 2) (j := 3) (by rfl) scLLow.nd rfl rfl (by decide) rfl rfl (pa_cons (pv 0) (pa_cons (pv 1) pa_nil)) (by rfl))
    (pss_cons (ps_while PassesOwn.never (pt_cmpR op_gt (pv 3) pe_int (nomark _))
      (pss_one (ps_par (i := 2) (j := 3) (by rfl) scLLow.nd rfl rfl (by decide) rfl rfl (pa_cons (pv 3) (pa_cons (pe_op op_modN (pv 2) (pv 3)) pa_nil)) (by rfl))))
    (pss_one (ps_ret (pe_tup (pa_cons (pe_op op_fdivW (pv 0) (pv 2)) (pa_cons (pe_op op_fdivW (pv 1) (pv 2)) pa_nil)))))), ?_⟩
  refine ⟨_, rfl, _, rfl, _, _, rfl, ?_⟩
  refine while_by (fun σ H' => H' = H ∧ ∃ x y : Int, σ = [some (.int a), some (.int b), some (.int x), some (.int y)] ∧ 0 < x ∧ 0 ≤ y ∧ gcdI x y = gcdI a b) (fun σ _ => match σ with | [_, _, _, some (.int y)] => y.toNat | _ => 0)
    ⟨rfl, a, b, rfl, ha.1, by omega, rfl⟩ ?_ (fun σ H Q Q' m ⟨v, h1, i, j, e1, e2, k, e3, q⟩ => ⟨v, h1, i, j, e1, e2, k, e3, m _ _ q⟩)
  rintro σ H' ⟨rfl, x, y, rfl, hx, hy, g⟩
  refine ⟨_, rfl, _, _, rfl, rfl, _, rfl, ?_⟩
  refine ite2 (fun c => ?_) (fun c => ?_)
  · have c' : 0 < y := of_decide_eq_true c
    have fm := fmod_lt (a := x) c'
    refine ⟨_, rfl, _, rfl, _, rfl, _, _, rfl, rfl, by omega, _, _, rfl, ?_⟩
    refine ⟨⟨rfl, y, _, rfl, c', fm.1, (gcdI_step c').trans g⟩, ?_⟩
    show (x.fmod y).toNat < y.toNat
    omega
  · have c' : ¬ 0 < y := of_decide_eq_false (Bool.eq_false_iff.mpr c)
    have e : y = 0 := by omega
    subst e
    rw [gcdI_zero hx] at g
    subst g
    exact ⟨_, rfl, _, rfl, _, _, rfl, rfl, gcd_div ha a, _, rfl, _, rfl, _, _, rfl, rfl, gcd_div ha b, by show 2 ≤ sizeLine; decide, q⟩
end
/-! ### prelude_part.lean -/
section
variable {P : Program} {w : World} {K : PySem.W.Frag} {mg : Str → Option Value} {base : Heap} {f : Addr} {fd : FuncData}
/-! a drawn fraction -/
theorem at2 {x0 x1 : V} {r : Int} (h0 : 0 ≤ r) (h1 : r < 2) : ∃ v, atI [x0, x1] r = some v ∧ (v = x0 ∨ v = x1) := by
  have : r = 0 ∨ r = 1 := by omega
  rcases this with rfl | rfl
  · exact ⟨x0, rfl, .inl rfl⟩
  · exact ⟨x1, rfl, .inr rfl⟩
/-- a place of a list of four -/
theorem at4 {x0 x1 x2 x3 : V} {r : Int} (h0 : 0 ≤ r) (h1 : r < 4) : ∃ v, atI [x0, x1, x2, x3] r = some v ∧ (v = x0 ∨ v = x1 ∨ v = x2 ∨ v = x3) := by
  have : r = 0 ∨ r = 1 ∨ r = 2 ∨ r = 3 := by omega
  rcases this with rfl | rfl | rfl | rfl
  · exact ⟨x0, rfl, .inl rfl⟩
  · exact ⟨x1, rfl, .inr (.inl rfl)⟩
  · exact ⟨x2, rfl, .inr (.inr (.inl rfl))⟩
  · exact ⟨x3, rfl, .inr (.inr (.inr rfl))⟩
theorem Pool.ne {H : Hp} {p L : Addr} (hp : Pool H p) (nL : H L = none) : L ≠ p := by
  obtain ⟨_, _, _, e, _⟩ := hp
  exact (ne_of_none e nL).symm
theorem big_of {a : Int} (n : Nat) (h : 0 < a) (l : a < 2 ^ n) (hn : n ≤ 8000) : big a := by
  refine ⟨h, ?_⟩
  have e : ((2 ^ n : Nat) : Int) = (2 : Int) ^ n := by norm_cast
  have : a.natAbs < 2 ^ n := by omega
  exact Nat.lt_of_lt_of_le this (Nat.pow_le_pow_right (by decide) hn)
theorem fr_one {n : Nat} {a : Int} (h : 0 < a) (l : a < 2 ^ n) (hn : 1 ≤ n) : Fr n a 1 := ⟨h, by decide, gcdI_one, fr_lt h l, Nat.lt_of_lt_of_le (by decide : (1 : Int).natAbs < 2 ^ 1) (Nat.pow_le_pow_right (by decide) hn)⟩
theorem fr_drawn {a b : Int} (ha : 0 < a) (hb : 0 < b) (la : a ≤ 10 ^ 20) (lb : b ≤ 10 ^ 20) : Fr 70 (a / gcdI a b) (b / gcdI a b) :=
  fr_low ha hb (fr_lt ha (Int.lt_of_le_of_lt la (by decide))) (fr_lt hb (Int.lt_of_le_of_lt lb (by decide)))
theorem scPart : FnScope ["_law_pool_here", "_law_great", "_law_way", "_law_most"] ["_law_pool_here", "_law_great"] (defScope s_l_part) := ⟨rfl, rfl, rfl, by decide +kernel, rfl, by decide +kernel, by decide +kernel⟩
def spPart : Sp := fun vs H Q _ => ∃ (p : Addr) (g : Bool), vs = [.ref p, .bl g] ∧ Pool H p ∧ ∀ t a b H', Keep p H H' → Pool H' p → H t = none → FrAt 70 H' t a b → Q (.ref t) H'
theorem ok_part {g1 g2 : Addr} {gd1 gd2 : FuncData} (F : Fun K "_law_part" "_law_part" s_l_part f fd)
    (G1 : FnOk P w K mg base CX0 2 g1 gd1 ["_law_pool_here", "_law_most"] spDraw) (b1 : Binds K gd1 ["_law_pool_here", "_law_most"] []) (k1 : PySem.W.keepIn K (.ref g1) = true) (m1 : mg "_law_draw" = some (.ref g1))
    (G2 : FnOk P w K mg base CX0 2 g2 gd2 ["_law_high_part", "_law_low_part"] spLow) (b2 : Binds K gd2 ["_law_high_part", "_law_low_part"] []) (k2 : PySem.W.keepIn K (.ref g2) = true) (m2 : mg "_law_low" = some (.ref g2)) :
    FnOk P w K mg base CX0 3 f fd ["_law_pool_here", "_law_great"] spPart := by
  refine F.ok scPart (fun vs H Q E h => ?_) (fun cdv A outer s H vs Q E hr h => ?_)
  · obtain ⟨p, g, rfl, _⟩ := h
    rfl
  obtain ⟨p, g, rfl, hp, q⟩ := h
  have l1 : ∀ n : Nat, n ≤ 1000 → n ≤ sizeLine := fun n h => Nat.le_of_lt (small1000 h)
  refine ⟨_, pss_cons (ps_set (i := 2) scPart.nd rfl (.inl rfl) (pe_call G1 hr rfl m1 k1 b1 .nil pass0 (pa_cons (pv 0) (pa_cons pe_int pa_nil))))
    (pss_cons (ps_if (pt_cmpR op_lt (pv 2) pe_int (nomark _))
      (pss_one (ps_ret (pe_tup (pa_cons (pe_op op_add pe_int (pe_call G1 hr rfl m1 k1 b1 .nil pass0 (pa_cons (pv 0) (pa_cons (pe_ix ix_list (pe_lst (pa_cons pe_int (pa_cons pe_int pa_nil))) (pv 2) (fun _ _ => rfl)) pa_nil)))) (pa_cons pe_int pa_nil))))) pss_nil)
    (pss_cons (ps_set (i := 3) scPart.nd rfl (.inl rfl) (pe_ix ix_list (pe_lst (pa_cons pe_int (pa_cons pe_int (pa_cons (pe_op op_pow pe_int pe_int) (pa_cons (pe_ifExp (pt_val (pv 1)) (pe_op op_pow pe_int pe_int) pe_int) pa_nil))))) (pe_op op_sub (pv 2) pe_int) (fun _ _ => rfl)))
    (pss_one (ps_ret (pe_call G2 hr rfl m2 k2 b2 .nil pass0 (pa_cons (pe_op op_add pe_int (pe_call G1 hr rfl m1 k1 b1 .nil pass0 (pa_cons (pv 0) (pa_cons (pv 3) pa_nil)))) (pa_cons (pe_op op_add pe_int (pe_call G1 hr rfl m1 k1 b1 .nil pass0 (pa_cons (pv 0) (pa_cons (pv 3) pa_nil)))) pa_nil))))))), ?_⟩
  refine ⟨_, rfl, p, 6, rfl, hp, big_of 8 (by decide) (by decide) (by decide), fun r H1 kp hp1 r0 r6 => ?_⟩
  refine ⟨_, rfl, _, _, rfl, rfl, _, rfl, ?_⟩
  refine ite2 (fun c => ?_) (fun c => ?_)
  · have c' : r < 2 := of_decide_eq_true c
    refine ⟨_, rfl, l1 2 (by decide), fun L nL => ?_⟩
    have s1 := same_upd (o := .lst [.int 12, .int 2000]) nL
    obtain ⟨v, ev, vv⟩ := at2 (x0 := .int 12) (x1 := .int 2000) r0 c'
    have vi : ∃ m : Int, v = .int m ∧ 0 < m ∧ m ≤ 2000 := by
      rcases vv with rfl | rfl
      · exact ⟨_, rfl, by decide, by decide⟩
      · exact ⟨_, rfl, by decide, by decide⟩
    obtain ⟨m, rfl, m0, m1⟩ := vi
    refine ⟨_, rfl, L, _, _, _, rfl, rfl, SqL.of upd_same, ev, p, m, rfl, hp1.same s1, big_of 20 m0 (Int.lt_of_le_of_lt m1 (by decide)) (by decide), fun z H2 kp2 hp2 z0 z1 => ?_⟩
    refine ⟨_, _, rfl, rfl, l1 2 (by decide), fun t nt => ?_⟩
    have s2 := same_upd (o := .tup [.int (1 + z), .int 1]) nt
    have kall := kp.trans ((Same.keep s1 p).trans kp2)
    have ntp : H t = none := by
      refine Option.eq_none_iff_forall_ne_some.mpr fun o e => ?_
      by_cases ep : t = p
      · subst ep
        obtain ⟨_, _, _, e2, _⟩ := hp2
        rw [nt] at e2
        cases e2
      · have := kall t o ep e
        rw [nt] at this
        cases this
    exact q t (1 + z) 1 _ (kall.trans (Same.keep s2 p)) (hp2.same s2) ntp ⟨upd_same, fr_one (by omega) (Int.lt_of_le_of_lt (show 1 + z ≤ 2000 by omega) (by decide)) (by decide)⟩
  · have c' : ¬ r < 2 := of_decide_eq_false (Bool.eq_false_iff.mpr c)
    -- the list of four, its last by the flag
    have go : ∀ (mm : Int), 0 < mm → mm ≤ 10 ^ 20 → ∀ L, H1 L = none →
        ∃ m : Int, atI [V.int 12, .int 60, .int (10 ^ 6), .int mm] (r - 2) = some (.int m) ∧ 0 < m ∧ m ≤ 10 ^ 20 := by
      intro mm h0 h1 L nL
      obtain ⟨v, ev, vv⟩ := at4 (x0 := .int 12) (x1 := .int 60) (x2 := .int (10 ^ 6)) (x3 := .int mm) (show 0 ≤ r - 2 by omega) (by omega)
      rcases vv with rfl | rfl | rfl | rfl
      · exact ⟨_, ev, by decide, by decide⟩
      · exact ⟨_, ev, by decide, by decide⟩
      · exact ⟨_, ev, by decide, by decide⟩
      · exact ⟨_, ev, h0, h1⟩
    have fin : ∀ (m : Int) (L : Addr) (o : HO), 0 < m → m ≤ 10 ^ 20 → H1 L = none →
        ∀ z1 H2, Keep p (upd H1 L o) H2 → Pool H2 p → 0 ≤ z1 → z1 < m → ∀ z2 H3, Keep p H2 H3 → Pool H3 p → 0 ≤ z2 → z2 < m →
        ∀ t, H3 t = none → Q (.ref t) (upd H3 t (lowT (1 + z1) (1 + z2))) := by
      intro m L o m0 m1 nL z1 H2 k2 p2 z10 z11 z2 H3 k3 p3 z20 z21 t nt
      have kall := kp.trans ((Same.keep (same_upd (o := o) nL) p).trans (k2.trans k3))
      have ntp : H t = none := by
        refine Option.eq_none_iff_forall_ne_some.mpr fun o e => ?_
        by_cases ep : t = p
        · subst ep
          obtain ⟨_, _, _, e2, _⟩ := p3
          rw [nt] at e2
          cases e2
        · have := kall t o ep e
          rw [nt] at this
          cases this
      have s2 := same_upd (o := lowT (1 + z1) (1 + z2)) nt
      exact q t _ _ _ (kall.trans (Same.keep s2 p)) (p3.same s2) ntp ⟨upd_same, fr_drawn (by omega) (by omega) (by omega) (by omega)⟩
    refine ⟨_, _, rfl, rfl, ⟨by decide, by decide, by decide⟩, _, rfl, _, rfl, ?_⟩
    cases g with
    | true =>
      refine iteT ⟨_, _, rfl, rfl, ⟨by decide, by decide, by decide⟩, l1 4 (by decide), fun L nL => ?_⟩
      obtain ⟨m, em, m0, m1⟩ := go (10 ^ 20) (by decide) (by decide) L nL
      refine ⟨_, rfl, _, _, rfl, rfl, L, _, _, _, rfl, rfl, SqL.of upd_same, em, ?_⟩
      refine ⟨_, rfl, _, rfl, p, m, rfl, hp1.same (same_upd nL), big_of 70 m0 (Int.lt_of_le_of_lt m1 (by decide)) (by decide), fun z1 H2 k2 p2 z10 z11 => ⟨_, _, rfl, rfl, ?_⟩⟩
      refine ⟨_, rfl, _, rfl, p, m, rfl, p2, big_of 70 m0 (Int.lt_of_le_of_lt m1 (by decide)) (by decide), fun z2 H3 k3 p3 z20 z21 => ⟨_, _, rfl, rfl, ?_⟩⟩
      exact ⟨1 + z1, 1 + z2, rfl, big_of 70 (by omega) (Int.lt_of_le_of_lt (show 1 + z1 ≤ 10 ^ 20 by omega) (by decide)) (by decide), by omega, fin m L _ m0 m1 nL z1 H2 k2 p2 z10 z11 z2 H3 k3 p3 z20 z21⟩
    | false =>
      refine iteF ⟨l1 4 (by decide), fun L nL => ?_⟩
      obtain ⟨m, em, m0, m1⟩ := go 90 (by decide) (by decide) L nL
      refine ⟨_, rfl, _, _, rfl, rfl, L, _, _, _, rfl, rfl, SqL.of upd_same, em, ?_⟩
      refine ⟨_, rfl, _, rfl, p, m, rfl, hp1.same (same_upd nL), big_of 70 m0 (Int.lt_of_le_of_lt m1 (by decide)) (by decide), fun z1 H2 k2 p2 z10 z11 => ⟨_, _, rfl, rfl, ?_⟩⟩
      refine ⟨_, rfl, _, rfl, p, m, rfl, p2, big_of 70 m0 (Int.lt_of_le_of_lt m1 (by decide)) (by decide), fun z2 H3 k3 p3 z20 z21 => ⟨_, _, rfl, rfl, ?_⟩⟩
      exact ⟨1 + z1, 1 + z2, rfl, big_of 70 (by omega) (Int.lt_of_le_of_lt (show 1 + z1 ≤ 10 ^ 20 by omega) (by decide)) (by decide), by omega, fin m L _ m0 m1 nL z1 H2 k2 p2 z10 z11 z2 H3 k3 p3 z20 z21⟩
end
/-! ### size_base.lean -/
section
variable {P : Program} {w : World} {K : PySem.W.Frag} {mg : Str → Option Value} {base : Heap} {f : Addr} {fd : FuncData}
/-! a side: a positive int or a fraction -/
inductive Side (n : Nat) (H : Hp) : V → Int → Int → Prop where
  | int {a : Int} (h : Fr n a 1) : Side n H (.int a) a 1
  | ref {p : Addr} {a b : Int} (h : FrAt n H p a b) : Side n H (.ref p) a b
theorem Side.same {n : Nat} {H H' : Hp} {v : V} {a b : Int} (h : Side n H v a b) (s : Same H H') : Side n H' v a b := by
  cases h with
  | int h => exact .int h
  | ref h => exact .ref (h.same s)
theorem scAs : FnScope ["side"] ["side"] (defScope s_as_fraction) := ⟨rfl, rfl, rfl, by decide +kernel, rfl, by decide +kernel, by decide +kernel⟩
def spAs : Sp := fun vs H Q _ => ∃ v a b, vs = [v] ∧ Side 3900 H v a b ∧ ∀ H' p, Same H H' → FrAt 3900 H' p a b → Q (.ref p) H'
theorem ok_as_good {g1 g2 : Addr} {gd1 gd2 : FuncData} (F : Fun K "as_fraction" "as_fraction" s_as_fraction f fd)
    (G1 : FnOk P w K mg base CX0 2 g1 gd1 ["value"] (spIsPos K)) (b1 : Binds K gd1 ["value"] []) (k1 : PySem.W.keepIn K (.ref g1) = true) (m1 : mg "is_positive" = some (.ref g1))
    (G2 : FnOk P w K mg base CX0 4 g2 gd2 ["values"] (spCheckGood K)) (b2 : Binds K gd2 ["values"] []) (k2 : PySem.W.keepIn K (.ref g2) = true) (m2 : mg "check_fractions" = some (.ref g2)) :
    FnOk P w K mg base CX0 5 f fd ["side"] spAs := by
  refine F.ok scAs (fun vs H Q E h => ?_) (fun cdv A outer s H vs Q E hr h => ?_)
  · obtain ⟨v, a, b, rfl, _⟩ := h
    rfl
  obtain ⟨v, a, b, rfl, sd, q⟩ := h
  refine ⟨_, pss_cons (ps_if (pt_val (pe_call G1 (hr.mono (by decide)) rfl m1 k1 b1 .nil pass0 (pa_cons (pv 0) pa_nil))) (pss_one (ps_ret (pe_tup (pa_cons (pv 0) (pa_cons pe_int pa_nil))))) pss_nil)
    (pss_cons (ps_expr (pe_call G2 hr rfl m2 k2 b2 .nil pass0 (pa_cons (pe_tup (pa_cons (pv 0) pa_nil)) pa_nil)))
    (pss_one (ps_ret (pv 0)))), ?_⟩
  cases sd with
  | int h =>
    refine ⟨_, rfl, .int a, rfl, .int a, _, rfl, ?_⟩
    have ha : isPos (.int a) = true := decide_eq_true h.a0
    rw [ha]
    refine iteT ⟨_, rfl, by show 2 ≤ sizeLine; decide, fun t ht => ?_⟩
    exact q _ t (same_upd ht) ⟨upd_same, h⟩
  | @ref p a b h =>
    refine ⟨_, rfl, .ref p, rfl, .no ⟨_, .base (.tup h.1), kit_ty (by decide +kernel)⟩, _, rfl, iteF ?_⟩
    refine ⟨_, rfl, by show 1 ≤ sizeLine; decide, fun t ht => ?_⟩
    have s1 := same_upd (o := .tup [.ref p]) ht
    have e1 : upd H t (.tup [.ref p]) t = some (.tup [.ref p]) := upd_same
    generalize upd H t (.tup [.ref p]) = A1 at s1 e1 ⊢
    refine ⟨t, _, rfl, .inl (.inl e1), ?_, ?_⟩
    · intro x hx
      rw [List.mem_singleton.mp hx]
      exact ⟨p, a, b, rfl, s1 _ _ h.1, h.2.up (by decide)⟩
    exact ⟨_, rfl, q _ p s1 (h.same s1)⟩
/-! a size: two attributes -/
def szF (p q : Addr) : List (Str × V) := putF "height" (.ref q) (putF "width" (.ref p) [])
theorem hw_ne : ¬ (("width" : Str) = "height") := by decide +kernel
theorem szF_w (p q : Addr) : (szF p q).lookup ("width" : Str) = some (.ref p) := by
  unfold szF
  rw [lookup_putF, if_neg hw_ne, lookup_putF, if_pos rfl]
theorem szF_h (p q : Addr) : (szF p q).lookup ("height" : Str) = some (.ref q) := by
  unfold szF
  rw [lookup_putF, if_pos rfl]
theorem szF_no (p q : Addr) {m : Str} (h1 : ¬ m = "height") (h2 : ¬ m = "width") : (szF p q).lookup m = none := by
  unfold szF
  rw [lookup_putF, if_neg h1, lookup_putF, if_neg h2]
  rfl
/-- a size stands at x: width a / b, height c / d -/
def SzAt (n : Nat) (C : Addr) (H : Hp) (x : Addr) (a b c d : Int) : Prop := ∃ dx p q, H x = some (.ins C dx (szF p q)) ∧ FrAt n H p a b ∧ FrAt n H q c d
theorem SzAt.same {n : Nat} {C : Addr} {H H' : Hp} {x : Addr} {a b c d : Int} (h : SzAt n C H x a b c d) (s : Same H H') : SzAt n C H' x a b c d := by
  obtain ⟨dx, p, q, e, hp, hq⟩ := h
  exact ⟨dx, p, q, s _ _ e, hp.same s, hq.same s⟩
/-- what the walk asks of the class as the top has made it -/
structure SzTxt (K : PySem.W.Frag) (mg : Str → Option Value) (C : Addr) : Prop where
  cl : Cls K C
  nW : NoAttr K C "width"
  nH : NoAttr K C "height"
  mgC : mg "Size" = some (.ref C)
theorem scInit : FnScope ["self", "width", "height"] ["self", "width", "height"] (defScope s_Size_init) := ⟨rfl, rfl, rfl, by decide +kernel, rfl, by decide +kernel, by decide +kernel⟩
def spInit (C : Addr) : Sp := fun vs H Q _ => ∃ x dx v1 v2 a b c d, vs = [.ref x, v1, v2] ∧ H x = some (.ins C dx []) ∧ Side 3900 H v1 a b ∧ Side 3900 H v2 c d ∧
  ∀ H', Keep x H H' → SzAt 3900 C H' x a b c d → Q .non H'
theorem ok_init {C g1 : Addr} {gd1 : FuncData} (F : Fun K "__init__" "Size.__init__" s_Size_init f fd) (T : SzTxt K mg C)
    (G1 : FnOk P w K mg base CX0 5 g1 gd1 ["side"] spAs) (b1 : Binds K gd1 ["side"] []) (k1 : PySem.W.keepIn K (.ref g1) = true) (m1 : mg "as_fraction" = some (.ref g1)) :
    FnOk P w K mg base CX0 6 f fd ["self", "width", "height"] (spInit C) := by
  refine F.ok scInit (fun vs H Q E h => ?_) (fun cdv A outer s H vs Q E hr h => ?_)
  · obtain ⟨x, dx, v1, v2, a, b, c, d, rfl, _⟩ := h
    rfl
  obtain ⟨x, dx, v1, v2, a, b, c, d, rfl, hx, sd1, sd2, k⟩ := h
  refine ⟨_, pss_cons (ps_fld (pv 0) (pe_call G1 hr rfl m1 k1 b1 .nil pass0 (pa_cons (pv 1) pa_nil)) rfl) (pss_one (ps_fld (pv 0) (pe_call G1 hr rfl m1 k1 b1 .nil pass0 (pa_cons (pv 2) pa_nil)) rfl)), ?_⟩
  refine ⟨_, rfl, v1, a, b, rfl, sd1, fun H1 p s1 hp => ?_⟩
  have hx1 := s1 _ _ hx
  refine ⟨_, rfl, x, C, dx, [], rfl, hx1, T.cl, T.nW, by show 0 < 1000; decide, ?_⟩
  -- the side stands beside the instance
  have npx : p ≠ x := fun e => by
    have := hp.1
    rw [e, hx1] at this
    cases this
  have sd2' : Side 3900 (upd H1 x (.ins C dx (putF "width" (.ref p) []))) v2 c d := by
    cases sd2 with
    | int h => exact .int h
    | @ref r c d h =>
      have h1 := h.same s1
      refine .ref ⟨?_, h1.2⟩
      rw [upd_ne fun e => by
        have := h1.1
        rw [e, hx1] at this
        cases this]
      exact h1.1
  have k0 : Keep x H1 (upd H1 x (.ins C dx (putF "width" (.ref p) []))) := Keep.at
  have hp2 : FrAt 3900 (upd H1 x (.ins C dx (putF "width" (.ref p) []))) p a b := ⟨k0 _ _ npx hp.1, hp.2⟩
  have hx2 : upd H1 x (.ins C dx (putF "width" (.ref p) [])) x = some (.ins C dx (putF "width" (.ref p) [])) := upd_same
  generalize upd H1 x (.ins C dx (putF "width" (.ref p) [])) = H2 at sd2' k0 hp2 hx2 ⊢
  refine ⟨_, rfl, v2, c, d, rfl, sd2', fun H3 q s3 hq => ?_⟩
  have hx3 := s3 _ _ hx2
  have nqx : q ≠ x := fun e => by
    have := hq.1
    rw [e, hx3] at this
    cases this
  have hp3 := hp2.same s3
  refine ⟨_, rfl, x, C, dx, _, rfl, hx3, T.cl, T.nH, by show 1 < 1000; decide, ?_⟩
  have k4 : Keep x H3 (upd H3 x (.ins C dx (szF p q))) := Keep.at
  exact k _ ((Same.keep s1 x).trans (k0.trans ((Same.keep s3 x).trans k4))) ⟨dx, p, q, upd_same, ⟨k4 _ _ npx hp3.1, hp3.2⟩, ⟨k4 _ _ nqx hq.1, hq.2⟩⟩
/-! turned, ratio -/
def spMakeSz (C : Addr) : Sp := spInit C
theorem scTurned : FnScope ["self"] ["self"] (defScope s_Size_turned) := ⟨rfl, rfl, rfl, by decide +kernel, rfl, by decide +kernel, by decide +kernel⟩
def spTurned (C : Addr) : Sp := fun vs H Q _ => ∃ x a b c d, vs = [.ref x] ∧ SzAt 3900 C H x a b c d ∧ ∀ H' y, Same H H' → H y = none → SzAt 3900 C H' y c d a b → Q (.ref y) H'
theorem ok_turned {C fI : Addr} {fdI : FuncData} (F : Fun K "turned" "Size.turned" s_Size_turned f fd) (T : SzTxt K mg C) (M : Mk K C fI)
    (GI : FnOk P w K mg base CX0 6 fI fdI ["self", "width", "height"] (spInit C)) (bI : Binds K fdI ["self", "width", "height"] []) : FnOk P w K mg base CX0 8 f fd ["self"] (spTurned C) := by
  refine F.ok scTurned (fun vs H Q E h => ?_) (fun cdv A outer s H vs Q E hr h => ?_)
  · obtain ⟨x, a, b, c, d, rfl, _⟩ := h
    rfl
  obtain ⟨x, a, b, c, d, rfl, ⟨dx, p, q, hx, hp, hq⟩, k⟩ := h
  refine ⟨_, pss_one (ps_ret (pe_make M GI hr rfl T.mgC bI .nil pass0 (pa_cons (pe_fld (pv 0) rfl) (pa_cons (pe_fld (pv 0) rfl) pa_nil)))), ?_⟩
  refine ⟨_, rfl, x, C, dx, _, _, rfl, hx, T.cl, T.nH, szF_h p q, _, rfl, x, C, dx, _, _, rfl, hx, T.cl, T.nW, szF_w p q, ?_⟩
  intro y dy ny ndy ney
  have s0 : Same H (upd (upd H dy (.own y)) y (.ins C dy [])) := fun b o e => by
    rw [upd_ne (ne_of_none e ny), upd_ne (ne_of_none e ndy)]
    exact e
  refine ⟨y, dy, _, _, c, d, a, b, rfl, upd_same, .ref (hq.same s0), .ref (hp.same s0), fun H' kp sz => ⟨rfl, ?_⟩⟩
  exact k H' y (kp.same s0 ny) ny sz
end
/-! ### size_str.lean -/
section
/-! str(x), repr(x) of an own instance whose class has the def -/
structure OwnDef (K : PySem.W.Frag) (C : Addr) (m : Str) (f : Addr) : Prop where
  at_ : PySem.W.findIn K (.ref C) m = some (some (.ref f))
  fn : PySem.W.isFn K (.ref f) = true
def RStrOwn (C : Addr) (sp : Sp) : List V → Hp → VK → Prop := fun xs H Q => ∃ x dx fs, xs = [.ref x] ∧ H x = some (.ins C dx fs) ∧ sp [.ref x] H (fun v H' => (∃ y, v = .str y) ∧ Q v H') fun _ _ _ => False
variable {X : Cx} {k : Nat} {C f : Addr} {fd : FuncData} {ps : List Str} {sp : Sp}
theorem runOwn {pins : List (Addr × Obj)} {sl : L2.St} {H : Hp} {s : Shared} {A : Around} {Q : VK} {R : Value → Shared → Prop} {x : Addr} (F : FnOk X.prog X.w X.K X.mg X.base CX0 k f fd ps sp) (hb : Binds X.K fd ps []) (inv : Inv X pins sl H s) (hr : Room k A) (env : Env0 X.prog X.w X.K X.mg X.base A X.stack s H)
    (h : sp [.ref x] H (fun v H' => (∃ y, v = .str y) ∧ Q v H') fun _ _ _ => False) (fin : ∀ y t s' , EP X pins sl Q (.str y t) s' → R (.str y t) s') {E : Value → Shared → Prop} : wpAny (model X.prog X.w) A (call (.ref f) [.ref x]) R E s := by
  have hl : ([Value.ref x] ++ []).length = ps.length := by
    rw [← F.len _ _ _ _ h]
    rfl
  refine wpAny_call (codeAny_mono (F.run A X.stack s H ⟨[.ref x], []⟩ ([Value.ref x] ++ []) [.ref x] _ _ hr env (hb s [.ref x] inv.kIn hl) (.cons rfl .nil) h) fun r s' hq => ?_)
  cases r with
  | error e => exact False.elim hq
  | ok fl =>
    cases fl with
    | ret u =>
      obtain ⟨v, H', I3, rv, ⟨y, ey⟩, q3⟩ := inv.after hq
      subst ey
      obtain ⟨t, rfl⟩ := (show ∃ t, u = Value.str y t from rv)
      exact fin y t s' ⟨.str y, H', I3, ⟨t, rfl⟩, q3⟩
    | next => exact False.elim hq
    | brk => exact False.elim hq
    | cont => exact False.elim hq
theorem strOwn (S : OwnDef X.K C "__str__" f) (F : FnOk X.prog X.w X.K X.mg X.base CX0 k f fd ps sp) (hr : Room (k + 2) X.A) (hb : Binds X.K fd ps []) : CallR X (.type "str") (RStrOwn C sp) := by
  intro pins s sl H xs us Q inv vals want
  obtain ⟨x, dx, fs, rfl, hx, h⟩ := want
  obtain ⟨u, rfl, ru⟩ := vals1 vals
  obtain rfl : u = Value.ref x := ru
  obtain ⟨mA, O, _⟩ := ins_get inv.hok hx
  obtain ⟨od, J, _⟩ := O.look
  exact PySem.W.kso_call hr.in1.in1.units0 inv.kIn J S.at_ S.fn (runOwn (R := PySem.W.StrBack (EP X pins sl Q)) F hb inv hr.in1.in1 inv.env0.in1.in1 h fun y t s' q => q)
theorem reprOwn (S : OwnDef X.K C "__repr__" f) (F : FnOk X.prog X.w X.K X.mg X.base CX0 k f fd ps sp) (hr : Room (k + 1) X.A) (hb : Binds X.K fd ps []) : CallR X (.builtin "repr") (RStrOwn C sp) := by
  intro pins s sl H xs us Q inv vals want
  obtain ⟨x, dx, fs, rfl, hx, h⟩ := want
  obtain ⟨u, rfl, ru⟩ := vals1 vals
  obtain rfl : u = Value.ref x := ru
  obtain ⟨mA, O, _⟩ := ins_get inv.hok hx
  obtain ⟨od, J, _⟩ := O.look
  obtain ⟨m, fr⟩ := inv.fr
  exact PySem.W.repr_K hr.in1.units0 fr inv.ok.mod.kin J S.at_ S.fn (runOwn (R := PySem.W.StrBack (EP X pins sl Q)) F hb inv hr.in1 inv.env0.in1 h fun y t s' q => q)
/-! a new instance of the class that a local holds -/
def tMakeL (i : Nat) (C : Addr) (sp : Sp) (dvs : List V) (E : XK) (t : TA) : TE := fun sl H Q => sl[i]? = some (some (.ref C)) ∧ tMake C sp dvs E t sl H Q
theorem pe_makeL {i : Nat} {x : Str} {p pos : Pos} {e : Expr} {es : List Expr} {t : TA} {dvs : List V} {ds : List Value} {E : XK} {CX : CXT} (M : Mk X.K C f) (F : FnOk X.prog X.w X.K X.mg X.base CX k f fd ps sp) (hr : Room (k + 1) X.A) (hN : X.N[i]? = some x) (hv : Vis X.env.scope x) (hb : Binds X.K fd ps ds) (hd : Vals dvs ds) (hx : Passes CX X E)
    (ha : PA X (e :: es) t) (hdb : (x == ("__debug__" : Str)) = false := by decide) (hcd : (x == ("__classdict__" : Str)) = false := by decide) (he : starEach (e :: es) X.env = (false, eval e X.env) :: starEach es X.env := by rfl) (hpl : (backTo pos (starEach es X.env)).any (·.1) = false := by rfl) :
    PE X (.Call (.Name x p) (e :: es) [] pos) (tMakeL i C sp dvs E t) := by
  constructor
  intro pins s sl H Q I h
  obtain ⟨hs, ht⟩ := h
  refine wpAny_Call_Name_kw (thn ((pe_var (pos := p) hN hv hdb hcd).run pins s sl H (fun v H1 => v = .ref C ∧ H1 = H) I ⟨.ref C, hs, rfl, rfl⟩) fun u s1 hu => ?_)
  obtain ⟨v, H1, I1, r1, rfl, rfl⟩ := hu
  cases r1
  refine PySem.W.callWith_K (h₀ := X.base) I.ok.mod.kin M.kp (thn (ha.run pos pins s1 sl _ _ I1 ht) fun us s2 hu => ?_) he hpl
  obtain ⟨vs, H2, I2, r, q⟩ := hu
  exact ⟨I2.kIn, run_make M F hr hb hd hx I2 r q⟩
end
/-! ### size_more.lean -/
section
variable {P : Program} {w : World} {K : PySem.W.Frag} {mg : Str → Option Value} {base : Heap} {f : Addr} {fd : FuncData}
/-! the ratio -/
theorem scRatio : FnScope ["self"] ["self"] (defScope s_Size_ratio) := ⟨rfl, rfl, rfl, by decide +kernel, rfl, by decide +kernel, by decide +kernel⟩
def spRatio (C : Addr) : Sp := fun vs H Q _ => ∃ x a b c d, vs = [.ref x] ∧ SzAt 3900 C H x a b c d ∧ ∀ H' t, Same H H' → H t = none → H' t = some (lowT (a * d) (b * c)) → Q (.ref t) H'
theorem ok_ratio {C g1 : Addr} {gd1 : FuncData} (F : Fun K "ratio" "Size.ratio" s_Size_ratio f fd) (T : SzTxt K mg C)
    (G1 : FnOk P w K mg base CX0 5 g1 gd1 ["one", "other"] spQuot) (b1 : Binds K gd1 ["one", "other"] []) (k1 : PySem.W.keepIn K (.ref g1) = true) (m1 : mg "quotient" = some (.ref g1)) :
    FnOk P w K mg base CX0 6 f fd ["self"] (spRatio C) := by
  refine F.ok scRatio (fun vs H Q E h => ?_) (fun cdv A outer s H vs Q E hr h => ?_)
  · obtain ⟨x, a, b, c, d, rfl, _⟩ := h
    rfl
  obtain ⟨x, a, b, c, d, rfl, ⟨dx, p, q, hx, hp, hq⟩, k⟩ := h
  refine ⟨_, pss_one (ps_ret (pe_call G1 hr rfl m1 k1 b1 .nil pass0 (pa_cons (pe_fld (pv 0) rfl) (pa_cons (pe_fld (pv 0) rfl) pa_nil)))), ?_⟩
  refine ⟨_, rfl, x, C, dx, _, _, rfl, hx, T.cl, T.nW, szF_w p q, _, rfl, x, C, dx, _, _, rfl, hx, T.cl, T.nH, szF_h p q, ?_⟩
  exact ⟨p, q, a, b, c, d, rfl, hp, hq, k⟩
/-! texts -/
def szS (a b c d : Int) : Str := ((Str.empty ++ fmtS a b) ++ Str.ofString "x") ++ fmtS c d
def szR (a b c d : Int) : Str := ((Str.empty ++ Str.ofString "Size(") ++ szS a b c d) ++ Str.ofString ")"
theorem szS_len {n : Nat} {a b c d : Int} (h1 : Fr n a b) (h2 : Fr n c d) (hn : n ≤ 1900) : (szS a b c d).length ≤ 2601 := by
  have := fmtS_len h1 hn
  have := fmtS_len h2 hn
  have : (Str.ofString "x").length = 1 := by decide +kernel
  have : Str.empty.length = 0 := by decide +kernel
  unfold szS
  rw [strLen_append, strLen_append, strLen_append]
  omega
theorem szR_len {n : Nat} {a b c d : Int} (h1 : Fr n a b) (h2 : Fr n c d) (hn : n ≤ 1900) : (szR a b c d).length ≤ 2607 := by
  have := szS_len h1 h2 hn
  have : (Str.ofString "Size(").length = 5 := by decide +kernel
  have : (Str.ofString ")").length = 1 := by decide +kernel
  have : Str.empty.length = 0 := by decide +kernel
  unfold szR
  rw [strLen_append, strLen_append, strLen_append]
  omega
theorem le_line {n : Nat} (h : n ≤ 4000) : n ≤ sizeLine := by rw [sizeLine_eq]; omega
theorem scStr : FnScope ["self"] ["self"] (defScope s_Size_str) := ⟨rfl, rfl, rfl, by decide +kernel, rfl, by decide +kernel, by decide +kernel⟩
def spStr (C : Addr) : Sp := fun vs H Q _ => ∃ x a b c d, vs = [.ref x] ∧ SzAt 1900 C H x a b c d ∧ ∀ H', Same H H' → Q (.str (szS a b c d)) H'
theorem ok_str {C g1 : Addr} {gd1 : FuncData} (F : Fun K "__str__" "Size.__str__" s_Size_str f fd) (T : SzTxt K mg C)
    (G1 : FnOk P w K mg base CX0 5 g1 gd1 ["number"] spFmt) (b1 : Binds K gd1 ["number"] []) (k1 : PySem.W.keepIn K (.ref g1) = true) (m1 : mg "format_fraction" = some (.ref g1)) :
    FnOk P w K mg base CX0 6 f fd ["self"] (spStr C) := by
  refine F.ok scStr (fun vs H Q E h => ?_) (fun cdv A outer s H vs Q E hr h => ?_)
  · obtain ⟨x, a, b, c, d, rfl, _⟩ := h
    rfl
  obtain ⟨x, a, b, c, d, rfl, ⟨dx, p, q, hx, hp, hq⟩, k⟩ := h
  refine ⟨_, pss_one (ps_ret (pe_joined (.cons (pe_fmt (pe_call G1 hr rfl m1 k1 b1 .nil pass0 (pa_cons (pe_fld (pv 0) rfl) pa_nil))) (.cons pe_str (.cons (pe_fmt (pe_call G1 hr rfl m1 k1 b1 .nil pass0 (pa_cons (pe_fld (pv 0) rfl) pa_nil))) .nil))))), ?_⟩
  have l1 := fmtS_len hp.2 (by decide)
  have l2 := fmtS_len hq.2 (by decide)
  have l3 := szS_len hp.2 hq.2 (by decide)
  unfold szS at l3
  rw [strLen_append, strLen_append, strLen_append] at l3
  refine ⟨_, rfl, x, C, dx, _, _, rfl, hx, T.cl, T.nW, szF_w p q, p, a, b, rfl, hp, fun H1 s1 => ?_⟩
  refine .inl ⟨_, rfl, le_line (by omega), _, rfl, le_line (by rw [strLen_append]; omega), _, rfl, le_line (by rw [strLen_append, strLen_append]; omega), ?_⟩
  refine ⟨_, rfl, x, C, dx, _, _, rfl, s1 _ _ hx, T.cl, T.nH, szF_h p q, q, c, d, rfl, hq.same s1, fun H2 s2 => ?_⟩
  refine .inl ⟨_, rfl, le_line (by omega), _, rfl, le_line (by rw [strLen_append, strLen_append, strLen_append]; omega), ?_⟩
  exact k _ (s1.trans s2)
theorem scRepr : FnScope ["self"] ["self"] (defScope s_Size_repr) := ⟨rfl, rfl, rfl, by decide +kernel, rfl, by decide +kernel, by decide +kernel⟩
def spRepr (C : Addr) : Sp := fun vs H Q _ => ∃ x a b c d, vs = [.ref x] ∧ SzAt 1900 C H x a b c d ∧ ∀ H', Same H H' → Q (.str (szR a b c d)) H'
theorem ok_repr {C fS : Addr} {fdS : FuncData} (F : Fun K "__repr__" "Size.__repr__" s_Size_repr f fd) (ms : mg "str" = none)
    (S : OwnDef K C "__str__" fS) (GS : FnOk P w K mg base CX0 6 fS fdS ["self"] (spStr C)) (bS : Binds K fdS ["self"] []) :
    FnOk P w K mg base CX0 9 f fd ["self"] (spRepr C) := by
  refine F.ok scRepr (fun vs H Q E h => ?_) (fun cdv A outer s H vs Q E hr h => ?_)
  · obtain ⟨x, a, b, c, d, rfl, _⟩ := h
    rfl
  obtain ⟨x, a, b, c, d, rfl, ⟨dx, p, q, hx, hp, hq⟩, k⟩ := h
  refine ⟨_, pss_one (ps_ret (pe_joined (.cons pe_str (.cons (pe_fmt (pe_callTy (strOwn S GS hr bS) (by rfl) ms PyProof.Rows.boot_str (pa_cons (pv 0) pa_nil))) (.cons pe_str .nil))))), ?_⟩
  have l2 := szS_len hp.2 hq.2 (by decide)
  have l3 := szR_len hp.2 hq.2 (by decide)
  unfold szR at l3
  rw [strLen_append, strLen_append, strLen_append] at l3
  refine ⟨_, rfl, le_line (by rw [strLen_append]; omega), _, rfl, x, dx, _, rfl, hx, x, a, b, c, d, rfl, ⟨dx, p, q, hx, hp, hq⟩, fun H1 s1 => ⟨⟨_, rfl⟩, ?_⟩⟩
  refine .inl ⟨_, rfl, le_line (by omega), _, rfl, le_line (by rw [strLen_append, strLen_append]; omega), _, rfl, le_line (by rw [strLen_append, strLen_append, strLen_append]; omega), ?_⟩
  exact k _ s1
end
/-! ### size_read.lean -/
section
variable {P : Program} {w : World} {K : PySem.W.Frag} {mg : Str → Option Value} {base : Heap} {f : Addr} {fd : FuncData}
/-! Size.read of a size's text -/
theorem x_tl : TL.tl (Str.ofString "x") = 120 :: [] := by decide +kernel
theorem fmtS_free {n : Nat} {a b : Int} (h : Fr n a b) {s : Nat} (hs : 57 < s) : s ∉ TL.tl (fmtS a b) := by
  have ha := numS_free (i := a) (by have := h.a0; omega) (.inr hs)
  have hb := numS_free (i := b) (by have := h.b0; omega) (.inr hs)
  unfold fmtS
  split
  · exact ha
  · rw [empty_app, TL.tl_append, TL.tl_append, slash_tl]
    intro m
    rcases List.mem_append.mp m with m | m
    · rcases List.mem_append.mp m with m | m
      · exact ha m
      · have : s = 47 := List.mem_singleton.mp m
        omega
    · exact hb m
theorem szS_part {n : Nat} {a b c d : Int} (h : Fr n a b) : Txt.partition (szS a b c d) (Str.ofString "x") = (fmtS a b, Str.ofString "x", fmtS c d) := by
  unfold szS
  rw [empty_app]
  exact TL.partition_app x_tl (fmtS_free h (by decide))
theorem scRead : FnScope ["cls", "text", "parts", "width", "height"] ["cls", "text"] (defScope s_Size_read) := ⟨rfl, rfl, rfl, by decide +kernel, rfl, by decide +kernel, by decide +kernel⟩
def spRead (C : Addr) : Sp := fun vs H Q _ => ∃ a b c d, vs = [.ref C, .str (szS a b c d)] ∧ Fr 1900 a b ∧ Fr 1900 c d ∧ ∀ H' y, Same H H' → H y = none → SzAt 3900 C H' y a b c d → Q (.ref y) H'
theorem ok_read {C fI g1 : Addr} {fdI gd1 : FuncData} (F : Fun K "read" "Size.read" s_Size_read f fd) (M : Mk K C fI) (mi : mg "isinstance" = none) (ms : mg "str" = none)
    (GI : FnOk P w K mg base CX0 6 fI fdI ["self", "width", "height"] (spInit C)) (bI : Binds K fdI ["self", "width", "height"] [])
    (G1 : FnOk P w K mg base CX0 6 g1 gd1 ["text"] spFindGood) (b1 : Binds K gd1 ["text"] []) (k1 : PySem.W.keepIn K (.ref g1) = true) (m1 : mg "find_fraction" = some (.ref g1)) :
    FnOk P w K mg base CX0 8 f fd ["cls", "text"] (spRead C) := by
  refine F.ok scRead (fun vs H Q E h => ?_) (fun cdv A outer s H vs Q E hr h => ?_)
  · obtain ⟨a, b, c, d, rfl, _⟩ := h
    rfl
  obtain ⟨a, b, c, d, rfl, f1, f2, k⟩ := h
  have r5 : Room 6 _ := hr.mono (by decide)
  refine ⟨_, pss_cons (ps_if (pt_not (pt_val (pe_callB call_isi (by rfl) mi PyProof.Rows.boot_isinstance (pa_cons (pv 1) (pa_cons (pe_bltn (v := .ty "str") (by rfl) ms PyProof.Rows.boot_str rfl) pa_nil))))) (pss_one ps_never) pss_nil)
    (pss_cons (ps_set (i := 2) scRead.nd rfl (.inl rfl) (pe_partition (pv 1) pe_str))
    (pss_cons (ps_set (i := 3) scRead.nd rfl (.inl rfl) (pe_call G1 r5 rfl m1 k1 b1 .nil pass0 (pa_cons (pe_ix ix_tup (pv 2) pe_int (fun _ _ => rfl)) pa_nil)))
    (pss_cons (ps_set (i := 4) scRead.nd rfl (.inl rfl) (pe_call G1 r5 rfl m1 k1 b1 .nil pass0 (pa_cons (pe_ix ix_tup (pv 2) pe_int (fun _ _ => rfl)) pa_nil)))
    (pss_cons (ps_if (PW.pt (pw_or (pt_cmp (pc_isN (pv 3))) (pw_or1 (pt_cmp (pc_isN (pv 4)))))) (pss_one ps_never) pss_nil)
    (pss_one (ps_ret (pe_makeL (i := 0) M GI hr rfl (.inl rfl) bI .nil pass0 (pa_cons (pv 3) (pa_cons (pv 4) pa_nil))))))))), ?_⟩
  have ln := szS_len f1 f2 (by decide)
  refine ⟨_, rfl, _, _, _, _, true, rfl, .ty "str", .base (.str _), kit_ty (by decide +kernel), _, rfl, iteF ?_⟩
  refine ⟨_, rfl, ⟨_, rfl⟩, _, _, rfl, rfl, by decide +kernel, by rw [sizeLine_eq]; omega, fun t ht => ?_⟩
  rw [szS_part f1]
  have s1 := same_upd (o := .tup [.str (fmtS a b), .str (Str.ofString "x"), .str (fmtS c d)]) ht
  have e1 : upd H t (.tup [.str (fmtS a b), .str (Str.ofString "x"), .str (fmtS c d)]) t = some (.tup [.str (fmtS a b), .str (Str.ofString "x"), .str (fmtS c d)]) := upd_same
  generalize upd H t (.tup [.str (fmtS a b), .str (Str.ofString "x"), .str (fmtS c d)]) = A1 at s1 e1 ⊢
  have seq1 : SqT K A1 t [.str (fmtS a b), .str (Str.ofString "x"), .str (fmtS c d)] := .inl (.inl e1)
  refine ⟨_, rfl, t, _, _, _, rfl, rfl, seq1, rfl, a, b, rfl, f1, fun A2 p s2 np hp => ?_⟩
  refine ⟨_, rfl, t, _, _, _, rfl, rfl, .inl (.inl (s2 _ _ e1)), rfl, c, d, rfl, f2, fun A3 q s3 nq hq => ?_⟩
  refine ⟨_, rfl, _, rfl, iteF ⟨_, rfl, _, rfl, iteF ?_⟩⟩
  refine ⟨rfl, _, rfl, _, rfl, fun y dy ny ndy ney => ?_⟩
  have s4 : Same A3 (upd (upd A3 dy (.own y)) y (.ins C dy [])) := fun b o e => by
    rw [upd_ne (ne_of_none e ny), upd_ne (ne_of_none e ndy)]
    exact e
  have up : ∀ {p a b} {H : Hp}, FrAt 1900 H p a b → FrAt 3900 H p a b := fun h => ⟨h.1, h.2.up (by decide)⟩
  refine ⟨y, dy, _, _, a, b, c, d, rfl, upd_same, .ref (up ((hp.same s3).same s4)), .ref (up (hq.same s4)), fun H' kp sz => ⟨rfl, ?_⟩⟩
  have s13 := (s1.trans s2).trans s3
  exact k H' y (s13.trans (kp.same s4 ny)) (s13.free ny) sz
end
/-! ### law_ops.lean -/
section
variable {P : Program} {w : World} {K : PySem.W.Frag} {mg : Str → Option Value} {base : Heap} {f : Addr} {fd : FuncData}
/-! the law's own products, quotients, comparisons -/
theorem scLMul : FnScope ["_law_lead", "_law_more"] ["_law_lead", "_law_more"] (defScope s_l_mul) := ⟨rfl, rfl, rfl, by decide +kernel, rfl, by decide +kernel, by decide +kernel⟩
def spLMul : Sp := fun vs H Q _ => ∃ p q a b c d, vs = [.ref p, .ref q] ∧ FrAt 3900 H p a b ∧ FrAt 3900 H q c d ∧ ∀ t, H t = none → Q (.ref t) (upd H t (lowT (a * c) (b * d)))
theorem ok_lmul {g2 : Addr} {gd2 : FuncData} (F : Fun K "_law_mul" "_law_mul" s_l_mul f fd)
    (G2 : FnOk P w K mg base CX0 2 g2 gd2 ["_law_high_part", "_law_low_part"] spLow) (b2 : Binds K gd2 ["_law_high_part", "_law_low_part"] []) (k2 : PySem.W.keepIn K (.ref g2) = true) (m2 : mg "_law_low" = some (.ref g2)) :
    FnOk P w K mg base CX0 3 f fd ["_law_lead", "_law_more"] spLMul := by
  refine F.ok scLMul (fun vs H Q E h => ?_) (fun cdv A outer s H vs Q E hr h => ?_)
  · obtain ⟨p, q, a, b, c, d, rfl, _⟩ := h
    rfl
  obtain ⟨p, q, a, b, c, d, rfl, hp, hq, k⟩ := h
  refine ⟨_, pss_one (ps_ret (pe_call G2 hr rfl m2 k2 b2 .nil pass0 (pa_cons (pe_op op_mulW (pe_ix ix_tup (pv 0) pe_int (fun _ _ => rfl)) (pe_ix ix_tup (pv 1) pe_int (fun _ _ => rfl))) (pa_cons (pe_op op_mulW (pe_ix ix_tup (pv 0) pe_int (fun _ _ => rfl)) (pe_ix ix_tup (pv 1) pe_int (fun _ _ => rfl))) pa_nil)))), ?_⟩
  have hp1 := hp.seq (K := K)
  have hq1 := hq.seq (K := K)
  refine ⟨_, rfl, p, _, _, _, rfl, rfl, hp1, rfl, _, rfl, q, _, _, _, rfl, rfl, hq1, rfl, _, _, rfl, rfl, mulW hp.2.al hq.2.al, ?_⟩
  refine ⟨_, rfl, p, _, _, _, rfl, rfl, hp1, rfl, _, rfl, q, _, _, _, rfl, rfl, hq1, rfl, _, _, rfl, rfl, mulW hp.2.bl hq.2.bl, ?_⟩
  exact ⟨a * c, b * d, rfl, big_mul hp.2.a0 hq.2.a0 hp.2.al hq.2.al, mul_pos hp.2.b0 hq.2.b0, fun u hu => k u hu⟩
/-! ### law_div.lean -/
theorem scLDiv : FnScope ["_law_lead", "_law_more"] ["_law_lead", "_law_more"] (defScope s_l_div) := ⟨rfl, rfl, rfl, by decide +kernel, rfl, by decide +kernel, by decide +kernel⟩
def spLDiv : Sp := fun vs H Q _ => ∃ p q a b c d, vs = [.ref p, .ref q] ∧ FrAt 3900 H p a b ∧ FrAt 3900 H q c d ∧ ∀ t, H t = none → Q (.ref t) (upd H t (lowT (a * d) (b * c)))
theorem ok_ldiv {g2 : Addr} {gd2 : FuncData} (F : Fun K "_law_div" "_law_div" s_l_div f fd)
    (G2 : FnOk P w K mg base CX0 2 g2 gd2 ["_law_high_part", "_law_low_part"] spLow) (b2 : Binds K gd2 ["_law_high_part", "_law_low_part"] []) (k2 : PySem.W.keepIn K (.ref g2) = true) (m2 : mg "_law_low" = some (.ref g2)) :
    FnOk P w K mg base CX0 3 f fd ["_law_lead", "_law_more"] spLDiv := by
  refine F.ok scLDiv (fun vs H Q E h => ?_) (fun cdv A outer s H vs Q E hr h => ?_)
  · obtain ⟨p, q, a, b, c, d, rfl, _⟩ := h
    rfl
  obtain ⟨p, q, a, b, c, d, rfl, hp, hq, k⟩ := h
  refine ⟨_, pss_one (ps_ret (pe_call G2 hr rfl m2 k2 b2 .nil pass0 (pa_cons (pe_op op_mulW (pe_ix ix_tup (pv 0) pe_int (fun _ _ => rfl)) (pe_ix ix_tup (pv 1) pe_int (fun _ _ => rfl))) (pa_cons (pe_op op_mulW (pe_ix ix_tup (pv 0) pe_int (fun _ _ => rfl)) (pe_ix ix_tup (pv 1) pe_int (fun _ _ => rfl))) pa_nil)))), ?_⟩
  have hp1 := hp.seq (K := K)
  have hq1 := hq.seq (K := K)
  refine ⟨_, rfl, p, _, _, _, rfl, rfl, hp1, rfl, _, rfl, q, _, _, _, rfl, rfl, hq1, rfl, _, _, rfl, rfl, mulW hp.2.al hq.2.bl, ?_⟩
  refine ⟨_, rfl, p, _, _, _, rfl, rfl, hp1, rfl, _, rfl, q, _, _, _, rfl, rfl, hq1, rfl, _, _, rfl, rfl, mulW hp.2.bl hq.2.al, ?_⟩
  exact ⟨a * d, b * c, rfl, big_mul hp.2.a0 hq.2.b0 hp.2.al hq.2.bl, mul_pos hp.2.b0 hq.2.a0, fun u hu => k u hu⟩
/-! ### law_end.lean -/
end
/-! ### size_law.lean -/
section
variable {P : Program} {w : World} {K : PySem.W.Frag} {mg : Str → Option Value} {base : Heap} {f : Addr} {fd : FuncData}
/-! sides as the law draws them, its text of a fraction, what it gives, what it makes -/
def SdAt (n : Nat) (H : Hp) (t : Addr) (a b c d : Int) : Prop := ∃ p q, H t = some (.tup [.ref p, .ref q]) ∧ FrAt n H p a b ∧ FrAt n H q c d
theorem SdAt.same {n : Nat} {H H' : Hp} {t : Addr} {a b c d : Int} (h : SdAt n H t a b c d) (s : Same H H') : SdAt n H' t a b c d := by
  obtain ⟨p, q, e, hp, hq⟩ := h
  exact ⟨p, q, s _ _ e, hp.same s, hq.same s⟩
theorem FrAt.off {n : Nat} {H H' : Hp} {p r : Addr} {ys : List V} {a b : Int} (h : FrAt n H r a b) (k : Keep p H H') (hp : H p = some (.lst ys)) : FrAt n H' r a b := by
  refine ⟨k _ _ (fun er => ?_) h.1, h.2⟩
  subst er
  have := hp.symm.trans h.1
  cases this
theorem SdAt.off {n : Nat} {H H' : Hp} {p t : Addr} {ys : List V} {a b c d : Int} (h : SdAt n H t a b c d) (k : Keep p H H') (hp : H p = some (.lst ys)) : SdAt n H' t a b c d := by
  obtain ⟨u, v, e, hu, hv⟩ := h
  refine ⟨u, v, k _ _ (fun er => ?_) e, hu.off k hp, hv.off k hp⟩
  subst er
  have := hp.symm.trans e
  cases this
theorem SzAt.off {n : Nat} {C : Addr} {H H' : Hp} {p x : Addr} {ys : List V} {a b c d : Int} (h : SzAt n C H x a b c d) (k : Keep p H H') (hp : H p = some (.lst ys)) : SzAt n C H' x a b c d := by
  obtain ⟨dx, u, v, e, hu, hv⟩ := h
  refine ⟨dx, u, v, k _ _ (fun er => ?_) e, hu.off k hp, hv.off k hp⟩
  subst er
  have := hp.symm.trans e
  cases this
theorem FrAt.up {n m : Nat} {H : Hp} {p : Addr} {a b : Int} (h : FrAt n H p a b) (le : n ≤ m) : FrAt m H p a b := ⟨h.1, h.2.up le⟩
theorem FrAt.to {n m : Nat} {H : Hp} {p : Addr} {a b : Int} (h : FrAt n H p a b) (g : Fr m a b) : FrAt m H p a b := ⟨h.1, g⟩
theorem SzAt.to {n m : Nat} {C : Addr} {H : Hp} {x : Addr} {a b c d : Int} (h : SzAt n C H x a b c d) (g1 : Fr m a b) (g2 : Fr m c d) : SzAt m C H x a b c d := by
  obtain ⟨dx, u, v, e, hu, hv⟩ := h
  exact ⟨dx, u, v, e, hu.to g1, hv.to g2⟩
theorem Pool.lst {H : Hp} {p : Addr} (h : Pool H p) : ∃ ys, H p = some (.lst ys) := by
  obtain ⟨x, d, c, e, _⟩ := h
  exact ⟨_, e⟩
theorem Keep.new {p t : Addr} {H H' : Hp} (k : Keep p H H') (hp : ∃ o, H p = some o) (hp' : ∃ o, H' p = some o) (nt : H' t = none) : H t = none := by
  refine Option.eq_none_iff_forall_ne_some.mpr fun o e => ?_
  by_cases ep : t = p
  · subst ep
    obtain ⟨o', e'⟩ := hp'
    rw [nt] at e'
    cases e'
  · have := k t o ep e
    rw [nt] at this
    cases this
theorem scSides : FnScope ["_law_pool_here", "_law_great", "_law_lead", "_law_way"] ["_law_pool_here", "_law_great"] (defScope s_l_sides) := ⟨rfl, rfl, rfl, by decide +kernel, rfl, by decide +kernel, by decide +kernel⟩
def spSides : Sp := fun vs H Q _ => ∃ (p : Addr) (g : Bool), vs = [.ref p, .bl g] ∧ Pool H p ∧ ∀ t a b c d H', Keep p H H' → Pool H' p → SdAt 140 H' t a b c d → Q (.ref t) H'
theorem ok_sides {g1 g2 g3 g4 : Addr} {gd1 gd2 gd3 gd4 : FuncData} (F : Fun K "_law_sides" "_law_sides" s_l_sides f fd)
    (G1 : FnOk P w K mg base CX0 3 g1 gd1 ["_law_pool_here", "_law_great"] spPart) (b1 : Binds K gd1 ["_law_pool_here", "_law_great"] []) (k1 : PySem.W.keepIn K (.ref g1) = true) (m1 : mg "_law_part" = some (.ref g1))
    (G2 : FnOk P w K mg base CX0 2 g2 gd2 ["_law_high_part", "_law_low_part"] spLow) (b2 : Binds K gd2 ["_law_high_part", "_law_low_part"] []) (k2 : PySem.W.keepIn K (.ref g2) = true) (m2 : mg "_law_low" = some (.ref g2))
    (G3 : FnOk P w K mg base CX0 2 g3 gd3 ["_law_pool_here", "_law_most"] spDraw) (b3 : Binds K gd3 ["_law_pool_here", "_law_most"] []) (k3 : PySem.W.keepIn K (.ref g3) = true) (m3 : mg "_law_draw" = some (.ref g3))
    (G4 : FnOk P w K mg base CX0 3 g4 gd4 ["_law_lead", "_law_more"] spLMul) (b4 : Binds K gd4 ["_law_lead", "_law_more"] []) (k4 : PySem.W.keepIn K (.ref g4) = true) (m4 : mg "_law_mul" = some (.ref g4)) :
    FnOk P w K mg base CX0 4 f fd ["_law_pool_here", "_law_great"] spSides := by
  refine F.ok scSides (fun vs H Q E h => ?_) (fun cdv A outer s H vs Q E hr h => ?_)
  · obtain ⟨p, g, rfl, _⟩ := h
    rfl
  obtain ⟨p, g, rfl, hp, q⟩ := h
  have r1 : Room 2 _ := hr.mono (by decide)
  have l1 : ∀ n : Nat, n ≤ 1000 → n ≤ sizeLine := fun n h => Nat.le_of_lt (small1000 h)
  refine ⟨_, pss_cons (ps_par (i := 2) (j := 3) (by rfl) scSides.nd rfl rfl (by decide) rfl rfl (pa_cons (pe_call G1 hr rfl m1 k1 b1 .nil pass0 (pa_cons (pv 0) (pa_cons (pv 1) pa_nil))) (pa_cons (pe_call G3 r1 rfl m3 k3 b3 .nil pass0 (pa_cons (pv 0) (pa_cons pe_int pa_nil))) pa_nil)) (by rfl))
    (pss_cons (ps_if (pt_cmpR op_eq (pv 3) pe_int (nomark _)) (pss_one (ps_ret (pe_tup (pa_cons (pv 2) (pa_cons (pv 2) pa_nil))))) pss_nil)
    (pss_cons (ps_if (pt_cmpR op_eq (pv 3) pe_int (nomark _)) (pss_one (ps_ret (pe_tup (pa_cons (pe_call G4 hr rfl m4 k4 b4 .nil pass0 (pa_cons (pv 2) (pa_cons (pe_call G2 r1 rfl m2 k2 b2 .nil pass0 (pa_cons (pe_op op_add pe_int (pe_call G3 r1 rfl m3 k3 b3 .nil pass0 (pa_cons (pv 0) (pa_cons pe_int pa_nil)))) (pa_cons (pe_op op_add pe_int (pe_call G3 r1 rfl m3 k3 b3 .nil pass0 (pa_cons (pv 0) (pa_cons pe_int pa_nil)))) pa_nil))) pa_nil))) (pa_cons (pv 2) pa_nil))))) pss_nil)
    (pss_one (ps_ret (pe_tup (pa_cons (pv 2) (pa_cons (pe_call G1 hr rfl m1 k1 b1 .nil pass0 (pa_cons (pv 0) (pa_cons (pv 1) pa_nil))) pa_nil))))))), ?_⟩
  refine ⟨_, rfl, _, rfl, p, g, rfl, hp, fun t1 a b H1 k1 hp1 nt1 f1 => ?_⟩
  refine ⟨_, rfl, p, 4, rfl, hp1, big_of 8 (by decide) (by decide) (by decide), fun y H2 k2 hp2 y0 y4 => ?_⟩
  obtain ⟨ys, ey⟩ := hp1.lst
  have f1 := f1.off k2 ey
  have kp := k1.trans k2
  refine ⟨_, _, rfl, ?_⟩
  obtain ⟨ys2, ey2⟩ := hp2.lst
  refine ⟨_, rfl, rfl, _, rfl, ite2 (fun c => ?_) (fun c => ?_)⟩
  · refine ⟨_, rfl, _, rfl, l1 2 (by decide), fun t nt => ?_⟩
    have s3 := same_upd (o := .tup [.ref t1, .ref t1]) nt
    have e3 : upd H2 t (.tup [.ref t1, .ref t1]) t = some (.tup [.ref t1, .ref t1]) := upd_same
    generalize upd H2 t (.tup [.ref t1, .ref t1]) = H3 at s3 e3 ⊢
    have f := (f1.same s3).up (m := 140) (by decide)
    exact q t a b a b H3 (kp.trans (Same.keep s3 p)) (hp2.same s3) ⟨t1, t1, e3, f, f⟩
  · refine ⟨_, rfl, rfl, _, rfl, ite2 (fun c => ?_) (fun c => ?_)⟩
    · refine ⟨_, rfl, _, rfl, p, 9, rfl, hp2, big_of 8 (by decide) (by decide) (by decide), fun z1 H3 k3 hp3 z10 z11 => ⟨_, _, rfl, rfl, ?_⟩⟩
      obtain ⟨ys3, ey3⟩ := hp3.lst
      refine ⟨_, rfl, p, 9, rfl, hp3, big_of 8 (by decide) (by decide) (by decide), fun z2 H4 k4 hp4 z20 z21 => ⟨_, _, rfl, rfl, ?_⟩⟩
      have f1 := (f1.off k3 ey2).off k4 ey3
      have kp := kp.trans (k3.trans k4)
      refine ⟨1 + z1, 1 + z2, rfl, big_of 8 (by omega) (by omega) (by decide), by omega, fun t3 nt3 => ?_⟩
      have f3 : FrAt 70 (upd H4 t3 (lowT (1 + z1) (1 + z2))) t3 _ _ := ⟨upd_same, fr_low (by omega) (by omega) (fr_lt (by omega) (by omega)) (fr_lt (by omega) (by omega))⟩
      have s3 := same_upd (o := lowT (1 + z1) (1 + z2)) nt3
      have kp := kp.trans (Same.keep s3 p)
      have hp5 := hp4.same s3
      have f1 := f1.same s3
      generalize upd H4 t3 (lowT (1 + z1) (1 + z2)) = H5 at f3 kp hp5 f1 ⊢
      generalize (1 + z1) / gcdI (1 + z1) (1 + z2) = c3 at f3 ⊢
      generalize (1 + z2) / gcdI (1 + z1) (1 + z2) = d3 at f3 ⊢
      refine ⟨t1, t3, a, b, c3, d3, rfl, f1.up (by decide), f3.up (by decide), fun u6 o6 => ?_⟩
      have s6 := same_upd (o := lowT (a * c3) (b * d3)) o6
      have e6 : upd H5 u6 (lowT (a * c3) (b * d3)) u6 = some (lowT (a * c3) (b * d3)) := upd_same
      generalize upd H5 u6 (lowT (a * c3) (b * d3)) = H6 at s6 e6 ⊢
      have f6 : FrAt 140 H6 u6 _ _ := ⟨e6, fr_low (mul_pos f1.2.a0 f3.2.a0) (mul_pos f1.2.b0 f3.2.b0) (wide_lt f1.2.al f3.2.al) (wide_lt f1.2.bl f3.2.bl)⟩
      have f1 := (f1.same s6).up (m := 140) (by decide)
      refine ⟨_, rfl, l1 2 (by decide), fun t nt => ?_⟩
      have s7 := same_upd (o := .tup [.ref u6, .ref t1]) nt
      have e7 : upd H6 t (.tup [.ref u6, .ref t1]) t = some (.tup [.ref u6, .ref t1]) := upd_same
      generalize upd H6 t (.tup [.ref u6, .ref t1]) = H7 at s7 e7 ⊢
      exact q t _ _ a b H7 (kp.trans (Same.keep (s6.trans s7) p)) (hp5.same (s6.trans s7)) ⟨u6, t1, e7, ⟨s7 _ _ f6.1, f6.2⟩, f1.same s7⟩
    · refine ⟨_, rfl, _, rfl, _, rfl, p, g, rfl, hp2, fun t2 c d H3 k3 hp3 nt2 f2 => ?_⟩
      have f1 := f1.off k3 ey2
      refine ⟨l1 2 (by decide), fun t nt => ?_⟩
      have s4 := same_upd (o := .tup [.ref t1, .ref t2]) nt
      have e4 : upd H3 t (.tup [.ref t1, .ref t2]) t = some (.tup [.ref t1, .ref t2]) := upd_same
      generalize upd H3 t (.tup [.ref t1, .ref t2]) = H4 at s4 e4 ⊢
      exact q t a b c d H4 ((kp.trans k3).trans (Same.keep s4 p)) (hp3.same s4) ⟨t1, t2, e4, (f1.same s4).up (by decide), (f2.same s4).up (by decide)⟩
/-! the text of a fraction -/
theorem scShown : FnScope ["_law_part_here"] ["_law_part_here"] (defScope s_l_shown) := ⟨rfl, rfl, rfl, by decide +kernel, rfl, by decide +kernel, by decide +kernel⟩
def spShown : Sp := fun vs H Q _ => ∃ p a b, vs = [.ref p] ∧ FrAt 1900 H p a b ∧ Q (.str (fmtS a b)) H
theorem ok_shown (F : Fun K "_law_shown" "_law_shown" s_l_shown f fd) (ms : mg "str" = none) : FnOk P w K mg base CX0 2 f fd ["_law_part_here"] spShown := by
  refine F.ok scShown (fun vs H Q E h => ?_) (fun cdv A outer s H vs Q E hr h => ?_)
  · obtain ⟨p, a, b, rfl, _⟩ := h
    rfl
  obtain ⟨p, a, b, rfl, hp, q⟩ := h
  refine ⟨_, pss_one (ps_ret (pe_ifExp (pt_cmpR op_eq (pe_ix ix_tup (pv 0) pe_int (fun _ _ => rfl)) pe_int (nomark _))
      (pe_callTy call_str_int (by rfl) ms PyProof.Rows.boot_str (pa_cons (pe_ix ix_tup (pv 0) pe_int (fun _ _ => rfl)) pa_nil))
      (pe_op op_add_str (pe_op op_add_str (pe_callTy call_str_int (by rfl) ms PyProof.Rows.boot_str (pa_cons (pe_ix ix_tup (pv 0) pe_int (fun _ _ => rfl)) pa_nil)) pe_str)
        (pe_callTy call_str_int (by rfl) ms PyProof.Rows.boot_str (pa_cons (pe_ix ix_tup (pv 0) pe_int (fun _ _ => rfl)) pa_nil))))), ?_⟩
  have la : a.natAbs.log2 < 1920 := Nat.lt_of_lt_of_le (PySem.Flt.log2_lt_of (by decide) hp.2.al) (by decide)
  have lb : b.natAbs.log2 < 1920 := Nat.lt_of_lt_of_le (PySem.Flt.log2_lt_of (by decide) hp.2.bl) (by decide)
  have na := numS_len hp.2.al
  have nb := numS_len hp.2.bl
  have hp1 := hp.seq (K := K)
  have at0 : ∃ r, r = rIxT K := ⟨_, rfl⟩
  refine ⟨_, rfl, p, _, _, _, rfl, rfl, hp1, rfl, rfl, _, rfl, ?_⟩
  unfold fmtS at q
  by_cases hb : b = 1
  · rw [if_pos hb] at q
    rw [decide_eq_true (by rw [hb])]
    exact iteT ⟨_, rfl, p, _, _, _, rfl, rfl, hp1, rfl, a, rfl, la, q⟩
  · rw [if_neg hb, empty_app] at q
    rw [decide_eq_false fun e => hb (V.int.inj e)]
    refine iteF ⟨_, rfl, p, _, _, _, rfl, rfl, hp1, rfl, a, rfl, la, ?_⟩
    have z : (Str.ofString "/").length = 1 := by decide +kernel
    refine ⟨_, _, rfl, rfl, le_line (by show (numS a).length + _ ≤ _; omega), _, rfl, p, _, _, _, rfl, rfl, hp1, rfl, b, rfl, lb, ?_⟩
    exact ⟨_, _, rfl, rfl, le_line (by show (numS a ++ Str.ofString "/").length + (numS b).length ≤ _; rw [strLen_append]; omega), q⟩
/-! a fraction as it is given -/
theorem scGiven : FnScope ["_law_pool_here", "_law_part_here"] ["_law_pool_here", "_law_part_here"] (defScope s_l_given) := ⟨rfl, rfl, rfl, by decide +kernel, rfl, by decide +kernel, by decide +kernel⟩
def spGiven : Sp := fun vs H Q _ => ∃ p r a b, vs = [.ref p, .ref r] ∧ Pool H p ∧ FrAt 3900 H r a b ∧ ∀ v H', Keep p H H' → Pool H' p → Side 3900 H' v a b → Q v H'
theorem ok_given {g3 : Addr} {gd3 : FuncData} (F : Fun K "_law_given" "_law_given" s_l_given f fd)
    (G3 : FnOk P w K mg base CX0 2 g3 gd3 ["_law_pool_here", "_law_most"] spDraw) (b3 : Binds K gd3 ["_law_pool_here", "_law_most"] []) (k3 : PySem.W.keepIn K (.ref g3) = true) (m3 : mg "_law_draw" = some (.ref g3)) :
    FnOk P w K mg base CX0 3 f fd ["_law_pool_here", "_law_part_here"] spGiven := by
  refine F.ok scGiven (fun vs H Q E h => ?_) (fun cdv A outer s H vs Q E hr h => ?_)
  · obtain ⟨p, r, a, b, rfl, _⟩ := h
    rfl
  obtain ⟨p, r, a, b, rfl, hp, hf, q⟩ := h
  refine ⟨_, pss_one (ps_ret (pe_ifExp (PW.pt (pw_and (pt_cmpR op_eq (pe_ix ix_tup (pv 1) pe_int (fun _ _ => rfl)) pe_int (nomark _)) (pw_and1 (pt_cmpR op_gt (pe_call G3 hr rfl m3 k3 b3 .nil pass0 (pa_cons (pv 0) (pa_cons pe_int pa_nil))) pe_int (nomark _)))))
      (pe_ix ix_tup (pv 1) pe_int (fun _ _ => rfl)) (pv 1))), ?_⟩
  have h1 := hf.seq (K := K)
  obtain ⟨ys, ey⟩ := hp.lst
  refine ⟨_, rfl, r, _, _, _, rfl, rfl, h1, rfl, rfl, _, rfl, ?_⟩
  by_cases hb : b = 1
  · rw [decide_eq_true (by rw [hb])]
    refine iteT ⟨_, rfl, p, 3, rfl, hp, big_of 8 (by decide) (by decide) (by decide), fun z H1 k1 hp1 z0 z1 => ⟨_, _, rfl, rfl, _, rfl, ?_⟩⟩
    have hf1 := hf.off k1 ey
    refine ite2 (fun c => ?_) (fun c => ?_)
    · refine ⟨_, rfl, r, _, _, _, rfl, rfl, hf1.seq, rfl, ?_⟩
      have f2 := hf1.2
      rw [hb] at f2
      refine q _ H1 k1 hp1 ?_
      rw [hb]
      exact .int f2
    · exact ⟨_, rfl, q _ H1 k1 hp1 (.ref hf1)⟩
  · rw [decide_eq_false fun e => hb (V.int.inj e)]
    exact iteF (iteF ⟨_, rfl, q _ H (Keep.refl p H) hp (.ref hf)⟩)
end
/-! ### size_made.lean -/
section
variable {P : Program} {w : World} {K : PySem.W.Frag} {mg : Str → Option Value} {base : Heap} {f : Addr} {fd : FuncData}
/-! a size as the law makes it -/
def gHW {α : Type} (us ws : List α) : List α := match us, ws with
  | [x], [h, wd] => [x, wd, h]
  | _, _ => []
theorem rel_HW {vs zs : List V} {us ws : List Value} (r0 : Vals vs us) (r : Vals zs ws) : Vals (gHW vs zs) (gHW us ws) := by
  cases r0 with
  | nil => exact .nil
  | cons x r0 => cases r0 with
    | cons _ _ => exact .nil
    | nil => cases r with
      | nil => exact .nil
      | cons a r => cases r with
        | nil => exact .nil
        | cons b r => cases r with
          | nil => exact .cons x (.cons b (.cons a .nil))
          | cons _ _ => exact .nil
theorem init_names (F : Fun K "__init__" "Size.__init__" s_Size_init f fd) : KBn K fd ["self", "width", "height"] 1 ["height", "width"] (fun us ws => gHW us ws) (fun vs zs => gHW vs zs) :=
  bindN F 1 ["height", "width"] gHW rel_HW (fun _ _ _ _ _ _ us ws h1 h2 => match us, ws, h1, h2 with | [_], [_, _], _, _ => rfl)
theorem turned_no : ¬ (("turned" : Str) = "height") ∧ ¬ (("turned" : Str) = "width") := ⟨by decide +kernel, by decide +kernel⟩
theorem Side.off {n : Nat} {H H' : Hp} {p : Addr} {ys : List V} {v : V} {a b : Int} (h : Side n H v a b) (k : Keep p H H') (hp : H p = some (.lst ys)) : Side n H' v a b := by
  cases h with
  | int h => exact .int h
  | ref h => exact .ref (h.off k hp)
theorem scMade : FnScope ["_law_pool_here", "_law_sides_here", "_law_wide", "_law_tall", "_law_way"] ["_law_pool_here", "_law_sides_here"] (defScope s_l_made) := ⟨rfl, rfl, rfl, by decide +kernel, rfl, by decide +kernel, by decide +kernel⟩
def spMade (C : Addr) : Sp := fun vs H Q _ => ∃ p t a b c d, vs = [.ref p, .ref t] ∧ Pool H p ∧ SdAt 1900 H t a b c d ∧ ∀ x H', Keep p H H' → Pool H' p → H x = none → SzAt 1900 C H' x a b c d → Q (.ref x) H'
theorem ok_made {C fI fT fR pR g1 g2 g3 : Addr} {mc : Value} {fdI fdT fdR gd1 gd2 gd3 : FuncData} (F : Fun K "_law_made" "_law_made" s_l_made f fd) (T : SzTxt K mg C) (M : Mk K C fI)
    (GI : FnOk P w K mg base CX0 6 fI fdI ["self", "width", "height"] (spInit C)) (bI : Binds K fdI ["self", "width", "height"] []) (nI : KBn K fdI ["self", "width", "height"] 1 ["height", "width"] (fun us ws => gHW us ws) (fun vs zs => gHW vs zs))
    (mT : Meth K C "turned" fT) (GT : FnOk P w K mg base CX0 8 fT fdT ["self"] (spTurned C)) (bT : Binds K fdT ["self"] [])
    (rd : ClX.CRead K C mc) (cm : ClX.CMet K C mc "read" pR fR) (GR : FnOk P w K mg base CX0 8 fR fdR ["cls", "text"] (spRead C)) (bR : Binds K fdR ["cls", "text"] [])
    (G1 : FnOk P w K mg base CX0 2 g1 gd1 ["_law_part_here"] spShown) (b1 : Binds K gd1 ["_law_part_here"] []) (k1 : PySem.W.keepIn K (.ref g1) = true) (m1 : mg "_law_shown" = some (.ref g1))
    (G2 : FnOk P w K mg base CX0 3 g2 gd2 ["_law_pool_here", "_law_part_here"] spGiven) (b2 : Binds K gd2 ["_law_pool_here", "_law_part_here"] []) (k2 : PySem.W.keepIn K (.ref g2) = true) (m2 : mg "_law_given" = some (.ref g2))
    (G3 : FnOk P w K mg base CX0 2 g3 gd3 ["_law_pool_here", "_law_most"] spDraw) (b3 : Binds K gd3 ["_law_pool_here", "_law_most"] []) (k3 : PySem.W.keepIn K (.ref g3) = true) (m3 : mg "_law_draw" = some (.ref g3)) :
    FnOk P w K mg base CX0 9 f fd ["_law_pool_here", "_law_sides_here"] (spMade C) := by
  refine F.ok scMade (fun vs H Q E h => ?_) (fun cdv A outer s H vs Q E hr h => ?_)
  · obtain ⟨p, t, a, b, c, d, rfl, _⟩ := h
    rfl
  obtain ⟨p, t, a, b, c, d, rfl, hp, ⟨u, v, ht, hu, hv⟩, k⟩ := h
  have r1 : Room 2 _ := hr.mono (by decide)
  have r2 : Room 3 _ := hr.mono (by decide)
  have r6 : Room 7 _ := hr.mono (by decide)
  refine ⟨_, pss_cons (ps_asg (pv 1) (pg_tup (by rfl) (pgs_cons (pg_name (i := 2) scMade.nd rfl (.inl rfl)) (pgs_cons (pg_name (i := 3) scMade.nd rfl (.inl rfl)) pgs_nil))))
    (pss_cons (ps_set (i := 4) scMade.nd rfl (.inl rfl) (pe_call G3 r1 rfl m3 k3 b3 .nil pass0 (pa_cons (pv 0) (pa_cons pe_int pa_nil))))
    (pss_cons (ps_if (pt_cmpR op_eq (pv 4) pe_int (nomark _)) (pss_one (ps_ret (ClX.pe_cmeth (pe_glob (v := .ref C) rfl T.mgC rfl) rd cm (GR.raw bR .nil) hr pass0 (pa_cons
        (pe_op op_add_str (pe_op op_add_str (pe_call G1 r1 rfl m1 k1 b1 .nil pass0 (pa_cons (pv 2) pa_nil)) pe_str) (pe_call G1 r1 rfl m1 k1 b1 .nil pass0 (pa_cons (pv 3) pa_nil))) pa_nil)))) pss_nil)
    (pss_cons (ps_if (pt_cmpR op_eq (pv 4) pe_int (nomark _)) (pss_one (ps_ret (pe_makeK0 M GI r6 rfl T.mgC nI pass0
        (pk_cons (pe_call G2 r2 rfl m2 k2 b2 .nil pass0 (pa_cons (pv 0) (pa_cons (pv 3) pa_nil))) (pk_cons (pe_call G2 r2 rfl m2 k2 b2 .nil pass0 (pa_cons (pv 0) (pa_cons (pv 2) pa_nil))) pk_nil))))) pss_nil)
    (pss_cons (ps_if (pt_cmpR op_eq (pv 4) pe_int (nomark _)) (pss_one (ps_ret (pe_meth0 (pe_make M GI r6 rfl T.mgC bI .nil pass0 (pa_cons (pv 3) (pa_cons (pv 2) pa_nil))) T.cl mT GT hr bT .nil pass0))) pss_nil)
    (pss_one (ps_ret (pe_make M GI r6 rfl T.mgC bI .nil pass0 (pa_cons (pe_call G2 r2 rfl m2 k2 b2 .nil pass0 (pa_cons (pv 0) (pa_cons (pv 2) pa_nil))) (pa_cons (pe_call G2 r2 rfl m2 k2 b2 .nil pass0 (pa_cons (pv 0) (pa_cons (pv 3) pa_nil))) pa_nil))))))))), ?_⟩
  have e0 : ∀ {H y dy}, H y = none → H dy = none → Same H (upd (upd H dy (.own y)) y (.ins C dy [])) := fun {H y dy} ny ndy c o e => by
    rw [upd_ne (ne_of_none e ny), upd_ne (ne_of_none e ndy)]
    exact e
  refine ⟨_, rfl, t, _, rfl, .inl (.inl ht), rfl, _, _, rfl, _, _, rfl, rfl, ?_⟩
  refine ⟨_, rfl, p, 4, rfl, hp, big_of 8 (by decide) (by decide) (by decide), fun y H1 kp hp1 y0 y4 => ?_⟩
  obtain ⟨ys, ey⟩ := hp.lst
  obtain ⟨ys1, ey1⟩ := hp1.lst
  have back : ∀ {x}, H1 x = none → H x = none := fun nx => kp.new ⟨_, ey⟩ ⟨_, ey1⟩ nx
  have hu1 := hu.off kp ey
  have hv1 := hv.off kp ey
  refine ⟨_, rfl, rfl, _, rfl, ite2 (fun _ => ?_) (fun _ => ?_)⟩
  · -- read
    refine ⟨rfl, _, rfl, u, a, b, rfl, hu1, ?_⟩
    have lu := fmtS_len hu1.2 (by decide)
    have lv := fmtS_len hv1.2 (by decide)
    have lx : (Str.ofString "x").length = 1 := by decide +kernel
    refine ⟨_, _, rfl, rfl, le_line (by show (fmtS a b).length + (Str.ofString "x").length ≤ _; omega), _, rfl, v, c, d, rfl, hv1, ?_⟩
    refine ⟨_, _, rfl, rfl, le_line (by show (fmtS a b ++ Str.ofString "x").length + (fmtS c d).length ≤ _; rw [strLen_append]; omega), ?_⟩
    refine ⟨a, b, c, d, ?_, hu1.2, hv1.2, fun H2 x s2 nx sz => k x H2 (kp.trans (Same.keep s2 p)) (hp1.same s2) (back nx) (sz.to hu1.2 hv1.2)⟩
    unfold szS
    rw [empty_app]
    rfl
  · refine ⟨_, rfl, rfl, _, rfl, ite2 (fun _ => ?_) (fun _ => ?_)⟩
    · -- by keywords
      refine ⟨_, rfl, _, rfl, p, v, c, d, rfl, hp1, hv1.up (by decide), fun v2 H2 k2 hp2 sd2 => ?_⟩
      obtain ⟨ys2, ey2⟩ := hp2.lst
      refine ⟨_, rfl, _, rfl, p, u, a, b, rfl, hp2, (hu1.off k2 ey1).up (by decide), fun v1 H3 k3 hp3 sd1 => ?_⟩
      obtain ⟨ys3, ey3⟩ := hp3.lst
      refine ⟨rfl, rfl, fun x dx nx ndx ne => ?_⟩
      have s4 := e0 nx ndx
      have k23 := k2.trans k3
      refine ⟨x, dx, v1, v2, a, b, c, d, rfl, upd_same, sd1.same s4, (sd2.off k3 ey2).same s4, fun H5 k5 sz => ⟨rfl, ?_⟩⟩
      have s5 : Same H3 H5 := k5.same s4 nx
      exact k x H5 (kp.trans (k23.trans (Same.keep s5 p))) (hp3.same s5) (back (k23.new ⟨_, ey1⟩ ⟨_, ey3⟩ nx)) (sz.to hu1.2 hv1.2)
    · refine ⟨_, rfl, rfl, _, rfl, ite2 (fun _ => ?_) (fun _ => ?_)⟩
      · -- turned
        refine ⟨_, rfl, _, rfl, fun x dx nx ndx ne => ?_⟩
        have s4 := e0 nx ndx
        refine ⟨x, dx, _, _, c, d, a, b, rfl, upd_same, (Side.ref (hv1.up (by decide))).same s4, (Side.ref (hu1.up (by decide))).same s4, fun H5 k5 sz => ⟨rfl, ?_⟩⟩
        have s5 : Same H1 H5 := k5.same s4 nx
        obtain ⟨dx', pp, qq, hx, hpp, hqq⟩ := sz
        refine ⟨x, dx', _, rfl, hx, szF_no pp qq turned_no.1 turned_no.2, x, c, d, a, b, rfl, ⟨dx', pp, qq, hx, hpp, hqq⟩, fun H6 y s6 ny sz2 => ?_⟩
        exact k y H6 (kp.trans (Same.keep (s5.trans s6) p)) (hp1.same (s5.trans s6)) (back (s5.free ny)) (sz2.to hu1.2 hv1.2)
      · -- by position
        refine ⟨_, rfl, _, rfl, p, u, a, b, rfl, hp1, hu1.up (by decide), fun v1 H2 k2 hp2 sd1 => ?_⟩
        obtain ⟨ys2, ey2⟩ := hp2.lst
        refine ⟨_, rfl, _, rfl, p, v, c, d, rfl, hp2, (hv1.off k2 ey1).up (by decide), fun v2 H3 k3 hp3 sd2 => ?_⟩
        obtain ⟨ys3, ey3⟩ := hp3.lst
        intro x dx nx ndx ne
        have s4 := e0 nx ndx
        have k23 := k2.trans k3
        refine ⟨x, dx, v1, v2, a, b, c, d, rfl, upd_same, (sd1.off k3 ey2).same s4, sd2.same s4, fun H5 k5 sz => ⟨rfl, ?_⟩⟩
        have s5 : Same H3 H5 := k5.same s4 nx
        exact k x H5 (kp.trans (k23.trans (Same.keep s5 p))) (hp3.same s5) (back (k23.new ⟨_, ey1⟩ ⟨_, ey3⟩ nx)) (sz.to hu1.2 hv1.2)
end
/-! ### size_shown.lean -/
section
variable {P : Program} {w : World} {K : PySem.W.Frag} {mg : Str → Option Value} {base : Heap} {f : Addr} {fd : FuncData}
/-! repr of plain texts -/
def Pl (x : Str) : Prop := ∀ c ∈ TL.tl x, c < 128
theorem Pl.app {x y : Str} (hx : Pl x) (hy : Pl y) : Pl (x ++ y) := fun c hc => by
  rw [TL.tl_append] at hc
  rcases List.mem_append.mp hc with m | m
  · exact hx c m
  · exact hy c m
theorem Pl.num {i : Int} (h : 0 ≤ i) : Pl (numS i) := fun c hc => by
  rcases Nat.lt_or_ge c 128 with l | l
  · exact l
  · exact absurd hc (numS_free h (.inr (by omega)))
theorem Pl.fmt {n : Nat} {a b : Int} (h : Fr n a b) : Pl (fmtS a b) := by
  have ha := Pl.num (i := a) (by have := h.a0; omega)
  have hb := Pl.num (i := b) (by have := h.b0; omega)
  unfold fmtS
  split
  · exact ha
  · rw [empty_app]
    exact (ha.app (by unfold Pl; decide +kernel)).app hb
theorem Pl.sz {n : Nat} {a b c d : Int} (h1 : Fr n a b) (h2 : Fr n c d) : Pl (szS a b c d) := by
  unfold szS
  rw [empty_app]
  exact ((Pl.fmt h1).app (by unfold Pl; decide +kernel)).app (Pl.fmt h2)
theorem Pl.szR {n : Nat} {a b c d : Int} (h1 : Fr n a b) (h2 : Fr n c d) : Pl (szR a b c d) := by
  unfold Gd.szR
  rw [empty_app]
  exact (Pl.app (by unfold Pl; decide +kernel) (Pl.sz h1 h2)).app (by unfold Pl; decide +kernel)
theorem Pl.repr {x : Str} {n : Nat} (h : Pl x) (l : x.length ≤ n) : (reprText x).length ≤ 10 * n + 2 := by
  have := PySem.StrLaws.reprText_len x (fun c hc => Nat.lt_trans (h c hc) (by decide))
  omega
theorem Sm.str {x : Str} {n : Nat} (h : Pl x) (l : x.length ≤ n) : Sm 1 (10 * n + 2) (.str x) := by
  refine ⟨by simp only [PyData.showable], by simp only [PyData.hasDict], by simp only [PyData.depth]; omega, ?_⟩
  rw [PyData.shown_str]
  exact h.repr l
/-! what is told of a size, what is due -/
def told8 (a b c d : Int) : PyData := .list [.tuple [.int a, .int b], .tuple [.int c, .int d], .tuple [.int (a * d / gcdI (a * d) (b * c)), .int (b * c / gcdI (a * d) (b * c))], .str (szS a b c d), .str (szR a b c d)]
theorem told8_sm {a b c d : Int} (h1 : Fr 900 a b) (h2 : Fr 900 c d) : Sm 3 70000 (told8 a b c d) := by
  have l := fr_low (mul_pos h1.a0 h2.b0) (mul_pos h1.b0 h2.a0) (wide_lt h1.al h2.bl) (wide_lt h1.bl h2.al)
  have l := l.up (m := 1900) (by decide)
  have k1 := h1.up (m := 1900) (by decide)
  have k2 := h2.up (m := 1900) (by decide)
  have w1 := (Sm.str (Pl.sz h1 h2) (szS_len k1 k2 (by decide))).up (k := 2) (by decide) (Nat.le_refl _)
  have w2 := (Sm.str (Pl.szR h1 h2) (szR_len k1 k2 (by decide))).up (k := 2) (by decide) (Nat.le_refl _)
  exact (Sm.lst (SmL.cons (Sm.pair k1.al k1.bl) (SmL.cons (Sm.pair k2.al k2.bl) (SmL.cons (Sm.pair l.al l.bl) (SmL.cons w1 (SmL.cons w2 SmL.nil)))))).up (by decide) (by decide)
theorem scTold8 : FnScope ["_law_thing"] ["_law_thing"] (defScope s_l_told) := ⟨rfl, rfl, rfl, by decide +kernel, rfl, by decide +kernel, by decide +kernel⟩
def spTold8 (C : Addr) : Sp := fun vs H Q _ => ∃ x a b c d, vs = [.ref x] ∧ SzAt 900 C H x a b c d ∧ ∀ H', Same H H' → Q (.str (told8 a b c d).shown) H'
theorem SzAt.up {n m : Nat} {C : Addr} {H : Hp} {x : Addr} {a b c d : Int} (h : SzAt n C H x a b c d) (le : n ≤ m) : SzAt m C H x a b c d := by
  obtain ⟨dx, u, v, e, hu, hv⟩ := h
  exact ⟨dx, u, v, e, hu.up le, hv.up le⟩
theorem ok_told8 {C pQ fQ fS fR : Addr} {fdQ fdS fdR : FuncData} (F : Fun K "_law_told" "_law_told" s_l_told f fd) (mr : mg "repr" = none) (ms : mg "str" = none) (T : SzTxt K mg C)
    (pQr : PropOf K C "ratio" pQ fQ) (GQ : FnOk P w K mg base CX0 6 fQ fdQ ["self"] (spRatio C)) (bQ : Binds K fdQ ["self"] [])
    (oS : OwnDef K C "__str__" fS) (GS : FnOk P w K mg base CX0 6 fS fdS ["self"] (spStr C)) (bS : Binds K fdS ["self"] [])
    (oR : OwnDef K C "__repr__" fR) (GR : FnOk P w K mg base CX0 9 fR fdR ["self"] (spRepr C)) (bR : Binds K fdR ["self"] []) :
    FnG P w K mg base CX0 11 f fd ["_law_thing"] (spTold8 C) := by
  refine okG F scTold8 (fun vs H Q E h => ?_) (fun cdv A outer s H vs Q E hg hr h => ?_)
  · obtain ⟨x, a, b, c, d, rfl, _⟩ := h
    rfl
  obtain ⟨x, a, b, c, d, rfl, sz, q⟩ := h
  have r6 : Room 7 _ := hr.mono (by decide)
  have r7 : Room 8 _ := hr.mono (by decide)
  have l1 : ∀ n : Nat, n ≤ 1000 → n ≤ sizeLine := fun n h => Nat.le_of_lt (small1000 h)
  refine ⟨_, pss_one (ps_ret (pe_callB (reprData hg (roomR hr)) (by rfl) mr PyProof.Rows.boot_repr (pa_cons (pe_lst
      (pa_cons (pe_fld (pv 0) rfl) (pa_cons (pe_fld (pv 0) rfl) (pa_cons (pe_prop (pv 0) T.cl pQr GQ r6 bQ .nil pass0 rfl)
      (pa_cons (pe_callTy (strOwn oS GS r7 bS) (by rfl) ms PyProof.Rows.boot_str (pa_cons (pv 0) pa_nil))
      (pa_cons (pe_callB (reprOwn oR GR hr bR) (by rfl) mr PyProof.Rows.boot_repr (pa_cons (pv 0) pa_nil)) pa_nil)))))) pa_nil))), ?_⟩
  have sz39 := sz.up (m := 3900) (by decide)
  have sz19 := sz.up (m := 1900) (by decide)
  obtain ⟨dx, p, r, hx, hp, hv⟩ := sz
  refine ⟨_, rfl, x, C, dx, _, _, rfl, hx, T.cl, T.nW, szF_w p r, ?_⟩
  refine ⟨_, rfl, x, C, dx, _, _, rfl, hx, T.cl, T.nH, szF_h p r, ?_⟩
  refine ⟨_, rfl, x, dx, _, rfl, hx, x, a, b, c, d, rfl, sz39, fun H1 t s1 nt et => ?_⟩
  refine ⟨_, rfl, x, dx, _, rfl, s1 _ _ hx, x, a, b, c, d, rfl, sz19.same s1, fun H2 s2 => ⟨⟨_, rfl⟩, ?_⟩⟩
  have s12 := s1.trans s2
  refine ⟨_, rfl, x, dx, _, rfl, s12 _ _ hx, x, a, b, c, d, rfl, sz19.same s12, fun H3 s3 => ⟨⟨_, rfl⟩, ?_⟩⟩
  have s13 := s12.trans s3
  refine ⟨l1 5 (by decide), fun L nL => ?_⟩
  have s4 := same_upd (o := .lst [.ref p, .ref r, .ref t, .str (szS a b c d), .str (szR a b c d)]) nL
  have e4 : upd H3 L (.lst [.ref p, .ref r, .ref t, .str (szS a b c d), .str (szR a b c d)]) L = some (.lst [.ref p, .ref r, .ref t, .str (szS a b c d), .str (szR a b c d)]) := upd_same
  generalize upd H3 L (.lst [.ref p, .ref r, .ref t, .str (szS a b c d), .str (szR a b c d)]) = H4 at s4 e4 ⊢
  have s14 := s13.trans s4
  refine repQ (d := told8 a b c d) (.lst (SqL.of e4) (.cons (tupD (s14 _ _ hp.1)) (.cons (tupD (s14 _ _ hv.1)) (.cons (tupD (s4 _ _ (s3 _ _ (s2 _ _ et)))) (.cons (.str _) (.cons (.str _) .nil)))))) rfl (told8_sm hp.2 hv.2) (by decide) (by decide) ?_
  exact q _ s14
theorem scDue8 : FnScope ["_law_sides_here", "_law_said"] ["_law_sides_here"] (defScope s_l_due) := ⟨rfl, rfl, rfl, by decide +kernel, rfl, by decide +kernel, by decide +kernel⟩
def spDue8 : Sp := fun vs H Q _ => ∃ t a b c d, vs = [.ref t] ∧ SdAt 900 H t a b c d ∧ ∀ H', Same H H' → Q (.str (told8 a b c d).shown) H'
theorem ok_due8 {g1 g2 : Addr} {gd1 gd2 : FuncData} (F : Fun K "_law_due" "_law_due" s_l_due f fd) (mr : mg "repr" = none)
    (G1 : FnG P w K mg base CX0 2 g1 gd1 ["_law_part_here"] spShown) (b1 : Binds K gd1 ["_law_part_here"] []) (k1 : PySem.W.keepIn K (.ref g1) = true) (m1 : mg "_law_shown" = some (.ref g1))
    (G2 : FnG P w K mg base CX0 3 g2 gd2 ["_law_lead", "_law_more"] spLDiv) (b2 : Binds K gd2 ["_law_lead", "_law_more"] []) (k2 : PySem.W.keepIn K (.ref g2) = true) (m2 : mg "_law_div" = some (.ref g2)) :
    FnG P w K mg base CX0 4 f fd ["_law_sides_here"] spDue8 := by
  refine okG F scDue8 (fun vs H Q E h => ?_) (fun cdv A outer s H vs Q E hg hr h => ?_)
  · obtain ⟨x, a, b, c, d, rfl, _⟩ := h
    rfl
  obtain ⟨t, a, b, c, d, rfl, ⟨p, r, ht, hp, hv⟩, q⟩ := h
  have r1 : Room 2 _ := hr.mono (by decide)
  have l1 : ∀ n : Nat, n ≤ 1000 → n ≤ sizeLine := fun n h => Nat.le_of_lt (small1000 h)
  refine ⟨_, pss_cons (ps_set (i := 1) scDue8.nd rfl (.inl rfl) (pe_op op_add_str (pe_op op_add_str (callG G1 hg r1 rfl m1 k1 b1 .nil pass0 (pa_cons (pe_ix (r := rIxT K) ix_tup (pv 0) pe_int (fun _ _ => rfl)) pa_nil)) pe_str) (callG G1 hg r1 rfl m1 k1 b1 .nil pass0 (pa_cons (pe_ix (r := rIxT K) ix_tup (pv 0) pe_int (fun _ _ => rfl)) pa_nil))))
    (pss_one (ps_ret (pe_callB (reprData hg (roomR hr)) (by rfl) mr PyProof.Rows.boot_repr (pa_cons (pe_lst
      (pa_cons (pe_ix (r := rIxT K) ix_tup (pv 0) pe_int (fun _ _ => rfl)) (pa_cons (pe_ix (r := rIxT K) ix_tup (pv 0) pe_int (fun _ _ => rfl))
      (pa_cons (callG G2 hg hr rfl m2 k2 b2 .nil pass0 (pa_cons (pe_ix (r := rIxT K) ix_tup (pv 0) pe_int (fun _ _ => rfl)) (pa_cons (pe_ix (r := rIxT K) ix_tup (pv 0) pe_int (fun _ _ => rfl)) pa_nil)))
      (pa_cons (pv 1) (pa_cons (pe_op op_add_str (pe_op op_add_str pe_str (pv 1)) pe_str) pa_nil)))))) pa_nil)))), ?_⟩
  have sq : SqT K H t [.ref p, .ref r] := .inl (.inl ht)
  have lp := fmtS_len hp.2 (by decide)
  have lr := fmtS_len hv.2 (by decide)
  have lx : (Str.ofString "x").length = 1 := by decide +kernel
  have lS : (Str.ofString "Size(").length = 5 := by decide +kernel
  have lE : (Str.ofString ")").length = 1 := by decide +kernel
  refine ⟨_, rfl, t, _, _, _, rfl, rfl, sq, rfl, p, a, b, rfl, hp.up (by decide), ?_⟩
  refine ⟨_, _, rfl, rfl, le_line (by show (fmtS a b).length + (Str.ofString "x").length ≤ _; omega), _, rfl, t, _, _, _, rfl, rfl, sq, rfl, r, c, d, rfl, hv.up (by decide), ?_⟩
  refine ⟨_, _, rfl, rfl, le_line (by show (fmtS a b ++ Str.ofString "x").length + (fmtS c d).length ≤ _; rw [strLen_append]; omega), ?_⟩
  refine ⟨_, rfl, t, _, _, _, rfl, rfl, sq, rfl, _, rfl, t, _, _, _, rfl, rfl, sq, rfl, ?_⟩
  refine ⟨_, rfl, t, _, _, _, rfl, rfl, sq, rfl, _, rfl, t, _, _, _, rfl, rfl, sq, rfl, p, r, a, b, c, d, rfl, hp.up (by decide), hv.up (by decide), fun u nu => ?_⟩
  have s1 := same_upd (o := lowT (a * d) (b * c)) nu
  have e1 : upd H u (lowT (a * d) (b * c)) u = some (lowT (a * d) (b * c)) := upd_same
  generalize upd H u (lowT (a * d) (b * c)) = H1 at s1 e1 ⊢
  refine ⟨_, rfl, _, rfl, _, _, rfl, rfl, le_line (by show (Str.ofString "Size(").length + (fmtS a b ++ Str.ofString "x" ++ fmtS c d).length ≤ _; rw [strLen_append, strLen_append]; omega), ?_⟩
  refine ⟨_, _, rfl, rfl, le_line (by show (Str.ofString "Size(" ++ (fmtS a b ++ Str.ofString "x" ++ fmtS c d)).length + (Str.ofString ")").length ≤ _; rw [strLen_append, strLen_append, strLen_append]; omega), l1 5 (by decide), fun L nL => ?_⟩
  have eS : szS a b c d = fmtS a b ++ Str.ofString "x" ++ fmtS c d := by
    unfold szS
    rw [empty_app]
  have eR : szR a b c d = Str.ofString "Size(" ++ (fmtS a b ++ Str.ofString "x" ++ fmtS c d) ++ Str.ofString ")" := by
    unfold szR
    rw [empty_app, eS]
  rw [← eR, ← eS]
  have s2 := same_upd (o := .lst [.ref p, .ref r, .ref u, .str (szS a b c d), .str (szR a b c d)]) nL
  have e2 : upd H1 L (.lst [.ref p, .ref r, .ref u, .str (szS a b c d), .str (szR a b c d)]) L = some (.lst [.ref p, .ref r, .ref u, .str (szS a b c d), .str (szR a b c d)]) := upd_same
  generalize upd H1 L (.lst [.ref p, .ref r, .ref u, .str (szS a b c d), .str (szR a b c d)]) = H2 at s2 e2 ⊢
  have s12 := s1.trans s2
  refine repQ (d := told8 a b c d) (.lst (SqL.of e2) (.cons (tupD (s12 _ _ hp.1)) (.cons (tupD (s12 _ _ hv.1)) (.cons (tupD (s2 _ _ e1)) (.cons (.str _) (.cons (.str _) .nil)))))) rfl (told8_sm hp.2 hv.2) (by decide) (by decide) ?_
  exact q _ s12
end
/-! ### k08_right.lean -/
section
variable {P : Program} {w : World} {K : PySem.W.Frag} {mg : Str → Option Value} {base : Heap} {f : Addr} {fd : FuncData}
theorem all_true (n : Nat) : (List.replicate n true).all id = true := by rw [List.all_replicate]; cases n <;> rfl
theorem rep_bl (n : Nat) : (List.replicate n true).map V.bl = List.replicate n (V.bl true) := List.map_replicate
theorem rep_snoc (n : Nat) (v : V) : List.replicate n v ++ [v] = List.replicate (n + 1) v := List.replicate_succ'.symm
theorem cut3 (xs : List V) : ∃ k, cutV xs (some (-3)) none = xs.drop k ∧ (xs.drop k).length ≤ 3 := by
  refine ⟨HT.sIx xs.length 0 (some (-3)), ?_, ?_⟩
  · unfold cutV
    have : HT.sIx xs.length xs.length none = xs.length := rfl
    rw [this, List.take_of_length_le]
    rw [List.length_drop]
    exact Nat.le_refl _
  · rw [List.length_drop]
    have : HT.sIx xs.length 0 (some (-3)) = ((-3 : Int) + (xs.length : Int)).toNat := rfl
    omega
/-- a row: a size and its sides -/
def RowV (C : Addr) (H : Hp) (v : V) : Prop := ∃ r x t a b c d, v = .ref r ∧ H r = some (.lst [.ref x, .ref t]) ∧ SzAt 900 C H x a b c d ∧ SdAt 900 H t a b c d
theorem RowV.same {C : Addr} {H H' : Hp} {v : V} (h : RowV C H v) (s : Same H H') : RowV C H' v := by
  obtain ⟨r, x, t, a, b, c, d, e, h1, h2, h3⟩ := h
  exact ⟨r, x, t, a, b, c, d, e, s _ _ h1, h2.same s, h3.same s⟩
theorem RowV.off {C : Addr} {H H' : Hp} {p : Addr} {ys : List V} {v : V} (h : RowV C H v) (k : Keep p H H') (hp : H p = some (.lst ys)) (ne : v ≠ .ref p) : RowV C H' v := by
  obtain ⟨r, x, t, a, b, c, d, e, h1, h2, h3⟩ := h
  exact ⟨r, x, t, a, b, c, d, e, k _ _ (fun er => ne (by rw [e, er])) h1, h2.off k hp, h3.off k hp⟩
theorem SdAt.up {n m : Nat} {H : Hp} {t : Addr} {a b c d : Int} (h : SdAt n H t a b c d) (le : n ≤ m) : SdAt m H t a b c d := by
  obtain ⟨p, q, e, hp, hq⟩ := h
  exact ⟨p, q, e, hp.up le, hq.up le⟩
theorem SdAt.fr {n : Nat} {H : Hp} {t : Addr} {a b c d : Int} (h : SdAt n H t a b c d) : Fr n a b ∧ Fr n c d := by
  obtain ⟨p, q, e, hp, hq⟩ := h
  exact ⟨hp.2, hq.2⟩
theorem scRight8 : FnScope ["_law_pool_here", "_law_kept", "_law_turn", "_law_sides_here", "_law_thing", "_law_row"] ["_law_pool_here"] (defScope s_l_right) := ⟨rfl, rfl, rfl, by decide +kernel, rfl, by decide +kernel, by decide +kernel⟩
def spRight : Sp := fun vs H Q _ => ∃ (p : Addr), vs = [.ref p] ∧ Pool H p ∧ ∀ H', Keep p H H' → Pool H' p → Q (.bl true) H'
theorem ok_right8 {C g1 g2 g3 g4 : Addr} {gd1 gd2 gd3 gd4 : FuncData} (F : Fun K "_law_right" "_law_right" s_l_right f fd) (mr : mg "range" = none) (ma : mg "all" = none)
    (G1 : FnOk P w K mg base CX0 4 g1 gd1 ["_law_pool_here", "_law_great"] spSides) (b1 : Binds K gd1 ["_law_pool_here", "_law_great"] []) (k1 : PySem.W.keepIn K (.ref g1) = true) (m1 : mg "_law_sides" = some (.ref g1))
    (G2 : FnOk P w K mg base CX0 9 g2 gd2 ["_law_pool_here", "_law_sides_here"] (spMade C)) (b2 : Binds K gd2 ["_law_pool_here", "_law_sides_here"] []) (k2 : PySem.W.keepIn K (.ref g2) = true) (m2 : mg "_law_made" = some (.ref g2))
    (G3 : FnG P w K mg base CX0 11 g3 gd3 ["_law_thing"] (spTold8 C)) (b3 : Binds K gd3 ["_law_thing"] []) (k3 : PySem.W.keepIn K (.ref g3) = true) (m3 : mg "_law_told" = some (.ref g3))
    (G4 : FnG P w K mg base CX0 4 g4 gd4 ["_law_sides_here"] spDue8) (b4 : Binds K gd4 ["_law_sides_here"] []) (k4 : PySem.W.keepIn K (.ref g4) = true) (m4 : mg "_law_due" = some (.ref g4)) :
    FnG P w K mg base CX0 12 f fd ["_law_pool_here"] spRight := by
  refine okG F scRight8 (fun vs H Q E h => ?_) (fun cdv A outer s H vs Q E hg hr h => ?_)
  · obtain ⟨a, rfl, _⟩ := h
    rfl
  obtain ⟨p, rfl, hp, q⟩ := h
  have r3 : Room 4 _ := hr.mono (by decide)
  have r8 : Room 9 _ := hr.mono (by decide)
  have l1 : ∀ n : Nat, n ≤ 1000 → n ≤ sizeLine := fun n h => Nat.le_of_lt (small1000 h)
  refine ⟨_, pss_cons (ps_set (i := 1) scRight8.nd rfl (.inl rfl) (pe_lst pa_nil))
    (pss_cons (ps_for PassesOwn.never rfl (pi_range1 rfl mr (pa_cons pe_int pa_nil)) (pg_name (i := 2) scRight8.nd rfl (.inl rfl))
      (pss_cons (ps_set (i := 3) scRight8.nd rfl (.inl rfl) (pe_call G1 r3 rfl m1 k1 b1 .nil pass0 (pa_cons (pv 0) (pa_cons pe_bl pa_nil))))
      (pss_cons (ps_set (i := 4) scRight8.nd rfl (.inl rfl) (pe_call G2 r8 rfl m2 k2 b2 .nil pass0 (pa_cons (pv 0) (pa_cons (pv 3) pa_nil))))
      (pss_cons (ps_expr (pe_bm PySem.F.plainAttrs_list PySem.F.slot_list_append PySem.F.type_list_append mt_append (pv 1) (pa_cons (pe_lst (pa_cons (pv 4) (pa_cons (pv 3) pa_nil))) pa_nil)))
      (pss_one (ps_if (pt_not (pt_val (pe_callB (cr_all (by rfl)) (by rfl) ma (by decide +kernel) (pa_cons
          (pe_lc (own := [("_law_row", 5)]) (g := gName 5) (tt := tYes) (by rfl) scRight8.nd (pi_list (pe_slice sl_list (pv 1) (po_some (pe_un un_neg pe_int)) po_none)) (blkOk_by (own := [("_law_row", 5)]) (N := ["_law_pool_here", "_law_kept", "_law_turn", "_law_sides_here", "_law_thing", "_law_row"]) (sc := defScope s_l_right) (by decide +kernel))
            (fun _ _ _ _ _ => pg_name (i := 5) scRight8.nd rfl (Or.inl rfl)) (fun _ _ _ _ _ => pts_nil)
            (fun _ _ _ _ _ => pe_cmpR op_eq (callG G3 hg hr rfl m3 k3 b3 .nil pass0 (pa_cons (pe_ix (r := rIxL K) ix_list (pv 5) pe_int (fun _ _ => rfl)) pa_nil)) (callG G4 hg r3 rfl m4 k4 b4 .nil pass0 (pa_cons (pe_ix (r := rIxL K) ix_list (pv 5) pe_int (fun _ _ => rfl)) pa_nil)) (nomark _))) pa_nil))))
        (pss_one (ps_ret pe_bl)) pss_nil))))))
    (pss_one (ps_ret (pe_callB (cr_all (by rfl)) (by rfl) ma (by decide +kernel) (pa_cons
          (pe_lc (own := [("_law_row", 5)]) (g := gName 5) (tt := tYes) (by rfl) scRight8.nd (pi_list (pv 1)) (blkOk_by (own := [("_law_row", 5)]) (N := ["_law_pool_here", "_law_kept", "_law_turn", "_law_sides_here", "_law_thing", "_law_row"]) (sc := defScope s_l_right) (by decide +kernel))
            (fun _ _ _ _ _ => pg_name (i := 5) scRight8.nd rfl (Or.inl rfl)) (fun _ _ _ _ _ => pts_nil)
            (fun _ _ _ _ _ => pe_cmpR op_eq (callG G3 hg hr rfl m3 k3 b3 .nil pass0 (pa_cons (pe_ix (r := rIxL K) ix_list (pv 5) pe_int (fun _ _ => rfl)) pa_nil)) (callG G4 hg r3 rfl m4 k4 b4 .nil pass0 (pa_cons (pe_ix (r := rIxL K) ix_list (pv 5) pe_int (fun _ _ => rfl)) pa_nil)) (nomark _))) pa_nil))))), ?_⟩
  refine ⟨l1 0 (by decide), fun L nL => ?_⟩
  have nLp : L ≠ p := hp.ne nL
  have hL0 := nL
  have s0 := same_upd (o := .lst []) nL
  refine ⟨12, rfl, by decide, by decide, for_range (n := 12) (fun i σ H1 => ∃ v2 v3 v4 v5, σ = [some (.ref p), some (.ref L), v2, v3, v4, v5] ∧ Keep p H H1 ∧ Pool H1 p ∧ ∃ xs, H1 L = some (.lst xs) ∧ xs.length ≤ i ∧ ∀ v ∈ xs, RowV C H1 v ∧ v ≠ .ref p ∧ v ≠ .ref L)
    ⟨_, _, _, _, rfl, Same.keep s0 p, hp.same s0, [], upd_same, Nat.le_refl _, fun v hv => by cases hv⟩ ?_ ?_⟩
  · rintro i σ H1 hi ⟨v2, v3, v4, v5, rfl, kp, hp1, xs, hL, hx, rows⟩
    refine ⟨_, rfl, p, true, rfl, hp1, fun t a b c d H2 k2 hp2 sd => ?_⟩
    obtain ⟨ys1, ey1⟩ := hp1.lst
    obtain ⟨ys2, ey2⟩ := hp2.lst
    refine ⟨_, rfl, _, rfl, p, t, a, b, c, d, rfl, hp2, sd.up (by decide), fun x H3 k3 hp3 nx sz => ?_⟩
    obtain ⟨ys3, ey3⟩ := hp3.lst
    have sd3 := sd.off k3 ey2
    have sz3 : SzAt 900 C H3 x a b c d := sz.to (sd.fr.1.up (by decide)) (sd.fr.2.up (by decide))
    have kp3 := kp.trans (k2.trans k3)
    have hL3 := k3 _ _ nLp (k2 _ _ nLp hL)
    have rows3 : ∀ v ∈ xs, RowV C H3 v ∧ v ≠ .ref p ∧ v ≠ .ref L := fun v hv => by
      obtain ⟨h1, h2, h3⟩ := rows v hv
      exact ⟨(h1.off k2 ey1 h2).off k3 ey2 h2, h2, h3⟩
    refine ⟨_, rfl, .inl ⟨rfl, _, .inl (.inl hL3)⟩, ?_⟩
    refine ⟨_, rfl, _, rfl, l1 2 (by decide), fun r nr => ?_⟩
    have nrL : r ≠ L := (ne_of_none hL3 nr).symm
    have nrp : r ≠ p := (ne_of_none ey3 nr).symm
    have s4 := same_upd (o := .lst [.ref x, .ref t]) nr
    have e4 : upd H3 r (.lst [.ref x, .ref t]) r = some (.lst [.ref x, .ref t]) := upd_same
    generalize upd H3 r (.lst [.ref x, .ref t]) = H4 at s4 e4 ⊢
    have hL4 := s4 _ _ hL3
    refine ⟨L, _, _, rfl, rfl, hL4, small1000 (by omega), ?_⟩
    have kL : Keep L H4 (upd H4 L (.lst (xs ++ [.ref r]))) := Keep.at
    have hL5 : upd H4 L (.lst (xs ++ [.ref r])) L = some (.lst (xs ++ [.ref r])) := upd_same
    have hp4 := hp3.same s4
    have hp5 : Pool (upd H4 L (.lst (xs ++ [.ref r]))) p := by
      obtain ⟨x, d, c, ep, r⟩ := hp4
      exact ⟨x, d, c, by rw [upd_ne nLp.symm]; exact ep, r⟩
    have kp5 : Keep p H (upd H4 L (.lst (xs ++ [.ref r]))) := by
      intro b o hb e
      have e4 := s4 _ _ (kp3 b o hb e)
      rw [upd_ne (ne_of_none e hL0)]
      exact e4
    have rows5 : ∀ v ∈ xs ++ [.ref r], RowV C (upd H4 L (.lst (xs ++ [.ref r]))) v ∧ v ≠ .ref p ∧ v ≠ .ref L := by
      intro v hv
      rcases List.mem_append.mp hv with hv | hv
      · obtain ⟨h1, h2, h3⟩ := rows3 v hv
        exact ⟨(h1.same s4).off kL hL4 h3, h2, h3⟩
      · rw [List.mem_singleton.mp hv]
        have h1 : RowV C H4 (.ref r) := ⟨r, x, t, a, b, c, d, rfl, e4, sz3.same s4, (sd3.same s4).up (by decide)⟩
        have n1 : V.ref r ≠ .ref L := fun e => nrL (V.ref.inj e)
        exact ⟨h1.off kL hL4 n1, fun e => nrp (V.ref.inj e), n1⟩
    generalize upd H4 L (.lst (xs ++ [.ref r])) = H5 at kL hL5 hp5 kp5 rows5 ⊢
    obtain ⟨k, ek, kl⟩ := cut3 (xs ++ [.ref r])
    refine ⟨_, rfl, ?_⟩
    refine ⟨_, rfl, _, rfl, L, _, rfl, SqL.of hL5, fun R nR => ?_⟩
    rw [ek]
    have s6 := same_upd (o := .lst ((xs ++ [V.ref r]).drop k)) nR
    have e6 : upd H5 R (.lst ((xs ++ [V.ref r]).drop k)) R = some (.lst ((xs ++ [V.ref r]).drop k)) := upd_same
    generalize upd H5 R (.lst ((xs ++ [V.ref r]).drop k)) = H6 at s6 e6 ⊢
    refine ⟨R, rfl, ⟨_, SqL.of e6⟩, fun D nD => ?_⟩
    have sD := same_upd (o := .lst []) nD
    refine lc_list (K := K) (a := R) (xs := (xs ++ [V.ref r]).drop k) (fun i C1 => Same H6 C1 ∧ C1 D = some (.lst (List.replicate i (.bl true))) ∧ i ≤ 3) ⟨sD, upd_same, by decide⟩ (fun i C1 _ h => SqL.of (h.1 _ _ e6)) ?_ ?_
    · rintro i v C1 hi ⟨s7, hD, i4⟩
      obtain ⟨rr, xx, tt, a', b', c', d', rfl, hrr, hxx, htt⟩ := ((rows5 v (List.mem_of_mem_drop (List.mem_of_getElem? hi))).1.same s6).same s7
      have hi4 : i < ((xs ++ [V.ref r]).drop k).length := (List.getElem?_eq_some_iff.mp hi).1
      refine ⟨rfl, _, rfl, rr, _, _, _, rfl, rfl, SqL.of hrr, rfl, xx, a', b', c', d', rfl, hxx, fun C2 s8 => ?_⟩
      refine ⟨_, rfl, rr, _, _, _, rfl, rfl, SqL.of (s8 _ _ hrr), rfl, tt, a', b', c', d', rfl, htt.same s8, fun C3 s9 => ?_⟩
      refine ⟨rfl, ?_⟩
      rw [decide_eq_true rfl]
      have s89 := s8.trans s9
      refine ⟨_, s89 _ _ hD, by rw [List.length_replicate]; exact small1000 (by omega), fun c o e => ?_, ?_, by omega⟩
      · rw [upd_ne (ne_of_none e nD)]
        exact s89 _ _ (s7 _ _ e)
      · rw [upd_same, rep_snoc]
    · rintro C1 ⟨s7, hD, _⟩
      refine ⟨D, List.replicate ((xs ++ [V.ref r]).drop k).length true, rfl, ?_, _, rfl, ?_⟩
      · rw [rep_bl]
        exact SqL.of hD
      · rw [all_true]
        have s67 := s6.trans s7
        exact iteF ⟨_, _, _, _, rfl, kp5.trans (Same.keep s67 p), hp5.same s67, _, s67 _ _ hL5, by rw [List.length_append]; show xs.length + 1 ≤ _; omega, fun v hv => ⟨(rows5 v hv).1.same s67, (rows5 v hv).2⟩⟩
  · rintro σ H1 ⟨v2, v3, v4, v5, rfl, kp, hp1, xs, hL, hx, rows⟩
    refine ⟨_, rfl, L, rfl, ⟨_, SqL.of hL⟩, fun D nD => ?_⟩
    have sD := same_upd (o := .lst []) nD
    refine lc_list (K := K) (a := L) (xs := xs) (fun i C1 => Same H1 C1 ∧ C1 D = some (.lst (List.replicate i (.bl true))) ∧ i ≤ 12) ⟨sD, upd_same, by decide⟩ (fun i C1 _ h => SqL.of (h.1 _ _ hL)) ?_ ?_
    · rintro i v C1 hi ⟨s7, hD, i4⟩
      obtain ⟨rr, xx, tt, a', b', c', d', rfl, hrr, hxx, htt⟩ := (rows v (List.mem_of_getElem? hi)).1.same s7
      have hi4 : i < xs.length := (List.getElem?_eq_some_iff.mp hi).1
      refine ⟨rfl, _, rfl, rr, _, _, _, rfl, rfl, SqL.of hrr, rfl, xx, a', b', c', d', rfl, hxx, fun C2 s8 => ?_⟩
      refine ⟨_, rfl, rr, _, _, _, rfl, rfl, SqL.of (s8 _ _ hrr), rfl, tt, a', b', c', d', rfl, htt.same s8, fun C3 s9 => ?_⟩
      refine ⟨rfl, ?_⟩
      rw [decide_eq_true rfl]
      have s89 := s8.trans s9
      refine ⟨_, s89 _ _ hD, by rw [List.length_replicate]; exact small1000 (by omega), fun c o e => ?_, ?_, by omega⟩
      · rw [upd_ne (ne_of_none e nD)]
        exact s89 _ _ (s7 _ _ e)
      · rw [upd_same, rep_snoc]
    · rintro C1 ⟨s7, hD, _⟩
      refine ⟨D, List.replicate xs.length true, rfl, ?_, ?_⟩
      · rw [rep_bl]
        exact SqL.of hD
      · rw [all_true]
        exact q _ (kp.trans (Same.keep s7 p)) (hp1.same s7)
end
/-! ### size_lit.lean -/
section
/-! sizes, fractions, sides as they are written -/
variable {X : Cx}
/-- an expression is the int a -/
def IntE (t : TE) (sl : L2.St) (a : Int) : Prop := ∀ H Q, Q (.int a) H → t sl H Q
theorem IntE.c {sl : L2.St} {a : Int} : IntE (tC (.int a)) sl a := fun _ _ q => q
theorem line2 : 2 ≤ sizeLine := Nat.le_of_lt (small1000 (by decide))
theorem pe_fr {e1 e2 : Expr} {t1 t2 : TE} {x1} {pos : Pos} (h1 : PE X e1 t1) (h2 : PE X e2 t2) (hs1 : starEach [e1, e2] X.env = (false, eval e1 X.env) :: starEach [e2] X.env := by rfl) (hs2 : starEach [e2] X.env = (false, eval e2 X.env) :: starEach [] X.env := by rfl) :
    PE X (.Tuple [e1, e2] x1 pos) (fun sl H Q => ∃ a b, IntE t1 sl a ∧ IntE t2 sl b ∧ Fr 900 a b ∧ ∀ t H', Same H H' → H t = none → FrAt 900 H' t a b → Q (.ref t) H') :=
  pe_weak (pe_tup (pa_cons h1 (pa_cons h2 pa_nil hs2) hs1)) (by
    rintro sl H Q ⟨a, b, i1, i2, fr, q⟩
    refine i1 _ _ (i2 _ _ ⟨line2, fun t nt => ?_⟩)
    exact q t _ (same_upd nt) nt ⟨upd_same, fr⟩)
theorem pe_sd {e1 e2 e3 e4 : Expr} {t1 t2 t3 t4 : TE} {x1 x2 x3} {pos p2 p3 : Pos} (h1 : PE X e1 t1) (h2 : PE X e2 t2) (h3 : PE X e3 t3) (h4 : PE X e4 t4)
    (hs1 : starEach [e1, e2] X.env = (false, eval e1 X.env) :: starEach [e2] X.env := by rfl) (hs2 : starEach [e2] X.env = (false, eval e2 X.env) :: starEach [] X.env := by rfl)
    (hs3 : starEach [e3, e4] X.env = (false, eval e3 X.env) :: starEach [e4] X.env := by rfl) (hs4 : starEach [e4] X.env = (false, eval e4 X.env) :: starEach [] X.env := by rfl) :
    PE X (.Tuple [.Tuple [e1, e2] x2 p2, .Tuple [e3, e4] x3 p3] x1 pos) (fun sl H Q => ∃ a b c d, IntE t1 sl a ∧ IntE t2 sl b ∧ IntE t3 sl c ∧ IntE t4 sl d ∧ Fr 900 a b ∧ Fr 900 c d ∧ ∀ t H', Same H H' → H t = none → SdAt 900 H' t a b c d → Q (.ref t) H') :=
  pe_weak (pe_tup (pa_cons (pe_fr h1 h2 hs1 hs2) (pa_cons (pe_fr h3 h4 hs3 hs4) pa_nil))) (by
    rintro sl H Q ⟨a, b, c, d, i1, i2, i3, i4, fr1, fr2, q⟩
    refine ⟨a, b, i1, i2, fr1, fun u1 H1 s1 n1 f1 => ⟨c, d, i3, i4, fr2, fun u2 H2 s2 n2 f2 => ⟨line2, fun t nt => ?_⟩⟩⟩
    have s3 := same_upd (o := .tup [.ref u1, .ref u2]) nt
    have s12 := s1.trans s2
    exact q t _ (s12.trans s3) (s12.free nt) ⟨u1, u2, upd_same, (f1.same s2).same s3, f2.same s3⟩)
/-- Size(e1, e2) -/
def tSize (C : Addr) (t : TA) : TE := fun sl H Q => t sl H fun vs H1 => ∃ v1 v2 a b c d, vs = [v1, v2] ∧ Side 3900 H1 v1 a b ∧ Side 3900 H1 v2 c d ∧ ∀ x H', Same H1 H' → H1 x = none → SzAt 3900 C H' x a b c d → Q (.ref x) H'
theorem new_same {H : Hp} {y dy C : Addr} (ny : H y = none) (ndy : H dy = none) : Same H (upd (upd H dy (.own y)) y (.ins C dy [])) := fun c o e => by
  rw [upd_ne (ne_of_none e ny), upd_ne (ne_of_none e ndy)]
  exact e
theorem pe_size {C f : Addr} {fd : FuncData} {p pos : Pos} {e : Expr} {es : List Expr} {t : TA} (M : Mk X.K C f) (F : FnOk X.prog X.w X.K X.mg X.base CX0 6 f fd ["self", "width", "height"] (spInit C)) (hr : Room 7 X.A) (hg : Gl X "Size") (hm : X.mg "Size" = some (.ref C)) (hb : Binds X.K fd ["self", "width", "height"] [])
    (ha : PA X (e :: es) t) (he : starEach (e :: es) X.env = (false, eval e X.env) :: starEach es X.env := by rfl) (hpl : (backTo pos (starEach es X.env)).any (·.1) = false := by rfl) :
    PE X (.Call (.Name "Size" p) (e :: es) [] pos) (tSize C t) := by
  constructor
  intro pins s sl H Q I h
  refine wpAny_Call_Name_kw (ld_glob I hg hm ?_ (by decide))
  refine PySem.W.callWith_K (h₀ := X.base) I.ok.mod.kin M.kp (thn (ha.run pos pins s sl H _ I h) fun us s1 hu => ?_) he hpl
  obtain ⟨vs, H1, I1, r, v1, v2, a, b, c, d, rfl, sd1, sd2, q⟩ := hu
  refine ⟨I1.kIn, run_make (E := fun _ _ _ => False) M F hr hb .nil pass0 I1 r fun x dx nx ndx ne => ?_⟩
  have s4 := new_same (C := C) nx ndx
  exact ⟨x, dx, v1, v2, a, b, c, d, rfl, upd_same, sd1.same s4, sd2.same s4, fun H' kp sz => ⟨rfl, q x H' (kp.same s4 nx) nx sz⟩⟩
end
/-! ### k08_law.lean -/
section
variable {P : Program} {w : World} {K : PySem.W.Frag} {mg : Str → Option Value} {base : Heap} {f : Addr} {fd : FuncData}
theorem scLaw : FnScope ["_law_script", "_law_far", "_law_rows", "_law_row", "_law_k"] ["_law_script"] (defScope s_law) := ⟨rfl, rfl, rfl, by decide +kernel, rfl, by decide +kernel, by decide +kernel⟩
def spLaw (K : PySem.W.Frag) : Sp := fun vs H Q _ => ∃ (a : Addr) (ns : List Int), vs = [.ref a] ∧ SqL K H a (ns.map V.int) ∧ ns.length ≤ 63 ∧ ∀ H', Q (.bl true) H'
def far : Int := 10 ^ 39
theorem frK {a b : Int} (n : Nat) (a0 : 0 < a) (b0 : 0 < b) (g : gcdI a b = 1) (al : a.natAbs < 2 ^ 200) (bl : b.natAbs < 2 ^ 200) (hn : 200 ≤ n) : Fr n a b := Fr.up ⟨a0, b0, g, al, bl⟩ hn
theorem frF {a b : Int} (n : Nat) (h : decide (0 < a) && decide (0 < b) && decide (gcdI a b = 1) && decide (a.natAbs < 2 ^ 200) && decide (b.natAbs < 2 ^ 200) = true) (hn : 200 ≤ n) : Fr n a b := by
  simp only [Bool.and_eq_true, decide_eq_true_eq] at h
  obtain ⟨⟨⟨⟨h1, h2⟩, h3⟩, h4⟩, h5⟩ := h
  exact frK n h1 h2 h3 h4 h5 hn
theorem row_of {C : Addr} {H : Hp} {r x t : Addr} {a b c d : Int} (e : H r = some (.lst [.ref x, .ref t])) (sz : SzAt 3900 C H x a b c d) (sd : SdAt 900 H t a b c d) : RowV C H (.ref r) := by
  obtain ⟨p, q, e2, hp, hq⟩ := sd
  exact ⟨r, x, t, a, b, c, d, rfl, e, sz.to hp.2 hq.2, p, q, e2, hp, hq⟩
theorem ok_law {C fI g1 g2 gR gP gC : Addr} {fdI gd1 gd2 gdR gdP gdC : FuncData} (F : Fun K "law" "law" s_law f fd) (T : SzTxt K mg C) (M : Mk K C fI) (ma : mg "all" = none) (mrg : mg "range" = none) (mx : mg "max" = none) (mn : mg "min" = none) (ml : mg "len" = none)
    (GR : FnG P w K mg base CX0 12 gR gdR ["_law_pool_here"] spRight) (bR : Binds K gdR ["_law_pool_here"] []) (kR : PySem.W.keepIn K (.ref gR) = true) (mR : mg "_law_right" = some (.ref gR))
    (GP : FnOk P w K mg base CX0 2 gP gdP ["_law_figure"] spPool) (bP : Binds K gdP ["_law_figure"] []) (kP : PySem.W.keepIn K (.ref gP) = true) (mP : mg "_law_pool" = some (.ref gP))
    (GC : FnOk P w K mg base CX0 2 gC gdC ["_law_script", "_law_k"] (spCell K)) (bC : Binds K gdC ["_law_script", "_law_k"] []) (kC : PySem.W.keepIn K (.ref gC) = true) (mC : mg "_law_cell" = some (.ref gC))
    (GI : FnOk P w K mg base CX0 6 fI fdI ["self", "width", "height"] (spInit C)) (bI : Binds K fdI ["self", "width", "height"] [])
    (G1 : FnG P w K mg base CX0 11 g1 gd1 ["_law_thing"] (spTold8 C)) (b1 : Binds K gd1 ["_law_thing"] []) (k1 : PySem.W.keepIn K (.ref g1) = true) (m1 : mg "_law_told" = some (.ref g1))
    (G2 : FnG P w K mg base CX0 4 g2 gd2 ["_law_sides_here"] spDue8) (b2 : Binds K gd2 ["_law_sides_here"] []) (k2 : PySem.W.keepIn K (.ref g2) = true) (m2 : mg "_law_due" = some (.ref g2)) :
    FnG P w K mg base CX0 13 f fd ["_law_script"] (spLaw K) := by
  refine okG F scLaw (fun vs H Q E h => ?_) (fun cdv A outer s H vs Q E hg hr h => ?_)
  · obtain ⟨a, ns, rfl, _⟩ := h
    rfl
  obtain ⟨a, ns, rfl, hS, h63, q⟩ := h
  have r1 : Room 2 _ := hr.mono (by decide)
  have r3 : Room 4 _ := hr.mono (by decide)
  have r6 : Room 7 _ := hr.mono (by decide)
  have r10 : Room 11 _ := hr.mono (by decide)
  have l1 : ∀ n : Nat, n ≤ 1000 → n ≤ sizeLine := fun n h => Nat.le_of_lt (small1000 h)
  refine ⟨_, pss_cons (ps_set (i := 1) scLaw.nd rfl (.inl rfl) (pe_weak (t' := tC (.int far)) (pe_op op_pow pe_int pe_int) (fun _ _ _ h => ⟨_, _, rfl, rfl, ⟨by decide, by decide, by decide⟩, h⟩)))
    (pss_cons (ps_set (i := 2) scLaw.nd rfl (.inl rfl) (pe_lst
      (pa_cons (pe_lst (pa_cons (pe_size M GI r6 rfl T.mgC bI (pa_cons pe_int (pa_cons (pe_fr pe_int pe_int) pa_nil))) (pa_cons (pe_sd pe_int pe_int pe_int pe_int) pa_nil)))
      (pa_cons (pe_lst (pa_cons (pe_size M GI r6 rfl T.mgC bI (pa_cons (pe_fr pe_int pe_int) (pa_cons pe_int pa_nil))) (pa_cons (pe_sd pe_int pe_int pe_int pe_int) pa_nil))) pa_nil))))
    (pss_cons (ps_set (i := 2) scLaw.nd rfl (.inl rfl) (pe_op op_cat (pv 2) (pe_lst
      (pa_cons (pe_lst (pa_cons (pe_size M GI r6 rfl T.mgC bI (pa_cons pe_int (pa_cons pe_int pa_nil))) (pa_cons (pe_sd pe_int pe_int pe_int pe_int) pa_nil)))
      (pa_cons (pe_lst (pa_cons (pe_size M GI r6 rfl T.mgC bI (pa_cons (pv 1) (pa_cons (pe_fr pe_int (pv 1)) pa_nil))) (pa_cons (pe_sd (pv 1) pe_int pe_int (pv 1)) pa_nil))) pa_nil)))))
    (pss_cons (ps_expr (pe_bm PySem.F.plainAttrs_list PySem.F.slot_list_append PySem.F.type_list_append mt_append (pv 2) (pa_cons
      (pe_lst (pa_cons (pe_size M GI r6 rfl T.mgC bI (pa_cons (pe_fr (pv 1) (pe_op op_add (pv 1) pe_int)) (pa_cons (pv 1) pa_nil))) (pa_cons (pe_sd (pv 1) (pe_op op_add (pv 1) pe_int) (pv 1) pe_int) pa_nil))) pa_nil)))
    (pss_cons (ps_if (pt_not (pt_val (pe_callB (cr_all (by rfl)) (by rfl) ma (by decide +kernel) (pa_cons
          (pe_lc (own := [("_law_row", 3)]) (g := gName 3) (tt := tYes) (by rfl) scLaw.nd (pi_list (pe_op op_cat (pv 2) (pe_slice sl_list (pv 2) po_none (po_some pe_int)))) (blkOk_by (own := [("_law_row", 3)]) (N := ["_law_script", "_law_far", "_law_rows", "_law_row", "_law_k"]) (sc := defScope s_law) (by decide +kernel))
            (fun _ _ _ _ _ => pg_name (i := 3) scLaw.nd rfl (Or.inl rfl)) (fun _ _ _ _ _ => pts_nil)
            (fun _ _ _ _ _ => pe_cmpR op_eq (callG G1 hg r10 rfl m1 k1 b1 .nil pass0 (pa_cons (pe_ix (r := rIxL K) ix_list (pv 3) pe_int (fun _ _ => rfl)) pa_nil)) (callG G2 hg r3 rfl m2 k2 b2 .nil pass0 (pa_cons (pe_ix (r := rIxL K) ix_list (pv 3) pe_int (fun _ _ => rfl)) pa_nil)) (nomark _))) pa_nil))))
        (pss_one (ps_ret pe_bl)) pss_nil)
    (pss_one (ps_ret (pe_callB (cr_all (by rfl)) (by rfl) ma (by decide +kernel) (pa_cons
          (pe_lc (own := [("_law_k", 4)]) (g := gName 4) (tt := tYes) (by rfl) scLaw.nd
            (pi_range1 rfl mrg (pa_cons (pe_callB (call_max2 (by rfl)) (by rfl) mx (by decide +kernel) (pa_cons pe_int (pa_cons (pe_callB (call_min2 (by rfl)) (by rfl) mn (by decide +kernel) (pa_cons (pe_callB call_len_seq (by rfl) ml PySem.boot_len (pa_cons (pv 0) pa_nil)) (pa_cons pe_int pa_nil))) pa_nil))) pa_nil))
            (blkOk_by (own := [("_law_k", 4)]) (N := ["_law_script", "_law_far", "_law_rows", "_law_row", "_law_k"]) (sc := defScope s_law) (by decide +kernel))
            (fun _ _ _ _ _ => pg_name (i := 4) scLaw.nd rfl (Or.inl rfl)) (fun _ _ _ _ _ => pts_nil)
            (fun _ _ _ _ _ => callG GR hg hr rfl mR kR bR .nil pass0 (pa_cons (pe_call GP r1 rfl mP kP bP .nil pass0 (pa_cons (pe_call GC r1 rfl mC kC bC .nil pass0 (pa_cons (pv 0) (pa_cons (pv 4) pa_nil))) pa_nil)) pa_nil))) pa_nil)))))))), ?_⟩
  have up : ∀ {H : Hp} {u : Addr} {a b : Int}, FrAt 900 H u a b → Side 3900 H (.ref u) a b := fun h => .ref (h.up (by decide))
  have gf : gcdI far (far + 1) = 1 := by decide +kernel
  have gg : gcdI 1 far = 1 := by decide +kernel
  have gi : gcdI far 1 = 1 := gcdI_one
  have iF : ∀ {sl : L2.St}, sl[1]? = some (some (V.int far)) → IntE (tVar 1) sl far := fun e _ _ q => ⟨_, e, q⟩
  have iF1 : ∀ {sl : L2.St} {t : TE}, (∀ H Q, Q (.int (far + 1)) H → t sl H Q) → IntE t sl (far + 1) := fun h => h
  -- the first two rows
  refine ⟨9, 2, IntE.c, IntE.c, frF _ (by decide +kernel) (by decide), fun u1 A1 s1 n1 f1 => ?_⟩
  refine ⟨.int 8, .ref u1, 8, 1, 9, 2, rfl, .int (frF _ (by decide +kernel) (by decide)), up f1, fun x1 A2 s2 n2 sz1 => ?_⟩
  refine ⟨8, 1, 9, 2, IntE.c, IntE.c, IntE.c, IntE.c, frF _ (by decide +kernel) (by decide), frF _ (by decide +kernel) (by decide), fun t1 A3 s3 n3 sd1 => ⟨line2, fun r1 o1 => ?_⟩⟩
  have s4 := same_upd (o := .lst [.ref x1, .ref t1]) o1
  have e1 : upd A3 r1 (.lst [.ref x1, .ref t1]) r1 = some (.lst [.ref x1, .ref t1]) := upd_same
  generalize upd A3 r1 (.lst [.ref x1, .ref t1]) = A4 at s4 e1 ⊢
  have w1 := row_of e1 ((sz1.same s3).same s4) (sd1.same s4)
  have q1 : Same H A4 := s1.trans (s2.trans (s3.trans s4))
  refine ⟨8, 1, IntE.c, IntE.c, frF _ (by decide +kernel) (by decide), fun u2 B1 s1 n1 f2 => ?_⟩
  refine ⟨.ref u2, .int 4, 8, 1, 4, 1, rfl, up f2, .int (frF _ (by decide +kernel) (by decide)), fun x2 B2 s2 n2 sz2 => ?_⟩
  refine ⟨8, 1, 4, 1, IntE.c, IntE.c, IntE.c, IntE.c, frF _ (by decide +kernel) (by decide), frF _ (by decide +kernel) (by decide), fun t2 B3 s3 n3 sd2 => ⟨line2, fun r2 o2 => ?_⟩⟩
  have s4 := same_upd (o := .lst [.ref x2, .ref t2]) o2
  have e2 : upd B3 r2 (.lst [.ref x2, .ref t2]) r2 = some (.lst [.ref x2, .ref t2]) := upd_same
  generalize upd B3 r2 (.lst [.ref x2, .ref t2]) = B4 at s4 e2 ⊢
  have w2 := row_of e2 ((sz2.same s3).same s4) (sd2.same s4)
  have q2 : Same A4 B4 := s1.trans (s2.trans (s3.trans s4))
  have p1b := q2
  have w1 := w1.same q2
  refine ⟨line2, fun L1 nL1 => ?_⟩
  have s5 := same_upd (o := .lst [.ref r1, .ref r2]) nL1
  have eL1 : upd B4 L1 (.lst [.ref r1, .ref r2]) L1 = some (.lst [.ref r1, .ref r2]) := upd_same
  generalize upd B4 L1 (.lst [.ref r1, .ref r2]) = B5 at s5 eL1 ⊢
  have w1 := w1.same s5
  have w2 := w2.same s5
  have q3 : Same H B5 := q1.trans (q2.trans s5)
  have p1a := q2.trans s5
  have p2a := s5
  -- two more
  refine ⟨_, rfl, ?_⟩
  refine ⟨.int 1, .int 1, 1, 1, 1, 1, rfl, .int (frF _ (by decide +kernel) (by decide)), .int (frF _ (by decide +kernel) (by decide)), fun x3 C1 s1 n1 sz3 => ?_⟩
  refine ⟨1, 1, 1, 1, IntE.c, IntE.c, IntE.c, IntE.c, frF _ (by decide +kernel) (by decide), frF _ (by decide +kernel) (by decide), fun t3 C2 s2 n2 sd3 => ⟨line2, fun r3 o3 => ?_⟩⟩
  have s3 := same_upd (o := .lst [.ref x3, .ref t3]) o3
  have e3 : upd C2 r3 (.lst [.ref x3, .ref t3]) r3 = some (.lst [.ref x3, .ref t3]) := upd_same
  generalize upd C2 r3 (.lst [.ref x3, .ref t3]) = C3 at s3 e3 ⊢
  have w3 := row_of e3 ((sz3.same s2).same s3) (sd3.same s3)
  have q4 : Same B5 C3 := s1.trans (s2.trans s3)
  refine ⟨_, rfl, 1, far, IntE.c, iF rfl, frF _ (by decide +kernel) (by decide), fun u4 D1 s1 n1 f4 => ?_⟩
  refine ⟨.int far, .ref u4, far, 1, 1, far, rfl, .int (frF _ (by decide +kernel) (by decide)), up f4, fun x4 D2 s2 n2 sz4 => ?_⟩
  refine ⟨far, 1, 1, far, iF rfl, IntE.c, IntE.c, iF rfl, frF _ (by decide +kernel) (by decide), frF _ (by decide +kernel) (by decide), fun t4 D3 s3 n3 sd4 => ⟨line2, fun r4 o4 => ?_⟩⟩
  have s4 := same_upd (o := .lst [.ref x4, .ref t4]) o4
  have e4 : upd D3 r4 (.lst [.ref x4, .ref t4]) r4 = some (.lst [.ref x4, .ref t4]) := upd_same
  generalize upd D3 r4 (.lst [.ref x4, .ref t4]) = D4 at s4 e4 ⊢
  have w4 := row_of e4 ((sz4.same s3).same s4) (sd4.same s4)
  have q5 : Same C3 D4 := s1.trans (s2.trans (s3.trans s4))
  have w3 := w3.same q5
  refine ⟨line2, fun M2 nM2 => ?_⟩
  have s5 := same_upd (o := .lst [.ref r3, .ref r4]) nM2
  have eM2 : upd D4 M2 (.lst [.ref r3, .ref r4]) M2 = some (.lst [.ref r3, .ref r4]) := upd_same
  generalize upd D4 M2 (.lst [.ref r3, .ref r4]) = D5 at s5 eM2 ⊢
  have w3 := w3.same s5
  have w4 := w4.same s5
  have q6 : Same B5 D5 := q4.trans (q5.trans s5)
  refine ⟨L1, M2, _, _, rfl, rfl, q6 _ _ eL1, eM2, l1 4 (by decide), fun L nL => ?_⟩
  have s6 := same_upd (o := .lst ([.ref r1, .ref r2] ++ [.ref r3, .ref r4])) nL
  have eL : upd D5 L (.lst ([.ref r1, .ref r2] ++ [.ref r3, .ref r4])) L = some (.lst ([.ref r1, .ref r2] ++ [.ref r3, .ref r4])) := upd_same
  generalize upd D5 L (.lst ([.ref r1, .ref r2] ++ [.ref r3, .ref r4])) = D6 at s6 eL ⊢
  have q7 : Same H D6 := q3.trans (q6.trans s6)
  have w1 := (w1.same q6).same s6
  have w2 := (w2.same q6).same s6
  have w3 := w3.same s6
  have w4 := w4.same s6
  have nLH : H L = none := (q3.trans q6).free nL
  -- one more
  refine ⟨_, rfl, .inl ⟨rfl, _, .inl (.inl eL)⟩, ?_⟩
  have fF : Fr 900 far (far + 1) := frF _ (by decide +kernel) (by decide)
  have fO : Fr 900 far 1 := frF _ (by decide +kernel) (by decide)
  refine ⟨far, far + 1, iF rfl, fun _ _ q => ⟨_, rfl, _, _, rfl, rfl, q⟩, fF, fun u5 E1 s1 n1 f5 => ?_⟩
  refine ⟨_, rfl, .ref u5, .int far, far, far + 1, far, 1, rfl, up f5, .int (fO.up (by decide)), fun x5 E2 s2 n2 sz5 => ?_⟩
  refine ⟨far, far + 1, far, 1, iF rfl, fun _ _ q => ⟨_, rfl, _, _, rfl, rfl, q⟩, iF rfl, IntE.c, fF, fO, fun t5 E3 s3 n3 sd5 => ⟨line2, fun r5 o5 => ?_⟩⟩
  have s4 := same_upd (o := .lst [.ref x5, .ref t5]) o5
  have e5 : upd E3 r5 (.lst [.ref x5, .ref t5]) r5 = some (.lst [.ref x5, .ref t5]) := upd_same
  generalize upd E3 r5 (.lst [.ref x5, .ref t5]) = E4 at s4 e5 ⊢
  have w5 := row_of e5 ((sz5.same s3).same s4) (sd5.same s4)
  have q8 : Same D6 E4 := s1.trans (s2.trans (s3.trans s4))
  have nr5 : r5 ≠ L := (ne_of_none (s1.trans (s2.trans s3) _ _ eL) o5).symm
  have eL4 := q8 _ _ eL
  refine ⟨L, _, _, rfl, rfl, eL4, small1000 (by show 4 ≤ 1000; decide), ?_⟩
  have kL : Keep L E4 (upd E4 L (.lst ([.ref r1, .ref r2] ++ [.ref r3, .ref r4] ++ [.ref r5]))) := Keep.at
  have eL5 : upd E4 L (.lst ([.ref r1, .ref r2] ++ [.ref r3, .ref r4] ++ [.ref r5])) L = some (.lst ([.ref r1, .ref r2] ++ [.ref r3, .ref r4] ++ [.ref r5])) := upd_same
  have ne : ∀ {r : Addr} {h : HO}, D5 r = some h → V.ref r ≠ .ref L := fun h e => by
    rw [V.ref.inj e] at h
    rw [nL] at h
    cases h
  have p1 := ne (q6 _ _ (p1a _ _ e1))
  have p2 := ne (q6 _ _ (p2a _ _ e2))
  have p3 := ne (s5 _ _ (q5 _ _ e3))
  have p4 := ne (s5 _ _ e4)
  have rows : ∀ v ∈ [V.ref r1, .ref r2] ++ [V.ref r3, .ref r4] ++ [V.ref r5], RowV C (upd E4 L (.lst ([.ref r1, .ref r2] ++ [.ref r3, .ref r4] ++ [.ref r5]))) v := by
    intro v hv
    simp only [List.mem_append, List.mem_cons, List.not_mem_nil, or_false] at hv
    rcases hv with ((rfl | rfl) | (rfl | rfl)) | rfl
    · exact (w1.same q8).off kL eL4 p1
    · exact (w2.same q8).off kL eL4 p2
    · exact (w3.same q8).off kL eL4 p3
    · exact (w4.same q8).off kL eL4 p4
    · exact w5.off kL eL4 (fun e => nr5 (V.ref.inj e))
  have sAll : Same H (upd E4 L (.lst ([.ref r1, .ref r2] ++ [.ref r3, .ref r4] ++ [.ref r5]))) := fun c o e => by
    rw [upd_ne (ne_of_none e nLH)]
    exact q8 _ _ (q7 _ _ e)
  generalize upd E4 L (.lst ([.ref r1, .ref r2] ++ [.ref r3, .ref r4] ++ [.ref r5])) = Z at rows eL5 sAll ⊢
  clear kL eL4 q8 q7 w1 w2 w3 w4 w5
  have subs : ∀ v ∈ cutV ([V.ref r1, .ref r2] ++ [V.ref r3, .ref r4] ++ [V.ref r5]) none (some 2), v ∈ [V.ref r1, .ref r2] ++ [V.ref r3, .ref r4] ++ [V.ref r5] := fun v hv => List.mem_of_mem_drop (List.mem_of_mem_take hv)
  have ln5 : (cutV ([V.ref r1, .ref r2] ++ [V.ref r3, .ref r4] ++ [V.ref r5]) none (some 2)).length ≤ 5 := cutV_length _ _ _
  refine ⟨_, rfl, _, rfl, 2, rfl, L, _, rfl, SqL.of eL5, fun R nR => ?_⟩
  generalize cutV ([V.ref r1, .ref r2] ++ [V.ref r3, .ref r4] ++ [V.ref r5]) none (some 2) = ws at subs ln5 ⊢
  have s1 := same_upd (o := .lst ws) nR
  have eR : upd Z R (.lst ws) R = some (.lst ws) := upd_same
  generalize upd Z R (.lst ws) = Z1 at s1 eR ⊢
  refine ⟨L, R, _, _, rfl, rfl, s1 _ _ eL5, eR, l1 _ (by show 5 + ws.length ≤ 1000; omega), fun N nN => ?_⟩
  have s2 := same_upd (o := .lst ([.ref r1, .ref r2] ++ [.ref r3, .ref r4] ++ [.ref r5] ++ ws)) nN
  have eN : upd Z1 N (.lst ([.ref r1, .ref r2] ++ [.ref r3, .ref r4] ++ [.ref r5] ++ ws)) N = some (.lst ([.ref r1, .ref r2] ++ [.ref r3, .ref r4] ++ [.ref r5] ++ ws)) := upd_same
  generalize upd Z1 N (.lst ([.ref r1, .ref r2] ++ [.ref r3, .ref r4] ++ [.ref r5] ++ ws)) = Z2 at s2 eN ⊢
  have s12 := s1.trans s2
  refine ⟨N, rfl, ⟨_, SqL.of eN⟩, fun D nD => ?_⟩
  have sD := same_upd (o := .lst []) nD
  have lw : ([V.ref r1, .ref r2] ++ [V.ref r3, .ref r4] ++ [V.ref r5] ++ ws).length ≤ 10 := by
    rw [List.length_append]
    show 5 + ws.length ≤ 10
    omega
  have rows : ∀ v ∈ [V.ref r1, .ref r2] ++ [V.ref r3, .ref r4] ++ [V.ref r5] ++ ws, RowV C Z2 v := fun v hv => by
    rcases List.mem_append.mp hv with hv | hv
    · exact (rows v hv).same s12
    · exact (rows v (subs v hv)).same s12
  generalize ([V.ref r1, .ref r2] ++ [V.ref r3, .ref r4] ++ [V.ref r5] ++ ws) = ys at eN lw rows ⊢
  refine lc_list (K := K) (a := N) (xs := ys) (fun i C1 => Same Z2 C1 ∧ C1 D = some (.lst (List.replicate i (.bl true))) ∧ i ≤ 10) ⟨sD, upd_same, by decide⟩ (fun i C1 _ h => SqL.of (h.1 _ _ eN)) ?_ ?_
  · rintro i v C1 hi ⟨s7, hD, i4⟩
    obtain ⟨rr, xx, tt, a', b', c', d', rfl, hrr, hxx, htt⟩ := (rows v (List.mem_of_getElem? hi)).same s7
    have hi4 : i < ys.length := (List.getElem?_eq_some_iff.mp hi).1
    refine ⟨rfl, _, rfl, rr, _, _, _, rfl, rfl, SqL.of hrr, rfl, xx, a', b', c', d', rfl, hxx, fun C2 s8 => ?_⟩
    refine ⟨_, rfl, rr, _, _, _, rfl, rfl, SqL.of (s8 _ _ hrr), rfl, tt, a', b', c', d', rfl, htt.same s8, fun C3 s9 => ?_⟩
    refine ⟨rfl, ?_⟩
    rw [decide_eq_true rfl]
    have s89 := s8.trans s9
    refine ⟨_, s89 _ _ hD, by rw [List.length_replicate]; exact small1000 (by omega), fun c o e => ?_, ?_, by omega⟩
    · rw [upd_ne (ne_of_none e nD)]
      exact s89 _ _ (s7 _ _ e)
    · rw [upd_same, rep_snoc]
  · rintro C1 ⟨s7, hD, _⟩
    refine ⟨D, List.replicate ys.length true, rfl, ?_, _, rfl, ?_⟩
    · rw [rep_bl]
      exact SqL.of hD
    rw [all_true]
    refine iteF ?_
    have sAll := sAll.trans (s12.trans s7)
    clear hD nD sD rows eN
    -- the cells
    refine ⟨_, rfl, a, _, rfl, .inl (sAll.seq hS), _, _, rfl, _, _, rfl, ?_⟩
    have bounds : ∀ x : Int, 0 ≤ x → x ≤ 63 → 0 ≤ (if (if (5 : Int) < x then 5 else x) > 2 then (if (5 : Int) < x then 5 else x) else 2) ∧ (if (if (5 : Int) < x then 5 else x) > 2 then (if (5 : Int) < x then 5 else x) else 2) ≤ 5 := by
      intro x h0 h1
      split <;> split <;> omega
    have bd := bounds (((ns.map V.int).length : Nat) : Int) (by omega) (by rw [List.length_map]; omega)
    refine ⟨_, rfl, ?_⟩
    generalize (if (if (5 : Int) < (((ns.map V.int).length : Nat) : Int) then 5 else (((ns.map V.int).length : Nat) : Int)) > 2 then (if (5 : Int) < (((ns.map V.int).length : Nat) : Int) then 5 else (((ns.map V.int).length : Nat) : Int)) else 2) = m at bd ⊢
    refine ⟨by omega, by omega, fun D nD => ?_⟩
    have sD := same_upd (o := .lst []) nD
    refine lc_range (lo := 0) (n := m.toNat) (fun i H7 => Same C1 H7 ∧ H7 D = some (.lst (List.replicate i (.bl true)))) ⟨sD, upd_same⟩ ?_ ?_
    · rintro i H7 hi ⟨s10, hD⟩
      refine ⟨rfl, _, rfl, _, rfl, a, ns, 0 + i, rfl, s10.seq (sAll.seq hS), h63, by omega, by omega, fun z H8 s11 => ?_⟩
      refine ⟨z, rfl, fun p H9 s12 np pl => ?_⟩
      refine ⟨p, rfl, pl, fun H10 kp pl2 => ?_⟩
      have s13 : Same H7 H10 := kp.same (s11.trans s12) (s11.free np)
      refine ⟨_, s13 _ _ hD, by rw [List.length_replicate]; exact small1000 (by omega), fun c o e => ?_, ?_⟩
      · rw [upd_ne (ne_of_none e nD)]
        exact s13 _ _ (s10 _ _ e)
      · rw [upd_same, rep_snoc]
    · rintro H7 ⟨s10, hD⟩
      refine ⟨D, List.replicate m.toNat true, rfl, ?_, ?_⟩
      · rw [rep_bl]
        exact SqL.of hD
      · rw [all_true]
        exact q _
end
set_option maxHeartbeats 0 in
theorem all_mk {l : PySem.W.OpenLaw} {w : World} {K : PySem.W.Frag} {h : Heap} {mg : Str → Option Value} {fa : Addr} (X : K.In h) (G : h.Ns mainGlobals mg) (hfa : mg "law" = some (.ref fa))
    {f0 f1 f2 f3 f4 f5 f6 f7 f8 f9 f10 f11 f12 f13 f14 f15 f16 f17 f18 f19 f20 f21 f22 f23 f24 f25 f26 f27 f28 : Addr} {od0 an0 od1 an1 od2 an2 od3 an3 od4 an4 od5 an5 od6 an6 od7 an7 od8 an8 od9 an9 od10 an10 od11 an11 od12 an12 od13 an13 od14 an14 od15 an15 od16 an16 od17 an17 od18 an18 od19 an19 od20 an20 od21 an21 od22 an22 od23 an23 od24 an24 od25 an25 od26 an26 od27 an27 od28 an28 : Option Addr} {sl0 sl1 sl2 sl3 sl4 sl5 sl6 sl7 sl8 sl9 sl10 sl11 sl12 sl13 sl14 sl15 sl16 sl17 sl18 sl19 sl20 sl21 sl22 sl23 sl24 sl25 sl26 sl27 sl28 : Array (Option Value)} {oc0 kV0 dc0 pm0 cd0 ct0 oc1 kV1 dc1 pm1 cd1 ct1 oc2 kV2 dc2 pm2 cd2 ct2 oc3 kV3 dc3 pm3 cd3 ct3 oc4 kV4 dc4 pm4 cd4 ct4 oc5 kV5 dc5 pm5 cd5 ct5 oc6 kV6 dc6 pm6 cd6 ct6 oc7 kV7 dc7 pm7 cd7 ct7 oc8 kV8 dc8 pm8 cd8 ct8 oc9 kV9 dc9 pm9 cd9 ct9 oc10 kV10 dc10 pm10 cd10 ct10 oc11 kV11 dc11 pm11 cd11 ct11 oc12 kV12 dc12 pm12 cd12 ct12 oc13 kV13 dc13 pm13 cd13 ct13 oc14 kV14 dc14 pm14 cd14 ct14 oc15 kV15 dc15 pm15 cd15 ct15 oc16 kV16 dc16 pm16 cd16 ct16 oc17 kV17 dc17 pm17 cd17 ct17 oc18 kV18 dc18 pm18 cd18 ct18 oc19 kV19 dc19 pm19 cd19 ct19 oc20 kV20 dc20 pm20 cd20 ct20 oc21 kV21 dc21 pm21 cd21 ct21 oc22 kV22 dc22 pm22 cd22 ct22 oc23 kV23 dc23 pm23 cd23 ct23 oc24 kV24 dc24 pm24 cd24 ct24 oc25 kV25 dc25 pm25 cd25 ct25 oc26 kV26 dc26 pm26 cd26 ct26 oc27 kV27 dc27 pm27 cd27 ct27 oc28 kV28 dc28 pm28 cd28 ct28 : Value}
    {C_Size : Addr}
    {fm_Size_init : Addr} {o2_Size_init o3_Size_init : Option Addr} {o4_Size_init : Array (Option Value)} {o5_Size_init o6_Size_init o7_Size_init o8_Size_init o9_Size_init oa_Size_init : Value}
    {fm_Size_read : Addr} {o2_Size_read o3_Size_read : Option Addr} {o4_Size_read : Array (Option Value)} {o5_Size_read o6_Size_read o7_Size_read o8_Size_read o9_Size_read oa_Size_read : Value}
    {pm_Size_read : Addr} {rest_Size_read : List Value}
    {fm_Size_ratio : Addr} {o2_Size_ratio o3_Size_ratio : Option Addr} {o4_Size_ratio : Array (Option Value)} {o5_Size_ratio o6_Size_ratio o7_Size_ratio o8_Size_ratio o9_Size_ratio oa_Size_ratio : Value}
    {pm_Size_ratio : Addr} {rest_Size_ratio : List Value}
    {fm_Size_turned : Addr} {o2_Size_turned o3_Size_turned : Option Addr} {o4_Size_turned : Array (Option Value)} {o5_Size_turned o6_Size_turned o7_Size_turned o8_Size_turned o9_Size_turned oa_Size_turned : Value}
    {fm_Size_str : Addr} {o2_Size_str o3_Size_str : Option Addr} {o4_Size_str : Array (Option Value)} {o5_Size_str o6_Size_str o7_Size_str o8_Size_str o9_Size_str oa_Size_str : Value}
    {fm_Size_repr : Addr} {o2_Size_repr o3_Size_repr : Option Addr} {o4_Size_repr : Array (Option Value)} {o5_Size_repr o6_Size_repr o7_Size_repr o8_Size_repr o9_Size_repr oa_Size_repr : Value}
    (a0 : PySem.W.nsIn K mainGlobals "is_integer" = some (some (.ref f0))) (l0 : K.lookup f0 = some ⟨oc0, od0, .func (PySem.W.fnOf "is_integer" "is_integer" (defArgs s_is_integer) (defBody s_is_integer) (defScope s_is_integer) .none kV0 dc0 pm0 an0 cd0 ct0), sl0⟩) (c0 : PySem.W.codeIn K cd0 "is_integer" = true) (k0 : PySem.W.keepIn K (.ref f0) = true)
    (a1 : PySem.W.nsIn K mainGlobals "is_positive" = some (some (.ref f1))) (l1 : K.lookup f1 = some ⟨oc1, od1, .func (PySem.W.fnOf "is_positive" "is_positive" (defArgs s_is_positive) (defBody s_is_positive) (defScope s_is_positive) .none kV1 dc1 pm1 an1 cd1 ct1), sl1⟩) (c1 : PySem.W.codeIn K cd1 "is_positive" = true) (k1 : PySem.W.keepIn K (.ref f1) = true)
    (a2 : PySem.W.nsIn K mainGlobals "common_divisor" = some (some (.ref f2))) (l2 : K.lookup f2 = some ⟨oc2, od2, .func (PySem.W.fnOf "common_divisor" "common_divisor" (defArgs s_common_divisor) (defBody s_common_divisor) (defScope s_common_divisor) .none kV2 dc2 pm2 an2 cd2 ct2), sl2⟩) (c2 : PySem.W.codeIn K cd2 "common_divisor" = true) (k2 : PySem.W.keepIn K (.ref f2) = true)
    (a3 : PySem.W.nsIn K mainGlobals "lowest_terms" = some (some (.ref f3))) (l3 : K.lookup f3 = some ⟨oc3, od3, .func (PySem.W.fnOf "lowest_terms" "lowest_terms" (defArgs s_lowest_terms) (defBody s_lowest_terms) (defScope s_lowest_terms) .none kV3 dc3 pm3 an3 cd3 ct3), sl3⟩) (c3 : PySem.W.codeIn K cd3 "lowest_terms" = true) (k3 : PySem.W.keepIn K (.ref f3) = true)
    (a4 : PySem.W.nsIn K mainGlobals "is_fraction" = some (some (.ref f4))) (l4 : K.lookup f4 = some ⟨oc4, od4, .func (PySem.W.fnOf "is_fraction" "is_fraction" (defArgs s_is_fraction) (defBody s_is_fraction) (defScope s_is_fraction) .none kV4 dc4 pm4 an4 cd4 ct4), sl4⟩) (c4 : PySem.W.codeIn K cd4 "is_fraction" = true) (k4 : PySem.W.keepIn K (.ref f4) = true)
    (a5 : PySem.W.nsIn K mainGlobals "check_fractions" = some (some (.ref f5))) (l5 : K.lookup f5 = some ⟨oc5, od5, .func (PySem.W.fnOf "check_fractions" "check_fractions" (defArgs s_check_fractions) (defBody s_check_fractions) (defScope s_check_fractions) .none kV5 dc5 pm5 an5 cd5 ct5), sl5⟩) (c5 : PySem.W.codeIn K cd5 "check_fractions" = true) (k5 : PySem.W.keepIn K (.ref f5) = true)
    (a6 : PySem.W.nsIn K mainGlobals "as_fraction" = some (some (.ref f6))) (l6 : K.lookup f6 = some ⟨oc6, od6, .func (PySem.W.fnOf "as_fraction" "as_fraction" (defArgs s_as_fraction) (defBody s_as_fraction) (defScope s_as_fraction) .none kV6 dc6 pm6 an6 cd6 ct6), sl6⟩) (c6 : PySem.W.codeIn K cd6 "as_fraction" = true) (k6 : PySem.W.keepIn K (.ref f6) = true)
    (a7 : PySem.W.nsIn K mainGlobals "product" = some (some (.ref f7))) (l7 : K.lookup f7 = some ⟨oc7, od7, .func (PySem.W.fnOf "product" "product" (defArgs s_product) (defBody s_product) (defScope s_product) .none kV7 dc7 pm7 an7 cd7 ct7), sl7⟩) (c7 : PySem.W.codeIn K cd7 "product" = true) (k7 : PySem.W.keepIn K (.ref f7) = true)
    (a8 : PySem.W.nsIn K mainGlobals "quotient" = some (some (.ref f8))) (l8 : K.lookup f8 = some ⟨oc8, od8, .func (PySem.W.fnOf "quotient" "quotient" (defArgs s_quotient) (defBody s_quotient) (defScope s_quotient) .none kV8 dc8 pm8 an8 cd8 ct8), sl8⟩) (c8 : PySem.W.codeIn K cd8 "quotient" = true) (k8 : PySem.W.keepIn K (.ref f8) = true)
    (a9 : PySem.W.nsIn K mainGlobals "order" = some (some (.ref f9))) (l9 : K.lookup f9 = some ⟨oc9, od9, .func (PySem.W.fnOf "order" "order" (defArgs s_order) (defBody s_order) (defScope s_order) .none kV9 dc9 pm9 an9 cd9 ct9), sl9⟩) (c9 : PySem.W.codeIn K cd9 "order" = true) (k9 : PySem.W.keepIn K (.ref f9) = true)
    (a10 : PySem.W.nsIn K mainGlobals "compare" = some (some (.ref f10))) (l10 : K.lookup f10 = some ⟨oc10, od10, .func (PySem.W.fnOf "compare" "compare" (defArgs s_compare) (defBody s_compare) (defScope s_compare) .none kV10 dc10 pm10 an10 cd10 ct10), sl10⟩) (c10 : PySem.W.codeIn K cd10 "compare" = true) (k10 : PySem.W.keepIn K (.ref f10) = true)
    (a11 : PySem.W.nsIn K mainGlobals "format_fraction" = some (some (.ref f11))) (l11 : K.lookup f11 = some ⟨oc11, od11, .func (PySem.W.fnOf "format_fraction" "format_fraction" (defArgs s_format_fraction) (defBody s_format_fraction) (defScope s_format_fraction) .none kV11 dc11 pm11 an11 cd11 ct11), sl11⟩) (c11 : PySem.W.codeIn K cd11 "format_fraction" = true) (k11 : PySem.W.keepIn K (.ref f11) = true)
    (a12 : PySem.W.nsIn K mainGlobals "is_numeral" = some (some (.ref f12))) (l12 : K.lookup f12 = some ⟨oc12, od12, .func (PySem.W.fnOf "is_numeral" "is_numeral" (defArgs s_is_numeral) (defBody s_is_numeral) (defScope s_is_numeral) .none kV12 dc12 pm12 an12 cd12 ct12), sl12⟩) (c12 : PySem.W.codeIn K cd12 "is_numeral" = true) (k12 : PySem.W.keepIn K (.ref f12) = true)
    (a13 : PySem.W.nsIn K mainGlobals "find_fraction" = some (some (.ref f13))) (l13 : K.lookup f13 = some ⟨oc13, od13, .func (PySem.W.fnOf "find_fraction" "find_fraction" (defArgs s_find_fraction) (defBody s_find_fraction) (defScope s_find_fraction) .none kV13 dc13 pm13 an13 cd13 ct13), sl13⟩) (c13 : PySem.W.codeIn K cd13 "find_fraction" = true) (k13 : PySem.W.keepIn K (.ref f13) = true)
    (a14 : PySem.W.nsIn K mainGlobals "_law_cell" = some (some (.ref f14))) (l14 : K.lookup f14 = some ⟨oc14, od14, .func (PySem.W.fnOf "_law_cell" "_law_cell" (defArgs s_l_cell) (defBody s_l_cell) (defScope s_l_cell) .none kV14 dc14 pm14 an14 cd14 ct14), sl14⟩) (c14 : PySem.W.codeIn K cd14 "_law_cell" = true) (k14 : PySem.W.keepIn K (.ref f14) = true)
    (a15 : PySem.W.nsIn K mainGlobals "_law_pool" = some (some (.ref f15))) (l15 : K.lookup f15 = some ⟨oc15, od15, .func (PySem.W.fnOf "_law_pool" "_law_pool" (defArgs s_l_pool) (defBody s_l_pool) (defScope s_l_pool) .none kV15 dc15 pm15 an15 cd15 ct15), sl15⟩) (c15 : PySem.W.codeIn K cd15 "_law_pool" = true) (k15 : PySem.W.keepIn K (.ref f15) = true)
    (a16 : PySem.W.nsIn K mainGlobals "_law_draw" = some (some (.ref f16))) (l16 : K.lookup f16 = some ⟨oc16, od16, .func (PySem.W.fnOf "_law_draw" "_law_draw" (defArgs s_l_draw) (defBody s_l_draw) (defScope s_l_draw) .none kV16 dc16 pm16 an16 cd16 ct16), sl16⟩) (c16 : PySem.W.codeIn K cd16 "_law_draw" = true) (k16 : PySem.W.keepIn K (.ref f16) = true)
    (a17 : PySem.W.nsIn K mainGlobals "_law_low" = some (some (.ref f17))) (l17 : K.lookup f17 = some ⟨oc17, od17, .func (PySem.W.fnOf "_law_low" "_law_low" (defArgs s_l_low) (defBody s_l_low) (defScope s_l_low) .none kV17 dc17 pm17 an17 cd17 ct17), sl17⟩) (c17 : PySem.W.codeIn K cd17 "_law_low" = true) (k17 : PySem.W.keepIn K (.ref f17) = true)
    (a18 : PySem.W.nsIn K mainGlobals "_law_mul" = some (some (.ref f18))) (l18 : K.lookup f18 = some ⟨oc18, od18, .func (PySem.W.fnOf "_law_mul" "_law_mul" (defArgs s_l_mul) (defBody s_l_mul) (defScope s_l_mul) .none kV18 dc18 pm18 an18 cd18 ct18), sl18⟩) (c18 : PySem.W.codeIn K cd18 "_law_mul" = true) (k18 : PySem.W.keepIn K (.ref f18) = true)
    (a19 : PySem.W.nsIn K mainGlobals "_law_div" = some (some (.ref f19))) (l19 : K.lookup f19 = some ⟨oc19, od19, .func (PySem.W.fnOf "_law_div" "_law_div" (defArgs s_l_div) (defBody s_l_div) (defScope s_l_div) .none kV19 dc19 pm19 an19 cd19 ct19), sl19⟩) (c19 : PySem.W.codeIn K cd19 "_law_div" = true) (k19 : PySem.W.keepIn K (.ref f19) = true)
    (a20 : PySem.W.nsIn K mainGlobals "_law_part" = some (some (.ref f20))) (l20 : K.lookup f20 = some ⟨oc20, od20, .func (PySem.W.fnOf "_law_part" "_law_part" (defArgs s_l_part) (defBody s_l_part) (defScope s_l_part) .none kV20 dc20 pm20 an20 cd20 ct20), sl20⟩) (c20 : PySem.W.codeIn K cd20 "_law_part" = true) (k20 : PySem.W.keepIn K (.ref f20) = true)
    (a21 : PySem.W.nsIn K mainGlobals "_law_sides" = some (some (.ref f21))) (l21 : K.lookup f21 = some ⟨oc21, od21, .func (PySem.W.fnOf "_law_sides" "_law_sides" (defArgs s_l_sides) (defBody s_l_sides) (defScope s_l_sides) .none kV21 dc21 pm21 an21 cd21 ct21), sl21⟩) (c21 : PySem.W.codeIn K cd21 "_law_sides" = true) (k21 : PySem.W.keepIn K (.ref f21) = true)
    (a22 : PySem.W.nsIn K mainGlobals "_law_shown" = some (some (.ref f22))) (l22 : K.lookup f22 = some ⟨oc22, od22, .func (PySem.W.fnOf "_law_shown" "_law_shown" (defArgs s_l_shown) (defBody s_l_shown) (defScope s_l_shown) .none kV22 dc22 pm22 an22 cd22 ct22), sl22⟩) (c22 : PySem.W.codeIn K cd22 "_law_shown" = true) (k22 : PySem.W.keepIn K (.ref f22) = true)
    (a23 : PySem.W.nsIn K mainGlobals "_law_given" = some (some (.ref f23))) (l23 : K.lookup f23 = some ⟨oc23, od23, .func (PySem.W.fnOf "_law_given" "_law_given" (defArgs s_l_given) (defBody s_l_given) (defScope s_l_given) .none kV23 dc23 pm23 an23 cd23 ct23), sl23⟩) (c23 : PySem.W.codeIn K cd23 "_law_given" = true) (k23 : PySem.W.keepIn K (.ref f23) = true)
    (a24 : PySem.W.nsIn K mainGlobals "_law_made" = some (some (.ref f24))) (l24 : K.lookup f24 = some ⟨oc24, od24, .func (PySem.W.fnOf "_law_made" "_law_made" (defArgs s_l_made) (defBody s_l_made) (defScope s_l_made) .none kV24 dc24 pm24 an24 cd24 ct24), sl24⟩) (c24 : PySem.W.codeIn K cd24 "_law_made" = true) (k24 : PySem.W.keepIn K (.ref f24) = true)
    (a25 : PySem.W.nsIn K mainGlobals "_law_told" = some (some (.ref f25))) (l25 : K.lookup f25 = some ⟨oc25, od25, .func (PySem.W.fnOf "_law_told" "_law_told" (defArgs s_l_told) (defBody s_l_told) (defScope s_l_told) .none kV25 dc25 pm25 an25 cd25 ct25), sl25⟩) (c25 : PySem.W.codeIn K cd25 "_law_told" = true) (k25 : PySem.W.keepIn K (.ref f25) = true)
    (a26 : PySem.W.nsIn K mainGlobals "_law_due" = some (some (.ref f26))) (l26 : K.lookup f26 = some ⟨oc26, od26, .func (PySem.W.fnOf "_law_due" "_law_due" (defArgs s_l_due) (defBody s_l_due) (defScope s_l_due) .none kV26 dc26 pm26 an26 cd26 ct26), sl26⟩) (c26 : PySem.W.codeIn K cd26 "_law_due" = true) (k26 : PySem.W.keepIn K (.ref f26) = true)
    (a27 : PySem.W.nsIn K mainGlobals "_law_right" = some (some (.ref f27))) (l27 : K.lookup f27 = some ⟨oc27, od27, .func (PySem.W.fnOf "_law_right" "_law_right" (defArgs s_l_right) (defBody s_l_right) (defScope s_l_right) .none kV27 dc27 pm27 an27 cd27 ct27), sl27⟩) (c27 : PySem.W.codeIn K cd27 "_law_right" = true) (k27 : PySem.W.keepIn K (.ref f27) = true)
    (a28 : PySem.W.nsIn K mainGlobals "law" = some (some (.ref f28))) (l28 : K.lookup f28 = some ⟨oc28, od28, .func (PySem.W.fnOf "law" "law" (defArgs s_law) (defBody s_law) (defScope s_law) .none kV28 dc28 pm28 an28 cd28 ct28), sl28⟩) (c28 : PySem.W.codeIn K cd28 "law" = true) (k28 : PySem.W.keepIn K (.ref f28) = true)
    (z_isinstance : PySem.W.nsIn K mainGlobals "isinstance" = some none)
    (z_int : PySem.W.nsIn K mainGlobals "int" = some none)
    (z_bool : PySem.W.nsIn K mainGlobals "bool" = some none)
    (z_len : PySem.W.nsIn K mainGlobals "len" = some none)
    (z_abs : PySem.W.nsIn K mainGlobals "abs" = some none)
    (z_divmod : PySem.W.nsIn K mainGlobals "divmod" = some none)
    (z_repr : PySem.W.nsIn K mainGlobals "repr" = some none)
    (z_range : PySem.W.nsIn K mainGlobals "range" = some none)
    (z_all : PySem.W.nsIn K mainGlobals "all" = some none)
    (z_max : PySem.W.nsIn K mainGlobals "max" = some none)
    (z_min : PySem.W.nsIn K mainGlobals "min" = some none)
    (z_tuple : PySem.W.nsIn K mainGlobals "tuple" = some none)
    (z_str : PySem.W.nsIn K mainGlobals "str" = some none)
    (ca_Size : PySem.W.nsIn K mainGlobals "Size" = some (some (.ref C_Size)))
    (cg_Size : PySem.W.plainGet K C_Size Str.empty = true)
    (ch_Size : PySem.W.hasDictIn K C_Size = true)
    (cp_Size : PySem.W.plainOver K C_Size = true)
    (cs_Size : PySem.W.findIn K (.ref C_Size) "__setattr__" = some (some (.builtin "object.__setattr__")))
    (cm_Size : PySem.W.makesIn K C_Size = true)
    (ck_Size : PySem.W.keepIn K (.ref C_Size) = true)
    (cn_Size_width : PySem.W.findIn K (.ref C_Size) "width" = some none)
    (cn_Size_height : PySem.W.findIn K (.ref C_Size) "height" = some none)
    (cr_Size : PySem.W.readsIn K C_Size (.type "type") = true)
    (ct_Size : PySem.W.specialIn K (.ref C_Size) "__getattribute__" = some (some (.builtin "type.__getattribute__")))
    (q_Size_init : PySem.W.findIn K (.ref C_Size) "__init__" = some (some (.ref fm_Size_init)))
    (i_Size_init : PySem.W.isFn K (.ref fm_Size_init) = true)
    (l_Size_init : K.lookup fm_Size_init = some ⟨o5_Size_init, o2_Size_init, .func (PySem.W.fnOf "__init__" "Size.__init__" (defArgs s_Size_init) (defBody s_Size_init) (defScope s_Size_init) .none o6_Size_init o7_Size_init o8_Size_init o3_Size_init o9_Size_init oa_Size_init), o4_Size_init⟩)
    (c_Size_init : PySem.W.codeIn K o9_Size_init "Size.__init__" = true)
    (k_Size_init : PySem.W.keepIn K (.ref fm_Size_init) = true)
    (q_Size_read : PySem.W.findCls K (.ref C_Size) (.type "type") "read" = some (.get (.builtin "classmethod.__get__") (.ref pm_Size_read) .none (.ref C_Size)))
    (q2_Size_read : PySem.W.recIn K pm_Size_read "classmethod" = some (.ref fm_Size_read :: rest_Size_read))
    (q3_Size_read : PySem.W.fnIn K fm_Size_read = true)
    (l_Size_read : K.lookup fm_Size_read = some ⟨o5_Size_read, o2_Size_read, .func (PySem.W.fnOf "read" "Size.read" (defArgs s_Size_read) (defBody s_Size_read) (defScope s_Size_read) .none o6_Size_read o7_Size_read o8_Size_read o3_Size_read o9_Size_read oa_Size_read), o4_Size_read⟩)
    (c_Size_read : PySem.W.codeIn K o9_Size_read "Size.read" = true)
    (k_Size_read : PySem.W.keepIn K (.ref fm_Size_read) = true)
    (q_Size_ratio : PySem.W.findIn K (.ref C_Size) "ratio" = some (some (.ref pm_Size_ratio)))
    (q2_Size_ratio : PySem.W.specialIn K (.ref pm_Size_ratio) "__get__" = some (some (.builtin "property.__get__")))
    (q3_Size_ratio : PySem.W.takesIn K (.ref pm_Size_ratio) = some true)
    (q4_Size_ratio : PySem.W.recIn K pm_Size_ratio "property" = some (.ref fm_Size_ratio :: rest_Size_ratio))
    (l_Size_ratio : K.lookup fm_Size_ratio = some ⟨o5_Size_ratio, o2_Size_ratio, .func (PySem.W.fnOf "ratio" "Size.ratio" (defArgs s_Size_ratio) (defBody s_Size_ratio) (defScope s_Size_ratio) .none o6_Size_ratio o7_Size_ratio o8_Size_ratio o3_Size_ratio o9_Size_ratio oa_Size_ratio), o4_Size_ratio⟩)
    (c_Size_ratio : PySem.W.codeIn K o9_Size_ratio "Size.ratio" = true)
    (k_Size_ratio : PySem.W.keepIn K (.ref fm_Size_ratio) = true)
    (q_Size_turned : PySem.W.findIn K (.ref C_Size) "turned" = some (some (.ref fm_Size_turned)))
    (i_Size_turned : PySem.W.isFn K (.ref fm_Size_turned) = true)
    (l_Size_turned : K.lookup fm_Size_turned = some ⟨o5_Size_turned, o2_Size_turned, .func (PySem.W.fnOf "turned" "Size.turned" (defArgs s_Size_turned) (defBody s_Size_turned) (defScope s_Size_turned) .none o6_Size_turned o7_Size_turned o8_Size_turned o3_Size_turned o9_Size_turned oa_Size_turned), o4_Size_turned⟩)
    (c_Size_turned : PySem.W.codeIn K o9_Size_turned "Size.turned" = true)
    (k_Size_turned : PySem.W.keepIn K (.ref fm_Size_turned) = true)
    (q_Size_str : PySem.W.findIn K (.ref C_Size) "__str__" = some (some (.ref fm_Size_str)))
    (i_Size_str : PySem.W.isFn K (.ref fm_Size_str) = true)
    (l_Size_str : K.lookup fm_Size_str = some ⟨o5_Size_str, o2_Size_str, .func (PySem.W.fnOf "__str__" "Size.__str__" (defArgs s_Size_str) (defBody s_Size_str) (defScope s_Size_str) .none o6_Size_str o7_Size_str o8_Size_str o3_Size_str o9_Size_str oa_Size_str), o4_Size_str⟩)
    (c_Size_str : PySem.W.codeIn K o9_Size_str "Size.__str__" = true)
    (k_Size_str : PySem.W.keepIn K (.ref fm_Size_str) = true)
    (q_Size_repr : PySem.W.findIn K (.ref C_Size) "__repr__" = some (some (.ref fm_Size_repr)))
    (i_Size_repr : PySem.W.isFn K (.ref fm_Size_repr) = true)
    (l_Size_repr : K.lookup fm_Size_repr = some ⟨o5_Size_repr, o2_Size_repr, .func (PySem.W.fnOf "__repr__" "Size.__repr__" (defArgs s_Size_repr) (defBody s_Size_repr) (defScope s_Size_repr) .none o6_Size_repr o7_Size_repr o8_Size_repr o3_Size_repr o9_Size_repr oa_Size_repr), o4_Size_repr⟩)
    (c_Size_repr : PySem.W.codeIn K o9_Size_repr "Size.__repr__" = true)
    (k_Size_repr : PySem.W.keepIn K (.ref fm_Size_repr) = true)
    : ∃ fd : FuncData, (∀ (s : Shared) (u : Value), BindsTo s fd ⟨[u], []⟩ [("_law_script", u)]) ∧ ∀ base : Heap, K.In base → base.Ns mainGlobals mg → FnG l.prog w K mg base CX0 13 fa fd ["_law_script"] (spLaw K) := by
  have e := hfa.symm.trans (PySem.W.mg_of X G a28)
  cases e
  have F0 := fun_mk (st := s_is_integer) l0 c0 k0
  have b0 := F0.binds (ps := ["value"]) fun _ _ _ _ _ _ us hl => match us, hl with | [_], _ => rfl
  have m0 := PySem.W.mg_of X G a0
  have F1 := fun_mk (st := s_is_positive) l1 c1 k1
  have b1 := F1.binds (ps := ["value"]) fun _ _ _ _ _ _ us hl => match us, hl with | [_], _ => rfl
  have m1 := PySem.W.mg_of X G a1
  have F2 := fun_mk (st := s_common_divisor) l2 c2 k2
  have b2 := F2.binds (ps := ["one", "other"]) fun _ _ _ _ _ _ us hl => match us, hl with | [_, _], _ => rfl
  have m2 := PySem.W.mg_of X G a2
  have F3 := fun_mk (st := s_lowest_terms) l3 c3 k3
  have b3 := F3.binds (ps := ["top", "bottom"]) fun _ _ _ _ _ _ us hl => match us, hl with | [_, _], _ => rfl
  have m3 := PySem.W.mg_of X G a3
  have F4 := fun_mk (st := s_is_fraction) l4 c4 k4
  have b4 := F4.binds (ps := ["value"]) fun _ _ _ _ _ _ us hl => match us, hl with | [_], _ => rfl
  have m4 := PySem.W.mg_of X G a4
  have F5 := fun_mk (st := s_check_fractions) l5 c5 k5
  have b5 := F5.binds (ps := ["values"]) fun _ _ _ _ _ _ us hl => match us, hl with | [_], _ => rfl
  have m5 := PySem.W.mg_of X G a5
  have F6 := fun_mk (st := s_as_fraction) l6 c6 k6
  have b6 := F6.binds (ps := ["side"]) fun _ _ _ _ _ _ us hl => match us, hl with | [_], _ => rfl
  have m6 := PySem.W.mg_of X G a6
  have F7 := fun_mk (st := s_product) l7 c7 k7
  have m7 := PySem.W.mg_of X G a7
  have F8 := fun_mk (st := s_quotient) l8 c8 k8
  have b8 := F8.binds (ps := ["one", "other"]) fun _ _ _ _ _ _ us hl => match us, hl with | [_, _], _ => rfl
  have m8 := PySem.W.mg_of X G a8
  have F9 := fun_mk (st := s_order) l9 c9 k9
  have b9 := F9.binds (ps := ["left", "right"]) fun _ _ _ _ _ _ us hl => match us, hl with | [_, _], _ => rfl
  have m9 := PySem.W.mg_of X G a9
  have F10 := fun_mk (st := s_compare) l10 c10 k10
  have b10 := F10.binds (ps := ["one", "other"]) fun _ _ _ _ _ _ us hl => match us, hl with | [_, _], _ => rfl
  have m10 := PySem.W.mg_of X G a10
  have F11 := fun_mk (st := s_format_fraction) l11 c11 k11
  have b11 := F11.binds (ps := ["number"]) fun _ _ _ _ _ _ us hl => match us, hl with | [_], _ => rfl
  have m11 := PySem.W.mg_of X G a11
  have F12 := fun_mk (st := s_is_numeral) l12 c12 k12
  have b12 := F12.binds (ps := ["text"]) fun _ _ _ _ _ _ us hl => match us, hl with | [_], _ => rfl
  have m12 := PySem.W.mg_of X G a12
  have F13 := fun_mk (st := s_find_fraction) l13 c13 k13
  have b13 := F13.binds (ps := ["text"]) fun _ _ _ _ _ _ us hl => match us, hl with | [_], _ => rfl
  have m13 := PySem.W.mg_of X G a13
  have F14 := fun_mk (st := s_l_cell) l14 c14 k14
  have b14 := F14.binds (ps := ["_law_script", "_law_k"]) fun _ _ _ _ _ _ us hl => match us, hl with | [_, _], _ => rfl
  have m14 := PySem.W.mg_of X G a14
  have F15 := fun_mk (st := s_l_pool) l15 c15 k15
  have b15 := F15.binds (ps := ["_law_figure"]) fun _ _ _ _ _ _ us hl => match us, hl with | [_], _ => rfl
  have m15 := PySem.W.mg_of X G a15
  have F16 := fun_mk (st := s_l_draw) l16 c16 k16
  have b16 := F16.binds (ps := ["_law_pool_here", "_law_most"]) fun _ _ _ _ _ _ us hl => match us, hl with | [_, _], _ => rfl
  have m16 := PySem.W.mg_of X G a16
  have F17 := fun_mk (st := s_l_low) l17 c17 k17
  have b17 := F17.binds (ps := ["_law_high_part", "_law_low_part"]) fun _ _ _ _ _ _ us hl => match us, hl with | [_, _], _ => rfl
  have m17 := PySem.W.mg_of X G a17
  have F18 := fun_mk (st := s_l_mul) l18 c18 k18
  have b18 := F18.binds (ps := ["_law_lead", "_law_more"]) fun _ _ _ _ _ _ us hl => match us, hl with | [_, _], _ => rfl
  have m18 := PySem.W.mg_of X G a18
  have F19 := fun_mk (st := s_l_div) l19 c19 k19
  have b19 := F19.binds (ps := ["_law_lead", "_law_more"]) fun _ _ _ _ _ _ us hl => match us, hl with | [_, _], _ => rfl
  have m19 := PySem.W.mg_of X G a19
  have F20 := fun_mk (st := s_l_part) l20 c20 k20
  have b20 := F20.binds (ps := ["_law_pool_here", "_law_great"]) fun _ _ _ _ _ _ us hl => match us, hl with | [_, _], _ => rfl
  have m20 := PySem.W.mg_of X G a20
  have F21 := fun_mk (st := s_l_sides) l21 c21 k21
  have b21 := F21.binds (ps := ["_law_pool_here", "_law_great"]) fun _ _ _ _ _ _ us hl => match us, hl with | [_, _], _ => rfl
  have m21 := PySem.W.mg_of X G a21
  have F22 := fun_mk (st := s_l_shown) l22 c22 k22
  have b22 := F22.binds (ps := ["_law_part_here"]) fun _ _ _ _ _ _ us hl => match us, hl with | [_], _ => rfl
  have m22 := PySem.W.mg_of X G a22
  have F23 := fun_mk (st := s_l_given) l23 c23 k23
  have b23 := F23.binds (ps := ["_law_pool_here", "_law_part_here"]) fun _ _ _ _ _ _ us hl => match us, hl with | [_, _], _ => rfl
  have m23 := PySem.W.mg_of X G a23
  have F24 := fun_mk (st := s_l_made) l24 c24 k24
  have b24 := F24.binds (ps := ["_law_pool_here", "_law_sides_here"]) fun _ _ _ _ _ _ us hl => match us, hl with | [_, _], _ => rfl
  have m24 := PySem.W.mg_of X G a24
  have F25 := fun_mk (st := s_l_told) l25 c25 k25
  have b25 := F25.binds (ps := ["_law_thing"]) fun _ _ _ _ _ _ us hl => match us, hl with | [_], _ => rfl
  have m25 := PySem.W.mg_of X G a25
  have F26 := fun_mk (st := s_l_due) l26 c26 k26
  have b26 := F26.binds (ps := ["_law_sides_here"]) fun _ _ _ _ _ _ us hl => match us, hl with | [_], _ => rfl
  have m26 := PySem.W.mg_of X G a26
  have F27 := fun_mk (st := s_l_right) l27 c27 k27
  have b27 := F27.binds (ps := ["_law_pool_here"]) fun _ _ _ _ _ _ us hl => match us, hl with | [_], _ => rfl
  have m27 := PySem.W.mg_of X G a27
  have F28 := fun_mk (st := s_law) l28 c28 k28
  have b28 := F28.binds (ps := ["_law_script"]) fun _ _ _ _ _ _ us hl => match us, hl with | [_], _ => rfl
  have m28 := PySem.W.mg_of X G a28
  have n_isinstance := PySem.W.mg_none_of X G z_isinstance
  have n_int := PySem.W.mg_none_of X G z_int
  have n_bool := PySem.W.mg_none_of X G z_bool
  have n_len := PySem.W.mg_none_of X G z_len
  have n_abs := PySem.W.mg_none_of X G z_abs
  have n_divmod := PySem.W.mg_none_of X G z_divmod
  have n_repr := PySem.W.mg_none_of X G z_repr
  have n_range := PySem.W.mg_none_of X G z_range
  have n_all := PySem.W.mg_none_of X G z_all
  have n_max := PySem.W.mg_none_of X G z_max
  have n_min := PySem.W.mg_none_of X G z_min
  have n_tuple := PySem.W.mg_none_of X G z_tuple
  have n_str := PySem.W.mg_none_of X G z_str
  have CR_Size : ClX.CRead K C_Size (.type "type") := ⟨cr_Size, ct_Size⟩
  have CC_Size : Cls K C_Size := ⟨cg_Size, ch_Size, cp_Size, cs_Size⟩
  have mC_Size := PySem.W.mg_of X G ca_Size
  have F_Size_init := fun_mk (st := s_Size_init) l_Size_init c_Size_init k_Size_init
  have b_Size_init := F_Size_init.binds (ps := ["self", "width", "height"]) fun _ _ _ _ _ _ us hl => match us, hl with | [_, _, _], _ => rfl
  have M_Size : Mk K C_Size fm_Size_init := ⟨cm_Size, q_Size_init, i_Size_init, ck_Size⟩
  have F_Size_read := fun_mk (st := s_Size_read) l_Size_read c_Size_read k_Size_read
  have b_Size_read := F_Size_read.binds (ps := ["cls", "text"]) fun _ _ _ _ _ _ us hl => match us, hl with | [_, _], _ => rfl
  have CM_Size_read : ClX.CMet K C_Size (.type "type") "read" pm_Size_read fm_Size_read := ⟨q_Size_read, ⟨_, q2_Size_read⟩, q3_Size_read⟩
  have F_Size_ratio := fun_mk (st := s_Size_ratio) l_Size_ratio c_Size_ratio k_Size_ratio
  have b_Size_ratio := F_Size_ratio.binds (ps := ["self"]) fun _ _ _ _ _ _ us hl => match us, hl with | [_], _ => rfl
  have PO_Size_ratio : PropOf K C_Size "ratio" pm_Size_ratio fm_Size_ratio := ⟨q_Size_ratio, q2_Size_ratio, q3_Size_ratio, _, q4_Size_ratio⟩
  have F_Size_turned := fun_mk (st := s_Size_turned) l_Size_turned c_Size_turned k_Size_turned
  have b_Size_turned := F_Size_turned.binds (ps := ["self"]) fun _ _ _ _ _ _ us hl => match us, hl with | [_], _ => rfl
  have ME_Size_turned : Meth K C_Size "turned" fm_Size_turned := ⟨q_Size_turned, i_Size_turned, k_Size_turned⟩
  have F_Size_str := fun_mk (st := s_Size_str) l_Size_str c_Size_str k_Size_str
  have b_Size_str := F_Size_str.binds (ps := ["self"]) fun _ _ _ _ _ _ us hl => match us, hl with | [_], _ => rfl
  have OD_Size_str : OwnDef K C_Size "__str__" fm_Size_str := ⟨q_Size_str, i_Size_str⟩
  have F_Size_repr := fun_mk (st := s_Size_repr) l_Size_repr c_Size_repr k_Size_repr
  have b_Size_repr := F_Size_repr.binds (ps := ["self"]) fun _ _ _ _ _ _ us hl => match us, hl with | [_], _ => rfl
  have OD_Size_repr : OwnDef K C_Size "__repr__" fm_Size_repr := ⟨q_Size_repr, i_Size_repr⟩
  refine ⟨PySem.W.fnOf "law" "law" (defArgs s_law) (defBody s_law) (defScope s_law) .none kV28 dc28 pm28 an28 cd28 ct28, fun s u => .of_eq rfl, fun base inB nsB => ?_⟩
  have T : SzTxt K mg C_Size := ⟨CC_Size, cn_Size_width, cn_Size_height, mC_Size⟩
  have g0 := ok_is_positive F1 (ok_is_integer (P := l.prog) (w := w) (mg := mg) (base := base) F0 n_isinstance n_int n_bool) b0 k0 m0
  have g1 := ok_common_divisor (P := l.prog) (w := w) (mg := mg) (base := base) F2
  have g2 := ok_lowest_terms F3 g1 b2 k2 m2
  have g3 := ok_is_fraction_good F4 n_isinstance n_tuple n_len g0 b1 k1 m1 g1 b2 k2 m2
  have g4 := ok_check_good F5 g3 b4 k4 m4
  have g5 := ok_quot_good F8 g4 b5 k5 m5 g2 b3 k3 m3
  have g6 := ok_as_good F6 g0 b1 k1 m1 g4 b5 k5 m5
  have g7 := ok_format_good F11 g4 b5 k5 m5
  have g8 := ok_is_numeral (P := l.prog) (w := w) (mg := mg) (base := base) F12
  have g9 := ok_find_good F13 n_isinstance n_str n_int g8 b12 k12 m12 g3 b4 k4 m4 g7 b11 k11 m11
  have z0 := ok_init F_Size_init T g6 b6 k6 m6
  have z1 := ok_turned F_Size_turned T M_Size z0 b_Size_init
  have z2 := ok_ratio F_Size_ratio T g5 b8 k8 m8
  have z3 := ok_str F_Size_str T g7 b11 k11 m11
  have z4 := ok_repr F_Size_repr n_str OD_Size_str z3 b_Size_str
  have z5 := ok_read F_Size_read M_Size n_isinstance n_str z0 b_Size_init g9 b13 k13 m13
  have l0 := ok_cell (P := l.prog) (w := w) (mg := mg) (base := base) F14 n_len
  have l1 := ok_pool (P := l.prog) (w := w) (mg := mg) (base := base) F15 n_abs
  have l2 := ok_draw (P := l.prog) (w := w) (mg := mg) (base := base) F16 n_divmod
  have l3 := ok_llow (P := l.prog) (w := w) (mg := mg) (base := base) F17
  have l4 := ok_part F20 l2 b16 k16 m16 l3 b17 k17 m17
  have l5 := ok_lmul F18 l3 b17 k17 m17
  have l6 := ok_ldiv F19 l3 b17 k17 m17
  have s0 := ok_sides F21 l4 b20 k20 m20 l3 b17 k17 m17 l2 b16 k16 m16 l5 b18 k18 m18
  have s1 := ok_shown (P := l.prog) (w := w) (mg := mg) (base := base) F22 n_str
  have s2 := ok_given F23 l2 b16 k16 m16
  have s3 := ok_made F24 T M_Size z0 b_Size_init (init_names F_Size_init) ME_Size_turned z1 b_Size_turned CR_Size CM_Size_read z5 b_Size_read s1 b22 k22 m22 s2 b23 k23 m23 l2 b16 k16 m16
  have s4 := ok_told8 F25 n_repr n_str T PO_Size_ratio z2 b_Size_ratio OD_Size_str z3 b_Size_str OD_Size_repr z4 b_Size_repr
  have s5 := ok_due8 F26 n_repr (.of s1) b22 k22 m22 (.of l6) b19 k19 m19
  have s6 := ok_right8 F27 n_range n_all s0 b21 k21 m21 s3 b24 k24 m24 s4 b25 k25 m25 s5 b26 k26 m26
  exact ok_law F28 T M_Size n_all n_range n_max n_min n_len s6 b27 k27 m27 l1 b15 k15 m15 l0 b14 k14 m14 z0 b_Size_init s4 b25 k25 m25 s5 b26 k26 m26
end Gd
open PySem PySem.W PyProof.Rows
set_option maxRecDepth 100000 in
set_option maxHeartbeats 0 in
theorem PySem.Challenge.cw_sizechains_k08_sizes_made_holds : PySem.Challenge.rw_sizechains_k08_sizes_made.Holds := by
  w_on; o_law; k_head; (case hw => w_witness2)
  k_fill
  refine Gd.walkG (l := PySem.Challenge.rw_sizechains_k08_sizes_made) (k := 13) (n := 63) (x := "_law_script") (sp := Gd.spLaw) rfl (by decide) rfl ⟨rfl, by decide, by decide⟩ (fun w h Y => PySem.W.kIn_of Y) ?F (fun K H a ns hl _ hS => ⟨a, ns, rfl, hS, hl, fun _ => rfl⟩)
  case F =>
    intro w mg fa h KX G hmg
    refine' Gd.all_mk KX G hmg ?a0 ?l0 ?c0 ?k0 ?a1 ?l1 ?c1 ?k1 ?a2 ?l2 ?c2 ?k2 ?a3 ?l3 ?c3 ?k3 ?a4 ?l4 ?c4 ?k4 ?a5 ?l5 ?c5 ?k5 ?a6 ?l6 ?c6 ?k6 ?a7 ?l7 ?c7 ?k7 ?a8 ?l8 ?c8 ?k8 ?a9 ?l9 ?c9 ?k9 ?a10 ?l10 ?c10 ?k10 ?a11 ?l11 ?c11 ?k11 ?a12 ?l12 ?c12 ?k12 ?a13 ?l13 ?c13 ?k13 ?a14 ?l14 ?c14 ?k14 ?a15 ?l15 ?c15 ?k15 ?a16 ?l16 ?c16 ?k16 ?a17 ?l17 ?c17 ?k17 ?a18 ?l18 ?c18 ?k18 ?a19 ?l19 ?c19 ?k19 ?a20 ?l20 ?c20 ?k20 ?a21 ?l21 ?c21 ?k21 ?a22 ?l22 ?c22 ?k22 ?a23 ?l23 ?c23 ?k23 ?a24 ?l24 ?c24 ?k24 ?a25 ?l25 ?c25 ?k25 ?a26 ?l26 ?c26 ?k26 ?a27 ?l27 ?c27 ?k27 ?a28 ?l28 ?c28 ?k28 ?z_isinstance ?z_int ?z_bool ?z_len ?z_abs ?z_divmod ?z_repr ?z_range ?z_all ?z_max ?z_min ?z_tuple ?z_str ?ca_Size ?cg_Size ?ch_Size ?cp_Size ?cs_Size ?cm_Size ?ck_Size ?cn_Size_width ?cn_Size_height ?cr_Size ?ct_Size ?q_Size_init ?i_Size_init ?l_Size_init ?c_Size_init ?k_Size_init ?q_Size_read ?q2_Size_read ?q3_Size_read ?l_Size_read ?c_Size_read ?k_Size_read ?q_Size_ratio ?q2_Size_ratio ?q3_Size_ratio ?q4_Size_ratio ?l_Size_ratio ?c_Size_ratio ?k_Size_ratio ?q_Size_turned ?i_Size_turned ?l_Size_turned ?c_Size_turned ?k_Size_turned ?q_Size_str ?i_Size_str ?l_Size_str ?c_Size_str ?k_Size_str ?q_Size_repr ?i_Size_repr ?l_Size_repr ?c_Size_repr ?k_Size_repr
    (case a0 => k_is)
    (case l0 => k_is)
    (case c0 => k_is)
    (case k0 => k_is)
    (case a1 => k_is)
    (case l1 => k_is)
    (case c1 => k_is)
    (case k1 => k_is)
    (case a2 => k_is)
    (case l2 => k_is)
    (case c2 => k_is)
    (case k2 => k_is)
    (case a3 => k_is)
    (case l3 => k_is)
    (case c3 => k_is)
    (case k3 => k_is)
    (case a4 => k_is)
    (case l4 => k_is)
    (case c4 => k_is)
    (case k4 => k_is)
    (case a5 => k_is)
    (case l5 => k_is)
    (case c5 => k_is)
    (case k5 => k_is)
    (case a6 => k_is)
    (case l6 => k_is)
    (case c6 => k_is)
    (case k6 => k_is)
    (case a7 => k_is)
    (case l7 => k_is)
    (case c7 => k_is)
    (case k7 => k_is)
    (case a8 => k_is)
    (case l8 => k_is)
    (case c8 => k_is)
    (case k8 => k_is)
    (case a9 => k_is)
    (case l9 => k_is)
    (case c9 => k_is)
    (case k9 => k_is)
    (case a10 => k_is)
    (case l10 => k_is)
    (case c10 => k_is)
    (case k10 => k_is)
    (case a11 => k_is)
    (case l11 => k_is)
    (case c11 => k_is)
    (case k11 => k_is)
    (case a12 => k_is)
    (case l12 => k_is)
    (case c12 => k_is)
    (case k12 => k_is)
    (case a13 => k_is)
    (case l13 => k_is)
    (case c13 => k_is)
    (case k13 => k_is)
    (case a14 => k_is)
    (case l14 => k_is)
    (case c14 => k_is)
    (case k14 => k_is)
    (case a15 => k_is)
    (case l15 => k_is)
    (case c15 => k_is)
    (case k15 => k_is)
    (case a16 => k_is)
    (case l16 => k_is)
    (case c16 => k_is)
    (case k16 => k_is)
    (case a17 => k_is)
    (case l17 => k_is)
    (case c17 => k_is)
    (case k17 => k_is)
    (case a18 => k_is)
    (case l18 => k_is)
    (case c18 => k_is)
    (case k18 => k_is)
    (case a19 => k_is)
    (case l19 => k_is)
    (case c19 => k_is)
    (case k19 => k_is)
    (case a20 => k_is)
    (case l20 => k_is)
    (case c20 => k_is)
    (case k20 => k_is)
    (case a21 => k_is)
    (case l21 => k_is)
    (case c21 => k_is)
    (case k21 => k_is)
    (case a22 => k_is)
    (case l22 => k_is)
    (case c22 => k_is)
    (case k22 => k_is)
    (case a23 => k_is)
    (case l23 => k_is)
    (case c23 => k_is)
    (case k23 => k_is)
    (case a24 => k_is)
    (case l24 => k_is)
    (case c24 => k_is)
    (case k24 => k_is)
    (case a25 => k_is)
    (case l25 => k_is)
    (case c25 => k_is)
    (case k25 => k_is)
    (case a26 => k_is)
    (case l26 => k_is)
    (case c26 => k_is)
    (case k26 => k_is)
    (case a27 => k_is)
    (case l27 => k_is)
    (case c27 => k_is)
    (case k27 => k_is)
    (case a28 => k_is)
    (case l28 => k_is)
    (case c28 => k_is)
    (case k28 => k_is)
    (case z_isinstance => k_is)
    (case z_int => k_is)
    (case z_bool => k_is)
    (case z_len => k_is)
    (case z_abs => k_is)
    (case z_divmod => k_is)
    (case z_repr => k_is)
    (case z_range => k_is)
    (case z_all => k_is)
    (case z_max => k_is)
    (case z_min => k_is)
    (case z_tuple => k_is)
    (case z_str => k_is)
    (case ca_Size => k_is)
    (case cg_Size => k_is)
    (case ch_Size => k_is)
    (case cp_Size => k_is)
    (case cs_Size => k_is)
    (case cm_Size => k_is)
    (case ck_Size => k_is)
    (case cn_Size_width => k_is)
    (case cn_Size_height => k_is)
    (case cr_Size => k_is)
    (case ct_Size => k_is)
    (case q_Size_init => k_is)
    (case i_Size_init => k_is)
    (case l_Size_init => k_is)
    (case c_Size_init => k_is)
    (case k_Size_init => k_is)
    (case q_Size_read => k_is)
    (case q2_Size_read => k_is)
    (case q3_Size_read => k_is)
    (case l_Size_read => k_is)
    (case c_Size_read => k_is)
    (case k_Size_read => k_is)
    (case q_Size_ratio => k_is)
    (case q2_Size_ratio => k_is)
    (case q3_Size_ratio => k_is)
    (case q4_Size_ratio => k_is)
    (case l_Size_ratio => k_is)
    (case c_Size_ratio => k_is)
    (case k_Size_ratio => k_is)
    (case q_Size_turned => k_is)
    (case i_Size_turned => k_is)
    (case l_Size_turned => k_is)
    (case c_Size_turned => k_is)
    (case k_Size_turned => k_is)
    (case q_Size_str => k_is)
    (case i_Size_str => k_is)
    (case l_Size_str => k_is)
    (case c_Size_str => k_is)
    (case k_Size_str => k_is)
    (case q_Size_repr => k_is)
    (case i_Size_repr => k_is)
    (case l_Size_repr => k_is)
    (case c_Size_repr => k_is)
    (case k_Size_repr => k_is)
