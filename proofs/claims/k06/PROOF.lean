import PyProof.Rows.All
import Wide.All
import OpenK.AllK
import Wide.FinOn
import HandS.ForMost
import HandS.Exc
import HandS.TryOnly
import HandS.ExcOwn
import HandS.WordsExc
import HandS.Flow
import HandS.Wide
import HandS.WideBits
import HandS.Defaults
import HandS.IsInst
import HandS.RaiseMore
import HandS.FStr
import HandS.Text
import HandS.StrMore
import HandS.Star
import KE.KExcIs
import KE.KTryMore
import HandS.ExcInit
import HandS.ExcCtx
import HandS.HotCalls
import HandS.ExcField
import HandS.CallSlots
import HandS.Lambda
import HandS.EndTab
import HandS.SetFor
import HandS.Codes
import HandS.Walk
import HandS.DeepEq
import PySem.Challenge.RW_sizechains_k06_exact_refused
set_option Elab.async false
set_option linter.all false
set_option exponentiation.threshold 10000
set_option maxRecDepth 100000
namespace Gd
open PySem PySem.Spec PyProof.Rows L2
def top (i : Nat) : Stmt := PySem.Challenge.pw_sizechains_k06_exact_refused.main.body.getD i (.Pass ⟨0, 0, 0, 0⟩)
abbrev s_InvalidFraction_init : Stmt := inClass (top 2) 0
abbrev s_InvalidSize_init : Stmt := inClass (top 3) 0
abbrev s_InvalidBox_init : Stmt := inClass (top 4) 0
abbrev s_InvalidKeep_init : Stmt := inClass (top 5) 0
abbrev s_InvalidTimes_init : Stmt := inClass (top 6) 0
abbrev s_InvalidStep_init : Stmt := inClass (top 7) 0
abbrev s_InvalidSteps_init : Stmt := inClass (top 8) 0
abbrev s_InvalidChain_init : Stmt := inClass (top 9) 0
abbrev s_InvalidText_init : Stmt := inClass (top 10) 0
abbrev s_InvalidKind_init : Stmt := inClass (top 11) 0
abbrev s_InvalidRecords_init : Stmt := inClass (top 12) 0
abbrev s_InvalidName_init : Stmt := inClass (top 13) 0
abbrev s_InvalidDeeds_init : Stmt := inClass (top 14) 0
abbrev s_InvalidLine_init : Stmt := inClass (top 15) 0
abbrev s_NoStep_init : Stmt := inClass (top 17) 0
abbrev s_UnknownName_init : Stmt := inClass (top 18) 0
abbrev s_NameTaken_init : Stmt := inClass (top 19) 0
abbrev s_TooManySteps_init : Stmt := inClass (top 22) 0
abbrev s_TooManyDeeds_init : Stmt := inClass (top 23) 0
abbrev s_is_integer : Stmt := top 25
abbrev s_is_positive : Stmt := top 26
abbrev s_common_divisor : Stmt := top 27
abbrev s_lowest_terms : Stmt := top 28
abbrev s_is_fraction : Stmt := top 29
abbrev s_check_fractions : Stmt := top 30
abbrev s_fraction : Stmt := top 31
abbrev s_product : Stmt := top 32
abbrev s_quotient : Stmt := top 33
abbrev s_order : Stmt := top 34
abbrev s_compare : Stmt := top 35
abbrev s_format_fraction : Stmt := top 36
abbrev s_is_numeral : Stmt := top 37
abbrev s_find_fraction : Stmt := top 38
abbrev s_parse_fraction : Stmt := top 39
abbrev s_l_cell : Stmt := top 41
abbrev s_l_pool : Stmt := top 42
abbrev s_l_draw : Stmt := top 43
abbrev s_l_low : Stmt := top 44
abbrev s_l_part : Stmt := top 45
abbrev s_l_whole : Stmt := top 46
abbrev s_l_is_part : Stmt := top 47
abbrev s_l_odd : Stmt := top 48
abbrev s_l_kind : Stmt := top 49
abbrev s_l_caught : Stmt := top 50
abbrev s_l_read : Stmt := top 51
abbrev s_l_asked : Stmt := top 52
abbrev s_l_due : Stmt := top 53
abbrev s_l_door_right : Stmt := top 54
abbrev s_l_thing : Stmt := top 55
abbrev s_l_by_hand : Stmt := top 56
abbrev s_l_right : Stmt := top 57
abbrev s_law : Stmt := top 58
/-! ### base0.lean -/
/-! repr of data at any depth, where no repr is running around -/
structure RRepr (K : PySem.W.Frag) (xs : List V) (H : Hp) (Q : VK) : Prop where
  ex : ∃ (v : V) (d : PyData), xs = [v] ∧ Dp K H v d ∧ isDisplay d = true ∧ d.showable = true ∧ d.hasDict = false ∧ d.depth ≤ 64 ∧ d.shown.length ≤ sizeLine ∧ Q (.str d.shown) H
theorem reprData {X : Cx} (gds : X.A.guards = some []) (room : X.A.units + 70 < cLine) : CallR X (.builtin "repr") (RRepr X.K) := by
  intro pins st sl H xs us Q inv vals want
  obtain ⟨v, d, e, dp, dis, sh, nod, dep, len, q⟩ := want.ex
  subst e
  obtain ⟨u, eu, rel⟩ := vals1 vals
  subst eu
  obtain ⟨as, rd⟩ := Dp.reads inv d v u dp rel
  obtain ⟨a, ea⟩ := isRef_of_reads rd dis
  subst ea
  refine repr_of_reads' rd sh (PyData.noDict_hsm nod) gds (by omega) (fun _ _ z => z) (fun h' u' tk kp => ?_) len
  exact ⟨.str d.shown, H, inv.kept kp, ⟨_, rfl⟩, q⟩

/-! a def's promise where it is known that no repr is running around -/
structure FnG (P : Program) (w : World) (K : PySem.W.Frag) (mg : Str → Option Value) (base : Heap) (CX : CXT) (k : Nat) (f : Addr) (fd : FuncData) (ps : List Str) (sp : Sp) : Prop where
  len : ∀ vs H Q E, sp vs H Q E → vs.length = ps.length
  go : ∀ (A : Around) (out : List Env) (st : Shared) (H : Hp) (as : Args) (us : List Value) (vs : List V) (Q : VK) (E : XK), A.guards = some [] → Room k A → Env0 P w K mg base A out st H →
    BindsTo st fd as (ps.zip us) → Vals vs us → sp vs H Q E → codeAny (model P w) A (.call (.ref f) as) (CR CX out P w H st Q E) st
section
variable {P : Program} {w : World} {K : PySem.W.Frag} {mg : Str → Option Value} {base : Heap} {CX : CXT} {k : Nat} {f : Addr} {fd : FuncData} {ps : List Str} {sp : Sp}
theorem FnG.of (F : FnOk P w K mg base CX k f fd ps sp) : FnG P w K mg base CX k f fd ps sp :=
  ⟨F.len, fun A out st H as us vs Q E _ r e b v h => F.run A out st H as us vs Q E r e b v h⟩
theorem FnG.up {j : Nat} (F : FnG P w K mg base CX j f fd ps sp) (h : j ≤ k) : FnG P w K mg base CX k f fd ps sp :=
  ⟨F.len, fun A out st H as us vs Q E g r e b v s => F.go A out st H as us vs Q E g (r.mono h) e b v s⟩
theorem FnG.imp {sp' : Sp} (F : FnG P w K mg base CX k f fd ps sp) (h : ∀ vs H Q E, sp' vs H Q E → sp vs H Q E) : FnG P w K mg base CX k f fd ps sp' :=
  ⟨fun vs H Q E q => F.len vs H Q E (h _ _ _ _ q), fun A out st H as us vs Q E g r e b v s => F.go A out st H as us vs Q E g r e b v (h _ _ _ _ s)⟩

/-- by the body -/
theorem okG0 {name qual : Str} {params : Arguments} {body : List Stmt} {scope : Scope} {dV kV doc pm cdv ct oc : Value} {an od : Option Addr} {osl : Array (Option Value)} {N : List Str}
    (lk : K.lookup f = some ⟨oc, od, .func (PySem.W.fnOf name qual params body scope dV kV doc pm an cdv ct), osl⟩) (code : PySem.W.codeIn K cdv qual = true) (S : FnScope N ps scope)
    (len : ∀ vs H Q E, sp vs H Q E → vs.length = ps.length)
    (walk : ∀ (A : Around) (out : List Env) (st : Shared) (H : Hp) (vs : List V) (Q : VK) (E : XK), A.guards = some [] → Room k (A.deeper (envOfC qual scope st.heap.objs.size f cdv)) → sp vs H Q E →
      ∃ t, PSs (cxOf CX P w K mg base N qual scope f cdv A out st H E) body t ∧ t { nx := fun _ H' => Q .non H', rt := Q } (start N vs) H) :
    FnG P w K mg base CX (k + 1) f (PySem.W.fnOf name qual params body scope dV kV doc pm an cdv ct) ps sp := by
  refine ⟨len, ?_⟩
  intro A out st H as us vs Q E gds room env binds vals want
  have size := len _ _ _ _ want
  have lim : st.heap.NoLimit := env.mod.nolimit.keeps fun b o e => (env.bs b o e).1
  have inK : K.In st.heap := env.mod.kin.keeps fun b o e => (env.bs b o e).1
  have kinds : ∀ y ∈ ps.zip us, scope.names.lookup y.1 = some .local ∨ (scope.names.lookup y.1 = some .cell ∧ ((cellsFrom (st.heap.objs.size + 1) scope.names []).lookup y.1).isSome = true) := by
    rintro ⟨n, v⟩ mem
    have mem1 : n ∈ ps := (List.of_mem_zip mem).1
    cases S.par n mem1 with
    | inl loc => exact Or.inl loc
    | inr cel => exact Or.inr ⟨cel, PySem.W.cellsFrom_some _ _ _ (Or.inl cel)⟩
  refine codeAny_call_function room.depth (inK _ _ lk) rfl S.co S.gen rfl (PySem.W.codeRec_of inK code) (binds _ _ _ _ ?_)
  refine wpAny_newFunctionEnv_cells S.kind kinds fun en hen s1 inn => ?_
  subst hen
  refine ⟨lim.keeps inn.toInCall.keep, codeAny_func ?_⟩
  obtain ⟨t, term, read⟩ := walk A out st H vs Q E gds (room.deeper _) want
  have inv := inv_start (CX := CX) (E := E) S room.hd env size vals inn
  refine wpAny_mono (term.run [] s1 (start N vs) H _ inv read) (fun fl s' hs => ?_) fun _ _ hs => hs
  have done : ∀ {sl' : L2.St} {H' : Hp} {v : V} {u : Value}, Inv (cxOf CX P w K mg base N qual scope f cdv A out st H E) [] sl' H' s' → RelV v u → Q v H' → CE out P w H st Q u s' := by
    intro sl' H' v u J rel q
    exact ⟨v, H', J.os, J.bare, J.base, J.hok, rel, q⟩
  cases fl with
  | next =>
    obtain ⟨_, _, J, q⟩ := hs
    exact done (v := V.non) (u := Value.none) J rfl q
  | ret u =>
    obtain ⟨_, _, _, J, rel, q⟩ := hs
    exact done J rel q
  | brk => exact (hs.choose_spec.choose_spec.2).elim
  | cont => exact (hs.choose_spec.choose_spec.2).elim

/-- a def of the text without defaults, that lets nothing out -/
theorem okG {x qual : Str} {st : Stmt} {N : List Str} (F : Fun K x qual st f fd) (S : FnScope N ps (defScope st)) (len : ∀ vs H Q E, sp vs H Q E → vs.length = ps.length)
    (walk : ∀ (cdv : Value) (A : Around) (out : List Env) (s : Shared) (H : Hp) (vs : List V) (Q : VK) (E : XK), A.guards = some [] → Room k (A.deeper (envOfC qual (defScope st) s.heap.objs.size f cdv)) → sp vs H Q E →
      ∃ t, PSs (cxOf CX0 P w K mg base N qual (defScope st) f cdv A out s H E).nox (defBody st) t ∧ t { nx := fun _ H' => Q .non H', rt := Q } (start N vs) H) :
    FnG P w K mg base CX0 (k + 1) f fd ps sp := by
  obtain ⟨_, _, _, _, _, _, cdv, _, _, e, lk, code⟩ := F.ex
  subst e
  refine okG0 lk code S len ?_
  intro A out s H vs Q E g r want
  obtain ⟨t, term, read⟩ := walk cdv A out s H vs Q E g r want
  exact ⟨t, term.nox, read⟩
/-- one with defaults, that lets nothing out -/
theorem okD {x qual : Str} {st : Stmt} {N : List Str} {dvs : List V} (F : FunD K x qual (defArgs st) (defBody st) (defScope st) dvs [] f fd) (S : FnScope N ps (defScope st)) (len : ∀ vs H Q E, sp vs H Q E → vs.length = ps.length)
    (walk : ∀ (cdv : Value) (A : Around) (out : List Env) (s : Shared) (H : Hp) (vs : List V) (Q : VK) (E : XK), A.guards = some [] → Room k (A.deeper (envOfC qual (defScope st) s.heap.objs.size f cdv)) → sp vs H Q E →
      ∃ t, PSs (cxOf CX0 P w K mg base N qual (defScope st) f cdv A out s H E).nox (defBody st) t ∧ t { nx := fun _ H' => Q .non H', rt := Q } (start N vs) H) :
    FnG P w K mg base CX0 (k + 1) f fd ps sp := by
  obtain ⟨_, _, _, _, _, _, _, cdv, _, _, e, lk, code, _, _⟩ := F.ex
  subst e
  refine okG0 lk code S len ?_
  intro A out s H vs Q E g r want
  obtain ⟨t, term, read⟩ := walk cdv A out s H vs Q E g r want
  exact ⟨t, term.nox, read⟩
end

/-! calls -/
section
variable {X : Cx} {CX : CXT} {k n : Nat} {f : Addr} {fd : FuncData} {ps ks : List Str} {sp : Sp} {dvs : List V} {ds : List Value} {E : XK} {x : Str} {p pos : Pos} {e : Expr} {es : List Expr} {kws : List Keyword} {t tk : TA} {g : List Value → List Value → List Value} {gV : List V → List V → List V}
theorem goG {pins : List (Addr × Obj)} {sl : L2.St} {H : Hp} {s : Shared} {Q : VK} {us0 us : List Value} {kw : List (Str × Value)} {vs : List V} (F : FnG X.prog X.w X.K X.mg X.base CX k f fd ps sp) (gds : X.A.guards = some []) (hr : Room k X.A) (hx : Passes CX X E)
    (inv : Inv X pins sl H s) (b : BindsTo s fd ⟨us0, kw⟩ (ps.zip us)) (r : Vals vs us) (want : sp vs H Q E) : wpAny (model X.prog X.w) X.A (call (.ref f) us0 kw) (EP X pins sl Q) X.xe s := by
  refine wpAny_call (codeAny_mono (F.go X.A X.stack s H ⟨us0, kw⟩ us vs Q E gds hr inv.env0 b r want) fun r s' got => ?_)
  cases r with
  | error e => exact hx pins sl H s e s' inv got
  | ok fl =>
    cases fl with
    | ret u => exact inv.after got
    | next => exact got.elim
    | brk => exact got.elim
    | cont => exact got.elim
theorem callG (F : FnG X.prog X.w X.K X.mg X.base CX k f fd ps sp) (gds : X.A.guards = some []) (hr : Room k X.A) (hg : Gl X x) (hm : X.mg x = some (.ref f)) (hk : PySem.W.keepIn X.K (.ref f) = true) (hb : Binds X.K fd ps ds) (hd : Vals dvs ds) (hx : Passes CX X E)
    (ha : PA X (e :: es) t) (hdb : (x == ("__debug__" : Str)) = false := by decide) (he : starEach (e :: es) X.env = (false, eval e X.env) :: starEach es X.env := by rfl) (hpl : (backTo pos (starEach es X.env)).any (·.1) = false := by rfl) :
    PE X (.Call (.Name x p) (e :: es) [] pos) (tCall sp dvs E t) := by
  constructor
  intro pins s sl H Q inv want
  refine wpAny_Call_Name_kw (ld_glob inv hg hm ?_ hdb)
  refine PySem.W.callWith_K (h₀ := X.base) inv.ok.mod.kin hk (thn (ha.run pos pins s sl H _ inv want) ?_) he hpl
  rintro us s1 ⟨vs, H1, inv1, rel, q⟩
  refine ⟨inv1.kIn, ?_⟩
  have rel2 : Vals (vs ++ dvs) (us ++ ds) := rel.append hd
  have sz : (us ++ ds).length = ps.length := rel2.length.symm.trans (F.len _ _ _ _ q)
  exact goG F gds hr hx inv1 (hb s1 us inv1.kIn sz) rel2 q
theorem callG0 (F : FnG X.prog X.w X.K X.mg X.base CX k f fd ps sp) (gds : X.A.guards = some []) (hr : Room k X.A) (hg : Gl X x) (hm : X.mg x = some (.ref f)) (hk : PySem.W.keepIn X.K (.ref f) = true) (hb : Binds X.K fd ps ds) (hd : Vals dvs ds) (hx : Passes CX X E)
    (hdb : (x == ("__debug__" : Str)) = false := by decide) : PE X (.Call (.Name x p) [] [] pos) (tCall sp dvs E tNil) := by
  constructor
  intro pins s sl H Q inv want
  refine wpAny_Call_Name_kw (ld_glob inv hg hm ?_ hdb)
  refine PySem.W.callWith_K0 inv.kIn hk ?_
  have q : sp dvs H Q E := want
  have sz : (([] : List Value) ++ ds).length = ps.length := hd.length.symm.trans (F.len _ _ _ _ q)
  exact goG F gds hr hx inv (hb s [] inv.kIn sz) hd q
/-- f(e, .., k = v, ..) -/
theorem callGN (F : FnG X.prog X.w X.K X.mg X.base CX k f fd ps sp) (gds : X.A.guards = some []) (hr : Room k X.A) (hg : Gl X x) (hm : X.mg x = some (.ref f)) (hk : PySem.W.keepIn X.K (.ref f) = true) (hb : KBn X.K fd ps n ks g gV) (hx : Passes CX X E)
    (ha : PA X (e :: es) t) (hkw : PK X kws tk) (hall : (backToKw pos (keywordEach kws X.env)).all (·.1.isSome) = true := by rfl) (hks : (backToKw pos (keywordEach kws X.env)).filterMap (·.1) = ks := by rfl)
    (hdb : (x == ("__debug__" : Str)) = false := by decide) (he : starEach (e :: es) X.env = (false, eval e X.env) :: starEach es X.env := by rfl)
    (hpl : ((backTo pos (starEach (e :: es) X.env)).any (·.1) || (backToKw pos (keywordEach kws X.env)).any (·.1.isNone)) = false := by rfl) :
    PE X (.Call (.Name x p) (e :: es) kws pos) (tCallN n ks.length sp gV E t tk) := by
  constructor
  intro pins s sl H Q inv want
  refine wpAny_Call_Name_kw (ld_glob inv hg hm ?_ hdb)
  refine PySem.W.callWith_KW (h₀ := X.base) inv.ok.mod.kin hk hall (thn (ha.run pos pins s sl H _ inv want) ?_) hpl he
  rintro us s1 ⟨vs, H1, inv1, rel, q⟩
  refine thn (hkw.run pos pins s1 sl H1 _ inv1 q) ?_
  rintro ws s2 ⟨zs, H2, inv2, relz, l1, l2, q2⟩
  refine ⟨inv2.kIn, ?_⟩
  rw [hks]
  exact goG F gds hr hx inv2 (hb.to s2 us ws inv2.kIn (rel.length.symm.trans l1) (relz.length.symm.trans l2)) (hb.rel rel relz) q2
/-- f(k = v, ..) -/
theorem callGK (F : FnG X.prog X.w X.K X.mg X.base CX k f fd ps sp) (gds : X.A.guards = some []) (hr : Room k X.A) (hg : Gl X x) (hm : X.mg x = some (.ref f)) (hk : PySem.W.keepIn X.K (.ref f) = true) (hb : KBn X.K fd ps 0 ks g gV) (hx : Passes CX X E)
    (hkw : PK X kws tk) (hall : (backToKw pos (keywordEach kws X.env)).all (·.1.isSome) = true := by rfl) (hks : (backToKw pos (keywordEach kws X.env)).filterMap (·.1) = ks := by rfl)
    (hdb : (x == ("__debug__" : Str)) = false := by decide)
    (hpl : ((backTo pos (starEach [] X.env)).any (·.1) || (backToKw pos (keywordEach kws X.env)).any (·.1.isNone)) = false := by rfl) :
    PE X (.Call (.Name x p) [] kws pos) (tCallN 0 ks.length sp gV E tNil tk) := by
  constructor
  intro pins s sl H Q inv want
  refine wpAny_Call_Name_kw (ld_glob inv hg hm ?_ hdb)
  refine PySem.W.callWith_KW0 (h₀ := X.base) inv.ok.mod.kin hk hall ?_ hpl
  refine thn (hkw.run pos pins s sl H _ inv want) ?_
  rintro ws s2 ⟨zs, H2, inv2, relz, l1, l2, q2⟩
  refine ⟨inv2.kIn, ?_⟩
  rw [hks]
  exact goG F gds hr hx inv2 (hb.to s2 [] ws inv2.kIn rfl (relz.length.symm.trans l2)) (hb.rel .nil relz) q2
end
/-! ### base1.lean -/
/-! the end: the law's promise at the heap behind the top -/
section
variable {P : Program} {w : World} {K : PySem.W.Frag} {mg mb : Str → Option Value} {k : Nat} {fa a : Addr} {fd : FuncData} {x : Str} {sp : Sp} {st : Shared} {vs : List Value} {ns : List Int}
/-- from one abstract heap in which the script alone may be tracked -/
theorem endCore (inK : K.In st.heap) (hns : st.heap.Ns mainGlobals mg) (hb : st.heap.Ns builtinsNs mb) (hbb : ∀ x : Str, x ≠ "__name__" → mb x = bootBuiltins x) (lim : st.heap.NoLimit) (gens : st.gens = #[])
    (ha : st.heap.get? a = some { cls := .type "list", data := .seq vs.toArray }) (hr : Room k callerA)
    (F : ∀ base : Heap, K.In base → base.Ns mainGlobals mg → FnG P w K mg base CX0 k fa fd [x] sp) (bind : ∀ (s : Shared) (u : Value), BindsTo s fd ⟨[u], []⟩ [(x, u)])
    {H : Hp} (only : Only H) (ok : HOk P w H st.heap) (one : ∀ b, H b ≠ none → b = a) (notK : H a ≠ none → K.lookup a = none) (want : sp [.ref a] H (fun v _ => v = .bl true) fun _ _ _ => False) :
    codeAny (model P w) callerA (.call (.ref fa) ⟨[.ref a], []⟩) (fun r s' => r = .ok (.ret (.bool true)) ∧ OldK st.heap s'.heap ∧ s'.os = st.os ∧ AllBare s'.gens) st := by
  have untracked : ∀ {b : Addr} {o : Obj}, st.heap.get? b = some o → (b = a → o.data ≠ .seq vs.toArray) → H b = none := by
    intro b o e n
    refine Option.eq_none_iff_forall_ne_some.mpr fun u z => ?_
    have eb := one b (by rw [z]; exact fun t => nomatch t)
    subst eb
    rw [ha] at e
    cases e
    exact n rfl rfl
  have toBase : ∀ {b : Addr} {m : Str → Option Value}, st.heap.Ns b m → (hidT st.heap H).Ns b m := by
    rintro b m ⟨o, es, ep, e, d, r⟩
    refine ⟨o, es, ep, hidT_get e (untracked e fun _ z => ?_), d, r⟩
    rw [d] at z
    cases z
  have inBase : K.In (hidT st.heap H) := by
    intro b o e
    refine hidT_get (inK b o e) (Option.eq_none_iff_forall_ne_some.mpr fun u z => ?_)
    have nn : H b ≠ none := by rw [z]; exact fun t => nomatch t
    have eb := one b nn
    subst eb
    rw [notK nn] at e
    cases e
  obtain ⟨mc, l1, l2⟩ := lim
  have md : Mod K mg (hidT st.heap H) := ⟨inBase, toBase hns, ⟨mb, toBase hb, hbb⟩, ⟨mc, toBase l1, l2⟩⟩
  have e0 : Env0 P w K mg (hidT st.heap H) callerA [] st H := by
    refine ⟨rfl, md, fun b o e => of_hidT e, Nat.le_of_eq (hidT_size _ _), trivial, fun b hb => ?_, ok, .of_eq gens⟩
    cases hb
  refine codeAny_mono ((F _ inBase md.glob).go callerA [] st H ⟨[.ref a], []⟩ [.ref a] [.ref a] _ _ rfl hr e0 (bind st (.ref a)) (.cons rfl .nil) want) fun r s' got => ?_
  cases r with
  | error e => exact got.elim
  | ok fl =>
    cases fl with
    | next => exact got.elim
    | brk => exact got.elim
    | cont => exact got.elim
    | ret u =>
      obtain ⟨v, H', os, bare, un, ok', rel, q⟩ := got
      have q2 : v = .bl true := q
      subst q2
      have q3 : u = Value.bool true := rel
      subst q3
      refine ⟨rfl, OldK.of_keep ?_, os, bare⟩
      intro b o e
      rcases only b with z | ⟨ob, xs, z⟩
      · refine un.keep b o e z (fun m => ?_) (by simp)
        cases m
      · have z2 := un.frzs b ob _ z
        obtain ⟨e1, _⟩ := ok b _ z
        obtain ⟨e2, _⟩ := ok' b _ z2
        rw [e1] at e
        cases e
        exact e2

theorem endCall (inK : K.In st.heap) (hns : st.heap.Ns mainGlobals mg) (hb : st.heap.Ns builtinsNs mb) (hbb : ∀ x : Str, x ≠ "__name__" → mb x = bootBuiltins x) (lim : st.heap.NoLimit) (gens : st.gens = #[])
    (ha : st.heap.get? a = some { cls := .type "list", data := .seq vs.toArray }) (hi : IntsAre vs ns) (hl : ns.length ≤ sizeLine) (hr : Room k callerA)
    (F : ∀ base : Heap, K.In base → base.Ns mainGlobals mg → FnG P w K mg base CX0 k fa fd [x] sp) (bind : ∀ (s : Shared) (u : Value), BindsTo s fd ⟨[u], []⟩ [(x, u)])
    (want : ∀ H : Hp, Only H → SqL K H a (ns.map V.int) → sp [.ref a] H (fun v _ => v = .bl true) fun _ _ _ => False) :
    codeAny (model P w) callerA (.call (.ref fa) ⟨[.ref a], []⟩) (fun r s' => r = .ok (.ret (.bool true)) ∧ OldK st.heap s'.heap ∧ s'.os = st.os ∧ AllBare s'.gens) st := by
  have rv := vals_ints hi
  cases hk : K.lookup a with
  | some o =>
    have e := inK a o hk
    rw [ha] at e
    cases e
    have seq : SqL K (fun _ => none) a (ns.map V.int) := .inr ⟨_, vs.toArray, _, hk, rfl, rfl, rfl, by rw [List.size_toArray, hi.length]; exact hl, by simpa using rv⟩
    refine endCore inK hns hb hbb lim gens ha hr F bind (fun _ => .inl rfl) ?_ (fun b z => absurd rfl z) (fun z => absurd rfl z) (want _ (fun _ => .inl rfl) seq)
    intro b u z
    cases (show (none : Option HO) = some u from z)
  | none =>
    have at_a : (fun b => if b = a then some (HO.frz { cls := .type "list", data := .seq vs.toArray } (.lst (ns.map V.int))) else none) a = some (HO.frz { cls := .type "list", data := .seq vs.toArray } (.lst (ns.map V.int))) := if_pos rfl
    have only : Only (fun b => if b = a then some (HO.frz { cls := .type "list", data := .seq vs.toArray } (.lst (ns.map V.int))) else none) := by
      intro b
      by_cases e : b = a
      · exact .inr ⟨_, _, if_pos e⟩
      · exact .inl (if_neg e)
    refine endCore inK hns hb hbb lim gens ha hr F bind only ?_ (fun b z => ?_) (fun _ => hk) (want _ only (.inl (.inr ⟨_, at_a⟩)))
    · intro b u z
      by_cases e : b = a
      · subst e
        cases (at_a.symm.trans z)
        exact ⟨ha, by rw [List.length_map]; exact hl, vs, _, rv, ha⟩
      · cases ((if_neg e).symm.trans z)
    · by_cases e : b = a
      · exact e
      · exact absurd (if_neg e) z
end

theorem walkG {l : PySem.W.OpenLaw} {n k : Nat} {q : Program} {loose : List Str} {XP : (Str → Option Value) → Heap → Prop} {YP : World → Heap → Prop} {d : DefRec} {K : Params → PySem.W.Frag} {sp : PySem.W.Frag → Sp} {x : Str}
    (hn : l.most = some n) (hn2 : n ≤ sizeLine) (hdf : d.params.defaults = []) (hr : Room k callerA) (hY : ∀ (w : World) (h : Heap), YP w h → (K w.params).In h)
    (F : ∀ (w : World) (mg : Str → Option Value) (fa : Addr) (h : Heap), (K w.params).In h → h.Ns mainGlobals mg → mg d.name = some (.ref fa) →
      ∃ fd : FuncData, (∀ (s : Shared) (u : Value), BindsTo s fd ⟨[u], []⟩ [(x, u)]) ∧ ∀ base : Heap, (K w.params).In base → base.Ns mainGlobals mg → FnG l.prog w (K w.params) mg base CX0 k fa fd [x] (sp (K w.params)))
    (want : ∀ (K : PySem.W.Frag) (H : Hp) (a : Addr) (ns : List Int), ns.length ≤ n → Only H → SqL K H a (ns.map V.int) → sp K [.ref a] H (fun v _ => v = .bl true) fun _ _ _ => False) :
    PySem.W.WalkO q loose XP YP l.row.toRowW d [] (fun f vs => PySem.call f vs) := by
  refine Att.attach_call hn hdf ?_
  intro w s₀ s₁ mg mb fa o pm cd doc a vs ns G Y ho hd hcd hmg hobj hints hlen hg
  obtain ⟨fd, hb, hF⟩ := F w mg fa _ (hY w _ Y) G.T.g hmg
  exact endCall (hY w _ Y) G.T.g G.T.b G.T.builtins G.T.nolimit hg hobj hints (Nat.le_trans hlen hn2) hr hF hb fun H only seq => want (K w.params) H a ns hlen only seq

/-! arguments where some parameters have defaults -/
theorem bindD {K : PySem.W.Frag} {x qual : Str} {params : Arguments} {body : List Stmt} {scope : Scope} {dvs : List V} {f : Addr} {fd : FuncData} {ps : List Str}
    (F : FunD K x qual params body scope dvs [] f fd) (n : Nat) (ks : List Str) (g : {α : Type} → List α → List α → List α → List α) (some_ : dvs ≠ [])
    (rel : ∀ {vs ds zs : List V} {us its ws : List Value}, Vals vs us → Vals ds its → Vals zs ws → Vals (g vs ds zs) (g us its ws))
    (h : ∀ (T : Addr) (kV doc pm : Value) (an : Option Addr) (cdv ct : Value) (us its ws : List Value), us.length = n → its.length = dvs.length → ws.length = ks.length →
      ∃ k, bindArgs (PySem.W.fnOf x qual params body scope (.ref T) kV doc pm an cdv ct) ⟨us, ks.zip ws⟩ = seqItems? (.ref T) >>= k ∧ k (some its.toArray) = pure (ps.zip (g us its ws))) :
    ∃ its : List Value, KBn K fd ps n ks (fun us ws => g us its ws) (fun vs zs => g vs dvs zs) := by
  obtain ⟨oc, od, dV, kV, doc, pm, an, cdv, ct, osl, e, lk, hcd, hD, hK⟩ := F.ex
  subst e
  rcases hD with ⟨e, _⟩ | ⟨_, T, o, its, m, e, lT, oT, rT⟩
  · exact absurd e some_
  · subst e
    refine ⟨its, ⟨fun s us ws inK l1 l2 => ?_, fun r1 r2 => rel r1 rT r2⟩⟩
    obtain ⟨k, e1, e2⟩ := h T kV doc pm an cdv ct us its ws l1 rT.length.symm l2
    refine BindsTo.of_looks fun M => ?_
    rw [e1]
    exact looks_items inK lT oT (.of_pure e2)
/-- the same without any default -/
theorem bindN {K : PySem.W.Frag} {x qual : Str} {st : Stmt} {f : Addr} {fd : FuncData} {ps : List Str} (F : Fun K x qual st f fd) (n : Nat) (ks : List Str) (g : {α : Type} → List α → List α → List α)
    (rel : ∀ {vs zs : List V} {us ws : List Value}, Vals vs us → Vals zs ws → Vals (g vs zs) (g us ws))
    (h : ∀ (kV doc pm : Value) (an : Option Addr) (cdv ct : Value) (us ws : List Value), us.length = n → ws.length = ks.length →
      bindArgs (PySem.W.fnOf x qual (defArgs st) (defBody st) (defScope st) .none kV doc pm an cdv ct) ⟨us, ks.zip ws⟩ = pure (ps.zip (g us ws))) :
    KBn K fd ps n ks (fun us ws => g us ws) (fun vs zs => g vs zs) := by
  obtain ⟨oc, od, kV, doc, pm, an, cdv, ct, osl, e, lk, hcd⟩ := F.ex
  subst e
  exact ⟨fun s us ws _ l1 l2 => .of_eq (h kV doc pm an cdv ct us ws l1 l2), fun r1 r2 => rel r1 r2⟩
/-! ### sm.lean -/
/-! what repr shows is short enough: a bound of its depth and of its length -/
structure Sm (k n : Nat) (d : PyData) : Prop where
  sh : d.showable = true
  nd : d.hasDict = false
  dp : d.depth ≤ k
  ln : d.shown.length ≤ n
structure SmL (k n : Nat) (ds : List PyData) : Prop where
  sh : PyData.showableAll ds = true
  nd : PyData.hasDictAll ds = false
  dp : PyData.depthAll ds ≤ k
  ln : ((PyData.shownAll ds).map (·.length)).sum + 2 * ds.length ≤ n
theorem Sm.up {j k n m : Nat} {d : PyData} (h : Sm j n d) (le2 : j ≤ k) (le : n ≤ m) : Sm k m d := ⟨h.sh, h.nd, Nat.le_trans h.dp le2, Nat.le_trans h.ln le⟩
theorem SmL.nil {k : Nat} : SmL k 0 [] := ⟨by simp only [PyData.showableAll], by simp only [PyData.hasDictAll], by simp only [PyData.depthAll]; omega, by rw [PyData.shownAll_nil]; exact Nat.le_refl _⟩
theorem SmL.cons {k n m : Nat} {d : PyData} {ds : List PyData} (h : Sm k n d) (t : SmL k m ds) : SmL k (n + m + 2) (d :: ds) := by
  refine ⟨by simp only [PyData.showableAll, h.sh, t.sh, Bool.and_self], by simp only [PyData.hasDictAll, h.nd, t.nd, Bool.or_self], ?_, ?_⟩
  · have h1 := h.dp
    have h2 := t.dp
    simp only [PyData.depthAll]
    omega
  · have h1 := h.ln
    have h2 := t.ln
    rw [PyData.shownAll_cons]
    simp only [List.map_cons, List.sum_cons, List.length_cons]
    omega
theorem Sm.lst {k n : Nat} {ds : List PyData} (h : SmL k n ds) : Sm (k + 1) (n + 3) (.list ds) := by
  refine ⟨by simp only [PyData.showable, h.sh], by simp only [PyData.hasDict, h.nd], ?_, ?_⟩
  · have := h.dp
    simp only [PyData.depth]
    omega
  · have h1 := h.ln
    have h2 := listText_len_le (PyData.shownAll ds)
    rw [PyData.shownAll_length] at h2
    simp only [PyData.shown]
    omega
theorem Sm.tup {k n : Nat} {ds : List PyData} (h : SmL k n ds) : Sm (k + 1) (n + 3) (.tuple ds) := by
  refine ⟨by simp only [PyData.showable, h.sh], by simp only [PyData.hasDict, h.nd], ?_, ?_⟩
  · have := h.dp
    simp only [PyData.depth]
    omega
  · have h1 := h.ln
    have h2 := tupleText_len_le (PyData.shownAll ds)
    rw [PyData.shownAll_length] at h2
    simp only [PyData.shown]
    omega
theorem two_ten : (2 : Nat) ^ 1900 < 10 ^ 600 := by decide +kernel
theorem intlen {i : Int} (h : i.natAbs < 2 ^ 1900) : (Str.ofString (toString i)).length ≤ 601 := by
  rw [PySem.ofString_length]
  exact PySem.int_text_length_le10 (k := 600) (by decide) (Nat.lt_trans h two_ten)
theorem Sm.int {i : Int} (h : i.natAbs < 2 ^ 1900) : Sm 1 601 (.int i) := by
  have l : i.natAbs.log2 < 1900 := PySem.Flt.log2_lt_of (by decide) h
  refine ⟨?_, by simp only [PyData.hasDict], by simp only [PyData.depth]; omega, ?_⟩
  · have := PyData.showableAll_ints [i] (fun n m => by rw [List.mem_singleton.mp m]; omega)
    simpa only [List.map_cons, List.map_nil, PyData.showableAll, Bool.and_true] using this
  · rw [PyData.shown_int]
    exact intlen h
theorem Sm.bool (b : Bool) : Sm 1 5 (.bool b) := by
  refine ⟨by simp only [PyData.showable], by simp only [PyData.hasDict], by simp only [PyData.depth]; omega, ?_⟩
  rw [PyData.shown_bool]
  cases b <;> decide
/-- equal pairs of ints -/
theorem Sm.pair {a b : Int} (ha : a.natAbs < 2 ^ 1900) (hb : b.natAbs < 2 ^ 1900) : Sm 2 1300 (.tuple [.int a, .int b]) := (Sm.tup ((SmL.cons (Sm.int ha) (SmL.cons (Sm.int hb) SmL.nil)))).up (by decide) (by decide)
/-- what the rule of repr asks, at once -/
theorem repQ {K : PySem.W.Frag} {H : Hp} {Q : VK} {v : V} {d : PyData} {k n : Nat} (dp : Dp K H v d) (dis : isDisplay d = true) (sm : Sm k n d) (hk : k ≤ 64) (hn : n ≤ 16777216) (q : Q (.str d.shown) H) :
    RRepr K [v] H Q :=
  ⟨v, d, rfl, dp, dis, sm.sh, sm.nd, Nat.le_trans sm.dp hk, Nat.le_trans sm.ln (by rw [sizeLine_eq]; exact hn), q⟩
/-! ### exact_low.lean -/
/-! heaps -/
theorem same_upd {H : Hp} {p : Addr} {o : HO} (h : H p = none) : Same H (upd H p o) := fun b u q => by rw [upd_ne (ne_of_none q h)]; exact q

/-! is a value a positive int -/
def isPos : V → Bool
  | .int i => decide (0 < i)
  | _ => false
/-- the value is of a type that is no int -/
def NoInt (K : PySem.W.Frag) (H : Hp) (v : V) : Prop := ∃ t, TyX K H v t ∧ PySem.W.kitOne K t (.type "int") = some false
inductive Any (K : PySem.W.Frag) (H : Hp) : V → Prop where
  | int (i : Int) : Any K H (.int i)
  | bl (b : Bool) : Any K H (.bl b)
  | no {v : V} (h : NoInt K H v) : Any K H v
theorem NoInt.isPos {K : PySem.W.Frag} {H : Hp} {v : V} (h : NoInt K H v) : isPos v = false := by
  obtain ⟨t, ty, e⟩ := h
  cases v with
  | int i =>
    cases ty with
    | base b =>
      cases b with
      | int =>
        have z : PySem.W.kitOne K (.type "int") (.type "int") = some true := kit_ty (by decide +kernel)
        rw [z] at e
        cases e
  | _ => rfl
def isInt : V → Bool
  | .int _ => true
  | _ => false
theorem NoInt.isInt {K : PySem.W.Frag} {H : Hp} {v : V} (h : NoInt K H v) : isInt v = false := by
  obtain ⟨t, ty, e⟩ := h
  cases v with
  | int i =>
    cases ty with
    | base b =>
      cases b with
      | int =>
        have z : PySem.W.kitOne K (.type "int") (.type "int") = some true := kit_ty (by decide +kernel)
        rw [z] at e
        cases e
  | _ => rfl
def spIsInt (K : PySem.W.Frag) : Sp := fun vs H Q _ => ∃ v, vs = [v] ∧ Any K H v ∧ Q (.bl (isInt v)) H
def spIsPos (K : PySem.W.Frag) : Sp := fun vs H Q _ => ∃ v, vs = [v] ∧ Any K H v ∧ Q (.bl (isPos v)) H
section
variable {P : Program} {w : World} {K : PySem.W.Frag} {mg : Str → Option Value} {base : Heap} {f : Addr} {fd : FuncData}
theorem scIsInt : FnScope ["value"] ["value"] (defScope s_is_integer) := ⟨rfl, rfl, rfl, by decide +kernel, rfl, by decide +kernel, by decide +kernel⟩
theorem ok_is_integer (F : Fun K "is_integer" "is_integer" s_is_integer f fd) (m1 : mg "isinstance" = none) (m2 : mg "int" = none) (m3 : mg "bool" = none) :
    FnOk P w K mg base CX0 1 f fd ["value"] (spIsInt K) := by
  refine F.ok scIsInt (fun vs H Q E h => ?_) (fun cdv A outer s H vs Q E hr h => ?_)
  · obtain ⟨v, rfl, _⟩ := h
    rfl
  obtain ⟨v, rfl, a, q⟩ := h
  refine ⟨_, pss_one (ps_ret (pe_and (pe_callB call_isi (by rfl) m1 PyProof.Rows.boot_isinstance (pa_cons (pv 0) (pa_cons (pe_bltn (v := .ty "int") (by rfl) m2 PyProof.Rows.boot_int rfl) pa_nil)))
    (pe_one (pe_not (pe_callB call_isi (by rfl) m1 PyProof.Rows.boot_isinstance (pa_cons (pv 0) (pa_cons (pe_bltn (v := .ty "bool") (by rfl) m3 PyProof.Rows.boot_bool rfl) pa_nil))))))), ?_⟩
  cases a with
  | int i =>
    refine ⟨_, rfl, _, _, _, _, true, rfl, .ty "int", .base (.int i), kit_ty (by decide +kernel), _, rfl, iteT ?_⟩
    exact ⟨_, rfl, _, _, _, _, false, rfl, .ty "bool", .base (.int i), kit_ty (by decide +kernel), _, rfl, q⟩
  | bl b =>
    refine ⟨_, rfl, _, _, _, _, true, rfl, .ty "int", .base (.bl b), kit_ty (by decide +kernel), _, rfl, iteT ?_⟩
    exact ⟨_, rfl, _, _, _, _, true, rfl, .ty "bool", .base (.bl b), kit_ty (by decide +kernel), _, rfl, q⟩
  | no h =>
    rw [h.isInt] at q
    obtain ⟨t, ty, e⟩ := h
    exact ⟨_, rfl, _, _, _, _, false, rfl, .ty "int", ty, e, _, rfl, iteF q⟩
theorem scIsPos : FnScope ["value"] ["value"] (defScope s_is_positive) := ⟨rfl, rfl, rfl, by decide +kernel, rfl, by decide +kernel, by decide +kernel⟩
theorem ok_is_positive {g0 : Addr} {gd0 : FuncData} (F : Fun K "is_positive" "is_positive" s_is_positive f fd)
    (G0 : FnOk P w K mg base CX0 1 g0 gd0 ["value"] (spIsInt K)) (b0 : Binds K gd0 ["value"] []) (k0 : PySem.W.keepIn K (.ref g0) = true) (m0 : mg "is_integer" = some (.ref g0)) :
    FnOk P w K mg base CX0 2 f fd ["value"] (spIsPos K) := by
  refine F.ok scIsPos (fun vs H Q E h => ?_) (fun cdv A outer s H vs Q E hr h => ?_)
  · obtain ⟨v, rfl, _⟩ := h
    rfl
  obtain ⟨v, rfl, a, q⟩ := h
  refine ⟨_, pss_one (ps_ret (pe_and (pe_call G0 hr rfl m0 k0 b0 .nil pass0 (pa_cons (pv 0) pa_nil)) (pe_one (pe_cmpR op_gt (pv 0) pe_int (nomark _))))), ?_⟩
  refine ⟨_, rfl, v, rfl, a, ?_⟩
  cases a with
  | int i => exact ⟨_, rfl, iteT ⟨_, rfl, _, _, rfl, rfl, q⟩⟩
  | bl b => exact ⟨_, rfl, iteF q⟩
  | no h =>
    rw [h.isInt]
    rw [h.isPos] at q
    exact ⟨_, rfl, iteF q⟩

/-! the greatest common divisor -/
def gcdI (a b : Int) : Int := (Int.gcd a b : Int)
theorem gcdI_step {a b : Int} (hb : 0 < b) : gcdI b (a.fmod b) = gcdI a b := by
  unfold gcdI
  rw [Int.fmod_eq_emod_of_nonneg a (by omega), Int.gcd_comm a b, Int.emod_def, Int.mul_comm b, Int.gcd_sub_mul_right_right]
theorem gcdI_zero {a : Int} (ha : 0 < a) : gcdI a 0 = a := by
  unfold gcdI
  rw [Int.gcd_zero_right]
  omega
theorem gcdI_pos {a b : Int} (ha : 0 < a) : 0 < gcdI a b := by
  unfold gcdI
  have := Int.gcd_pos_of_ne_zero_left b (show a ≠ 0 by omega)
  omega
theorem gcdI_le {a b : Int} (ha : 0 < a) : gcdI a b ≤ a := by
  unfold gcdI
  exact Int.le_of_dvd ha (Int.gcd_dvd_left ..)
theorem fmod_lt {a b : Int} (hb : 0 < b) : 0 ≤ a.fmod b ∧ a.fmod b < b := by
  rw [Int.fmod_eq_emod_of_nonneg a (by omega)]
  exact ⟨Int.emod_nonneg _ (by omega), Int.emod_lt_of_pos _ hb⟩
def spGcd : Sp := fun vs H Q _ => ∃ a b : Int, vs = [.int a, .int b] ∧ 0 < a ∧ 0 ≤ b ∧ Q (.int (gcdI a b)) H
theorem scGcd : FnScope ["one", "other"] ["one", "other"] (defScope s_common_divisor) := ⟨rfl, rfl, rfl, by decide +kernel, rfl, by decide +kernel, by decide +kernel⟩
theorem ok_common_divisor (F : Fun K "common_divisor" "common_divisor" s_common_divisor f fd) : FnOk P w K mg base CX0 2 f fd ["one", "other"] spGcd := by
  refine F.ok scGcd (fun vs H Q E h => ?_) (fun cdv A outer s H vs Q E hr h => ?_)
  · obtain ⟨a, b, rfl, _⟩ := h
    rfl
  obtain ⟨a, b, rfl, ha, hb, q⟩ := h
  refine ⟨_, pss_cons (ps_while PassesOwn.never (pt_cmpR op_gt (pv 1) pe_int (nomark _))
      (pss_one (ps_par (i := 0) (j := 1) (by rfl) scGcd.nd rfl rfl (by decide) rfl rfl (pa_cons (pv 1) (pa_cons (pe_op op_modN (pv 0) (pv 1)) pa_nil)) (by rfl))))
    (pss_one (ps_ret (pv 0))), ?_⟩
  refine while_by (fun σ H' => H' = H ∧ ∃ x y : Int, σ = [some (.int x), some (.int y)] ∧ 0 < x ∧ 0 ≤ y ∧ gcdI x y = gcdI a b) (fun σ _ => match σ with | [_, some (.int y)] => y.toNat | _ => 0)
    ⟨rfl, a, b, rfl, ha, hb, rfl⟩ ?_ (fun σ H Q Q' m ⟨v, h1, i, j, e1, e2, k, e3, q⟩ => ⟨v, h1, i, j, e1, e2, k, e3, m _ _ q⟩)
  rintro σ H' ⟨rfl, x, y, rfl, hx, hy, g⟩
  refine ⟨_, rfl, _, _, rfl, rfl, _, rfl, ?_⟩
  refine ite2 (fun c => ?_) (fun c => ?_)
  · have c' : 0 < y := of_decide_eq_true c
    have fm := fmod_lt (a := x) c'
    refine ⟨_, rfl, _, rfl, _, rfl, _, _, rfl, rfl, by omega, _, _, rfl, ?_⟩
    refine ⟨⟨rfl, y, _, rfl, c', fm.1, (gcdI_step c').trans g⟩, ?_⟩
    show (x.fmod y).toNat < y.toNat
    omega
  · have c' : ¬ 0 < y := of_decide_eq_false (Bool.eq_false_iff.mpr c)
    have e : y = 0 := by omega
    subst e
    rw [gcdI_zero hx] at g
    subst g
    exact ⟨_, rfl, q⟩

/-! lowest terms -/
def lowT (a b : Int) : HO := .tup [.int (a / gcdI a b), .int (b / gcdI a b)]
def Bd : Nat := 8000
def big (a : Int) : Prop := 0 < a ∧ a.natAbs < 2 ^ Bd
theorem gcd_div {a b : Int} (ha : big a) (x : Int) : CDivW x (gcdI a b) := wide_div (gcdI_pos ha.1) (b := Bd) (by
  have h1 := gcdI_le (b := b) ha.1
  have h2 := gcdI_pos (b := b) ha.1
  exact wide_le (by omega) h1 ha.2) (by decide) (by decide)
def spLow : Sp := fun vs H Q _ => ∃ a b : Int, vs = [.int a, .int b] ∧ big a ∧ 0 < b ∧ ∀ p, H p = none → Q (.ref p) (upd H p (lowT a b))
theorem scLow : FnScope ["top", "bottom", "divisor"] ["top", "bottom"] (defScope s_lowest_terms) := ⟨rfl, rfl, rfl, by decide +kernel, rfl, by decide +kernel, by decide +kernel⟩
theorem ok_lowest_terms {g : Addr} {gd : FuncData} (F : Fun K "lowest_terms" "lowest_terms" s_lowest_terms f fd) (G : FnOk P w K mg base CX0 2 g gd ["one", "other"] spGcd) (bG : Binds K gd ["one", "other"] []) (kG : PySem.W.keepIn K (.ref g) = true) (mG : mg "common_divisor" = some (.ref g)) :
    FnOk P w K mg base CX0 3 f fd ["top", "bottom"] spLow := by
  refine F.ok scLow (fun vs H Q E h => ?_) (fun cdv A outer s H vs Q E hr h => ?_)
  · obtain ⟨a, b, rfl, _⟩ := h
    rfl
  obtain ⟨a, b, rfl, ha, hb, q⟩ := h
  refine ⟨_, pss_cons (ps_set (i := 2) scLow.nd rfl (.inl rfl) (pe_call G hr rfl mG kG bG .nil pass0 (pa_cons (pv 0) (pa_cons (pv 1) pa_nil))))
    (pss_one (ps_ret (pe_tup (pa_cons (pe_op op_fdivW (pv 0) (pv 2)) (pa_cons (pe_op op_fdivW (pv 1) (pv 2)) pa_nil))))), ?_⟩
  refine ⟨_, rfl, _, rfl, a, b, rfl, ha.1, by omega, ?_⟩
  exact ⟨_, rfl, _, rfl, _, _, rfl, rfl, gcd_div ha a, _, rfl, _, rfl, _, _, rfl, rfl, gcd_div ha b, by show 2 ≤ sizeLine; decide, q⟩

end
/-! ### mid.lean -/
theorem roomR {k : Nat} {A : Around} (r : Room k A) : A.units + 70 < cLine := by have := r.un; omega
/-! numbers that repr can show -/
def mid (a : Int) : Prop := 0 < a ∧ a.natAbs < 2 ^ 1900
theorem mid.big {a : Int} (h : mid a) : big a := ⟨h.1, Nat.lt_of_lt_of_le h.2 (Nat.pow_le_pow_right (by decide) (by decide))⟩
theorem mid_div {a b : Int} (ha : mid a) (hb : 0 < b) : (a / gcdI a b).natAbs < 2 ^ 1900 := by
  have g := gcdI_pos (b := b) ha.1
  have h1 : 0 ≤ a / gcdI a b := Int.ediv_nonneg (by have := ha.1; omega) (by omega)
  have h2 : a / gcdI a b ≤ a := Int.ediv_le_self _ (by have := ha.1; omega)
  exact wide_le h1 h2 ha.2
theorem gcdI_comm (a b : Int) : gcdI a b = gcdI b a := by unfold gcdI; rw [Int.gcd_comm]
theorem mid_div2 {a b : Int} (ha : mid a) (hb : mid b) : (b / gcdI a b).natAbs < 2 ^ 1900 := by rw [gcdI_comm]; exact mid_div hb ha.1
def lowD (a b : Int) : PyData := .tuple [.int (a / gcdI a b), .int (b / gcdI a b)]
theorem lowD_sm {a b : Int} (ha : mid a) (hb : mid b) : Sm 2 1300 (lowD a b) := Sm.pair (mid_div ha hb.1) (mid_div2 ha hb)
theorem lowT_dp {K : PySem.W.Frag} {H : Hp} {p : Addr} {a b : Int} (h : H p = some (lowT a b)) : Dp K H (.ref p) (lowD a b) := .tup (.inl (.inl h)) (.cons (.int _) (.cons (.int _) .nil))
theorem gcdI_one {a : Int} : gcdI a 1 = 1 := by
  unfold gcdI
  rw [Int.gcd_one_right]
  rfl
theorem lowT_one (a : Int) : lowT a 1 = .tup [.int a, .int 1] := by
  unfold lowT
  rw [gcdI_one, Int.ediv_one]
  rfl
theorem lowT_eq {a b x y : Int} (h1 : a / gcdI a b = x) (h2 : b / gcdI a b = y) : lowT a b = .tup [.int x, .int y] := by
  unfold lowT
  rw [h1, h2]
theorem tupD {K : PySem.W.Frag} {H : Hp} {p : Addr} {a b : Int} (h : H p = some (.tup [.int a, .int b])) : Dp K H (.ref p) (.tuple [.int a, .int b]) := .tup (.inl (.inl h)) (.cons (.int _) (.cons (.int _) .nil))
/-! ### frac.lean -/
/-! a fraction: lowest terms, both below 2 ^ n -/
structure Fr (n : Nat) (a b : Int) : Prop where
  a0 : 0 < a
  b0 : 0 < b
  g : gcdI a b = 1
  al : a.natAbs < 2 ^ n
  bl : b.natAbs < 2 ^ n
theorem Fr.up {n m : Nat} {a b : Int} (h : Fr n a b) (le : n ≤ m) : Fr m a b := ⟨h.a0, h.b0, h.g, Nat.lt_of_lt_of_le h.al (Nat.pow_le_pow_right (by decide) le), Nat.lt_of_lt_of_le h.bl (Nat.pow_le_pow_right (by decide) le)⟩
theorem Fr.big {n : Nat} {a b : Int} (h : Fr n a b) (hn : n ≤ 8000) : big a := ⟨h.a0, Nat.lt_of_lt_of_le h.al (Nat.pow_le_pow_right (by decide) hn)⟩
theorem gcdI_low {a b : Int} (ha : 0 < a) : gcdI (a / gcdI a b) (b / gcdI a b) = 1 := by
  have h := gcdI_pos (b := b) ha
  unfold gcdI at h ⊢
  rw [Int.gcd_ediv_gcd_ediv_gcd (by omega)]
  rfl
theorem low_pos {a b : Int} (ha : 0 < a) (hb : 0 < b) : 0 < a / gcdI a b ∧ 0 < b / gcdI a b := by
  have h := gcdI_pos (b := b) ha
  refine ⟨Int.ediv_pos_of_pos_of_dvd ha (by omega) (Int.gcd_dvd_left ..), Int.ediv_pos_of_pos_of_dvd hb (by omega) (Int.gcd_dvd_right ..)⟩
theorem low_le {a b : Int} (ha : 0 < a) (hb : 0 < b) : a / gcdI a b ≤ a ∧ b / gcdI a b ≤ b := ⟨Int.ediv_le_self _ (by omega), Int.ediv_le_self _ (by omega)⟩
theorem fr_low {n : Nat} {a b : Int} (ha : 0 < a) (hb : 0 < b) (la : a.natAbs < 2 ^ n) (lb : b.natAbs < 2 ^ n) : Fr n (a / gcdI a b) (b / gcdI a b) := by
  have p := low_pos ha hb
  have l := low_le ha hb
  exact ⟨p.1, p.2, gcdI_low ha, wide_le (by omega) l.1 la, wide_le (by omega) l.2 lb⟩
theorem low_fr {n : Nat} {a b : Int} (h : Fr n a b) : lowT a b = .tup [.int a, .int b] := by
  unfold lowT
  rw [h.g, Int.ediv_one, Int.ediv_one]
theorem fr_lt {a : Int} {n : Nat} (h : 0 < a) (l : a < 2 ^ n) : a.natAbs < 2 ^ n := by
  have e : ((2 ^ n : Nat) : Int) = (2 : Int) ^ n := by norm_cast
  omega
/-- a fraction stands at p -/
def FrAt (n : Nat) (H : Hp) (p : Addr) (a b : Int) : Prop := H p = some (.tup [.int a, .int b]) ∧ Fr n a b
theorem FrAt.same {n : Nat} {H H' : Hp} {p : Addr} {a b : Int} (h : FrAt n H p a b) (s : Same H H') : FrAt n H' p a b := ⟨s _ _ h.1, h.2⟩
theorem FrAt.seq {n : Nat} {K : PySem.W.Frag} {H : Hp} {p : Addr} {a b : Int} (h : FrAt n H p a b) : SqT K H p [.int a, .int b] := .inl (.inl h.1)
/-- .. as a value -/
def FrV (n : Nat) (H : Hp) (v : V) : Prop := ∃ p a b, v = .ref p ∧ FrAt n H p a b
theorem FrV.same {n : Nat} {H H' : Hp} {v : V} (h : FrV n H v) (s : Same H H') : FrV n H' v := by
  obtain ⟨p, a, b, e, h⟩ := h
  exact ⟨p, a, b, e, h.same s⟩
theorem mul_pos {a b : Int} (ha : 0 < a) (hb : 0 < b) : 0 < a * b := Int.mul_pos ha hb
/-- a weaker reading of an expression -/
theorem pe_weak {X : Cx} {e : Expr} {t t' : TE} (he : PE X e t) (imp : ∀ sl H Q, t' sl H Q → t sl H Q) : PE X e t' := ⟨fun pins s sl H Q inv h => he.run pins s sl H Q inv (imp sl H Q h)⟩
/-! ### exact_isfrac2.lean -/
section
variable {P : Program} {w : World} {K : PySem.W.Frag} {mg : Str → Option Value} {base : Heap} {f : Addr} {fd : FuncData}
/-! is any value a fraction -/
def fracB : V → V → Bool
  | .int a, .int b => decide (0 < a) && decide (0 < b) && decide (gcdI a b = 1)
  | _, _ => false
/-- numbers that are not too long -/
def Fits : V → Prop
  | .int a => a.natAbs < 2 ^ 200
  | _ => True
inductive IsB (K : PySem.W.Frag) (H : Hp) : V → Bool → Prop where
  | other {v : V} {t : Value} (ty : TyX K H v t) (no : PySem.W.kitOne K t (.type "tuple") = some false) : IsB K H v false
  | long {p : Addr} {xs : List V} (h : H p = some (.tup xs)) (n : xs.length ≠ 2) : IsB K H (.ref p) false
  | pair {p : Addr} {x y : V} (h : H p = some (.tup [x, y])) (hx : Any K H x) (hy : Any K H y) (fx : Fits x) (fy : Fits y) : IsB K H (.ref p) (fracB x y)
theorem isPos_int {v : V} (h : isPos v = true) : ∃ a : Int, v = .int a ∧ 0 < a := by
  cases v with
  | int a => exact ⟨a, rfl, of_decide_eq_true h⟩
  | _ => cases h
theorem scIsFrac : FnScope ["value", "top", "bottom"] ["value"] (defScope s_is_fraction) := ⟨rfl, rfl, rfl, by decide +kernel, rfl, by decide +kernel, by decide +kernel⟩
def spIsFrac (K : PySem.W.Frag) : Sp := fun vs H Q _ => ∃ v b, vs = [v] ∧ IsB K H v b ∧ Q (.bl b) H
theorem fracB_no1 {x y : V} (h : isPos x = false) : fracB x y = false := by
  cases x with
  | int a =>
    have h' : decide (0 < a) = false := h
    cases y with
    | int b => show (decide (0 < a) && decide (0 < b) && decide (gcdI a b = 1)) = false; rw [h']; rfl
    | _ => rfl
  | _ => rfl
theorem fracB_no2 {x y : V} (h : isPos y = false) : fracB x y = false := by
  cases x with
  | int a =>
    cases y with
    | int b =>
      have h' : decide (0 < b) = false := h
      show (decide (0 < a) && decide (0 < b) && decide (gcdI a b = 1)) = false
      rw [h', Bool.and_false]
      rfl
    | _ => rfl
  | _ => rfl
theorem fracB_yes {a b : Int} (ha : 0 < a) (hb : 0 < b) : fracB (.int a) (.int b) = decide (gcdI a b = 1) := by
  show (decide (0 < a) && decide (0 < b) && decide (gcdI a b = 1)) = _
  rw [decide_eq_true ha, decide_eq_true hb]
  rfl
theorem ok_is_fraction {g1 g2 : Addr} {gd1 gd2 : FuncData} (F : Fun K "is_fraction" "is_fraction" s_is_fraction f fd) (mi : mg "isinstance" = none) (mt : mg "tuple" = none) (ml : mg "len" = none)
    (G1 : FnOk P w K mg base CX0 2 g1 gd1 ["value"] (spIsPos K)) (b1 : Binds K gd1 ["value"] []) (k1 : PySem.W.keepIn K (.ref g1) = true) (m1 : mg "is_positive" = some (.ref g1))
    (G2 : FnOk P w K mg base CX0 2 g2 gd2 ["one", "other"] spGcd) (b2 : Binds K gd2 ["one", "other"] []) (k2 : PySem.W.keepIn K (.ref g2) = true) (m2 : mg "common_divisor" = some (.ref g2)) :
    FnOk P w K mg base CX0 3 f fd ["value"] (spIsFrac K) := by
  refine F.ok scIsFrac (fun vs H Q E h => ?_) (fun cdv A outer s H vs Q E hr h => ?_)
  · obtain ⟨v, b, rfl, _⟩ := h
    rfl
  obtain ⟨v, b, rfl, is, q⟩ := h
  refine ⟨_, pss_cons (ps_if (PW.pt (pw_or (pt_not (pt_val (pe_callB call_isi (by rfl) mi PyProof.Rows.boot_isinstance (pa_cons (pv 0) (pa_cons (pe_bltn (v := .ty "tuple") (by rfl) mt PyProof.Rows.boot_tuple rfl) pa_nil)))))
      (pw_or1 (pt_cmpR op_ne (pe_callB call_len (by rfl) ml PySem.boot_len (pa_cons (pv 0) pa_nil)) pe_int (nomark _))))) (pss_one (ps_ret pe_bl)) pss_nil)
    (pss_cons (ps_asg (pv 0) (pg_tup (by rfl) (pgs_cons (pg_name (i := 1) scIsFrac.nd rfl (.inl rfl)) (pgs_cons (pg_name (i := 2) scIsFrac.nd rfl (.inl rfl)) pgs_nil))))
    (pss_cons (ps_if (PW.pt (pw_or (pt_not (pt_val (pe_call G1 hr rfl m1 k1 b1 .nil pass0 (pa_cons (pv 1) pa_nil)))) (pw_or1 (pt_not (pt_val (pe_call G1 hr rfl m1 k1 b1 .nil pass0 (pa_cons (pv 2) pa_nil))))))) (pss_one (ps_ret pe_bl)) pss_nil)
    (pss_one (ps_ret (pe_cmpR op_eq (pe_call G2 hr rfl m2 k2 b2 .nil pass0 (pa_cons (pv 1) (pa_cons (pv 2) pa_nil))) pe_int (nomark _)))))), ?_⟩
  cases is with
  | other ty no => exact ⟨_, rfl, _, _, _, _, false, rfl, .ty "tuple", ty, no, _, rfl, iteT (iteT q)⟩
  | @long p xs h n =>
    refine ⟨_, rfl, _, _, _, _, true, rfl, .ty "tuple", .base (.tup h), kit_ty (by decide +kernel), _, rfl, iteF ?_⟩
    refine ⟨_, rfl, _, _, rfl, .inr ⟨_, .inl (.inl h), rfl⟩, rfl, _, rfl, ?_⟩
    have ne : decide (V.int ((xs.length : Nat) : Int) = V.int 2) = false := decide_eq_false fun e => n (by have := V.int.inj e; omega)
    rw [ne]
    exact iteT q
  | @pair p x y h hx hy fx fy =>
    refine ⟨_, rfl, _, _, _, _, true, rfl, .ty "tuple", .base (.tup h), kit_ty (by decide +kernel), _, rfl, iteF ?_⟩
    refine ⟨_, rfl, _, _, rfl, .inr ⟨_, .inl (.inl h), rfl⟩, rfl, _, rfl, iteF ?_⟩
    refine ⟨_, rfl, p, _, rfl, .inl (.inl h), rfl, _, _, rfl, _, _, rfl, rfl, ?_⟩
    refine ⟨_, rfl, x, rfl, hx, _, rfl, ?_⟩
    cases ex : isPos x with
    | false =>
      rw [fracB_no1 ex] at q
      exact iteT (iteT q)
    | true =>
      refine iteF ?_
      refine ⟨_, rfl, y, rfl, hy, _, rfl, ?_⟩
      cases ey : isPos y with
      | false =>
        rw [fracB_no2 ey] at q
        exact iteT q
      | true =>
        obtain ⟨a, rfl, a0⟩ := isPos_int ex
        obtain ⟨b, rfl, b0⟩ := isPos_int ey
        rw [fracB_yes a0 b0] at q
        refine iteF ?_
        refine ⟨_, rfl, _, rfl, a, b, rfl, a0, by omega, rfl, ?_⟩
        by_cases g : gcdI a b = 1
        · rw [decide_eq_true g] at q
          rw [g]
          exact q
        · rw [decide_eq_false g] at q
          rw [decide_eq_false fun e => g (V.int.inj e)]
          exact q
end
/-! ### prelude_cell.lean -/
section
variable {P : Program} {w : World} {K : PySem.W.Frag} {mg : Str → Option Value} {base : Heap} {f : Addr} {fd : FuncData}
/-! a cell of the script: some int -/
theorem scCell : FnScope ["_law_script", "_law_k", "_law_state", "_law_figure"] ["_law_script", "_law_k"] (defScope s_l_cell) := ⟨rfl, rfl, rfl, by decide +kernel, rfl, by decide +kernel, by decide +kernel⟩
def spCell (K : PySem.W.Frag) : Sp := fun vs H Q _ => ∃ (a : Addr) (ns : List Int) (k : Int), vs = [.ref a, .int k] ∧ SqL K H a (ns.map V.int) ∧ ns.length ≤ 63 ∧ 0 ≤ k ∧ k < 2 ^ 60 ∧ ∀ (z : Int) H', Same H H' → Q (.int z) H'
theorem nzM : (2147483137 : Int) ≠ 0 := by decide
theorem cut_ints (ns : List Int) (lo hi : Option Int) : ∃ ms : List Int, cutV (ns.map V.int) lo hi = ms.map V.int := by
  refine ⟨(ns.drop (HT.sIx (ns.map V.int).length 0 lo)).take (HT.sIx (ns.map V.int).length (ns.map V.int).length hi - HT.sIx (ns.map V.int).length 0 lo), ?_⟩
  unfold cutV
  rw [List.map_take, List.map_drop]
theorem get_int {ns : List Int} {i : Nat} {x : V} (h : (ns.map V.int)[i]? = some x) : ∃ z : Int, x = .int z := by
  rw [List.getElem?_map] at h
  cases e : ns[i]? with
  | none => rw [e] at h; cases h
  | some z => rw [e] at h; exact ⟨z, (Option.some.inj h).symm⟩
theorem ok_cell (F : Fun K "_law_cell" "_law_cell" s_l_cell f fd) (ml : mg "len" = none) : FnOk P w K mg base CX0 2 f fd ["_law_script", "_law_k"] (spCell K) := by
  refine F.ok scCell (fun vs H Q E h => ?_) (fun cdv A outer s H vs Q E hr h => ?_)
  · obtain ⟨a, ns, k, rfl, _⟩ := h
    rfl
  obtain ⟨a, ns, k, rfl, hS, h63, h0, hk, q⟩ := h
  refine ⟨_, pss_cons (ps_if (pt_cmpR op_lt (pv 1) (pe_callB call_len_seq (by rfl) ml PySem.boot_len (pa_cons (pv 0) pa_nil)) (nomark _)) (pss_one (ps_ret (pe_ix ix_list (pv 0) (pv 1) (fun _ _ => rfl)))) pss_nil)
    (pss_cons (ps_set (i := 2) scCell.nd rfl (.inl rfl) (pe_op op_modN (pe_op op_mul pe_int (pe_op op_add (pe_op op_add (pe_op op_mul (pv 1) (pv 1)) (pe_op op_mul pe_int (pv 1))) pe_int)) pe_int))
    (pss_cons (ps_for PassesOwn.never rfl (pi_list (pe_slice sl_list (pv 0) po_none (po_some pe_int))) (pg_name (i := 3) scCell.nd rfl (.inl rfl))
      (pss_one (ps_set (i := 2) scCell.nd rfl (.inl rfl) (pe_op op_modN (pe_op op_add (pe_op op_mul (pv 2) pe_int) (pv 3)) pe_int))))
    (pss_one (ps_ret (pv 2))))), ?_⟩
  refine ⟨_, rfl, _, rfl, a, _, rfl, .inl hS, _, _, rfl, rfl, _, rfl, ?_⟩
  refine ite2 (fun c => ?_) (fun c => ?_)
  · have c' : k < (((ns.map V.int).length : Nat) : Int) := of_decide_eq_true c
    rw [List.length_map] at c'
    have hn : k.toNat < ns.length := by omega
    have at_ : atI (ns.map V.int) k = some (.int ns[k.toNat]) := by
      have := atI_nat (xs := ns.map V.int) (j := k.toNat) (v := .int ns[k.toNat]) (by rw [List.getElem?_map, List.getElem?_eq_getElem hn]; rfl)
      rw [show ((k.toNat : Nat) : Int) = k by omega] at this
      exact this
    exact ⟨_, rfl, _, rfl, a, _, _, _, rfl, rfl, hS, at_, q _ H (Same.refl H)⟩
  · refine ⟨_, rfl, _, rfl, _, _, rfl, rfl, .inl (by omega), _, rfl, _, _, rfl, rfl, .inl (by omega), _, _, rfl, rfl, _, _, rfl, rfl, _, _, rfl, rfl, .inl (by omega), _, _, rfl, rfl, nzM, ?_⟩
    refine ⟨_, rfl, _, rfl, a, _, rfl, hS, fun p hp => ?_⟩
    obtain ⟨ms, em⟩ := cut_ints ns none (some 3)
    have s1 : Same H (upd H p (.lst (cutV (ns.map V.int) none (some 3)))) := same_upd hp
    refine ⟨p, rfl, ⟨_, SqL.of upd_same⟩, ?_⟩
    rw [em] at s1 ⊢
    refine for_list (K := K) (a := p) (xs := ms.map V.int) (fun _ σ H2 => H2 = upd H p (.lst (ms.map V.int)) ∧ ∃ (z : Int) (v : Option V), σ = [some (.ref a), some (.int k), some (.int z), v] ∧ 0 ≤ z ∧ z < 2147483137) ?_ (fun i σ H2 _ h => ?_) ?_ ?_
    · exact ⟨rfl, _, none, rfl, fmod_lt (by decide)⟩
    · obtain ⟨rfl, _⟩ := h
      exact SqL.of upd_same
    · rintro i x σ H2 hi ⟨rfl, z, v, rfl, z0, z1⟩
      obtain ⟨y, rfl⟩ := get_int hi
      exact ⟨_, rfl, _, _, rfl, rfl, .inl (by omega), _, rfl, _, _, rfl, rfl, _, _, rfl, rfl, nzM, rfl, _, _, rfl, fmod_lt (by decide)⟩
    · rintro σ H2 ⟨rfl, z, v, rfl, _⟩
      exact ⟨_, rfl, q _ _ s1⟩

/-! the pool -/
def Pool (H : Hp) (p : Addr) : Prop := ∃ x d c : Int, H p = some (.lst [.int x, .int d, .int c]) ∧ 0 ≤ x ∧ x < 2147483137 ∧ 0 ≤ d
def Keep (p : Addr) (H H' : Hp) : Prop := ∀ b o, b ≠ p → H b = some o → H' b = some o
theorem Keep.refl (p : Addr) (H : Hp) : Keep p H H := fun _ _ _ h => h
theorem Keep.trans {p : Addr} {H H1 H2 : Hp} (a : Keep p H H1) (b : Keep p H1 H2) : Keep p H H2 := fun c o n h => b c o n (a c o n h)
theorem Same.keep {H H' : Hp} (s : Same H H') (p : Addr) : Keep p H H' := fun b o _ h => s b o h
theorem Keep.at {H : Hp} {p : Addr} {o : HO} : Keep p H (upd H p o) := fun b u n h => by rw [upd_ne n]; exact h
theorem Pool.same {H H' : Hp} {p : Addr} (h : Pool H p) (s : Same H H') : Pool H' p := by
  obtain ⟨x, d, c, e, r⟩ := h
  exact ⟨x, d, c, s _ _ e, r⟩
/-- what lies elsewhere stays -/
theorem Keep.same {p : Addr} {H0 H H' : Hp} (k : Keep p H H') (s : Same H0 H) (n : H0 p = none) : Same H0 H' := fun b o h => k b o (ne_of_none h n) (s b o h)
theorem scPool : FnScope ["_law_figure", "_law_digits"] ["_law_figure"] (defScope s_l_pool) := ⟨rfl, rfl, rfl, by decide +kernel, rfl, by decide +kernel, by decide +kernel⟩
def spPool : Sp := fun vs H Q _ => ∃ z : Int, vs = [.int z] ∧ ∀ p H', Same H H' → H p = none → Pool H' p → Q (.ref p) H'
theorem ok_pool (F : Fun K "_law_pool" "_law_pool" s_l_pool f fd) (ma : mg "abs" = none) : FnOk P w K mg base CX0 2 f fd ["_law_figure"] spPool := by
  refine F.ok scPool (fun vs H Q E h => ?_) (fun cdv A outer s H vs Q E hr h => ?_)
  · obtain ⟨z, rfl, _⟩ := h
    rfl
  obtain ⟨z, rfl, q⟩ := h
  refine ⟨_, pss_cons (ps_set (i := 1) scPool.nd rfl (.inl rfl) (pe_ifExp (PW.pt (pw_or (pt_cmpR op_lt (pv 0) pe_int (nomark _)) (pw_or1 (pt_cmpR op_ge (pv 0) (pe_op op_pow pe_int pe_int) (nomark _)))))
      (pe_callB call_abs (by rfl) ma PyProof.Rows.boot_abs (pa_cons (pv 0) pa_nil)) pe_int))
    (pss_one (ps_ret (pe_lst (pa_cons (pe_op op_modN (pv 0) pe_int) (pa_cons (pv 1) (pa_cons pe_int pa_nil)))))), ?_⟩
  have fin : ∀ d : Int, 0 ≤ d → ∀ p, H p = none → Q (.ref p) (upd H p (.lst [.int (z.fmod 2147483137), .int d, .int 0])) := fun d hd p hp =>
    q p _ (same_upd hp) hp ⟨_, d, 0, upd_same, (fmod_lt (by decide)).1, (fmod_lt (by decide)).2, hd⟩
  refine ⟨_, rfl, _, _, rfl, rfl, _, rfl, ?_⟩
  refine ite2 (fun c => ?_) (fun c => ?_)
  · refine iteT ⟨_, rfl, _, rfl, ?_⟩
    refine ⟨_, rfl, _, _, rfl, rfl, nzM, _, rfl, by show 3 ≤ sizeLine; decide, fin _ ?_⟩
    split <;> omega
  · refine ⟨_, rfl, _, _, rfl, rfl, ⟨by decide, by decide, by decide⟩, _, _, rfl, rfl, _, rfl, ?_⟩
    refine ite2 (fun c => ?_) (fun c => ?_)
    · refine ⟨_, rfl, _, rfl, ?_⟩
      refine ⟨_, rfl, _, _, rfl, rfl, nzM, _, rfl, by show 3 ≤ sizeLine; decide, fin _ ?_⟩
      split <;> omega
    · refine ⟨_, rfl, _, _, rfl, rfl, nzM, _, rfl, by show 3 ≤ sizeLine; decide, fin _ ?_⟩
      omega
end
/-! ### prelude_draw.lean -/
section
variable {P : Program} {w : World} {K : PySem.W.Frag} {mg : Str → Option Value} {base : Heap} {f : Addr} {fd : FuncData}
/-! a draw -/
theorem scDraw : FnScope ["_law_pool_here", "_law_most", "_law_state", "_law_digit"] ["_law_pool_here", "_law_most"] (defScope s_l_draw) := ⟨rfl, rfl, rfl, by decide +kernel, rfl, by decide +kernel, by decide +kernel⟩
def spDraw : Sp := fun vs H Q _ => ∃ (p : Addr) (m : Int), vs = [.ref p, .int m] ∧ Pool H p ∧ big m ∧ ∀ (r : Int) H', Keep p H H' → Pool H' p → 0 ≤ r → r < m → Q (.int r) H'
theorem divP {i j : Int} (h : big j) : CDivP i j := ⟨h.1, PyProof.noPylong_of_log2 (wide_div (i := i) h.1 h.2 (by decide) (by decide)).2⟩
theorem ok_draw (F : Fun K "_law_draw" "_law_draw" s_l_draw f fd) (md : mg "divmod" = none) : FnOk P w K mg base CX0 2 f fd ["_law_pool_here", "_law_most"] spDraw := by
  refine F.ok scDraw (fun vs H Q E h => ?_) (fun cdv A outer s H vs Q E hr h => ?_)
  · obtain ⟨p, m, rfl, _⟩ := h
    rfl
  obtain ⟨p, m, rfl, ⟨x, d, c, hp, x0, x1, d0⟩, hm, q⟩ := h
  refine ⟨_, pss_cons (ps_asg (pe_op op_add (pe_ix ix_list (pv 0) pe_int (fun _ _ => rfl)) pe_int) (pg_sub (pv 0) pe_int set_list))
    (pss_cons (ps_set (i := 2) scDraw.nd rfl (.inl rfl) (pe_ix ix_list (pv 0) pe_int (fun _ _ => rfl)))
    (pss_cons (ps_asg (pe_op op_modN (pe_op op_add (pe_op op_mul (pv 2) (pe_op op_add (pe_op op_modN (pv 2) pe_int) pe_int)) (pe_op op_mul pe_int (pe_ix ix_list (pv 0) pe_int (fun _ _ => rfl)))) pe_int) (pg_sub (pv 0) pe_int set_list))
    (pss_cons (ps_if (pt_cmpR op_gt (pe_ix ix_list (pv 0) pe_int (fun _ _ => rfl)) pe_int (nomark _))
      (pss_cons (ps_asg (pe_callB call_divmodW (by rfl) md PyProof.Rows.boot_divmod (pa_cons (pe_ix ix_list (pv 0) pe_int (fun _ _ => rfl)) (pa_cons (pv 1) pa_nil)))
        (pg_tup rfl (pgs_cons (pg_sub (pv 0) pe_int set_list) (pgs_cons (pg_name (i := 3) scDraw.nd rfl (.inl rfl)) pgs_nil))))
      (pss_one (ps_ret (pv 3)))) pss_nil)
    (pss_one (ps_ret (pe_op op_modN (pe_op op_fdiv (pe_ix ix_list (pv 0) pe_int (fun _ _ => rfl)) pe_int) (pv 1))))))), ?_⟩
  -- the count
  refine ⟨_, rfl, p, _, _, _, rfl, rfl, SqL.of hp, rfl, _, _, rfl, rfl, _, rfl, p, _, _, _, rfl, rfl, hp, rfl, ?_⟩
  refine ⟨_, rfl, p, _, _, _, rfl, rfl, SqL.of upd_same, rfl, ?_⟩
  -- the state
  refine ⟨_, rfl, _, rfl, _, _, rfl, rfl, by show (50023 : Int) ≠ 0; decide, _, _, rfl, rfl, _, _, rfl, rfl, .inl (by omega), _, rfl, p, _, _, _, rfl, rfl, SqL.of upd_same, rfl, _, _, rfl, rfl, .inl (by omega), _, _, rfl, rfl, _, _, rfl, rfl, nzM, ?_⟩
  refine ⟨_, rfl, p, _, _, _, rfl, rfl, upd_same, rfl, ?_⟩
  have hy2 : 0 ≤ (x * (x.fmod 50023 + 30013) + 80029 * (c + 1)).fmod 2147483137 ∧ (x * (x.fmod 50023 + 30013) + 80029 * (c + 1)).fmod 2147483137 < 2147483137 := fmod_lt (by decide)
  have hp1 : upd (upd H p (.lst [.int x, .int d, .int (c + 1)])) p (.lst [.int ((x * (x.fmod 50023 + 30013) + 80029 * (c + 1)).fmod 2147483137), .int d, .int (c + 1)]) p = some (.lst [.int ((x * (x.fmod 50023 + 30013) + 80029 * (c + 1)).fmod 2147483137), .int d, .int (c + 1)]) := upd_same
  have k1 : Keep p H (upd (upd H p (.lst [.int x, .int d, .int (c + 1)])) p (.lst [.int ((x * (x.fmod 50023 + 30013) + 80029 * (c + 1)).fmod 2147483137), .int d, .int (c + 1)])) := Keep.at.trans Keep.at
  -- digits, if there are some
  refine ⟨_, rfl, p, _, _, _, rfl, rfl, SqL.of hp1, rfl, _, _, rfl, rfl, _, rfl, ?_⟩
  refine ite2 (fun cc => ?_) (fun cc => ?_)
  · refine ⟨_, rfl, p, _, _, _, rfl, rfl, SqL.of hp1, rfl, _, rfl, d, m, rfl, divP hm, fun t ht => ?_⟩
    have ntp : p ≠ t := ne_of_none hp1 ht
    refine ⟨t, _, rfl, .inl (.inl upd_same), rfl, _, _, rfl, _, rfl, p, _, _, _, rfl, rfl, by rw [upd_ne ntp]; exact hp1, rfl, _, _, rfl, rfl, ?_⟩
    refine ⟨_, rfl, q _ _ ((k1.trans (Same.keep (same_upd ht) p)).trans Keep.at) ⟨_, _, _, upd_same, hy2.1, hy2.2, Int.ediv_nonneg d0 (by have := hm.1; omega)⟩ (Int.emod_nonneg _ (by have := hm.1; omega)) (Int.emod_lt_of_pos _ hm.1)⟩
  · refine ⟨_, rfl, p, _, _, _, rfl, rfl, SqL.of hp1, rfl, _, _, rfl, rfl, ⟨by decide, by decide⟩, _, rfl, _, _, rfl, rfl, by have := hm.1; omega, ?_⟩
    exact q _ _ k1 ⟨_, _, _, hp1, hy2.1, hy2.2, d0⟩ (fmod_lt hm.1).1 (fmod_lt hm.1).2

/-! the law's own lowest terms -/
theorem scLLow : FnScope ["_law_high_part", "_law_low_part", "_law_lead", "_law_rest"] ["_law_high_part", "_law_low_part"] (defScope s_l_low) := ⟨rfl, rfl, rfl, by decide +kernel, rfl, by decide +kernel, by decide +kernel⟩
theorem ok_llow (F : Fun K "_law_low" "_law_low" s_l_low f fd) : FnOk P w K mg base CX0 2 f fd ["_law_high_part", "_law_low_part"] spLow := by
  refine F.ok scLLow (fun vs H Q E h => ?_) (fun cdv A outer s H vs Q E hr h => ?_)
  · obtain ⟨a, b, rfl, _⟩ := h
    rfl
  obtain ⟨a, b, rfl, ha, hb, q⟩ := h
  refine ⟨_, pss_cons (ps_par (i := 2) (j := 3) (by rfl) scLLow.nd rfl rfl (by decide) rfl rfl (pa_cons (pv 0) (pa_cons (pv 1) pa_nil)) (by rfl))
    (pss_cons (ps_while PassesOwn.never (pt_cmpR op_gt (pv 3) pe_int (nomark _))
      (pss_one (ps_par (i := 2) (j := 3) (by rfl) scLLow.nd rfl rfl (by decide) rfl rfl (pa_cons (pv 3) (pa_cons (pe_op op_modN (pv 2) (pv 3)) pa_nil)) (by rfl))))
    (pss_one (ps_ret (pe_tup (pa_cons (pe_op op_fdivW (pv 0) (pv 2)) (pa_cons (pe_op op_fdivW (pv 1) (pv 2)) pa_nil)))))), ?_⟩
  refine ⟨_, rfl, _, rfl, _, _, rfl, ?_⟩
  refine while_by (fun σ H' => H' = H ∧ ∃ x y : Int, σ = [some (.int a), some (.int b), some (.int x), some (.int y)] ∧ 0 < x ∧ 0 ≤ y ∧ gcdI x y = gcdI a b) (fun σ _ => match σ with | [_, _, _, some (.int y)] => y.toNat | _ => 0)
    ⟨rfl, a, b, rfl, ha.1, by omega, rfl⟩ ?_ (fun σ H Q Q' m ⟨v, h1, i, j, e1, e2, k, e3, q⟩ => ⟨v, h1, i, j, e1, e2, k, e3, m _ _ q⟩)
  rintro σ H' ⟨rfl, x, y, rfl, hx, hy, g⟩
  refine ⟨_, rfl, _, _, rfl, rfl, _, rfl, ?_⟩
  refine ite2 (fun c => ?_) (fun c => ?_)
  · have c' : 0 < y := of_decide_eq_true c
    have fm := fmod_lt (a := x) c'
    refine ⟨_, rfl, _, rfl, _, rfl, _, _, rfl, rfl, by omega, _, _, rfl, ?_⟩
    refine ⟨⟨rfl, y, _, rfl, c', fm.1, (gcdI_step c').trans g⟩, ?_⟩
    show (x.fmod y).toNat < y.toNat
    omega
  · have c' : ¬ 0 < y := of_decide_eq_false (Bool.eq_false_iff.mpr c)
    have e : y = 0 := by omega
    subst e
    rw [gcdI_zero hx] at g
    subst g
    exact ⟨_, rfl, _, rfl, _, _, rfl, rfl, gcd_div ha a, _, rfl, _, rfl, _, _, rfl, rfl, gcd_div ha b, by show 2 ≤ sizeLine; decide, q⟩
end
/-! ### prelude_part.lean -/
section
variable {P : Program} {w : World} {K : PySem.W.Frag} {mg : Str → Option Value} {base : Heap} {f : Addr} {fd : FuncData}
/-! a drawn fraction -/
theorem at2 {x0 x1 : V} {r : Int} (h0 : 0 ≤ r) (h1 : r < 2) : ∃ v, atI [x0, x1] r = some v ∧ (v = x0 ∨ v = x1) := by
  have : r = 0 ∨ r = 1 := by omega
  rcases this with rfl | rfl
  · exact ⟨x0, rfl, .inl rfl⟩
  · exact ⟨x1, rfl, .inr rfl⟩
/-- a place of a list of four -/
theorem at4 {x0 x1 x2 x3 : V} {r : Int} (h0 : 0 ≤ r) (h1 : r < 4) : ∃ v, atI [x0, x1, x2, x3] r = some v ∧ (v = x0 ∨ v = x1 ∨ v = x2 ∨ v = x3) := by
  have : r = 0 ∨ r = 1 ∨ r = 2 ∨ r = 3 := by omega
  rcases this with rfl | rfl | rfl | rfl
  · exact ⟨x0, rfl, .inl rfl⟩
  · exact ⟨x1, rfl, .inr (.inl rfl)⟩
  · exact ⟨x2, rfl, .inr (.inr (.inl rfl))⟩
  · exact ⟨x3, rfl, .inr (.inr (.inr rfl))⟩
theorem Pool.ne {H : Hp} {p L : Addr} (hp : Pool H p) (nL : H L = none) : L ≠ p := by
  obtain ⟨_, _, _, e, _⟩ := hp
  exact (ne_of_none e nL).symm
theorem big_of {a : Int} (n : Nat) (h : 0 < a) (l : a < 2 ^ n) (hn : n ≤ 8000) : big a := by
  refine ⟨h, ?_⟩
  have e : ((2 ^ n : Nat) : Int) = (2 : Int) ^ n := by norm_cast
  have : a.natAbs < 2 ^ n := by omega
  exact Nat.lt_of_lt_of_le this (Nat.pow_le_pow_right (by decide) hn)
theorem fr_one {n : Nat} {a : Int} (h : 0 < a) (l : a < 2 ^ n) (hn : 1 ≤ n) : Fr n a 1 := ⟨h, by decide, gcdI_one, fr_lt h l, Nat.lt_of_lt_of_le (by decide : (1 : Int).natAbs < 2 ^ 1) (Nat.pow_le_pow_right (by decide) hn)⟩
theorem fr_drawn {a b : Int} (ha : 0 < a) (hb : 0 < b) (la : a ≤ 10 ^ 20) (lb : b ≤ 10 ^ 20) : Fr 70 (a / gcdI a b) (b / gcdI a b) :=
  fr_low ha hb (fr_lt ha (Int.lt_of_le_of_lt la (by decide))) (fr_lt hb (Int.lt_of_le_of_lt lb (by decide)))
theorem scPart : FnScope ["_law_pool_here", "_law_great", "_law_way", "_law_most"] ["_law_pool_here", "_law_great"] (defScope s_l_part) := ⟨rfl, rfl, rfl, by decide +kernel, rfl, by decide +kernel, by decide +kernel⟩
def spPart : Sp := fun vs H Q _ => ∃ (p : Addr) (g : Bool), vs = [.ref p, .bl g] ∧ Pool H p ∧ ∀ t a b H', Keep p H H' → Pool H' p → H t = none → FrAt 70 H' t a b → Q (.ref t) H'
theorem ok_part {g1 g2 : Addr} {gd1 gd2 : FuncData} (F : Fun K "_law_part" "_law_part" s_l_part f fd)
    (G1 : FnOk P w K mg base CX0 2 g1 gd1 ["_law_pool_here", "_law_most"] spDraw) (b1 : Binds K gd1 ["_law_pool_here", "_law_most"] []) (k1 : PySem.W.keepIn K (.ref g1) = true) (m1 : mg "_law_draw" = some (.ref g1))
    (G2 : FnOk P w K mg base CX0 2 g2 gd2 ["_law_high_part", "_law_low_part"] spLow) (b2 : Binds K gd2 ["_law_high_part", "_law_low_part"] []) (k2 : PySem.W.keepIn K (.ref g2) = true) (m2 : mg "_law_low" = some (.ref g2)) :
    FnOk P w K mg base CX0 3 f fd ["_law_pool_here", "_law_great"] spPart := by
  refine F.ok scPart (fun vs H Q E h => ?_) (fun cdv A outer s H vs Q E hr h => ?_)
  · obtain ⟨p, g, rfl, _⟩ := h
    rfl
  obtain ⟨p, g, rfl, hp, q⟩ := h
  have l1 : ∀ n : Nat, n ≤ 1000 → n ≤ sizeLine := fun n h => Nat.le_of_lt (small1000 h)
  refine ⟨_, pss_cons (ps_set (i := 2) scPart.nd rfl (.inl rfl) (pe_call G1 hr rfl m1 k1 b1 .nil pass0 (pa_cons (pv 0) (pa_cons pe_int pa_nil))))
    (pss_cons (ps_if (pt_cmpR op_lt (pv 2) pe_int (nomark _))
      (pss_one (ps_ret (pe_tup (pa_cons (pe_op op_add pe_int (pe_call G1 hr rfl m1 k1 b1 .nil pass0 (pa_cons (pv 0) (pa_cons (pe_ix ix_list (pe_lst (pa_cons pe_int (pa_cons pe_int pa_nil))) (pv 2) (fun _ _ => rfl)) pa_nil)))) (pa_cons pe_int pa_nil))))) pss_nil)
    (pss_cons (ps_set (i := 3) scPart.nd rfl (.inl rfl) (pe_ix ix_list (pe_lst (pa_cons pe_int (pa_cons pe_int (pa_cons (pe_op op_pow pe_int pe_int) (pa_cons (pe_ifExp (pt_val (pv 1)) (pe_op op_pow pe_int pe_int) pe_int) pa_nil))))) (pe_op op_sub (pv 2) pe_int) (fun _ _ => rfl)))
    (pss_one (ps_ret (pe_call G2 hr rfl m2 k2 b2 .nil pass0 (pa_cons (pe_op op_add pe_int (pe_call G1 hr rfl m1 k1 b1 .nil pass0 (pa_cons (pv 0) (pa_cons (pv 3) pa_nil)))) (pa_cons (pe_op op_add pe_int (pe_call G1 hr rfl m1 k1 b1 .nil pass0 (pa_cons (pv 0) (pa_cons (pv 3) pa_nil)))) pa_nil))))))), ?_⟩
  refine ⟨_, rfl, p, 6, rfl, hp, big_of 8 (by decide) (by decide) (by decide), fun r H1 kp hp1 r0 r6 => ?_⟩
  refine ⟨_, rfl, _, _, rfl, rfl, _, rfl, ?_⟩
  refine ite2 (fun c => ?_) (fun c => ?_)
  · have c' : r < 2 := of_decide_eq_true c
    refine ⟨_, rfl, l1 2 (by decide), fun L nL => ?_⟩
    have s1 := same_upd (o := .lst [.int 12, .int 2000]) nL
    obtain ⟨v, ev, vv⟩ := at2 (x0 := .int 12) (x1 := .int 2000) r0 c'
    have vi : ∃ m : Int, v = .int m ∧ 0 < m ∧ m ≤ 2000 := by
      rcases vv with rfl | rfl
      · exact ⟨_, rfl, by decide, by decide⟩
      · exact ⟨_, rfl, by decide, by decide⟩
    obtain ⟨m, rfl, m0, m1⟩ := vi
    refine ⟨_, rfl, L, _, _, _, rfl, rfl, SqL.of upd_same, ev, p, m, rfl, hp1.same s1, big_of 20 m0 (Int.lt_of_le_of_lt m1 (by decide)) (by decide), fun z H2 kp2 hp2 z0 z1 => ?_⟩
    refine ⟨_, _, rfl, rfl, l1 2 (by decide), fun t nt => ?_⟩
    have s2 := same_upd (o := .tup [.int (1 + z), .int 1]) nt
    have kall := kp.trans ((Same.keep s1 p).trans kp2)
    have ntp : H t = none := by
      refine Option.eq_none_iff_forall_ne_some.mpr fun o e => ?_
      by_cases ep : t = p
      · subst ep
        obtain ⟨_, _, _, e2, _⟩ := hp2
        rw [nt] at e2
        cases e2
      · have := kall t o ep e
        rw [nt] at this
        cases this
    exact q t (1 + z) 1 _ (kall.trans (Same.keep s2 p)) (hp2.same s2) ntp ⟨upd_same, fr_one (by omega) (Int.lt_of_le_of_lt (show 1 + z ≤ 2000 by omega) (by decide)) (by decide)⟩
  · have c' : ¬ r < 2 := of_decide_eq_false (Bool.eq_false_iff.mpr c)
    -- the list of four, its last by the flag
    have go : ∀ (mm : Int), 0 < mm → mm ≤ 10 ^ 20 → ∀ L, H1 L = none →
        ∃ m : Int, atI [V.int 12, .int 60, .int (10 ^ 6), .int mm] (r - 2) = some (.int m) ∧ 0 < m ∧ m ≤ 10 ^ 20 := by
      intro mm h0 h1 L nL
      obtain ⟨v, ev, vv⟩ := at4 (x0 := .int 12) (x1 := .int 60) (x2 := .int (10 ^ 6)) (x3 := .int mm) (show 0 ≤ r - 2 by omega) (by omega)
      rcases vv with rfl | rfl | rfl | rfl
      · exact ⟨_, ev, by decide, by decide⟩
      · exact ⟨_, ev, by decide, by decide⟩
      · exact ⟨_, ev, by decide, by decide⟩
      · exact ⟨_, ev, h0, h1⟩
    have fin : ∀ (m : Int) (L : Addr) (o : HO), 0 < m → m ≤ 10 ^ 20 → H1 L = none →
        ∀ z1 H2, Keep p (upd H1 L o) H2 → Pool H2 p → 0 ≤ z1 → z1 < m → ∀ z2 H3, Keep p H2 H3 → Pool H3 p → 0 ≤ z2 → z2 < m →
        ∀ t, H3 t = none → Q (.ref t) (upd H3 t (lowT (1 + z1) (1 + z2))) := by
      intro m L o m0 m1 nL z1 H2 k2 p2 z10 z11 z2 H3 k3 p3 z20 z21 t nt
      have kall := kp.trans ((Same.keep (same_upd (o := o) nL) p).trans (k2.trans k3))
      have ntp : H t = none := by
        refine Option.eq_none_iff_forall_ne_some.mpr fun o e => ?_
        by_cases ep : t = p
        · subst ep
          obtain ⟨_, _, _, e2, _⟩ := p3
          rw [nt] at e2
          cases e2
        · have := kall t o ep e
          rw [nt] at this
          cases this
      have s2 := same_upd (o := lowT (1 + z1) (1 + z2)) nt
      exact q t _ _ _ (kall.trans (Same.keep s2 p)) (p3.same s2) ntp ⟨upd_same, fr_drawn (by omega) (by omega) (by omega) (by omega)⟩
    refine ⟨_, _, rfl, rfl, ⟨by decide, by decide, by decide⟩, _, rfl, _, rfl, ?_⟩
    cases g with
    | true =>
      refine iteT ⟨_, _, rfl, rfl, ⟨by decide, by decide, by decide⟩, l1 4 (by decide), fun L nL => ?_⟩
      obtain ⟨m, em, m0, m1⟩ := go (10 ^ 20) (by decide) (by decide) L nL
      refine ⟨_, rfl, _, _, rfl, rfl, L, _, _, _, rfl, rfl, SqL.of upd_same, em, ?_⟩
      refine ⟨_, rfl, _, rfl, p, m, rfl, hp1.same (same_upd nL), big_of 70 m0 (Int.lt_of_le_of_lt m1 (by decide)) (by decide), fun z1 H2 k2 p2 z10 z11 => ⟨_, _, rfl, rfl, ?_⟩⟩
      refine ⟨_, rfl, _, rfl, p, m, rfl, p2, big_of 70 m0 (Int.lt_of_le_of_lt m1 (by decide)) (by decide), fun z2 H3 k3 p3 z20 z21 => ⟨_, _, rfl, rfl, ?_⟩⟩
      exact ⟨1 + z1, 1 + z2, rfl, big_of 70 (by omega) (Int.lt_of_le_of_lt (show 1 + z1 ≤ 10 ^ 20 by omega) (by decide)) (by decide), by omega, fin m L _ m0 m1 nL z1 H2 k2 p2 z10 z11 z2 H3 k3 p3 z20 z21⟩
    | false =>
      refine iteF ⟨l1 4 (by decide), fun L nL => ?_⟩
      obtain ⟨m, em, m0, m1⟩ := go 90 (by decide) (by decide) L nL
      refine ⟨_, rfl, _, _, rfl, rfl, L, _, _, _, rfl, rfl, SqL.of upd_same, em, ?_⟩
      refine ⟨_, rfl, _, rfl, p, m, rfl, hp1.same (same_upd nL), big_of 70 m0 (Int.lt_of_le_of_lt m1 (by decide)) (by decide), fun z1 H2 k2 p2 z10 z11 => ⟨_, _, rfl, rfl, ?_⟩⟩
      refine ⟨_, rfl, _, rfl, p, m, rfl, p2, big_of 70 m0 (Int.lt_of_le_of_lt m1 (by decide)) (by decide), fun z2 H3 k3 p3 z20 z21 => ⟨_, _, rfl, rfl, ?_⟩⟩
      exact ⟨1 + z1, 1 + z2, rfl, big_of 70 (by omega) (Int.lt_of_le_of_lt (show 1 + z1 ≤ 10 ^ 20 by omega) (by decide)) (by decide), by omega, fin m L _ m0 m1 nL z1 H2 k2 p2 z10 z11 z2 H3 k3 p3 z20 z21⟩
end
/-! ### thing2.lean -/
/-! values of any kind: what their class answers, whole, is_part -/
theorem TyX.same {K : PySem.W.Frag} {H H' : Hp} {v : V} {t : Value} (h : TyX K H v t) (s : Same H H') : TyX K H' v t := by
  cases h with
  | base b =>
    cases b with
    | non => exact .base .non
    | bl x => exact .base (.bl x)
    | int i => exact .base (.int i)
    | str x => exact .base (.str x)
    | flt x => exact .base (.flt x)
    | lst e => exact .base (.lst (s _ _ e))
    | frz e => exact .base (.frz (s _ _ e))
    | tup e => exact .base (.tup (s _ _ e))
    | dK e => exact .base (.dK (s _ _ e))
    | dT e => exact .base (.dT (s _ _ e))
    | ins e cl ha hn htk hm => exact .base (.ins (s _ _ e) cl ha hn htk hm)
  | byt b => exact .byt b
  | set e => exact .set (s _ _ e)
  | kList e c => exact .kList e c
  | kTuple e c => exact .kTuple e c
  | kDict e c => exact .kDict e c
  | fTuple e => exact .fTuple (s _ _ e)
  | fDict e => exact .fDict (s _ _ e)
theorem Any.same {K : PySem.W.Frag} {H H' : Hp} {v : V} (h : Any K H v) (s : Same H H') : Any K H' v := by
  cases h with
  | int i => exact .int i
  | bl b => exact .bl b
  | no h =>
    obtain ⟨t, ty, e⟩ := h
    exact .no ⟨t, TyX.same ty s, e⟩
theorem IsB.same {K : PySem.W.Frag} {H H' : Hp} {v : V} {b : Bool} (h : IsB K H v b) (s : Same H H') : IsB K H' v b := by
  cases h with
  | other ty no => exact .other (TyX.same ty s) no
  | long h n => exact .long (s _ _ h) n
  | pair h hx hy fx fy => exact .pair (s _ _ h) (hx.same s) (hy.same s) fx fy
section
variable {K : PySem.W.Frag} {H : Hp}
theorem any_tup {p : Addr} {xs : List V} (h : H p = some (.tup xs)) : Any K H (.ref p) := .no ⟨_, .base (.tup h), kit_ty (by decide +kernel)⟩
theorem any_lst {p : Addr} {xs : List V} (h : H p = some (.lst xs)) : Any K H (.ref p) := .no ⟨_, .base (.lst h), kit_ty (by decide +kernel)⟩
theorem any_dic {p : Addr} (h : H p = some (.dK [])) : Any K H (.ref p) := .no ⟨_, .base (.dK h), kit_ty (by decide +kernel)⟩
theorem int_digits {i : Int} (h0 : 0 ≤ i) (h : i.natAbs < 2 ^ 1900) : (reprText (Str.ofString (toString i))).length ≤ 7000 := by
  obtain ⟨n, rfl⟩ : ∃ n : Nat, i = (n : Int) := ⟨i.toNat, by omega⟩
  have l := intlen h
  have c := StrLaws.reprText_len (Str.ofString (toString ((n : Nat) : Int))) (fun c hc => by
    have e : (Str.ofString (toString ((n : Nat) : Int))).cps.toList = TL.numL n := TL.tl_num n
    rw [e] at hc
    have := TL.numL_digits n c hc
    omega)
  omega
end
section
variable {P : Program} {w : World} {K : PySem.W.Frag} {mg : Str → Option Value} {base : Heap} {f : Addr} {fd : FuncData}
theorem scWhole : FnScope ["_law_thing_here"] ["_law_thing_here"] (defScope s_l_whole) := ⟨rfl, rfl, rfl, by decide +kernel, rfl, by decide +kernel, by decide +kernel⟩
theorem ok_whole (F : Fun K "_law_whole" "_law_whole" s_l_whole f fd) (m1 : mg "isinstance" = none) (m2 : mg "int" = none) (m3 : mg "bool" = none) :
    FnOk P w K mg base CX0 2 f fd ["_law_thing_here"] (spIsPos K) := by
  refine F.ok scWhole (fun vs H Q E h => ?_) (fun cdv A outer s H vs Q E hr h => ?_)
  · obtain ⟨v, rfl, _⟩ := h
    rfl
  obtain ⟨v, rfl, a, q⟩ := h
  refine ⟨_, pss_one (ps_ret (pe_and (pe_callB call_isi (by rfl) m1 PyProof.Rows.boot_isinstance (pa_cons (pv 0) (pa_cons (pe_bltn (v := .ty "int") (by rfl) m2 PyProof.Rows.boot_int rfl) pa_nil)))
    (pe_and (pe_not (pe_callB call_isi (by rfl) m1 PyProof.Rows.boot_isinstance (pa_cons (pv 0) (pa_cons (pe_bltn (v := .ty "bool") (by rfl) m3 PyProof.Rows.boot_bool rfl) pa_nil))))
      (pe_one (pe_cmpR op_gt (pv 0) pe_int (nomark _)))))), ?_⟩
  cases a with
  | int i =>
    refine ⟨_, rfl, _, _, _, _, true, rfl, .ty "int", .base (.int i), kit_ty (by decide +kernel), _, rfl, iteT ?_⟩
    refine ⟨_, rfl, _, _, _, _, false, rfl, .ty "bool", .base (.int i), kit_ty (by decide +kernel), _, rfl, _, rfl, iteT ?_⟩
    exact ⟨_, rfl, _, _, rfl, rfl, q⟩
  | bl b =>
    refine ⟨_, rfl, _, _, _, _, true, rfl, .ty "int", .base (.bl b), kit_ty (by decide +kernel), _, rfl, iteT ?_⟩
    exact ⟨_, rfl, _, _, _, _, true, rfl, .ty "bool", .base (.bl b), kit_ty (by decide +kernel), _, rfl, _, rfl, iteF q⟩
  | no h =>
    rw [h.isPos] at q
    obtain ⟨t, ty, e⟩ := h
    exact ⟨_, rfl, _, _, _, _, false, rfl, .ty "int", ty, e, _, rfl, iteF q⟩
theorem eqv_low {a b : Int} (ha : 0 < a) (hb : 0 < b) : PyData.eqv (lowD a b) (.tuple [.int a, .int b]) = decide (gcdI a b = 1) := by
  have e : PyData.eqv (lowD a b) (.tuple [.int a, .int b]) = ((a / gcdI a b == a) && ((b / gcdI a b == b) && true)) := rfl
  rw [e]
  by_cases g : gcdI a b = 1
  · rw [decide_eq_true g, g, Int.ediv_one, Int.ediv_one]
    simp
  · rw [decide_eq_false g]
    have gp := gcdI_pos (b := b) ha
    have : ¬ a / gcdI a b = a := fun h => by
      have e2 : gcdI a b * (a / gcdI a b) = a := Int.mul_ediv_cancel' (Int.gcd_dvd_left ..)
      rw [h] at e2
      have h2 : 2 ≤ gcdI a b := by omega
      have := Int.mul_le_mul_of_nonneg_right h2 (show 0 ≤ a by omega)
      omega
    simp [this]
theorem scIsPart : FnScope ["_law_thing_here"] ["_law_thing_here"] (defScope s_l_is_part) := ⟨rfl, rfl, rfl, by decide +kernel, rfl, by decide +kernel, by decide +kernel⟩
def spIsPart (K : PySem.W.Frag) : Sp := fun vs H Q _ => ∃ v b, vs = [v] ∧ IsB K H v b ∧ ∀ H', Same H H' → Q (.bl b) H'
theorem ok_is_part {g1 g2 : Addr} {gd1 gd2 : FuncData} (F : Fun K "_law_is_part" "_law_is_part" s_l_is_part f fd) (mi : mg "isinstance" = none) (mt : mg "tuple" = none) (ml : mg "len" = none)
    (G1 : FnOk P w K mg base CX0 2 g1 gd1 ["_law_thing_here"] (spIsPos K)) (b1 : Binds K gd1 ["_law_thing_here"] []) (k1 : PySem.W.keepIn K (.ref g1) = true) (m1 : mg "_law_whole" = some (.ref g1))
    (G2 : FnOk P w K mg base CX0 2 g2 gd2 ["_law_high_part", "_law_low_part"] spLow) (b2 : Binds K gd2 ["_law_high_part", "_law_low_part"] []) (k2 : PySem.W.keepIn K (.ref g2) = true) (m2 : mg "_law_low" = some (.ref g2)) :
    FnOk P w K mg base CX0 3 f fd ["_law_thing_here"] (spIsPart K) := by
  refine F.ok scIsPart (fun vs H Q E h => ?_) (fun cdv A outer s H vs Q E hr h => ?_)
  · obtain ⟨v, b, rfl, _⟩ := h
    rfl
  obtain ⟨v, b, rfl, is, q⟩ := h
  refine ⟨_, pss_cons (ps_if (PW.pt (pw_or (pt_not (pt_val (pe_callB call_isi (by rfl) mi PyProof.Rows.boot_isinstance (pa_cons (pv 0) (pa_cons (pe_bltn (v := .ty "tuple") (by rfl) mt PyProof.Rows.boot_tuple rfl) pa_nil)))))
      (pw_or (pt_cmpR op_ne (pe_callB call_len (by rfl) ml PySem.boot_len (pa_cons (pv 0) pa_nil)) pe_int (nomark _))
      (pw_or (pt_not (pt_val (pe_call G1 hr rfl m1 k1 b1 .nil pass0 (pa_cons (pe_ix ix_tup (pv 0) pe_int (fun _ _ => rfl)) pa_nil))))
      (pw_or1 (pt_not (pt_val (pe_call G1 hr rfl m1 k1 b1 .nil pass0 (pa_cons (pe_ix ix_tup (pv 0) pe_int (fun _ _ => rfl)) pa_nil))))))))) (pss_one (ps_ret pe_bl)) pss_nil)
    (pss_one (ps_ret (pe_cmpR (op_eqD hr.units) (pe_call G2 hr rfl m2 k2 b2 .nil pass0 (pa_cons (pe_ix ix_tup (pv 0) pe_int (fun _ _ => rfl)) (pa_cons (pe_ix ix_tup (pv 0) pe_int (fun _ _ => rfl)) pa_nil))) (pv 0) (nomark _)))), ?_⟩
  cases is with
  | other ty no => exact ⟨_, rfl, _, _, _, _, false, rfl, .ty "tuple", ty, no, _, rfl, iteT (iteT (q _ (Same.refl _)))⟩
  | @long p xs h n =>
    refine ⟨_, rfl, _, _, _, _, true, rfl, .ty "tuple", .base (.tup h), kit_ty (by decide +kernel), _, rfl, iteF ?_⟩
    refine ⟨_, rfl, _, _, rfl, .inr ⟨_, .inl (.inl h), rfl⟩, rfl, _, rfl, ?_⟩
    have ne : decide (V.int ((xs.length : Nat) : Int) = V.int 2) = false := decide_eq_false fun e => n (by have := V.int.inj e; omega)
    rw [ne]
    exact iteT (iteT (q _ (Same.refl _)))
  | @pair p x y h hx hy fx fy =>
    refine ⟨_, rfl, _, _, _, _, true, rfl, .ty "tuple", .base (.tup h), kit_ty (by decide +kernel), _, rfl, iteF ?_⟩
    refine ⟨_, rfl, _, _, rfl, .inr ⟨_, .inl (.inl h), rfl⟩, rfl, _, rfl, iteF ?_⟩
    have sq : SqT K H p [x, y] := .inl (.inl h)
    refine ⟨_, rfl, p, _, _, _, rfl, rfl, sq, rfl, x, rfl, hx, _, rfl, ?_⟩
    cases ex : isPos x with
    | false =>
      rw [fracB_no1 ex] at q
      exact iteT (iteT (q _ (Same.refl _)))
    | true =>
      refine iteF ?_
      refine ⟨_, rfl, p, _, _, _, rfl, rfl, sq, rfl, y, rfl, hy, _, rfl, ?_⟩
      cases ey : isPos y with
      | false =>
        rw [fracB_no2 ey] at q
        exact iteT (q _ (Same.refl _))
      | true =>
        obtain ⟨a, rfl, a0⟩ := isPos_int ex
        obtain ⟨b, rfl, b0⟩ := isPos_int ey
        rw [fracB_yes a0 b0] at q
        refine iteF ?_
        refine ⟨_, rfl, p, _, _, _, rfl, rfl, sq, rfl, _, rfl, p, _, _, _, rfl, rfl, sq, rfl, a, b, rfl, ⟨a0, Nat.lt_of_lt_of_le fx (Nat.pow_le_pow_right (by decide) (by decide))⟩, b0, fun t ht => ?_⟩
        have s1 := same_upd (o := lowT a b) ht
        refine ⟨_, rfl, lowD a b, .tuple [.int a, .int b], lowT_dp upd_same, tupD (s1 _ _ h), rfl, rfl, ?_⟩
        rw [eqv_low a0 b0]
        exact q _ s1
end
/-! ### err_mk.lean -/
/-! an own error with one field, made and raised: the class's text, C(e) for L2N, raise C(e) -/
section
open PySem.W PySem.Calls PyProof.Rows PySem.HandSPX
def evArgs (p1 p2 : Pos) : Arguments := { posonlyargs := [], args := [{ arg := "self", annotation := none, pos := p1 }, { arg := "value", annotation := none, pos := p2 }], vararg := none, kwonlyargs := [], kw_defaults := [], kwarg := none, defaults := [] }
def evBody (q1 q2 q3 q4 : Pos) : List Stmt := [.Assign [.Attribute (.Name "self" q1) "value" q2] (.Name "value" q3) q4]
def evScope : Scope := { kind := .function, names := [(PySem.Str.ofString "self", .local), (PySem.Str.ofString "value", .local)], isGenerator := false, isCoroutine := false, more := [] }
/-- what the top says of the class at C and of its __init__ at fI -/
structure EvTxt (K : Frag) (C fI : Addr) (qi : Str) : Prop where
  cls : ∃ nm q N bs bm sn sub ab col dd k0 k1 k2 k3 k5, K.lookup C = some (excClassObj nm q C N bs bm true sn sub ab col dd k0 k1 k2 k3 k5 "ValueError.__new__") ∧ refsVE bm = true
  sa : findIn K (.ref C) "__setattr__" = some (some (.builtin "object.__setattr__"))
  ga : findIn K (.ref C) "__getattribute__" = some (some (.builtin "BaseException.__getattribute__"))
  gg : findIn K (.ref C) "__getattr__" = some none
  noN : findIn K (.ref C) "value" = some none
  iC : findIn K (.ref C) "__init__" = some (some (.ref fI))
  tC : typeIn K (.ref fI) = some (.type "function")
  kC : keepIn K (.ref C) = true
  exC : subIn K (.ref C) (.type "BaseException") = some true
  tyC : typeIn K (.ref C) = some (.type "type")
  hdC : hasDictIn K C = true
  fn : ∃ (oc : Value) (od : Option Addr) (doc pm : Value) (an : Option Addr) (cdv ct : Value) (osl : Array (Option Value)) (p1 p2 q1 q2 q3 q4 : Pos),
    K.lookup fI = some ⟨oc, od, .func (fnOf "__init__" qi (evArgs p1 p2) (evBody q1 q2 q3 q4) evScope .none .none doc pm an cdv ct), osl⟩ ∧ codeIn K cdv qi = true
theorem one_fits (u : Value) : [u].length ≤ sizeLine := by
  show 1 ≤ sizeLine
  rw [sizeLine_eq]
  decide
theorem ev_name {M : Model} {s0 : Shared} {nm : Str} {sc : Scope} {fr a : Addr} {cd : Value} {m : Str → Option Value} {y : Str} {ps : Pos} {u : Value} {Q : Value → Shared → Prop} {A : Around} {E : Value → Shared → Prop} (hns : s0.heap.Ns fr m) (hu : m y = some u) (fin : Q u s0)
    (isf : sc.kind = .function := by rfl) (isl : (envOfC nm sc fr a cd).kindOf y = some .local := by rfl) (dbg : (y == ("__debug__" : Str)) = false := by decide) :
    wpAny M A (eval (.Name y ps) (envOfC nm sc fr a cd)) Q E s0 := wpAny_Name (wpAny_loadName_local isf isl hns hu fin) dbg
/-- what __init__ leaves of the new error at x -/
structure EvEnd (h h' : Heap) (x C dx t1 : Addr) (u : Value) : Prop where
  keep : ∀ b o, b ≠ x → h.get? b = some o → h'.get? b = some o
  obj : h'.get? x = some { cls := .ref C, dict := some dx, data := .fields #[.ref t1, .none, .none, .none, .bool false, .none] }
  dbig : h.objs.size ≤ dx
  dne : dx ≠ x
  ns : h'.Ns1 dx (fun y => if y = "value" then some u else none)
structure EvMade (h h' : Heap) (e C d : Addr) (u : Value) : Prop where
  keep : ∀ b o, h.get? b = some o → h'.get? b = some o
  new : h.objs.size ≤ e
  obj : ∃ oe t1, h'.get? e = some oe ∧ oe.cls = .ref C ∧ oe.dict = some d ∧ oe.data = .fields #[.ref t1, .none, .none, .none, .bool false, .none]
  dbig : h.objs.size ≤ d
  dne : d ≠ e
  ns : h'.Ns1 d (fun y => if y = "value" then some u else none)
section
variable {prog : Program} {w : World} {A : Around} {E : Value → Shared → Prop} {R : Result → Shared → Prop} {s0 : Shared} {K : Frag} {C fI : Addr} {qi : Str}
theorem ev_init (Z : EvTxt K C fI qi) {x t0 : Addr} {u : Value} (inK : K.In s0.heap) (lim : s0.heap.NoLimit) (hx : s0.heap.get? x = some (excO C t0)) (room : A.depth < recursionLimit)
    (fin : ∀ h' tk dx, EvEnd s0.heap h' x C dx t0 u → R (.ok (.ret .none)) { s0 with heap := h', toks := tk }) :
    codeAny (model prog w) A (.call (.ref fI) ⟨[.ref x, u], []⟩) R s0 := by
  obtain ⟨oc, od, doc, pm, an, cdv, ct, osl, p1, p2, q1, q2, q3, q4, lk, code⟩ := Z.fn
  obtain ⟨cn, cq, cN, cb, cm, csn, csb, cab, ccol, cdd, j0, j1, j2, j3, j5, lkC, refs⟩ := Z.cls
  have cdat : clsIn K C = some { name := cn, bases := cb, mro := .ref C :: cm, ns := cN, qualname := cq, hasDict := true, slotNames := csn, subclasses := csb, abstract := cab, collection := ccol, hasDel := false } := by
    unfold clsIn
    rw [lkC] <;> rfl
  refine Att.call_fn (binds := [("self", .ref x), ("value", u)]) inK lim lk code room (BindsTo.of_eq (by first | rfl | with_unfolding_all rfl)) (by first | rfl | decide | with_unfolding_all rfl) (fun s1 inC => ?_) rfl rfl rfl
  obtain ⟨h1, tk1, rfl⟩ := inC.toInCall.same
  have kp : ∀ b o, s0.heap.get? b = some o → h1.get? b = some o := inC.toInCall.keep
  have hns := inC.toInCall.ns
  have inK1 : K.In h1 := inK.keeps kp
  have hx1 := kp _ _ hx
  show wpAny _ _ (execs _ _) _ _ _
  refine wpAny_execs_cons (plainObj_wpAny_Assign_Attribute ?_)
  refine ev_name (u := u) hns (by first | rfl | with_unfolding_all rfl | kernel_rfl) (ev_name (u := .ref x) hns (by first | rfl | with_unfolding_all rfl | kernel_rfl) ?_)
  refine set_plain inK1 (ox := excO C t0) (od := none) ⟨hx1, rfl, rfl, trivial⟩ Z.sa ?_
  refine exc_osa inK1 hx1 cdat (show refsVE (.ref C :: cm) = true from refs) rfl Z.noN (fun h3 tk3 dx kp3 dbig dne hx3 ns3 => ?_)
  show wpAny _ _ (execs _ _) _ _ _
  have lt : s0.heap.objs.size < h1.objs.size := hns.lt
  exact wpAny_execs_nil (fin h3 tk3 dx ⟨fun b o hb e => kp3 b o hb (kp b o e), hx3, Nat.le_of_lt (Nat.lt_of_lt_of_le lt dbig), dne, ns3⟩)
theorem ev_made (Z : EvTxt K C fI qi) {u : Value} (inK : K.In s0.heap) (lim : s0.heap.NoLimit) (room : A.depth + 1 < recursionLimit)
    (fin : ∀ h' tk e d, EvMade s0.heap h' e C d u → R (.ok (.ret (.ref e))) { s0 with heap := h', toks := tk }) :
    codeAny (model prog w) A (.call (.ref C) ⟨[u], []⟩) R s0 := by
  obtain ⟨cn, cq, cN, cb, cm, csn, csb, cab, ccol, cdd, j0, j1, j2, j3, j5, lkC, refs⟩ := Z.cls
  obtain ⟨hp, gn, dr, tk, os⟩ := s0
  have kp : ∀ b o, hp.get? b = some o → ((hp.push (kdv_tup [u])).push (excO C hp.objs.size)).get? b = some o := fun b o e => Heap.get?_push_of_some _ (Heap.get?_push_of_some _ e)
  have got : ((hp.push (kdv_tup [u])).push (excO C hp.objs.size)).get? (hp.objs.size + 1) = some (excO C hp.objs.size) := by heap_get
  refine call_own F.excBase_ValueError (fun Y => refsVE_contains Y cm refs) (inK _ _ lkC) (looks_findIn inK Z.iC) (fun self => bind_fn inK self Z.tC) (one_fits u) ?_
  refine ev_init (s0 := ⟨(hp.push (kdv_tup [u])).push (excO C hp.objs.size), gn, dr, tk, os⟩) Z (inK.keeps kp) (lim.keeps kp) got ?_ fun h' tk' dx made => ?_
  · show A.depth + 1 < recursionLimit
    exact room
  · have old : ∀ b o, hp.get? b = some o → h'.get? b = some o := fun b o e => made.keep b o (Nat.ne_of_lt (Nat.lt_succ_of_lt (Heap.lt_size e))) (kp b o e)
    have far : hp.objs.size + 1 + 1 ≤ dx := by
      have q := made.dbig
      first
        | exact q
        | (rw [Heap.size_push, Heap.size_push] at q; exact q)
        | simpa only [Heap.size_push] using q
    exact ⟨rfl, fin h' tk' (hp.objs.size + 1) dx ⟨old, Nat.le_succ _, ⟨_, _, made.obj, rfl, rfl, rfl⟩, Nat.le_trans (Nat.le_trans (Nat.le_succ _) (Nat.le_succ _)) far, made.dne, made.ns⟩⟩
end
end
theorem relO_ev {v : V} {u : Value} (r : RelV v u) (y : Str) : RelO (List.lookup y [(("value" : Str), v)]) (if y = "value" then some u else none) := by
  by_cases hy : y = "value"
  · subst hy
    rw [if_pos rfl, show List.lookup ("value" : Str) [(("value" : Str), v)] = some v by simp [List.lookup]]
    exact r
  · have ny : (y == ("value" : Str)) = false := by simpa using hy
    rw [if_neg hy, show List.lookup y [(("value" : Str), v)] = none by simp [List.lookup, ny]]
    trivial
section
variable {X : Cx} {C fI : Addr} {qi : Str}
/-- C(e): the error's own dict is new -/
def tEv (C : Addr) (ta : TA) : L2.St → Hp → XK → Prop := fun sl H Q => ta sl H fun vs H1 => ∃ v, vs = [v] ∧ ∀ d, H1 d = none → Q (.ref C) (some d) (upd H1 d (.xd [(("value" : Str), v)]))
theorem pmk_ev {nm : Str} {a : Expr} {ta : TA} {p pos : Pos} {k : Nat} (Z : EvTxt X.K C fI qi) (hm : X.mg nm = some (.ref C)) (room : Room k X.A) (ha : PA X [a] ta) (hg : Gl X nm) (dbg : (nm == ("__debug__" : Str)) = false := by decide)
    (hst : starEach (a :: []) X.env = (false, eval a X.env) :: starEach [] X.env := by rfl) (hpl : (backTo pos (starEach [] X.env)).any (·.1) = false := by rfl) :
    L2N.PMk X (.Call (.Name nm p) [a] [] pos) (tEv C ta) := by
  intro pins st sl H Q inv want
  refine wpAny_Call_Name_kw (ld_glob inv hg hm ?_ dbg)
  refine PySem.W.callWith_K (h₀ := X.base) inv.ok.mod.kin Z.kC (thn (ha.run pos pins st sl H _ inv want) fun us st1 got => ?_) hst hpl
  obtain ⟨vs, H1, inv1, rel, v, ev, q⟩ := got
  subst ev
  refine ⟨inv1.kIn, ?_⟩
  obtain ⟨u, rfl, rv⟩ := vals1 rel
  show wpAny _ _ (call (.ref C) [u]) _ _ _
  have lim := inv1.nolimit
  obtain ⟨hp, gn, dr, tk, os⟩ := st1
  refine wpAny_call (ev_made Z inv1.kIn lim (by have := room.dp; omega) fun h' tk' e d made => ?_)
  show L2N.MkP X pins sl Q (.ref e) ⟨h', gn, dr, tk', os⟩
  obtain ⟨oe, t1, hoe, ec, ed, edat⟩ := made.obj
  obtain ⟨G, g1, g2⟩ := restrict h' fun b => decide (b ≠ e)
  have same : ∀ b, b ≠ e → G.get? b = h'.get? b := fun b hb => g1 b (decide_eq_true hb)
  have gone : G.get? e = none := g2 e (by simp)
  have old : ∀ b o, hp.get? b = some o → G.get? b = some o := fun b o z => (same b (Nat.ne_of_lt (Nat.lt_of_lt_of_le (Heap.lt_size z) made.new))).trans (made.keep b o z)
  have ok : ObjOk X.prog X.w (upd H1 d (.xd [(("value" : Str), v)])) G d (.xd [(("value" : Str), v)]) := ⟨_, made.ns.at fun o z => (same d made.dne).trans z, fun y => relO_ev rv y⟩
  have inv2 : Inv X pins sl (upd H1 d (.xd [(("value" : Str), v)])) ⟨G, gn, dr, tk', os⟩ := inv1.laid (t' := tk') old made.dbig ok
  refine ⟨e, oe, _, ⟨G, gn, dr, tk', os⟩, _, .ref C, some d, rfl, inv2, fun b o z => ?_, gone, hoe, ⟨ec, ed, fun vs hv => ?_⟩, edat, rfl, ?_, rfl, inv1.bare, raises_own Z.exC Z.tyC, q d (inv1.hok.fresh made.dbig)⟩
  · by_cases hb : b = e
    · have z' : G.get? b = some o := z
      rw [hb, gone] at z'
      cases z'
    · exact (same b hb).symm.trans z
  · rw [edat] at hv
    cases hv
    rfl
  · rw [upd_ne (Ne.symm made.dne)]
    exact inv1.hok.fresh made.new
/-- raise C(e) -/
theorem ps_ev {nm : Str} {a : Expr} {ta : TA} {W : WX} {p pos pos2 : Pos} {k : Nat} (calm : X.calm = true) (Z : EvTxt X.K C fI qi) (hm : X.mg nm = some (.ref C)) (room : Room k X.A) (tk : L2N.Takes X W) (ha : PA X [a] ta) (hg : Gl X nm) (dbg : (nm == ("__debug__" : Str)) = false := by decide)
    (hst : starEach (a :: []) X.env = (false, eval a X.env) :: starEach [] X.env := by rfl) (hpl : (backTo pos (starEach [] X.env)).any (·.1) = false := by rfl) :
    PS X (.Raise (some (.Call (.Name nm p) [a] [] pos)) none pos2) (fun _ sl H => tEv C ta sl H fun cls d H' => W cls d sl H') := L2N.ps_raise calm tk (pmk_ev Z hm room ha hg dbg hst hpl)
end
/-! ### err_hot.lean -/
/-! calls while an error is handled: p, the error's address and object, stands in the context -/
structure FnP (P : Program) (w : World) (K : PySem.W.Frag) (mg : Str → Option Value) (base : Heap) (CX : CXT) (k : Nat) (f : Addr) (fd : FuncData) (ps : List Str) (sp : Addr × Obj → Sp) : Prop where
  len : ∀ p vs H Q E, sp p vs H Q E → vs.length = ps.length
  go : ∀ (A : Around) (out : List Env) (st : Shared) (H : Hp) (as : Args) (us : List Value) (vs : List V) (Q : VK) (E : XK) (p : Addr × Obj), A.guards = some [] → L2H.RoomH k A → L2H.Hot1 A p → L2H.PinOk out H st p → Env0 P w K mg base A out st H →
    BindsTo st fd as (ps.zip us) → Vals vs us → sp p vs H Q E → codeAny (model P w) A (.call (.ref f) as) (CR CX out P w H st Q E) st
section
variable {P : Program} {w : World} {K : PySem.W.Frag} {mg : Str → Option Value} {base : Heap} {CX : CXT} {k : Nat} {f : Addr} {fd : FuncData} {ps : List Str} {sp : Addr × Obj → Sp}
theorem okP {x qual : Str} {st : Stmt} {N : List Str} (F : Fun K x qual st f fd) (S : FnScope N ps (defScope st)) (len : ∀ p vs H Q E, sp p vs H Q E → vs.length = ps.length)
    (walk : ∀ (cdv : Value) (A : Around) (out : List Env) (s : Shared) (H : Hp) (vs : List V) (Q : VK) (E : XK) (p : Addr × Obj), A.guards = some [] → L2H.Hot1 A p → L2H.RoomH k (A.deeper (envOfC qual (defScope st) s.heap.objs.size f cdv)) → sp p vs H Q E →
      ∃ t, PSs (L2H.cxH CX0 P w K mg base N qual (defScope st) f cdv A out s H E p).nox (defBody st) t ∧ t { nx := fun _ H' => Q .non H', rt := Q } (start N vs) H) :
    FnP P w K mg base CX0 (k + 1) f fd ps sp := by
  obtain ⟨_, _, _, _, _, _, cdv, _, _, e, lk, code⟩ := F.ex
  subst e
  refine ⟨len, ?_⟩
  intro A out s H as us vs Q E p gds room hot pin env binds vals want
  have size := len _ _ _ _ _ want
  have lim : s.heap.NoLimit := env.mod.nolimit.keeps fun b o e => (env.bs b o e).1
  have inK : K.In s.heap := env.mod.kin.keeps fun b o e => (env.bs b o e).1
  have kinds : ∀ y ∈ ps.zip us, (defScope st).names.lookup y.1 = some .local ∨ ((defScope st).names.lookup y.1 = some .cell ∧ ((cellsFrom (s.heap.objs.size + 1) (defScope st).names []).lookup y.1).isSome = true) := by
    rintro ⟨n, v⟩ mem
    cases S.par n (List.of_mem_zip mem).1 with
    | inl loc => exact Or.inl loc
    | inr cel => exact Or.inr ⟨cel, PySem.W.cellsFrom_some _ _ _ (Or.inl cel)⟩
  refine codeAny_call_function room.depth (inK _ _ lk) rfl S.co S.gen rfl (PySem.W.codeRec_of inK code) (binds _ _ _ _ ?_)
  refine wpAny_newFunctionEnv_cells S.kind kinds fun en hen s1 inn => ?_
  subst hen
  refine ⟨lim.keeps inn.toInCall.keep, codeAny_func ?_⟩
  obtain ⟨t, term, read⟩ := walk cdv A out s H vs Q E p gds hot (room.deeper _) want
  have inv := L2H.inv_startH (CX := CX0) (E := E) S pin env size vals inn
  refine wpAny_mono (term.nox.run [] s1 (start N vs) H _ inv read) (fun fl s' hs => ?_) fun _ _ hs => hs
  have done : ∀ {sl' : L2.St} {H' : Hp} {v : V} {u : Value}, Inv (L2H.cxH CX0 P w K mg base N qual (defScope st) f cdv A out s H E p) [] sl' H' s' → RelV v u → Q v H' → CE out P w H s Q u s' := by
    intro sl' H' v u J rel q
    exact ⟨v, H', J.os, J.bare, J.base, J.hok, rel, q⟩
  cases fl with
  | next =>
    obtain ⟨_, _, J, q⟩ := hs
    exact done (v := V.non) (u := Value.none) J rfl q
  | ret u =>
    obtain ⟨_, _, _, J, rel, q⟩ := hs
    exact done J rel q
  | brk => exact (hs.choose_spec.choose_spec.2).elim
  | cont => exact (hs.choose_spec.choose_spec.2).elim
end
section
variable {X : Cx} {k : Nat} {f : Addr} {fd : FuncData} {ps : List Str} {sp : Addr × Obj → Sp} {x : Str} {p : Addr × Obj} {ep pos : Pos} {e : Expr} {es : List Expr} {t : TA}
theorem pin_at {pins : List (Addr × Obj)} {sl : L2.St} {H : Hp} {s : Shared} (inv : Inv X pins sl H s) (mem : p ∈ X.pn) : L2H.PinOk X.stack H s p := by
  obtain ⟨h1, h2, h3, h4, h5⟩ := inv.pin p (List.mem_append_left _ mem)
  exact ⟨h1, h2, fun m => (List.mem_cons.mp (inv.stkSub p.1 m)).elim h3 h4, h5⟩
theorem goP {pins : List (Addr × Obj)} {sl : L2.St} {H : Hp} {s : Shared} {Q : VK} {us : List Value} {vs : List V} (F : FnP X.prog X.w X.K X.mg X.base CX0 k f fd ps sp) (gds : X.A.guards = some []) (room : L2H.RoomH k X.A) (hot : L2H.Hot1 X.A p) (mem : p ∈ X.pn)
    (inv : Inv X pins sl H s) (b : BindsTo s fd ⟨us, []⟩ (ps.zip us)) (r : Vals vs us) (want : sp p vs H Q E0) : wpAny (model X.prog X.w) X.A (call (.ref f) us) (EP X pins sl Q) X.xe s := by
  refine wpAny_call (codeAny_mono (F.go X.A X.stack s H ⟨us, []⟩ us vs Q E0 p gds room hot (pin_at inv mem) inv.env0 b r want) fun r s' got => ?_)
  cases r with
  | error e => exact got.elim
  | ok fl =>
    cases fl with
    | ret u => exact inv.after got
    | next => exact got.elim
    | brk => exact got.elim
    | cont => exact got.elim
theorem callP (F : FnP X.prog X.w X.K X.mg X.base CX0 k f fd ps sp) (gds : X.A.guards = some []) (room : L2H.RoomH k X.A) (hot : L2H.Hot1 X.A p) (mem : p ∈ X.pn) (hg : Gl X x) (hm : X.mg x = some (.ref f)) (hk : PySem.W.keepIn X.K (.ref f) = true) (hb : Binds X.K fd ps [])
    (ha : PA X (e :: es) t) (hdb : (x == ("__debug__" : Str)) = false := by decide) (he : starEach (e :: es) X.env = (false, eval e X.env) :: starEach es X.env := by rfl) (hpl : (backTo pos (starEach es X.env)).any (·.1) = false := by rfl) :
    PE X (.Call (.Name x ep) (e :: es) [] pos) (fun sl H Q => t sl H fun vs H1 => sp p vs H1 Q E0) := by
  constructor
  intro pins s sl H Q inv want
  refine wpAny_Call_Name_kw (ld_glob inv hg hm ?_ hdb)
  refine PySem.W.callWith_K (h₀ := X.base) inv.ok.mod.kin hk (thn (ha.run pos pins s sl H _ inv want) ?_) he hpl
  rintro us s1 ⟨vs, H1, inv1, rel, q⟩
  refine ⟨inv1.kIn, ?_⟩
  have sz : us.length = ps.length := rel.length.symm.trans (F.len _ _ _ _ _ q)
  have b := hb s1 us inv1.kIn (by rw [List.append_nil]; exact sz)
  rw [List.append_nil] at b
  exact goP F gds room hot mem inv1 b rel q
end
/-! isinstance of the error that is handled -/
structure ErIs (K : PySem.W.Frag) (D : Addr) : Prop where
  cl : (PySem.W.clsIn K D).isSome = true
  ga : PySem.W.findIn K (.ref D) "__getattribute__" = some (some (.builtin "BaseException.__getattribute__"))
  gg : PySem.W.findIn K (.ref D) "__getattr__" = some none
  sub : PySem.W.subIn K (.ref D) (.type "BaseException") = some true
  ca : PySem.W.findIn K (.ref D) "__class__" = some (some (.builtin "object.__class__"))
  cn : PySem.W.specialIn K (.builtin "object.__class__") "__get__" = some (some (.builtin "getset_descriptor.__get__"))
  ct : PySem.W.takesIn K (.builtin "object.__class__") = some true
  cm : PySem.W.mroIn K D (.type "object") = some true
def rIsX (K : PySem.W.Frag) (D a dd : Addr) : List V → Hp → VK → Prop := fun xs H Q => ∃ (c : V) (cv : Value) (b : Bool) (fs : List (Str × V)), xs = [.ref a, c] ∧ (∀ u, RelV c u → u = cv) ∧ PySem.W.kitOne K (.ref D) cv = some b ∧ H dd = some (.xd fs) ∧ Q (.bl b) H
theorem call_isX {X : Cx} {a D dd : Addr} {oe : Obj} (Z : ErIs X.K D) (mem : (a, oe) ∈ X.pn) (hz : Zc (.ref D) (some dd) oe) (hf : ∃ vs, oe.data = .fields vs) : CallR X (.builtin "isinstance") (rIsX X.K D a dd) := by
  intro pins s sl H xs us Q inv r want
  obtain ⟨c, cv, b, fs, rfl, hcv, ans, hd, q⟩ := want
  obtain ⟨u1, u2, rfl, r1, r2⟩ := vals2 r
  obtain rfl : u1 = Value.ref a := r1
  obtain rfl := hcv u2 r2
  have at_ := (inv.pin (a, oe) (List.mem_append_left _ mem)).1
  obtain ⟨vs, hv⟩ := hf
  obtain ⟨mA, ns, _⟩ := (show ObjOk X.prog X.w H s.heap dd (.xd fs) from inv.hok dd _ hd)
  obtain ⟨od, ho, _⟩ := lookIn_ns ns
  have inst : PySem.W.InstAt s.heap a oe D (some od) := ⟨at_, hz.1, by unfold PySem.W.notCls; rw [hv] <;> rfl, by rw [hz.2]; exact ho⟩
  exact PySem.W.kia_one (PySem.W.kitx_exc (od := some od) Z.cl Z.ga Z.gg Z.sub Z.ca Z.cn Z.ct Z.cm) inv.kIn inst ans (fun z => nomatch z) fun tk => ⟨.bl b, H, inv.kept (t' := tk) fun _ _ z => z, rfl, q⟩
/-! xs.count(b) of a list of bools -/
theorem bools_of {us : List Value} {bs : List Bool} (r : Vals (bs.map V.bl) us) : us = bs.map Value.bool := by
  induction bs generalizing us with
  | nil => cases r; rfl
  | cons b bs ih =>
    cases r with
    | cons rv r =>
      rw [ih r]
      have e : _ = Value.bool b := rv
      rw [e]
      rfl
theorem readsB (h : Heap) : ∀ bs : List Bool, ∃ as, ReadsAll h (bs.map Value.bool) (bs.map PyData.bool) as
  | [] => ⟨_, ReadsAll.nil⟩
  | b :: bs => ⟨_, ReadsAll.cons (Reads.bool b) (readsB h bs).choose_spec⟩
theorem count_b (k : Bool) : ∀ bs : List Bool, countIn (.bool k) (bs.map PyData.bool) = ((bs.count k : Nat) : Int)
  | [] => rfl
  | b :: bs => by
    have ih := count_b k bs
    rw [List.map_cons, countIn, ih, List.count_cons]
    have e : same (.bool b) (.bool k) = (b == k) := by simp only [same]
    rw [e]
    cases (b == k) <;> simp <;> omega
theorem all_b : ∀ bs : List Bool, (bs.map PyData.bool).all Shape.bool.has = true
  | [] => rfl
  | _ :: bs => all_b bs
def rCntB (K : PySem.W.Frag) : V → List V → Hp → VK → Prop := fun x xs H Q => ∃ (p : Addr) (bs : List Bool) (k : Bool), x = .ref p ∧ xs = [.bl k] ∧ SqL K H p (bs.map V.bl) ∧ Q (.int (bs.count k : Nat)) H
theorem mt_countB {X : Cx} : MtR X "list.count" (rCntB X.K) := by
  intro pins s sl H x xs v us Q inv rx rxs want
  obtain ⟨p, bs, k, rfl, rfl, hs, q⟩ := want
  cases rx
  obtain ⟨u, rfl, ru⟩ := rxs.one
  obtain rfl : u = Value.bool k := ru
  obtain ⟨its, rv, pl, _⟩ := inv.list hs
  have e := bools_of rv
  subst e
  obtain ⟨as, ra⟩ := readsB s.heap bs
  refine PyProof.Rows.count_list_bools pl.isList ra (all_b bs) ?_
  rw [count_b]
  exact ⟨.int (bs.count k : Nat), H, inv.tok _, ⟨s.toks, rfl⟩, q⟩
/-! ### err_try.lean -/
/-! try: body / except t as n: suite / .. : each test a class or a tuple of two or three -/
theorem flying_keeps {B : Heap} {l : List Env} {a : Addr} {Z : Obj → Prop} {h h' : Heap} (fl : HandSPX.FlyingZ B l a Z h) (kp : ∀ b o, h.get? b = some o → h'.get? b = some o) : HandSPX.FlyingZ B l a Z h' := by
  obtain ⟨h1, h2, h3, oe, vs, T, oT, ts, t1, t2, t3, t4, t5, t6, t7, t8, t9⟩ := fl
  exact ⟨fun b o e => kp _ _ (h1 b o e), h2, h3.of_keeps fun b o e _ => ⟨o, kp _ _ e, rfl⟩, oe, vs, T, oT, ts, kp _ _ t1, t2, t3, t4, t5, t6, kp _ _ t7, t8, t9⟩
/-- what a clause's test asks of the error's class -/
inductive TestOf (X : Cx) : Expr → (Value → Option Bool) → Prop where
  | one {x : Str} {c : Value} {np : Pos} (h : Names X x c) : TestOf X (.Name x np) (fun cls => PySem.W.exmOne X.K cls c)
  | two {x1 x2 : Str} {c1 c2 : Value} {p1 p2 tp : Pos} {kk : Nat} (h1 : Names X x1 c1) (h2 : Names X x2 c2) : TestOf X (.Tuple [.Name x1 p1, .Name x2 p2] kk tp) (fun cls => PySem.W.exmAny X.K cls [c1, c2])
  | three {x1 x2 x3 : Str} {c1 c2 c3 : Value} {p1 p2 p3 tp : Pos} {kk : Nat} (h1 : Names X x1 c1) (h2 : Names X x2 c2) (h3 : Names X x3 c3) : TestOf X (.Tuple [.Name x1 p1, .Name x2 p2, .Name x3 p3] kk tp) (fun cls => PySem.W.exmAny X.K cls [c1, c2, c3])
section
variable {X : Cx} {a : Addr} {oe : Obj} {pn pins : List (Addr × Obj)} {sl : L2.St} {H : Hp} {s : Shared}
theorem name_run {x : Str} {c : Value} {np : Pos} {Q E : Value → Shared → Prop} (h : Names X x c) (inv : Inv (X.suite a ((a, oe) :: pn)) pins sl H s) (q : Q c s) : wpAny (model X.prog X.w) (X.A.mark (some (.ref a))) (eval (.Name x np) X.env) Q E s := by
  obtain ⟨hg, dbg, hm | ⟨hm, hv, nn⟩⟩ := h
  · exact ld_glob (X := X.suite a ((a, oe) :: pn)) inv hg hm q dbg
  · exact ld_blt (X := X.suite a ((a, oe) :: pn)) inv hg hm hv q nn dbg
theorem test_run {t : Expr} {m : Value → Option Bool} {cls : Value} {b : Bool} (T : TestOf X t m) (inv : Inv (X.suite a ((a, oe) :: pn)) pins sl H s) (he : s.heap.get? a = some oe) (hc : oe.cls = cls) (hm : m cls = some b) {Q : Bool → Shared → Prop} {E : Value → Shared → Prop}
    (q : ∀ h', (∀ y o, s.heap.get? y = some o → h'.get? y = some o) → Q b { s with heap := h' }) :
    wpAny (model X.prog X.w) (X.A.mark (some (.ref a))) (eval t X.env) (fun c s1 => wpAny (model X.prog X.w) (X.A.mark (some (.ref a))) (excMatches (.ref a) c) Q E s1) E s := by
  have cl : ∀ {h' : Heap}, (∀ y o, s.heap.get? y = some o → h'.get? y = some o) → PySem.W.Looks (model X.prog X.w) h' (typeOf (.ref a)) cls := fun kp A Q E s' k z => wpAny_typeOf_ref (k _ _ (kp _ _ he)) (by rw [hc]; exact z)
  cases T with
  | one h => exact name_run h inv ((PySem.W.exm_one inv.kIn (cl fun _ _ z => z) hm).here (q s.heap fun _ _ z => z))
  | @two x1 x2 c1 c2 p1 p2 tp kk h1 h2 =>
    refine wpAny_Tuple (wpAny_items_cons (name_run h1 inv (wpAny_items_cons (name_run h2 inv (wpAny_items_nil ⟨by size_fits, ?_⟩)))))
    have kp : ∀ y o, s.heap.get? y = some o → (s.heap.push { cls := .type "tuple", data := .seq [c1, c2].toArray }).get? y = some o := fun _ _ z => Heap.get?_push_of_some _ z
    exact (PySem.W.exm_tup2 (inv.kIn.keeps kp) (cl kp) (Heap.get?_push_size s.heap rfl) hm).here (q _ kp)
  | @three x1 x2 x3 c1 c2 c3 p1 p2 p3 tp kk h1 h2 h3 =>
    refine wpAny_Tuple (wpAny_items_cons (name_run h1 inv (wpAny_items_cons (name_run h2 inv (wpAny_items_cons (name_run h3 inv (wpAny_items_nil ⟨by size_fits, ?_⟩)))))))
    have kp : ∀ y o, s.heap.get? y = some o → (s.heap.push { cls := .type "tuple", data := .seq [c1, c2, c3].toArray }).get? y = some o := fun _ _ z => Heap.get?_push_of_some _ z
    exact (PySem.W.exm_tup3 (inv.kIn.keeps kp) (cl kp) (Heap.get?_push_size s.heap rfl) hm).here (q _ kp)
end
abbrev Clause : Type := (Value → Option Bool) × Nat × (Addr → Value → Option Addr → TS)
inductive Clauses (X : Cx) : List ExceptHandler → List Clause → Prop where
  | nil : Clauses X [] []
  | cons {t : Expr} {m : Value → Option Bool} {n : Str} {i : Nat} {ts : Addr → Value → Option Addr → TS} {b₀ : Stmt} {suite : List Stmt} {pos' : Pos} {hds : List ExceptHandler} {l : List Clause} (T : TestOf X t m) (hi : X.N[i]? = some n) (hl : X.env.kindOf n = some .local)
      (su : ∀ (a : Addr) (oe : Obj) (cls : Value) (d : Option Addr) (pn : List (Addr × Obj)), L2N.Zn cls d oe → (∃ vs, oe.data = .fields vs) → PSs (X.suite a ((a, oe) :: pn)) (b₀ :: suite) (ts a cls d)) (r : Clauses X hds l) :
      Clauses X (.ExceptHandler (some t) (some n) (b₀ :: suite) pos' :: hds) ((m, i, ts) :: l)
def wClauses (Wout : WX) (D : Ends) : List Clause → WX
  | [] => Wout
  | (m, i, ts) :: r => fun cls d sl H => ∃ b, m cls = some b ∧
      (b = true → ∀ a, H a = none → ts a cls d { nx := fun sl' H' => D.nx (sl'.set i none) H', rt := D.rt, bk := fun sl' H' => D.bk (sl'.set i none) H', ct := fun sl' H' => D.ct (sl'.set i none) H' } (sl.set i (some (.ref a))) H) ∧ (b = false → wClauses Wout D r cls d sl H)
section
variable {X : Cx} {body : List Stmt} {h₀ : ExceptHandler} {hds : List ExceptHandler} {l : List Clause} {pos : Pos} {tb : WX → TS} {Wout : WX}
theorem ps_tries (hst : X.stack = X.env :: X.outer) (hfr : X.env.frame = some X.env.locals) (nd : X.N.Nodup) (tk : L2N.Takes X Wout)
    (hb : ∀ (W : WX) (pn : List (Addr × Obj)) (xe : Value → Shared → Prop), L2N.Takes (X.tr pn xe) W → PassesOwn (model X.prog X.w) X.A X.env xe → PSs (X.tr pn xe) body (tb W))
    (cl : Clauses X (h₀ :: hds) l) : PS X (.Try body (h₀ :: hds) [] [] pos) (fun D sl H => tb (wClauses Wout D l) D sl H) := by
  refine ⟨fun pins st sl H D inv want => ?_⟩
  have ok := inv.ok
  have frames : X.A.frames = some (X.env :: X.outer) := by rw [ok.frames, hst]
  refine wpAny_Try_except ?_
  refine wpAny_mono ((hb (wClauses Wout D l) (X.pn ++ pins) (fun e s1 => wpAny (model X.prog X.w) X.A (noteFrame e X.env) (fun _ s2 => wpAny (model X.prog X.w) X.A (setFlight e none) (fun _ s3 =>
    wpAny (model X.prog X.w) X.A (handleBy e X.env (h₀ :: hds)) (SP X pins D) X.xe s3) X.xe s2) X.xe s1) (fun u s' air => ?_) PassesOwn.looking).run [] st sl H D (inv.toTry _) want) (fun f s1 got => ?_) (fun e s1 he => he)
  · obtain ⟨a, B, sI, pins', sl', H', cls, d, rfl, invT, nb, up, sky, na, os, ag, wish⟩ := air
    have invI : Inv X pins sl' H' sI := invT.ofTry ok
    have sky' : Sky B (X.env :: X.outer) a (L2N.Zn cls d) X.env.locals s'.heap := by rw [← hst]; exact sky
    show wpAny (model X.prog X.w) X.A (noteFrame (.ref a) X.env) _ _ _
    refine L2N.Sky.land L2N.Zn.steady frames hfr sky' fun hL flL upL => ?_
    -- the error stands beside what is tracked, in every later heap
    have notFr : ∀ {h : Heap} {o : Obj} {vs : Array Value}, h.FunFrames B (X.env :: X.outer) → h.get? a = some o → o.data = .fields vs → a ∉ frs (X.env :: X.outer) := fun ff e dd hm => by
      obtain ⟨_, o', e', hnf⟩ := ff.mem hm
      rw [e] at e'
      cases e'
      exact hnf _ dd
    have away : ∀ {h : Heap}, HandSPX.FlyingZ B (X.env :: X.outer) a (L2N.Zn cls d) h → a ≠ X.env.locals ∧ a ∉ X.fs := fun fl => by
      obtain ⟨o, vs, e, _, dd⟩ := fl.there
      have nfr := notFr fl.2.2.1 e dd
      refine ⟨fun z => nfr (List.mem_filterMap.mpr ⟨X.env, List.mem_cons_self, by rw [hfr, z]⟩), fun hm => ?_⟩
      obtain ⟨en, hen, q⟩ := List.mem_filterMap.mp hm
      exact nfr (List.mem_filterMap.mpr ⟨en, List.mem_cons_of_mem _ hen, q⟩)
    have go : ∀ {hs : List ExceptHandler} {l' : List Clause}, Clauses X hs l' → ∀ h3, HandSPX.FlyingZ B (X.env :: X.outer) a (L2N.Zn cls d) h3 → sI.heap.UpToSlots h3 → wClauses Wout D l' cls d sl' H' →
        wpAny (model X.prog X.w) X.A (handleBy (.ref a) X.env hs) (SP X pins D) X.xe { s' with heap := h3 } := by
      intro hs l' hk
      induction hk with
      | nil =>
        intro h3 fl up3 w
        refine wpAny_handleBy_nil ?_
        obtain ⟨_, _, _, oe, vs, T, oT, ts', he, _, hd, h1, _⟩ := id fl
        unfold PySem.passOn
        refine wpAny_bind (wpAny_field he hd h1 ?_)
        rw [if_neg (show ¬ ((Value.ref T == Value.none) = true) from by simp)]
        have fin : wpAny (model X.prog X.w) X.A (setFlight (.ref a) X.env.frame) (fun _ s4 => wpAny (model X.prog X.w) X.A (throw (.ref a) : Sem Flow) (SP X pins D) X.xe s4) X.xe { s' with heap := h3 } := by
          rw [hfr]
          refine HandSPX.setFlight_upZ fl fun h4 held up4 => wpAny_throw (tk _ _ ?_)
          exact ⟨a, B, sI, pins, sl', H', cls, d, rfl, invI, nb, up3.trans up4, .inr (.inr (by rw [hst]; exact held)), na, os, ag, w⟩
        first
          | exact wpAny_bind (wpAny_pure (wpAny_bind fin))
          | exact wpAny_bind fin
      | @cons t m n i ts b₀ suite pos' hds2 l2 T hi hl su r ih =>
        intro h3 fl up3 w
        obtain ⟨b, hm, yes, no⟩ := w
        obtain ⟨oe3, vs3, he3, hz3, hd3⟩ := fl.there
        obtain ⟨nL, nF⟩ := away fl
        have inv3 : Inv X pins sl' H' { s' with heap := h3 } := invI.landed nb fl.1 up3 os ag
        refine wpAny_handleBy_cons (codeAny_handlers_test ?_) (by intro q; cases q)
        refine test_run T (inv3.suite he3 hd3 na nL nF) he3 hz3.1 hm fun h4 kp => ?_
        have fl4 := flying_keeps fl kp
        have up4 : sI.heap.UpToSlots h4 := up3.trans (Heap.UpToSlots.of_keeps kp)
        cases b with
        | true =>
          refine codeAny_handlers_suite_as ?_
          refine HandSPX.lands_againZ fl4 fun h5 fl5 up5 => ?_
          have inv5 : Inv X pins sl' H' { s' with heap := h5 } := invI.landed nb fl5.1 (up4.trans up5) os ag
          obtain ⟨oe5, vs5, he5, hz5, hd5⟩ := fl5.there
          refine store_ok (X := X.suite a ((a, oe5) :: (X.pn ++ pins))) (v := .ref a) (inv5.suite he5 hd5 na nL nF) nd hi (.inl hl) rfl (fun s6 inv6 => ?_) (.inr hl)
          refine wpAny_mono ((su a oe5 cls d (X.pn ++ pins) hz5 ⟨_, hd5⟩).run [] s6 _ H' _ inv6 (yes rfl a na)) (fun f s7 got => ?_) (fun _ _ z => False.elim z)
          have fin : ∀ {sl7 : L2.St} {H7 : Hp} {Q : Shared → Prop}, Inv (X.suite a ((a, oe5) :: (X.pn ++ pins))) [] sl7 H7 s7 → (∀ s8, Inv X pins (sl7.set i none) H7 s8 → Q s8) →
              wpAny (model X.prog X.w) X.A (do bindName X.env n .none; unbindBehindTheSuite X.env n pos') (fun _ s8 => Q s8) X.xe s7 := fun inv7 q => gone_ok (inv7.unsuite ok) nd hi hl q
          cases f with
          | next =>
            obtain ⟨_, _, inv7, q⟩ := got
            exact fin inv7 fun s8 J => ⟨_, _, J, q⟩
          | brk =>
            obtain ⟨_, _, inv7, q⟩ := got
            exact fin inv7 fun s8 J => ⟨_, _, J, q⟩
          | cont =>
            obtain ⟨_, _, inv7, q⟩ := got
            exact fin inv7 fun s8 J => ⟨_, _, J, q⟩
          | ret u =>
            obtain ⟨_, _, _, inv7, rv, q⟩ := got
            exact fin inv7 fun s8 J => ⟨_, _, _, J, rv, q⟩
        | false =>
          show wpAny _ X.A (handleBy (.ref a) X.env hds2) _ _ _
          exact ih h4 fl4 up4 (no rfl)
    exact go cl hL flL (up.trans upL) wish
  · cases f with
    | next =>
      obtain ⟨_, _, J, q⟩ := got
      exact wpAny_execs_nil ⟨_, _, J.ofTry ok, q⟩
    | brk =>
      obtain ⟨_, _, J, q⟩ := got
      exact ⟨_, _, J.ofTry ok, q⟩
    | cont =>
      obtain ⟨_, _, J, q⟩ := got
      exact ⟨_, _, J.ofTry ok, q⟩
    | ret u =>
      obtain ⟨_, _, _, J, rv, q⟩ := got
      exact ⟨_, _, _, J.ofTry ok, rv, q⟩
end
/-! ### err_kind.lean -/
/-! the law's number of an error's class; what it catches -/
/-- where the classes of errors stand: the twenty by their numbers, then the three bases -/
structure ErNames (mg : Str → Option Value) (c : Nat → Addr) : Prop where
  m0 : mg "InvalidFraction" = some (.ref (c 0))
  m1 : mg "InvalidSize" = some (.ref (c 1))
  m2 : mg "InvalidBox" = some (.ref (c 2))
  m3 : mg "InvalidKeep" = some (.ref (c 3))
  m4 : mg "InvalidTimes" = some (.ref (c 4))
  m5 : mg "InvalidStep" = some (.ref (c 5))
  m6 : mg "InvalidSteps" = some (.ref (c 6))
  m7 : mg "InvalidChain" = some (.ref (c 7))
  m8 : mg "InvalidText" = some (.ref (c 8))
  m9 : mg "InvalidKind" = some (.ref (c 9))
  m10 : mg "InvalidRecords" = some (.ref (c 10))
  m11 : mg "InvalidName" = some (.ref (c 11))
  m12 : mg "InvalidDeeds" = some (.ref (c 12))
  m13 : mg "InvalidLine" = some (.ref (c 13))
  m14 : mg "NoStep" = some (.ref (c 14))
  m15 : mg "UnknownName" = some (.ref (c 15))
  m16 : mg "NameTaken" = some (.ref (c 16))
  m17 : mg "NothingToUndo" = some (.ref (c 17))
  m18 : mg "TooManySteps" = some (.ref (c 18))
  m19 : mg "TooManyDeeds" = some (.ref (c 19))
  m20 : mg "PictureError" = some (.ref (c 20))
  m21 : mg "FindError" = some (.ref (c 21))
  m22 : mg "LimitError" = some (.ref (c 22))
/-- the error's class D is the k-th -/
structure ErKind (K : PySem.W.Frag) (c : Nat → Addr) (D : Addr) (k : Nat) : Prop where
  o0 : PySem.W.kitOne K (.ref D) (.ref (c 0)) = some (decide (0 = k))
  o1 : PySem.W.kitOne K (.ref D) (.ref (c 1)) = some (decide (1 = k))
  o2 : PySem.W.kitOne K (.ref D) (.ref (c 2)) = some (decide (2 = k))
  o3 : PySem.W.kitOne K (.ref D) (.ref (c 3)) = some (decide (3 = k))
  o4 : PySem.W.kitOne K (.ref D) (.ref (c 4)) = some (decide (4 = k))
  o5 : PySem.W.kitOne K (.ref D) (.ref (c 5)) = some (decide (5 = k))
  o6 : PySem.W.kitOne K (.ref D) (.ref (c 6)) = some (decide (6 = k))
  o7 : PySem.W.kitOne K (.ref D) (.ref (c 7)) = some (decide (7 = k))
  o8 : PySem.W.kitOne K (.ref D) (.ref (c 8)) = some (decide (8 = k))
  o9 : PySem.W.kitOne K (.ref D) (.ref (c 9)) = some (decide (9 = k))
  o10 : PySem.W.kitOne K (.ref D) (.ref (c 10)) = some (decide (10 = k))
  o11 : PySem.W.kitOne K (.ref D) (.ref (c 11)) = some (decide (11 = k))
  o12 : PySem.W.kitOne K (.ref D) (.ref (c 12)) = some (decide (12 = k))
  o13 : PySem.W.kitOne K (.ref D) (.ref (c 13)) = some (decide (13 = k))
  o14 : PySem.W.kitOne K (.ref D) (.ref (c 14)) = some (decide (14 = k))
  o15 : PySem.W.kitOne K (.ref D) (.ref (c 15)) = some (decide (15 = k))
  o16 : PySem.W.kitOne K (.ref D) (.ref (c 16)) = some (decide (16 = k))
  o17 : PySem.W.kitOne K (.ref D) (.ref (c 17)) = some (decide (17 = k))
  o18 : PySem.W.kitOne K (.ref D) (.ref (c 18)) = some (decide (18 = k))
  o19 : PySem.W.kitOne K (.ref D) (.ref (c 19)) = some (decide (19 = k))
  b0 : PySem.W.kitOne K (.ref D) (.ref (c 20)) = some (decide (k < 14))
  b1 : PySem.W.kitOne K (.ref D) (.ref (c 21)) = some (decide (13 < k) && decide (k < 18))
  b2 : PySem.W.kitOne K (.ref D) (.ref (c 22)) = some (decide (17 < k))
  p0 : PySem.W.kitOne K (.ref D) (.type "ValueError") = some (decide (k < 14))
  p1 : PySem.W.kitOne K (.ref D) (.type "LookupError") = some (decide (13 < k) && decide (k < 18))
  p2 : PySem.W.kitOne K (.ref D) (.type "ArithmeticError") = some (decide (17 < k))
  lt : k < 20
section
variable {P : Program} {w : World} {K : PySem.W.Frag} {mg : Str → Option Value} {base : Heap} {f : Addr} {fd : FuncData}
theorem scKind : FnScope ["_law_e", "_law_found", "_law_bases", "_law_own", "_law_at"] ["_law_e"] (defScope s_l_kind) := ⟨rfl, rfl, rfl, by decide +kernel, rfl, by decide +kernel, by decide +kernel⟩
def spKind (K : PySem.W.Frag) (c : Nat → Addr) (p : Addr × Obj) : Sp := fun vs H Q _ => ∃ (D dd : Addr) (k : Nat) (fs : List (Str × V)), vs = [.ref p.1] ∧ ErIs K D ∧ ErKind K c D k ∧ Zc (.ref D) (some dd) p.2 ∧ H dd = some (.xd fs) ∧ ∀ H', Same H H' → Q (.int k) H'
def kindB (k : Nat) : List Bool := (List.range 20).map fun i => decide (i = k)
theorem kindB_count : ∀ k, k < 20 → (kindB k).count true = 1 := by decide
theorem kindB_at : ∀ k, k < 20 → ((kindB k).map V.bl)[k]? = some (.bl true) := fun k h => by
  have e : (kindB k)[k]? = some true := (show ∀ k, k < 20 → (kindB k)[k]? = some true by decide) k h
  rw [List.getElem?_map, e]
  rfl
theorem kindB_no : ∀ k, k < 20 → ∀ m, m < k → (kindB k)[m]? = some false := by decide
theorem kindB_all (k : Nat) : ((kindB k).map V.bl).all flatV = true := by
  rw [List.all_map]
  exact List.all_eq_true.mpr fun _ _ => rfl
theorem bl3 {K : PySem.W.Frag} {H : Hp} {p : Addr} {a b c : Bool} (h : H p = some (.lst [.bl a, .bl b, .bl c])) : Dp K H (.ref p) (.list [.bool a, .bool b, .bool c]) := .lst (SqL.of h) (.cons (.bl _) (.cons (.bl _) (.cons (.bl _) .nil)))
theorem eqv_bls (a b c : Bool) : PyData.eqv (.list [.bool a, .bool b, .bool c]) (.list [.bool a, .bool b, .bool c]) = true := by revert a b c; decide +kernel
theorem roomU {k : Nat} {A : Around} (r : L2H.RoomH k A) : A.units + 64 < cLine := by have := r.un; omega
theorem ps_weakS {X : Cx} {st : Stmt} {t t' : TS} (h : PS X st t) (imp : ∀ D sl H, t' D sl H → t D sl H) : PS X st t' := ⟨fun pins s sl H D inv w => h.run pins s sl H D inv (imp D sl H w)⟩
/-- the i-th name becomes a new list of these items -/
def wNew (i e dd : Nat) (a : Addr) (fs : List (Str × V)) (items : List V) : TS := fun D sl H => sl[e]? = some (some (.ref a)) ∧ H dd = some (.xd fs) ∧ ∀ M H', Same H H' → H' M = some (.lst items) → D.nx (sl.set i (some (.ref M))) H'
/-- .. the list that it holds and these items -/
def wCat (i e dd : Nat) (a : Addr) (fs : List (Str × V)) (items : List V) : TS := fun D sl H => ∃ L xs, sl[e]? = some (some (.ref a)) ∧ sl[i]? = some (some (.ref L)) ∧ H L = some (.lst xs) ∧ xs.length ≤ 900 ∧ H dd = some (.xd fs) ∧ ∀ M H', Same H H' → H' M = some (.lst (xs ++ items)) → D.nx (sl.set i (some (.ref M))) H'
theorem cast_lt (k n : Nat) : decide ((k : Int) < (n : Int)) = decide (k < n) := decide_eq_decide.mpr Int.ofNat_lt
theorem chain_in (k : Nat) (sl : L2.St) (H : Hp) (Q : VK) (h : sl[4]? = some (some (.int (k : Int))) ∧ Q (.bl (decide (13 < k) && decide (k < 18))) H) :
    tChain (rI0 fun i j => V.bl (decide (i < j))) (rI0 fun i j => V.bl (decide (i < j))) (tC (.int 13)) (tVar 4) (tC (.int 18)) sl H Q := by
  obtain ⟨h4, q⟩ := h
  refine ⟨_, h4, _, _, rfl, rfl, _, rfl, ?_⟩
  have e := cast_lt 13 k
  cases c : decide (13 < k) with
  | false =>
    rw [c] at q e
    rw [show decide ((13 : Int) < (k : Int)) = false from e]
    exact iteF q
  | true =>
    rw [c] at q e
    rw [show decide ((13 : Int) < (k : Int)) = true from e]
    refine iteT ⟨_, _, rfl, rfl, ?_⟩
    have e2 := cast_lt k 18
    show Q (.bl (decide ((k : Int) < 18))) H
    rw [show decide ((k : Int) < 18) = decide (k < 18) from e2]
    exact q
theorem ok_kind {c : Nat → Addr} (F : Fun K "_law_kind" "_law_kind" s_l_kind f fd) (N : ErNames mg c) (mi : mg "isinstance" = none) (mValueError : mg "ValueError" = none) (mLookupError : mg "LookupError" = none) (mArithmeticError : mg "ArithmeticError" = none) :
    FnP P w K mg base CX0 1 f fd ["_law_e"] (spKind K c) := by
  refine okP F scKind (fun p vs H Q E h => ?_) (fun cdv A outer s H vs Q E p hg hot hr h => ?_)
  · obtain ⟨D, dd, k, fs, rfl, _⟩ := h
    rfl
  obtain ⟨D, dd, k, fs, rfl, Z, Y, hz, hd, q⟩ := h
  obtain ⟨hh, vs2, hv2, hctx⟩ := hot
  have hf : ∃ vs, p.2.data = .fields vs := ⟨vs2, hv2⟩
  have mem : (p.1, p.2) ∈ [p] := List.mem_singleton.mpr rfl
  have hu := roomU hr
  have l1 : ∀ n : Nat, n ≤ 1000 → n ≤ sizeLine := fun n h => Nat.le_of_lt (small1000 h)
  refine ⟨_, pss_cons (ps_weakS (t' := wNew 1 0 dd p.1 fs [.bl (decide (0 = k)), .bl (decide (1 = k)), .bl (decide (2 = k))]) (ps_set (i := 1) scKind.nd rfl (.inl rfl) (pe_lst (pa_cons (pe_callB (call_isX (oe := p.2) Z mem hz hf) (by rfl) mi PyProof.Rows.boot_isinstance (pa_cons (pv 0) (pa_cons (pe_glob (v := .ref (c 0)) rfl N.m0 rfl) pa_nil))) (pa_cons (pe_callB (call_isX (oe := p.2) Z mem hz hf) (by rfl) mi PyProof.Rows.boot_isinstance (pa_cons (pv 0) (pa_cons (pe_glob (v := .ref (c 1)) rfl N.m1 rfl) pa_nil))) (pa_cons (pe_callB (call_isX (oe := p.2) Z mem hz hf) (by rfl) mi PyProof.Rows.boot_isinstance (pa_cons (pv 0) (pa_cons (pe_glob (v := .ref (c 2)) rfl N.m2 rfl) pa_nil))) pa_nil))))) (by rintro D sl H ⟨h0, hd, q⟩; refine ⟨_, h0, _, _, _, fs, rfl, fun u hu => hu, Y.o0, hd, ?_⟩; refine ⟨_, h0, _, _, _, fs, rfl, fun u hu => hu, Y.o1, hd, ?_⟩; refine ⟨_, h0, _, _, _, fs, rfl, fun u hu => hu, Y.o2, hd, ?_⟩; refine ⟨l1 3 (by decide), fun M nM => ?_⟩; exact q M _ (same_upd nM) upd_same))
    (pss_cons (ps_weakS (t' := wCat 1 0 dd p.1 fs [.bl (decide (3 = k)), .bl (decide (4 = k)), .bl (decide (5 = k))]) (ps_set (i := 1) scKind.nd rfl (.inl rfl) (pe_op op_cat (pv 1) (pe_lst (pa_cons (pe_callB (call_isX (oe := p.2) Z mem hz hf) (by rfl) mi PyProof.Rows.boot_isinstance (pa_cons (pv 0) (pa_cons (pe_glob (v := .ref (c 3)) rfl N.m3 rfl) pa_nil))) (pa_cons (pe_callB (call_isX (oe := p.2) Z mem hz hf) (by rfl) mi PyProof.Rows.boot_isinstance (pa_cons (pv 0) (pa_cons (pe_glob (v := .ref (c 4)) rfl N.m4 rfl) pa_nil))) (pa_cons (pe_callB (call_isX (oe := p.2) Z mem hz hf) (by rfl) mi PyProof.Rows.boot_isinstance (pa_cons (pv 0) (pa_cons (pe_glob (v := .ref (c 5)) rfl N.m5 rfl) pa_nil))) pa_nil)))))) (by rintro D sl H ⟨L, xs, h0, h1, hL, hx, hd, q⟩; refine ⟨_, h1, ?_⟩; refine ⟨_, h0, _, _, _, fs, rfl, fun u hu => hu, Y.o3, hd, ?_⟩; refine ⟨_, h0, _, _, _, fs, rfl, fun u hu => hu, Y.o4, hd, ?_⟩; refine ⟨_, h0, _, _, _, fs, rfl, fun u hu => hu, Y.o5, hd, ?_⟩; refine ⟨l1 3 (by decide), fun L2 n2 => ?_⟩; refine ⟨L, L2, _, _, rfl, rfl, same_upd n2 _ _ hL, upd_same, l1 _ (by simp only [List.length_cons, List.length_nil]; omega), fun M nM => ?_⟩; exact q M _ ((same_upd n2).trans (same_upd nM)) upd_same))
    (pss_cons (ps_weakS (t' := wCat 1 0 dd p.1 fs [.bl (decide (6 = k)), .bl (decide (7 = k)), .bl (decide (8 = k))]) (ps_set (i := 1) scKind.nd rfl (.inl rfl) (pe_op op_cat (pv 1) (pe_lst (pa_cons (pe_callB (call_isX (oe := p.2) Z mem hz hf) (by rfl) mi PyProof.Rows.boot_isinstance (pa_cons (pv 0) (pa_cons (pe_glob (v := .ref (c 6)) rfl N.m6 rfl) pa_nil))) (pa_cons (pe_callB (call_isX (oe := p.2) Z mem hz hf) (by rfl) mi PyProof.Rows.boot_isinstance (pa_cons (pv 0) (pa_cons (pe_glob (v := .ref (c 7)) rfl N.m7 rfl) pa_nil))) (pa_cons (pe_callB (call_isX (oe := p.2) Z mem hz hf) (by rfl) mi PyProof.Rows.boot_isinstance (pa_cons (pv 0) (pa_cons (pe_glob (v := .ref (c 8)) rfl N.m8 rfl) pa_nil))) pa_nil)))))) (by rintro D sl H ⟨L, xs, h0, h1, hL, hx, hd, q⟩; refine ⟨_, h1, ?_⟩; refine ⟨_, h0, _, _, _, fs, rfl, fun u hu => hu, Y.o6, hd, ?_⟩; refine ⟨_, h0, _, _, _, fs, rfl, fun u hu => hu, Y.o7, hd, ?_⟩; refine ⟨_, h0, _, _, _, fs, rfl, fun u hu => hu, Y.o8, hd, ?_⟩; refine ⟨l1 3 (by decide), fun L2 n2 => ?_⟩; refine ⟨L, L2, _, _, rfl, rfl, same_upd n2 _ _ hL, upd_same, l1 _ (by simp only [List.length_cons, List.length_nil]; omega), fun M nM => ?_⟩; exact q M _ ((same_upd n2).trans (same_upd nM)) upd_same))
    (pss_cons (ps_weakS (t' := wCat 1 0 dd p.1 fs [.bl (decide (9 = k)), .bl (decide (10 = k)), .bl (decide (11 = k))]) (ps_set (i := 1) scKind.nd rfl (.inl rfl) (pe_op op_cat (pv 1) (pe_lst (pa_cons (pe_callB (call_isX (oe := p.2) Z mem hz hf) (by rfl) mi PyProof.Rows.boot_isinstance (pa_cons (pv 0) (pa_cons (pe_glob (v := .ref (c 9)) rfl N.m9 rfl) pa_nil))) (pa_cons (pe_callB (call_isX (oe := p.2) Z mem hz hf) (by rfl) mi PyProof.Rows.boot_isinstance (pa_cons (pv 0) (pa_cons (pe_glob (v := .ref (c 10)) rfl N.m10 rfl) pa_nil))) (pa_cons (pe_callB (call_isX (oe := p.2) Z mem hz hf) (by rfl) mi PyProof.Rows.boot_isinstance (pa_cons (pv 0) (pa_cons (pe_glob (v := .ref (c 11)) rfl N.m11 rfl) pa_nil))) pa_nil)))))) (by rintro D sl H ⟨L, xs, h0, h1, hL, hx, hd, q⟩; refine ⟨_, h1, ?_⟩; refine ⟨_, h0, _, _, _, fs, rfl, fun u hu => hu, Y.o9, hd, ?_⟩; refine ⟨_, h0, _, _, _, fs, rfl, fun u hu => hu, Y.o10, hd, ?_⟩; refine ⟨_, h0, _, _, _, fs, rfl, fun u hu => hu, Y.o11, hd, ?_⟩; refine ⟨l1 3 (by decide), fun L2 n2 => ?_⟩; refine ⟨L, L2, _, _, rfl, rfl, same_upd n2 _ _ hL, upd_same, l1 _ (by simp only [List.length_cons, List.length_nil]; omega), fun M nM => ?_⟩; exact q M _ ((same_upd n2).trans (same_upd nM)) upd_same))
    (pss_cons (ps_weakS (t' := wCat 1 0 dd p.1 fs [.bl (decide (12 = k)), .bl (decide (13 = k)), .bl (decide (14 = k))]) (ps_set (i := 1) scKind.nd rfl (.inl rfl) (pe_op op_cat (pv 1) (pe_lst (pa_cons (pe_callB (call_isX (oe := p.2) Z mem hz hf) (by rfl) mi PyProof.Rows.boot_isinstance (pa_cons (pv 0) (pa_cons (pe_glob (v := .ref (c 12)) rfl N.m12 rfl) pa_nil))) (pa_cons (pe_callB (call_isX (oe := p.2) Z mem hz hf) (by rfl) mi PyProof.Rows.boot_isinstance (pa_cons (pv 0) (pa_cons (pe_glob (v := .ref (c 13)) rfl N.m13 rfl) pa_nil))) (pa_cons (pe_callB (call_isX (oe := p.2) Z mem hz hf) (by rfl) mi PyProof.Rows.boot_isinstance (pa_cons (pv 0) (pa_cons (pe_glob (v := .ref (c 14)) rfl N.m14 rfl) pa_nil))) pa_nil)))))) (by rintro D sl H ⟨L, xs, h0, h1, hL, hx, hd, q⟩; refine ⟨_, h1, ?_⟩; refine ⟨_, h0, _, _, _, fs, rfl, fun u hu => hu, Y.o12, hd, ?_⟩; refine ⟨_, h0, _, _, _, fs, rfl, fun u hu => hu, Y.o13, hd, ?_⟩; refine ⟨_, h0, _, _, _, fs, rfl, fun u hu => hu, Y.o14, hd, ?_⟩; refine ⟨l1 3 (by decide), fun L2 n2 => ?_⟩; refine ⟨L, L2, _, _, rfl, rfl, same_upd n2 _ _ hL, upd_same, l1 _ (by simp only [List.length_cons, List.length_nil]; omega), fun M nM => ?_⟩; exact q M _ ((same_upd n2).trans (same_upd nM)) upd_same))
    (pss_cons (ps_weakS (t' := wCat 1 0 dd p.1 fs [.bl (decide (15 = k)), .bl (decide (16 = k)), .bl (decide (17 = k))]) (ps_set (i := 1) scKind.nd rfl (.inl rfl) (pe_op op_cat (pv 1) (pe_lst (pa_cons (pe_callB (call_isX (oe := p.2) Z mem hz hf) (by rfl) mi PyProof.Rows.boot_isinstance (pa_cons (pv 0) (pa_cons (pe_glob (v := .ref (c 15)) rfl N.m15 rfl) pa_nil))) (pa_cons (pe_callB (call_isX (oe := p.2) Z mem hz hf) (by rfl) mi PyProof.Rows.boot_isinstance (pa_cons (pv 0) (pa_cons (pe_glob (v := .ref (c 16)) rfl N.m16 rfl) pa_nil))) (pa_cons (pe_callB (call_isX (oe := p.2) Z mem hz hf) (by rfl) mi PyProof.Rows.boot_isinstance (pa_cons (pv 0) (pa_cons (pe_glob (v := .ref (c 17)) rfl N.m17 rfl) pa_nil))) pa_nil)))))) (by rintro D sl H ⟨L, xs, h0, h1, hL, hx, hd, q⟩; refine ⟨_, h1, ?_⟩; refine ⟨_, h0, _, _, _, fs, rfl, fun u hu => hu, Y.o15, hd, ?_⟩; refine ⟨_, h0, _, _, _, fs, rfl, fun u hu => hu, Y.o16, hd, ?_⟩; refine ⟨_, h0, _, _, _, fs, rfl, fun u hu => hu, Y.o17, hd, ?_⟩; refine ⟨l1 3 (by decide), fun L2 n2 => ?_⟩; refine ⟨L, L2, _, _, rfl, rfl, same_upd n2 _ _ hL, upd_same, l1 _ (by simp only [List.length_cons, List.length_nil]; omega), fun M nM => ?_⟩; exact q M _ ((same_upd n2).trans (same_upd nM)) upd_same))
    (pss_cons (ps_weakS (t' := wCat 1 0 dd p.1 fs [.bl (decide (18 = k)), .bl (decide (19 = k))]) (ps_set (i := 1) scKind.nd rfl (.inl rfl) (pe_op op_cat (pv 1) (pe_lst (pa_cons (pe_callB (call_isX (oe := p.2) Z mem hz hf) (by rfl) mi PyProof.Rows.boot_isinstance (pa_cons (pv 0) (pa_cons (pe_glob (v := .ref (c 18)) rfl N.m18 rfl) pa_nil))) (pa_cons (pe_callB (call_isX (oe := p.2) Z mem hz hf) (by rfl) mi PyProof.Rows.boot_isinstance (pa_cons (pv 0) (pa_cons (pe_glob (v := .ref (c 19)) rfl N.m19 rfl) pa_nil))) pa_nil))))) (by rintro D sl H ⟨L, xs, h0, h1, hL, hx, hd, q⟩; refine ⟨_, h1, ?_⟩; refine ⟨_, h0, _, _, _, fs, rfl, fun u hu => hu, Y.o18, hd, ?_⟩; refine ⟨_, h0, _, _, _, fs, rfl, fun u hu => hu, Y.o19, hd, ?_⟩; refine ⟨l1 2 (by decide), fun L2 n2 => ?_⟩; refine ⟨L, L2, _, _, rfl, rfl, same_upd n2 _ _ hL, upd_same, l1 _ (by simp only [List.length_cons, List.length_nil]; omega), fun M nM => ?_⟩; exact q M _ ((same_upd n2).trans (same_upd nM)) upd_same))
    (pss_cons (ps_weakS (t' := wNew 2 0 dd p.1 fs [.bl (decide (k < 14)), .bl (decide (13 < k) && decide (k < 18)), .bl (decide (17 < k))]) (ps_set (i := 2) scKind.nd rfl (.inl rfl) (pe_lst (pa_cons (pe_callB (call_isX (oe := p.2) Z mem hz hf) (by rfl) mi PyProof.Rows.boot_isinstance (pa_cons (pv 0) (pa_cons (pe_glob (v := .ref (c 20)) rfl N.m20 rfl) pa_nil))) (pa_cons (pe_callB (call_isX (oe := p.2) Z mem hz hf) (by rfl) mi PyProof.Rows.boot_isinstance (pa_cons (pv 0) (pa_cons (pe_glob (v := .ref (c 21)) rfl N.m21 rfl) pa_nil))) (pa_cons (pe_callB (call_isX (oe := p.2) Z mem hz hf) (by rfl) mi PyProof.Rows.boot_isinstance (pa_cons (pv 0) (pa_cons (pe_glob (v := .ref (c 22)) rfl N.m22 rfl) pa_nil))) pa_nil))))) (by rintro D sl H ⟨h0, hd, q⟩; refine ⟨_, h0, _, _, _, fs, rfl, fun u hu => hu, Y.b0, hd, ?_⟩; refine ⟨_, h0, _, _, _, fs, rfl, fun u hu => hu, Y.b1, hd, ?_⟩; refine ⟨_, h0, _, _, _, fs, rfl, fun u hu => hu, Y.b2, hd, ?_⟩; refine ⟨l1 3 (by decide), fun M nM => ?_⟩; exact q M _ (same_upd nM) upd_same))
    (pss_cons (ps_weakS (t' := wNew 3 0 dd p.1 fs [.bl (decide (k < 14)), .bl (decide (13 < k) && decide (k < 18)), .bl (decide (17 < k))]) (ps_set (i := 3) scKind.nd rfl (.inl rfl) (pe_lst (pa_cons (pe_callB (call_isX (oe := p.2) Z mem hz hf) (by rfl) mi PyProof.Rows.boot_isinstance (pa_cons (pv 0) (pa_cons (pe_bltn (v := .ty "ValueError") (by rfl) mValueError (by decide +kernel) rfl) pa_nil))) (pa_cons (pe_callB (call_isX (oe := p.2) Z mem hz hf) (by rfl) mi PyProof.Rows.boot_isinstance (pa_cons (pv 0) (pa_cons (pe_bltn (v := .ty "LookupError") (by rfl) mLookupError (by decide +kernel) rfl) pa_nil))) (pa_cons (pe_callB (call_isX (oe := p.2) Z mem hz hf) (by rfl) mi PyProof.Rows.boot_isinstance (pa_cons (pv 0) (pa_cons (pe_bltn (v := .ty "ArithmeticError") (by rfl) mArithmeticError (by decide +kernel) rfl) pa_nil))) pa_nil))))) (by rintro D sl H ⟨h0, hd, q⟩; refine ⟨_, h0, _, _, _, fs, rfl, fun u hu => hu, Y.p0, hd, ?_⟩; refine ⟨_, h0, _, _, _, fs, rfl, fun u hu => hu, Y.p1, hd, ?_⟩; refine ⟨_, h0, _, _, _, fs, rfl, fun u hu => hu, Y.p2, hd, ?_⟩; refine ⟨l1 3 (by decide), fun M nM => ?_⟩; exact q M _ (same_upd nM) upd_same))
    (pss_cons (ps_if (PW.pt (pw_or (pt_cmpR op_ne (pe_bm PySem.F.plainAttrs_list PySem.F.slot_list_count PySem.F.type_list_count mt_countB (pv 1) (pa_cons pe_bl pa_nil)) pe_int (nomark _)) (pw_or1 (pt_cmpR (op_neD hu) (pv 3) (pv 2) (nomark _))))) (pss_one (ps_ret (pe_op op_sub pe_int pe_int))) pss_nil)
    (pss_cons (ps_set (i := 4) scKind.nd rfl (.inl rfl) (pe_bm PySem.F.plainAttrs_list PySem.F.slot_list_index PySem.F.type_list_index mt_index (pv 1) (pa_cons pe_bl pa_nil)))
    (pss_one (ps_ret (pe_ifExp (pt_cmpR (op_eqD hu) (pv 2) (pe_lst (pa_cons (pe_cmpR op_lt (pv 4) pe_int (nomark _)) (pa_cons (pe_weak (t' := fun sl H Q => sl[4]? = some (some (.int (k : Int))) ∧ Q (.bl (decide (13 < k) && decide (k < 18))) H) (pe_chain op_lt op_lt pe_int (pv 4) pe_int) (chain_in k)) (pa_cons (pe_cmpR op_gt (pv 4) pe_int (nomark _)) pa_nil)))) (nomark _)) (pv 4) (pe_op op_sub pe_int pe_int)))))))))))))), ?_⟩
  refine ⟨rfl, hd, fun M0 H0 s0 f0 => ?_⟩
  have d0 := s0 _ _ hd
  refine ⟨M0, _, rfl, rfl, f0, by show 3 ≤ 900; decide, d0, fun M1 H1 s1 f1 => ?_⟩
  have d1 := s1 _ _ d0
  refine ⟨M1, _, rfl, rfl, f1, by show 6 ≤ 900; decide, d1, fun M2 H2 s2 f2 => ?_⟩
  have d2 := s2 _ _ d1
  refine ⟨M2, _, rfl, rfl, f2, by show 9 ≤ 900; decide, d2, fun M3 H3 s3 f3 => ?_⟩
  have d3 := s3 _ _ d2
  refine ⟨M3, _, rfl, rfl, f3, by show 12 ≤ 900; decide, d3, fun M4 H4 s4 f4 => ?_⟩
  have d4 := s4 _ _ d3
  refine ⟨M4, _, rfl, rfl, f4, by show 15 ≤ 900; decide, d4, fun M5 H5 s5 f5 => ?_⟩
  have d5 := s5 _ _ d4
  refine ⟨M5, _, rfl, rfl, f5, by show 18 ≤ 900; decide, d5, fun M6 H6 s6 f6 => ?_⟩
  have d6 := s6 _ _ d5
  refine ⟨rfl, d6, fun M7 H7 s7 f7 => ?_⟩
  refine ⟨rfl, s7 _ _ d6, fun M8 H8 s8 f8 => ?_⟩
  have f6' := s8 _ _ (s7 _ _ f6)
  have fl : SqL K H8 M6 ((kindB k).map V.bl) := SqL.of f6'
  have f7' := s8 _ _ f7
  refine ⟨_, rfl, .inl ⟨rfl, _, .inl (.inl f6')⟩, ⟨_, _, _, rfl, rfl, fl, rfl, _, rfl, ?_⟩⟩
  rw [kindB_count k Y.lt]
  refine iteNS rfl ?_
  refine ⟨_, rfl, _, rfl, _, _, bl3 f8, bl3 f7', rfl, rfl, _, rfl, ?_⟩
  rw [eqv_bls]
  refine iteF ?_
  refine ⟨_, rfl, .inl ⟨rfl, _, .inl (.inl f6')⟩, ⟨_, _, _, k, _, rfl, rfl, fl, rfl, kindB_all k, kindB_at k Y.lt, rfl, fun m z hm hz => ?_, ?_⟩⟩
  · rw [List.getElem?_map, kindB_no k Y.lt m hm] at hz
    cases hz
    rfl
  refine ⟨_, rfl, _, rfl, _, _, rfl, rfl, rfl, _, rfl, _, _, rfl, rfl, l1 3 (by decide), fun M9 n9 => ?_⟩
  have e1 : decide ((k : Int) < 14) = decide (k < 14) := cast_lt k 14
  have e2 : decide ((17 : Int) < (k : Int)) = decide (17 < k) := cast_lt 17 k
  dsimp only
  rw [e1, e2]
  have s9 := same_upd (o := .lst [.bl (decide (k < 14)), .bl (decide (13 < k) && decide (k < 18)), .bl (decide (17 < k))]) n9
  refine ⟨_, _, bl3 (s9 _ _ f7'), bl3 upd_same, rfl, rfl, _, rfl, ?_⟩
  rw [eqv_bls]
  refine iteT ⟨_, rfl, ?_⟩
  exact q _ (s0.trans (s1.trans (s2.trans (s3.trans (s4.trans (s5.trans (s6.trans (s7.trans (s8.trans s9)))))))))
end
/-! ### err_lam.lean -/
/-! a lambda that is handed to a def and called there: what it raises goes by L2N -/
abbrev lamXe (X : Cx) (A : Around) (outer : List Env) (s : Shared) (H : Hp) (E : XK) (scope : Scope) (f c' : Addr) : Value → Shared → Prop := fun e s' =>
  wpAny (model X.prog X.w) (A.deeper (LamX.lamEnv X scope s.heap.objs.size f c')) (leaving (LamX.lamEnv X scope s.heap.objs.size f c') e) (fun _ s2 => L2N.CX X.prog X.w outer H s E e s2) (fun e2 s2 => L2N.CX X.prog X.w outer H s E e2 s2) s'
abbrev lamC (X : Cx) (A : Around) (outer : List Env) (s : Shared) (H : Hp) (E : XK) (scope : Scope) (f c' : Addr) : Cx := (LamX.lamCx X A outer s H E scope f c').wish (lamXe X A outer s H E scope f c')
section
variable {X : Cx} {pins : List (Addr × Obj)} {sl : L2.St} {H : Hp} {s : Shared}
theorem act_call {CXg : CXT} {Eg : XK} {Ng : List Str} {qg : Str} {sg : Scope} {g f c' : Addr} {cdg pm ctv : Value} {params : Arguments} {body : Expr} {scope : Scope} {k i : Nat} {a : Str} {pn : List (Addr × Obj)} {xe : Value → Shared → Prop} {W : WX} {E : XK} {tb : TE} {p1 p2 : Pos}
    (inv : Inv X pins sl H s) (L : LamX.LamS X.env.scope scope) (gds : X.A.guards = some []) (hf : s.heap.get? f = some (PySem.W.kla_obj "<lambda>" (X.env.qual ++ "<lambda>") params body scope (cloFrom X.env.cells scope.names []) pm c' ctv)) (nf : H f = none) (nfr : f ∉ frs X.stack)
    (bind : bindArgs (PySem.W.kla_fn "<lambda>" (X.env.qual ++ "<lambda>") params body scope (cloFrom X.env.cells scope.names []) pm (.ref c') ctv) ⟨[], []⟩ = pure [])
    (tk : L2N.Takes ((cxOf CXg X.prog X.w X.K X.mg X.base Ng qg sg g cdg X.A X.stack s H Eg).tr pn xe) W) (room : Room (k + 1) (X.A.deeper (envOfC qg sg s.heap.objs.size g cdg)))
    (walk : ∀ (A : Around) (outer : List Env) (s : Shared) (H : Hp), A.guards = some [] → Room k (A.deeper (LamX.lamEnv X scope s.heap.objs.size f c')) → PE (lamC X A outer s H E scope f c') body tb)
    (hN : Ng[i]? = some a) (hv : Vis sg a) (dbg : (a == ("__debug__" : Str)) = false := by decide) (dct : (a == ("__classdict__" : Str)) = false := by decide) :
    PE ((cxOf CXg X.prog X.w X.K X.mg X.base Ng qg sg g cdg X.A X.stack s H Eg).tr pn xe) (.Call (.Name a p1) [] [] p2)
      (fun slZ HZ Q => slZ[i]? = some (some (.ref f)) ∧ HZ c' = some (LamX.CodeO c' (X.env.qual ++ "<lambda>")) ∧ (∀ cls d H', E cls d H' → W cls d slZ H') ∧ tb sl HZ Q) := by
  refine ⟨fun pinsZ sZ slZ HZ Q invZ want => ?_⟩
  obtain ⟨at_, code, hW, read⟩ := want
  refine wpAny_Call_Name_kw (thn ((pe_var (pos := p1) (i := i) hN hv dbg dct).run pinsZ sZ slZ HZ (fun v H1 => v = .ref f ∧ H1 = HZ) invZ ⟨.ref f, at_, rfl, rfl⟩) fun u s1 got => ?_)
  obtain ⟨v, H1, inv1, rel, ev, eH⟩ := got
  subst ev
  rw [eH] at inv1
  obtain rfl : u = Value.ref f := rel
  have hf1 : s1.heap.get? f = some (PySem.W.kla_obj "<lambda>" (X.env.qual ++ "<lambda>") params body scope (cloFrom X.env.cells scope.names []) pm c' ctv) := inv1.base.keep f _ hf nf nfr (fun z => nomatch (show f ∈ ([] : List Addr) from z))
  refine PySem.W.callWith_F0 ⟨_, _, _, _, hf1⟩ ?_
  have un : Un (frs X.stack) [] H HZ s.heap s1.heap := inv1.base
  obtain ⟨⟨oc, vs, t, hoc, dc, vc⟩, _, _⟩ := inv1.hok c' _ code
  have run : codeAny (model X.prog X.w) (X.A.deeper (envOfC qg sg s.heap.objs.size g cdg)) (.call (.ref f) ⟨[], []⟩) (CR (L2N.CX X.prog X.w) (envOfC qg sg s.heap.objs.size g cdg :: X.stack) X.prog X.w HZ s1 Q E) s1 := by
    refine PySem.W.kla_callFunE room.depth hf1 rfl L.co L.gen rfl ⟨c', oc, vs, t, rfl, hoc, dc, vc⟩ ?_
    rw [bind]
    refine wpAny_pure (wpAny_newFunctionEnv (fun y hy => (L.own y hy).2) (fun y hy => absurd hy (by simp)) (fun h1 ns sb => ⟨inv1.nolimit.fresh _ sb, ?_⟩) L.kind)
    show codeAny _ _ (.expr body (LamX.lamEnv X scope s1.heap.objs.size f c')) _ _
    have kp : ∀ b o, s1.heap.get? b = some o → h1.get? b = some o := fun b o e => sb.extBut b o (Nat.ne_of_lt (Heap.lt_size e)) (Heap.get?_push_of_some _ e)
    have J := (LamX.lam_start2 (E := E) (f := f) (c' := c') (tk := s1.toks + ([] : List (Str × Value)).length) inv L inv1.env0 room.hd un ns kp).wish (lamXe X (X.A.deeper (envOfC qg sg s.heap.objs.size g cdg)) (envOfC qg sg s.heap.objs.size g cdg :: X.stack) s1 HZ E scope f c')
    refine PySem.W.kla_codeExpr (wpAny_mono ((walk (X.A.deeper (envOfC qg sg s.heap.objs.size g cdg)) _ s1 HZ gds (room.deeper _)).run [] _ _ HZ Q J read) (fun v s' got => ?_) fun _ _ got => got)
    obtain ⟨x, H', J', rv, q⟩ := got
    exact ⟨x, H', J'.os, J'.bare, J'.base, J'.hok, rv, q⟩
  refine wpAny_call (codeAny_mono run fun r s' got => ?_)
  cases r with
  | error e => exact tk e s' (L2N.XE.of_call inv1 hW got)
  | ok fl =>
    cases fl with
    | ret u => exact inv1.after got
    | next => exact got.elim
    | brk => exact got.elim
    | cont => exact got.elim
end
/-! what is caught: the number of the error's class, the text of its field -/
/-- an error whose field is "value": the fourth clause takes it -/
structure ErVal (K : PySem.W.Frag) (c : Nat → Addr) (D : Addr) : Prop where
  e1 : PySem.W.exmAny K (.ref D) [.ref (c 6), .ref (c 10), .ref (c 12)] = some false
  e2 : PySem.W.exmAny K (.ref D) [.ref (c 18), .ref (c 19)] = some false
  e3 : PySem.W.exmOne K (.ref D) (.ref (c 17)) = some false
  e4 : PySem.W.exmAny K (.ref D) [.ref (c 20), .ref (c 21)] = some true
  xf : XfC K D
  no : PySem.W.findIn K (.ref D) "value" = some none
/-- what is told of an error that is let out -/
def Got (K : PySem.W.Frag) (c : Nat → Addr) (RR : List V → Hp → VK → Prop) (Q : VK) : XK := fun cls d H => ∃ (D dd : Addr) (k : Nat) (v : V), cls = .ref D ∧ d = some dd ∧ ErIs K D ∧ ErKind K c D k ∧ ErVal K c D ∧ H dd = some (.xd [(("value" : Str), v)]) ∧
  ∀ H1, Same H H1 → RR [v] H1 fun y H2 => ∃ txt, y = .str txt ∧ ∀ L, H2 L = none → Q (.ref L) (upd H2 L (.lst [.int k, .str txt]))
/-- .. where nothing is -/
def Fine (Q : VK) : VK := fun _ H => ∀ L, H L = none → Q (.ref L) (upd H L (.lst [.str "none", .str ""]))
section
variable {X : Cx} {a : Addr} {oe : Obj} {cls : Value} {d : Option Addr} {pn : List (Addr × Obj)}
/-- e.f, what is known of e's class in the reading -/
theorem pe_xfR {e : Expr} {te : TE} {pos : Pos} {n : Str} (hz : Zc cls d oe) (hf : ∃ vs, oe.data = .fields vs) (he : PE (X.suite a ((a, oe) :: pn)) e te) (hb : attributeBase e n X.env (eval e X.env) = eval e X.env := by rfl) :
    PE (X.suite a ((a, oe) :: pn)) (.Attribute e n pos) (fun sl H Q => ∃ C, XfC X.K C ∧ PySem.W.findIn X.K (.ref C) n = some none ∧ tXf a cls d C n te sl H Q) :=
  ⟨fun pins s sl H Q inv ⟨C, T, no, q⟩ => (pe_xf T no hz hf he hb).run pins s sl H Q inv q⟩
theorem kind_call {k i : Nat} {f : Addr} {fd : FuncData} {x : Str} {ep pos : Pos} {e : Expr} {c : Nat → Addr} (F : FnP X.prog X.w X.K X.mg X.base CX0 k f fd ["_law_e"] (spKind X.K c)) (gds : X.A.guards = some []) (room : L2H.RoomH k X.A) (hz : L2N.Zn cls d oe) (hf : ∃ vs, oe.data = .fields vs)
    (hg : Gl X x) (hm : X.mg x = some (.ref f)) (hk : PySem.W.keepIn X.K (.ref f) = true) (hb : Binds X.K fd ["_law_e"] []) (ha : PE (X.suite a ((a, oe) :: pn)) e (tVar i)) (hdb : (x == ("__debug__" : Str)) = false := by decide)
    (he : starEach (e :: []) X.env = (false, eval e X.env) :: starEach [] X.env := by rfl) (hpl : (backTo pos (starEach [] X.env)).any (·.1) = false := by rfl) :
    PE (X.suite a ((a, oe) :: pn)) (.Call (.Name x ep) [e] [] pos) (fun sl H Q => sl[i]? = some (some (.ref a)) ∧ ∃ (D dd : Addr) (k : Nat) (fs : List (Str × V)), cls = .ref D ∧ d = some dd ∧ ErIs X.K D ∧ ErKind X.K c D k ∧ H dd = some (.xd fs) ∧ ∀ H', Same H H' → Q (.int k) H') := by
  obtain ⟨vs, hv⟩ := id hf
  have hot : L2H.Hot1 (X.suite a ((a, oe) :: pn)).A (a, oe) := ⟨rfl, vs, hv, hz.2.2 vs hv⟩
  refine pe_weak (callP (X := X.suite a ((a, oe) :: pn)) (p := (a, oe)) F gds ⟨room.dp, room.un⟩ hot List.mem_cons_self hg hm hk hb (pa_cons ha pa_nil he) hdb he hpl) ?_
  rintro sl H Q ⟨h1, D, dd, k, fs, rfl, rfl, Z, Y, hd, q⟩
  exact ⟨_, h1, D, dd, k, fs, rfl, Z, Y, hz.zc, hd, q⟩
end
/-! ### err_caught.lean -/
section
theorem takes0N {X : Cx} : L2N.Takes X (fun _ _ _ _ => False) := fun _ _ x => by
  obtain ⟨_, _, _, _, _, _, _, _, _, _, _, _, _, _, _, _, z⟩ := x
  exact z.elim
theorem scCaught : FnScope ["_law_act", "_law_e"] ["_law_act"] (defScope s_l_caught) := ⟨rfl, rfl, rfl, by decide +kernel, rfl, by decide +kernel, by decide +kernel⟩
/-- how the error's field is shown, in a suite -/
def Reprs (X : Cx) (k : Nat) (RR : List V → Hp → VK → Prop) : Prop := ∀ (Y : Cx) (p : Addr × Obj), Y.prog = X.prog → Y.w = X.w → Y.K = X.K → Y.mg = X.mg → Y.base = X.base → Y.A.guards = some [] → L2H.RoomH k Y.A → L2H.Hot1 Y.A p → p ∈ Y.pn → CallR Y (.builtin "repr") RR
def tCaught (K : PySem.W.Frag) (T : List (Addr × Str)) (c : Nat → Addr) (RR : List V → Hp → VK → Prop) (t : XK → TE) : TE := fun sl H Q => LamX.Tabs T H ∧ ∀ H1, LamX.ExtN H H1 → LamX.Tabs T H1 → t (Got K c RR Q) sl H1 (Fine Q)
variable {X : Cx} {RR : List V → Hp → VK → Prop} {c : Nat → Addr}
theorem caught_body {j : Nat} {out : List Env} {cdg : Value} {g fK : Addr} {fdK : FuncData} {H : Hp} {s : Shared} {A : Around} {fl c' : Addr} {q : Str} {Q : VK} {tl : XK → Hp → VK → Prop}
    (N : ErNames X.mg c) (FK : FnP X.prog X.w X.K X.mg X.base CX0 1 fK fdK ["_law_e"] (spKind X.K c)) (kb : Binds X.K fdK ["_law_e"] []) (kk : PySem.W.keepIn X.K (.ref fK) = true) (km : X.mg "_law_kind" = some (.ref fK)) (mr : X.mg "repr" = none) (rr : Reprs X j RR) (mono : ∀ xs H (Q Q' : VK), (∀ v H', Q v H' → Q' v H') → RR xs H Q → RR xs H Q')
    (gds : A.guards = some []) (room : Room (j + 1) (A.deeper (envOfC "_law_caught" (defScope s_l_caught) s.heap.objs.size g cdg)))
    (act : ∀ (W : WX) (pn : List (Addr × Obj)) (xe : Value → Shared → Prop) (E : XK) (p1 p2 : Pos), L2N.Takes ((cxOf CX0 X.prog X.w X.K X.mg X.base ["_law_act", "_law_e"] "_law_caught" (defScope s_l_caught) g cdg A out s H E0).tr pn xe) W →
      PE ((cxOf CX0 X.prog X.w X.K X.mg X.base ["_law_act", "_law_e"] "_law_caught" (defScope s_l_caught) g cdg A out s H E0).tr pn xe) (.Call (.Name "_law_act" p1) [] [] p2) (fun slZ HZ Q => slZ[0]? = some (some (.ref fl)) ∧ HZ c' = some (LamX.CodeO c' q) ∧ (∀ cls d H', E cls d H' → W cls d slZ H') ∧ tl E HZ Q))
    (code : H c' = some (LamX.CodeO c' q)) (want : tl (Got X.K c RR Q) H (Fine Q)) :
    ∃ t, PSs (cxOf CX0 X.prog X.w X.K X.mg X.base ["_law_act", "_law_e"] "_law_caught" (defScope s_l_caught) g cdg A out s H E0).nox (defBody s_l_caught) t ∧ t { nx := fun _ H' => Q .non H', rt := Q } (L2.start ["_law_act", "_law_e"] [.ref fl]) H := by
  have l1 : ∀ n : Nat, n ≤ 1000 → n ≤ sizeLine := fun n h => Nat.le_of_lt (small1000 h)
  have room1 : L2H.RoomH 1 (A.deeper (envOfC "_law_caught" (defScope s_l_caught) s.heap.objs.size g cdg)) := L2H.roomH_of (room.mono (by omega))
  have roomJ : L2H.RoomH j (A.deeper (envOfC "_law_caught" (defScope s_l_caught) s.heap.objs.size g cdg)) := L2H.roomH_of (room.mono (by omega))
  have rep : ∀ {a : Addr} {oe : Obj} {cls : Value} {d : Option Addr} {pn : List (Addr × Obj)}, L2N.Zn cls d oe → (∃ vs, oe.data = .fields vs) → CallR ((cxOf CX0 X.prog X.w X.K X.mg X.base ["_law_act", "_law_e"] "_law_caught" (defScope s_l_caught) g cdg A out s H E0).nox.suite a ((a, oe) :: pn)) (.builtin "repr") RR := by
    intro a oe cls d pn hz hf
    obtain ⟨vs, hv⟩ := hf
    exact rr _ (a, oe) rfl rfl rfl rfl rfl gds ⟨roomJ.dp, roomJ.un⟩ ⟨rfl, vs, hv, hz.2.2 vs hv⟩ List.mem_cons_self
  refine ⟨_, pss_cons (ps_tries (Wout := fun _ _ _ _ => False) (tb := fun W D sl H => ∃ E : XK, (∀ cls d H', E cls d H' → W cls d sl H') ∧ sl[0]? = some (some (.ref fl)) ∧ H c' = some (LamX.CodeO c' q) ∧ tl E H (fun _ H' => D.nx sl H')) rfl rfl scCaught.nd takes0N (fun W pn xe tk _ => ?body) (.cons (i := 1) (.three ⟨rfl, by decide, .inl N.m6⟩ ⟨rfl, by decide, .inl N.m10⟩ ⟨rfl, by decide, .inl N.m12⟩) rfl rfl (fun a oe cls d pn hz hf => pss_one (ps_ret (pe_lst (pa_cons (kind_call FK gds room1 hz hf rfl km kk kb (pv 1)) (pa_cons (pe_callB (rep hz hf) (by rfl) mr PyProof.Rows.boot_repr (pa_cons (pe_xfR hz.zc hf (pv 1)) pa_nil)) pa_nil)))))
      (.cons (i := 1) (.two ⟨rfl, by decide, .inl N.m18⟩ ⟨rfl, by decide, .inl N.m19⟩) rfl rfl (fun a oe cls d pn hz hf => pss_one (ps_ret (pe_lst (pa_cons (kind_call FK gds room1 hz hf rfl km kk kb (pv 1)) (pa_cons (pe_callB (rep hz hf) (by rfl) mr PyProof.Rows.boot_repr (pa_cons (pe_xfR hz.zc hf (pv 1)) pa_nil)) pa_nil)))))
      (.cons (i := 1) (.one ⟨rfl, by decide, .inl N.m17⟩) rfl rfl (fun a oe cls d pn hz hf => pss_one (ps_ret (pe_lst (pa_cons (kind_call FK gds room1 hz hf rfl km kk kb (pv 1)) (pa_cons pe_str pa_nil)))))
      (.cons (i := 1) (.two ⟨rfl, by decide, .inl N.m20⟩ ⟨rfl, by decide, .inl N.m21⟩) rfl rfl (fun a oe cls d pn hz hf => pss_one (ps_ret (pe_lst (pa_cons (kind_call FK gds room1 hz hf rfl km kk kb (pv 1)) (pa_cons (pe_callB (rep hz hf) (by rfl) mr PyProof.Rows.boot_repr (pa_cons (pe_xfR hz.zc hf (pv 1)) pa_nil)) pa_nil)))))
      (.cons (i := 1) (.one ⟨rfl, by decide, .inl N.m22⟩) rfl rfl (fun a oe cls d pn hz hf => pss_one (ps_ret (pe_lst (pa_cons (kind_call FK gds room1 hz hf rfl km kk kb (pv 1)) (pa_cons pe_str pa_nil))))) .nil))))))
    (pss_one (ps_ret (pe_weak (t' := fun _ H Q => ∀ L, H L = none → Q (.ref L) (upd H L (.lst [.str "none", .str ""]))) (pe_lst (pa_cons pe_str (pa_cons pe_str pa_nil))) (fun _ _ _ q => ⟨l1 2 (by decide), q⟩)))), ?_⟩
  case body =>
    refine ⟨fun pins s1 sl H1 D inv got => ?_⟩
    obtain ⟨E, hW, h0, hc, ht⟩ := got
    exact (pss_one (ps_expr (act W pn xe E _ _ tk))).run pins s1 sl H1 D inv ⟨h0, hc, hW, ht⟩
  refine ⟨Got X.K c RR Q, fun cls d H' got => ?_, rfl, code, want⟩
  obtain ⟨D, dd, k, v, rfl, rfl, Z, Y, V, hd, q⟩ := got
  refine ⟨false, V.e1, fun z => Bool.noConfusion z, fun _ => ⟨false, V.e2, fun z => Bool.noConfusion z, fun _ => ⟨false, V.e3, fun z => Bool.noConfusion z, fun _ => ⟨true, V.e4, fun _ a na => ?_, fun z => Bool.noConfusion z⟩⟩⟩⟩
  refine ⟨rfl, D, dd, k, _, rfl, rfl, Z, Y, hd, fun H1 s1 => ?_⟩
  refine ⟨D, V.xf, V.no, _, rfl, rfl, rfl, dd, _, v, rfl, s1 _ _ hd, by simp [List.lookup], ?_⟩
  refine mono _ _ _ _ (fun y H2 z => ?_) (q H1 s1)
  obtain ⟨txt, rfl, z⟩ := z
  exact ⟨l1 2 (by decide), z⟩
/-- caught(lambda: body) -/
theorem pe_caught {T : List (Addr × Str)} {g fK c0 P0 : Addr} {k j : Nat} {gd fdK : FuncData} {params : Arguments} {body : Expr} {scope : Scope} {t : XK → TE} {p lpos pos : Pos}
    (F : Fun X.K "_law_caught" "_law_caught" s_l_caught g gd) (hb : Binds X.K gd ["_law_act"] []) (hk : PySem.W.keepIn X.K (.ref g) = true) (hm : X.mg "_law_caught" = some (.ref g)) (hg : Gl X "_law_caught")
    (N : ErNames X.mg c) (FK : FnP X.prog X.w X.K X.mg X.base CX0 1 fK fdK ["_law_e"] (spKind X.K c)) (kb : Binds X.K fdK ["_law_e"] []) (kk : PySem.W.keepIn X.K (.ref fK) = true) (km : X.mg "_law_kind" = some (.ref fK)) (mr : X.mg "repr" = none) (rr : Reprs X j RR)
    (mono : ∀ xs H (Q Q' : VK), (∀ v H', Q v H' → Q' v H') → RR xs H Q → RR xs H Q')
    (gds : X.A.guards = some []) (TB : LamX.TabB X.base X.mg c0 P0) (code : X.env.code = .ref c0) (mem : (P0, X.env.qual ++ "<lambda>") ∈ T) (only : ∀ q ∈ T, q.1 = P0 → q.2 = X.env.qual ++ "<lambda>")
    (room : Room (j + k + 3) X.A) (L : LamX.LamS X.env.scope scope) (dfl : defaultsOf params X.env = ([], []))
    (bind : ∀ (q : Str) (cl : List (Str × Addr)) (pm cv ctv : Value), bindArgs (PySem.W.kla_fn "<lambda>" q params body scope cl pm cv ctv) ⟨[], []⟩ = pure [])
    (walk : ∀ (A : Around) (outer : List Env) (s : Shared) (H : Hp) (E : XK) (f c' : Addr), A.guards = some [] → Room k (A.deeper (LamX.lamEnv X scope s.heap.objs.size f c')) → PE (lamC X A outer s H E scope f c') body (t E)) :
    PE X (.Call (.Name "_law_caught" p) [.Lambda params body scope lpos] [] pos) (tCaught X.K T c RR t) := by
  obtain ⟨oc, od, kV, doc, pm, an, cdv, ct, osl, e, lk, lc⟩ := F.ex
  subst e
  refine ⟨fun pins s sl H Q inv want => ?_⟩
  obtain ⟨hT, want⟩ := want
  refine wpAny_Call_Name_kw (ld_glob inv hg hm ?_ (by decide))
  refine PySem.W.callWith_K (h₀ := X.base) inv.ok.mod.kin hk ?_ (by rfl) (by rfl)
  show wpAny _ _ (spliced ((false, eval (.Lambda params body scope lpos) X.env) :: backTo pos (starEach [] X.env))) _ _ s
  refine Calls.spliced_cons (LamX.lam_make2 inv TB code mem only hT dfl (L.has inv.ok) fun f c' pm' ctv H1 s1 inv1 ext T1 hf nf nfr hco => ?_)
  refine Calls.spliced_nil ⟨inv1.kIn, ?_⟩
  have run : codeAny (model X.prog X.w) X.A (.call (.ref g) ⟨[.ref f], []⟩) (CR CX0 X.stack X.prog X.w H1 s1 Q E0) s1 := by
    refine LamX.run_ofS (k := j + k + 2) (N := ["_law_act", "_law_e"]) (ps := ["_law_act"]) (us := [.ref f]) (vs := [.ref f]) lk lc scCaught room inv1.env0 (hb s1 [.ref f] inv1.kIn rfl) (.cons rfl .nil) rfl fun room2 => ?_
    obtain ⟨t', ht, hq⟩ := caught_body (j := j) (fl := f) (c' := c') (q := X.env.qual ++ "<lambda>") (Q := Q) (tl := fun E H' Q' => t E sl H' Q') (out := X.stack) (A := X.A) (s := s1) (H := H1) (g := g) (cdg := cdv) N FK kb kk km mr rr mono gds (room2.mono (by omega))
      (fun W pn xe E p1 p2 tk => act_call (k := k) (i := 0) inv1 L gds hf nf nfr (bind _ _ _ _ _) tk (room2.mono (by omega)) (fun A outer s H hg2 hr2 => walk A outer s H E f c' hg2 hr2) rfl (.inl rfl)) hco (want H1 ext T1)
    exact ⟨t', ht.nox, hq⟩
  refine wpAny_call (codeAny_mono run fun r s2 got => ?_)
  cases r with
  | error e => exact (show False from got).elim
  | ok fl =>
    cases fl with
    | ret u => exact inv1.after got
    | next => exact got.elim
    | brk => exact got.elim
    | cont => exact got.elim
end
/-! ### dq.lean -/
/-! data with empty dicts in it: what repr shows of it -/
mutual
inductive Dq (H : Hp) : V → PyData → Prop where
  | non : Dq H .non .none
  | bl (b : Bool) : Dq H (.bl b) (.bool b)
  | int (i : Int) : Dq H (.int i) (.int i)
  | str (x : Str) : Dq H (.str x) (.str x)
  | dic {a : Addr} (h : H a = some (.dK [])) : Dq H (.ref a) (.dict [])
  | lst {a : Addr} {xs : List V} {ds : List PyData} (h : H a = some (.lst xs)) (t : DqAll H xs ds) : Dq H (.ref a) (.list ds)
  | tup {a : Addr} {xs : List V} {ds : List PyData} (h : H a = some (.tup xs)) (t : DqAll H xs ds) : Dq H (.ref a) (.tuple ds)
inductive DqAll (H : Hp) : List V → List PyData → Prop where
  | nil : DqAll H [] []
  | cons {v : V} {vs : List V} {d : PyData} {ds : List PyData} (h : Dq H v d) (t : DqAll H vs ds) : DqAll H (v :: vs) (d :: ds)
end
mutual
theorem Dq.same {H H' : Hp} (s : Same H H') : ∀ (d : PyData) (v : V), Dq H v d → Dq H' v d
  | .none, _, h => by cases h; exact .non
  | .bool b, _, h => by cases h; exact .bl b
  | .int i, _, h => by cases h; exact .int i
  | .str x, _, h => by cases h; exact .str x
  | .list ds, _, h => by
    cases h with
    | lst a b => exact .lst (s _ _ a) (DqAll.same s ds _ b)
  | .tuple ds, _, h => by
    cases h with
    | tup a b => exact .tup (s _ _ a) (DqAll.same s ds _ b)
  | .dict ds, _, h => by
    cases h with
    | dic a => exact .dic (s _ _ a)
theorem DqAll.same {H H' : Hp} (s : Same H H') : ∀ (ds : List PyData) (vs : List V), DqAll H vs ds → DqAll H' vs ds
  | [], _, h => by cases h; exact .nil
  | d :: ds, _, h => by
    cases h with
    | cons a b => exact .cons (Dq.same s d _ a) (DqAll.same s ds _ b)
end
section
variable {X : Cx} {pins : List (Addr × Obj)} {sl : L2.St} {H : Hp} {s : Shared}
theorem reads_dic (inv : Inv X pins sl H s) {a : Addr} (h : H a = some (.dK [])) : Reads s.heap (.ref a) (.dict []) [a] := by
  obtain ⟨_, ns, vs, kv, o, es, ep, h1, h2, h3, h4, h5, h6⟩ := (show ObjOk X.prog X.w H s.heap a (.dK []) from inv.hok a _ h)
  cases kv
  have e0 : es.toList = [] := by
    generalize es.toList = l at h5
    cases h5
    rfl
  have := Reads.dict (h := s.heap) (kvs := []) h1 h2.1 h3 (by rw [e0]; exact .nil) (by rw [e0]; exact .nil)
  simpa using this
mutual
theorem Dq.reads (inv : Inv X pins sl H s) (free : H sysModules = none) : ∀ (d : PyData) (v : V) (u : Value), Dq H v d → RelV v u → ∃ as, Reads s.heap u d as ∧ sysModules ∉ as
  | .none, _, _, h, r => by
    cases h
    cases r
    exact ⟨[], .none, List.not_mem_nil⟩
  | .bool b, _, _, h, r => by
    cases h
    cases r
    exact ⟨[], .bool b, List.not_mem_nil⟩
  | .int i, _, _, h, r => by
    cases h
    obtain ⟨t, rfl⟩ := r
    exact ⟨[], .int i t, List.not_mem_nil⟩
  | .str x, _, _, h, r => by
    cases h
    obtain ⟨t, rfl⟩ := r
    exact ⟨[], .str x t, List.not_mem_nil⟩
  | .list ds, _, _, h, r => by
    cases h with
    | lst a b =>
      cases r
      obtain ⟨its, rv, ⟨o, n, ho, hc, _, hd⟩, _⟩ := inv.list (show SqL X.K H _ _ from SqL.of a)
      obtain ⟨as, rd, no⟩ := DqAll.reads inv free ds _ its b rv
      refine ⟨_, .list ho hc hd rd, fun m => ?_⟩
      rcases List.mem_cons.mp m with e | m
      · rw [← e, free] at a
        cases a
      · exact no m
  | .tuple ds, _, _, h, r => by
    cases h with
    | tup a b =>
      cases r
      obtain ⟨its, rv, ⟨o, ho, hc, n, hd⟩, _⟩ := inv.tuple (show SqT X.K H _ _ from .inl (.inl a))
      obtain ⟨as, rd, no⟩ := DqAll.reads inv free ds _ its b rv
      exact ⟨_, .tuple ho hc hd rd, no⟩
  | .dict kvs, _, _, h, r => by
    cases h with
    | dic a =>
      cases r
      refine ⟨_, reads_dic inv a, fun m => ?_⟩
      rw [← List.mem_singleton.mp m, free] at a
      cases a
theorem DqAll.reads (inv : Inv X pins sl H s) (free : H sysModules = none) : ∀ (ds : List PyData) (vs : List V) (us : List Value), DqAll H vs ds → Vals vs us → ∃ as, ReadsAll s.heap us ds as ∧ sysModules ∉ as
  | [], _, _, h, r => by
    cases h
    cases r
    exact ⟨[], .nil, List.not_mem_nil⟩
  | d :: ds, _, _, h, r => by
    cases h with
    | cons a b =>
      cases r with
      | cons r1 r2 =>
        obtain ⟨as, rd, no⟩ := Dq.reads inv free d _ _ a r1
        obtain ⟨bs, rds, nos⟩ := DqAll.reads inv free ds _ _ b r2
        exact ⟨_, .cons rd rds, fun m => (List.mem_append.mp m).elim no nos⟩
end
end
/-- short enough -/
structure Sq (k n : Nat) (d : PyData) : Prop where
  sh : d.showable = true
  dp : d.depth ≤ k
  ln : d.shown.length ≤ n
structure SqA (k n : Nat) (ds : List PyData) : Prop where
  sh : PyData.showableAll ds = true
  dp : PyData.depthAll ds ≤ k
  ln : ((PyData.shownAll ds).map (·.length)).sum + 2 * ds.length ≤ n
theorem Sq.of {k n : Nat} {d : PyData} (h : Sm k n d) : Sq k n d := ⟨h.sh, h.dp, h.ln⟩
theorem Sq.up {j k n m : Nat} {d : PyData} (h : Sq j n d) (le2 : j ≤ k) (le : n ≤ m) : Sq k m d := ⟨h.sh, Nat.le_trans h.dp le2, Nat.le_trans h.ln le⟩
theorem SqA.nil {k : Nat} : SqA k 0 [] := ⟨(SmL.nil (k := k)).sh, (SmL.nil (k := k)).dp, (SmL.nil (k := k)).ln⟩
theorem SqA.cons {k n m : Nat} {d : PyData} {ds : List PyData} (h : Sq k n d) (t : SqA k m ds) : SqA k (n + m + 2) (d :: ds) := by
  refine ⟨by simp only [PyData.showableAll, h.sh, t.sh, Bool.and_self], ?_, ?_⟩
  · have h1 := h.dp
    have h2 := t.dp
    simp only [PyData.depthAll]
    omega
  · have h1 := h.ln
    have h2 := t.ln
    rw [PyData.shownAll_cons]
    simp only [List.map_cons, List.sum_cons, List.length_cons]
    omega
theorem Sq.lst {k n : Nat} {ds : List PyData} (h : SqA k n ds) : Sq (k + 1) (n + 3) (.list ds) := by
  refine ⟨by simp only [PyData.showable, h.sh], ?_, ?_⟩
  · have := h.dp
    simp only [PyData.depth]
    omega
  · have h1 := h.ln
    have h2 := listText_len_le (PyData.shownAll ds)
    rw [PyData.shownAll_length] at h2
    simp only [PyData.shown]
    omega
theorem Sq.tup {k n : Nat} {ds : List PyData} (h : SqA k n ds) : Sq (k + 1) (n + 3) (.tuple ds) := by
  refine ⟨by simp only [PyData.showable, h.sh], ?_, ?_⟩
  · have := h.dp
    simp only [PyData.depth]
    omega
  · have h1 := h.ln
    have h2 := tupleText_len_le (PyData.shownAll ds)
    rw [PyData.shownAll_length] at h2
    simp only [PyData.shown]
    omega
theorem Sq.dic : Sq 1 2 (.dict []) := ⟨by simp only [PyData.showable, PyData.showableKv], by simp only [PyData.depth, PyData.depthKv]; omega, by decide +kernel⟩
theorem Sq.non : Sq 1 10 .none := ⟨by simp only [PyData.showable], by simp only [PyData.depth]; omega, by decide +kernel⟩
theorem Sq.str {x : Str} {n : Nat} (h : (reprText x).length ≤ n) : Sq 1 n (.str x) := ⟨by simp only [PyData.showable], by simp only [PyData.depth]; omega, by rw [PyData.shown_str]; exact h⟩
/-- what repr shows of such data -/
structure RD (xs : List V) (H : Hp) (Q : VK) : Prop where
  ex : ∃ (v : V) (d : PyData), xs = [v] ∧ Dq H v d ∧ Sq 64 16777216 d ∧ Q (.str d.shown) H
theorem RD.mono (xs : List V) (H : Hp) (Q Q' : VK) (imp : ∀ v H', Q v H' → Q' v H') (h : RD xs H Q) : RD xs H Q' := by
  obtain ⟨v, d, e, dq, sq, q⟩ := h.ex
  exact ⟨v, d, e, dq, sq, imp _ _ q⟩
theorem reprD {X : Cx} (sys : ∃ o, X.base.get? sysModules = some o) (gds : X.A.guards = some []) (room : X.A.units + 70 < cLine) : CallR X (.builtin "repr") RD := by
  intro pins st sl H xs us Q inv vals want
  obtain ⟨v, d, e, dq, sq, q⟩ := want.ex
  subst e
  obtain ⟨u, eu, rel⟩ := vals1 vals
  subst eu
  obtain ⟨ob, hb⟩ := sys
  have free := (inv.bs _ _ hb).2
  have len : d.shown.length ≤ sizeLine := by rw [sizeLine_eq]; exact sq.ln
  have deep : X.A.units + (d.depth + 1) < cLine := by have := sq.dp; omega
  obtain ⟨as, rd, no⟩ := Dq.reads inv free d v u dq rel
  cases dq with
  | non =>
    cases rel
    exact PySem.P.repr_of_none ⟨.str _, H, inv.tok _, ⟨_, rfl⟩, q⟩
  | bl b =>
    cases rel
    exact PySem.P.repr_of_bool ⟨.str _, H, inv.tok _, ⟨_, rfl⟩, by rw [PyData.shown_bool] at q; exact q⟩
  | int i =>
    obtain ⟨tk, rfl⟩ := rel
    have small : i.natAbs.log2 < 1920 := by
      have := sq.sh
      simpa only [PyData.showable, decide_eq_true_eq] using this
    exact PySem.P.repr_of_int small ⟨.str _, H, inv.tok _, ⟨_, rfl⟩, by rw [PyData.shown_int] at q; exact q⟩
  | str x =>
    obtain ⟨tk, rfl⟩ := rel
    rw [PyData.shown_str] at q len
    exact PySem.P.repr_of_str ⟨.str _, H, inv.tok _, ⟨_, rfl⟩, q⟩ len
  | dic h =>
    cases rel
    exact repr_of_reads' rd sq.sh (fun _ => no) gds deep (fun _ _ z => z) (fun h' u' tk kp => ⟨.str _, H, inv.kept kp, ⟨_, rfl⟩, q⟩) len
  | lst h t =>
    cases rel
    exact repr_of_reads' rd sq.sh (fun _ => no) gds deep (fun _ _ z => z) (fun h' u' tk kp => ⟨.str _, H, inv.kept kp, ⟨_, rfl⟩, q⟩) len
  | tup h t =>
    cases rel
    exact repr_of_reads' rd sq.sh (fun _ => no) gds deep (fun _ _ z => z) (fun h' u' tk kp => ⟨.str _, H, inv.kept kp, ⟨_, rfl⟩, q⟩) len
theorem rdQ {H : Hp} {Q : VK} {v : V} {d : PyData} {k n : Nat} (dq : Dq H v d) (sq : Sq k n d) (hk : k ≤ 64) (hn : n ≤ 16777216) (q : Q (.str d.shown) H) : RD [v] H Q := ⟨v, d, rfl, dq, sq.up hk hn, q⟩
/-! ### exact_text0.lean -/
/-! the text of a fraction -/
def numS (i : Int) : Str := Str.ofString (toString i)
def fmtS (a b : Int) : Str := if b = 1 then numS a else ((Str.empty ++ numS a) ++ Str.ofString "/") ++ numS b
theorem numS_tl {n : Nat} : TL.tl (numS (n : Int)) = TL.numL n := TL.tl_num n
theorem numS_len {i : Int} (h : i.natAbs < 2 ^ 1900) : (numS i).length ≤ 601 := intlen h
theorem dig_ok {c : Nat} (h : 48 ≤ c ∧ c ≤ 57) : Unicode.isDigit c = true := by
  have : c = 48 ∨ c = 49 ∨ c = 50 ∨ c = 51 ∨ c = 52 ∨ c = 53 ∨ c = 54 ∨ c = 55 ∨ c = 56 ∨ c = 57 := by omega
  rcases this with rfl | rfl | rfl | rfl | rfl | rfl | rfl | rfl | rfl | rfl <;> decide +kernel
theorem numS_num {i : Int} (h : 0 ≤ i) : Txt.isascii (numS i) = true ∧ Txt.isdigit (numS i) = true := by
  obtain ⟨n, rfl⟩ : ∃ n : Nat, i = (n : Int) := ⟨i.toNat, by omega⟩
  have e : (numS (n : Int)).cps.toList = TL.numL n := numS_tl
  have d := TL.numL_digits n
  have al : ∀ p : Nat → Bool, (∀ c, 48 ≤ c ∧ c ≤ 57 → p c = true) → (numS (n : Int)).cps.all p = true := fun p hp => by
    rw [← Array.all_toList, e, List.all_eq_true]
    exact fun c hc => hp c (d c hc)
  refine ⟨al _ fun c h => by simp; omega, ?_⟩
  have l : (numS (n : Int)).length > 0 := by
    have := TL.numL_ne n
    have e2 : (numS (n : Int)).length = (TL.numL n).length := by rw [← e]; simp [Str.length]
    rw [e2]
    exact List.length_pos_iff.mpr this
  unfold Txt.isdigit
  rw [al _ fun c h => dig_ok h, Bool.and_true]
  exact decide_eq_true l
theorem numS_int {i : Int} (h : 0 ≤ i) (l : i.natAbs < 2 ^ 1900) : intText? (numS i) = some i := by
  obtain ⟨n, rfl⟩ : ∃ n : Nat, i = (n : Int) := ⟨i.toNat, by omega⟩
  have ln := numS_len l
  have e2 : (numS (n : Int)).length = (TL.numL n).length := by rw [← numS_tl]; simp [Str.length, TL.tl]
  exact TL.int_num (by omega)
theorem numS_free {i : Int} (h : 0 ≤ i) {s : Nat} (hs : s < 48 ∨ 57 < s) : s ∉ TL.tl (numS i) := by
  obtain ⟨n, rfl⟩ : ∃ n : Nat, i = (n : Int) := ⟨i.toNat, by omega⟩
  rw [numS_tl]
  exact TL.numL_free hs
theorem empty_app (x : Str) : Str.empty ++ x = x := TL.ext_tl (by rw [TL.tl_append]; rfl)
theorem slash_tl : TL.tl (Str.ofString "/") = 47 :: [] := by decide +kernel
theorem part_one {a : Int} (h : 0 ≤ a) : Txt.partition (numS a) (Str.ofString "/") = (numS a, Str.empty, Str.empty) := TL.partition_none slash_tl (numS_free h (.inl (by decide)))
theorem part_two {a b : Int} (h : 0 ≤ a) : Txt.partition (((Str.empty ++ numS a) ++ Str.ofString "/") ++ numS b) (Str.ofString "/") = (numS a, Str.ofString "/", numS b) := by
  rw [empty_app]
  exact TL.partition_app slash_tl (numS_free h (.inl (by decide)))
theorem fmtS_len {n : Nat} {a b : Int} (h : Fr n a b) (hn : n ≤ 1900) : (fmtS a b).length ≤ 1300 := by
  have ha := numS_len (h.up hn).al
  have hb := numS_len (h.up hn).bl
  unfold fmtS
  split
  · omega
  · rw [strLen_append, strLen_append, strLen_append]
    have : (Str.ofString "/").length = 1 := by decide +kernel
    have : Str.empty.length = 0 := by decide +kernel
    omega
/-! ### things.lean -/
/-! values of a law's menu, made by displays: each expression's reading says only what kind of value comes -/
inductive Tx : Str → Bool → Prop where
  | good {a b : Int} (h : Fr 200 a b) : Tx (fmtS a b) true
  | no0 : Tx (Str.ofString "") false
  | no1 : Tx (Str.ofString "2/4") false
def NoStr (K : PySem.W.Frag) (H : Hp) (v : V) : Prop := ∃ t, TyX K H v t ∧ PySem.W.kitOne K t (.type "str") = some false
theorem NoStr.same {K : PySem.W.Frag} {H H' : Hp} {v : V} (h : NoStr K H v) (s : Same H H') : NoStr K H' v := let ⟨t, ty, e⟩ := h; ⟨t, TyX.same ty s, e⟩
/-- a value inside another one -/
structure Sw (K : PySem.W.Frag) (H : Hp) (v : V) : Prop where
  any : Any K H v
  fit : Fits v
  sh : ∃ d, Dq H v d ∧ Sq 4 12000 d
theorem Sw.same {K : PySem.W.Frag} {H H' : Hp} {v : V} (h : Sw K H v) (s : Same H H') : Sw K H' v := ⟨h.any.same s, h.fit, let ⟨d, q, z⟩ := h.sh; ⟨d, q.same s, z⟩⟩
/-- a value of the menu -/
structure Th (K : PySem.W.Frag) (H : Hp) (v : V) : Prop where
  is : ∃ b, IsB K H v b
  any : Any K H v
  fit : Fits v
  sh : ∃ d, Dq H v d ∧ Sq 6 40000 d
  tx : NoStr K H v ∨ ∃ x b, v = .str x ∧ Tx x b
theorem Th.same {K : PySem.W.Frag} {H H' : Hp} {v : V} (h : Th K H v) (s : Same H H') : Th K H' v :=
  ⟨let ⟨b, z⟩ := h.is; ⟨b, z.same s⟩, h.any.same s, h.fit, let ⟨d, q, z⟩ := h.sh; ⟨d, q.same s, z⟩, h.tx.elim (fun n => .inl (n.same s)) .inr⟩
theorem IsB.fr {K : PySem.W.Frag} {H : Hp} {v : V} (h : IsB K H v true) : FrV 200 H v := by
  generalize e : true = b at h
  cases h with
  | other => cases e
  | long => cases e
  | @pair p x y at_ hx hy fx fy =>
    cases ex : isPos x with
    | false => rw [fracB_no1 ex] at e; cases e
    | true =>
      cases ey : isPos y with
      | false => rw [fracB_no2 ey] at e; cases e
      | true =>
        obtain ⟨a, rfl, a0⟩ := isPos_int ex
        obtain ⟨b, rfl, b0⟩ := isPos_int ey
        rw [fracB_yes a0 b0] at e
        exact ⟨p, a, b, rfl, at_, a0, b0, of_decide_eq_true e.symm, fx, fy⟩
section
variable {K : PySem.W.Frag} {H : Hp}
theorem le1900 {i : Int} (h : i.natAbs < 2 ^ 200) : i.natAbs < 2 ^ 1900 := Nat.lt_of_lt_of_le h (Nat.pow_le_pow_right (by decide) (by decide))
theorem sw_int {i : Int} (h : i.natAbs < 2 ^ 200) : Sw K H (.int i) := ⟨.int i, h, _, .int i, (Sq.of (Sm.int (le1900 h))).up (by decide) (by decide)⟩
theorem sw_bl (b : Bool) : Sw K H (.bl b) := ⟨.bl b, trivial, _, .bl b, (Sq.of (Sm.bool b)).up (by decide) (by decide)⟩
theorem sw_non : Sw K H .non := ⟨.no ⟨_, .base .non, kit_ty (by decide +kernel)⟩, trivial, _, .non, Sq.non.up (by decide) (by decide)⟩
theorem sw_str {x : Str} (h : (reprText x).length ≤ 7000) : Sw K H (.str x) := ⟨.no ⟨_, .base (.str x), kit_ty (by decide +kernel)⟩, trivial, _, .str x, (Sq.str h).up (by decide) (by decide)⟩
theorem sw_dic {p : Addr} (h : H p = some (.dK [])) : Sw K H (.ref p) := ⟨any_dic h, trivial, _, .dic h, Sq.dic.up (by decide) (by decide)⟩
theorem sw_tup0 {p : Addr} (h : H p = some (.tup [])) : Sw K H (.ref p) := ⟨any_tup h, trivial, _, .tup h .nil, (Sq.tup (k := 1) SqA.nil).up (by decide) (by decide)⟩
theorem sw_lst0 {p : Addr} (h : H p = some (.lst [])) : Sw K H (.ref p) := ⟨any_lst h, trivial, _, .lst h .nil, (Sq.lst (k := 1) SqA.nil).up (by decide) (by decide)⟩
theorem sq_int {i : Int} (h : i.natAbs < 2 ^ 200) : Sq 1 601 (.int i) := Sq.of (Sm.int (le1900 h))
theorem sw_tup1 {p : Addr} {a : Int} (h : H p = some (.tup [.int a])) (ha : a.natAbs < 2 ^ 200) : Sw K H (.ref p) := ⟨any_tup h, trivial, _, .tup h (.cons (.int _) .nil), (Sq.tup (SqA.cons (sq_int ha) SqA.nil)).up (by decide) (by decide)⟩
theorem sw_lst1 {p : Addr} {a : Int} (h : H p = some (.lst [.int a])) (ha : a.natAbs < 2 ^ 200) : Sw K H (.ref p) := ⟨any_lst h, trivial, _, .lst h (.cons (.int _) .nil), (Sq.lst (SqA.cons (sq_int ha) SqA.nil)).up (by decide) (by decide)⟩
theorem sw_tup2 {p : Addr} {a b : Int} (h : H p = some (.tup [.int a, .int b])) (ha : a.natAbs < 2 ^ 200) (hb : b.natAbs < 2 ^ 200) : Sw K H (.ref p) := ⟨any_tup h, trivial, _, .tup h (.cons (.int _) (.cons (.int _) .nil)), (Sq.tup (SqA.cons (sq_int ha) (SqA.cons (sq_int hb) SqA.nil))).up (by decide) (by decide)⟩
theorem noS_tup {p : Addr} {xs : List V} (h : H p = some (.tup xs)) : NoStr K H (.ref p) := ⟨_, .base (.tup h), kit_ty (by decide +kernel)⟩
theorem noS_lst {p : Addr} {xs : List V} (h : H p = some (.lst xs)) : NoStr K H (.ref p) := ⟨_, .base (.lst h), kit_ty (by decide +kernel)⟩
theorem t_pair {p : Addr} {x y : V} (h : H p = some (.tup [x, y])) (hx : Sw K H x) (hy : Sw K H y) : Th K H (.ref p) := by
  obtain ⟨dx, qx, zx⟩ := hx.sh
  obtain ⟨dy, qy, zy⟩ := hy.sh
  exact ⟨⟨_, .pair h hx.any hy.any hx.fit hy.fit⟩, any_tup h, trivial, ⟨_, .tup h (.cons qx (.cons qy .nil)), (Sq.tup (SqA.cons zx (SqA.cons zy SqA.nil))).up (by decide) (by decide)⟩, .inl (noS_tup h)⟩
theorem t_tup1 {p : Addr} {x : V} (h : H p = some (.tup [x])) (hx : Sw K H x) : Th K H (.ref p) := by
  obtain ⟨dx, qx, zx⟩ := hx.sh
  exact ⟨⟨_, .long h (by show (1 : Nat) ≠ 2; decide)⟩, any_tup h, trivial, ⟨_, .tup h (.cons qx .nil), (Sq.tup (SqA.cons zx SqA.nil)).up (by decide) (by decide)⟩, .inl (noS_tup h)⟩
theorem t_tup3 {p : Addr} {x y z : V} (h : H p = some (.tup [x, y, z])) (hx : Sw K H x) (hy : Sw K H y) (hz : Sw K H z) : Th K H (.ref p) := by
  obtain ⟨dx, qx, zx⟩ := hx.sh
  obtain ⟨dy, qy, zy⟩ := hy.sh
  obtain ⟨dz, qz, zz⟩ := hz.sh
  exact ⟨⟨_, .long h (by show (3 : Nat) ≠ 2; decide)⟩, any_tup h, trivial, ⟨_, .tup h (.cons qx (.cons qy (.cons qz .nil))), (Sq.tup (SqA.cons zx (SqA.cons zy (SqA.cons zz SqA.nil)))).up (by decide) (by decide)⟩, .inl (noS_tup h)⟩
theorem t_lst2 {p : Addr} {x y : V} (h : H p = some (.lst [x, y])) (hx : Sw K H x) (hy : Sw K H y) : Th K H (.ref p) := by
  obtain ⟨dx, qx, zx⟩ := hx.sh
  obtain ⟨dy, qy, zy⟩ := hy.sh
  exact ⟨⟨_, .other (.base (.lst h)) (kit_ty (by decide +kernel))⟩, any_lst h, trivial, ⟨_, .lst h (.cons qx (.cons qy .nil)), (Sq.lst (SqA.cons zx (SqA.cons zy SqA.nil))).up (by decide) (by decide)⟩, .inl (noS_lst h)⟩
theorem t_tup0 {p : Addr} (h : H p = some (.tup [])) : Th K H (.ref p) := ⟨⟨_, .long h (by show (0 : Nat) ≠ 2; decide)⟩, any_tup h, trivial, ⟨_, .tup h .nil, (Sq.tup (k := 1) SqA.nil).up (by decide) (by decide)⟩, .inl (noS_tup h)⟩
theorem t_lst0 {p : Addr} (h : H p = some (.lst [])) : Th K H (.ref p) := ⟨⟨_, .other (.base (.lst h)) (kit_ty (by decide +kernel))⟩, any_lst h, trivial, ⟨_, .lst h .nil, (Sq.lst (k := 1) SqA.nil).up (by decide) (by decide)⟩, .inl (noS_lst h)⟩
theorem t_dic {p : Addr} (h : H p = some (.dK [])) : Th K H (.ref p) := ⟨⟨_, .other (.base (.dK h)) (kit_ty (by decide +kernel))⟩, any_dic h, trivial, ⟨_, .dic h, Sq.dic.up (by decide) (by decide)⟩, .inl ⟨_, .base (.dK h), kit_ty (by decide +kernel)⟩⟩
theorem t_int {i : Int} (h : i.natAbs < 2 ^ 200) : Th K H (.int i) := ⟨⟨_, .other (.base (.int i)) (kit_ty (by decide +kernel))⟩, .int i, h, ⟨_, .int i, (sq_int h).up (by decide) (by decide)⟩, .inl ⟨_, .base (.int i), kit_ty (by decide +kernel)⟩⟩
theorem t_bl (b : Bool) : Th K H (.bl b) := ⟨⟨_, .other (.base (.bl b)) (kit_ty (by decide +kernel))⟩, .bl b, trivial, ⟨_, .bl b, (Sq.of (Sm.bool b)).up (by decide) (by decide)⟩, .inl ⟨_, .base (.bl b), kit_ty (by decide +kernel)⟩⟩
theorem t_non : Th K H .non := ⟨⟨_, .other (.base .non) (kit_ty (by decide +kernel))⟩, .no ⟨_, .base .non, kit_ty (by decide +kernel)⟩, trivial, ⟨_, .non, Sq.non.up (by decide) (by decide)⟩, .inl ⟨_, .base .non, kit_ty (by decide +kernel)⟩⟩
theorem t_str {x : Str} {b : Bool} (h : Tx x b) (l : (reprText x).length ≤ 14000) : Th K H (.str x) := ⟨⟨_, .other (.base (.str x)) (kit_ty (by decide +kernel))⟩, .no ⟨_, .base (.str x), kit_ty (by decide +kernel)⟩, trivial, ⟨_, .str x, (Sq.str l).up (by decide) (by decide)⟩, .inr ⟨x, b, rfl, h⟩⟩
theorem t_fr {p : Addr} {a b : Int} {n : Nat} (h : FrAt n H p a b) (hn : n ≤ 200) : Th K H (.ref p) := t_pair h.1 (sw_int (h.2.up hn).al) (sw_int (h.2.up hn).bl)
end
/-! readings: C says what the names hold; what S marks is kept apart from all that is made -/
/-- a table of code objects -/
def tblAt (H : Hp) (b : Addr) : Bool := match H b with
  | some (.tbl _) => true
  | _ => false
theorem tblAt_of {H : Hp} {b : Addr} {o : HO} (e : H b = some o) (n : ∀ ps, o ≠ .tbl ps) : tblAt H b = false := by
  unfold tblAt
  rw [e]
  split
  · rename_i ps z
    exact absurd (Option.some.inj z) (n ps)
  · rfl
def hid (S : Addr → Bool) (H : Hp) : Hp := fun b => if (S b || tblAt H b) = true then none else H b
theorem hid_get {S : Addr → Bool} {H : Hp} {b : Addr} {o : HO} (h : hid S H b = some o) : S b = false ∧ H b = some o ∧ ∀ ps, o ≠ .tbl ps := by
  unfold hid at h
  split at h
  · cases h
  · rename_i n
    have n' := Bool.eq_false_iff.mpr n
    rw [Bool.or_eq_false_iff] at n'
    refine ⟨n'.1, h, fun ps z => ?_⟩
    have := n'.2
    unfold tblAt at this
    rw [h, z] at this
    cases this
theorem hid_of {S : Addr → Bool} {H : Hp} {b : Addr} {o : HO} (s : S b = false) (h : H b = some o) (n : ∀ ps, o ≠ .tbl ps) : hid S H b = some o := by
  unfold hid
  rw [if_neg (by rw [s, tblAt_of h n]; decide)]
  exact h
theorem hid_at {S : Addr → Bool} {H : Hp} {b : Addr} {o : HO} (h : hid S H b = some o) : H b = some o := (hid_get h).2.1
theorem hid_same {S : Addr → Bool} {H : Hp} : Same (hid S H) H := fun _ _ e => hid_at e
theorem same_hid {S : Addr → Bool} {H H' : Hp} (s : Same H H') : Same (hid S H) (hid S H') := fun b o e => let ⟨x, y, z⟩ := hid_get e; hid_of x (s _ _ y) z
theorem new_hid {S : Addr → Bool} {H : Hp} {p : Addr} {o : HO} (a : ∀ b, S b = true → H b ≠ none) (n : H p = none) (t : ∀ ps, o ≠ .tbl ps := by intro _ z; cases z) : hid S (upd H p o) p = some o :=
  hid_of (Bool.eq_false_iff.mpr fun z => a p z n) upd_same t
theorem hid_keep {p : Addr} {H H' : Hp} (k : Keep p H H') : Same (hid (fun b => b == p) H) (hid (fun b => b == p) H') := fun b o e => let ⟨x, y, z⟩ := hid_get e; hid_of x (k b o (fun w => by rw [w] at x; simp at x) y) z
theorem hid_keepS {S : Addr → Bool} {p : Addr} {H H' : Hp} (sp : S p = true) (k : Keep p H H') : Same (hid S H) (hid S H') := fun b o e => let ⟨x, y, z⟩ := hid_get e; hid_of x (k b o (fun w => by rw [w, sp] at x; cases x) y) z
/-- what S marks is there -/
def Held (S : Addr → Bool) (H : Hp) : Prop := ∀ b, S b = true → H b ≠ none
theorem Held.keep {S : Addr → Bool} {p : Addr} {H H' : Hp} (h : Held S H) (k : Keep p H H') (hp : Pool H' p) : Held S H' := fun b e => by
  by_cases n : b = p
  · obtain ⟨_, _, _, ey, _⟩ := hp
    rw [n, ey]
    exact fun t => nomatch t
  · cases eb : H b with
    | none => exact absurd eb (h b e)
    | some o => rw [k b o n eb]; exact fun t => nomatch t
theorem hid_ext {S : Addr → Bool} {H H' : Hp} (e : LamX.ExtN H H') : Same (hid S H) (hid S H') := fun b o h => let ⟨x, y, z⟩ := hid_get h; hid_of x (e b o y z) z
/-- the tables alone hidden -/
def noT (H : Hp) : Hp := hid (fun _ => false) H
theorem hid_noT {S : Addr → Bool} {H : Hp} : Same (hid S H) (noT H) := fun b o h => let ⟨_, y, z⟩ := hid_get h; hid_of rfl y z
theorem noT_same {H : Hp} : Same (noT H) H := hid_same
theorem same_noT {H H' : Hp} (s : Same H H') : Same (noT H) (noT H') := same_hid s
theorem noT_ext {H H' : Hp} (e : LamX.ExtN H H') : Same (noT H) (noT H') := hid_ext e
theorem noT_of {H : Hp} {b : Addr} {o : HO} (h : H b = some o) (n : ∀ ps, o ≠ .tbl ps := by intro _ z; cases z) : noT H b = some o := hid_of rfl h n
/-- the pool's cell hidden, too -/
abbrev hidP (p : Addr) (H : Hp) : Hp := hid (fun b => b == p) H
def Ct (C : L2.St → Prop) (S : Addr → Bool) (sl : L2.St) (H : Hp) : Prop := C sl ∧ ∀ b, S b = true → H b ≠ none
theorem Ct.same {C : L2.St → Prop} {S : Addr → Bool} {sl : L2.St} {H H' : Hp} (c : Ct C S sl H) (s : Same H H') : Ct C S sl H' := ⟨c.1, fun b z => by
  cases e : H b with
  | none => exact absurd e (c.2 b z)
  | some o => rw [s _ _ e]; exact fun t => nomatch t⟩
def wI (C : L2.St → Prop) (S : Addr → Bool) (i : Int) : TE := fun sl H Q => Ct C S sl H ∧ Q (.int i) H
def wS (K : PySem.W.Frag) (C : L2.St → Prop) (S : Addr → Bool) : TE := fun sl H Q => Ct C S sl H ∧ ∀ v H', Same H H' → Sw K (hid S H') v → Q v H'
def wT (K : PySem.W.Frag) (C : L2.St → Prop) (S : Addr → Bool) : TE := fun sl H Q => Ct C S sl H ∧ ∀ v H', Same H H' → Th K (hid S H') v → Q v H'
def wTs (K : PySem.W.Frag) (C : L2.St → Prop) (S : Addr → Bool) (n : Nat) : TA := fun sl H Q => Ct C S sl H ∧ ∀ vs H', Same H H' → vs.length = n → (∀ v ∈ vs, Th K (hid S H') v) → Q vs H'
section
variable {X : Cx} {C : L2.St → Prop} {S : Addr → Bool}
theorem line3 : 3 ≤ sizeLine := Nat.le_of_lt (small1000 (by decide))
theorem line_n {n : Nat} (h : n ≤ 900) : n ≤ sizeLine := Nat.le_of_lt (small1000 (by omega))
theorem wI_c {j : Nat} {n : Int} {pos : Pos} : PE X (.Constant (.int n) j pos) (wI C S n) := pe_weak pe_int fun _ _ _ h => h.2
theorem wI_v {i : Nat} {n : Int} {e : Expr} (he : PE X e (tVar i)) (hC : ∀ sl, C sl → sl[i]? = some (some (.int n))) : PE X e (wI C S n) := pe_weak he fun _ _ _ h => ⟨_, hC _ h.1.1, h.2⟩
theorem wI_sub {a b : Expr} {i j : Int} {pos : Pos} (ha : PE X a (wI C S i)) (hb : PE X b (wI C S j)) : PE X (.BinOp a .Sub b pos) (wI C S (i - j)) := pe_weak (pe_op op_sub ha hb) fun _ _ _ h => ⟨h.1, h.1, _, _, rfl, rfl, h.2⟩
theorem wI_add {a b : Expr} {i j : Int} {pos : Pos} (ha : PE X a (wI C S i)) (hb : PE X b (wI C S j)) : PE X (.BinOp a .Add b pos) (wI C S (i + j)) := pe_weak (pe_op op_add ha hb) fun _ _ _ h => ⟨h.1, h.1, _, _, rfl, rfl, h.2⟩
theorem wI_mul {a b : Expr} {i j : Int} {pos : Pos} (ha : PE X a (wI C S i)) (hb : PE X b (wI C S j)) (small : -(2 ^ 64) < j ∧ j < 2 ^ 64) : PE X (.BinOp a .Mult b pos) (wI C S (i * j)) := pe_weak (pe_op op_mul ha hb) fun _ _ _ h => ⟨h.1, h.1, _, _, rfl, rfl, .inr small, h.2⟩
theorem wS_i {e : Expr} {i : Int} (he : PE X e (wI C S i)) (h : i.natAbs < 2 ^ 200) : PE X e (wS X.K C S) := pe_weak he fun _ H _ q => ⟨q.1, q.2 _ H (Same.refl H) (sw_int h)⟩
theorem wS_bl {b : Bool} {j : Nat} {pos : Pos} : PE X (.Constant (.bool b) j pos) (wS X.K C S) := pe_weak pe_bl fun _ H _ q => q.2 _ H (Same.refl H) (sw_bl b)
theorem wS_non {j : Nat} {pos : Pos} : PE X (.Constant .none j pos) (wS X.K C S) := pe_weak pe_non fun _ H _ q => q.2 _ H (Same.refl H) sw_non
theorem wS_dic {pos : Pos} : PE X (.Dict [] [] pos) (wS X.K C S) := pe_weak pe_dnewK fun _ H _ q p np => q.2 _ _ (same_upd np) (sw_dic (new_hid q.1.2 np))
theorem wS_tup0 {k : Nat} {pos : Pos} : PE X (.Tuple [] k pos) (wS X.K C S) := pe_weak (pe_tup pa_nil) fun _ H _ q => ⟨line_n (by decide), fun p np => q.2 _ _ (same_upd np) (sw_tup0 (new_hid q.1.2 np))⟩
theorem wS_lst0 {pos : Pos} : PE X (.List [] pos) (wS X.K C S) := pe_weak (pe_lst pa_nil) fun _ H _ q => ⟨line_n (by decide), fun p np => q.2 _ _ (same_upd np) (sw_lst0 (new_hid q.1.2 np))⟩
theorem wS_tup1 {e : Expr} {i : Int} {k : Nat} {pos : Pos} (he : PE X e (wI C S i)) (h : i.natAbs < 2 ^ 200) (hs : starEach [e] X.env = (false, eval e X.env) :: starEach [] X.env := by rfl) : PE X (.Tuple [e] k pos) (wS X.K C S) :=
  pe_weak (pe_tup (pa_cons he pa_nil hs)) fun _ H _ q => ⟨q.1, line_n (by decide : 1 ≤ 900), fun p np => q.2 _ _ (same_upd np) (sw_tup1 (new_hid q.1.2 np) h)⟩
theorem wS_lst1 {e : Expr} {i : Int} {pos : Pos} (he : PE X e (wI C S i)) (h : i.natAbs < 2 ^ 200) (hs : starEach [e] X.env = (false, eval e X.env) :: starEach [] X.env := by rfl) : PE X (.List [e] pos) (wS X.K C S) :=
  pe_weak (pe_lst (pa_cons he pa_nil hs)) fun _ H _ q => ⟨q.1, line_n (by decide : 1 ≤ 900), fun p np => q.2 _ _ (same_upd np) (sw_lst1 (new_hid q.1.2 np) h)⟩
theorem wS_tup2 {a b : Expr} {i j : Int} {k : Nat} {pos : Pos} (ha : PE X a (wI C S i)) (hb : PE X b (wI C S j)) (hi : i.natAbs < 2 ^ 200) (hj : j.natAbs < 2 ^ 200) (hs1 : starEach [a, b] X.env = (false, eval a X.env) :: starEach [b] X.env := by rfl) (hs2 : starEach [b] X.env = (false, eval b X.env) :: starEach [] X.env := by rfl) : PE X (.Tuple [a, b] k pos) (wS X.K C S) :=
  pe_weak (pe_tup (pa_cons ha (pa_cons hb pa_nil hs2) hs1)) fun _ H _ q => ⟨q.1, q.1, line_n (by decide : 2 ≤ 900), fun p np => q.2 _ _ (same_upd np) (sw_tup2 (new_hid q.1.2 np) hi hj)⟩
theorem wT_pair {a b : Expr} {k : Nat} {pos : Pos} (ha : PE X a (wS X.K C S)) (hb : PE X b (wS X.K C S)) (hs1 : starEach [a, b] X.env = (false, eval a X.env) :: starEach [b] X.env := by rfl) (hs2 : starEach [b] X.env = (false, eval b X.env) :: starEach [] X.env := by rfl) : PE X (.Tuple [a, b] k pos) (wT X.K C S) :=
  pe_weak (pe_tup (pa_cons ha (pa_cons hb pa_nil hs2) hs1)) fun _ H _ q => ⟨q.1, fun x H1 s1 hx => ⟨q.1.same s1, fun y H2 s2 hy => ⟨line_n (by decide : 2 ≤ 900), fun p np => q.2 _ _ (s1.trans (s2.trans (same_upd np))) (t_pair (new_hid (q.1.same (s1.trans s2)).2 np) ((hx.same (same_hid s2)).same (same_hid (same_upd np))) (hy.same (same_hid (same_upd np))))⟩⟩⟩
theorem wT_lst2 {a b : Expr} {pos : Pos} (ha : PE X a (wS X.K C S)) (hb : PE X b (wS X.K C S)) (hs1 : starEach [a, b] X.env = (false, eval a X.env) :: starEach [b] X.env := by rfl) (hs2 : starEach [b] X.env = (false, eval b X.env) :: starEach [] X.env := by rfl) : PE X (.List [a, b] pos) (wT X.K C S) :=
  pe_weak (pe_lst (pa_cons ha (pa_cons hb pa_nil hs2) hs1)) fun _ H _ q => ⟨q.1, fun x H1 s1 hx => ⟨q.1.same s1, fun y H2 s2 hy => ⟨line_n (by decide : 2 ≤ 900), fun p np => q.2 _ _ (s1.trans (s2.trans (same_upd np))) (t_lst2 (new_hid (q.1.same (s1.trans s2)).2 np) ((hx.same (same_hid s2)).same (same_hid (same_upd np))) (hy.same (same_hid (same_upd np))))⟩⟩⟩
theorem wT_tup1 {a : Expr} {k : Nat} {pos : Pos} (ha : PE X a (wS X.K C S)) (hs1 : starEach [a] X.env = (false, eval a X.env) :: starEach [] X.env := by rfl) : PE X (.Tuple [a] k pos) (wT X.K C S) :=
  pe_weak (pe_tup (pa_cons ha pa_nil hs1)) fun _ H _ q => ⟨q.1, fun x H1 s1 hx => ⟨line_n (by decide : 1 ≤ 900), fun p np => q.2 _ _ (s1.trans (same_upd np)) (t_tup1 (new_hid (q.1.same s1).2 np) (hx.same (same_hid (same_upd np))))⟩⟩
theorem wT_tup3 {a b c : Expr} {k : Nat} {pos : Pos} (ha : PE X a (wS X.K C S)) (hb : PE X b (wS X.K C S)) (hc : PE X c (wS X.K C S)) (hs1 : starEach [a, b, c] X.env = (false, eval a X.env) :: starEach [b, c] X.env := by rfl) (hs2 : starEach [b, c] X.env = (false, eval b X.env) :: starEach [c] X.env := by rfl) (hs3 : starEach [c] X.env = (false, eval c X.env) :: starEach [] X.env := by rfl) :
    PE X (.Tuple [a, b, c] k pos) (wT X.K C S) :=
  pe_weak (pe_tup (pa_cons ha (pa_cons hb (pa_cons hc pa_nil hs3) hs2) hs1)) fun _ H _ q => ⟨q.1, fun x H1 s1 hx => ⟨q.1.same s1, fun y H2 s2 hy => ⟨q.1.same (s1.trans s2), fun z H3 s3 hz => ⟨line3, fun p np => q.2 _ _ (s1.trans (s2.trans (s3.trans (same_upd np)))) (t_tup3 (new_hid (q.1.same (s1.trans (s2.trans s3))).2 np) (((hx.same (same_hid s2)).same (same_hid s3)).same (same_hid (same_upd np))) ((hy.same (same_hid s3)).same (same_hid (same_upd np))) (hz.same (same_hid (same_upd np))))⟩⟩⟩⟩
theorem wT_i {e : Expr} {i : Int} (he : PE X e (wI C S i)) (h : i.natAbs < 2 ^ 200) : PE X e (wT X.K C S) := pe_weak he fun _ H _ q => ⟨q.1, q.2 _ H (Same.refl H) (t_int h)⟩
theorem wT_bl {b : Bool} {j : Nat} {pos : Pos} : PE X (.Constant (.bool b) j pos) (wT X.K C S) := pe_weak pe_bl fun _ H _ q => q.2 _ H (Same.refl H) (t_bl b)
theorem wT_non {j : Nat} {pos : Pos} : PE X (.Constant .none j pos) (wT X.K C S) := pe_weak pe_non fun _ H _ q => q.2 _ H (Same.refl H) t_non
theorem wT_str {x : Str} {b : Bool} {j : Nat} {pos : Pos} (t : Tx x b) (l : (reprText x).length ≤ 14000) : PE X (.Constant (.str x) j pos) (wT X.K C S) := pe_weak pe_str fun _ H _ q => q.2 _ H (Same.refl H) (t_str t l)
theorem wT_dic {pos : Pos} : PE X (.Dict [] [] pos) (wT X.K C S) := pe_weak pe_dnewK fun _ H _ q p np => q.2 _ _ (same_upd np) (t_dic (new_hid q.1.2 np))
theorem wT_tup0 {k : Nat} {pos : Pos} : PE X (.Tuple [] k pos) (wT X.K C S) := pe_weak (pe_tup pa_nil) fun _ H _ q => ⟨line_n (by decide), fun p np => q.2 _ _ (same_upd np) (t_tup0 (new_hid q.1.2 np))⟩
theorem wT_lst0 {pos : Pos} : PE X (.List [] pos) (wT X.K C S) := pe_weak (pe_lst pa_nil) fun _ H _ q => ⟨line_n (by decide), fun p np => q.2 _ _ (same_upd np) (t_lst0 (new_hid q.1.2 np))⟩
theorem wTs_nil : PA X [] (wTs X.K C S 0) := ⟨fun pos pins s sl H Q inv h => pa_nil.run pos pins s sl H Q inv (h.2 [] H (Same.refl H) rfl fun _ m => by cases m)⟩
theorem wTs_cons {e : Expr} {es : List Expr} {n : Nat} (he : PE X e (wT X.K C S)) (hes : PA X es (wTs X.K C S n)) (hs : starEach (e :: es) X.env = (false, eval e X.env) :: starEach es X.env := by rfl) : PA X (e :: es) (wTs X.K C S (n + 1)) :=
  ⟨fun pos pins s sl H Q inv h => (pa_cons he hes hs).run pos pins s sl H Q inv ⟨h.1, fun v H1 s1 hv => ⟨h.1.same s1, fun vs H2 s2 len all => h.2 (v :: vs) H2 (s1.trans s2) (by rw [List.length_cons, len]) fun x m => (List.mem_cons.mp m).elim (fun e => by rw [e]; exact hv.same (same_hid s2)) (all x)⟩⟩⟩
/-- a list of such -/
theorem wT_list {es : List Expr} {n : Nat} {pos : Pos} (h : PA X es (wTs X.K C S n)) (hn : n ≤ 900) : PE X (.List es pos) (fun sl H Q => Ct C S sl H ∧ ∀ M vs H', Same H H' → hid S H' M = some (.lst vs) → vs.length = n → (∀ v ∈ vs, Th X.K (hid S H') v) → Q (.ref M) H') :=
  pe_weak (pe_lst h) fun _ H _ q => ⟨q.1, fun vs H1 s1 len all => ⟨line_n (by omega), fun p np => q.2 p vs _ (s1.trans (same_upd np)) (new_hid (q.1.same s1).2 np) len fun v m => (all v m).same (same_hid (same_upd np))⟩⟩
/-- xs + [..] -/
theorem wT_cat {i n m : Nat} {e : Expr} {es : List Expr} {pos p2 : Pos} (he : PE X e (tVar i)) (h : PA X es (wTs X.K C S n)) (hn : n + m ≤ 900) :
    PE X (.BinOp e .Add (.List es pos) p2) (fun sl H Q => Ct C S sl H ∧ ∃ L xs, sl[i]? = some (some (.ref L)) ∧ H L = some (.lst xs) ∧ xs.length = m ∧ (∀ v ∈ xs, Th X.K (hid S H) v) ∧ ∀ M vs H', Same H H' → hid S H' M = some (.lst vs) → vs.length = m + n → (∀ v ∈ vs, Th X.K (hid S H') v) → Q (.ref M) H') :=
  pe_weak (pe_op op_cat he (wT_list h (by omega))) fun sl H _ q => by
    obtain ⟨c, L, xs, h1, hL, len, all, q⟩ := q
    refine ⟨_, h1, c, fun M vs H1 s1 hM len2 all2 => ⟨L, M, _, _, rfl, rfl, s1 _ _ hL, hid_at hM, by rw [len, len2]; exact line_n (by omega), fun N nN => ?_⟩⟩
    refine q N _ _ (s1.trans (same_upd nN)) (new_hid (c.same s1).2 nN) (by rw [List.length_append, len, len2]) fun v m => ?_
    rcases List.mem_append.mp m with m | m
    · exact ((all v m).same (same_hid s1)).same (same_hid (same_upd nN))
    · exact (all2 v m).same (same_hid (same_upd nN))
end
/-! ### odd.lean -/
section
variable {P : Program} {w : World} {K : PySem.W.Frag} {mg : Str → Option Value} {base : Heap} {f : Addr} {fd : FuncData}
theorem numS_fmt {a : Int} : numS a = fmtS a 1 := by unfold fmtS; rw [if_pos rfl]
theorem half_txt : Tx (Str.ofString "1/2") true := by
  have e : Str.ofString "1/2" = fmtS 1 2 := by decide +kernel
  rw [e]
  exact .good ⟨by decide, by decide, by decide, by decide +kernel, by decide +kernel⟩
theorem one_1 {n : Nat} (hn : 1 ≤ n) : (1 : Int).natAbs < 2 ^ n := Nat.lt_of_lt_of_le (by decide : (1 : Int).natAbs < 2 ^ 1) (Nat.pow_le_pow_right (by decide) hn)
theorem fr_int {n : Nat} {a : Int} (h : 0 < a) (l : a.natAbs < 2 ^ n) (hn : 1 ≤ n) : Fr n a 1 := ⟨h, by decide, gcdI_one, l, one_1 hn⟩
/-- texts have few signs where repr shows them -/
theorem repr_dig {x : Str} (dg : ∀ c ∈ x.cps.toList, 47 ≤ c ∧ c ≤ 57) (l : x.length ≤ 1300) : (reprText x).length ≤ 14000 := by
  have h := StrLaws.reprText_len x (fun c hc => by have := dg c hc; omega)
  omega
theorem num_signs {i : Int} (h : 0 ≤ i) : ∀ c ∈ (numS i).cps.toList, 47 ≤ c ∧ c ≤ 57 := by
  obtain ⟨n, rfl⟩ : ∃ n : Nat, i = (n : Int) := ⟨i.toNat, by omega⟩
  intro c hc
  have e : (numS (n : Int)).cps.toList = TL.numL n := numS_tl
  rw [e] at hc
  have := TL.numL_digits n c hc
  omega
theorem num_repr {i : Int} (h : 0 ≤ i) (l : i.natAbs < 2 ^ 200) : (reprText (numS i)).length ≤ 7000 := by
  have h1 := StrLaws.reprText_len (numS i) (fun c hc => by have := num_signs h c hc; omega)
  have h2 := numS_len (le1900 l)
  omega
theorem fmt_signs {a b : Int} (ha : 0 ≤ a) (hb : 0 ≤ b) : ∀ c ∈ (fmtS a b).cps.toList, 47 ≤ c ∧ c ≤ 57 := by
  unfold fmtS
  split
  · exact num_signs ha
  · intro c hc
    have e : TL.tl (((Str.empty ++ numS a) ++ Str.ofString "/") ++ numS b) = TL.tl (numS a) ++ TL.tl (Str.ofString "/") ++ TL.tl (numS b) := by rw [empty_app, TL.tl_append, TL.tl_append]
    have hc' : c ∈ TL.tl (((Str.empty ++ numS a) ++ Str.ofString "/") ++ numS b) := hc
    rw [e, slash_tl] at hc'
    rcases List.mem_append.mp hc' with m | m
    · rcases List.mem_append.mp m with m | m
      · exact num_signs ha c m
      · rw [List.mem_singleton.mp m]
        exact ⟨Nat.le_refl _, by decide⟩
    · exact num_signs hb c m
theorem fmt_repr {n : Nat} {a b : Int} (h : Fr n a b) (hn : n ≤ 1900) : (reprText (fmtS a b)).length ≤ 14000 := repr_dig (fmt_signs (by have := h.a0; omega) (by have := h.b0; omega)) (fmtS_len h hn)
theorem t_fmt {H : Hp} {a b : Int} (h : Fr 200 a b) : Th K H (.str (fmtS a b)) := t_str (.good h) (fmt_repr h (by decide))
/-- str(n) of a positive number -/
theorem wT_num {X : Cx} {C : L2.St → Prop} {S : Addr → Bool} {e : Expr} {a : Int} {x : Str} {p pos : Pos} (h0 : 0 < a) (ha : a.natAbs < 2 ^ 200) (hg : Gl X x) (hm : X.mg x = none) (hv : bootBuiltins x = some (.type "str")) (he : PE X e (wI C S a)) (hn : x ≠ "__name__" := by decide) (hdb : (x == ("__debug__" : Str)) = false := by decide)
    (hs : starEach (e :: []) X.env = (false, eval e X.env) :: starEach [] X.env := by rfl) (hpl : (backTo pos (starEach [] X.env)).any (·.1) = false := by rfl) : PE X (.Call (.Name x p) [e] [] pos) (wT X.K C S) :=
  pe_weak (pe_callTy call_str_int hg hm hv (pa_cons he pa_nil hs) hn hdb hs hpl) fun _ H _ q => ⟨q.1, a, rfl, Nat.lt_of_lt_of_le (PySem.Flt.log2_lt_of (by decide) (le1900 ha)) (by decide), by
    have := q.2 (.str (numS a)) H (Same.refl H) (by rw [numS_fmt]; exact t_fmt (fr_int h0 ha (by decide)))
    exact this⟩
theorem wS_num {X : Cx} {C : L2.St → Prop} {S : Addr → Bool} {e : Expr} {a : Int} {x : Str} {p pos : Pos} (h0 : 0 < a) (ha : a.natAbs < 2 ^ 200) (hg : Gl X x) (hm : X.mg x = none) (hv : bootBuiltins x = some (.type "str")) (he : PE X e (wI C S a)) (hn : x ≠ "__name__" := by decide) (hdb : (x == ("__debug__" : Str)) = false := by decide)
    (hs : starEach (e :: []) X.env = (false, eval e X.env) :: starEach [] X.env := by rfl) (hpl : (backTo pos (starEach [] X.env)).any (·.1) = false := by rfl) : PE X (.Call (.Name x p) [e] [] pos) (wS X.K C S) :=
  pe_weak (pe_callTy call_str_int hg hm hv (pa_cons he pa_nil hs) hn hdb hs hpl) fun _ H _ q => ⟨q.1, a, rfl, Nat.lt_of_lt_of_le (PySem.Flt.log2_lt_of (by decide) (le1900 ha)) (by decide), by
    have := q.2 (.str (numS a)) H (Same.refl H) (sw_str (num_repr (by omega) ha))
    exact this⟩
theorem pss_w {X : Cx} {sts : List Stmt} {t t' : TS} (h : PSs X sts t) (imp : ∀ D sl H, t' D sl H → t D sl H) : PSs X sts t' := ⟨fun pins s sl H D inv w => h.run pins s sl H D inv (imp D sl H w)⟩
/-- numbers that are known only when the walk comes there -/
theorem pss_any {X : Cx} {sts : List Stmt} {ts : Int → Int → Int → TS} {ok : Int → Int → Int → Prop} (h : ∀ a b m, ok a b m → PSs X sts (ts a b m)) : PSs X sts (fun D sl H => ∃ a b m, ok a b m ∧ ts a b m D sl H) := ⟨fun pins s sl H D inv ⟨a, b, m, o, w⟩ => (h a b m o).run pins s sl H D inv w⟩
theorem scOdd : FnScope ["_law_pool_here", "_law_high", "_law_low_here", "_law_many", "_law_some"] ["_law_pool_here"] (defScope s_l_odd) := ⟨rfl, rfl, rfl, by decide +kernel, rfl, by decide +kernel, by decide +kernel⟩
def spOdd (K : PySem.W.Frag) : Sp := fun vs H Q _ => ∃ (p : Addr) (S : Addr → Bool), vs = [.ref p] ∧ Pool H p ∧ S p = true ∧ Held S H ∧ ∀ v H', Keep p H H' → Pool H' p → Th K (hid S H') v → Q v H'
/-- the names of the menu -/
def CxOdd (p : Addr) (a b m : Int) (sl : L2.St) : Prop := sl[0]? = some (some (.ref p)) ∧ sl[1]? = some (some (.int a)) ∧ sl[2]? = some (some (.int b)) ∧ sl[3]? = some (some (.int m))
theorem ok_odd {g1 g2 : Addr} {gd1 gd2 : FuncData} (F : Fun K "_law_odd" "_law_odd" s_l_odd f fd) (ms : mg "str" = none)
    (G1 : FnOk P w K mg base CX0 3 g1 gd1 ["_law_pool_here", "_law_great"] spPart) (b1 : Binds K gd1 ["_law_pool_here", "_law_great"] []) (k1 : PySem.W.keepIn K (.ref g1) = true) (m1 : mg "_law_part" = some (.ref g1))
    (G2 : FnOk P w K mg base CX0 2 g2 gd2 ["_law_pool_here", "_law_most"] spDraw) (b2 : Binds K gd2 ["_law_pool_here", "_law_most"] []) (k2 : PySem.W.keepIn K (.ref g2) = true) (m2 : mg "_law_draw" = some (.ref g2)) :
    FnOk P w K mg base CX0 4 f fd ["_law_pool_here"] (spOdd K) := by
  refine F.ok scOdd (fun vs H Q E h => ?_) (fun cdv A outer s H vs Q E hr h => ?_)
  · obtain ⟨p, S, rfl, _⟩ := h
    rfl
  obtain ⟨p, S, rfl, hp, sp, held, q⟩ := h
  have r1 : Room 2 _ := hr.mono (by decide)
  -- the rest, once the numbers are known
  have menu : ∀ (a b m : Int), 0 < a → 0 < b → a.natAbs < 2 ^ 70 → b.natAbs < 2 ^ 70 → 2 ≤ m → m ≤ 10 → PSs (cxOf CX0 P w K mg base ["_law_pool_here", "_law_high", "_law_low_here", "_law_many", "_law_some"] "_law_odd" (defScope s_l_odd) f cdv A outer s H E).nox ((defBody s_l_odd).drop 2)
      (fun D sl H => CxOdd p a b m sl ∧ sl.length = 5 ∧ Pool H p ∧ Held S H ∧ ∀ v H', Keep p H H' → Pool H' p → Th K (hid S H') v → D.rt v H') := by
    intro a b m a0 b0 al7 bl7 m2' m10
    have e70 : (2 : Nat) ^ 70 = 1180591620717411303424 := by decide
    have e200 : (2 : Nat) ^ 200 = 1606938044258990275541962092341162602522202993782792835301376 := by decide +kernel
    have bm : -(2 ^ 64) < m ∧ m < 2 ^ 64 := ⟨by omega, by omega⟩
    have al : a.natAbs < 2 ^ 200 := by omega
    have bl : b.natAbs < 2 ^ 200 := by omega
    have am : (a * m).natAbs < 2 ^ 200 := Nat.lt_of_lt_of_le (wide_lt al7 (show m.natAbs < 2 ^ 8 by omega)) (by decide +kernel)
    have bmm : (b * m).natAbs < 2 ^ 200 := Nat.lt_of_lt_of_le (wide_lt bl7 (show m.natAbs < 2 ^ 8 by omega)) (by decide +kernel)
    have na : (0 - a).natAbs < 2 ^ 200 := by omega
    have nb : (0 - b).natAbs < 2 ^ 200 := by omega
    have ab : (a + b).natAbs < 2 ^ 200 := by omega
    have z0 : (0 : Int).natAbs < 2 ^ 200 := by decide
    have z1 : (1 : Int).natAbs < 2 ^ 200 := by decide
    have hA : ∀ sl, CxOdd p a b m sl → sl[1]? = some (some (.int a)) := fun _ h => h.2.1
    have hB : ∀ sl, CxOdd p a b m sl → sl[2]? = some (some (.int b)) := fun _ h => h.2.2.1
    have hM : ∀ sl, CxOdd p a b m sl → sl[3]? = some (some (.int m)) := fun _ h => h.2.2.2
    have hset : ∀ sl L, CxOdd p a b m sl → CxOdd p a b m (sl.set 4 (some (.ref L))) := fun sl L h => ⟨by rw [List.getElem?_set_ne (by decide)]; exact h.1, by rw [List.getElem?_set_ne (by decide)]; exact h.2.1, by rw [List.getElem?_set_ne (by decide)]; exact h.2.2.1, by rw [List.getElem?_set_ne (by decide)]; exact h.2.2.2⟩
    refine pss_w (pss_cons (ps_set (i := 4) scOdd.nd rfl (.inl rfl) (wT_list (C := CxOdd p a b m) (S := S) (n := 7) (wTs_cons (wT_pair (wS_i (wI_mul (wI_v (pv 1) hA) (wI_v (pv 3) hM) bm) am) (wS_i (wI_mul (wI_v (pv 2) hB) (wI_v (pv 3) hM) bm) bmm)) (wTs_cons (wT_tup3 (wS_i (wI_v (pv 1) hA) al) (wS_i (wI_v (pv 2) hB) bl) (wS_i wI_c z1)) (wTs_cons (wT_tup1 (wS_i (wI_v (pv 1) hA) al)) (wTs_cons (wT_lst2 (wS_i (wI_v (pv 1) hA) al) (wS_i (wI_v (pv 2) hB) bl)) (wTs_cons (wT_pair wS_bl (wS_i (wI_v (pv 2) hB) bl)) (wTs_cons (wT_pair (wS_i (wI_v (pv 1) hA) al) wS_bl) (wTs_cons (wT_pair (wS_i wI_c z0) (wS_i (wI_v (pv 2) hB) bl)) wTs_nil))))))) (by decide)))
      (pss_cons (ps_set (i := 4) scOdd.nd rfl (.inl rfl) (wT_cat (C := CxOdd p a b m) (S := S) (i := 4) (n := 6) (m := 7) (pv 4) (wTs_cons (wT_pair (wS_i (wI_sub wI_c (wI_v (pv 1) hA)) na) (wS_i (wI_v (pv 2) hB) bl)) (wTs_cons (wT_pair (wS_i (wI_v (pv 1) hA) al) (wS_i (wI_sub wI_c (wI_v (pv 2) hB)) nb)) (wTs_cons (wT_pair (wS_i (wI_v (pv 1) hA) al) (wS_i wI_c z0)) (wTs_cons (wT_pair (wS_num a0 al (by rfl) ms (by decide +kernel) (wI_v (pv 1) hA)) (wS_i (wI_v (pv 2) hB) bl)) (wTs_cons (wT_pair (wS_i (wI_v (pv 1) hA) al) wS_non) (wTs_cons (wT_pair (wS_tup1 (wI_v (pv 1) hA) al) (wS_i (wI_v (pv 2) hB) bl)) wTs_nil)))))) (by decide)))
      (pss_cons (ps_set (i := 4) scOdd.nd rfl (.inl rfl) (wT_cat (C := CxOdd p a b m) (S := S) (i := 4) (n := 5) (m := 13) (pv 4) (wTs_cons (wT_pair (wS_lst1 (wI_v (pv 1) hA) al) (wS_i (wI_v (pv 2) hB) bl)) (wTs_cons (wT_pair (wS_i (wI_v (pv 1) hA) al) wS_dic) (wTs_cons (wT_pair (wS_i (wI_v (pv 2) hB) bl) (wS_i (wI_v (pv 1) hA) al)) (wTs_cons (wT_pair (wS_i (wI_mul (wI_v (pv 1) hA) (wI_v (pv 3) hM) bm) am) (wS_i (wI_mul (wI_v (pv 1) hA) (wI_v (pv 3) hM) bm) am)) (wTs_cons (wT_pair (wS_i (wI_add (wI_v (pv 1) hA) (wI_v (pv 2) hB)) ab) (wS_i (wI_v (pv 2) hB) bl)) wTs_nil))))) (by decide)))
      (pss_cons (ps_set (i := 4) scOdd.nd rfl (.inl rfl) (wT_cat (C := CxOdd p a b m) (S := S) (i := 4) (n := 13) (m := 18) (pv 4) (wTs_cons (wT_pair (wS_tup2 (wI_v (pv 1) hA) (wI_v (pv 2) hB) al bl) (wS_i wI_c z1)) (wTs_cons wT_non (wTs_cons (wT_i wI_c z0) (wTs_cons wT_bl (wTs_cons wT_bl (wTs_cons (wT_str .no0 (by decide +kernel)) (wTs_cons (wT_str half_txt (by decide +kernel)) (wTs_cons wT_tup0 (wTs_cons wT_lst0 (wTs_cons wT_dic (wTs_cons (wT_tup1 (wS_tup2 (wI_v (pv 1) hA) (wI_v (pv 2) hB) al bl)) (wTs_cons (wT_i (wI_sub wI_c (wI_v (pv 1) hA)) na) (wTs_cons (wT_tup1 wS_lst0) wTs_nil))))))))))))) (by decide)))
      (pss_one (ps_ret (pe_ix ix_list (wT_cat (C := CxOdd p a b m) (S := S) (i := 4) (n := 1) (m := 31) (pv 4) (wTs_cons (wT_num a0 al (by rfl) ms (by decide +kernel) (wI_v (pv 1) hA)) wTs_nil) (by decide)) (pe_call G2 r1 rfl m2 k2 b2 .nil pass0 (pa_cons (pv 0) (pa_cons pe_int pa_nil))) (fun _ _ => rfl)))))))) ?_
    rintro D sl H ⟨c, len, hp, hl, q⟩
    have ct : Ct (CxOdd p a b m) S sl H := ⟨c, hl⟩
    have got : ∀ (sl : L2.St) (M : Addr), sl.length = 5 → (sl.set 4 (some (.ref M)))[4]? = some (some (.ref M)) := fun sl M l => List.getElem?_set_self (by omega)
    have keepC : ∀ {sl : L2.St} {H : Hp} (M : Addr), Ct (CxOdd p a b m) S sl H → Ct (CxOdd p a b m) S (sl.set 4 (some (.ref M))) H := fun M c => ⟨hset _ _ c.1, c.2⟩
    refine ⟨ct, fun M1 x1 H1 s1 h1 l1 t1 => ?_⟩
    refine ⟨keepC M1 (ct.same s1), M1, x1, got _ _ len, hid_at h1, l1, t1, fun M2 x2 H2 s2 h2 l2 t2 => ?_⟩
    refine ⟨keepC M2 ((keepC M1 (ct.same s1)).same s2), M2, x2, got _ _ (by rw [List.length_set]; exact len), hid_at h2, l2, t2, fun M3 x3 H3 s3 h3 l3 t3 => ?_⟩
    refine ⟨keepC M3 ((keepC M2 ((keepC M1 (ct.same s1)).same s2)).same s3), M3, x3, got _ _ (by rw [List.length_set, List.length_set]; exact len), hid_at h3, l3, t3, fun M4 x4 H4 s4 h4 l4 t4 => ?_⟩
    have c4 := keepC M4 ((keepC M3 ((keepC M2 ((keepC M1 (ct.same s1)).same s2)).same s3)).same s4)
    refine ⟨c4, M4, x4, got _ _ (by rw [List.length_set, List.length_set, List.length_set]; exact len), hid_at h4, l4, t4, fun M5 x5 H5 s5 h5 l5 t5 => ?_⟩
    have s15 := s1.trans (s2.trans (s3.trans (s4.trans s5)))
    refine ⟨_, c4.1.1, p, 32, rfl, hp.same s15, big_of 8 (by decide) (by decide) (by decide), fun r H6 k6 hp6 r0 r32 => ?_⟩
    have l32 : x5.length = 32 := l5
    have at_ := atI_nat (xs := x5) (j := r.toNat) (v := x5[r.toNat]) (List.getElem?_eq_getElem (by omega))
    rw [show ((r.toNat : Nat) : Int) = r by omega] at at_
    have s56 := hid_keepS sp k6
    exact ⟨M5, _, _, _, rfl, rfl, SqL.of (hid_at (s56 _ _ h5)), at_, q _ _ ((Same.keep s15 p).trans k6) hp6 ((t5 _ (List.getElem_mem (by omega))).same s56)⟩
  refine ⟨_, pss_cons (ps_asg (pe_call G1 hr rfl m1 k1 b1 .nil pass0 (pa_cons (pv 0) (pa_cons pe_bl pa_nil))) (pg_tup (by rfl) (pgs_cons (pg_name (i := 1) scOdd.nd rfl (.inl rfl)) (pgs_cons (pg_name (i := 2) scOdd.nd rfl (.inl rfl)) pgs_nil))))
    (pss_cons (ps_set (i := 3) scOdd.nd rfl (.inl rfl) (pe_op op_add pe_int (pe_call G2 r1 rfl m2 k2 b2 .nil pass0 (pa_cons (pv 0) (pa_cons pe_int pa_nil)))))
    (pss_any (ts := fun a b m => fun D sl H => CxOdd p a b m sl ∧ sl.length = 5 ∧ Pool H p ∧ Held S H ∧ ∀ v H', Keep p H H' → Pool H' p → Th K (hid S H') v → D.rt v H') (ok := fun a b m => 0 < a ∧ 0 < b ∧ a.natAbs < 2 ^ 70 ∧ b.natAbs < 2 ^ 70 ∧ 2 ≤ m ∧ m ≤ 10) (fun a b m h => menu a b m h.1 h.2.1 h.2.2.1 h.2.2.2.1 h.2.2.2.2.1 h.2.2.2.2.2))), ?_⟩
  refine ⟨_, rfl, p, true, rfl, hp, fun t a b H1 kp1 hp1 nt f1 => ?_⟩
  refine ⟨t, _, rfl, f1.seq, rfl, _, _, rfl, _, _, rfl, rfl, ?_⟩
  refine ⟨_, rfl, p, 9, rfl, hp1, big_of 8 (by decide) (by decide) (by decide), fun z H2 kp2 hp2 z0 z9 => ⟨_, _, rfl, rfl, ?_⟩⟩
  refine ⟨a, b, 2 + z, ⟨f1.2.a0, f1.2.b0, f1.2.al, f1.2.bl, by omega, by omega⟩, ⟨rfl, rfl, rfl, rfl⟩, rfl, hp2, (held.keep kp1 hp1).keep kp2 hp2, fun v H' kp3 hp3 th => q v H' (kp1.trans (kp2.trans kp3)) hp3 th⟩
end
/-! ### exact_raise.lean -/
/-! the program's functions, which raise InvalidFraction for what is no fraction -/
theorem passN {X : Cx} : Passes (L2N.CX X.prog X.w) X (fun _ _ _ => False) := fun _ _ _ _ _ _ _ h => by
  obtain ⟨_, _, _, _, _, _, _, _, _, _, _, _, z⟩ := h
  exact z.elim
/-- a call of a def that may raise, in one that lets the same out -/
theorem passL2N {X : Cx} {E : XK} (tk : L2N.Takes X (fun cls d _ H => E cls d H)) : Passes (L2N.CX X.prog X.w) X E := L2N.passes_call tk fun _ _ _ _ h => h
theorem cxUpN {P : Program} {w : World} : StX.CXUp (L2N.CX P w) := by
  intro outer s H s2 H2 E e s' un kp same cx
  obtain ⟨a, B, H', cls, d, ea, fl, hok, ub, na, os, ag, he⟩ := cx
  refine ⟨a, B, H', cls, d, ea, fl, hok, ?_, na, os.trans same, ag, he⟩
  exact {
    keep := fun b o q n hb => ub.keep b o (kp b o q) (un.free b o q n (by simp)) hb
    slot := fun b o q hb => ub.slot b o (kp b o q) hb
    free := fun b o q n => ub.free b o (kp b o q) (un.free b o q n (by simp))
    there := fun b o q hb => ub.there b o (kp b o q) hb
    tups := fun b xs q => ub.tups b xs (un.tups b xs q)
    frzs := fun b o xs q => ub.frzs b o xs (un.frzs b o xs q)
    tbls := fun b ps q => by
      obtain ⟨m1, e1⟩ := un.tbls b ps q
      obtain ⟨m2, e2⟩ := ub.tbls b _ e1
      exact ⟨m1 ++ m2, by rw [e2, Array.append_assoc]⟩ }
/-- what is let out: an error of the class at C with the value v -/
def Lets (C : Addr) (v : V) (H : Hp) (E : XK) : Prop := ∀ H' d, Same H H' → H' d = some (.xd [(("value" : Str), v)]) → E (.ref C) (some d) H'
theorem Lets.at {C : Addr} {v : V} {H H' : Hp} {E : XK} (l : Lets C v H E) (s : Same H H') : Lets C v H' E := fun H2 d s2 e => l H2 d (s.trans s2) e
/-- the first that is no fraction -/
def bad (ps : List (V × Bool)) : Option V := (ps.find? fun q => !q.2).map (·.1)
/-- what follows a check -/
def Out (C : Addr) (o : Option V) (H : Hp) (Ok : Hp → Prop) (E : XK) : Prop := match o with
  | none => ∀ H', Same H H' → Ok H'
  | some v => Lets C v H E
theorem Out.at {C : Addr} {o : Option V} {H H' : Hp} {Ok : Hp → Prop} {E : XK} (h : Out C o H Ok E) (s : Same H H') : Out C o H' Ok E := by
  cases o with
  | none => exact fun H2 s2 => h H2 (s.trans s2)
  | some v => exact Lets.at h s
theorem bad_cons_t {v : V} {ps : List (V × Bool)} : bad ((v, true) :: ps) = bad ps := rfl
theorem bad_cons_f {v : V} {ps : List (V × Bool)} : bad ((v, false) :: ps) = some v := rfl
theorem bad_none {ps : List (V × Bool)} (h : bad ps = none) : ∀ q ∈ ps, q.2 = true := by
  unfold bad at h
  rw [Option.map_eq_none_iff, List.find?_eq_none] at h
  intro q m
  have := h q m
  simpa using this
theorem bad_at {ps : List (V × Bool)} {i : Nat} {v : V} (h : ps[i]? = some (v, false)) (all : ∀ (j : Nat) (q : V × Bool), j < i → ps[j]? = some q → q.2 = true) : bad ps = some v := by
  induction ps generalizing i with
  | nil => cases h
  | cons q ps ih =>
    cases i with
    | zero =>
      cases h
      rfl
    | succ i =>
      have e := all 0 q (by omega) rfl
      obtain ⟨x, b⟩ := q
      cases e
      rw [bad_cons_t]
      exact ih h fun j q hj hq => all (j + 1) q (by omega) hq
theorem bad_all {ps : List (V × Bool)} (all : ∀ (j : Nat) (q : V × Bool), ps[j]? = some q → q.2 = true) : bad ps = none := by
  unfold bad
  rw [Option.map_eq_none_iff, List.find?_eq_none]
  intro q m
  obtain ⟨j, hj⟩ := List.getElem?_of_mem m
  simp [all j q hj]
section
variable {P : Program} {w : World} {K : PySem.W.Frag} {mg : Str → Option Value} {base : Heap} {f : Addr} {fd : FuncData}
theorem okX {x qual : Str} {st : Stmt} {N ps : List Str} {k : Nat} {sp : Sp} (F : Fun K x qual st f fd) (S : FnScope N ps (defScope st)) (len : ∀ vs H Q E, sp vs H Q E → vs.length = ps.length)
    (walk : ∀ (cdv : Value) (A : Around) (out : List Env) (s : Shared) (H : Hp) (vs : List V) (Q : VK) (E : XK), Room k (A.deeper (envOfC qual (defScope st) s.heap.objs.size f cdv)) → sp vs H Q E →
      ∃ t, PSs (cxOf (L2N.CX P w) P w K mg base N qual (defScope st) f cdv A out s H E) (defBody st) t ∧ t { nx := fun _ H' => Q .non H', rt := Q } (start N vs) H) : FnOk P w K mg base (L2N.CX P w) (k + 1) f fd ps sp := by
  obtain ⟨_, _, _, _, _, _, cdv, _, _, e, lk, code⟩ := F.ex
  subst e
  exact fn_of lk code S len fun A out s H vs Q E room want => walk cdv A out s H vs Q E room want
theorem scCheck : FnScope ["values", "value"] ["values"] (defScope s_check_fractions) := ⟨rfl, rfl, rfl, by decide +kernel, rfl, by decide +kernel, by decide +kernel⟩
def spCheckX (K : PySem.W.Frag) (C : Addr) : Sp := fun vs H Q E => ∃ p ps, vs = [.ref p] ∧ SqT K H p (ps.map Prod.fst) ∧ (∀ q ∈ ps, IsB K H q.1 q.2) ∧ Out C (bad ps) H (Q .non) E
theorem ok_check_x {C fI g1 : Addr} {gd1 : FuncData} (F : Fun K "check_fractions" "check_fractions" s_check_fractions f fd) (Z : EvTxt K C fI "InvalidFraction.__init__") (mC : mg "InvalidFraction" = some (.ref C))
    (G1 : FnOk P w K mg base CX0 3 g1 gd1 ["value"] (spIsFrac K)) (b1 : Binds K gd1 ["value"] []) (k1 : PySem.W.keepIn K (.ref g1) = true) (m1 : mg "is_fraction" = some (.ref g1)) :
    FnOk P w K mg base (L2N.CX P w) 4 f fd ["values"] (spCheckX K C) := by
  refine okX F scCheck (fun vs H Q E h => ?_) (fun cdv A outer s H vs Q E hr h => ?_)
  · obtain ⟨p, ps, rfl, _⟩ := h
    rfl
  obtain ⟨p, ps, rfl, hp, hb, o⟩ := h
  refine ⟨_, pss_one (ps_for (passes_of rfl) rfl (pi_tup (pv 0)) (pg_name (i := 1) scCheck.nd rfl (.inl rfl))
      (pss_one (ps_if (pt_not (pt_val (pe_call G1 hr rfl m1 k1 b1 .nil pass0 (pa_cons (pv 1) pa_nil)))) (pss_one (ps_ev rfl Z mC hr (L2N.takes_of rfl rfl rfl rfl) (pa_cons (pv 1) pa_nil) rfl)) pss_nil))), ?_⟩
  refine ⟨_, rfl, p, rfl, ⟨_, hp⟩, for_tup (K := K) (a := p) (xs := ps.map Prod.fst) (fun i σ H2 => H2 = H ∧ (∃ v, σ = [some (.ref p), v]) ∧ ∀ j q, j < i → ps[j]? = some q → q.2 = true) ⟨rfl, ⟨none, rfl⟩, fun j _ h => absurd h (by omega)⟩ (fun i σ H2 _ h => ?_) ?_ ?_⟩
  · obtain ⟨rfl, _⟩ := h
    exact hp
  · rintro i x σ H2 hi ⟨rfl, ⟨v, rfl⟩, all⟩
    rw [List.getElem?_map] at hi
    obtain ⟨q, hq, eq⟩ := Option.map_eq_some_iff.mp hi
    subst eq
    have ib := hb q (List.mem_of_getElem? hq)
    refine ⟨_, rfl, q.1, q.2, rfl, ib, _, rfl, ?_⟩
    cases e : q.2 with
    | true =>
      refine iteF ⟨rfl, ⟨_, rfl⟩, fun j r hj hr => ?_⟩
      by_cases ej : j = i
      · rw [ej, hq] at hr
        cases hr
        exact e
      · exact all j r (by omega) hr
    | false =>
      have eb : bad ps = some q.1 := bad_at (i := i) (by rw [hq, ← e]) all
      rw [eb] at o
      refine iteT ⟨_, rfl, _, rfl, fun d nd => ?_⟩
      exact o _ d (same_upd nd) upd_same
  · rintro σ H2 ⟨rfl, ⟨v, rfl⟩, all⟩
    rw [bad_all fun j q hq => all j q (by
      have := (List.getElem?_eq_some_iff.mp hq).1
      rw [List.length_map]
      exact this) hq] at o
    exact o _ (Same.refl _)
end
/-! ### quot_bits.lean -/
theorem mulW {a b : Int} (ha : a.natAbs < 2 ^ 3900) (hb : b.natAbs < 2 ^ 3900) : CMulW a b := wide_mul ha hb (by decide) (by decide) (by decide)
theorem big_mul {a b : Int} (a0 : 0 < a) (b0 : 0 < b) (ha : a.natAbs < 2 ^ 3900) (hb : b.natAbs < 2 ^ 3900) : big (a * b) := ⟨mul_pos a0 b0, Nat.lt_of_lt_of_le (wide_lt ha hb) (Nat.pow_le_pow_right (by decide) (by decide))⟩
/-! ### exact_raise2.lean -/
section
variable {P : Program} {w : World} {K : PySem.W.Frag} {mg : Str → Option Value} {base : Heap} {f : Addr} {fd : FuncData}
theorem FrAt.up2 {n m : Nat} {H : Hp} {p : Addr} {a b : Int} (h : FrAt n H p a b) (le : n ≤ m) : FrAt m H p a b := ⟨h.1, h.2.up le⟩
theorem mulS {a b : Int} (ha : a.natAbs < 2 ^ 200) (hb : b.natAbs < 2 ^ 200) : CMulW a b := wide_mul ha hb (by decide) (by decide) (by decide)
/-! fraction -/
theorem scFrac : FnScope ["top", "bottom", "part"] ["top", "bottom"] (defScope s_fraction) := ⟨rfl, rfl, rfl, by decide +kernel, rfl, by decide +kernel, by decide +kernel⟩
def spFracX (K : PySem.W.Frag) (C : Addr) : Sp := fun vs H Q E => ∃ x y, vs = [x, y] ∧ Any K H x ∧ Any K H y ∧ Fits x ∧ Fits y ∧ Out C (bad [(x, isPos x), (y, isPos y)]) H (fun H' => ∀ v H2, Same H' H2 → Q v H2) E
theorem ok_fraction_x {C fI g1 g2 : Addr} {gd1 gd2 : FuncData} (F : FunD K "fraction" "fraction" (defArgs s_fraction) (defBody s_fraction) (defScope s_fraction) [.int 1] [] f fd) (Z : EvTxt K C fI "InvalidFraction.__init__") (mC : mg "InvalidFraction" = some (.ref C))
    (G1 : FnOk P w K mg base CX0 2 g1 gd1 ["value"] (spIsPos K)) (b1 : Binds K gd1 ["value"] []) (k1 : PySem.W.keepIn K (.ref g1) = true) (m1 : mg "is_positive" = some (.ref g1))
    (G2 : FnOk P w K mg base CX0 3 g2 gd2 ["top", "bottom"] spLow) (b2 : Binds K gd2 ["top", "bottom"] []) (k2 : PySem.W.keepIn K (.ref g2) = true) (m2 : mg "lowest_terms" = some (.ref g2)) :
    FnOk P w K mg base (L2N.CX P w) 4 f fd ["top", "bottom"] (spFracX K C) := by
  refine F.ok scFrac (fun vs H Q E h => ?_) (fun cdv A outer s H vs Q E hr h => ?_)
  · obtain ⟨x, y, rfl, _⟩ := h
    rfl
  obtain ⟨x, y, rfl, ax, ay, fx, fy, o⟩ := h
  refine ⟨_, pss_cons (ps_for (passes_of rfl) rfl (pi_tup (pe_tup (pa_cons (pv 0) (pa_cons (pv 1) pa_nil)))) (pg_name (i := 2) scFrac.nd rfl (.inl rfl))
      (pss_one (ps_if (pt_not (pt_val (pe_call G1 (hr.mono (by decide)) rfl m1 k1 b1 .nil pass0 (pa_cons (pv 2) pa_nil)))) (pss_one (ps_ev rfl Z mC hr (L2N.takes_of rfl rfl rfl rfl) (pa_cons (pv 2) pa_nil) rfl)) pss_nil)))
    (pss_one (ps_ret (pe_call G2 hr rfl m2 k2 b2 .nil pass0 (pa_cons (pv 0) (pa_cons (pv 1) pa_nil))))), ?_⟩
  refine ⟨_, rfl, _, rfl, by show 2 ≤ sizeLine; decide, fun t ht => ⟨t, rfl, ⟨_, .inl (.inl upd_same)⟩, ?_⟩⟩
  have s1 := same_upd (o := .tup [x, y]) ht
  have at_ : upd H t (.tup [x, y]) t = some (.tup [x, y]) := upd_same
  generalize upd H t (.tup [x, y]) = H1 at s1 at_ ⊢
  have o1 := o.at s1
  clear o
  have ax := ax.same s1
  have ay := ay.same s1
  refine for_tup (K := K) (a := t) (xs := [x, y]) (fun i σ H2 => H2 = H1 ∧ (∃ v, σ = [some x, some y, v]) ∧ ∀ j q, j < i → [(x, isPos x), (y, isPos y)][j]? = some q → q.2 = true) ⟨rfl, ⟨none, rfl⟩, fun j _ h => absurd h (by omega)⟩ (fun i σ H2 _ h => ?_) ?_ ?_
  · obtain ⟨rfl, _⟩ := h
    exact .inl (.inl at_)
  · rintro i z σ H2 hi ⟨rfl, ⟨v, rfl⟩, all⟩
    have one : Any K H2 z ∧ [(x, isPos x), (y, isPos y)][i]? = some (z, isPos z) := by
      match i, hi with
      | 0, hi => cases hi; exact ⟨ax, rfl⟩
      | 1, hi => cases hi; exact ⟨ay, rfl⟩
    refine ⟨_, rfl, z, rfl, one.1, _, rfl, ?_⟩
    cases e : isPos z with
    | true =>
      refine iteF ⟨rfl, ⟨_, rfl⟩, fun j r hj hr => ?_⟩
      by_cases ej : j = i
      · rw [ej, one.2] at hr
        cases hr
        exact e
      · exact all j r (by omega) hr
    | false =>
      have eb : bad [(x, isPos x), (y, isPos y)] = some z := bad_at (i := i) (by rw [one.2, e]) all
      rw [eb] at o1
      exact iteT ⟨_, rfl, _, rfl, fun d nd => o1 _ d (same_upd nd) upd_same⟩
  · rintro σ H2 ⟨rfl, ⟨v, rfl⟩, all⟩
    rw [bad_all fun j q hq => all j q (by
      have := (List.getElem?_eq_some_iff.mp hq).1
      exact this) hq] at o1
    have px : isPos x = true := all 0 (x, isPos x) (by show (0 : Nat) < 2; decide) rfl
    have py : isPos y = true := all 1 (y, isPos y) (by show (1 : Nat) < 2; decide) rfl
    obtain ⟨a, rfl, a0⟩ := isPos_int px
    obtain ⟨b, rfl, b0⟩ := isPos_int py
    have up : ∀ {n : Int}, n.natAbs < 2 ^ 200 → n.natAbs < 2 ^ Bd := fun h => Nat.lt_of_lt_of_le h (Nat.pow_le_pow_right (by decide) (by decide))
    exact ⟨_, rfl, _, rfl, a, b, rfl, ⟨a0, up fx⟩, b0, fun p np => o1 H2 (Same.refl _) _ _ (same_upd np)⟩
/-! quotient, compare -/
def spTwoX (K : PySem.W.Frag) (C : Addr) : Sp := fun vs H Q E => ∃ x y bx by', vs = [x, y] ∧ IsB K H x bx ∧ IsB K H y by' ∧ Out C (bad [(x, bx), (y, by')]) H (fun H' => ∀ v H2, Same H' H2 → Q v H2) E
theorem scQuot : FnScope ["one", "other"] ["one", "other"] (defScope s_quotient) := ⟨rfl, rfl, rfl, by decide +kernel, rfl, by decide +kernel, by decide +kernel⟩
/-- the check of two, for whatever follows it -/
theorem two_checked {C : Addr} {x y : V} {bx by' : Bool} {H : Hp} {Q : VK} {E : XK} {W : Hp → Prop} (hx : IsB K H x bx) (hy : IsB K H y by') (o : Out C (bad [(x, bx), (y, by')]) H (fun H' => ∀ v H2, Same H' H2 → Q v H2) E)
    (go : ∀ H' p q a b c d, Same H H' → x = .ref p → y = .ref q → FrAt 200 H' p a b → FrAt 200 H' q c d → (∀ v H2, Same H' H2 → Q v H2) → W H') :
    (2 ≤ sizeLine ∧ ∀ t, H t = none → spCheckX K C [.ref t] (upd H t (.tup [x, y])) (fun _ H' => W H') E) := by
  refine ⟨line_n (by decide : 2 ≤ 900), fun t nt => ?_⟩
  have s1 := same_upd (o := .tup [x, y]) nt
  refine ⟨t, [(x, bx), (y, by')], rfl, .inl (.inl upd_same), fun q m => ?_, ?_⟩
  · rcases List.mem_cons.mp m with e | m
    · rw [e]; exact hx.same s1
    · rw [List.mem_singleton.mp m]; exact hy.same s1
  · have o1 := o.at s1
    clear o
    cases e : bad [(x, bx), (y, by')] with
    | some v => rw [e] at o1; exact o1
    | none =>
      rw [e] at o1
      have al := bad_none e
      have e1 : bx = true := al (x, bx) (by simp)
      have e2 : by' = true := al (y, by') (by simp)
      subst e1 e2
      obtain ⟨p, a, b, rfl, fp⟩ := hx.fr
      obtain ⟨q, c, d, rfl, fq⟩ := hy.fr
      exact fun H' s2 => go H' p q a b c d (s1.trans s2) rfl rfl (fp.same (s1.trans s2)) (fq.same (s1.trans s2)) fun v H2 s3 => o1 H' s2 v H2 s3
theorem ok_quot_x {C g1 g2 : Addr} {gd1 gd2 : FuncData} (F : Fun K "quotient" "quotient" s_quotient f fd)
    (G1 : FnOk P w K mg base (L2N.CX P w) 4 g1 gd1 ["values"] (spCheckX K C)) (b1 : Binds K gd1 ["values"] []) (k1 : PySem.W.keepIn K (.ref g1) = true) (m1 : mg "check_fractions" = some (.ref g1))
    (G2 : FnOk P w K mg base CX0 3 g2 gd2 ["top", "bottom"] spLow) (b2 : Binds K gd2 ["top", "bottom"] []) (k2 : PySem.W.keepIn K (.ref g2) = true) (m2 : mg "lowest_terms" = some (.ref g2)) :
    FnOk P w K mg base (L2N.CX P w) 5 f fd ["one", "other"] (spTwoX K C) := by
  refine okX F scQuot (fun vs H Q E h => ?_) (fun cdv A outer s H vs Q E hr h => ?_)
  · obtain ⟨x, y, bx, by', rfl, _⟩ := h
    rfl
  obtain ⟨x, y, bx, by', rfl, hx, hy, o⟩ := h
  have ix : PlainIx (.Constant (.int 0) 0 ⟨0, 0, 0, 0⟩) := fun _ _ => rfl
  refine ⟨_, pss_cons (ps_expr (pe_call G1 hr rfl m1 k1 b1 .nil (passL2N (L2N.takes_of rfl rfl rfl rfl)) (pa_cons (pe_tup (pa_cons (pv 0) (pa_cons (pv 1) pa_nil))) pa_nil)))
    (pss_one (ps_ret (pe_call G2 (hr.mono (by decide)) rfl m2 k2 b2 .nil pass0 (pa_cons (pe_op op_mulW (pe_ix ix_tup (pv 0) pe_int (fun _ _ => rfl)) (pe_ix ix_tup (pv 1) pe_int (fun _ _ => rfl))) (pa_cons (pe_op op_mulW (pe_ix ix_tup (pv 0) pe_int (fun _ _ => rfl)) (pe_ix ix_tup (pv 1) pe_int (fun _ _ => rfl))) pa_nil))))), ?_⟩
  refine ⟨_, rfl, _, rfl, two_checked (W := fun H' => _) hx hy o ?_⟩
  rintro H' p q a b c d s1 rfl rfl fp fq q2
  have big2 : ∀ {m n : Int}, 0 < m → 0 < n → m.natAbs < 2 ^ 200 → n.natAbs < 2 ^ 200 → big (m * n) := fun m0 n0 hm hn => ⟨mul_pos m0 n0, Nat.lt_of_lt_of_le (wide_lt hm hn) (Nat.pow_le_pow_right (by decide) (by decide))⟩
  refine ⟨_, rfl, p, _, _, _, rfl, rfl, fp.seq, rfl, _, rfl, q, _, _, _, rfl, rfl, fq.seq, rfl, _, _, rfl, rfl, mulS fp.2.al fq.2.bl, ?_⟩
  refine ⟨_, rfl, p, _, _, _, rfl, rfl, fp.seq, rfl, _, rfl, q, _, _, _, rfl, rfl, fq.seq, rfl, _, _, rfl, rfl, mulS fp.2.bl fq.2.al, ?_⟩
  exact ⟨_, _, rfl, big2 fp.2.a0 fq.2.b0 fp.2.al fq.2.bl, mul_pos fp.2.b0 fq.2.a0, fun t nt => q2 _ _ (same_upd nt)⟩
def sgn (l r : Int) : Int := if l < r then -1 else if r < l then 1 else 0
theorem scOrder : FnScope ["left", "right"] ["left", "right"] (defScope s_order) := ⟨rfl, rfl, rfl, by decide +kernel, rfl, by decide +kernel, by decide +kernel⟩
def spOrder : Sp := fun vs H Q _ => ∃ l r : Int, vs = [.int l, .int r] ∧ Q (.int (sgn l r)) H
theorem ok_order (F : Fun K "order" "order" s_order f fd) : FnOk P w K mg base CX0 1 f fd ["left", "right"] spOrder := by
  refine F.ok scOrder (fun vs H Q E h => ?_) (fun cdv A outer s H vs Q E hr h => ?_)
  · obtain ⟨l, r, rfl, _⟩ := h
    rfl
  obtain ⟨l, r, rfl, kk⟩ := h
  refine ⟨_, pss_cons (ps_if (pt_cmpR op_lt (pv 0) (pv 1) (nomark _)) (pss_one (ps_ret (pe_un un_neg pe_int))) pss_nil)
    (pss_cons (ps_if (pt_cmpR op_gt (pv 0) (pv 1) (nomark _)) (pss_one (ps_ret pe_int)) pss_nil)
    (pss_one (ps_ret pe_int))), ?_⟩
  unfold sgn at kk
  refine ⟨_, rfl, _, rfl, _, _, rfl, rfl, _, rfl, ?_⟩
  refine ite2 (fun h => ?_) (fun h => ?_)
  · have h' : l < r := of_decide_eq_true h
    rw [if_pos h'] at kk
    exact ⟨1, rfl, kk⟩
  · have h' : ¬ l < r := of_decide_eq_false (Bool.eq_false_iff.mpr h)
    rw [if_neg h'] at kk
    refine ⟨_, rfl, _, rfl, _, _, rfl, rfl, _, rfl, ?_⟩
    refine ite2 (fun h2 => ?_) (fun h2 => ?_)
    · have h2' : r < l := of_decide_eq_true h2
      rw [if_pos h2'] at kk
      exact kk
    · have h2' : ¬ r < l := of_decide_eq_false (Bool.eq_false_iff.mpr h2)
      rw [if_neg h2'] at kk
      exact kk
theorem scComp : FnScope ["one", "other"] ["one", "other"] (defScope s_compare) := ⟨rfl, rfl, rfl, by decide +kernel, rfl, by decide +kernel, by decide +kernel⟩
theorem ok_comp_x {C g1 g2 : Addr} {gd1 gd2 : FuncData} (F : Fun K "compare" "compare" s_compare f fd)
    (G1 : FnOk P w K mg base (L2N.CX P w) 4 g1 gd1 ["values"] (spCheckX K C)) (b1 : Binds K gd1 ["values"] []) (k1 : PySem.W.keepIn K (.ref g1) = true) (m1 : mg "check_fractions" = some (.ref g1))
    (G2 : FnOk P w K mg base CX0 1 g2 gd2 ["left", "right"] spOrder) (b2 : Binds K gd2 ["left", "right"] []) (k2 : PySem.W.keepIn K (.ref g2) = true) (m2 : mg "order" = some (.ref g2)) :
    FnOk P w K mg base (L2N.CX P w) 5 f fd ["one", "other"] (spTwoX K C) := by
  refine okX F scComp (fun vs H Q E h => ?_) (fun cdv A outer s H vs Q E hr h => ?_)
  · obtain ⟨x, y, bx, by', rfl, _⟩ := h
    rfl
  obtain ⟨x, y, bx, by', rfl, hx, hy, o⟩ := h
  refine ⟨_, pss_cons (ps_expr (pe_call G1 hr rfl m1 k1 b1 .nil (passL2N (L2N.takes_of rfl rfl rfl rfl)) (pa_cons (pe_tup (pa_cons (pv 0) (pa_cons (pv 1) pa_nil))) pa_nil)))
    (pss_one (ps_ret (pe_call G2 (hr.mono (by decide)) rfl m2 k2 b2 .nil pass0 (pa_cons (pe_op op_mulW (pe_ix ix_tup (pv 0) pe_int (fun _ _ => rfl)) (pe_ix ix_tup (pv 1) pe_int (fun _ _ => rfl))) (pa_cons (pe_op op_mulW (pe_ix ix_tup (pv 1) pe_int (fun _ _ => rfl)) (pe_ix ix_tup (pv 0) pe_int (fun _ _ => rfl))) pa_nil))))), ?_⟩
  refine ⟨_, rfl, _, rfl, two_checked (W := fun H' => _) hx hy o ?_⟩
  rintro H' p q a b c d s1 rfl rfl fp fq q2
  refine ⟨_, rfl, p, _, _, _, rfl, rfl, fp.seq, rfl, _, rfl, q, _, _, _, rfl, rfl, fq.seq, rfl, _, _, rfl, rfl, mulS fp.2.al fq.2.bl, ?_⟩
  refine ⟨_, rfl, q, _, _, _, rfl, rfl, fq.seq, rfl, _, rfl, p, _, _, _, rfl, rfl, fp.seq, rfl, _, _, rfl, rfl, mulS fq.2.al fp.2.bl, ?_⟩
  exact ⟨_, _, rfl, q2 _ _ (Same.refl _)⟩
end
/-! ### exact_raise3.lean -/
section
variable {P : Program} {w : World} {K : PySem.W.Frag} {mg : Str → Option Value} {base : Heap} {f : Addr} {fd : FuncData}
/-! product of up to four -/
theorem scProd : FnScope ["fractions", "top", "bottom", "factor"] (([] : List Str) ++ [("fractions" : Str)]) (defScope s_product) := ⟨rfl, rfl, rfl, by decide +kernel, rfl, by decide +kernel, by decide +kernel⟩
def spProdIn (K : PySem.W.Frag) (C : Addr) : Sp := fun vs H Q E => ∃ p ps, vs = [.ref p] ∧ H p = some (.tup (ps.map Prod.fst)) ∧ ps.length ≤ 4 ∧ (∀ q ∈ ps, IsB K H q.1 q.2) ∧ Out C (bad ps) H (fun H' => ∀ v H2, Same H' H2 → Q v H2) E
def spProdX (K : PySem.W.Frag) (C : Addr) : Sp := fun vs H Q E => ∃ ps, vs = ps.map Prod.fst ∧ ps.length ≤ 4 ∧ (∀ q ∈ ps, IsB K H q.1 q.2) ∧ Out C (bad ps) H (fun H' => ∀ v H2, Same H' H2 → Q v H2) E
theorem pow_step {x a : Int} {i : Nat} (hx : x.natAbs < 2 ^ (200 * i + 1)) (ha : a.natAbs < 2 ^ 200) : (x * a).natAbs < 2 ^ (200 * (i + 1) + 1) := by
  have := wide_lt hx ha
  rwa [show 200 * i + 1 + 200 = 200 * (i + 1) + 1 by omega] at this
theorem pow_3900 {x : Int} {i : Nat} (hx : x.natAbs < 2 ^ (200 * i + 1)) (hi : i ≤ 4) : x.natAbs < 2 ^ 3900 := Nat.lt_of_lt_of_le hx (Nat.pow_le_pow_right (by decide) (by omega))
theorem ok_product_x {C g1 g2 : Addr} {gd1 gd2 : FuncData} (F : Fun K "product" "product" s_product f fd)
    (G1 : FnOk P w K mg base (L2N.CX P w) 4 g1 gd1 ["values"] (spCheckX K C)) (b1 : Binds K gd1 ["values"] []) (k1 : PySem.W.keepIn K (.ref g1) = true) (m1 : mg "check_fractions" = some (.ref g1))
    (G2 : FnOk P w K mg base CX0 3 g2 gd2 ["top", "bottom"] spLow) (b2 : Binds K gd2 ["top", "bottom"] []) (k2 : PySem.W.keepIn K (.ref g2) = true) (m2 : mg "lowest_terms" = some (.ref g2)) :
    FnR P w K mg base (L2N.CX P w) 5 f (spProdX K C) := by
  obtain ⟨oc, od, kV, doc, pm, an, cdv, ct, osl, e, lk, hcd⟩ := F.ex
  subst e
  refine FnR.imp (StX.fn_star (k := 4) (ps := []) (sp := spProdIn K C) lk hcd scProd cxUpN (fun us rest hl => ?_) (fun A outer s H vs Q E hr h => ?_)) (fun vs H Q E h => ?_)
  · have eu : us = [] := List.length_eq_zero_iff.mp hl
    subst eu
    cases rest with
    | nil => rfl
    | cons a r => rfl
  · obtain ⟨p, ps, rfl, hp, len, hb, o⟩ := h
    refine ⟨_, pss_cons (ps_expr (pe_call G1 hr rfl m1 k1 b1 .nil (passL2N (L2N.takes_of rfl rfl rfl rfl)) (pa_cons (pv 0) pa_nil)))
      (pss_cons (ps_asg (pe_tup (pa_cons pe_int (pa_cons pe_int pa_nil))) (pg_tup (by rfl) (pgs_cons (pg_name (i := 1) scProd.nd rfl (.inl rfl)) (pgs_cons (pg_name (i := 2) scProd.nd rfl (.inl rfl)) pgs_nil))))
      (pss_cons (ps_for (passes_of rfl) rfl (pi_tup (pv 0)) (pg_name (i := 3) scProd.nd rfl (.inl rfl))
        (pss_one (ps_asg (pe_call G2 (hr.mono (by decide)) rfl m2 k2 b2 .nil pass0 (pa_cons (pe_op op_mulW (pv 1) (pe_ix ix_tup (pv 3) pe_int (fun _ _ => rfl))) (pa_cons (pe_op op_mulW (pv 2) (pe_ix ix_tup (pv 3) pe_int (fun _ _ => rfl))) pa_nil)))
          (pg_tup (by rfl) (pgs_cons (pg_name (i := 1) scProd.nd rfl (.inl rfl)) (pgs_cons (pg_name (i := 2) scProd.nd rfl (.inl rfl)) pgs_nil))))))
      (pss_one (ps_ret (pe_tup (pa_cons (pv 1) (pa_cons (pv 2) pa_nil))))))), ?_⟩
    refine ⟨_, rfl, p, ps, rfl, .inl (.inl hp), hb, ?_⟩
    cases eb : bad ps with
    | some v =>
      rw [eb] at o
      exact o
    | none =>
      rw [eb] at o
      intro H1 s1
      have al := bad_none eb
      have fr : ∀ q ∈ ps, FrV 200 H1 q.1 := fun q m => by
        have ib := hb q m
        rw [al q m] at ib
        exact ib.fr.same s1
      refine ⟨line_n (by decide : 2 ≤ 900), fun c hc => ?_⟩
      have s0 := same_upd (o := .tup [.int 1, .int 1]) hc
      refine ⟨c, _, rfl, .inl (.inl upd_same), rfl, _, _, rfl, _, _, rfl, rfl, ?_⟩
      refine ⟨_, rfl, p, rfl, ⟨_, .inl (.inl (s0 _ _ (s1 _ _ hp)))⟩, for_tup (K := K) (a := p) (xs := ps.map Prod.fst) (fun i σ H2 => Same H1 H2 ∧ ∃ (x y : Int) (v : Option V), σ = [some (.ref p), some (.int x), some (.int y), v] ∧ 0 < x ∧ 0 < y ∧ x.natAbs < 2 ^ (200 * i + 1) ∧ y.natAbs < 2 ^ (200 * i + 1)) ?_ (fun i σ H2 _ h => ?_) ?_ ?_⟩
      · exact ⟨s0, 1, 1, none, rfl, by decide, by decide, by decide, by decide⟩
      · obtain ⟨s2, _⟩ := h
        exact .inl (.inl (s2 _ _ (s1 _ _ hp)))
      · rintro i z σ H2 hi ⟨s2, x, y, v, rfl, x0, y0, xl, yl⟩
        have i4 : i < 4 := by
          have := (List.getElem?_eq_some_iff.mp hi).1
          rw [List.length_map] at this
          omega
        rw [List.getElem?_map] at hi
        obtain ⟨q, hq, eq⟩ := Option.map_eq_some_iff.mp hi
        subst eq
        obtain ⟨r, a, b, er, fr⟩ := (fr q (List.mem_of_getElem? hq)).same s2
        rw [er]
        have a39 := pow_3900 (i := 4) (Nat.lt_of_lt_of_le fr.2.al (Nat.pow_le_pow_right (by decide) (by decide))) (by decide)
        have b39 := pow_3900 (i := 4) (Nat.lt_of_lt_of_le fr.2.bl (Nat.pow_le_pow_right (by decide) (by decide))) (by decide)
        have xa := pow_step xl fr.2.al
        have yb := pow_step yl fr.2.bl
        refine ⟨_, rfl, _, rfl, r, _, _, _, rfl, rfl, fr.seq, rfl, _, _, rfl, rfl, mulW (pow_3900 xl (by omega)) a39, ?_⟩
        refine ⟨_, rfl, _, rfl, r, _, _, _, rfl, rfl, fr.seq, rfl, _, _, rfl, rfl, mulW (pow_3900 yl (by omega)) b39, ?_⟩
        refine ⟨_, _, rfl, big_mul x0 fr.2.a0 (pow_3900 xl (by omega)) a39, mul_pos y0 fr.2.b0, fun t ht => ?_⟩
        have lp := low_pos (mul_pos x0 fr.2.a0) (mul_pos y0 fr.2.b0)
        have ll := low_le (mul_pos x0 fr.2.a0) (mul_pos y0 fr.2.b0)
        exact ⟨t, _, rfl, .inl (.inl upd_same), rfl, _, _, rfl, _, _, rfl, rfl, s2.trans (same_upd ht), _, _, _, rfl, lp.1, lp.2, wide_le (by omega) ll.1 xa, wide_le (by omega) ll.2 yb⟩
      · rintro σ H2 ⟨s2, x, y, v, rfl, _⟩
        exact ⟨_, rfl, _, rfl, line_n (by decide : 2 ≤ 900), fun t ht => o H1 s1 _ _ (s2.trans (same_upd ht))⟩
  · obtain ⟨ps, rfl, len, hb, o⟩ := h
    refine ⟨[], ps.map Prod.fst, rfl, rfl, by rw [List.length_map]; exact line_n (by omega), fun p hp => ?_⟩
    have s1 := same_upd (o := .tup (ps.map Prod.fst)) hp
    exact ⟨p, ps, rfl, upd_same, len, fun q m => (hb q m).same s1, o.at s1⟩
/-! format_fraction -/
theorem scFmt : FnScope ["number", "top", "bottom"] ["number"] (defScope s_format_fraction) := ⟨rfl, rfl, rfl, by decide +kernel, rfl, by decide +kernel, by decide +kernel⟩
def spFmtX (K : PySem.W.Frag) (C : Addr) : Sp := fun vs H Q E => ∃ x b, vs = [x] ∧ IsB K H x b ∧ Out C (bad [(x, b)]) H (fun H' => ∀ p a b', x = .ref p → FrAt 200 H' p a b' → ∀ H2, Same H' H2 → Q (.str (fmtS a b')) H2) E
theorem ok_format_x {C g1 : Addr} {gd1 : FuncData} (F : Fun K "format_fraction" "format_fraction" s_format_fraction f fd)
    (G1 : FnOk P w K mg base (L2N.CX P w) 4 g1 gd1 ["values"] (spCheckX K C)) (b1 : Binds K gd1 ["values"] []) (k1 : PySem.W.keepIn K (.ref g1) = true) (m1 : mg "check_fractions" = some (.ref g1)) :
    FnOk P w K mg base (L2N.CX P w) 5 f fd ["number"] (spFmtX K C) := by
  refine okX F scFmt (fun vs H Q E h => ?_) (fun cdv A outer s H vs Q E hr h => ?_)
  · obtain ⟨x, b, rfl, _⟩ := h
    rfl
  obtain ⟨x, bx, rfl, hx, o⟩ := h
  refine ⟨_, pss_cons (ps_expr (pe_call G1 hr rfl m1 k1 b1 .nil (passL2N (L2N.takes_of rfl rfl rfl rfl)) (pa_cons (pe_tup (pa_cons (pv 0) pa_nil)) pa_nil)))
    (pss_cons (ps_asg (pv 0) (pg_tup (by rfl) (pgs_cons (pg_name (i := 1) scFmt.nd rfl (.inl rfl)) (pgs_cons (pg_name (i := 2) scFmt.nd rfl (.inl rfl)) pgs_nil))))
    (pss_cons (ps_if (pt_cmpR op_eq (pv 2) pe_int (nomark _)) (pss_one (ps_ret (pe_joined1 (pe_fmt (pv 1))))) pss_nil)
    (pss_one (ps_ret (pe_joined (.cons (pe_fmt (pv 1)) (.cons pe_str (.cons (pe_fmt (pv 2)) .nil)))))))), ?_⟩
  refine ⟨_, rfl, line_n (by decide : 1 ≤ 900), fun t ht => ?_⟩
  have s1 := same_upd (o := .tup [x]) ht
  have e1 : upd H t (.tup [x]) t = some (.tup [x]) := upd_same
  generalize upd H t (.tup [x]) = A1 at s1 e1 ⊢
  have o1 := o.at s1
  clear o
  refine ⟨t, [(x, bx)], rfl, .inl (.inl e1), fun q m => by rw [List.mem_singleton.mp m]; exact hx.same s1, ?_⟩
  cases bx with
  | false =>
    rw [bad_cons_f] at o1 ⊢
    exact o1
  | true =>
    rw [show bad [(x, true)] = none from rfl] at o1 ⊢
    intro A2 s2
    obtain ⟨p, a, b, rfl, hp⟩ := hx.fr
    have hp := (hp.same s1).same s2
    have q := o1 A2 s2 p a b rfl hp A2 (Same.refl _)
    have la : a.natAbs.log2 < 1920 := Nat.lt_of_lt_of_le (PySem.Flt.log2_lt_of (by decide) hp.2.al) (by decide)
    have lb : b.natAbs.log2 < 1920 := Nat.lt_of_lt_of_le (PySem.Flt.log2_lt_of (by decide) hp.2.bl) (by decide)
    have ln := fmtS_len hp.2 (by decide)
    refine ⟨_, rfl, p, _, rfl, hp.seq, rfl, _, _, rfl, _, _, rfl, rfl, ?_⟩
    refine ⟨_, rfl, rfl, _, rfl, ?_⟩
    unfold fmtS at q ln
    by_cases hb : b = 1
    · rw [if_pos hb] at q
      rw [decide_eq_true (by rw [hb])]
      exact iteT ⟨_, rfl, .inr ⟨a, rfl, la, q⟩⟩
    · rw [if_neg hb] at q ln
      rw [decide_eq_false fun e => hb (V.int.inj e)]
      refine iteF ?_
      rw [strLen_append, strLen_append, strLen_append] at ln
      have z : Str.empty.length = 0 := by decide +kernel
      have le : ∀ n : Nat, n ≤ 1300 → n ≤ sizeLine := fun n h => by rw [sizeLine_eq]; omega
      refine ⟨_, rfl, .inr ⟨a, rfl, la, numS a, rfl, le _ (by rw [strLen_append]; omega), Str.ofString "/", rfl, le _ (by rw [strLen_append, strLen_append]; omega), ?_⟩⟩
      exact ⟨_, rfl, .inr ⟨b, rfl, lb, numS b, rfl, le _ (by rw [strLen_append, strLen_append, strLen_append]; omega), q⟩⟩
theorem scNum : FnScope ["text"] ["text"] (defScope s_is_numeral) := ⟨rfl, rfl, rfl, by decide +kernel, rfl, by decide +kernel, by decide +kernel⟩
def spNum : Sp := fun vs H Q _ => ∃ x, vs = [.str x] ∧ Q (.bl (Txt.isascii x && Txt.isdigit x)) H
theorem ok_is_numeral (F : Fun K "is_numeral" "is_numeral" s_is_numeral f fd) : FnOk P w K mg base CX0 2 f fd ["text"] spNum := by
  refine F.ok scNum (fun vs H Q E h => ?_) (fun cdv A outer s H vs Q E hr h => ?_)
  · obtain ⟨x, rfl, _⟩ := h
    rfl
  obtain ⟨x, rfl, q⟩ := h
  refine ⟨_, pss_one (ps_ret (pe_and (pe_m0 PySem.F.slot_str_isascii PySem.F.type_str_isascii mt_isascii (pv 0)) (pe_one (pe_m0 PySem.F.slot_str_isdigit PySem.F.type_str_isdigit mt_isdigit (pv 0))))), ?_⟩
  refine ⟨_, rfl, ⟨_, rfl⟩, x, rfl, rfl, trivial, _, rfl, ?_⟩
  cases e : Txt.isascii x with
  | true =>
    rw [e, Bool.true_and] at q
    exact iteT ⟨_, rfl, ⟨_, rfl⟩, x, rfl, rfl, trivial, q⟩
  | false =>
    rw [e, Bool.false_and] at q
    exact iteF q
end
/-! ### exact_raise4.lean -/
section
variable {P : Program} {w : World} {K : PySem.W.Frag} {mg : Str → Option Value} {base : Heap} {f : Addr} {fd : FuncData}
/-! find_fraction, parse_fraction -/
theorem scFind : FnScope ["text", "top", "slash", "bottom", "number"] ["text"] (defScope s_find_fraction) := ⟨rfl, rfl, rfl, by decide +kernel, rfl, by decide +kernel, by decide +kernel⟩
/-- a value that writes no fraction (v), or the text of one -/
inductive Wr (K : PySem.W.Frag) (H : Hp) : V → Option (Int × Int) → Prop where
  | no {v : V} (h : NoStr K H v) : Wr K H v none
  | empty : Wr K H (.str (Str.ofString "")) none
  | twos : Wr K H (.str (Str.ofString "2/4")) none
  | good {a b : Int} (h : Fr 200 a b) : Wr K H (.str (fmtS a b)) (some (a, b))
theorem Wr.same {H H' : Hp} {v : V} {o : Option (Int × Int)} (h : Wr K H v o) (s : Same H H') : Wr K H' v o := by
  cases h with
  | no h => exact .no (h.same s)
  | empty => exact .empty
  | twos => exact .twos
  | good h => exact .good h
theorem Th.wr {H : Hp} {v : V} (h : Th K H v) : ∃ o, Wr K H v o := by
  rcases h.tx with n | ⟨x, b, rfl, t⟩
  · exact ⟨_, .no n⟩
  · cases t with
    | good f => exact ⟨_, .good f⟩
    | no0 => exact ⟨_, .empty⟩
    | no1 => exact ⟨_, .twos⟩
def Found (H : Hp) (o : Option (Int × Int)) (Q : VK) : Prop := match o with
  | none => ∀ H', Same H H' → Q .non H'
  | some (a, b) => ∀ H' t, Same H H' → FrAt 200 H' t a b → Q (.ref t) H'
def spFindX (K : PySem.W.Frag) : Sp := fun vs H Q _ => ∃ v o, vs = [v] ∧ Wr K H v o ∧ Found H o Q
theorem ok_find_x {C g1 g2 g3 : Addr} {gd1 gd2 gd3 : FuncData} (F : Fun K "find_fraction" "find_fraction" s_find_fraction f fd) (mi : mg "isinstance" = none) (ms : mg "str" = none) (mint : mg "int" = none)
    (G1 : FnOk P w K mg base CX0 2 g1 gd1 ["text"] spNum) (b1 : Binds K gd1 ["text"] []) (k1 : PySem.W.keepIn K (.ref g1) = true) (m1 : mg "is_numeral" = some (.ref g1))
    (G2 : FnOk P w K mg base CX0 3 g2 gd2 ["value"] (spIsFrac K)) (b2 : Binds K gd2 ["value"] []) (k2 : PySem.W.keepIn K (.ref g2) = true) (m2 : mg "is_fraction" = some (.ref g2))
    (G3 : FnOk P w K mg base (L2N.CX P w) 5 g3 gd3 ["number"] (spFmtX K C)) (b3 : Binds K gd3 ["number"] []) (k3 : PySem.W.keepIn K (.ref g3) = true) (m3 : mg "format_fraction" = some (.ref g3)) :
    FnOk P w K mg base CX0 6 f fd ["text"] (spFindX K) := by
  refine F.ok scFind (fun vs H Q E h => ?_) (fun cdv A outer s H vs Q E hr h => ?_)
  · obtain ⟨v, o, rfl, _⟩ := h
    rfl
  obtain ⟨v, o, rfl, wr, q⟩ := h
  have r1 : Room 2 _ := hr.mono (by decide)
  have r2 : Room 3 _ := hr.mono (by decide)
  refine ⟨_, pss_cons (ps_if (pt_not (pt_val (pe_callB call_isi (by rfl) mi PyProof.Rows.boot_isinstance (pa_cons (pv 0) (pa_cons (pe_bltn (v := .ty "str") (by rfl) ms PyProof.Rows.boot_str rfl) pa_nil))))) (pss_one (ps_ret pe_non)) pss_nil)
    (pss_cons (ps_asg (pe_partition (pv 0) pe_str) (pg_tup (by rfl) (pgs_cons (pg_name (i := 1) scFind.nd rfl (.inl rfl)) (pgs_cons (pg_name (i := 2) scFind.nd rfl (.inl rfl)) (pgs_cons (pg_name (i := 3) scFind.nd rfl (.inl rfl)) pgs_nil)))))
    (pss_cons (ps_if (pt_cmpR op_eq (pv 2) pe_str (nomark _)) (pss_one (ps_set (i := 3) scFind.nd rfl (.inl rfl) pe_str)) pss_nil)
    (pss_cons (ps_if (PW.pt (pw_or (pt_not (pt_val (pe_call G1 r1 rfl m1 k1 b1 .nil pass0 (pa_cons (pv 1) pa_nil)))) (pw_or1 (pt_not (pt_val (pe_call G1 r1 rfl m1 k1 b1 .nil pass0 (pa_cons (pv 3) pa_nil))))))) (pss_one (ps_ret pe_non)) pss_nil)
    (pss_cons (ps_set (i := 4) scFind.nd rfl (.inl rfl) (pe_tup (pa_cons (pe_callTy call_int_str (by rfl) mint (by decide +kernel) (pa_cons (pv 1) pa_nil)) (pa_cons (pe_callTy call_int_str (by rfl) mint (by decide +kernel) (pa_cons (pv 3) pa_nil)) pa_nil))))
    (pss_cons (ps_if (PW.pt (pw_or (pt_not (pt_val (pe_call G2 r2 rfl m2 k2 b2 .nil pass0 (pa_cons (pv 4) pa_nil)))) (pw_or1 (pt_cmpR op_ne (pe_call G3 hr rfl m3 k3 b3 .nil passN (pa_cons (pv 4) pa_nil)) (pv 0) (nomark _))))) (pss_one (ps_ret pe_non)) pss_nil)
    (pss_one (ps_ret (pv 4)))))))), ?_⟩
  have e0 : (Str.empty = Str.ofString "") := by decide +kernel
  have e1' : ¬ (Str.ofString "/" = Str.ofString "") := by decide +kernel
  cases wr with
  | no n =>
    obtain ⟨t, ty, e⟩ := n
    exact ⟨_, rfl, _, _, _, _, false, rfl, .ty "str", ty, e, _, rfl, iteT (q _ (Same.refl _))⟩
  | empty =>
    refine ⟨_, rfl, _, _, _, _, true, rfl, .ty "str", .base (.str _), kit_ty (by decide +kernel), _, rfl, iteF ?_⟩
    refine ⟨_, rfl, ⟨_, rfl⟩, _, _, rfl, rfl, by decide +kernel, by decide +kernel, fun t ht => ?_⟩
    rw [show Txt.partition (Str.ofString "") (Str.ofString "/") = (Str.ofString "", Str.ofString "", Str.ofString "") by decide +kernel]
    have s1 := same_upd (o := .tup [.str (Str.ofString ""), .str (Str.ofString ""), .str (Str.ofString "")]) ht
    have e1 : upd H t (.tup [.str (Str.ofString ""), .str (Str.ofString ""), .str (Str.ofString "")]) t = some (.tup [.str (Str.ofString ""), .str (Str.ofString ""), .str (Str.ofString "")]) := upd_same
    generalize upd H t (.tup [.str (Str.ofString ""), .str (Str.ofString ""), .str (Str.ofString "")]) = A1 at s1 e1 ⊢
    refine ⟨t, _, rfl, .inl (.inl e1), rfl, _, _, rfl, _, _, rfl, _, _, rfl, rfl, ?_⟩
    refine ⟨_, rfl, rfl, _, rfl, ?_⟩
    rw [decide_eq_true rfl]
    refine iteT ?_
    refine ⟨_, rfl, _, rfl, _, rfl, ?_⟩
    rw [show (Txt.isascii (Str.ofString "") && Txt.isdigit (Str.ofString "")) = false by decide +kernel]
    exact iteT (iteT (q _ s1))
  | twos =>
    refine ⟨_, rfl, _, _, _, _, true, rfl, .ty "str", .base (.str _), kit_ty (by decide +kernel), _, rfl, iteF ?_⟩
    refine ⟨_, rfl, ⟨_, rfl⟩, _, _, rfl, rfl, by decide +kernel, by decide +kernel, fun t ht => ?_⟩
    rw [show Txt.partition (Str.ofString "2/4") (Str.ofString "/") = (Str.ofString "2", Str.ofString "/", Str.ofString "4") by decide +kernel]
    have s1 := same_upd (o := .tup [.str (Str.ofString "2"), .str (Str.ofString "/"), .str (Str.ofString "4")]) ht
    have e1 : upd H t (.tup [.str (Str.ofString "2"), .str (Str.ofString "/"), .str (Str.ofString "4")]) t = some (.tup [.str (Str.ofString "2"), .str (Str.ofString "/"), .str (Str.ofString "4")]) := upd_same
    generalize upd H t (.tup [.str (Str.ofString "2"), .str (Str.ofString "/"), .str (Str.ofString "4")]) = A1 at s1 e1 ⊢
    refine ⟨t, _, rfl, .inl (.inl e1), rfl, _, _, rfl, _, _, rfl, _, _, rfl, rfl, ?_⟩
    refine ⟨_, rfl, rfl, _, rfl, ?_⟩
    rw [decide_eq_false fun e => e1' (V.str.inj e)]
    refine iteF ?_
    refine ⟨_, rfl, _, rfl, _, rfl, ?_⟩
    rw [show (Txt.isascii (Str.ofString "2") && Txt.isdigit (Str.ofString "2")) = true by decide +kernel]
    refine iteF ?_
    refine ⟨_, rfl, _, rfl, _, rfl, ?_⟩
    rw [show (Txt.isascii (Str.ofString "4") && Txt.isdigit (Str.ofString "4")) = true by decide +kernel]
    refine iteF ?_
    refine ⟨_, rfl, _, 2, rfl, by decide +kernel, by decide +kernel, _, rfl, _, 4, rfl, by decide +kernel, by decide +kernel, line_n (by decide : 2 ≤ 900), fun u nu => ?_⟩
    have s2 := same_upd (o := .tup [.int 2, .int 4]) nu
    have e2 : upd A1 u (.tup [.int 2, .int 4]) u = some (.tup [.int 2, .int 4]) := upd_same
    generalize upd A1 u (.tup [.int 2, .int 4]) = A2 at s2 e2 ⊢
    refine ⟨_, rfl, .ref u, false, rfl, .pair (x := .int 2) (y := .int 4) e2 (.int 2) (.int 4) (show (2 : Int).natAbs < 2 ^ 200 by decide) (show (4 : Int).natAbs < 2 ^ 200 by decide), _, rfl, iteT (iteT ?_)⟩
    exact q _ (s1.trans s2)
  | @good a b fr =>
    have fr19 : Fr 1900 a b := fr.up (by decide)
    have ln := fmtS_len fr (by decide)
    have na := numS_num (i := a) (by have := fr.a0; omega)
    have nb := numS_num (i := b) (by have := fr.b0; omega)
    have ia := numS_int (i := a) (by have := fr.a0; omega) fr19.al
    have ib := numS_int (i := b) (by have := fr.b0; omega) fr19.bl
    have la := numS_len fr19.al
    have lb := numS_len fr19.bl
    refine ⟨_, rfl, _, _, _, _, true, rfl, .ty "str", .base (.str _), kit_ty (by decide +kernel), _, rfl, iteF ?_⟩
    refine ⟨_, rfl, ⟨_, rfl⟩, _, _, rfl, rfl, by decide +kernel, by rw [sizeLine_eq]; omega, fun t ht => ?_⟩
    by_cases hb : b = 1
    case' pos =>
      have et : fmtS a b = numS a := if_pos hb
      rw [show Txt.partition (fmtS a b) (Str.ofString "/") = (numS a, Str.empty, Str.empty) by rw [et]; exact part_one (by have := fr.a0; omega)]
      have s1 := same_upd (o := .tup [.str (numS a), .str Str.empty, .str Str.empty]) ht
      have e1 : upd H t (.tup [.str (numS a), .str Str.empty, .str Str.empty]) t = some (.tup [.str (numS a), .str Str.empty, .str Str.empty]) := upd_same
      generalize upd H t (.tup [.str (numS a), .str Str.empty, .str Str.empty]) = A1 at s1 e1 ⊢
      refine ⟨t, _, rfl, .inl (.inl e1), rfl, _, _, rfl, _, _, rfl, _, _, rfl, rfl, ?_⟩
      refine ⟨_, rfl, rfl, _, rfl, ?_⟩
      rw [decide_eq_true (congrArg V.str e0)]
      refine iteT ?_
      have nbs : (Txt.isascii (Str.ofString "1") && Txt.isdigit (Str.ofString "1")) = true := by decide +kernel
      have ibs : intText? (Str.ofString "1") = some b := by rw [hb]; decide +kernel
      have lbs : (Str.ofString "1").length ≤ 640 := by decide +kernel
    case' neg =>
      have et : fmtS a b = ((Str.empty ++ numS a) ++ Str.ofString "/") ++ numS b := if_neg hb
      rw [show Txt.partition (fmtS a b) (Str.ofString "/") = (numS a, Str.ofString "/", numS b) by rw [et]; exact part_two (by have := fr.a0; omega)]
      have s1 := same_upd (o := .tup [.str (numS a), .str (Str.ofString "/"), .str (numS b)]) ht
      have e1 : upd H t (.tup [.str (numS a), .str (Str.ofString "/"), .str (numS b)]) t = some (.tup [.str (numS a), .str (Str.ofString "/"), .str (numS b)]) := upd_same
      generalize upd H t (.tup [.str (numS a), .str (Str.ofString "/"), .str (numS b)]) = A1 at s1 e1 ⊢
      refine ⟨t, _, rfl, .inl (.inl e1), rfl, _, _, rfl, _, _, rfl, _, _, rfl, rfl, ?_⟩
      refine ⟨_, rfl, rfl, _, rfl, ?_⟩
      rw [decide_eq_false fun e => e1' (V.str.inj e)]
      refine iteF ?_
      have nbs : (Txt.isascii (numS b) && Txt.isdigit (numS b)) = true := by rw [nb.1, nb.2]; rfl
      have ibs := ib
      have lbs : (numS b).length ≤ 640 := by omega
    all_goals
      refine ⟨_, rfl, _, rfl, _, rfl, ?_⟩
      rw [na.1, na.2]
      refine iteF ?_
      refine ⟨_, rfl, _, rfl, _, rfl, ?_⟩
      rw [nbs]
      refine iteF ?_
      refine ⟨_, rfl, _, a, rfl, ia, by omega, _, rfl, _, b, rfl, ibs, lbs, line_n (by decide : 2 ≤ 900), fun u nu => ?_⟩
      have s2 := same_upd (o := .tup [.int a, .int b]) nu
      have e2 : upd A1 u (.tup [.int a, .int b]) u = some (.tup [.int a, .int b]) := upd_same
      generalize upd A1 u (.tup [.int a, .int b]) = A2 at s2 e2 ⊢
      have s12 := s1.trans s2
      have is : IsB K A2 (.ref u) true := by
        have h := IsB.pair (K := K) (x := .int a) (y := .int b) e2 (.int a) (.int b) fr.al fr.bl
        rw [fracB_yes fr.a0 fr.b0, decide_eq_true fr.g] at h
        exact h
      refine ⟨_, rfl, .ref u, true, rfl, is, _, rfl, iteF ?_⟩
      refine ⟨_, rfl, .ref u, true, rfl, is, fun A3 s3 p a' b' ep fp A4 s4 => ?_⟩
      cases ep
      have ee := fp.1.symm.trans (s3 _ _ e2)
      cases ee
      refine ⟨_, rfl, rfl, _, rfl, ?_⟩
      rw [decide_eq_true rfl]
      refine iteF ⟨_, rfl, ?_⟩
      exact q _ u (s12.trans (s3.trans s4)) ⟨s4 _ _ (s3 _ _ e2), fr⟩
theorem scParse : FnScope ["text", "number"] ["text"] (defScope s_parse_fraction) := ⟨rfl, rfl, rfl, by decide +kernel, rfl, by decide +kernel, by decide +kernel⟩
def spParseX (K : PySem.W.Frag) (C : Addr) : Sp := fun vs H Q E => ∃ v o, vs = [v] ∧ Wr K H v o ∧ Out C (if o.isSome = true then none else some v) H (fun H' => ∀ v H2, Same H' H2 → Q v H2) E
theorem ok_parse_x {C fI g1 : Addr} {gd1 : FuncData} (F : Fun K "parse_fraction" "parse_fraction" s_parse_fraction f fd) (Z : EvTxt K C fI "InvalidText.__init__") (mC : mg "InvalidText" = some (.ref C))
    (G1 : FnOk P w K mg base CX0 6 g1 gd1 ["text"] (spFindX K)) (b1 : Binds K gd1 ["text"] []) (k1 : PySem.W.keepIn K (.ref g1) = true) (m1 : mg "find_fraction" = some (.ref g1)) :
    FnOk P w K mg base (L2N.CX P w) 7 f fd ["text"] (spParseX K C) := by
  refine okX F scParse (fun vs H Q E h => ?_) (fun cdv A outer s H vs Q E hr h => ?_)
  · obtain ⟨v, o, rfl, _⟩ := h
    rfl
  obtain ⟨v, o, rfl, wr, out⟩ := h
  refine ⟨_, pss_cons (ps_set (i := 1) scParse.nd rfl (.inl rfl) (pe_call G1 hr rfl m1 k1 b1 .nil pass0 (pa_cons (pv 0) pa_nil)))
    (pss_cons (ps_if (pt_cmpR op_isN (pv 1) pe_non (nomark _)) (pss_one (ps_ev rfl Z mC hr (L2N.takes_of rfl rfl rfl rfl) (pa_cons (pv 0) pa_nil) rfl)) pss_nil)
    (pss_one (ps_ret (pv 1)))), ?_⟩
  refine ⟨_, rfl, v, o, rfl, wr, ?_⟩
  cases o with
  | none =>
    intro H' s1
    refine ⟨_, rfl, rfl, _, rfl, ?_⟩
    rw [decide_eq_true rfl]
    exact iteT ⟨_, rfl, _, rfl, fun d nd => out _ d (s1.trans (same_upd nd)) upd_same⟩
  | some ab =>
    obtain ⟨a, b⟩ := ab
    intro H' t s1 ft
    refine ⟨_, rfl, rfl, _, rfl, ?_⟩
    rw [decide_eq_false fun e => nomatch e]
    exact iteF ⟨_, rfl, out H' s1 _ _ (Same.refl _)⟩
end
/-! ### k06_read.lean -/
section
variable {P : Program} {w : World} {K : PySem.W.Frag} {mg : Str → Option Value} {base : Heap} {f : Addr} {fd : FuncData}
/-! the law's reader, for texts of numbers -/
theorem head_pos : ∀ {n : Nat}, 0 < n → ∃ c r, TL.numL n = c :: r ∧ 49 ≤ c ∧ c ≤ 57 := by
  intro n
  induction n using Nat.strongRecOn with
  | _ n ih =>
    intro h
    by_cases hn : n < 10
    · rw [TL.numL_lt hn]
      exact ⟨_, [], rfl, by omega, by omega⟩
    · obtain ⟨c, r, e, h1, h2⟩ := ih (n / 10) (by omega) (by omega)
      rw [TL.numL_step (by omega), e]
      exact ⟨c, r ++ [48 + n % 10], rfl, h1, h2⟩
/-- a part that the reader takes -/
structure PartOk (x : Str) : Prop where
  dig : ∀ c ∈ x.cps.toList, 48 ≤ c ∧ c ≤ 57
  head : ∃ c r, x.cps.toList = c :: r ∧ c ≠ 48
  len : x.length ≤ 640
theorem num_ok {a : Int} (h : 0 < a) (l : a.natAbs < 2 ^ 200) : PartOk (numS a) := by
  have hl := numS_len (le1900 l)
  obtain ⟨n, rfl⟩ : ∃ n : Nat, a = (n : Int) := ⟨a.toNat, by omega⟩
  have e : (numS (n : Int)).cps.toList = TL.numL n := numS_tl
  refine ⟨fun c hc => ?_, ?_, by omega⟩
  · rw [e] at hc
    exact TL.numL_digits n c hc
  · obtain ⟨c, r, e2, h1, _⟩ := head_pos (n := n) (by omega)
    exact ⟨c, r, by rw [e, e2], by omega⟩
def ten : Str := Str.ofString "0123456789"
theorem in_ten {c : Nat} (h : 48 ≤ c ∧ c ≤ 57) : (!decide (c ∈ ten.cps.toList)) = false := by
  have : c = 48 ∨ c = 49 ∨ c = 50 ∨ c = 51 ∨ c = 52 ∨ c = 53 ∨ c = 54 ∨ c = 55 ∨ c = 56 ∨ c = 57 := by omega
  rcases this with rfl | rfl | rfl | rfl | rfl | rfl | rfl | rfl | rfl | rfl <;> decide +kernel
theorem split_1 {a : Int} (h : 0 ≤ a) : Txt.split (numS a) (Str.ofString "/") = [numS a] := by
  have e := TL.split_join (parts := [numS a]) slash_tl (by decide +kernel) (by simp) (fun p m => by
    rw [List.mem_singleton.mp m]
    exact numS_free h (.inl (by decide)))
  have j : Txt.join (Str.ofString "/") [numS a] = numS a := TL.ext_tl (by rw [TL.join_eq, TL.tl_join]; simp [TL.joinL])
  rw [j] at e
  exact e
theorem split_2 {a b : Int} (ha : 0 ≤ a) (hb : 0 ≤ b) : Txt.split (((Str.empty ++ numS a) ++ Str.ofString "/") ++ numS b) (Str.ofString "/") = [numS a, numS b] := by
  have e := TL.split_join (parts := [numS a, numS b]) slash_tl (by decide +kernel) (by simp) (fun p m => by
    rcases List.mem_cons.mp m with e | m
    · rw [e]; exact numS_free ha (.inl (by decide))
    · rw [List.mem_singleton.mp m]; exact numS_free hb (.inl (by decide)))
  have j : Txt.join (Str.ofString "/") [numS a, numS b] = ((Str.empty ++ numS a) ++ Str.ofString "/") ++ numS b := TL.ext_tl (by rw [TL.join_eq, TL.tl_join, empty_app, TL.tl_append, TL.tl_append]; simp [TL.joinL])
  rw [j] at e
  exact e
theorem scRead : FnScope ["_law_text_here", "_law_parts", "_law_part_here", "_law_sign", "_law_found"] ["_law_text_here"] (defScope s_l_read) := ⟨rfl, rfl, rfl, by decide +kernel, rfl, by decide +kernel, by decide +kernel⟩
def spRead : Sp := fun vs H Q _ => ∃ x b, vs = [.str x] ∧ Tx x b ∧ ∀ v H', Same H H' → (b = true → v ≠ .non) → (b = false → v = .non) → Q v H'
/-- the loop over the parts: all are taken, or the first is empty -/
def wLoop : TS := fun D sl H => ∃ (L : Addr) (ps : List Str) (a0 a2 a3 a4 : Option V), sl = [a0, some (.ref L), a2, a3, a4] ∧ H L = some (.lst (ps.map V.str)) ∧
  ((ps = [Str.ofString ""] ∧ D.rt .non H) ∨ ((∀ p ∈ ps, PartOk p) ∧ ps.length ≤ 2 ∧ ∀ v H', Same H H' → D.nx [a0, some (.ref L), v, a3, a4] H'))
theorem ok_read {g1 : Addr} {gd1 : FuncData} (F : Fun K "_law_read" "_law_read" s_l_read f fd) (ml : mg "len" = none) (mi : mg "int" = none)
    (G1 : FnOk P w K mg base CX0 2 g1 gd1 ["_law_high_part", "_law_low_part"] spLow) (b1 : Binds K gd1 ["_law_high_part", "_law_low_part"] []) (k1 : PySem.W.keepIn K (.ref g1) = true) (m1 : mg "_law_low" = some (.ref g1)) :
    FnOk P w K mg base CX0 3 f fd ["_law_text_here"] spRead := by
  refine F.ok scRead (fun vs H Q E h => ?_) (fun cdv A outer s H vs Q E hr h => ?_)
  · obtain ⟨x, b, rfl, _⟩ := h
    rfl
  obtain ⟨x, b, rfl, tx, q⟩ := h
  refine ⟨_, pss_cons (ps_set (i := 1) scRead.nd rfl (.inl rfl) (pe_split (pv 0) pe_str))
    (pss_cons (ps_if (pt_cmpR op_gt (pe_callB call_len_seq (by rfl) ml PySem.boot_len (pa_cons (pv 1) pa_nil)) pe_int (nomark _)) (pss_one (ps_ret pe_non)) pss_nil)
    (pss_cons (ps_weakS (t' := wLoop) (ps_for PassesOwn.never rfl (pi_list (pv 1)) (pg_name (i := 2) scRead.nd rfl (.inl rfl))
      (pss_one (ps_if (PW.pt (pw_or (pt_cmpR op_eq (pv 2) pe_str (nomark _)) (pw_or (pt_cmpR op_eq (pe_ix ix_str (pv 2) pe_int (fun _ _ => rfl)) pe_str (nomark _)) (pw_or1 (pt_cmpR (op_neD hr.units)
          (pe_lc (own := [("_law_sign", 3)]) (g := gName 3) (by rfl) scRead.nd (pi_str (pv 2)) (blkOk_by (own := [("_law_sign", 3)]) (N := ["_law_text_here", "_law_parts", "_law_part_here", "_law_sign", "_law_found"]) (sc := defScope s_l_read) (by decide +kernel))
            (fun _ _ _ _ _ => pg_name (i := 3) scRead.nd rfl (Or.inl rfl)) (fun _ _ _ _ _ => pts_one (pt_cmpR op_notIn_sign (pv 3) pe_str rfl)) (fun _ _ _ _ _ => pv 3)) (pe_lst pa_nil) (nomark _)))))) (pss_one (ps_ret pe_non)) pss_nil))) (by
      rintro D sl H ⟨L, ps, a0, a2, a3, a4, rfl, hL, h⟩
      refine ⟨_, rfl, L, rfl, ⟨_, SqL.of hL⟩, ?_⟩
      rcases h with ⟨rfl, q⟩ | ⟨ok, len, q⟩
      · refine for_list (K := K) (a := L) (xs := [.str (Str.ofString "")]) (fun i σ H2 => i = 0 ∧ H2 = H ∧ σ = [a0, some (.ref L), a2, a3, a4]) ⟨rfl, rfl, rfl⟩ (fun i σ H2 _ h => by rw [h.2.1]; exact SqL.of hL) ?_ ?_
        · rintro i x σ H2 hi ⟨rfl, rfl, rfl⟩
          cases hi
          refine ⟨_, rfl, rfl, _, rfl, ?_⟩
          rw [decide_eq_true rfl]
          exact iteT (iteT q)
        · rintro σ H2 ⟨e, _⟩
          cases e
      · refine for_list (K := K) (a := L) (xs := ps.map V.str) (fun i σ H2 => Same H H2 ∧ ∃ v, σ = [a0, some (.ref L), v, a3, a4]) ⟨Same.refl H, _, rfl⟩ (fun i σ H2 _ h => SqL.of (h.1 _ _ hL)) ?_ ?_
        · rintro i x σ H2 hi ⟨s1, v, rfl⟩
          rw [List.getElem?_map] at hi
          obtain ⟨z, hz, rfl⟩ := Option.map_eq_some_iff.mp hi
          have pk := ok z (List.mem_of_getElem? hz)
          obtain ⟨c, r, ec, c48⟩ := pk.head
          have ne : ¬ (V.str z = V.str (Str.ofString "")) := fun e => by
            have e1 := V.str.inj e
            rw [e1, show (Str.ofString "").cps.toList = [] by decide +kernel] at ec
            cases ec
          refine ⟨_, rfl, rfl, _, rfl, ?_⟩
          rw [decide_eq_false ne]
          refine iteF ?_
          have at0 : atI z.cps.toList 0 = some c := by
            have h := atI_nat (xs := z.cps.toList) (j := 0) (v := c) (by rw [ec]; rfl)
            exact h
          refine ⟨_, rfl, _, _, c, rfl, rfl, line_n (by have := pk.len; omega), at0, ?_⟩
          have ne0 : ¬ (V.str ⟨#[c]⟩ = V.str (Str.ofString "0")) := fun e => by
            have e1 := V.str.inj e
            rw [show Str.ofString "0" = ⟨#[48]⟩ by decide +kernel] at e1
            exact c48 (by simpa using e1)
          refine ⟨rfl, _, rfl, ?_⟩
          rw [decide_eq_false ne0]
          refine iteF ?_
          refine ⟨_, rfl, z, rfl, fun Dl nD => ?_⟩
          have sD := same_upd (o := .lst []) nD
          refine lc_it walk_str (fun i H3 => Same H2 H3 ∧ H3 Dl = some (.lst [])) ⟨sD, upd_same⟩ (fun _ _ _ _ => trivial) ?_ ?_
          · rintro j x H3 H4 hj ⟨s2, hD⟩ ⟨rfl, c2, hc, rfl⟩
            have mem : c2 ∈ z.cps.toList := by
              have := Array.mem_of_getElem? hc
              exact Array.mem_toList_iff.mpr this
            refine ⟨rfl, _, rfl, c2, ten, rfl, rfl, _, rfl, ?_⟩
            rw [in_ten (pk.dig c2 mem)]
            exact iteF ⟨s2, hD⟩
          · rintro H3 ⟨s2, hD⟩
            refine ⟨line_n (by decide : 0 ≤ 900), fun M nM => ?_⟩
            refine ⟨.list [], .list [], .lst (SqL.of (same_upd nM _ _ hD)) .nil, .lst (SqL.of upd_same) .nil, rfl, rfl, _, rfl, ?_⟩
            exact iteF ⟨s1.trans (s2.trans (same_upd nM)), _, rfl⟩
        · rintro σ H2 ⟨s1, v, rfl⟩
          exact q v H2 s1))
    (pss_cons (ps_if (pt_cmpR op_eq (pe_callB call_len_seq (by rfl) ml PySem.boot_len (pa_cons (pv 1) pa_nil)) pe_int (nomark _)) (pss_one (ps_ret (pe_tup (pa_cons (pe_callTy call_int_str (by rfl) mi (by decide +kernel) (pa_cons (pe_ix ix_list (pv 1) pe_int (fun _ _ => rfl)) pa_nil)) (pa_cons pe_int pa_nil))))) pss_nil)
    (pss_cons (ps_set (i := 4) scRead.nd rfl (.inl rfl) (pe_tup (pa_cons (pe_callTy call_int_str (by rfl) mi (by decide +kernel) (pa_cons (pe_ix ix_list (pv 1) pe_int (fun _ _ => rfl)) pa_nil)) (pa_cons (pe_callTy call_int_str (by rfl) mi (by decide +kernel) (pa_cons (pe_ix ix_list (pv 1) pe_int (fun _ _ => rfl)) pa_nil)) pa_nil))))
    (pss_one (ps_ret (pe_ifExp (PW.pt (pw_and (pt_cmpR op_gt (pe_ix ix_tup (pv 4) pe_int (fun _ _ => rfl)) pe_int (nomark _)) (pw_and1 (pt_cmpR (op_eqD hr.units) (pe_call G1 hr rfl m1 k1 b1 .nil pass0 (pa_cons (pe_ix ix_tup (pv 4) pe_int (fun _ _ => rfl)) (pa_cons (pe_ix ix_tup (pv 4) pe_int (fun _ _ => rfl)) pa_nil))) (pv 4) (nomark _))))) (pv 4) pe_non))))))), ?_⟩
  have kinds : (x = Str.ofString "" ∧ b = false) ∨ (∃ a : Int, x = numS a ∧ 0 < a ∧ a.natAbs < 2 ^ 200 ∧ b = true) ∨
      (∃ a c : Int, Txt.split x (Str.ofString "/") = [numS a, numS c] ∧ x.length ≤ 2000 ∧ 0 < a ∧ 1 < c ∧ a.natAbs < 2 ^ 200 ∧ c.natAbs < 2 ^ 200 ∧ b = decide (gcdI a c = 1)) := by
    cases tx with
    | no0 => exact .inl ⟨rfl, rfl⟩
    | no1 => exact .inr (.inr ⟨2, 4, by decide +kernel, by decide +kernel, by decide, by decide, by decide, by decide, by decide +kernel⟩)
    | @good a c fr =>
      have ln := fmtS_len fr (by decide)
      by_cases hc : c = 1
      · exact .inr (.inl ⟨a, by unfold fmtS; rw [if_pos hc], fr.a0, fr.al, rfl⟩)
      · refine .inr (.inr ⟨a, c, ?_, by omega, fr.a0, by have := fr.b0; omega, fr.al, fr.bl, (decide_eq_true fr.g).symm⟩)
        unfold fmtS
        rw [if_neg hc]
        exact split_2 (by have := fr.a0; omega) (by have := fr.b0; omega)
  rcases kinds with ⟨rfl, rfl⟩ | ⟨a, rfl, a0, al, rfl⟩ | ⟨a, c, es, lx, a0, c1, al, cl, rfl⟩
  · refine ⟨_, rfl, ⟨_, rfl⟩, _, _, rfl, rfl, by decide +kernel, by decide +kernel, fun L nL => ?_⟩
    rw [show Txt.split (Str.ofString "") (Str.ofString "/") = [Str.ofString ""] by decide +kernel]
    have s1 := same_upd (o := .lst ([Str.ofString ""].map V.str)) nL
    have e1 : upd H L (.lst ([Str.ofString ""].map V.str)) L = some (.lst ([Str.ofString ""].map V.str)) := upd_same
    generalize upd H L (.lst ([Str.ofString ""].map V.str)) = A1 at s1 e1 ⊢
    refine ⟨_, rfl, L, _, rfl, .inl (SqL.of e1), _, _, rfl, rfl, _, rfl, iteF ?_⟩
    exact ⟨L, _, _, _, _, _, rfl, e1, .inl ⟨rfl, q _ _ s1 (fun z => Bool.noConfusion z) fun _ => rfl⟩⟩
  · have ln := numS_len (le1900 al)
    have ia := numS_int (i := a) (by omega) (le1900 al)
    refine ⟨_, rfl, ⟨_, rfl⟩, _, _, rfl, rfl, by decide +kernel, by rw [sizeLine_eq]; omega, fun L nL => ?_⟩
    rw [split_1 (by omega)]
    have s1 := same_upd (o := .lst ([numS a].map V.str)) nL
    have e1 : upd H L (.lst ([numS a].map V.str)) L = some (.lst ([numS a].map V.str)) := upd_same
    generalize upd H L (.lst ([numS a].map V.str)) = A1 at s1 e1 ⊢
    refine ⟨_, rfl, L, _, rfl, .inl (SqL.of e1), _, _, rfl, rfl, _, rfl, iteF ?_⟩
    refine ⟨L, _, _, _, _, _, rfl, e1, .inr ⟨fun z m => by rw [List.mem_singleton.mp m]; exact num_ok a0 al, by show 1 ≤ 2; decide, fun v H2 s2 => ?_⟩⟩
    have e2 := s2 _ _ e1
    refine ⟨_, rfl, L, _, rfl, .inl (SqL.of e2), rfl, _, rfl, iteT ?_⟩
    refine ⟨_, rfl, L, _, _, _, rfl, rfl, SqL.of e2, rfl, _, a, rfl, ia, by omega, line_n (by decide : 2 ≤ 900), fun t nt => ?_⟩
    exact q _ _ (s1.trans (s2.trans (same_upd nt))) (fun _ => fun z => nomatch z) fun z => Bool.noConfusion z
  · have la := numS_len (le1900 al)
    have lc := numS_len (le1900 cl)
    have ia := numS_int (i := a) (by omega) (le1900 al)
    have ic := numS_int (i := c) (by omega) (le1900 cl)
    refine ⟨_, rfl, ⟨_, rfl⟩, _, _, rfl, rfl, by decide +kernel, by rw [sizeLine_eq]; omega, fun L nL => ?_⟩
    rw [es]
    have s1 := same_upd (o := .lst ([numS a, numS c].map V.str)) nL
    have e1 : upd H L (.lst ([numS a, numS c].map V.str)) L = some (.lst ([numS a, numS c].map V.str)) := upd_same
    generalize upd H L (.lst ([numS a, numS c].map V.str)) = A1 at s1 e1 ⊢
    refine ⟨_, rfl, L, _, rfl, .inl (SqL.of e1), _, _, rfl, rfl, _, rfl, iteF ?_⟩
    refine ⟨L, _, _, _, _, _, rfl, e1, .inr ⟨fun z m => ?_, Nat.le_refl 2, fun v H2 s2 => ?_⟩⟩
    · rcases List.mem_cons.mp m with e | m
      · rw [e]; exact num_ok a0 al
      · rw [List.mem_singleton.mp m]; exact num_ok (by omega) cl
    have e2 := s2 _ _ e1
    refine ⟨_, rfl, L, _, rfl, .inl (SqL.of e2), rfl, _, rfl, iteF ?_⟩
    refine ⟨_, rfl, L, _, _, _, rfl, rfl, SqL.of e2, rfl, _, a, rfl, ia, by omega, _, rfl, L, _, _, _, rfl, rfl, SqL.of e2, rfl, _, c, rfl, ic, by omega, line_n (by decide : 2 ≤ 900), fun t nt => ?_⟩
    have s3 := same_upd (o := .tup [.int a, .int c]) nt
    have e3 : upd H2 t (.tup [.int a, .int c]) t = some (.tup [.int a, .int c]) := upd_same
    generalize upd H2 t (.tup [.int a, .int c]) = H3 at s3 e3 ⊢
    have st : SqT K H3 t [.int a, .int c] := .inl (.inl e3)
    refine ⟨_, rfl, t, _, _, _, rfl, rfl, st, rfl, _, _, rfl, rfl, _, rfl, ?_⟩
    rw [decide_eq_true c1]
    refine iteT ?_
    have up : ∀ {n : Int}, n.natAbs < 2 ^ 200 → n.natAbs < 2 ^ Bd := fun h => Nat.lt_of_lt_of_le h (Nat.pow_le_pow_right (by decide) (by decide))
    refine ⟨_, rfl, t, _, _, _, rfl, rfl, st, rfl, _, rfl, t, _, _, _, rfl, rfl, st, rfl, a, c, rfl, ⟨a0, up al⟩, by omega, fun u nu => ?_⟩
    have s4 := same_upd (o := lowT a c) nu
    refine ⟨_, rfl, lowD a c, .tuple [.int a, .int c], lowT_dp upd_same, tupD (s4 _ _ e3), rfl, rfl, _, rfl, ?_⟩
    rw [eqv_low a0 (by omega)]
    have s := s1.trans (s2.trans (s3.trans s4))
    by_cases g : gcdI a c = 1
    · rw [decide_eq_true g] at q ⊢
      exact iteT ⟨_, rfl, q _ _ s (fun _ => fun z => nomatch z) fun z => Bool.noConfusion z⟩
    · rw [decide_eq_false g] at q ⊢
      exact iteF (q _ _ s (fun z => Bool.noConfusion z) fun _ => rfl)
end
/-! ### calls06.lean -/
section
variable {X : Cx} {CX : CXT} {k : Nat} {f : Addr} {sp : Sp} {E : XK} {x : Str} {p pos : Pos} {e : Expr} {es : List Expr} {t : TA}
theorem goR {pins : List (Addr × Obj)} {sl : L2.St} {H : Hp} {s : Shared} {Q : VK} {us : List Value} {vs : List V} (F : FnR X.prog X.w X.K X.mg X.base CX k f sp) (hr : Room k X.A) (hx : Passes CX X E)
    (inv : Inv X pins sl H s) (r : Vals vs us) (want : sp vs H Q E) : wpAny (model X.prog X.w) X.A (call (.ref f) us) (EP X pins sl Q) X.xe s := by
  refine wpAny_call (codeAny_mono (F X.A X.stack s H us vs Q E hr inv.env0 r want) fun r s' got => ?_)
  cases r with
  | error e => exact hx pins sl H s e s' inv got
  | ok fl =>
    cases fl with
    | ret u => exact inv.after got
    | next => exact got.elim
    | brk => exact got.elim
    | cont => exact got.elim
theorem callR (F : FnR X.prog X.w X.K X.mg X.base CX k f sp) (hr : Room k X.A) (hg : Gl X x) (hm : X.mg x = some (.ref f)) (hk : PySem.W.keepIn X.K (.ref f) = true) (hx : Passes CX X E)
    (ha : PA X (e :: es) t) (hdb : (x == ("__debug__" : Str)) = false := by decide) (he : starEach (e :: es) X.env = (false, eval e X.env) :: starEach es X.env := by rfl) (hpl : (backTo pos (starEach es X.env)).any (·.1) = false := by rfl) :
    PE X (.Call (.Name x p) (e :: es) [] pos) (fun σ H Q => t σ H fun vs H1 => sp vs H1 Q E) := by
  constructor
  intro pins s sl H Q inv want
  refine wpAny_Call_Name_kw (ld_glob inv hg hm ?_ hdb)
  refine PySem.W.callWith_K (h₀ := X.base) inv.ok.mod.kin hk (thn (ha.run pos pins s sl H _ inv want) ?_) he hpl
  rintro us s1 ⟨vs, H1, inv1, rel, q⟩
  exact ⟨inv1.kIn, goR F hr hx inv1 rel q⟩
theorem callR0 (F : FnR X.prog X.w X.K X.mg X.base CX k f sp) (hr : Room k X.A) (hg : Gl X x) (hm : X.mg x = some (.ref f)) (hk : PySem.W.keepIn X.K (.ref f) = true) (hx : Passes CX X E)
    (hdb : (x == ("__debug__" : Str)) = false := by decide) : PE X (.Call (.Name x p) [] [] pos) (fun _ H Q => sp [] H Q E) := by
  constructor
  intro pins s sl H Q inv want
  refine wpAny_Call_Name_kw (ld_glob inv hg hm ?_ hdb)
  exact PySem.W.callWith_K0 inv.kIn hk (goR (us := []) F hr hx inv .nil want)
end
/-! calls by name -/
def gOO {α : Type} (_ ws : List α) : List α := match ws with
  | [b, t] => [t, b]
  | _ => []
def gO1 {α : Type} (us ws : List α) : List α := match us, ws with
  | [x], [b] => [x, b]
  | _, _ => []
/-- how two arguments one, other come by name -/
structure TwoCalls (K : PySem.W.Frag) (fd : FuncData) : Prop where
  oo : KBn K fd ["one", "other"] 0 ["other", "one"] (fun us ws => gOO us ws) (fun vs zs => gOO vs zs)
  o1 : KBn K fd ["one", "other"] 1 ["other"] (fun us ws => gO1 us ws) (fun vs zs => gO1 vs zs)
theorem rel_OO {vs zs : List V} {us ws : List Value} (_ : Vals vs us) (r : Vals zs ws) : Vals (gOO vs zs) (gOO us ws) := by
  cases r with
  | nil => exact .nil
  | cons a r => cases r with
    | nil => exact .nil
    | cons b r => cases r with
      | nil => exact .cons b (.cons a .nil)
      | cons _ _ => exact .nil
theorem rel_O1 {vs zs : List V} {us ws : List Value} (r0 : Vals vs us) (r : Vals zs ws) : Vals (gO1 vs zs) (gO1 us ws) := by
  cases r0 with
  | nil => exact .nil
  | cons x r0 => cases r0 with
    | cons _ _ => exact .nil
    | nil => cases r with
      | nil => exact .nil
      | cons a r => cases r with
        | nil => exact .cons x (.cons a .nil)
        | cons _ _ => exact .nil
theorem two_calls_quot {K : PySem.W.Frag} {f : Addr} {fd : FuncData} (F : Fun K "quotient" "quotient" s_quotient f fd) : TwoCalls K fd :=
  ⟨bindN F 0 ["other", "one"] gOO rel_OO (fun _ _ _ _ _ _ us ws h1 h2 => match us, ws, h1, h2 with | [], [_, _], _, _ => rfl),
   bindN F 1 ["other"] gO1 rel_O1 (fun _ _ _ _ _ _ us ws h1 h2 => match us, ws, h1, h2 with | [_], [_], _, _ => rfl)⟩
theorem two_calls_comp {K : PySem.W.Frag} {f : Addr} {fd : FuncData} (F : Fun K "compare" "compare" s_compare f fd) : TwoCalls K fd :=
  ⟨bindN F 0 ["other", "one"] gOO rel_OO (fun _ _ _ _ _ _ us ws h1 h2 => match us, ws, h1, h2 with | [], [_, _], _, _ => rfl),
   bindN F 1 ["other"] gO1 rel_O1 (fun _ _ _ _ _ _ us ws h1 h2 => match us, ws, h1, h2 with | [_], [_], _, _ => rfl)⟩
def gBT {α : Type} (_ _ ws : List α) : List α := match ws with
  | [b, t] => [t, b]
  | _ => []
def gT {α : Type} (_ its ws : List α) : List α := match its, ws with
  | [d], [t] => [t, d]
  | _, _ => []
def gB {α : Type} (us _ ws : List α) : List α := match us, ws with
  | [x], [b] => [x, b]
  | _, _ => []
structure FracCalls (K : PySem.W.Frag) (fd : FuncData) : Prop where
  b2 : ∃ ds, Vals [] ds ∧ Binds K fd ["top", "bottom"] ds
  b1 : ∃ ds, Vals [.int 1] ds ∧ Binds K fd ["top", "bottom"] ds
  kbt : ∃ its : List Value, KBn K fd ["top", "bottom"] 0 ["bottom", "top"] (fun us ws => gBT us its ws) (fun vs zs => gBT vs [.int 1] zs)
  kt : ∃ its : List Value, KBn K fd ["top", "bottom"] 0 ["top"] (fun us ws => gT us its ws) (fun vs zs => gT vs [.int 1] zs)
  kb : ∃ its : List Value, KBn K fd ["top", "bottom"] 1 ["bottom"] (fun us ws => gB us its ws) (fun vs zs => gB vs [.int 1] zs)
theorem frac_calls {K : PySem.W.Frag} {f : Addr} {fd : FuncData} (F : FunD K "fraction" "fraction" (defArgs s_fraction) (defBody s_fraction) (defScope s_fraction) [.int 1] [] f fd) : FracCalls K fd := by
  refine ⟨?_, ?_, ?_, ?_, ?_⟩
  · exact F.binds1 2 1 (by simp) rfl fun T kV doc pm an cdv ct us its h1 h2 => match us, its, h1, h2 with
      | [x, y], [z], _, _ => ⟨_, rfl, rfl⟩
  · exact F.binds1 1 0 (by simp) rfl fun T kV doc pm an cdv ct us its h1 h2 => match us, its, h1, h2 with
      | [x], [z], _, _ => ⟨_, rfl, rfl⟩
  · refine bindD F 0 ["bottom", "top"] gBT (by simp) (fun r1 r2 r3 => ?_) fun T kV doc pm an cdv ct us its ws h1 h2 h3 => match us, its, ws, h1, h2, h3 with
      | [], [d], [b, t], _, _, _ => ⟨_, rfl, rfl⟩
    cases r3 with
    | nil => exact .nil
    | cons a r => cases r with
      | nil => exact .nil
      | cons b r => cases r with
        | nil => exact .cons b (.cons a .nil)
        | cons _ _ => exact .nil
  · refine bindD F 0 ["top"] gT (by simp) (fun r1 r2 r3 => ?_) fun T kV doc pm an cdv ct us its ws h1 h2 h3 => match us, its, ws, h1, h2, h3 with
      | [], [d], [t], _, _, _ => ⟨_, rfl, rfl⟩
    cases r2 with
    | nil => exact .nil
    | cons d r => cases r with
      | cons _ _ => exact .nil
      | nil => cases r3 with
        | nil => exact .nil
        | cons a r => cases r with
          | nil => exact .cons a (.cons d .nil)
          | cons _ _ => exact .nil
  · refine bindD F 1 ["bottom"] gB (by simp) (fun r1 r2 r3 => ?_) fun T kV doc pm an cdv ct us its ws h1 h2 h3 => match us, its, ws, h1, h2, h3 with
      | [x], [d], [b], _, _, _ => ⟨_, rfl, rfl⟩
    cases r1 with
    | nil => exact .nil
    | cons d r => cases r with
      | cons _ _ => exact .nil
      | nil => cases r3 with
        | nil => exact .nil
        | cons a r => cases r with
          | nil => exact .cons d (.cons a .nil)
          | cons _ _ => exact .nil
def gK1 {α : Type} (_ ws : List α) : List α := match ws with
  | [b] => [b]
  | _ => []
theorem rel_K1 {vs zs : List V} {us ws : List Value} (_ : Vals vs us) (r : Vals zs ws) : Vals (gK1 vs zs) (gK1 us ws) := by
  cases r with
  | nil => exact .nil
  | cons a r => cases r with
    | nil => exact .cons a .nil
    | cons _ _ => exact .nil
theorem fmt_call {K : PySem.W.Frag} {f : Addr} {fd : FuncData} (F : Fun K "format_fraction" "format_fraction" s_format_fraction f fd) : KBn K fd ["number"] 0 ["number"] (fun us ws => gK1 us ws) (fun vs zs => gK1 vs zs) :=
  bindN F 0 ["number"] gK1 rel_K1 (fun _ _ _ _ _ _ us ws h1 h2 => match us, ws, h1, h2 with | [], [_], _, _ => rfl)
theorem parse_call {K : PySem.W.Frag} {f : Addr} {fd : FuncData} (F : Fun K "parse_fraction" "parse_fraction" s_parse_fraction f fd) : KBn K fd ["text"] 0 ["text"] (fun us ws => gK1 us ws) (fun vs zs => gK1 vs zs) :=
  bindN F 0 ["text"] gK1 rel_K1 (fun _ _ _ _ _ _ us ws h1 h2 => match us, ws, h1, h2 with | [], [_], _, _ => rfl)
/-! ### k06_asked.lean -/
section
variable {P : Program} {w : World} {K : PySem.W.Frag} {mg : Str → Option Value} {base : Heap} {f : Addr} {fd : FuncData}
theorem okGX {x qual : Str} {st : Stmt} {N ps : List Str} {k : Nat} {sp : Sp} (F : Fun K x qual st f fd) (S : FnScope N ps (defScope st)) (len : ∀ vs H Q E, sp vs H Q E → vs.length = ps.length)
    (walk : ∀ (cdv : Value) (A : Around) (out : List Env) (s : Shared) (H : Hp) (vs : List V) (Q : VK) (E : XK), A.guards = some [] → Room k (A.deeper (envOfC qual (defScope st) s.heap.objs.size f cdv)) → sp vs H Q E →
      ∃ t, PSs (cxOf (L2N.CX P w) P w K mg base N qual (defScope st) f cdv A out s H E) (defBody st) t ∧ t { nx := fun _ H' => Q .non H', rt := Q } (start N vs) H) :
    FnG P w K mg base (L2N.CX P w) (k + 1) f fd ps sp := by
  obtain ⟨_, _, _, _, _, _, cdv, _, _, e, lk, code⟩ := F.ex
  subst e
  exact okG0 lk code S len fun A out s H vs Q E g r want => walk cdv A out s H vs Q E g r want
/-- three things that are asked about -/
structure Three (K : PySem.W.Frag) (H : Hp) (x y z : V) (bx by' bz : Bool) (o : Option (Int × Int)) : Prop where
  tx : Th K H x
  ty : Th K H y
  tz : Th K H z
  ix : IsB K H x bx
  iy : IsB K H y by'
  iz : IsB K H z bz
  wx : Wr K H x o
theorem Three.same {H H' : Hp} {x y z : V} {bx by' bz : Bool} {o : Option (Int × Int)} (h : Three K H x y z bx by' bz o) (s : Same H H') : Three K H' x y z bx by' bz o :=
  ⟨h.tx.same s, h.ty.same s, h.tz.same s, h.ix.same s, h.iy.same s, h.iz.same s, h.wx.same s⟩
/-- the value that is refused -/
def res (door : Int) (x y z : V) (bx by' bz : Bool) (o : Option (Int × Int)) : Option V :=
  if door = 0 then bad [(x, isPos x), (y, isPos y)] else if door = 1 then bad [(x, bx), (y, by')] else if door = 2 then bad [(x, bx), (y, by')] else if door = 3 then bad [(x, bx), (y, by'), (z, bz)] else if door = 4 then bad [(x, bx)] else if o.isSome = true then none else some x
theorem bad_again {x y z : V} {bx by' bz : Bool} : bad [(x, bx), (y, by'), (z, bz), (x, bx)] = bad [(x, bx), (y, by'), (z, bz)] := by cases bx <;> cases by' <;> cases bz <;> rfl
theorem scAsked : FnScope ["_law_door", "_law_things", "_law_by_name", "_law_lead", "_law_more"] ["_law_door", "_law_things", "_law_by_name"] (defScope s_l_asked) := ⟨rfl, rfl, rfl, by decide +kernel, rfl, by decide +kernel, by decide +kernel⟩
def spAsked (K : PySem.W.Frag) (CF CT : Addr) : Sp := fun vs H Q E => ∃ (door : Int) (L : Addr) (nm : Bool) (x y z : V) (bx by' bz : Bool) (o : Option (Int × Int)), vs = [.int door, .ref L, .bl nm] ∧ SqL K H L [x, y, z] ∧ Three K H x y z bx by' bz o ∧
  Out (if door = 0 then CF else if door = 1 then CF else if door = 2 then CF else if door = 3 then CF else if door = 4 then CF else CT) (res door x y z bx by' bz o) H (fun H' => ∀ v H2, Same H' H2 → Q v H2) E
theorem ok_asked {CF CT gF gQ gC gP gM gT : Addr} {fdF fdQ fdC fdM fdT : FuncData} (F : Fun K "_law_asked" "_law_asked" s_l_asked f fd)
    (GF : FnG P w K mg base (L2N.CX P w) 4 gF fdF ["top", "bottom"] (spFracX K CF)) (BF : FracCalls K fdF) (kF : PySem.W.keepIn K (.ref gF) = true) (mF : mg "fraction" = some (.ref gF))
    (GQ : FnG P w K mg base (L2N.CX P w) 5 gQ fdQ ["one", "other"] (spTwoX K CF)) (bQ : Binds K fdQ ["one", "other"] []) (BQ : TwoCalls K fdQ) (kQ : PySem.W.keepIn K (.ref gQ) = true) (mQ : mg "quotient" = some (.ref gQ))
    (GC : FnG P w K mg base (L2N.CX P w) 5 gC fdC ["one", "other"] (spTwoX K CF)) (bC : Binds K fdC ["one", "other"] []) (BC : TwoCalls K fdC) (kC : PySem.W.keepIn K (.ref gC) = true) (mC : mg "compare" = some (.ref gC))
    (GP : FnR P w K mg base (L2N.CX P w) 5 gP (spProdX K CF)) (kP : PySem.W.keepIn K (.ref gP) = true) (mP : mg "product" = some (.ref gP))
    (GM : FnG P w K mg base (L2N.CX P w) 5 gM fdM ["number"] (spFmtX K CF)) (bM : Binds K fdM ["number"] []) (BM : KBn K fdM ["number"] 0 ["number"] (fun us ws => gK1 us ws) (fun vs zs => gK1 vs zs)) (kM : PySem.W.keepIn K (.ref gM) = true) (mM : mg "format_fraction" = some (.ref gM))
    (GT : FnG P w K mg base (L2N.CX P w) 7 gT fdT ["text"] (spParseX K CT)) (bT : Binds K fdT ["text"] []) (BT : KBn K fdT ["text"] 0 ["text"] (fun us ws => gK1 us ws) (fun vs zs => gK1 vs zs)) (kT : PySem.W.keepIn K (.ref gT) = true) (mT : mg "parse_fraction" = some (.ref gT)) :
    FnG P w K mg base (L2N.CX P w) 8 f fd ["_law_door", "_law_things", "_law_by_name"] (spAsked K CF CT) := by
  refine okGX F scAsked (fun vs H Q E h => ?_) (fun cdv A outer s H vs Q E hg hr h => ?_)
  · obtain ⟨door, L, nm, x, y, z, bx, by', bz, o, rfl, _⟩ := h
    rfl
  obtain ⟨door, L, nm, x, y, z, bx, by', bz, o, rfl, hL, th, out⟩ := h
  have r3 : Room 4 _ := hr.mono (by decide)
  have r4 : Room 5 _ := hr.mono (by decide)
  have px : ∀ {X : Cx}, L2N.Takes X (fun cls d _ H => E cls d H) → Passes (L2N.CX X.prog X.w) X E := fun tk => passL2N tk
  obtain ⟨d2, vd2, bF⟩ := BF.b2
  obtain ⟨its, kbt⟩ := BF.kbt
  refine ⟨_, pss_cons (ps_par (i := 3) (j := 4) (by rfl) scAsked.nd rfl rfl (by decide) rfl rfl (pa_cons (pe_ix ix_list (pv 1) pe_int (fun _ _ => rfl)) (pa_cons (pe_ix ix_list (pv 1) pe_int (fun _ _ => rfl)) pa_nil)) (by rfl))
    (pss_cons (ps_if (pt_cmpR op_eq (pv 0) pe_int (nomark _)) (pss_one (ps_ret (pe_ifExp (pt_val (pv 2))
        (callGK GF hg r3 rfl mF kF kbt (passL2N (L2N.takes_of rfl rfl rfl rfl)) (pk_cons (pv 4) (pk_cons (pv 3) pk_nil)))
        (callG GF hg r3 rfl mF kF bF vd2 (passL2N (L2N.takes_of rfl rfl rfl rfl)) (pa_cons (pv 3) (pa_cons (pv 4) pa_nil)))))) pss_nil)
    (pss_cons (ps_if (pt_cmpR op_eq (pv 0) pe_int (nomark _)) (pss_one (ps_ret (pe_ifExp (pt_val (pv 2))
        (callGK GQ hg r4 rfl mQ kQ BQ.oo (passL2N (L2N.takes_of rfl rfl rfl rfl)) (pk_cons (pv 4) (pk_cons (pv 3) pk_nil)))
        (callG GQ hg r4 rfl mQ kQ bQ .nil (passL2N (L2N.takes_of rfl rfl rfl rfl)) (pa_cons (pv 3) (pa_cons (pv 4) pa_nil)))))) pss_nil)
    (pss_cons (ps_if (pt_cmpR op_eq (pv 0) pe_int (nomark _)) (pss_one (ps_ret (pe_ifExp (pt_val (pv 2))
        (callGK GC hg r4 rfl mC kC BC.oo (passL2N (L2N.takes_of rfl rfl rfl rfl)) (pk_cons (pv 4) (pk_cons (pv 3) pk_nil)))
        (callG GC hg r4 rfl mC kC bC .nil (passL2N (L2N.takes_of rfl rfl rfl rfl)) (pa_cons (pv 3) (pa_cons (pv 4) pa_nil)))))) pss_nil)
    (pss_cons (ps_if (pt_cmpR op_eq (pv 0) pe_int (nomark _)) (pss_one (ps_ret (pe_ifExp (pt_val (pv 2))
        (callR GP r4 rfl mP kP (passL2N (L2N.takes_of rfl rfl rfl rfl)) (pa_cons (pv 3) (pa_cons (pv 4) (pa_cons (pe_ix ix_list (pv 1) pe_int (fun _ _ => rfl)) pa_nil))))
        (callR GP r4 rfl mP kP (passL2N (L2N.takes_of rfl rfl rfl rfl)) (pa_cons (pv 3) (pa_cons (pv 4) (pa_cons (pe_ix ix_list (pv 1) pe_int (fun _ _ => rfl)) (pa_cons (pv 3) pa_nil)))))))) pss_nil)
    (pss_cons (ps_if (pt_cmpR op_eq (pv 0) pe_int (nomark _)) (pss_one (ps_ret (pe_ifExp (pt_val (pv 2))
        (callGK GM hg r4 rfl mM kM BM (passL2N (L2N.takes_of rfl rfl rfl rfl)) (pk_cons (pv 3) pk_nil))
        (callG GM hg r4 rfl mM kM bM .nil (passL2N (L2N.takes_of rfl rfl rfl rfl)) (pa_cons (pv 3) pa_nil))))) pss_nil)
    (pss_one (ps_ret (pe_ifExp (pt_val (pv 2))
        (callGK GT hg hr rfl mT kT BT (passL2N (L2N.takes_of rfl rfl rfl rfl)) (pk_cons (pv 3) pk_nil))
        (callG GT hg hr rfl mT kT bT .nil (passL2N (L2N.takes_of rfl rfl rfl rfl)) (pa_cons (pv 3) pa_nil)))))))))), ?_⟩
  have a0 : atI [x, y, z] (0 : Int) = some x := rfl
  have a1 : atI [x, y, z] (1 : Int) = some y := rfl
  have a2 : atI [x, y, z] (2 : Int) = some z := rfl
  refine ⟨_, rfl, L, _, _, _, rfl, rfl, hL, a0, _, rfl, L, _, _, _, rfl, rfl, hL, a1, _, _, rfl, ?_⟩
  -- one door
  refine ⟨_, rfl, rfl, _, rfl, ite2 (fun c => ?_) (fun c => ?_)⟩
  · have e := V.int.inj (of_decide_eq_true c)
    subst e
    refine ⟨_, rfl, _, rfl, ?_⟩
    have o1 : Out CF (bad [(x, isPos x), (y, isPos y)]) H (fun H' => ∀ v H2, Same H' H2 → Q v H2) E := out
    cases nm with
    | true => exact iteT ⟨_, rfl, _, rfl, rfl, rfl, x, y, rfl, th.tx.any, th.ty.any, th.tx.fit, th.ty.fit, o1⟩
    | false =>
      cases vd2
      exact iteF ⟨_, rfl, _, rfl, x, y, rfl, th.tx.any, th.ty.any, th.tx.fit, th.ty.fit, o1⟩
  have n0 : ¬ door = 0 := fun e => by rw [e] at c; exact c (decide_eq_true rfl)
  refine ⟨_, rfl, rfl, _, rfl, ite2 (fun c1 => ?_) (fun c1 => ?_)⟩
  · have e := V.int.inj (of_decide_eq_true c1)
    subst e
    refine ⟨_, rfl, _, rfl, ?_⟩
    have o1 : Out CF (bad [(x, bx), (y, by')]) H (fun H' => ∀ v H2, Same H' H2 → Q v H2) E := out
    cases nm with
    | true => exact iteT ⟨_, rfl, _, rfl, rfl, rfl, x, y, bx, by', rfl, th.ix, th.iy, o1⟩
    | false => exact iteF ⟨_, rfl, _, rfl, x, y, bx, by', rfl, th.ix, th.iy, o1⟩
  have n1 : ¬ door = 1 := fun e => by rw [e] at c1; exact c1 (decide_eq_true rfl)
  refine ⟨_, rfl, rfl, _, rfl, ite2 (fun c2 => ?_) (fun c2 => ?_)⟩
  · have e := V.int.inj (of_decide_eq_true c2)
    subst e
    refine ⟨_, rfl, _, rfl, ?_⟩
    have o1 : Out CF (bad [(x, bx), (y, by')]) H (fun H' => ∀ v H2, Same H' H2 → Q v H2) E := out
    cases nm with
    | true => exact iteT ⟨_, rfl, _, rfl, rfl, rfl, x, y, bx, by', rfl, th.ix, th.iy, o1⟩
    | false => exact iteF ⟨_, rfl, _, rfl, x, y, bx, by', rfl, th.ix, th.iy, o1⟩
  have n2 : ¬ door = 2 := fun e => by rw [e] at c2; exact c2 (decide_eq_true rfl)
  refine ⟨_, rfl, rfl, _, rfl, ite2 (fun c3 => ?_) (fun c3 => ?_)⟩
  · have e := V.int.inj (of_decide_eq_true c3)
    subst e
    refine ⟨_, rfl, _, rfl, ?_⟩
    have o1 : Out CF (bad [(x, bx), (y, by'), (z, bz)]) H (fun H' => ∀ v H2, Same H' H2 → Q v H2) E := out
    cases nm with
    | true =>
      refine iteT ⟨_, rfl, _, rfl, _, rfl, L, _, _, _, rfl, rfl, hL, a2, [(x, bx), (y, by'), (z, bz)], rfl, by show (3 : Nat) ≤ 4; decide, ?_, o1⟩
      intro q hq
      rcases List.mem_cons.mp hq with e | hq
      · rw [e]; exact th.ix
      rcases List.mem_cons.mp hq with e | hq
      · rw [e]; exact th.iy
      rw [List.mem_singleton.mp hq]; exact th.iz
    | false =>
      rw [← bad_again] at o1
      refine iteF ⟨_, rfl, _, rfl, _, rfl, L, _, _, _, rfl, rfl, hL, a2, _, rfl, [(x, bx), (y, by'), (z, bz), (x, bx)], rfl, by show (4 : Nat) ≤ 4; decide, ?_, o1⟩
      intro q hq
      rcases List.mem_cons.mp hq with e | hq
      · rw [e]; exact th.ix
      rcases List.mem_cons.mp hq with e | hq
      · rw [e]; exact th.iy
      rcases List.mem_cons.mp hq with e | hq
      · rw [e]; exact th.iz
      rw [List.mem_singleton.mp hq]; exact th.ix
  have n3 : ¬ door = 3 := fun e => by rw [e] at c3; exact c3 (decide_eq_true rfl)
  refine ⟨_, rfl, rfl, _, rfl, ite2 (fun c4 => ?_) (fun c4 => ?_)⟩
  · have e := V.int.inj (of_decide_eq_true c4)
    subst e
    refine ⟨_, rfl, _, rfl, ?_⟩
    have o1 : Out CF (bad [(x, bx)]) H (fun H' => ∀ v H2, Same H' H2 → Q v H2) E := out
    have o2 : Out CF (bad [(x, bx)]) H (fun H' => ∀ p a b', x = .ref p → FrAt 200 H' p a b' → ∀ H2, Same H' H2 → Q (.str (fmtS a b')) H2) E := by
      revert o1
      cases bad [(x, bx)] with
      | none => exact fun o1 H' s p a b' _ _ H2 s2 => o1 H' s _ H2 s2
      | some v => exact id
    cases nm with
    | true => exact iteT ⟨_, rfl, rfl, rfl, x, bx, rfl, th.ix, o2⟩
    | false => exact iteF ⟨_, rfl, x, bx, rfl, th.ix, o2⟩
  have n4 : ¬ door = 4 := fun e => by rw [e] at c4; exact c4 (decide_eq_true rfl)
  simp only [res, if_neg n0, if_neg n1, if_neg n2, if_neg n3, if_neg n4] at out
  refine ⟨_, rfl, _, rfl, ?_⟩
  cases nm with
  | true => exact iteT ⟨_, rfl, rfl, rfl, x, o, rfl, th.wx, out⟩
  | false => exact iteF ⟨_, rfl, x, o, rfl, th.wx, out⟩
end
/-! ### k06_due.lean -/
section
variable {X : Cx} {a b c : Expr} {pos : Pos} {tA tB tC' : TT}
def tIfT (t ta tb : TT) : TT := fun σ H Q => t σ H fun c H1 => if c = true then ta σ H1 Q else tb σ H1 Q
/-- not (a if t else b): the parts are asked as tests -/
theorem pt_ifExp (hc : PT X c tC') (ha : PT X a tA) (hb : PT X b tB) : PT X (.IfExp c a b pos) (tIfT tC' tA tB) := by
  refine ⟨fun pins s σ H Q I h => ?_⟩
  refine isTrue_IfExp (thn (hc.run pins s σ H _ I h) fun d s1 ⟨H1, I1, q1⟩ => ?_)
  cases d with
  | true => exact ha.run pins s1 σ H1 Q I1 q1
  | false => exact hb.run pins s1 σ H1 Q I1 q1
end
section
variable {P : Program} {w : World} {K : PySem.W.Frag} {mg : Str → Option Value} {base : Heap} {f : Addr} {fd : FuncData}
/-- what is asked first, and whether it is good -/
def prs (door : Int) (x y z : V) (bx by' bz : Bool) : List (V × Bool) :=
  if door = 0 then [(x, isPos x), (y, isPos y)] else if door = 3 then [(x, bx), (y, by'), (z, bz)] else if door = 4 then [(x, bx)] else [(x, bx), (y, by')]
theorem res_prs {door : Int} {x y z : V} {bx by' bz : Bool} {o : Option (Int × Int)} (h0 : 0 ≤ door) (h5 : door ≤ 5) (n5 : ¬ door = 5) : res door x y z bx by' bz o = bad (prs door x y z bx by' bz) := by
  have : door = 0 ∨ door = 1 ∨ door = 2 ∨ door = 3 ∨ door = 4 := by omega
  rcases this with rfl | rfl | rfl | rfl | rfl <;> rfl
def cnt (door : Int) : Int := if door = 3 then 3 else if door = 4 then 1 else 2
theorem cnt_at {door : Int} (h0 : 0 ≤ door) (h5 : door ≤ 5) (n5 : ¬ door = 5) : atI [V.int 2, V.int 2, V.int 2, V.int 3, V.int 1] door = some (.int (cnt door)) := by
  have : door = 0 ∨ door = 1 ∨ door = 2 ∨ door = 3 ∨ door = 4 := by omega
  rcases this with rfl | rfl | rfl | rfl | rfl <;> rfl
theorem cnt_cut {door : Int} {x y z : V} {bx by' bz : Bool} (h0 : 0 ≤ door) (h5 : door ≤ 5) (n5 : ¬ door = 5) : cutV [x, y, z] none (some (cnt door)) = (prs door x y z bx by' bz).map Prod.fst := by
  have : door = 0 ∨ door = 1 ∨ door = 2 ∨ door = 3 ∨ door = 4 := by omega
  rcases this with rfl | rfl | rfl | rfl | rfl <;> rfl
/-- an item with its flag -/
def Flag (K : PySem.W.Frag) (H : Hp) (door : Int) (q : V × Bool) : Prop := (door = 0 → Any K H q.1 ∧ q.2 = isPos q.1) ∧ (¬ door = 0 → IsB K H q.1 q.2)
theorem Flag.same {H H' : Hp} {door : Int} {q : V × Bool} (h : Flag K H door q) (s : Same H H') : Flag K H' door q := ⟨fun e => ⟨(h.1 e).1.same s, (h.1 e).2⟩, fun n => (h.2 n).same s⟩
theorem Three.flags {H : Hp} {door : Int} {x y z : V} {bx by' bz : Bool} {o : Option (Int × Int)} (t : Three K H x y z bx by' bz o) : ∀ q ∈ prs door x y z bx by' bz, Flag K H door q := by
  intro q hq
  unfold prs at hq
  split at hq
  · rename_i e
    refine ⟨fun _ => ?_, fun n => absurd e n⟩
    rcases List.mem_cons.mp hq with r | hq
    · rw [r]; exact ⟨t.tx.any, rfl⟩
    rw [List.mem_singleton.mp hq]; exact ⟨t.ty.any, rfl⟩
  · rename_i n
    refine ⟨fun e => absurd e n, fun _ => ?_⟩
    split at hq
    · rcases List.mem_cons.mp hq with r | hq
      · rw [r]; exact t.ix
      rcases List.mem_cons.mp hq with r | hq
      · rw [r]; exact t.iy
      rw [List.mem_singleton.mp hq]; exact t.iz
    split at hq
    · rw [List.mem_singleton.mp hq]; exact t.ix
    · rcases List.mem_cons.mp hq with r | hq
      · rw [r]; exact t.ix
      rw [List.mem_singleton.mp hq]; exact t.iy
theorem bad_first : ∀ {ps : List (V × Bool)} {i : Nat} {v : V}, ps[i]? = some (v, false) → (∀ j q, j < i → ps[j]? = some q → q.2 = true) → bad ps = some v
  | [], i, v, h, _ => by simp at h
  | (u, b) :: ps, 0, v, h, _ => by
    cases Option.some.inj h
    rfl
  | (u, b) :: ps, i + 1, v, h, all => by
    have e : b = true := all 0 (u, b) (by omega) rfl
    subst e
    have := bad_first (ps := ps) (i := i) h fun j q hj e => all (j + 1) q (by omega) e
    unfold bad at this ⊢
    rw [List.find?_cons_of_neg (by simp)]
    exact this
theorem bad_every : ∀ {ps : List (V × Bool)}, (∀ (j : Nat) (q : V × Bool), ps[j]? = some q → q.2 = true) → bad ps = none
  | [], _ => rfl
  | (u, b) :: ps, all => by
    have e : b = true := all 0 (u, b) rfl
    subst e
    have := bad_every (ps := ps) fun j q e => all (j + 1) q e
    unfold bad at this ⊢
    rw [List.find?_cons_of_neg (by simp)]
    exact this
def dueL (door : Int) (o : Option V) (d : PyData) : List V := match o with
  | none => [.str (Str.ofString "none"), .str (Str.ofString "")]
  | some _ => [.int (if door = 5 then 8 else 0), .str d.shown]
theorem scDue : FnScope ["_law_door", "_law_things", "_law_fine", "_law_thing_here"] ["_law_door", "_law_things"] (defScope s_l_due) := ⟨rfl, rfl, rfl, by decide +kernel, rfl, by decide +kernel, by decide +kernel⟩
def spDue (K : PySem.W.Frag) : Sp := fun vs H Q _ => ∃ (door : Int) (L : Addr) (x y z : V) (bx by' bz : Bool) (o : Option (Int × Int)) (d : PyData), vs = [.int door, .ref L] ∧ SqL K H L [x, y, z] ∧ Three K H x y z bx by' bz o ∧ 0 ≤ door ∧ door ≤ 5 ∧
  (∀ v, res door x y z bx by' bz o = some v → Dq H v d ∧ Sq 6 40000 d) ∧ ∀ D H', Same H H' → H' D = some (.lst (dueL door (res door x y z bx by' bz o) d)) → Q (.ref D) H'
theorem Wr.txt {H : Hp} {v : V} {o : Option (Int × Int)} (h : Wr K H v o) : (NoStr K H v ∧ o.isSome = false) ∨ ∃ u, v = .str u ∧ Tx u o.isSome := by
  cases h with
  | no h => exact .inl ⟨h, rfl⟩
  | empty => exact .inr ⟨_, rfl, .no0⟩
  | twos => exact .inr ⟨_, rfl, .no1⟩
  | good f => exact .inr ⟨_, rfl, .good f⟩
def wFine (K : PySem.W.Frag) : TE := fun sl H Q => ∃ (L : Addr) (x y z : V) (bx by' bz : Bool) (o : Option (Int × Int)), sl[1]? = some (some (.ref L)) ∧ SqL K H L [x, y, z] ∧ Three K H x y z bx by' bz o ∧ ∀ H', Same H H' → Q (.bl o.isSome) H'
theorem ok_due {gW gP gR : Addr} {fdW fdP fdR : FuncData} (F : Fun K "_law_due" "_law_due" s_l_due f fd) (mr : mg "repr" = none) (mi : mg "isinstance" = none) (ms : mg "str" = none) (sys : ∃ o, base.get? sysModules = some o)
    (GW : FnG P w K mg base CX0 2 gW fdW ["_law_thing_here"] (spIsPos K)) (bW : Binds K fdW ["_law_thing_here"] []) (kW : PySem.W.keepIn K (.ref gW) = true) (mW : mg "_law_whole" = some (.ref gW))
    (GP : FnG P w K mg base CX0 3 gP fdP ["_law_thing_here"] (spIsPart K)) (bP : Binds K fdP ["_law_thing_here"] []) (kP : PySem.W.keepIn K (.ref gP) = true) (mP : mg "_law_is_part" = some (.ref gP))
    (GR : FnG P w K mg base CX0 3 gR fdR ["_law_text_here"] spRead) (bR : Binds K fdR ["_law_text_here"] []) (kR : PySem.W.keepIn K (.ref gR) = true) (mR : mg "_law_read" = some (.ref gR)) :
    FnG P w K mg base CX0 4 f fd ["_law_door", "_law_things"] (spDue K) := by
  refine okG F scDue (fun vs H Q E h => ?_) (fun cdv A outer s H vs Q E hg hr h => ?_)
  · obtain ⟨door, L, x, y, z, bx, by', bz, o, d, rfl, _⟩ := h
    rfl
  obtain ⟨door, L, x, y, z, bx, by', bz, o, d, rfl, hL, th, d0, d5, hd, q⟩ := h
  have r1 : Room 2 _ := hr.mono (by decide)
  have r2 : Room 3 _ := hr
  refine ⟨_, pss_cons (ps_if (pt_cmpR op_eq (pv 0) pe_int (nomark _))
      (pss_cons (ps_set (i := 2) scDue.nd rfl (.inl rfl) (pe_weak (t' := wFine K) (pe_and (pe_callB call_isi (by rfl) mi PyProof.Rows.boot_isinstance (pa_cons (pe_ix ix_list (pv 1) pe_int (fun _ _ => rfl)) (pa_cons (pe_bltn (v := .ty "str") (by rfl) ms PyProof.Rows.boot_str rfl) pa_nil)))
          (pe_one (pe_cmpR op_notN (callG GR hg hr rfl mR kR bR .nil pass0 (pa_cons (pe_ix ix_list (pv 1) pe_int (fun _ _ => rfl)) pa_nil)) pe_non (nomark _)))) ?fine))
      (pss_one (ps_ret (pe_ifExp (pt_val (pv 2)) (pe_lst (pa_cons pe_str (pa_cons pe_str pa_nil))) (pe_lst (pa_cons pe_int (pa_cons (pe_callB (reprD sys hg (roomR hr)) (by rfl) mr PyProof.Rows.boot_repr (pa_cons (pe_ix ix_list (pv 1) pe_int (fun _ _ => rfl)) pa_nil)) pa_nil))))))) pss_nil)
    (pss_cons (ps_for PassesOwn.never rfl (pi_list (pe_slice sl_list (pv 1) po_none (po_some (pe_ix ix_list (pe_lst (pa_cons pe_int (pa_cons pe_int (pa_cons pe_int (pa_cons pe_int (pa_cons pe_int pa_nil)))))) (pv 0) (fun _ _ => rfl))))) (pg_name (i := 3) scDue.nd rfl (.inl rfl))
      (pss_one (ps_if (pt_not (pt_ifExp (pt_cmpR op_eq (pv 0) pe_int (nomark _)) (pt_val (callG GW hg r1 rfl mW kW bW .nil pass0 (pa_cons (pv 3) pa_nil))) (pt_val (callG GP hg r2 rfl mP kP bP .nil pass0 (pa_cons (pv 3) pa_nil)))))
        (pss_one (ps_ret (pe_lst (pa_cons pe_int (pa_cons (pe_callB (reprD sys hg (roomR hr)) (by rfl) mr PyProof.Rows.boot_repr (pa_cons (pv 3) pa_nil)) pa_nil))))) pss_nil)))
    (pss_one (ps_ret (pe_lst (pa_cons pe_str (pa_cons pe_str pa_nil)))))), ?_⟩
  case fine =>
    rintro sl H Q ⟨L, x, y, z, bx, by', bz, o, h1, hL, th, q⟩
    refine ⟨_, h1, L, _, _, _, rfl, rfl, hL, (show atI [x, y, z] (0 : Int) = some x from rfl), ?_⟩
    rcases th.wx.txt with ⟨⟨t, ty, e⟩, ob⟩ | ⟨u, rfl, tx⟩
    · rw [ob] at q
      exact ⟨_, _, _, _, false, rfl, .ty "str", ty, e, _, rfl, iteF (q H (Same.refl H))⟩
    · refine ⟨_, _, _, _, true, rfl, .ty "str", .base (.str u), kit_ty (by decide +kernel), _, rfl, iteT ?_⟩
      refine ⟨_, h1, L, _, _, _, rfl, rfl, hL, (show atI [V.str u, y, z] (0 : Int) = some (.str u) from rfl), u, o.isSome, rfl, tx, fun v H1 s1 n1 n2 => ?_⟩
      refine ⟨rfl, ?_⟩
      have e : (!decide (v = V.non)) = o.isSome := by
        cases eb : o.isSome with
        | true => rw [decide_eq_false (n1 eb)]; rfl
        | false => rw [decide_eq_true (n2 eb)]; rfl
      rw [e]
      exact q H1 s1
  refine ⟨_, rfl, rfl, _, rfl, ite2 (fun c => ?_) (fun c => ?_)⟩
  · have e := V.int.inj (of_decide_eq_true c)
    subst e
    refine ⟨L, x, y, z, bx, by', bz, o, rfl, hL, th, fun H1 s1 => ?_⟩
    have e0 : res 5 x y z bx by' bz o = if o.isSome = true then none else some x := rfl
    rw [e0] at q hd
    refine ⟨_, rfl, _, rfl, ?_⟩
    cases eo : o.isSome with
    | true =>
      rw [eo, if_pos rfl] at q
      exact iteT ⟨line_n (by decide), fun D nD => q D _ (s1.trans (same_upd nD)) upd_same⟩
    | false =>
      rw [eo, if_neg (by decide)] at q hd
      obtain ⟨dq, sq⟩ := hd x rfl
      refine iteF ⟨_, rfl, L, _, _, _, rfl, rfl, s1.seq hL, (show atI [x, y, z] (0 : Int) = some x from rfl), rdQ (Dq.same s1 _ _ dq) sq (by decide) (by decide) ?_⟩
      exact ⟨line_n (by show (2 : Nat) ≤ 900; decide), fun D nD => q D _ (s1.trans (same_upd nD)) upd_same⟩
  have n5 : ¬ door = 5 := fun e => by rw [e] at c; exact c (decide_eq_true rfl)
  refine ⟨_, rfl, line_n (by decide), fun M nM => ?_⟩
  have s1 := same_upd (o := .lst [.int 2, .int 2, .int 2, .int 3, .int 1]) nM
  have e1 : upd H M (.lst [.int 2, .int 2, .int 2, .int 3, .int 1]) M = some (.lst [.int 2, .int 2, .int 2, .int 3, .int 1]) := upd_same
  generalize upd H M (.lst [.int 2, .int 2, .int 2, .int 3, .int 1]) = H1 at s1 e1 ⊢
  refine ⟨_, rfl, M, _, _, _, rfl, rfl, SqL.of e1, cnt_at d0 d5 n5, _, rfl, L, _, rfl, s1.seq hL, fun p np => ?_⟩
  rw [cnt_cut (bx := bx) (by' := by') (bz := bz) d0 d5 n5]
  have s2 := same_upd (o := .lst ((prs door x y z bx by' bz).map Prod.fst)) np
  have e2 : upd H1 p (.lst ((prs door x y z bx by' bz).map Prod.fst)) p = some (.lst ((prs door x y z bx by' bz).map Prod.fst)) := upd_same
  generalize upd H1 p (.lst ((prs door x y z bx by' bz).map Prod.fst)) = H2 at s2 e2 ⊢
  have s02 := s1.trans s2
  have fl := th.flags (door := door)
  rw [res_prs d0 d5 n5] at q hd
  refine ⟨p, rfl, ⟨_, SqL.of e2⟩, ?_⟩
  refine for_list (K := K) (a := p) (xs := (prs door x y z bx by' bz).map Prod.fst) (fun i σ H3 => Same H2 H3 ∧ (∃ v, σ = [some (.int door), some (.ref L), none, v]) ∧ ∀ j q, j < i → (prs door x y z bx by' bz)[j]? = some q → q.2 = true) ⟨Same.refl H2, ⟨none, rfl⟩, fun j q h => absurd h (Nat.not_lt_zero j)⟩ (fun i σ H3 _ h => ?_) ?_ ?_
  · exact SqL.of (h.1 _ _ e2)
  · rintro i v σ H3 hi ⟨s3, ⟨v0, rfl⟩, all⟩
    have s02 := s02.trans s3
    rw [List.getElem?_map] at hi
    obtain ⟨⟨v', b⟩, hz, rfl⟩ := Option.map_eq_some_iff.mp hi
    have fq := (fl _ (List.mem_of_getElem? hz)).same s02
    have fin : ∀ H4, Same H3 H4 → b = false → bad (prs door x y z bx by' bz) = some v' ∧ Dq H4 v' d ∧ Sq 6 40000 d := fun H4 s4 eb => by
      subst eb
      have e := bad_first hz all
      obtain ⟨dq, sq⟩ := hd v' e
      exact ⟨e, Dq.same (s02.trans s4) _ _ dq, sq⟩
    have nxt : b = true → ∀ (j : Nat) (q : V × Bool), j < i + 1 → (prs door x y z bx by' bz)[j]? = some q → q.2 = true := fun eb j q hj e => by
      by_cases c2 : j < i
      · exact all j q c2 e
      · rw [show j = i by omega, hz] at e
        rw [← Option.some.inj e]
        exact eb
    have out : ∀ H4, Same H3 H4 → b = false → ∀ D H5, Same H4 H5 → H5 D = some (.lst [.int 0, .str d.shown]) → Q (.ref D) H5 := fun H4 s4 eb D H5 s5 e5 => by
      rw [(fin H4 s4 eb).1] at q
      refine q D H5 (s02.trans (s4.trans s5)) ?_
      rw [e5]
      simp only [dueL, if_neg n5]
    refine ⟨_, rfl, rfl, _, rfl, ite2 (fun c0 => ?_) (fun c0 => ?_)⟩
    · have e0 := V.int.inj (of_decide_eq_true c0)
      obtain ⟨an, eb⟩ := fq.1 e0
      refine ⟨_, rfl, v', rfl, an, _, rfl, ?_⟩
      rw [← eb]
      cases b with
      | true => exact iteF ⟨s3, ⟨_, rfl⟩, nxt rfl⟩
      | false =>
        obtain ⟨_, dq, sq⟩ := fin H3 (Same.refl _) rfl
        exact iteT ⟨_, rfl, rdQ dq sq (by decide) (by decide) ⟨line_n (by show (2 : Nat) ≤ 900; decide), fun D nD => out H3 (Same.refl _) rfl D _ (same_upd nD) upd_same⟩⟩
    · have n0 : ¬ door = 0 := fun e => by rw [e] at c0; exact c0 (decide_eq_true rfl)
      refine ⟨_, rfl, v', b, rfl, fq.2 n0, fun H4 s4 => ⟨_, rfl, ?_⟩⟩
      cases b with
      | true =>
        exact iteF ⟨s3.trans s4, ⟨_, rfl⟩, nxt rfl⟩
      | false =>
        obtain ⟨_, dq, sq⟩ := fin H4 s4 rfl
        exact iteT ⟨_, rfl, rdQ dq sq (by decide) (by decide) ⟨line_n (by show (2 : Nat) ≤ 900; decide), fun D nD => out H4 s4 rfl D _ (same_upd nD) upd_same⟩⟩
  · rintro σ H3 ⟨s3, ⟨v0, rfl⟩, all⟩
    have e := bad_every fun j q h => all j q (by
      rw [List.length_map]
      exact (List.getElem?_eq_some_iff.mp h).1) h
    rw [e] at q
    exact ⟨line_n (by decide), fun D nD => q D _ (s02.trans (s3.trans (same_upd nD))) upd_same⟩
end
/-! ### k06_door.lean -/
/-- what a lambda of the def q is called -/
abbrev lamQ (q : Str) : Str := (q ++ (".<locals>." : Str)) ++ ("<lambda>" : Str)
section
variable {P : Program} {w : World} {K : PySem.W.Frag} {mg : Str → Option Value} {base : Heap} {f : Addr} {fd : FuncData}
/-- a def whose code object is known -/
theorem okGT {k : Nat} {ps : List Str} {sp : Sp} {x qual : Str} {st : Stmt} {N : List Str} {c0 : Addr} (F : Fun K x qual st f fd) (cc : fd.code = .ref c0) (S : FnScope N ps (defScope st)) (len : ∀ vs H Q E, sp vs H Q E → vs.length = ps.length)
    (walk : ∀ (A : Around) (out : List Env) (s : Shared) (H : Hp) (vs : List V) (Q : VK) (E : XK), A.guards = some [] → Room k (A.deeper (envOfC qual (defScope st) s.heap.objs.size f (.ref c0))) → sp vs H Q E →
      ∃ t, PSs (cxOf CX0 P w K mg base N qual (defScope st) f (.ref c0) A out s H E).nox (defBody st) t ∧ t { nx := fun _ H' => Q .non H', rt := Q } (start N vs) H) :
    FnG P w K mg base CX0 (k + 1) f fd ps sp := by
  obtain ⟨_, _, _, _, _, _, cdv, _, _, e, lk, code⟩ := F.ex
  subst e
  have e2 : cdv = .ref c0 := cc
  subst e2
  refine okG0 lk code S len ?_
  intro A out s H vs Q E g r want
  obtain ⟨t, term, read⟩ := walk A out s H vs Q E g r want
  exact ⟨t, term.nox, read⟩
/-- an own error class, as the catching def tells it -/
structure Told (K : PySem.W.Frag) (c : Nat → Addr) (D : Addr) (k : Nat) : Prop where
  is : ErIs K D
  kind : ErKind K c D k
  val : ErVal K c D
theorem told_out {c : Nat → Addr} {CF CT : Addr} {H : Hp} {Q : VK} {door : Int} {x y z : V} {bx by' bz : Bool} {o : Option (Int × Int)} {d : PyData} (TF : Told K c CF 0) (TT : Told K c CT 8) (d0 : 0 ≤ door) (d5 : door ≤ 5)
    (hd : ∀ v, res door x y z bx by' bz o = some v → Dq (noT H) v d ∧ Sq 6 40000 d) (q : ∀ M H', Same H H' → H' M = some (.lst (dueL door (res door x y z bx by' bz o) d)) → Q (.ref M) H') :
    Out (if door = 0 then CF else if door = 1 then CF else if door = 2 then CF else if door = 3 then CF else if door = 4 then CF else CT) (res door x y z bx by' bz o) H (fun H' => ∀ v H2, Same H' H2 → Fine Q v H2) (Got K c RD Q) := by
  have cl : ∃ D k, (if door = 0 then CF else if door = 1 then CF else if door = 2 then CF else if door = 3 then CF else if door = 4 then CF else CT) = D ∧ Told K c D k ∧ ((k : Nat) : Int) = (if door = 5 then 8 else 0) := by
    have : door = 0 ∨ door = 1 ∨ door = 2 ∨ door = 3 ∨ door = 4 ∨ door = 5 := by omega
    rcases this with rfl | rfl | rfl | rfl | rfl | rfl
    · exact ⟨CF, 0, rfl, TF, rfl⟩
    · exact ⟨CF, 0, rfl, TF, rfl⟩
    · exact ⟨CF, 0, rfl, TF, rfl⟩
    · exact ⟨CF, 0, rfl, TF, rfl⟩
    · exact ⟨CF, 0, rfl, TF, rfl⟩
    · exact ⟨CT, 8, rfl, TT, rfl⟩
  obtain ⟨D, k, e, T, ek⟩ := cl
  rw [e]
  generalize res door x y z bx by' bz o = r at hd q ⊢
  cases r with
  | none => exact fun H' s1 v H2 s2 L nL => q L _ (s1.trans (s2.trans (same_upd nL))) upd_same
  | some v =>
    intro H' dd s1 hdd
    obtain ⟨dq, sq⟩ := hd v rfl
    refine ⟨D, dd, k, v, rfl, rfl, T.is, T.kind, T.val, hdd, fun H2 s2 => ?_⟩
    refine rdQ (Dq.same (noT_same.trans (s1.trans s2)) _ _ dq) sq (by decide) (by decide) ⟨_, rfl, fun L nL => q L _ (s1.trans (s2.trans (same_upd nL))) ?_⟩
    rw [upd_same]
    simp only [dueL, ek]
/-- the names of a def that asks a door twice -/
structure Ask (K : PySem.W.Frag) (T : List (Addr × Str)) (H : Hp) (sl : L2.St) (door : Int) (L : Addr) (x y z : V) (bx by' bz : Bool) (o : Option (Int × Int)) (d : PyData) : Prop where
  s0 : sl[0]? = some (some (.int door))
  s1 : sl[1]? = some (some (.ref L))
  d0 : 0 ≤ door
  d5 : door ≤ 5
  hL : noT H L = some (.lst [x, y, z])
  th : Three K (noT H) x y z bx by' bz o
  hd : ∀ v, res door x y z bx by' bz o = some v → Dq (noT H) v d ∧ Sq 6 40000 d
  tabs : LamX.Tabs T H
theorem Ask.ext {T : List (Addr × Str)} {H H' : Hp} {sl sl' : L2.St} {door : Int} {L : Addr} {x y z : V} {bx by' bz : Bool} {o : Option (Int × Int)} {d : PyData} (a : Ask K T H sl door L x y z bx by' bz o d) (e : LamX.ExtN H H') (t : LamX.Tabs T H') (h0 : sl'[0]? = sl[0]?) (h1 : sl'[1]? = sl[1]?) : Ask K T H' sl' door L x y z bx by' bz o d :=
  ⟨h0.trans a.s0, h1.trans a.s1, a.d0, a.d5, noT_ext e _ _ a.hL, a.th.same (noT_ext e), fun v h => let ⟨p, q⟩ := a.hd v h; ⟨Dq.same (noT_ext e) _ _ p, q⟩, t⟩
def wAsk (K : PySem.W.Frag) (T : List (Addr × Str)) : TE := fun sl H Q => ∃ door L x y z bx by' bz o d, Ask K T H sl door L x y z bx by' bz o d ∧
  ∀ M H', LamX.ExtN H H' → LamX.Tabs T H' → noT H' M = some (.lst (dueL door (res door x y z bx by' bz o) d)) → Q (.ref M) H'
theorem scDoor : FnScope ["_law_door", "_law_things", "_law_due_here", "_law_shape", "_law_told"] ["_law_door", "_law_things"] (defScope s_l_door_right) := ⟨rfl, rfl, rfl, by decide +kernel, rfl, by decide +kernel, by decide +kernel⟩
def spDoor (K : PySem.W.Frag) (T : List (Addr × Str)) : Sp := fun vs H Q _ => ∃ (door : Int) (L : Addr) (x y z : V), vs = [.int door, .ref L] ∧ 0 ≤ door ∧ door ≤ 5 ∧ noT H L = some (.lst [x, y, z]) ∧ Th K (noT H) x ∧ Th K (noT H) y ∧ Th K (noT H) z ∧ LamX.Tabs T H ∧
  ∀ H', LamX.ExtN H H' → LamX.Tabs T H' → Q (.bl true) H'
/-- one of the two lambdas -/
theorem pe_ask {X : Cx} {T : List (Addr × Str)} {c : Nat → Addr} {CF CT gU gA fK c0 P0 : Addr} {gdU fdA fdK : FuncData} {b : Bool} {params : Arguments} {scope : Scope} {p lp p1 p2 p3 p4 p5 pos : Pos} {j : Nat}
    (TF : Told X.K c CF 0) (TT : Told X.K c CT 8) (sys : ∃ o, X.base.get? sysModules = some o)
    (FU : Fun X.K "_law_caught" "_law_caught" s_l_caught gU gdU) (hb : Binds X.K gdU ["_law_act"] []) (hk : PySem.W.keepIn X.K (.ref gU) = true) (hm : X.mg "_law_caught" = some (.ref gU)) (hg : Gl X "_law_caught")
    (N : ErNames X.mg c) (FK : FnP X.prog X.w X.K X.mg X.base CX0 1 fK fdK ["_law_e"] (spKind X.K c)) (kb : Binds X.K fdK ["_law_e"] []) (kk : PySem.W.keepIn X.K (.ref fK) = true) (km : X.mg "_law_kind" = some (.ref fK)) (mr : X.mg "repr" = none)
    (GA : FnG X.prog X.w X.K X.mg X.base (L2N.CX X.prog X.w) 8 gA fdA ["_law_door", "_law_things", "_law_by_name"] (spAsked X.K CF CT)) (bA : Binds X.K fdA ["_law_door", "_law_things", "_law_by_name"] []) (kA : PySem.W.keepIn X.K (.ref gA) = true) (mA : X.mg "_law_asked" = some (.ref gA))
    (gds : X.A.guards = some []) (TB : LamX.TabB X.base X.mg c0 P0) (code : X.env.code = .ref c0) (mem : (P0, X.env.qual ++ "<lambda>") ∈ T) (only : ∀ q ∈ T, q.1 = P0 → q.2 = X.env.qual ++ "<lambda>")
    (room : Room 11 X.A) (L : LamX.LamS X.env.scope scope) (dfl : defaultsOf params X.env = ([], []))
    (bind : ∀ (q : Str) (cl : List (Str × Addr)) (pm cv ctv : Value), bindArgs (PySem.W.kla_fn "<lambda>" q params (.Call (.Name "_law_asked" p1) [.Name "_law_door" p2, .Name "_law_things" p3, .Constant (.bool b) j p4] [] p5) scope cl pm cv ctv) ⟨[], []⟩ = pure [])
    (gl : scope.names.lookup (Str.ofString "_law_asked") = some .globalImplicit) (v0 : scope.names.lookup (Str.ofString "_law_door") = some .free) (v1 : scope.names.lookup (Str.ofString "_law_things") = some .free) (n0 : X.N[0]? = some (Str.ofString "_law_door")) (n1 : X.N[1]? = some (Str.ofString "_law_things")) :
    PE X (.Call (.Name "_law_caught" p) [.Lambda params (.Call (.Name "_law_asked" p1) [.Name "_law_door" p2, .Name "_law_things" p3, .Constant (.bool b) j p4] [] p5) scope lp] [] pos) (wAsk X.K T) := by
  refine pe_weak (pe_caught (RR := RD) (k := 8) (j := 0) (T := T) (c := c) (t := fun E => tCall (spAsked X.K CF CT) [] E (tCons (tVar 0) (tCons (tVar 1) (tCons (tC (.bl b)) tNil)))) FU hb hk hm hg N FK kb kk km mr ?rr RD.mono gds TB code mem only room L dfl bind ?walk) ?_
  case rr =>
    intro Y q e1 e2 e3 e4 e5 g r _ _
    exact reprD (by rw [e5]; exact sys) g (by have := r.un; omega)
  case walk =>
    intro A outer s H E f c' g r
    exact callG GA g r gl mA kA bA .nil (passL2N (L2N.takes_of rfl rfl rfl rfl)) (pa_cons (pe_var n0 (.inr (.inr v0))) (pa_cons (pe_var n1 (.inr (.inr v1))) (pa_cons pe_bl pa_nil)))
  rintro sl H Q ⟨door, L, x, y, z, bx, by', bz, o, d, a, q⟩
  refine ⟨a.tabs, fun H1 e1 t1 => ?_⟩
  have a1 := a.ext e1 t1 rfl rfl
  refine ⟨_, a.s0, _, a.s1, door, L, b, x, y, z, bx, by', bz, o, rfl, SqL.of (hid_at a1.hL), a1.th.same noT_same, ?_⟩
  exact told_out TF TT a.d0 a.d5 a1.hd fun M H' s' hM => q M H' (e1.trans (LamX.ExtN.of s')) (t1.ext s') (noT_of hM)
theorem tabs_put {T : List (Addr × Str)} {H : Hp} {M : Addr} {xs ys : List V} (h : H M = some (.lst xs)) (t : LamX.Tabs T H) : LamX.Tabs T (upd H M (.lst ys)) := fun p hp => by
  obtain ⟨ps, h1, h2, h3⟩ := t p hp
  refine ⟨ps, ?_, h2, fun pos cv hc => ?_⟩
  · rw [upd_ne (fun e => by rw [e, h] at h1; cases h1)]
    exact h1
  · obtain ⟨c, e1, e2⟩ := h3 pos cv hc
    refine ⟨c, e1, ?_⟩
    rw [upd_ne (fun e => by rw [e, h] at e2; unfold LamX.CodeO at e2; cases e2)]
    exact e2
theorem ext_put {H H2 : Hp} {M : Addr} {o : HO} (e : LamX.ExtN H H2) (n : ∀ u, H M = some u → ∃ ps, u = .tbl ps) : LamX.ExtN H (upd H2 M o) := fun b u hb nt => by
  rw [upd_ne (fun z => by
    rw [z] at hb
    obtain ⟨ps, e⟩ := n u hb
    exact nt ps e)]
  exact e b u hb nt
theorem due_flat {door : Int} {o : Option V} {d : PyData} {H : Hp} {n : Nat} : Paired (EqV K H (n + 1)) (dueL door o d) (dueL door o d) := by
  cases o with
  | none => exact .cons (.inl ⟨rfl, rfl⟩) (.cons (.inl ⟨rfl, rfl⟩) .nil)
  | some v => exact .cons (.inl ⟨rfl, rfl⟩) (.cons (.inl ⟨rfl, rfl⟩) .nil)
theorem due_one {door : Int} {o : Option V} {d : PyData} {H : Hp} {L D : Addr} {n : Nat} (h1 : H L = some (.lst (dueL door o d))) (h2 : H D = some (.lst (dueL door o d))) : EqV K H (n + 2) (.ref L) (.ref D) :=
  .inr (.inr (.inl ⟨L, D, _, _, rfl, rfl, SqL.of h1, SqL.of h2, due_flat⟩))
theorem Three.d {H : Hp} {door : Int} {x y z : V} {bx by' bz : Bool} {o : Option (Int × Int)} (t : Three K H x y z bx by' bz o) : ∃ d, ∀ v, res door x y z bx by' bz o = some v → Dq H v d ∧ Sq 6 40000 d := by
  have bads : ∀ {ps : List (V × Bool)} {v : V}, bad ps = some v → ∃ q ∈ ps, q.1 = v := fun {ps v} e => by
    unfold bad at e
    obtain ⟨q, h1, h2⟩ := Option.map_eq_some_iff.mp e
    exact ⟨q, List.mem_of_find?_eq_some h1, h2⟩
  cases e : res door x y z bx by' bz o with
  | none => exact ⟨.none, fun v h => by cases h⟩
  | some v =>
    have one : v = x ∨ v = y ∨ v = z := by
      unfold res at e
      split at e
      · obtain ⟨q, m, rfl⟩ := bads e
        rcases List.mem_cons.mp m with r | m
        · exact .inl (by rw [r])
        · exact .inr (.inl (by rw [List.mem_singleton.mp m]))
      split at e
      · obtain ⟨q, m, rfl⟩ := bads e
        rcases List.mem_cons.mp m with r | m
        · exact .inl (by rw [r])
        · exact .inr (.inl (by rw [List.mem_singleton.mp m]))
      split at e
      · obtain ⟨q, m, rfl⟩ := bads e
        rcases List.mem_cons.mp m with r | m
        · exact .inl (by rw [r])
        · exact .inr (.inl (by rw [List.mem_singleton.mp m]))
      split at e
      · obtain ⟨q, m, rfl⟩ := bads e
        rcases List.mem_cons.mp m with r | m
        · exact .inl (by rw [r])
        rcases List.mem_cons.mp m with r | m
        · exact .inr (.inl (by rw [r]))
        · exact .inr (.inr (by rw [List.mem_singleton.mp m]))
      split at e
      · obtain ⟨q, m, rfl⟩ := bads e
        exact .inl (by rw [List.mem_singleton.mp m])
      split at e
      · cases e
      · exact .inl (Option.some.inj e).symm
    have sh : ∃ d, Dq H v d ∧ Sq 6 40000 d := by
      rcases one with rfl | rfl | rfl
      · exact t.tx.sh
      · exact t.ty.sh
      · exact t.tz.sh
    obtain ⟨d, h⟩ := sh
    exact ⟨d, fun v' e' => by rw [← Option.some.inj e']; exact h⟩
theorem ok_door {T : List (Addr × Str)} {c : Nat → Addr} {CF CT gU gA gD fK c0 P0 : Addr} {gdU fdA fdD fdK : FuncData} (F : Fun K "_law_door_right" "_law_door_right" s_l_door_right f fd) (cc : fd.code = .ref c0) (TB : LamX.TabB base mg c0 P0)
    (mem : (P0, lamQ "_law_door_right") ∈ T) (only : ∀ q ∈ T, q.1 = P0 → q.2 = lamQ "_law_door_right") (TF : Told K c CF 0) (TT : Told K c CT 8) (sys : ∃ o, base.get? sysModules = some o) (mr : mg "repr" = none)
    (FU : Fun K "_law_caught" "_law_caught" s_l_caught gU gdU) (bU : Binds K gdU ["_law_act"] []) (kU : PySem.W.keepIn K (.ref gU) = true) (mU : mg "_law_caught" = some (.ref gU))
    (N : ErNames mg c) (FK : FnP P w K mg base CX0 1 fK fdK ["_law_e"] (spKind K c)) (bK : Binds K fdK ["_law_e"] []) (kK : PySem.W.keepIn K (.ref fK) = true) (mK : mg "_law_kind" = some (.ref fK))
    (GA : FnG P w K mg base (L2N.CX P w) 8 gA fdA ["_law_door", "_law_things", "_law_by_name"] (spAsked K CF CT)) (bA : Binds K fdA ["_law_door", "_law_things", "_law_by_name"] []) (kA : PySem.W.keepIn K (.ref gA) = true) (mA : mg "_law_asked" = some (.ref gA))
    (GD : FnG P w K mg base CX0 4 gD fdD ["_law_door", "_law_things"] (spDue K)) (bD : Binds K fdD ["_law_door", "_law_things"] []) (kD : PySem.W.keepIn K (.ref gD) = true) (mD : mg "_law_due" = some (.ref gD)) :
    FnG P w K mg base CX0 12 f fd ["_law_door", "_law_things"] (spDoor K T) := by
  refine okGT F cc scDoor (fun vs H Q E h => ?_) (fun A outer s H vs Q E hg hr h => ?_)
  · obtain ⟨door, L, x, y, z, rfl, _⟩ := h
    rfl
  obtain ⟨door, L, x, y, z, rfl, d0, d5, hL, tx, ty, tz, tabs, q⟩ := h
  have r3 : Room 4 _ := hr.mono (by decide)
  refine ⟨_, pss_cons (ps_par (i := 2) (j := 3) (by rfl) scDoor.nd rfl rfl (by decide) rfl rfl (pa_cons (callG GD hg r3 rfl mD kD bD .nil pass0 (pa_cons (pv 0) (pa_cons (pv 1) pa_nil))) (pa_cons (pe_callB (reprD sys hg (roomR hr)) (by rfl) mr PyProof.Rows.boot_repr (pa_cons (pv 1) pa_nil)) pa_nil)) (by rfl))
    (pss_cons (ps_set (i := 4) scDoor.nd rfl (.inl rfl) (pe_lst (pa_cons (pe_ask TF TT sys FU bU kU mU rfl N FK bK kK mK mr GA bA kA mA hg TB rfl mem only hr (LamX.lamS_by (by show LamX.lamSB (defScope s_l_door_right) _ = true; decide +kernel)) rfl (fun _ _ _ _ _ => rfl) (by decide +kernel) (by decide +kernel) (by decide +kernel) rfl rfl) pa_nil)))
    (pss_cons (ps_expr (pe_bm PySem.F.plainAttrs_list PySem.F.slot_list_append PySem.F.type_list_append mt_append (pv 4) (pa_cons (pe_ask TF TT sys FU bU kU mU rfl N FK bK kK mK mr GA bA kA mA hg TB rfl mem only hr (LamX.lamS_by (by show LamX.lamSB (defScope s_l_door_right) _ = true; decide +kernel)) rfl (fun _ _ _ _ _ => rfl) (by decide +kernel) (by decide +kernel) (by decide +kernel) rfl rfl) pa_nil)))
    (pss_one (ps_ret (pe_and (pe_cmpR (op_eqV hr.units) (pv 4) (pe_op op_rep (pe_lst (pa_cons (pv 2) pa_nil)) pe_int) (nomark _))
      (pe_one (pe_cmpR op_eq (pe_callB (reprD sys hg (roomR hr)) (by rfl) mr PyProof.Rows.boot_repr (pa_cons (pv 1) pa_nil)) (pv 3) (nomark _)))))))), ?_⟩
  have t3 : ∃ bx by' bz o, Three K (noT H) x y z bx by' bz o := by
    obtain ⟨bx, ix⟩ := tx.is
    obtain ⟨by', iy⟩ := ty.is
    obtain ⟨bz, iz⟩ := tz.is
    obtain ⟨o, wx⟩ := tx.wr
    exact ⟨bx, by', bz, o, tx, ty, tz, ix, iy, iz, wx⟩
  obtain ⟨bx, by', bz, o, th⟩ := t3
  obtain ⟨d, hd⟩ := th.d (door := door)
  refine ⟨_, rfl, _, rfl, door, L, x, y, z, bx, by', bz, o, d, rfl, SqL.of (hid_at hL), th.same noT_same, d0, d5, fun v e => let ⟨p, q⟩ := hd v e; ⟨Dq.same noT_same _ _ p, q⟩, fun D H1 s1 hD => ?_⟩
  have tabs1 := tabs.ext s1
  have hL1 := same_noT s1 _ _ hL
  obtain ⟨dx, qx, zx⟩ := tx.sh
  obtain ⟨dy, qy, zy⟩ := ty.sh
  obtain ⟨dz, qz, zz⟩ := tz.sh
  have dl : ∀ H', Same (noT H) H' → Dq H' (.ref L) (.list [dx, dy, dz]) := fun H' s => .lst (s _ _ hL) (.cons (Dq.same s _ _ qx) (.cons (Dq.same s _ _ qy) (.cons (Dq.same s _ _ qz) .nil)))
  have sl : Sq 7 130000 (.list [dx, dy, dz]) := (Sq.lst (SqA.cons zx (SqA.cons zy (SqA.cons zz SqA.nil)))).up (by decide) (by decide)
  refine ⟨_, rfl, rdQ (dl H1 (noT_same.trans s1)) sl (by decide) (by decide) ?_⟩
  refine ⟨_, _, rfl, ?_⟩
  refine ⟨door, L, x, y, z, bx, by', bz, o, d, ⟨rfl, rfl, d0, d5, hL1, th.same (same_noT s1), fun v e => let ⟨p, q⟩ := hd v e; ⟨Dq.same (same_noT s1) _ _ p, q⟩, tabs1⟩, fun L1 H2 e2 t2 h2 => ?_⟩
  refine ⟨line_n (by show (1 : Nat) ≤ 900; decide), fun M nM => ?_⟩
  have s3 := same_upd (o := .lst [.ref L1]) nM
  have e3 : (upd H2 M (.lst [.ref L1])) M = some (.lst [.ref L1]) := upd_same
  generalize upd H2 M (.lst [.ref L1]) = H3 at s3 e3 ⊢
  have t3 := t2.ext s3
  have x3 : LamX.ExtN H H3 := (LamX.ExtN.of s1).trans (e2.trans (LamX.ExtN.of s3))
  have nM0 : ∀ u, H M = some u → ∃ ps, u = .tbl ps := fun u hu => by
    by_cases z : ∃ ps, u = .tbl ps
    · exact z
    · have h5 := ((LamX.ExtN.of s1).trans e2) M u hu fun ps e => z ⟨ps, e⟩
      rw [nM] at h5
      cases h5
  refine ⟨_, rfl, .inl ⟨rfl, _, SqL.of e3⟩, ?_⟩
  refine ⟨door, L, x, y, z, bx, by', bz, o, d, ⟨rfl, rfl, d0, d5, noT_ext x3 _ _ hL, th.same (noT_ext x3), fun v e => let ⟨p, q⟩ := hd v e; ⟨Dq.same (noT_ext x3) _ _ p, q⟩, t3⟩, fun L2 H4 e4 t4 h4 => ?_⟩
  have x4 := x3.trans e4
  have m4 : H4 M = some (.lst [.ref L1]) := e4 _ _ e3 (by intro _ z; cases z)
  refine ⟨M, _, _, rfl, rfl, m4, small1000 (by show (1 : Nat) ≤ 1000; decide), ?_⟩
  have x5 : LamX.ExtN H (upd H4 M (.lst ([.ref L1] ++ [.ref L2]))) := ext_put x4 nM0
  have t5 := tabs_put (ys := [.ref L1] ++ [.ref L2]) m4 t4
  have e5 : (upd H4 M (.lst ([.ref L1] ++ [.ref L2]))) M = some (.lst [.ref L1, .ref L2]) := upd_same
  have g2 := noT_ext (e4) _ _ (same_noT s3 _ _ h2)
  have n1 : L1 ≠ M := fun z => by
    have := hid_at h2
    rw [z, nM] at this
    cases this
  have n2 : L2 ≠ M := fun eM => by
    have h6 := hid_at h4
    rw [eM, m4] at h6
    have h7 := congrArg List.length (HO.lst.inj (Option.some.inj h6))
    have h8 : (dueL door (res door x y z bx by' bz o) d).length = 2 := by unfold dueL; split <;> rfl
    rw [h8] at h7
    cases h7
  have dD2 := e2 _ _ hD (by intro _ z; cases z)
  have n3 : D ≠ M := fun z => by
    rw [z, nM] at dD2
    cases dD2
  have hD4 := (e4 _ _ (s3 _ _ dD2) (by intro _ z; cases z))
  generalize hH : upd H4 M (.lst ([.ref L1] ++ [.ref L2])) = H5 at x5 t5 e5 ⊢
  have at5 : ∀ b o, b ≠ M → H4 b = some o → H5 b = some o := fun b o n e => by rw [← hH, upd_ne n]; exact e
  have l1 := at5 _ _ n1 (hid_at g2)
  have l2 := at5 _ _ n2 (hid_at h4)
  have l3 := at5 _ _ n3 hD4
  refine ⟨_, rfl, _, rfl, line_n (by show (1 : Nat) ≤ 900; decide), fun B nB => ?_⟩
  have s6 := same_upd (o := .lst [.ref D]) nB
  have e6 : (upd H5 B (.lst [.ref D])) B = some (.lst [.ref D]) := upd_same
  generalize upd H5 B (.lst [.ref D]) = H6 at s6 e6 ⊢
  refine ⟨B, 2, _, rfl, rfl, e6, by decide, by decide, line_n (by show (2 : Nat) ≤ 900; decide), fun R nR => ?_⟩
  have s7 := same_upd (o := .lst ([.ref D, .ref D])) nR
  have e7 : (upd H6 R (.lst [.ref D, .ref D])) R = some (.lst [.ref D, .ref D]) := upd_same
  have hR : (List.replicate (Int.toNat 2) [V.ref D]).flatten = [.ref D, .ref D] := rfl
  rw [hR]
  generalize upd H6 R (.lst [.ref D, .ref D]) = H7 at s7 e7 ⊢
  have s67 := s6.trans s7
  have m7 := s67 _ _ e5
  refine ⟨2, by decide, .inl ⟨M, R, _, _, rfl, rfl, SqL.of m7, SqL.of e7, .cons (due_one (s67 _ _ l1) (s67 _ _ l3)) (.cons (due_one (s67 _ _ l2) (s67 _ _ l3)) .nil)⟩, _, rfl, iteT ?_⟩
  have x7 := x5.trans (LamX.ExtN.of s67)
  refine ⟨_, rfl, rdQ (dl H7 ((noT_ext x7).trans noT_same)) sl (by decide) (by decide) ⟨_, rfl, rfl, ?_⟩⟩
  rw [decide_eq_true rfl]
  exact q H7 x7 (t5.ext s67)
end
/-! ### k06_thing.lean -/
section
variable {P : Program} {w : World} {K : PySem.W.Frag} {mg : Str → Option Value} {base : Heap} {f : Addr} {fd : FuncData}
theorem scThing : FnScope ["_law_pool_here", "_law_door", "_law_part_here"] ["_law_pool_here", "_law_door"] (defScope s_l_thing) := ⟨rfl, rfl, rfl, by decide +kernel, rfl, by decide +kernel, by decide +kernel⟩
def spThing (K : PySem.W.Frag) : Sp := fun vs H Q _ => ∃ (p : Addr) (door : Int) (S : Addr → Bool), vs = [.ref p, .int door] ∧ Pool H p ∧ S p = true ∧ Held S H ∧ ∀ v H', Keep p H H' → Pool H' p → Th K (hid S H') v → Q v H'
theorem ok_thing {g1 g2 g3 : Addr} {gd1 gd2 gd3 : FuncData} (F : Fun K "_law_thing" "_law_thing" s_l_thing f fd) (ms : mg "str" = none)
    (G1 : FnOk P w K mg base CX0 3 g1 gd1 ["_law_pool_here", "_law_great"] spPart) (b1 : Binds K gd1 ["_law_pool_here", "_law_great"] []) (k1 : PySem.W.keepIn K (.ref g1) = true) (m1 : mg "_law_part" = some (.ref g1))
    (G2 : FnOk P w K mg base CX0 2 g2 gd2 ["_law_pool_here", "_law_most"] spDraw) (b2 : Binds K gd2 ["_law_pool_here", "_law_most"] []) (k2 : PySem.W.keepIn K (.ref g2) = true) (m2 : mg "_law_draw" = some (.ref g2))
    (G3 : FnOk P w K mg base CX0 4 g3 gd3 ["_law_pool_here"] (spOdd K)) (b3 : Binds K gd3 ["_law_pool_here"] []) (k3 : PySem.W.keepIn K (.ref g3) = true) (m3 : mg "_law_odd" = some (.ref g3)) :
    FnOk P w K mg base CX0 5 f fd ["_law_pool_here", "_law_door"] (spThing K) := by
  refine F.ok scThing (fun vs H Q E h => ?_) (fun cdv A outer s H vs Q E hr h => ?_)
  · obtain ⟨p, door, S, rfl, _⟩ := h
    rfl
  obtain ⟨p, door, S, rfl, hp, sp, held, q⟩ := h
  have r1 : Room 2 _ := hr.mono (by decide)
  have r2 : Room 3 _ := hr.mono (by decide)
  refine ⟨_, pss_cons (ps_if (pt_cmpR op_eq (pe_call G2 r1 rfl m2 k2 b2 .nil pass0 (pa_cons (pv 0) (pa_cons pe_int pa_nil))) pe_int (nomark _)) (pss_one (ps_ret (pe_call G3 hr rfl m3 k3 b3 .nil pass0 (pa_cons (pv 0) pa_nil)))) pss_nil)
    (pss_cons (ps_if (pt_cmpR op_eq (pv 1) pe_int (nomark _)) (pss_one (ps_ret (pe_op op_add pe_int (pe_call G2 r1 rfl m2 k2 b2 .nil pass0 (pa_cons (pv 0) (pa_cons (pe_op op_pow pe_int pe_int) pa_nil)))))) pss_nil)
    (pss_cons (ps_set (i := 2) scThing.nd rfl (.inl rfl) (pe_call G1 r2 rfl m1 k1 b1 .nil pass0 (pa_cons (pv 0) (pa_cons pe_bl pa_nil))))
    (pss_cons (ps_if (pt_cmpR op_lt (pv 1) pe_int (nomark _)) (pss_one (ps_ret (pv 2))) pss_nil)
    (pss_one (ps_ret (pe_ifExp (pt_cmpR op_eq (pe_ix ix_tup (pv 2) pe_int (fun _ _ => rfl)) pe_int (nomark _)) (pe_callTy call_str_int (by rfl) ms (by decide +kernel) (pa_cons (pe_ix ix_tup (pv 2) pe_int (fun _ _ => rfl)) pa_nil))
      (pe_op op_add_str (pe_op op_add_str (pe_callTy call_str_int (by rfl) ms (by decide +kernel) (pa_cons (pe_ix ix_tup (pv 2) pe_int (fun _ _ => rfl)) pa_nil)) pe_str) (pe_callTy call_str_int (by rfl) ms (by decide +kernel) (pa_cons (pe_ix ix_tup (pv 2) pe_int (fun _ _ => rfl)) pa_nil))))))))), ?_⟩
  refine ⟨_, rfl, p, 3, rfl, hp, big_of 8 (by decide) (by decide) (by decide), fun r H1 k1 hp1 r0 r3 => ?_⟩
  refine ⟨rfl, _, rfl, ite2 (fun c => ?_) (fun c => ?_)⟩
  · exact ⟨_, rfl, p, S, rfl, hp1, sp, held.keep k1 hp1, fun v H2 k2 hp2 tv => q v H2 (k1.trans k2) hp2 tv⟩
  refine ⟨_, rfl, rfl, _, rfl, ite2 (fun c2 => ?_) (fun c2 => ?_)⟩
  · have e6 : (10 : Int) ^ (Int.toNat 6) = 1000000 := by decide
    refine ⟨_, rfl, _, _, rfl, rfl, ⟨by decide, by decide, by decide⟩, p, _, rfl, hp1, (by rw [e6]; exact big_of 20 (by decide) (by decide) (by decide)), fun z H2 k2 hp2 z0 z1 => ⟨_, _, rfl, rfl, q _ _ (k1.trans k2) hp2 (t_int ?_)⟩⟩
    rw [e6] at z1
    have e200 : (2 : Nat) ^ 200 = 1606938044258990275541962092341162602522202993782792835301376 := by decide +kernel
    omega
  refine ⟨_, rfl, p, true, rfl, hp1, fun t a b H2 k2 hp2 nt fr => ?_⟩
  have nt0 : S t = false := Bool.eq_false_iff.mpr fun z => (held.keep k1 hp1) t z nt
  have k12 := k1.trans k2
  have fh : FrAt 70 (hid S H2) t a b := ⟨hid_of nt0 fr.1 (by intro _ z; cases z), fr.2⟩
  refine ⟨_, rfl, _, _, rfl, rfl, _, rfl, ite2 (fun c3 => ?_) (fun c3 => ?_)⟩
  · exact ⟨_, rfl, q _ _ k12 hp2 (t_fr fh (by decide))⟩
  have f2 : Fr 200 a b := fr.2.up (by decide)
  refine ⟨_, rfl, t, _, _, _, rfl, rfl, fr.seq, rfl, rfl, _, rfl, ite2 (fun c4 => ?_) (fun c4 => ?_)⟩
  · have e1 := V.int.inj (of_decide_eq_true c4)
    subst e1
    refine ⟨_, rfl, t, _, _, _, rfl, rfl, fr.seq, rfl, a, rfl, Nat.lt_of_lt_of_le (PySem.Flt.log2_lt_of (by decide) (le1900 f2.al)) (by decide), ?_⟩
    have := q (.str (numS a)) H2 k12 hp2 (by rw [numS_fmt]; exact t_fmt f2)
    exact this
  · have n1 : ¬ b = 1 := fun e => by rw [e] at c4; exact c4 (decide_eq_true rfl)
    have la := numS_len (le1900 f2.al)
    have lb := numS_len (le1900 f2.bl)
    refine ⟨_, rfl, t, _, _, _, rfl, rfl, fr.seq, rfl, a, rfl, Nat.lt_of_lt_of_le (PySem.Flt.log2_lt_of (by decide) (le1900 f2.al)) (by decide), ?_⟩
    refine ⟨_, _, rfl, rfl, ?_, ?_⟩
    · exact Nat.le_trans (show (numS a).length + 1 ≤ 602 by omega) (line_n (by decide))
    refine ⟨_, rfl, t, _, _, _, rfl, rfl, fr.seq, rfl, b, rfl, Nat.lt_of_lt_of_le (PySem.Flt.log2_lt_of (by decide) (le1900 f2.bl)) (by decide), ?_⟩
    refine ⟨_, _, rfl, rfl, ?_, ?_⟩
    · have e1 : (Str.ofString "/").length = 1 := by decide +kernel
      have ab : ((numS a ++ Str.ofString "/") ++ numS b).length ≤ sizeLine := by
        rw [strLen_append, strLen_append, e1, sizeLine_eq]
        omega
      rw [strLen_append] at ab
      exact ab
    have e2 : fmtS a b = (numS a ++ Str.ofString "/") ++ numS b := by
      unfold fmtS
      rw [if_neg n1, empty_app]
    have := q (.str (fmtS a b)) H2 k12 hp2 (t_fmt f2)
    rw [e2] at this
    exact this
end
/-! ### k06_rows.lean -/
/-! readings of things and of rows of them: C says what the names hold -/
def Row (K : PySem.W.Frag) (H : Hp) (v : V) : Prop := ∃ L x y z, v = .ref L ∧ H L = some (.lst [x, y, z]) ∧ Th K H x ∧ Th K H y ∧ Th K H z
/-- what stays where nothing tracked changes -/
def MonP (P : Hp → V → Prop) : Prop := ∀ H H' v, P H v → Same H H' → P H' v
def MonC (C : L2.St → Hp → Prop) : Prop := ∀ sl H H', C sl H → Same (noT H) (noT H') → C sl H'
theorem monT {K : PySem.W.Frag} : MonP (Th K) := fun _ _ _ h s => h.same s
theorem monR {K : PySem.W.Frag} : MonP (Row K) := fun _ _ _ ⟨L, x, y, z, e, h, a, b, c⟩ s => ⟨L, x, y, z, e, s _ _ h, a.same s, b.same s, c.same s⟩
def yV (P : Hp → V → Prop) (C : L2.St → Hp → Prop) : TE := fun sl H Q => C sl H ∧ ∀ v H', Same H H' → P (noT H') v → Q v H'
def yVs (P : Hp → V → Prop) (C : L2.St → Hp → Prop) (n : Nat) : TA := fun sl H Q => C sl H ∧ ∀ vs H', Same H H' → vs.length = n → (∀ v ∈ vs, P (noT H') v) → Q vs H'
def yL (P : Hp → V → Prop) (C : L2.St → Hp → Prop) (n : Nat) : TE := fun sl H Q => C sl H ∧ ∀ M vs H', Same H H' → noT H' M = some (.lst vs) → vs.length = n → (∀ v ∈ vs, P (noT H') v) → Q (.ref M) H'
/-- a name's value, a name's list -/
def SlV (P : Hp → V → Prop) (i : Nat) (sl : L2.St) (H : Hp) : Prop := ∃ v, sl[i]? = some (some v) ∧ P (noT H) v
def SlL (P : Hp → V → Prop) (i n : Nat) (sl : L2.St) (H : Hp) : Prop := ∃ M vs, sl[i]? = some (some (.ref M)) ∧ noT H M = some (.lst vs) ∧ vs.length = n ∧ ∀ v ∈ vs, P (noT H) v
theorem SlV.ext {P : Hp → V → Prop} {i : Nat} {sl sl' : L2.St} {H H' : Hp} (m : MonP P) (h : SlV P i sl H) (e : sl'[i]? = sl[i]?) (s : Same (noT H) (noT H')) : SlV P i sl' H' := let ⟨v, a, b⟩ := h; ⟨v, e.trans a, m _ _ _ b s⟩
theorem SlL.ext {P : Hp → V → Prop} {i n : Nat} {sl sl' : L2.St} {H H' : Hp} (m : MonP P) (h : SlL P i n sl H) (e : sl'[i]? = sl[i]?) (s : Same (noT H) (noT H')) : SlL P i n sl' H' := let ⟨M, vs, a, b, c, d⟩ := h; ⟨M, vs, e.trans a, s _ _ b, c, fun v hv => m _ _ _ (d v hv) s⟩
section
variable {X : Cx} {P : Hp → V → Prop} {C : L2.St → Hp → Prop}
theorem yV_var {e : Expr} {i : Nat} (he : PE X e (tVar i)) (h : ∀ sl H, C sl H → SlV P i sl H) : PE X e (yV P C) := pe_weak he fun sl H _ q => let ⟨v, a, b⟩ := h sl H q.1; ⟨v, a, q.2 v H (Same.refl H) b⟩
theorem yL_var {e : Expr} {i n : Nat} (he : PE X e (tVar i)) (h : ∀ sl H, C sl H → SlL P i n sl H) : PE X e (yL P C n) := pe_weak he fun sl H _ q => let ⟨M, vs, a, b, c, d⟩ := h sl H q.1; ⟨.ref M, a, q.2 M vs H (Same.refl H) b c d⟩
theorem yT_w {e : Expr} (h : PE X e (wT X.K (fun _ => True) (fun _ => false))) : PE X e (yV (Th X.K) C) := pe_weak h fun _ _ _ q => ⟨⟨True.intro, fun b z => nomatch (show false = true from z)⟩, q.2⟩
theorem yVs_nil : PA X [] (yVs P C 0) := ⟨fun pos pins s sl H Q inv h => pa_nil.run pos pins s sl H Q inv (h.2 [] H (Same.refl H) rfl fun _ m => by cases m)⟩
theorem yVs_cons {e : Expr} {es : List Expr} {n : Nat} (mP : MonP P) (mC : MonC C) (he : PE X e (yV P C)) (hes : PA X es (yVs P C n)) (hs : starEach (e :: es) X.env = (false, eval e X.env) :: starEach es X.env := by rfl) : PA X (e :: es) (yVs P C (n + 1)) :=
  ⟨fun pos pins s sl H Q inv h => (pa_cons he hes hs).run pos pins s sl H Q inv ⟨h.1, fun v H1 s1 hv => ⟨mC _ _ _ h.1 (same_noT s1), fun vs H2 s2 len all => h.2 (v :: vs) H2 (s1.trans s2) (by rw [List.length_cons, len]) fun x m => (List.mem_cons.mp m).elim (fun e => by rw [e]; exact mP _ _ _ hv (same_noT s2)) (all x)⟩⟩⟩
theorem yL_list {es : List Expr} {n : Nat} {pos : Pos} (mP : MonP P) (h : PA X es (yVs P C n)) (hn : n ≤ 900) : PE X (.List es pos) (yL P C n) :=
  pe_weak (pe_lst h) fun _ H _ q => ⟨q.1, fun vs H1 s1 len all => ⟨line_n (by omega), fun p np => q.2 p vs _ (s1.trans (same_upd np)) (noT_of upd_same) len fun v m => mP _ _ _ (all v m) (same_noT (same_upd np))⟩⟩
theorem yR_of {e : Expr} (h : PE X e (yL (Th X.K) C 3)) : PE X e (yV (Row X.K) C) := pe_weak h fun _ H _ q => ⟨q.1, fun M vs H1 s1 hM len all => by
  match vs, len with
  | [x, y, z], _ => exact q.2 _ _ s1 ⟨M, x, y, z, rfl, hM, all x (by simp), all y (by simp), all z (by simp)⟩⟩
theorem yL_cat {n m : Nat} {e : Expr} {es : List Expr} {pos p2 : Pos} (mP : MonP P) (mC : MonC C) (he : PE X e (yL P C m)) (h : PA X es (yVs P C n)) (hn : m + n ≤ 900) : PE X (.BinOp e .Add (.List es pos) p2) (yL P C (m + n)) :=
  pe_weak (pe_op op_cat he (yL_list mP h (by omega))) fun sl H _ q => ⟨q.1, fun L xs H1 s1 hL l1 a1 => ⟨mC _ _ _ q.1 (same_noT s1), fun M vs H2 s2 hM l2 a2 => ⟨L, M, _, _, rfl, rfl, s2 _ _ (noT_same _ _ hL), noT_same _ _ hM, by rw [l1, l2]; exact line_n (by omega), fun N nN =>
    q.2 N _ _ (s1.trans (s2.trans (same_upd nN))) (noT_of upd_same) (by rw [List.length_append, l1, l2]) fun v hv => by
      rcases List.mem_append.mp hv with hv | hv
      · exact mP _ _ _ (a1 v hv) ((same_noT s2).trans (same_noT (same_upd nN)))
      · exact mP _ _ _ (a2 v hv) (same_noT (same_upd nN))⟩⟩⟩
theorem yV_ix0 {n : Nat} {e : Expr} {j : Nat} {p1 pos : Pos} (he : PE X e (yL P C (n + 1))) (hx : PE X (.Subscript e (.Constant (.int 0) j p1) pos) (tOp (rIxL X.K) (yL P C (n + 1)) (tC (.int 0)))) : PE X (.Subscript e (.Constant (.int 0) j p1) pos) (yV P C) :=
  pe_weak hx fun sl H _ q => ⟨q.1, fun M vs H1 s1 hM len all => by
    match vs, len with
    | v :: vs, _ => exact ⟨M, _, _, v, rfl, rfl, SqL.of (noT_same _ _ hM), (by have := atI_nat (xs := v :: vs) (j := 0) (v := v) rfl; exact this), q.2 _ _ s1 (all v (by simp))⟩⟩
end
/-! ### k06_hand.lean -/
theorem all_true (n : Nat) : (List.replicate n true).all id = true := by rw [List.all_replicate]; cases n <;> rfl
theorem rep_bl (n : Nat) : (List.replicate n true).map V.bl = List.replicate n (V.bl true) := List.map_replicate
theorem rep_snoc (n : Nat) (v : V) : List.replicate n v ++ [v] = List.replicate (n + 1) v := List.replicate_succ'.symm
section
variable {P : Program} {w : World} {K : PySem.W.Frag} {mg : Str → Option Value} {base : Heap} {f : Addr} {fd : FuncData}
theorem scHand6 : FnScope ["_law_half", "_law_twins", "_law_door", "_law_thing_here", "_law_rows", "_law_row"] [] (defScope s_l_by_hand) := ⟨rfl, rfl, rfl, by decide +kernel, rfl, by decide +kernel, by decide +kernel⟩
/-- what the names hold -/
def C1 (K : PySem.W.Frag) (sl : L2.St) (H : Hp) : Prop := (SlV (Th K) 0 sl H ∧ SlL (Th K) 1 6 sl H) ∧ sl.length = 6
def C3 (K : PySem.W.Frag) (sl : L2.St) (H : Hp) : Prop := C1 K sl H ∧ SlV (Th K) 3 sl H
def C4 (K : PySem.W.Frag) (n : Nat) (sl : L2.St) (H : Hp) : Prop := C3 K sl H ∧ SlL (Row K) 4 n sl H
theorem C1.ext {sl sl' : L2.St} {H H' : Hp} (h : C1 K sl H) (e0 : sl'[0]? = sl[0]?) (e1 : sl'[1]? = sl[1]?) (el : sl'.length = sl.length) (s : Same (noT H) (noT H')) : C1 K sl' H' := ⟨⟨h.1.1.ext monT e0 s, h.1.2.ext monT e1 s⟩, el.trans h.2⟩
theorem C3.ext {sl sl' : L2.St} {H H' : Hp} (h : C3 K sl H) (e0 : sl'[0]? = sl[0]?) (e1 : sl'[1]? = sl[1]?) (e3 : sl'[3]? = sl[3]?) (el : sl'.length = sl.length) (s : Same (noT H) (noT H')) : C3 K sl' H' := ⟨h.1.ext e0 e1 el s, h.2.ext monT e3 s⟩
theorem mon1 : MonC (C1 K) := fun _ _ _ h s => h.ext rfl rfl rfl s
theorem mon3 : MonC (C3 K) := fun _ _ _ h s => h.ext rfl rfl rfl rfl s
theorem mon4 {n : Nat} : MonC (C4 K n) := fun _ _ _ h s => ⟨h.1.ext rfl rfl rfl rfl s, h.2.ext monR rfl s⟩
theorem C3.put {sl : L2.St} {H H' : Hp} (h : C3 K sl H) {v : V} (s : Same (noT H) (noT H')) : C3 K (sl.set 4 (some v)) H' := h.ext (List.getElem?_set_ne (by decide)) (List.getElem?_set_ne (by decide)) (List.getElem?_set_ne (by decide)) List.length_set s
theorem C3.rows {sl : L2.St} {H H' : Hp} (h : C3 K sl H) {R : Addr} {rows : List V} {n : Nat} (s : Same (noT H) (noT H')) (hR : noT H' R = some (.lst rows)) (l : rows.length = n) (all : ∀ v ∈ rows, Row K (noT H') v) : C4 K n (sl.set 4 (some (.ref R))) H' :=
  ⟨h.put s, R, rows, List.getElem?_set_self (by have := h.1.2; omega), hR, l, all⟩
def handB : List Stmt := match (defBody s_l_by_hand).drop 1 with
  | Stmt.For _ _ (Stmt.For _ _ b _ _ :: _) _ _ :: _ => b
  | _ => []
/-- the rows of one thing -/
theorem hand_rows {cdv : Value} {A : Around} {outer : List Env} {s : Shared} {H : Hp} {E : XK} {rest : List Stmt} {tr : TS} (hrest : PSs (cxOf CX0 P w K mg base ["_law_half", "_law_twins", "_law_door", "_law_thing_here", "_law_rows", "_law_row"] "_law_by_hand" (defScope s_l_by_hand) f cdv A outer s H E).nox rest tr) :
    PSs (cxOf CX0 P w K mg base ["_law_half", "_law_twins", "_law_door", "_law_thing_here", "_law_rows", "_law_row"] "_law_by_hand" (defScope s_l_by_hand) f cdv A outer s H E).nox
      (handB.take 2 ++ rest)
      (fun D sl H => C3 K sl H ∧ ∀ R rows H', Same H H' → noT H' R = some (.lst rows) → rows.length = 7 → (∀ v ∈ rows, Row K (noT H') v) → tr D (sl.set 4 (some (.ref R))) H') := by
  have half : ∀ {es : Pos}, PE (cxOf CX0 P w K mg base ["_law_half", "_law_twins", "_law_door", "_law_thing_here", "_law_rows", "_law_row"] "_law_by_hand" (defScope s_l_by_hand) f cdv A outer s H E).nox (.Name "_law_half" es) (yV (Th K) (C3 K)) := yV_var (i := 0) (pv 0) fun _ _ h => h.1.1.1
  have thing : ∀ {es : Pos}, PE (cxOf CX0 P w K mg base ["_law_half", "_law_twins", "_law_door", "_law_thing_here", "_law_rows", "_law_row"] "_law_by_hand" (defScope s_l_by_hand) f cdv A outer s H E).nox (.Name "_law_thing_here" es) (yV (Th K) (C3 K)) := yV_var (i := 3) (pv 3) fun _ _ h => h.2
  have half4 : ∀ {es : Pos}, PE (cxOf CX0 P w K mg base ["_law_half", "_law_twins", "_law_door", "_law_thing_here", "_law_rows", "_law_row"] "_law_by_hand" (defScope s_l_by_hand) f cdv A outer s H E).nox (.Name "_law_half" es) (yV (Th K) (C4 K 4)) := yV_var (i := 0) (pv 0) fun _ _ h => h.1.1.1.1
  have thing4 : ∀ {es : Pos}, PE (cxOf CX0 P w K mg base ["_law_half", "_law_twins", "_law_door", "_law_thing_here", "_law_rows", "_law_row"] "_law_by_hand" (defScope s_l_by_hand) f cdv A outer s H E).nox (.Name "_law_thing_here" es) (yV (Th K) (C4 K 4)) := yV_var (i := 3) (pv 3) fun _ _ h => h.1.2
  refine pss_w (pss_cons (ps_set (i := 4) scHand6.nd rfl (.inl rfl) (yL_list monR (yVs_cons monR mon3 (yR_of (yL_list monT (yVs_cons monT mon3 half (yVs_cons monT mon3 half (yVs_cons monT mon3 half yVs_nil))) (by decide)))
      (yVs_cons monR mon3 (yR_of (yL_list monT (yVs_cons monT mon3 thing (yVs_cons monT mon3 half (yVs_cons monT mon3 half yVs_nil))) (by decide)))
      (yVs_cons monR mon3 (yR_of (yL_list monT (yVs_cons monT mon3 half (yVs_cons monT mon3 thing (yVs_cons monT mon3 half yVs_nil))) (by decide)))
      (yVs_cons monR mon3 (yR_of (yL_list monT (yVs_cons monT mon3 half (yVs_cons monT mon3 half (yVs_cons monT mon3 thing yVs_nil))) (by decide))) yVs_nil)))) (by decide)))
    (pss_cons (ps_set (i := 4) scHand6.nd rfl (.inl rfl) (yL_cat monR mon4 (yL_var (i := 4) (n := 4) (pv 4) fun _ _ h => h.2) (yVs_cons monR mon4 (yR_of (yL_list monT (yVs_cons monT mon4 thing4 (yVs_cons monT mon4 (yT_w wT_non) (yVs_cons monT mon4 (yT_w (wT_i (i := 1) wI_c (by decide +kernel))) yVs_nil))) (by decide)))
      (yVs_cons monR mon4 (yR_of (yL_list monT (yVs_cons monT mon4 (yT_w wT_tup0) (yVs_cons monT mon4 thing4 (yVs_cons monT mon4 half4 yVs_nil))) (by decide)))
      (yVs_cons monR mon4 (yV_ix0 (yL_var (i := 4) (n := 3 + 1) (pv 4) fun _ _ h => h.2) (pe_ix ix_list (yL_var (i := 4) (n := 3 + 1) (pv 4) fun _ _ h => h.2) pe_int (fun _ _ => rfl))) yVs_nil))) (by decide))) hrest)) ?_
  rintro D sl H1 ⟨c, q⟩
  refine ⟨c, fun R rows H2 s2 hR l2 all2 => ⟨c.rows (same_noT s2) hR l2 all2, fun R' rows' H3 s3 hR' l3 all3 => ?_⟩⟩
  have := q R' rows' H3 (s2.trans s3) hR' l3 all3
  rw [← List.set_set (a := some (V.ref R))] at this
  exact this
theorem all_sem {T : List (Addr × Str)} {td : TE} {D : Ends} {H : Hp} {a0 a1 a2 a3 a4 a5 : Option V} {R : Addr} {rows : List V} {d : Int} (lr : rows.length ≤ 10) (hR : noT H R = some (.lst rows)) (all : ∀ v ∈ rows, Row K (noT H) v) (tabs : LamX.Tabs T H) (d0 : 0 ≤ d) (d5 : d ≤ 5)
    (h4 : a4 = some (.ref R)) (dt : ∀ (b : Option V) (HX : Hp) (Q : VK), Q (.int d) HX → td [a0, a1, a2, a3, a4, b] HX Q) (q : ∀ (H' : Hp), LamX.ExtN H H' → LamX.Tabs T H' → D.nx [a0, a1, a2, a3, a4, a5] H') :
    tIfS (tNot (tB (tCB (rAll K) (tCons (tLc (iList K (tVar 4)) (gName 5) tYes (tCall (spDoor K T) [] E0 (tCons td (tCons (tVar 5) tNil))) [5]) tNil)))) (tRet (tC (V.bl false))) tNext D [a0, a1, a2, a3, a4, a5] H := by
  subst h4
  refine ⟨_, rfl, R, rfl, ⟨_, SqL.of (noT_same _ _ hR)⟩, fun M nM => ?_⟩
  have sM := same_upd (o := .lst []) nM
  have nM0 : ∀ u, H M = some u → ∃ ps, u = .tbl ps := fun u e => by rw [nM] at e; cases e
  refine lc_list (K := K) (a := R) (xs := rows) (fun i C => LamX.ExtN H C ∧ LamX.Tabs T C ∧ C M = some (.lst (List.replicate i (.bl true))) ∧ i ≤ 10) ⟨LamX.ExtN.of sM, tabs.ext sM, upd_same, by decide⟩ (fun i C _ h => SqL.of (noT_same _ _ (noT_ext h.1 _ _ hR))) ?_ ?_
  · rintro i v C hi ⟨x1, t1, hM, i4⟩
    obtain ⟨L, x, y, z, rfl, hL, tx, ty, tz⟩ := monR _ _ _ (all v (List.mem_of_getElem? hi)) (noT_ext x1)
    have hi4 : i < rows.length := (List.getElem?_eq_some_iff.mp hi).1
    refine ⟨rfl, ?_⟩
    show tCall (spDoor K T) [] E0 (tCons td (tCons (tVar 5) tNil)) _ _ _
    refine dt (some (.ref L)) _ _ ⟨_, rfl, d, L, x, y, z, rfl, d0, d5, hL, tx, ty, tz, t1, fun C2 x2 t2 => ?_⟩
    have m2 := x2 _ _ hM (by intro _ z; cases z)
    refine ⟨_, m2, by rw [List.length_replicate]; exact small1000 (by omega), ext_put (x1.trans x2) nM0, tabs_put m2 t2, ?_, by omega⟩
    rw [upd_same, rep_snoc]
  · rintro C ⟨x1, t1, hM, _⟩
    refine ⟨M, List.replicate rows.length true, rfl, ?_, _, rfl, ?_⟩
    · rw [rep_bl]
      exact SqL.of hM
    · rw [all_true]
      exact iteF (q C x1 t1)
/-- all rows are right -/
theorem hand_all {T : List (Addr × Str)} {gD : Addr} {fdD : FuncData} {cdv : Value} {A : Around} {outer : List Env} {s : Shared} {H : Hp} {E : XK} (hg : A.guards = some []) (hr : Room 12 (A.deeper (envOfC "_law_by_hand" (defScope s_l_by_hand) s.heap.objs.size f cdv))) (ma : mg "all" = none)
    (GD : FnG P w K mg base CX0 12 gD fdD ["_law_door", "_law_things"] (spDoor K T)) (bD : Binds K fdD ["_law_door", "_law_things"] []) (kD : PySem.W.keepIn K (.ref gD) = true) (mD : mg "_law_door_right" = some (.ref gD)) :
    PSs (cxOf CX0 P w K mg base ["_law_half", "_law_twins", "_law_door", "_law_thing_here", "_law_rows", "_law_row"] "_law_by_hand" (defScope s_l_by_hand) f cdv A outer s H E).nox (handB.drop 2)
      (fun D sl H => (sl.length = 6 ∧ SlL (Row K) 4 7 sl H) ∧ (∃ d : Int, sl[2]? = some (some (.int d)) ∧ 0 ≤ d ∧ d ≤ 5) ∧ LamX.Tabs T H ∧ ∀ H', LamX.ExtN H H' → LamX.Tabs T H' → D.nx sl H') := by
  refine pss_w (pss_one (ps_if (pt_not (pt_val (pe_callB (cr_all (by rfl)) (by rfl) ma (by decide +kernel) (pa_cons
          (pe_lc (own := [("_law_row", 5)]) (g := gName 5) (tt := tYes) (by rfl) scHand6.nd (pi_list (pv 4)) (blkOk_by (own := [("_law_row", 5)]) (N := ["_law_half", "_law_twins", "_law_door", "_law_thing_here", "_law_rows", "_law_row"]) (sc := defScope s_l_by_hand) (by decide +kernel))
            (fun _ _ _ _ _ => pg_name (i := 5) scHand6.nd rfl (Or.inl rfl)) (fun _ _ _ _ _ => pts_nil)
            (fun _ _ _ _ _ => callG GD hg hr rfl mD kD bD .nil pass0 (pa_cons (pv 2) (pa_cons (pv 5) pa_nil)))) pa_nil))))
        (pss_one (ps_ret pe_bl)) pss_nil)) ?_
  rintro D sl H ⟨⟨l6, R, rows, h4, hR, lr, all⟩, ⟨d, h2, d0, d5⟩, tabs, q⟩
  obtain ⟨a0, a1, a2, a3, a4, a5, rfl⟩ : ∃ a0 a1 a2 a3 a4 a5, sl = [a0, a1, a2, a3, a4, a5] := by
    match sl, l6 with
    | [a0, a1, a2, a3, a4, a5], _ => exact ⟨a0, a1, a2, a3, a4, a5, rfl⟩
  exact all_sem (by rw [lr]; decide) hR all tabs d0 d5 (Option.some.inj h4) (fun _ _ _ q => ⟨_, h2, q⟩) q
/-- what the first names hold stays -/
def Agr (sl σ : L2.St) : Prop := σ[0]? = sl[0]? ∧ σ[1]? = sl[1]? ∧ σ.length = sl.length
theorem Agr.refl {sl : L2.St} : Agr sl sl := ⟨rfl, rfl, rfl⟩
theorem Agr.trans {a b c : L2.St} (h : Agr a b) (k : Agr b c) : Agr a c := ⟨k.1.trans h.1, k.2.1.trans h.2.1, k.2.2.trans h.2.2⟩
theorem Agr.set {a b : L2.St} (h : Agr a b) {i : Nat} {o : Option V} (hi : 2 ≤ i) : Agr a (b.set i o) := ⟨(List.getElem?_set_ne (by omega)).trans h.1, (List.getElem?_set_ne (by omega)).trans h.2.1, List.length_set.trans h.2.2⟩
theorem C1.agr {sl sl' : L2.St} {H H' : Hp} (h : C1 K sl H) (a : Agr sl sl') (s : Same (noT H) (noT H')) : C1 K sl' H' := h.ext a.1 a.2.1 a.2.2 s
def tHand (K : PySem.W.Frag) (T : List (Addr × Str)) : TS := fun D sl H => C3 K sl H ∧ (∃ d : Int, sl[2]? = some (some (.int d)) ∧ 0 ≤ d ∧ d ≤ 5) ∧ LamX.Tabs T H ∧ ∀ sl' H', Agr sl sl' → sl'[2]? = sl[2]? → LamX.ExtN H H' → LamX.Tabs T H' → D.nx sl' H'
theorem hand_body {T : List (Addr × Str)} {gD : Addr} {fdD : FuncData} {cdv : Value} {A : Around} {outer : List Env} {s : Shared} {H : Hp} {E : XK} (hg : A.guards = some []) (hr : Room 12 (A.deeper (envOfC "_law_by_hand" (defScope s_l_by_hand) s.heap.objs.size f cdv))) (ma : mg "all" = none)
    (GD : FnG P w K mg base CX0 12 gD fdD ["_law_door", "_law_things"] (spDoor K T)) (bD : Binds K fdD ["_law_door", "_law_things"] []) (kD : PySem.W.keepIn K (.ref gD) = true) (mD : mg "_law_door_right" = some (.ref gD)) :
    PSs (cxOf CX0 P w K mg base ["_law_half", "_law_twins", "_law_door", "_law_thing_here", "_law_rows", "_law_row"] "_law_by_hand" (defScope s_l_by_hand) f cdv A outer s H E).nox handB (tHand K T) := by
  refine pss_w (hand_rows (rest := handB.drop 2) (hand_all hg hr ma GD bD kD mD)) ?_
  rintro D sl H ⟨c, ⟨d, h2, d0, d5⟩, tabs, q⟩
  refine ⟨c, fun R rows H1 s1 hR l7 all => ?_⟩
  have c4 := c.rows (same_noT s1) hR l7 all
  have e2 : (sl.set 4 (some (V.ref R)))[2]? = sl[2]? := List.getElem?_set_ne (by decide)
  exact ⟨⟨c4.1.1.2, c4.2⟩, ⟨d, e2.trans h2, d0, d5⟩, tabs.ext s1, fun H2 x2 t2 => q _ H2 (Agr.refl.set (by decide)) e2 ((LamX.ExtN.of s1).trans x2) t2⟩
/-- the loops over doors and things -/
theorem hand_loops {T : List (Addr × Str)} {gD : Addr} {fdD : FuncData} {cdv : Value} {A : Around} {outer : List Env} {s : Shared} {H : Hp} {E : XK} {rest : List Stmt} {tr : TS} (hg : A.guards = some []) (hr : Room 12 (A.deeper (envOfC "_law_by_hand" (defScope s_l_by_hand) s.heap.objs.size f cdv))) (ma : mg "all" = none)
    (GD : FnG P w K mg base CX0 12 gD fdD ["_law_door", "_law_things"] (spDoor K T)) (bD : Binds K fdD ["_law_door", "_law_things"] []) (kD : PySem.W.keepIn K (.ref gD) = true) (mD : mg "_law_door_right" = some (.ref gD))
    (hrest : PSs (cxOf CX0 P w K mg base ["_law_half", "_law_twins", "_law_door", "_law_thing_here", "_law_rows", "_law_row"] "_law_by_hand" (defScope s_l_by_hand) f cdv A outer s H E).nox rest tr) :
    PSs (cxOf CX0 P w K mg base ["_law_half", "_law_twins", "_law_door", "_law_thing_here", "_law_rows", "_law_row"] "_law_by_hand" (defScope s_l_by_hand) f cdv A outer s H E).nox (((defBody s_l_by_hand).drop 1).take 1 ++ rest)
      (fun D sl H => C1 K sl H ∧ LamX.Tabs T H ∧ ∀ sl' H', Agr sl sl' → LamX.ExtN H H' → LamX.Tabs T H' → tr D sl' H') := by
  refine pss_w (pss_cons (ps_for PassesOwn.never rfl (pi_list (pe_lst (pa_cons pe_int (pa_cons pe_int (pa_cons pe_int pa_nil))))) (pg_name (i := 2) scHand6.nd rfl (.inr rfl))
    (pss_one (ps_for PassesOwn.never rfl (pi_list (pv 1)) (pg_name (i := 3) scHand6.nd rfl (.inl rfl)) (hand_body hg hr ma GD bD kD mD)))) hrest) ?_
  rintro D sl H ⟨c, tabs, q⟩
  refine ⟨line_n (by show (3 : Nat) ≤ 900; decide), fun p np => ?_⟩
  have s1 := same_upd (o := .lst [.int 1, .int 2, .int 3]) np
  have e1 : (upd H p (.lst [.int 1, .int 2, .int 3])) p = some (.lst [.int 1, .int 2, .int 3]) := upd_same
  generalize upd H p (.lst [.int 1, .int 2, .int 3]) = H1 at s1 e1 ⊢
  have c1 := mon1 _ _ _ c (same_noT s1)
  obtain ⟨⟨_, M, ts, hM, eM, l6, all⟩, len⟩ := id c1
  have tabs1 := tabs.ext s1
  refine ⟨p, rfl, ⟨_, SqL.of e1⟩, ?_⟩
  refine for_list (K := K) (a := p) (xs := [.int 1, .int 2, .int 3]) (fun i σ H' => Agr sl σ ∧ LamX.ExtN H1 H' ∧ LamX.Tabs T H') ⟨Agr.refl, LamX.ExtN.refl H1, tabs1⟩ (fun i σ H' _ h => SqL.of (h.2.1 _ _ e1 (by intro _ z; cases z))) ?_ ?_
  · rintro i v σ H2 hi ⟨ag, x2, t2⟩
    have dv : ∃ d : Int, v = .int d ∧ 0 ≤ d ∧ d ≤ 5 := by
      have m := List.mem_of_getElem? hi
      rcases List.mem_cons.mp m with e | m
      · exact ⟨1, e, by decide, by decide⟩
      rcases List.mem_cons.mp m with e | m
      · exact ⟨2, e, by decide, by decide⟩
      · exact ⟨3, List.mem_singleton.mp m, by decide, by decide⟩
    obtain ⟨d, rfl, d0, d5⟩ := dv
    have lσ : σ.length = 6 := ag.2.2.trans len
    have d2 : (σ.set 2 (some (V.int d)))[2]? = some (some (.int d)) := List.getElem?_set_self (by omega)
    refine ⟨_, ((List.getElem?_set_ne (by decide)).trans ag.2.1).trans hM, M, rfl, ⟨_, SqL.of (noT_same _ _ (noT_ext x2 _ _ eM))⟩, ?_⟩
    refine for_list (K := K) (a := M) (xs := ts) (fun i τ H' => Agr sl τ ∧ τ[2]? = some (some (.int d)) ∧ LamX.ExtN H1 H' ∧ LamX.Tabs T H') ⟨ag.set (by decide), d2, x2, t2⟩ (fun i τ H' _ h => SqL.of (noT_same _ _ (noT_ext h.2.2.1 _ _ eM))) ?_ ?_
    · rintro j v τ H3 hj ⟨ag3, e3, x3, t3⟩
      have cc := (c1.agr ag3 (noT_ext x3)).agr (Agr.refl.set (i := 3) (o := some v) (by decide)) (Same.refl _)
      have l3 : τ.length = 6 := ag3.2.2.trans len
      have e2 : (τ.set 3 (some v))[2]? = τ[2]? := List.getElem?_set_ne (by decide)
      refine ⟨⟨cc, v, List.getElem?_set_self (by omega), monT _ _ _ (all v (List.mem_of_getElem? hj)) (noT_ext x3)⟩, ⟨d, e2.trans e3, d0, d5⟩, t3, fun τ' H4 ag4 e4 x4 t4 => ?_⟩
      exact ⟨(ag3.set (by decide)).trans ag4, (e4.trans e2).trans e3, x3.trans x4, t4⟩
    · rintro τ H3 ⟨ag3, e3, x3, t3⟩
      exact ⟨ag3, x3, t3⟩
  · rintro σ H2 ⟨ag, x2, t2⟩
    exact q σ H2 ag ((LamX.ExtN.of s1).trans x2) t2
end
/-! ### k06_hand2.lean -/
section
variable {P : Program} {w : World} {K : PySem.W.Frag} {mg : Str → Option Value} {base : Heap} {f : Addr} {fd : FuncData}
def C5 (K : PySem.W.Frag) (n : Nat) (sl : L2.St) (H : Hp) : Prop := C1 K sl H ∧ SlL (Row K) 4 n sl H
theorem mon5 {n : Nat} : MonC (C5 K n) := fun _ _ _ h s => ⟨h.1.ext rfl rfl rfl s, h.2.ext monR rfl s⟩
theorem C1.rows {sl : L2.St} {H H' : Hp} (h : C1 K sl H) {R : Addr} {rows : List V} {n : Nat} (s : Same (noT H) (noT H')) (hR : noT H' R = some (.lst rows)) (l : rows.length = n) (all : ∀ v ∈ rows, Row K (noT H') v) : C5 K n (sl.set 4 (some (.ref R))) H' :=
  ⟨h.agr (Agr.refl.set (by decide)) s, R, rows, List.getElem?_set_self (by have := h.2; omega), hR, l, all⟩
/-- the rows of the first door -/
theorem hand_two {T : List (Addr × Str)} {gD : Addr} {fdD : FuncData} {cdv : Value} {A : Around} {outer : List Env} {s : Shared} {H : Hp} {E : XK} {rest : List Stmt} {tr : TS} (hg : A.guards = some []) (hr : Room 12 (A.deeper (envOfC "_law_by_hand" (defScope s_l_by_hand) s.heap.objs.size f cdv))) (ma : mg "all" = none)
    (GD : FnG P w K mg base CX0 12 gD fdD ["_law_door", "_law_things"] (spDoor K T)) (bD : Binds K fdD ["_law_door", "_law_things"] []) (kD : PySem.W.keepIn K (.ref gD) = true) (mD : mg "_law_door_right" = some (.ref gD))
    (hrest : PSs (cxOf CX0 P w K mg base ["_law_half", "_law_twins", "_law_door", "_law_thing_here", "_law_rows", "_law_row"] "_law_by_hand" (defScope s_l_by_hand) f cdv A outer s H E).nox rest tr) :
    PSs (cxOf CX0 P w K mg base ["_law_half", "_law_twins", "_law_door", "_law_thing_here", "_law_rows", "_law_row"] "_law_by_hand" (defScope s_l_by_hand) f cdv A outer s H E).nox (((defBody s_l_by_hand).drop 2).take 3 ++ rest)
      (fun D sl H => C1 K sl H ∧ LamX.Tabs T H ∧ ∀ sl' H', Agr sl sl' → LamX.ExtN H H' → LamX.Tabs T H' → tr D sl' H') := by
  have one : ∀ {C : L2.St → Hp → Prop} {j : Nat} {p : Pos}, PE (cxOf CX0 P w K mg base ["_law_half", "_law_twins", "_law_door", "_law_thing_here", "_law_rows", "_law_row"] "_law_by_hand" (defScope s_l_by_hand) f cdv A outer s H E).nox (.Constant (.int 1) j p) (yV (Th K) C) := yT_w (wT_i (i := 1) wI_c (by decide +kernel))
  have nil0 : ∀ {C : L2.St → Hp → Prop} {j : Nat} {p : Pos}, PE (cxOf CX0 P w K mg base ["_law_half", "_law_twins", "_law_door", "_law_thing_here", "_law_rows", "_law_row"] "_law_by_hand" (defScope s_l_by_hand) f cdv A outer s H E).nox (.Constant (.int 0) j p) (yV (Th K) C) := yT_w (wT_i (i := 0) wI_c (by decide +kernel))
  have yes : ∀ {C : L2.St → Hp → Prop} {j : Nat} {p : Pos}, PE (cxOf CX0 P w K mg base ["_law_half", "_law_twins", "_law_door", "_law_thing_here", "_law_rows", "_law_row"] "_law_by_hand" (defScope s_l_by_hand) f cdv A outer s H E).nox (.Constant (.bool true) j p) (yV (Th K) C) := yT_w wT_bl
  have m1 := mon1 (K := K)
  have m5 := mon5 (K := K) (n := 6)
  refine pss_w (pss_cons (ps_set (i := 4) scHand6.nd rfl (.inl rfl) (yL_list monR
      (yVs_cons monR m1 (yR_of (yL_list monT (yVs_cons monT m1 one (yVs_cons monT m1 one (yVs_cons monT m1 one yVs_nil))) (by decide)))
      (yVs_cons monR m1 (yR_of (yL_list monT (yVs_cons monT m1 yes (yVs_cons monT m1 one (yVs_cons monT m1 one yVs_nil))) (by decide)))
      (yVs_cons monR m1 (yR_of (yL_list monT (yVs_cons monT m1 one (yVs_cons monT m1 yes (yVs_cons monT m1 one yVs_nil))) (by decide)))
      (yVs_cons monR m1 (yR_of (yL_list monT (yVs_cons monT m1 nil0 (yVs_cons monT m1 yes (yVs_cons monT m1 one yVs_nil))) (by decide)))
      (yVs_cons monR m1 (yR_of (yL_list monT (yVs_cons monT m1 yes (yVs_cons monT m1 nil0 (yVs_cons monT m1 one yVs_nil))) (by decide)))
      (yVs_cons monR m1 (yR_of (yL_list monT (yVs_cons monT m1 one (yVs_cons monT m1 nil0 (yVs_cons monT m1 one yVs_nil))) (by decide))) yVs_nil)))))) (by decide)))
    (pss_cons (ps_set (i := 4) scHand6.nd rfl (.inl rfl) (yL_cat monR m5 (yL_var (i := 4) (n := 6) (pv 4) fun _ _ h => h.2)
      (yVs_cons monR m5 (yR_of (yL_list monT (yVs_cons monT m5 (yT_w (wT_pair (wS_i (i := 1) wI_c (by decide +kernel)) (wS_i (i := 1) wI_c (by decide +kernel)))) (yVs_cons monT m5 one (yVs_cons monT m5 one yVs_nil))) (by decide)))
      (yVs_cons monR m5 (yR_of (yL_list monT (yVs_cons monT m5 one (yVs_cons monT m5 (yT_w (wT_pair (wS_i (i := 1) wI_c (by decide +kernel)) (wS_i (i := 1) wI_c (by decide +kernel)))) (yVs_cons monT m5 one yVs_nil))) (by decide))) yVs_nil)) (by decide)))
    (pss_cons (ps_if (pt_not (pt_val (pe_callB (cr_all (by rfl)) (by rfl) ma (by decide +kernel) (pa_cons
          (pe_lc (own := [("_law_row", 5)]) (g := gName 5) (tt := tYes) (by rfl) scHand6.nd (pi_list (pv 4)) (blkOk_by (own := [("_law_row", 5)]) (N := ["_law_half", "_law_twins", "_law_door", "_law_thing_here", "_law_rows", "_law_row"]) (sc := defScope s_l_by_hand) (by decide +kernel))
            (fun _ _ _ _ _ => pg_name (i := 5) scHand6.nd rfl (Or.inl rfl)) (fun _ _ _ _ _ => pts_nil)
            (fun _ _ _ _ _ => callG GD hg hr rfl mD kD bD .nil pass0 (pa_cons pe_int (pa_cons (pv 5) pa_nil)))) pa_nil))))
        (pss_one (ps_ret pe_bl)) pss_nil) hrest))) ?_
  rintro D sl H1 ⟨c, tabs, q⟩
  refine ⟨c, fun R rows H2 s2 hR l2 all2 => ⟨c.rows (same_noT s2) hR l2 all2, fun R' rows' H3 s3 hR' l3 all3 => ?_⟩⟩
  have c3 := c.rows (same_noT (s2.trans s3)) hR' l3 all3
  have ag : Agr sl (sl.set 4 (some (V.ref R'))) := Agr.refl.set (by decide)
  have l6 := c.2
  have tabs3 := tabs.ext (s2.trans s3)
  have x13 : LamX.ExtN H1 H3 := LamX.ExtN.of (s2.trans s3)
  have q2 : ∀ (H' : Hp), LamX.ExtN H3 H' → LamX.Tabs T H' → tr D (sl.set 4 (some (V.ref R'))) H' := fun H' x t => q _ H' ag (x13.trans x) t
  clear c3 ag c
  obtain ⟨a0, a1, a2, a3, a4, a5, rfl⟩ : ∃ a0 a1 a2 a3 a4 a5, sl = [a0, a1, a2, a3, a4, a5] := by
    match sl, l6 with
    | [a0, a1, a2, a3, a4, a5], _ => exact ⟨a0, a1, a2, a3, a4, a5, rfl⟩
  exact all_sem (D := { D with nx := tr D }) (a0 := a0) (a1 := a1) (a2 := a2) (a3 := a3) (a4 := some (V.ref R')) (a5 := a5) (d := 0) (by rw [l3]; decide) hR' all3 tabs3 (by decide) (by decide) rfl (fun _ _ _ q => q) q2
end
/-! ### k06_hand3.lean -/
section
variable {P : Program} {w : World} {K : PySem.W.Frag} {mg : Str → Option Value} {base : Heap} {f : Addr} {fd : FuncData}
def wFr (T : List (Addr × Str)) (txt : Str) : TE := fun _ H Q => LamX.Tabs T H ∧ ∀ M H', LamX.ExtN H H' → LamX.Tabs T H' → noT H' M = some (.lst [.int 0, .str txt]) → Q (.ref M) H'
theorem fr_lets {c : Nat → Addr} {CF : Addr} {H1 : Hp} {Q : VK} {v : V} {d : PyData} {txt : Str} (TF : Told K c CF 0) (dq : ∀ H, Dq H v d) (sq : Sq 6 40000 d) (e : d.shown = txt) (q : ∀ M H', Same H1 H' → H' M = some (.lst [.int 0, .str txt]) → Q (.ref M) H') : Lets CF v H1 (Got K c RD Q) := by
  intro H' dd s1 hdd
  refine ⟨CF, dd, 0, v, rfl, rfl, TF.is, TF.kind, TF.val, hdd, fun H2 s2 => ?_⟩
  refine rdQ (dq H2) sq (by decide) (by decide) ⟨_, rfl, fun L nL => q L _ (s1.trans (s2.trans (same_upd nL))) ?_⟩
  rw [upd_same, e]
  rfl
theorem pe_fr {X : Cx} {T : List (Addr × Str)} {c : Nat → Addr} {CF gU fK c0 P0 : Addr} {gdU fdK : FuncData} {params : Arguments} {scope : Scope} {body : Expr} {p lp pos : Pos} {t : XK → TE} {v : V} {d : PyData} {txt : Str}
    (TF : Told X.K c CF 0) (sys : ∃ o, X.base.get? sysModules = some o) (dq : ∀ H, Dq H v d) (sq : Sq 6 40000 d) (es : d.shown = txt)
    (FU : Fun X.K "_law_caught" "_law_caught" s_l_caught gU gdU) (hb : Binds X.K gdU ["_law_act"] []) (hk : PySem.W.keepIn X.K (.ref gU) = true) (hm : X.mg "_law_caught" = some (.ref gU)) (hg : Gl X "_law_caught")
    (N : ErNames X.mg c) (FK : FnP X.prog X.w X.K X.mg X.base CX0 1 fK fdK ["_law_e"] (spKind X.K c)) (kb : Binds X.K fdK ["_law_e"] []) (kk : PySem.W.keepIn X.K (.ref fK) = true) (km : X.mg "_law_kind" = some (.ref fK)) (mr : X.mg "repr" = none)
    (gds : X.A.guards = some []) (TB : LamX.TabB X.base X.mg c0 P0) (code : X.env.code = .ref c0) (mem : (P0, X.env.qual ++ "<lambda>") ∈ T) (only : ∀ q ∈ T, q.1 = P0 → q.2 = X.env.qual ++ "<lambda>")
    (room : Room 7 X.A) (L : LamX.LamS X.env.scope scope) (dfl : defaultsOf params X.env = ([], []))
    (bind : ∀ (q : Str) (cl : List (Str × Addr)) (pm cv ctv : Value), bindArgs (PySem.W.kla_fn "<lambda>" q params body scope cl pm cv ctv) ⟨[], []⟩ = pure [])
    (walk : ∀ (A : Around) (outer : List Env) (s : Shared) (H : Hp) (E : XK) (f c' : Addr), A.guards = some [] → Room 4 (A.deeper (LamX.lamEnv X scope s.heap.objs.size f c')) → PE (lamC X A outer s H E scope f c') body (t E))
    (sem : ∀ (E : XK) sl H Q, Lets CF v H E → t E sl H Q) :
    PE X (.Call (.Name "_law_caught" p) [.Lambda params body scope lp] [] pos) (wFr T txt) := by
  refine pe_weak (pe_caught (RR := RD) (k := 4) (j := 0) (T := T) (c := c) (t := t) FU hb hk hm hg N FK kb kk km mr ?rr RD.mono gds TB code mem only room L dfl bind walk) ?_
  case rr =>
    intro Y q e1 e2 e3 e4 e5 g r _ _
    exact reprD (by rw [e5]; exact sys) g (by have := r.un; omega)
  rintro sl H Q ⟨tabs, q⟩
  refine ⟨tabs, fun H1 e1 t1 => sem _ _ _ _ ?_⟩
  exact fr_lets TF dq sq es fun M H' s' hM => q M H' (e1.trans (LamX.ExtN.of s')) (t1.ext s') (noT_of hM)
theorem pair_ne {D : Ends} {sl : L2.St} {H : Hp} {txt : Str} {T : List (Addr × Str)} (ok : PyData.strOk txt = true) (tabs : LamX.Tabs T H) (q : ∀ H', LamX.ExtN H H' → LamX.Tabs T H' → D.nx sl H') :
    tIfS (tTest (tOp (rNeD K) (wFr T txt) (tLst (tCons (tC (.int 0)) (tCons (tC (.str txt)) tNil))))) (tRet (tC (V.bl false))) tNext D sl H := by
  refine ⟨tabs, fun M H1 x1 t1 hM => ⟨line_n (by show (2 : Nat) ≤ 900; decide), fun L nL => ?_⟩⟩
  have s2 := same_upd (o := .lst [.int 0, .str txt]) nL
  have dp : ∀ {H' : Hp} {N : Addr}, H' N = some (.lst [.int 0, .str txt]) → Dp K H' (.ref N) (.list [.int 0, .str txt]) := fun h => .lst (SqL.of h) (.cons (.int _) (.cons (.str _) .nil))
  have sh : SeqAt.shaped (.list [.int 0, .str txt]) = true := by simp [SeqAt.shaped, PyData.canLay0, PyData.canLayAll0, PyData.depth, PyData.depthAll, ok]
  refine ⟨_, _, dp (s2 _ _ (noT_same _ _ hM)), dp upd_same, sh, sh, _, rfl, ?_⟩
  have e : PyData.eqv (.list [.int 0, .str txt]) (.list [.int 0, .str txt]) = true := by simp [PyData.eqv, PyData.eqvAll]
  rw [e]
  exact iteF (q _ (x1.trans (LamX.ExtN.of s2)) (t1.ext s2))
theorem zero_shown : PyData.shown (.int 0) = Str.ofString "0" := by decide +kernel
theorem true_shown : PyData.shown (.bool true) = Str.ofString "True" := by decide +kernel
/-- the two lambdas -/
theorem hand_three {T : List (Addr × Str)} {c : Nat → Addr} {CF gU gF fK c1 P1 : Addr} {gdU fdF fdK : FuncData} {A : Around} {outer : List Env} {s : Shared} {H : Hp} {E : XK} {rest : List Stmt} {tr : TS} (hg : A.guards = some []) (hr : Room 12 (A.deeper (envOfC "_law_by_hand" (defScope s_l_by_hand) s.heap.objs.size f (.ref c1))))
    (TB : LamX.TabB base mg c1 P1) (mem : (P1, lamQ "_law_by_hand") ∈ T) (only : ∀ q ∈ T, q.1 = P1 → q.2 = lamQ "_law_by_hand") (TF : Told K c CF 0) (sys : ∃ o, base.get? sysModules = some o) (mr : mg "repr" = none)
    (FU : Fun K "_law_caught" "_law_caught" s_l_caught gU gdU) (bU : Binds K gdU ["_law_act"] []) (kU : PySem.W.keepIn K (.ref gU) = true) (mU : mg "_law_caught" = some (.ref gU))
    (N : ErNames mg c) (FK : FnP P w K mg base CX0 1 fK fdK ["_law_e"] (spKind K c)) (bK : Binds K fdK ["_law_e"] []) (kK : PySem.W.keepIn K (.ref fK) = true) (mK : mg "_law_kind" = some (.ref fK))
    (GF : FnG P w K mg base (L2N.CX P w) 4 gF fdF ["top", "bottom"] (spFracX K CF)) (BF : FracCalls K fdF) (kF : PySem.W.keepIn K (.ref gF) = true) (mF : mg "fraction" = some (.ref gF))
    (hrest : PSs (cxOf CX0 P w K mg base ["_law_half", "_law_twins", "_law_door", "_law_thing_here", "_law_rows", "_law_row"] "_law_by_hand" (defScope s_l_by_hand) f (.ref c1) A outer s H E).nox rest tr) :
    PSs (cxOf CX0 P w K mg base ["_law_half", "_law_twins", "_law_door", "_law_thing_here", "_law_rows", "_law_row"] "_law_by_hand" (defScope s_l_by_hand) f (.ref c1) A outer s H E).nox (((defBody s_l_by_hand).drop 5).take 2 ++ rest)
      (fun D sl H => LamX.Tabs T H ∧ ∀ H', LamX.ExtN H H' → LamX.Tabs T H' → tr D sl H') := by
  obtain ⟨d1, vd1, bF⟩ := BF.b1
  obtain ⟨its, kt⟩ := BF.kt
  have r6 : Room 7 _ := hr.mono (by decide)
  refine pss_w (pss_cons (ps_if (pt_cmpR (op_neD hr.units) (pe_fr (T := T) (txt := Str.ofString "0") (v := .int 0) (d := .int 0) (t := fun E => tCall (spFracX K CF) [.int 1] E (tCons (tC (.int 0)) tNil)) TF sys (fun _ => .int 0) ((sq_int (by decide +kernel)).up (by decide) (by decide)) zero_shown FU bU kU mU rfl N FK bK kK mK mr hg TB rfl mem only r6 (LamX.lamS_by (by show LamX.lamSB (defScope s_l_by_hand) _ = true; decide +kernel)) rfl (fun _ _ _ _ _ => rfl)
        (fun A outer s H E f c' g r => callG GF g r rfl mF kF bF vd1 (passL2N (L2N.takes_of rfl rfl rfl rfl)) (pa_cons pe_int pa_nil)) (fun E sl H Q l => ⟨.int 0, .int 1, rfl, .int 0, .int 1, (by show (0 : Int).natAbs < 2 ^ 200; decide +kernel), (by show (1 : Int).natAbs < 2 ^ 200; decide +kernel), l⟩)) (pe_lst (pa_cons pe_int (pa_cons pe_str pa_nil))) (nomark _)) (pss_one (ps_ret pe_bl)) pss_nil)
    (pss_cons (ps_if (pt_cmpR (op_neD hr.units) (pe_fr (T := T) (txt := Str.ofString "True") (v := .bl true) (d := .bool true) (t := fun E => tCallN 0 ([Str.ofString "top"] : List Str).length (spFracX K CF) (fun vs zs => gT vs [.int 1] zs) E tNil (tCons (tC (.bl true)) tNil)) TF sys (fun _ => .bl true) ((Sq.of (Sm.bool true)).up (by decide) (by decide)) true_shown FU bU kU mU rfl N FK bK kK mK mr hg TB rfl mem only r6 (LamX.lamS_by (by show LamX.lamSB (defScope s_l_by_hand) _ = true; decide +kernel)) rfl (fun _ _ _ _ _ => rfl)
        (fun A outer s H E f c' g r => callGK GF g r rfl mF kF kt (passL2N (L2N.takes_of rfl rfl rfl rfl)) (pk_cons pe_bl pk_nil)) (fun E sl H Q l => ⟨rfl, rfl, .bl true, .int 1, rfl, .bl true, .int 1, trivial, (by show (1 : Int).natAbs < 2 ^ 200; decide +kernel), l⟩)) (pe_lst (pa_cons pe_int (pa_cons pe_str pa_nil))) (nomark _)) (pss_one (ps_ret pe_bl)) pss_nil) hrest)) ?_
  rintro D sl H1 ⟨tabs, q⟩
  exact pair_ne (D := { D with nx := _ }) (by decide +kernel) tabs fun H2 x2 t2 => pair_ne (D := { D with nx := tr D }) (by decide +kernel) t2 fun H3 x3 t3 => q H3 (x2.trans x3) t3
end
/-! ### k06_hand4.lean -/
section
variable {P : Program} {w : World} {K : PySem.W.Frag} {mg : Str → Option Value} {base : Heap} {f : Addr} {fd : FuncData}
theorem hand_last {T : List (Addr × Str)} {gD : Addr} {fdD : FuncData} {cdv : Value} {A : Around} {outer : List Env} {s : Shared} {H : Hp} {E : XK} (hg : A.guards = some []) (hr : Room 12 (A.deeper (envOfC "_law_by_hand" (defScope s_l_by_hand) s.heap.objs.size f cdv)))
    (GD : FnG P w K mg base CX0 12 gD fdD ["_law_door", "_law_things"] (spDoor K T)) (bD : Binds K fdD ["_law_door", "_law_things"] []) (kD : PySem.W.keepIn K (.ref gD) = true) (mD : mg "_law_door_right" = some (.ref gD)) :
    PSs (cxOf CX0 P w K mg base ["_law_half", "_law_twins", "_law_door", "_law_thing_here", "_law_rows", "_law_row"] "_law_by_hand" (defScope s_l_by_hand) f cdv A outer s H E).nox ((defBody s_l_by_hand).drop 7)
      (fun D sl H => C1 K sl H ∧ LamX.Tabs T H ∧ ∀ H', LamX.ExtN H H' → LamX.Tabs T H' → D.rt (.bl true) H') := by
  have m1 := mon1 (K := K)
  have m3 := mon3 (K := K)
  have half : ∀ {es : Pos}, PE (cxOf CX0 P w K mg base ["_law_half", "_law_twins", "_law_door", "_law_thing_here", "_law_rows", "_law_row"] "_law_by_hand" (defScope s_l_by_hand) f cdv A outer s H E).nox (.Name "_law_half" es) (yV (Th K) (C1 K)) := yV_var (i := 0) (pv 0) fun _ _ h => h.1.1
  have thing : ∀ {es : Pos}, PE (cxOf CX0 P w K mg base ["_law_half", "_law_twins", "_law_door", "_law_thing_here", "_law_rows", "_law_row"] "_law_by_hand" (defScope s_l_by_hand) f cdv A outer s H E).nox (.Name "_law_thing_here" es) (yV (Th K) (C3 K)) := yV_var (i := 3) (pv 3) fun _ _ h => h.2
  have one : ∀ {C : L2.St → Hp → Prop} {j : Nat} {p : Pos}, PE (cxOf CX0 P w K mg base ["_law_half", "_law_twins", "_law_door", "_law_thing_here", "_law_rows", "_law_row"] "_law_by_hand" (defScope s_l_by_hand) f cdv A outer s H E).nox (.Constant (.int 1) j p) (yV (Th K) C) := yT_w (wT_i (i := 1) wI_c (by decide +kernel))
  refine pss_w (pss_cons (ps_for PassesOwn.never rfl (pi_list (yL_cat monT m1 (yL_var (i := 1) (n := 6) (pv 1) fun _ _ h => h.1.2)
      (yVs_cons monT m1 (yT_w (wT_str half_txt (by decide +kernel))) (yVs_cons monT m1 half (yVs_cons monT m1 one (yVs_cons monT m1 (yT_w (wT_str .no1 (by decide +kernel))) yVs_nil)))) (by decide))) (pg_name (i := 3) scHand6.nd rfl (.inl rfl))
      (pss_one (ps_if (PW.pt (pw_or (pt_not (pt_val (callG GD hg hr rfl mD kD bD .nil pass0 (pa_cons pe_int (pa_cons (yL_list monT (yVs_cons monT m3 thing (yVs_cons monT m3 one (yVs_cons monT m3 one yVs_nil))) (by decide)) pa_nil)))))
        (pw_or1 (pt_not (pt_val (callG GD hg hr rfl mD kD bD .nil pass0 (pa_cons pe_int (pa_cons (yL_list monT (yVs_cons monT m3 thing (yVs_cons monT m3 one (yVs_cons monT m3 one yVs_nil))) (by decide)) pa_nil)))))))) (pss_one (ps_ret pe_bl)) pss_nil)))
    (pss_one (ps_ret pe_bl))) ?_
  rintro D sl H1 ⟨c, tabs, q⟩
  refine ⟨c, fun M ts H2 s2 hM l10 all => ?_⟩
  have c2 := m1 _ _ _ c (same_noT s2)
  have t2 := tabs.ext s2
  have x2 := LamX.ExtN.of s2
  refine ⟨M, rfl, ⟨_, SqL.of (noT_same _ _ hM)⟩, ?_⟩
  refine for_list (K := K) (a := M) (xs := ts) (fun i σ H' => Agr sl σ ∧ LamX.ExtN H2 H' ∧ LamX.Tabs T H') ⟨Agr.refl, LamX.ExtN.refl H2, t2⟩ (fun i σ H' _ h => SqL.of (noT_same _ _ (noT_ext h.2.1 _ _ hM))) ?_ ?_
  · rintro i v σ H3 hi ⟨ag, x3, t3⟩
    have cc := (c2.agr ag (noT_ext x3)).agr (Agr.refl.set (i := 3) (o := some v) (by decide)) (Same.refl _)
    have l3 : σ.length = 6 := ag.2.2.trans c2.2
    have c3 : C3 K (σ.set 3 (some v)) H3 := ⟨cc, v, List.getElem?_set_self (by omega), monT _ _ _ (all v (List.mem_of_getElem? hi)) (noT_ext x3)⟩
    refine ⟨c3, fun L1 vs1 H4 s4 hL1 l1 a1 => ?_⟩
    obtain ⟨x, y, z, rfl⟩ : ∃ x y z, vs1 = [x, y, z] := by
      match vs1, l1 with
      | [x, y, z], _ => exact ⟨x, y, z, rfl⟩
    refine ⟨4, L1, x, y, z, rfl, by decide, by decide, hL1, a1 x (by simp), a1 y (by simp), a1 z (by simp), t3.ext s4, fun H5 x5 t5 => ⟨_, rfl, iteF ?_⟩⟩
    have x35 := (LamX.ExtN.of s4).trans x5
    have c5 := m3 _ _ _ c3 (noT_ext x35)
    refine ⟨c5, fun L2 vs2 H6 s6 hL2 l2 a2 => ?_⟩
    obtain ⟨x', y', z', rfl⟩ : ∃ x y z, vs2 = [x, y, z] := by
      match vs2, l2 with
      | [x, y, z], _ => exact ⟨x, y, z, rfl⟩
    refine ⟨5, L2, x', y', z', rfl, by decide, by decide, hL2, a2 x' (by simp), a2 y' (by simp), a2 z' (by simp), t5.ext s6, fun H7 x7 t7 => ⟨_, rfl, iteF ?_⟩⟩
    exact ⟨ag.set (by decide), x3.trans (x35.trans ((LamX.ExtN.of s6).trans x7)), t7⟩
  · rintro σ H3 ⟨ag, x3, t3⟩
    exact q H3 (x2.trans x3) t3
def spHand (T : List (Addr × Str)) : Sp := fun vs H Q _ => vs = [] ∧ LamX.Tabs T H ∧ ∀ H', LamX.ExtN H H' → LamX.Tabs T H' → Q (.bl true) H'
theorem ok_hand {T : List (Addr × Str)} {c : Nat → Addr} {CF gU gF gD fK c1 P1 : Addr} {gdU fdF fdD fdK : FuncData} (F : Fun K "_law_by_hand" "_law_by_hand" s_l_by_hand f fd) (cc : fd.code = .ref c1)
    (TB : LamX.TabB base mg c1 P1) (mem : (P1, lamQ "_law_by_hand") ∈ T) (only : ∀ q ∈ T, q.1 = P1 → q.2 = lamQ "_law_by_hand") (TF : Told K c CF 0) (sys : ∃ o, base.get? sysModules = some o) (mr : mg "repr" = none) (ma : mg "all" = none)
    (FU : Fun K "_law_caught" "_law_caught" s_l_caught gU gdU) (bU : Binds K gdU ["_law_act"] []) (kU : PySem.W.keepIn K (.ref gU) = true) (mU : mg "_law_caught" = some (.ref gU))
    (N : ErNames mg c) (FK : FnP P w K mg base CX0 1 fK fdK ["_law_e"] (spKind K c)) (bK : Binds K fdK ["_law_e"] []) (kK : PySem.W.keepIn K (.ref fK) = true) (mK : mg "_law_kind" = some (.ref fK))
    (GF : FnG P w K mg base (L2N.CX P w) 4 gF fdF ["top", "bottom"] (spFracX K CF)) (BF : FracCalls K fdF) (kF : PySem.W.keepIn K (.ref gF) = true) (mF : mg "fraction" = some (.ref gF))
    (GD : FnG P w K mg base CX0 12 gD fdD ["_law_door", "_law_things"] (spDoor K T)) (bD : Binds K fdD ["_law_door", "_law_things"] []) (kD : PySem.W.keepIn K (.ref gD) = true) (mD : mg "_law_door_right" = some (.ref gD)) :
    FnG P w K mg base CX0 13 f fd [] (spHand T) := by
  refine okGT F cc scHand6 (fun vs H Q E h => ?_) (fun A outer s H vs Q E hg hr h => ?_)
  · obtain ⟨rfl, _⟩ := h
    rfl
  obtain ⟨rfl, tabs, q⟩ := h
  have m0 : MonC (fun (sl : L2.St) (_ : Hp) => sl.length = 6) := fun _ _ _ h _ => h
  refine ⟨_, pss_cons (ps_par (i := 0) (j := 1) (by rfl) scHand6.nd rfl rfl (by decide) rfl rfl (pa_cons (yT_w (C := fun sl _ => sl.length = 6) (wT_pair (wS_i (i := 1) wI_c (by decide +kernel)) (wS_i (i := 2) wI_c (by decide +kernel))))
      (pa_cons (yL_list monT (yVs_cons monT m0 (yT_w (wT_pair (wS_i (i := 1) wI_c (by decide +kernel)) wS_bl)) (yVs_cons monT m0 (yT_w (wT_pair wS_bl (wS_i (i := 1) wI_c (by decide +kernel)))) (yVs_cons monT m0 (yT_w (wT_pair (wS_i (i := 2) wI_c (by decide +kernel)) (wS_i (i := 4) wI_c (by decide +kernel))))
        (yVs_cons monT m0 (yT_w (wT_pair (wS_i (i := 1) wI_c (by decide +kernel)) (wS_i (i := 0) wI_c (by decide +kernel)))) (yVs_cons monT m0 (yT_w (wT_lst2 (wS_i (i := 1) wI_c (by decide +kernel)) (wS_i (i := 2) wI_c (by decide +kernel)))) (yVs_cons monT m0 (yT_w wT_non) yVs_nil)))))) (by decide)) pa_nil)) (by rfl))
    (hand_loops (rest := (defBody s_l_by_hand).drop 2) hg hr ma GD bD kD mD (hand_two (rest := (defBody s_l_by_hand).drop 5) hg hr ma GD bD kD mD (hand_three (rest := (defBody s_l_by_hand).drop 7) hg hr TB mem only TF sys mr FU bU kU mU N FK bK kK mK GF BF kF mF (hand_last hg hr GD bD kD mD)))), ?_⟩
  refine ⟨rfl, fun h H1 s1 th => ⟨rfl, fun M ts H2 s2 hM l6 all => ⟨_, _, rfl, ?_⟩⟩⟩
  have c1 : C1 K (((L2.start ["_law_half", "_law_twins", "_law_door", "_law_thing_here", "_law_rows", "_law_row"] []).set 0 (some h)).set 1 (some (V.ref M))) H2 := ⟨⟨⟨h, rfl, monT _ _ _ th (same_noT s2)⟩, ⟨M, ts, rfl, hM, l6, all⟩⟩, rfl⟩
  have x2 := LamX.ExtN.of (s1.trans s2)
  refine ⟨c1, tabs.ext (s1.trans s2), fun sl1 H3 ag1 x3 t3 => ?_⟩
  have c3 := c1.agr ag1 (noT_ext x3)
  refine ⟨c3, t3, fun sl2 H4 ag2 x4 t4 => ?_⟩
  have c4 := c3.agr ag2 (noT_ext x4)
  refine ⟨t4, fun H5 x5 t5 => ?_⟩
  exact ⟨c4.agr Agr.refl (noT_ext x5), t5, fun H6 x6 t6 => q H6 (x2.trans (x3.trans (x4.trans (x5.trans x6)))) t6⟩
end
/-! ### k06_right.lean -/
/-- all but the pool and the tables stays -/
def KeepN (p : Addr) (H H' : Hp) : Prop := ∀ b o, b ≠ p → H b = some o → (∀ ps, o ≠ .tbl ps) → H' b = some o
theorem KeepN.refl (p : Addr) (H : Hp) : KeepN p H H := fun _ _ _ h _ => h
theorem KeepN.trans {p : Addr} {H H1 H2 : Hp} (a : KeepN p H H1) (b : KeepN p H1 H2) : KeepN p H H2 := fun c o n h t => b c o n (a c o n h t) t
theorem KeepN.of_keep {p : Addr} {H H' : Hp} (k : Keep p H H') : KeepN p H H' := fun b o n h _ => k b o n h
theorem KeepN.of_ext {p : Addr} {H H' : Hp} (k : LamX.ExtN H H') : KeepN p H H' := fun b o _ h t => k b o h t
theorem tabs_keep {T : List (Addr × Str)} {p : Addr} {H H' : Hp} (t : LamX.Tabs T H) (k : Keep p H H') (hp : Pool H p) : LamX.Tabs T H' := fun q hq => by
  obtain ⟨_, _, _, ey, _⟩ := hp
  obtain ⟨ps, h1, h2, h3⟩ := t q hq
  refine ⟨ps, k _ _ (fun e => by rw [e, ey] at h1; cases h1) h1, h2, fun pos cv hc => ?_⟩
  obtain ⟨c, e1, e2⟩ := h3 pos cv hc
  exact ⟨c, e1, k _ _ (fun e => by rw [e, ey] at e2; unfold LamX.CodeO at e2; cases e2) e2⟩
theorem Pool.ext {p : Addr} {H H' : Hp} (hp : Pool H p) (e : LamX.ExtN H H') : Pool H' p := by
  obtain ⟨x, d, c, ey, r⟩ := hp
  exact ⟨x, d, c, e _ _ ey (by intro _ z; cases z), r⟩
theorem hid_put {S : Addr → Bool} {H : Hp} {D : Addr} {o : HO} (h : S D = true) : Same (hid S H) (hid S (upd H D o)) := fun b u e => let ⟨x, y, z⟩ := hid_get e; hid_of x (by rw [upd_ne (fun w => by rw [w, h] at x; cases x)]; exact y) z
section
variable {P : Program} {w : World} {K : PySem.W.Frag} {mg : Str → Option Value} {base : Heap} {f : Addr} {fd : FuncData}
theorem scRight6 : FnScope ["_law_pool_here", "_law_turn", "_law_door", "_law_go"] ["_law_pool_here"] (defScope s_l_right) := ⟨rfl, rfl, rfl, by decide +kernel, rfl, by decide +kernel, by decide +kernel⟩
def spRight (T : List (Addr × Str)) : Sp := fun vs H Q _ => ∃ (p : Addr), vs = [.ref p] ∧ Pool H p ∧ LamX.Tabs T H ∧ ∀ H', KeepN p H H' → Pool H' p → LamX.Tabs T H' → Q (.bl true) H'
theorem ok_right {T : List (Addr × Str)} {g1 gD : Addr} {gd1 fdD : FuncData} (F : Fun K "_law_right" "_law_right" s_l_right f fd) (mr : mg "range" = none)
    (G1 : FnOk P w K mg base CX0 5 g1 gd1 ["_law_pool_here", "_law_door"] (spThing K)) (b1 : Binds K gd1 ["_law_pool_here", "_law_door"] []) (k1 : PySem.W.keepIn K (.ref g1) = true) (m1 : mg "_law_thing" = some (.ref g1))
    (GD : FnG P w K mg base CX0 12 gD fdD ["_law_door", "_law_things"] (spDoor K T)) (bD : Binds K fdD ["_law_door", "_law_things"] []) (kD : PySem.W.keepIn K (.ref gD) = true) (mD : mg "_law_door_right" = some (.ref gD)) :
    FnG P w K mg base CX0 13 f fd ["_law_pool_here"] (spRight T) := by
  refine okG F scRight6 (fun vs H Q E h => ?_) (fun cdv A outer s H vs Q E hg hr h => ?_)
  · obtain ⟨a, rfl, _⟩ := h
    rfl
  obtain ⟨p, rfl, hp, tabs, q⟩ := h
  have r4 : Room 5 _ := hr.mono (by decide)
  refine ⟨_, pss_cons (ps_for PassesOwn.never rfl (pi_range1 rfl mr (pa_cons pe_int pa_nil)) (pg_name (i := 1) scRight6.nd rfl (.inl rfl))
      (pss_one (ps_for PassesOwn.never rfl (pi_range1 rfl mr (pa_cons pe_int pa_nil)) (pg_name (i := 2) scRight6.nd rfl (.inr rfl))
        (pss_one (ps_if (pt_not (pt_val (callG GD hg hr rfl mD kD bD .nil pass0 (pa_cons (pv 2) (pa_cons
          (pe_lc (own := [("_law_go", 3)]) (g := gName 3) (tt := tYes) (by rfl) scRight6.nd (pi_range1 rfl mr (pa_cons pe_int pa_nil)) (blkOk_by (own := [("_law_go", 3)]) (N := ["_law_pool_here", "_law_turn", "_law_door", "_law_go"]) (sc := defScope s_l_right) (by decide +kernel))
            (fun _ _ _ _ _ => pg_name (i := 3) scRight6.nd rfl (Or.inl rfl)) (fun _ _ _ _ _ => pts_nil)
            (fun _ _ _ _ _ => pe_call G1 r4 rfl m1 k1 b1 .nil pass0 (pa_cons (pv 0) (pa_cons (pv 2) pa_nil)))) pa_nil))))) (pss_one (ps_ret pe_bl)) pss_nil)))))
    (pss_one (ps_ret pe_bl)), ?_⟩
  refine ⟨12, rfl, by decide, by decide, for_range (n := 12) (fun _ σ H1 => ∃ v1 v2 v3, σ = [some (.ref p), v1, v2, v3] ∧ KeepN p H H1 ∧ Pool H1 p ∧ LamX.Tabs T H1) ⟨_, _, _, rfl, KeepN.refl p H, hp, tabs⟩ ?_ ?_⟩
  · rintro i σ H1 hi ⟨v1, v2, v3, rfl, kp, hp1, tabs1⟩
    refine ⟨6, rfl, by decide, by decide, for_range (n := 6) (fun _ σ H1 => ∃ v1 v2 v3, σ = [some (.ref p), v1, v2, v3] ∧ KeepN p H H1 ∧ Pool H1 p ∧ LamX.Tabs T H1) ⟨_, _, _, rfl, kp, hp1, tabs1⟩ ?_ ?_⟩
    · rintro j σ H2 hj ⟨w1, w2, w3, rfl, kp2, hp2, tabs2⟩
      refine ⟨_, rfl, 3, rfl, by decide, by decide, fun D nD => ?_⟩
      have sD := same_upd (o := .lst []) nD
      have sp : (fun b => b == p || b == D) p = true := by simp
      have sd : (fun b => b == p || b == D) D = true := by simp
      refine lc_range (lo := 0) (n := 3) (fun i C => Keep p H2 C ∧ Pool C p ∧ LamX.Tabs T C ∧ ∃ vs, C D = some (.lst vs) ∧ vs.length = i ∧ ∀ v ∈ vs, Th K (hid (fun b => b == p || b == D) C) v) ⟨Same.keep sD p, hp2.same sD, tabs2.ext sD, [], upd_same, rfl, fun v m => by cases m⟩ ?_ ?_
      · rintro l C hl ⟨k3, hp3, t3, vs, hD, len, all⟩
        have held : Held (fun b => b == p || b == D) C := fun b e => by
          rcases Bool.or_eq_true _ _ ▸ e with e | e
          · obtain ⟨_, _, _, ey, _⟩ := hp3
            rw [beq_iff_eq.mp e, ey]; exact fun t => nomatch t
          · rw [beq_iff_eq.mp e, hD]; exact fun t => nomatch t
        refine ⟨rfl, _, rfl, _, rfl, p, _, (fun b => b == p || b == D), rfl, hp3, sp, held, fun v C2 k4 hp4 tv => ?_⟩
        have nDp : D ≠ p := fun e => by
          obtain ⟨_, _, _, ey, _⟩ := hp2
          rw [e, ey] at nD
          cases nD
        have hD2 := k4 _ _ nDp hD
        refine ⟨vs, hD2, by rw [len]; exact small1000 (by omega), ?_, ?_, tabs_put hD2 (tabs_keep t3 k4 hp3), vs ++ [v], upd_same, by rw [List.length_append, len]; rfl, fun u hu => ?_⟩
        · intro b o n e
          rw [upd_ne (ne_of_none e nD)]
          exact k4 _ _ n (k3 _ _ n e)
        · obtain ⟨x, d, c, ey, r⟩ := hp4
          exact ⟨x, d, c, by rw [upd_ne nDp.symm]; exact ey, r⟩
        · rcases List.mem_append.mp hu with m | m
          · exact ((all u m).same (hid_keepS sp k4)).same (hid_put sd)
          · rw [List.mem_singleton.mp m]
            exact tv.same (hid_put sd)
      · rintro C ⟨k3, hp3, t3, vs, hD, len, all⟩
        obtain ⟨x, y, z, rfl⟩ : ∃ x y z, vs = [x, y, z] := by
          match vs, len with
          | [x, y, z], _ => exact ⟨x, y, z, rfl⟩
        refine ⟨_, D, x, y, z, rfl, by omega, by omega, noT_of hD, (all x (by simp)).same hid_noT, (all y (by simp)).same hid_noT, (all z (by simp)).same hid_noT, t3, fun H3 x3 t4 => ?_⟩
        exact ⟨_, rfl, iteF ⟨_, _, _, rfl, kp2.trans ((KeepN.of_keep k3).trans (KeepN.of_ext x3)), hp3.ext x3, t4⟩⟩
    · rintro σ H2 ⟨w1, w2, w3, rfl, kp2, hp2, tabs2⟩
      exact ⟨_, _, _, rfl, kp2, hp2, tabs2⟩
  · rintro σ H1 ⟨v1, v2, v3, rfl, kp, hp1, tabs1⟩
    exact q _ kp hp1 tabs1
end
/-! ### k06_law.lean -/
section
variable {P : Program} {w : World} {K : PySem.W.Frag} {mg : Str → Option Value} {base : Heap} {f : Addr} {fd : FuncData}
theorem sq_noT {H H' : Hp} {a : Addr} {xs : List V} (h : SqL K H a xs) (s : Same (noT H) H') : SqL K H' a xs := by
  rcases h with (h | ⟨o, h⟩) | h
  · exact .inl (.inl (s _ _ (noT_of h)))
  · exact .inl (.inr ⟨o, s _ _ (noT_of h)⟩)
  · exact .inr h
theorem scLaw : FnScope ["_law_script", "_law_k"] ["_law_script"] (defScope s_law) := ⟨rfl, rfl, rfl, by decide +kernel, rfl, by decide +kernel, by decide +kernel⟩
def spLaw (K : PySem.W.Frag) (T : List (Addr × Str)) : Sp := fun vs H Q _ => ∃ (a : Addr) (ns : List Int), vs = [.ref a] ∧ SqL K H a (ns.map V.int) ∧ ns.length ≤ 63 ∧ LamX.Tabs T H ∧ ∀ H', Q (.bl true) H'
theorem ok_law {T : List (Addr × Str)} {g1 gR gP gC : Addr} {gd1 gdR gdP gdC : FuncData} (F : Fun K "law" "law" s_law f fd) (ma : mg "all" = none) (mrg : mg "range" = none) (mx : mg "max" = none) (mn : mg "min" = none) (ml : mg "len" = none)
    (GR : FnG P w K mg base CX0 13 gR gdR ["_law_pool_here"] (spRight T)) (bR : Binds K gdR ["_law_pool_here"] []) (kR : PySem.W.keepIn K (.ref gR) = true) (mR : mg "_law_right" = some (.ref gR))
    (GP : FnOk P w K mg base CX0 2 gP gdP ["_law_figure"] spPool) (bP : Binds K gdP ["_law_figure"] []) (kP : PySem.W.keepIn K (.ref gP) = true) (mP : mg "_law_pool" = some (.ref gP))
    (GC : FnOk P w K mg base CX0 2 gC gdC ["_law_script", "_law_k"] (spCell K)) (bC : Binds K gdC ["_law_script", "_law_k"] []) (kC : PySem.W.keepIn K (.ref gC) = true) (mC : mg "_law_cell" = some (.ref gC))
    (G1 : FnG P w K mg base CX0 13 g1 gd1 [] (spHand T)) (b1 : Binds K gd1 [] []) (k1 : PySem.W.keepIn K (.ref g1) = true) (m1 : mg "_law_by_hand" = some (.ref g1)) :
    FnG P w K mg base CX0 14 f fd ["_law_script"] (spLaw K T) := by
  refine okG F scLaw (fun vs H Q E h => ?_) (fun cdv A outer s H vs Q E hg hr h => ?_)
  · obtain ⟨a, ns, rfl, _⟩ := h
    rfl
  obtain ⟨a, ns, rfl, hS, h63, tabs, q⟩ := h
  have r1 : Room 2 _ := hr.mono (by decide)
  refine ⟨_, pss_cons (ps_if (pt_not (pt_val (callG0 G1 hg hr rfl m1 k1 b1 .nil pass0))) (pss_one (ps_ret pe_bl)) pss_nil)
    (pss_one (ps_ret (pe_callB (cr_all (by rfl)) (by rfl) ma (by decide +kernel) (pa_cons
          (pe_lc (own := [("_law_k", 1)]) (g := gName 1) (tt := tYes) (by rfl) scLaw.nd
            (pi_range1 rfl mrg (pa_cons (pe_callB (call_max2 (by rfl)) (by rfl) mx (by decide +kernel) (pa_cons pe_int (pa_cons (pe_callB (call_min2 (by rfl)) (by rfl) mn (by decide +kernel) (pa_cons (pe_callB call_len_seq (by rfl) ml PySem.boot_len (pa_cons (pv 0) pa_nil)) (pa_cons pe_int pa_nil))) pa_nil))) pa_nil))
            (blkOk_by (own := [("_law_k", 1)]) (N := ["_law_script", "_law_k"]) (sc := defScope s_law) (by decide +kernel))
            (fun _ _ _ _ _ => pg_name (i := 1) scLaw.nd rfl (Or.inl rfl)) (fun _ _ _ _ _ => pts_nil)
            (fun _ _ _ _ _ => callG GR hg hr rfl mR kR bR .nil pass0 (pa_cons (pe_call GP r1 rfl mP kP bP .nil pass0 (pa_cons (pe_call GC r1 rfl mC kC bC .nil pass0 (pa_cons (pv 0) (pa_cons (pv 1) pa_nil))) pa_nil)) pa_nil))) pa_nil)))), ?_⟩
  refine ⟨rfl, tabs, fun Z xZ tZ => ⟨_, rfl, iteF ?_⟩⟩
  have hZ : SqL K Z a (ns.map V.int) := sq_noT hS ((noT_ext xZ).trans noT_same)
  refine ⟨_, rfl, a, _, rfl, .inl hZ, _, _, rfl, _, _, rfl, ?_⟩
  have bounds : ∀ x : Int, 0 ≤ x → x ≤ 63 → 0 ≤ (if (if (5 : Int) < x then 5 else x) > 2 then (if (5 : Int) < x then 5 else x) else 2) ∧ (if (if (5 : Int) < x then 5 else x) > 2 then (if (5 : Int) < x then 5 else x) else 2) ≤ 5 := by
    intro x h0 h1
    split <;> split <;> omega
  have bd := bounds (((ns.map V.int).length : Nat) : Int) (by omega) (by rw [List.length_map]; omega)
  refine ⟨_, rfl, ?_⟩
  generalize (if (if (5 : Int) < (((ns.map V.int).length : Nat) : Int) then 5 else (((ns.map V.int).length : Nat) : Int)) > 2 then (if (5 : Int) < (((ns.map V.int).length : Nat) : Int) then 5 else (((ns.map V.int).length : Nat) : Int)) else 2) = m at bd ⊢
  refine ⟨by omega, by omega, fun D nD => ?_⟩
  have sD := same_upd (o := .lst []) nD
  have nD0 : ∀ u, Z D = some u → ∃ ps, u = .tbl ps := fun u e => by rw [nD] at e; cases e
  refine lc_range (lo := 0) (n := m.toNat) (fun i C => LamX.ExtN Z C ∧ LamX.Tabs T C ∧ C D = some (.lst (List.replicate i (.bl true)))) ⟨LamX.ExtN.of sD, tZ.ext sD, upd_same⟩ ?_ ?_
  · rintro i C hi ⟨x1, t1, hD⟩
    refine ⟨rfl, _, rfl, _, rfl, a, ns, 0 + i, rfl, sq_noT hZ ((noT_ext x1).trans noT_same), h63, by omega, by omega, fun z H8 s11 => ?_⟩
    refine ⟨z, rfl, fun p H9 s12 np pl => ?_⟩
    refine ⟨p, rfl, pl, t1.ext (s11.trans s12), fun H10 kp pl2 t10 => ?_⟩
    have x2 : LamX.ExtN C H10 := fun b o e nt => kp b o (ne_of_none (s11 _ _ e) np) ((s11.trans s12) _ _ e) nt
    have hD2 := x2 _ _ hD (by intro _ z; cases z)
    refine ⟨_, hD2, by rw [List.length_replicate]; exact small1000 (by omega), ext_put (x1.trans x2) nD0, tabs_put hD2 t10, ?_⟩
    rw [upd_same, rep_snoc]
  · rintro C ⟨x1, t1, hD⟩
    refine ⟨D, List.replicate m.toNat true, rfl, ?_, ?_⟩
    · rw [rep_bl]
      exact SqL.of hD
    · rw [all_true]
      exact q _
end
/-! ### endtab.lean -/
/-! the end where defs make lambdas: their tables of code objects are tracked from the start -/
section
variable {P : Program} {w : World} {K : PySem.W.Frag} {mg mb : Str → Option Value} {k : Nat} {fa a : Addr} {fd : FuncData} {x : Str} {sp : Sp} {st : Shared} {vs : List Value} {ns : List Int} {cs : List (Addr × Addr)}
/-- what is known of the heap behind the top -/
structure Rear (K : PySem.W.Frag) (mg mb : Str → Option Value) (cs : List (Addr × Addr)) (h : Heap) : Prop where
  inK : K.In h
  g : h.Ns mainGlobals mg
  b : h.Ns builtinsNs mb
  boot : ∀ x : Str, x ≠ "__name__" → mb x = bootBuiltins x
  lim : h.NoLimit
  mods : ∃ mm, h.Ns sysModules mm
  main : ∃ bm ob, mg "__builtins__" = some (.ref bm) ∧ bm ≠ builtinsNs ∧ h.get? bm = some ob ∧ ob.cls = .type "module" ∧ ob.dict = some builtinsNs ∧ ob.data = .plain
  tab : ∀ p ∈ cs, h.get? p.2 = some { cls := .none, data := .fields #[] }
  head : ∀ p ∈ cs, PySem.W.CodeHd h p.1 p.2
  free : ∀ p ∈ cs, K.lookup p.2 = none
theorem endCoreT (R : Rear K mg mb cs st.heap) (gens : st.gens = #[]) (ha : st.heap.get? a = some { cls := .type "list", data := .seq vs.toArray }) (hr : Room k callerA)
    (F : ∀ base : Heap, K.In base → base.Ns mainGlobals mg → (∃ o, base.get? sysModules = some o) → (∀ p ∈ cs, LamX.TabB base mg p.1 p.2) → FnG P w K mg base CX0 k fa fd [x] sp) (bind : ∀ (s : Shared) (u : Value), BindsTo s fd ⟨[u], []⟩ [(x, u)])
    {H : Hp} (hH : ∀ p ∈ cs, H p.2 = some (.tbl #[])) (only : ∀ b, H b = none ∨ (∃ p ∈ cs, p.2 = b) ∨ ∃ o xs, H b = some (.frz o (.lst xs))) (ok : HOk P w H st.heap) (one : ∀ b, H b ≠ none → b = a ∨ ∃ p ∈ cs, p.2 = b) (notK : H a ≠ none → K.lookup a = none)
    (want : sp [.ref a] H (fun v _ => v = .bl true) fun _ _ _ => False) :
    codeAny (model P w) callerA (.call (.ref fa) ⟨[.ref a], []⟩) (fun r s' => r = .ok (.ret (.bool true)) ∧ OldK st.heap s'.heap ∧ s'.os = st.os ∧ AllBare s'.gens) st := by
  have untracked : ∀ {b : Addr} {o : Obj}, st.heap.get? b = some o → (∀ n, o.data ≠ .seq vs.toArray n) → o.data ≠ .fields #[] → H b = none := by
    intro b o e n1 n2
    refine Option.eq_none_iff_forall_ne_some.mpr fun u z => ?_
    rcases one b (by rw [z]; exact fun t => nomatch t) with eb | ⟨p, hp, eb⟩
    · subst eb
      rw [ha] at e
      cases e
      exact n1 _ rfl
    · subst eb
      rw [R.tab p hp] at e
      cases e
      exact n2 rfl
  have toBase : ∀ {b : Addr} {m : Str → Option Value}, st.heap.Ns b m → (hidT st.heap H).Ns b m := by
    rintro b m ⟨o, es, ep, e, d, r⟩
    refine ⟨o, es, ep, hidT_get e (untracked e (fun _ z => ?_) fun z => ?_), d, r⟩
    · rw [d] at z
      cases z
    · rw [d] at z
      cases z
  have inBase : K.In (hidT st.heap H) := by
    intro b o e
    refine hidT_get (R.inK b o e) (Option.eq_none_iff_forall_ne_some.mpr fun u z => ?_)
    have nn : H b ≠ none := by rw [z]; exact fun t => nomatch t
    rcases one b nn with eb | ⟨p, hp, eb⟩
    · subst eb
      rw [notK nn] at e
      cases e
    · subst eb
      rw [R.free p hp] at e
      cases e
  obtain ⟨mc, l1, l2⟩ := R.lim
  have md : Mod K mg (hidT st.heap H) := ⟨inBase, toBase R.g, ⟨mb, toBase R.b, R.boot⟩, ⟨mc, toBase l1, l2⟩⟩
  have sys : ∃ o, (hidT st.heap H).get? sysModules = some o := by
    obtain ⟨mm, hm⟩ := R.mods
    obtain ⟨o, _, _, e, _⟩ := toBase hm
    exact ⟨o, e⟩
  have TB : ∀ p ∈ cs, LamX.TabB (hidT st.heap H) mg p.1 p.2 := by
    intro p hp
    have tp := R.tab p hp
    have gne : mainGlobals ≠ p.2 := fun z => by
      obtain ⟨o, es, ep, e, d, _⟩ := R.g
      rw [z, tp] at e
      cases e
      cases d
    refine ⟨?_, ?_, gne⟩
    · obtain ⟨o, us, f1, f2, f3, f4, f5, f6, f7, e, c1, c2, c3, more⟩ := R.head p hp
      refine ⟨o, us, f1, f2, f3, f4, f5, f6, f7, hidT_get e (untracked e (fun _ z => ?_) fun z => ?_), c1, c2, c3, more⟩
      · rw [c2] at z
        cases z
      · rw [c2] at z
        cases z
        cases c3
    · obtain ⟨bm, ob, m1, m2, e, c1, c2, c3⟩ := R.main
      refine ⟨bm, ob, m1, m2, fun z => ?_, fun z => ?_, hidT_get e (untracked e (fun _ z => ?_) fun z => ?_), c1, c2, c3⟩
      · obtain ⟨o, es, ep, e2, d, _⟩ := R.g
        rw [z, e2] at e
        cases e
        rw [d] at c3
        cases c3
      · rw [z, tp] at e
        cases e
        cases c3
      · rw [c3] at z
        cases z
      · rw [c3] at z
        cases z
  have e0 : Env0 P w K mg (hidT st.heap H) callerA [] st H := by
    refine ⟨rfl, md, fun b o e => of_hidT e, Nat.le_of_eq (hidT_size _ _), trivial, fun b hb => ?_, ok, .of_eq gens⟩
    cases hb
  refine codeAny_mono ((F _ inBase md.glob sys TB).go callerA [] st H ⟨[.ref a], []⟩ [.ref a] [.ref a] _ _ rfl hr e0 (bind st (.ref a)) (.cons rfl .nil) want) fun r s' got => ?_
  cases r with
  | error e => exact got.elim
  | ok fl =>
    cases fl with
    | next => exact got.elim
    | brk => exact got.elim
    | cont => exact got.elim
    | ret u =>
      obtain ⟨v, H', os, bare, un, ok', rel, q⟩ := got
      have q2 : v = .bl true := q
      subst q2
      have q3 : u = Value.bool true := rel
      subst q3
      have stays : ∀ b o, (∀ p ∈ cs, p.2 ≠ b) → st.heap.get? b = some o → s'.heap.get? b = some o := by
        intro b o nt e
        rcases only b with z | ⟨p, hp, z⟩ | ⟨ob, xs, z⟩
        · refine un.keep b o e z (fun m => ?_) (by simp)
          cases m
        · exact absurd z (nt p hp)
        · have z2 := un.frzs b ob _ z
          obtain ⟨e1, _⟩ := ok b _ z
          obtain ⟨e2, _⟩ := ok' b _ z2
          rw [e1] at e
          cases e
          exact e2
      have grows : ∀ p ∈ cs, ∃ more : Array Value, s'.heap.get? p.2 = some { cls := .none, data := .fields more } := by
        intro p hp
        obtain ⟨more, z⟩ := un.tbls p.2 #[] (hH p hp)
        exact ⟨_, ok' p.2 _ z⟩
      refine ⟨rfl, ⟨fun b o e => ?_, fun b o e => ?_⟩, os, bare⟩
      · by_cases t : ∃ p ∈ cs, p.2 = b
        · obtain ⟨p, hp, rfl⟩ := t
          obtain ⟨more, z⟩ := grows p hp
          rw [R.tab p hp] at e
          cases e
          exact .inr (.inl ⟨((R.head p hp).tab (R.tab p hp)).isCodeTable, rfl, #[], more, rfl, by rw [Array.empty_append]; exact z⟩)
        · exact .inl (stays b o (fun p hp z => t ⟨p, hp, z⟩) e)
      · by_cases t : ∃ p ∈ cs, p.2 = b
        · obtain ⟨p, hp, rfl⟩ := t
          obtain ⟨more, z⟩ := grows p hp
          exact ⟨_, z⟩
        · exact ⟨o, stays b o (fun p hp z => t ⟨p, hp, z⟩) e⟩
theorem endCallT (R : Rear K mg mb cs st.heap) (gens : st.gens = #[]) (ha : st.heap.get? a = some { cls := .type "list", data := .seq vs.toArray }) (hi : IntsAre vs ns) (hl : ns.length ≤ sizeLine) (hr : Room k callerA)
    (F : ∀ base : Heap, K.In base → base.Ns mainGlobals mg → (∃ o, base.get? sysModules = some o) → (∀ p ∈ cs, LamX.TabB base mg p.1 p.2) → FnG P w K mg base CX0 k fa fd [x] sp) (bind : ∀ (s : Shared) (u : Value), BindsTo s fd ⟨[u], []⟩ [(x, u)])
    (want : ∀ H : Hp, (∀ p ∈ cs, H p.2 = some (.tbl #[])) → SqL K H a (ns.map V.int) → sp [.ref a] H (fun v _ => v = .bl true) fun _ _ _ => False) :
    codeAny (model P w) callerA (.call (.ref fa) ⟨[.ref a], []⟩) (fun r s' => r = .ok (.ret (.bool true)) ∧ OldK st.heap s'.heap ∧ s'.os = st.os ∧ AllBare s'.gens) st := by
  have rv := vals_ints hi
  have aT : ¬ ∃ p ∈ cs, p.2 = a := by
    rintro ⟨p, hp, rfl⟩
    rw [R.tab p hp] at ha
    have z := congrArg Obj.data (Option.some.inj ha)
    cases z
  classical
  cases hk : K.lookup a with
  | some o =>
    have e := R.inK a o hk
    rw [ha] at e
    cases e
    have at_ : ∀ b, (fun b => if ∃ p ∈ cs, p.2 = b then some (HO.tbl #[]) else none) b = if ∃ p ∈ cs, p.2 = b then some (HO.tbl #[]) else none := fun _ => rfl
    have seq : ∀ H : Hp, SqL K H a (ns.map V.int) := fun H => .inr ⟨_, vs.toArray, _, hk, rfl, rfl, rfl, by rw [List.size_toArray, hi.length]; exact hl, by simpa using rv⟩
    refine endCoreT R gens ha hr F bind (H := fun b => if ∃ p ∈ cs, p.2 = b then some (HO.tbl #[]) else none) (fun p hp => if_pos ⟨p, hp, rfl⟩) (fun b => ?_) (fun b u z => ?_) (fun b z => ?_) (fun z => absurd (if_neg aT) z) (want _ (fun p hp => if_pos ⟨p, hp, rfl⟩) (seq _))
    · by_cases t : ∃ p ∈ cs, p.2 = b
      · exact .inr (.inl t)
      · exact .inl (if_neg t)
    · rw [at_] at z
      split at z
      · rename_i t
        obtain ⟨p, hp, rfl⟩ := t
        cases z
        exact R.tab p hp
      · cases z
    · by_cases t : ∃ p ∈ cs, p.2 = b
      · exact .inr t
      · exact absurd (if_neg t) z
  | none =>
    have at_ : ∀ b, (fun b => if b = a then some (HO.frz { cls := .type "list", data := .seq vs.toArray } (.lst (ns.map V.int))) else if ∃ p ∈ cs, p.2 = b then some (HO.tbl #[]) else none) b = if b = a then some (HO.frz { cls := .type "list", data := .seq vs.toArray } (.lst (ns.map V.int))) else if ∃ p ∈ cs, p.2 = b then some (HO.tbl #[]) else none := fun _ => rfl
    have hHt : ∀ p ∈ cs, (if p.2 = a then some (HO.frz { cls := .type "list", data := .seq vs.toArray } (.lst (ns.map V.int))) else if ∃ q ∈ cs, q.2 = p.2 then some (HO.tbl #[]) else none) = some (HO.tbl #[]) := fun p hp => by
      rw [if_neg (fun z => aT ⟨p, hp, z⟩), if_pos ⟨p, hp, rfl⟩]
    refine endCoreT R gens ha hr F bind (H := fun b => if b = a then some (HO.frz { cls := .type "list", data := .seq vs.toArray } (.lst (ns.map V.int))) else if ∃ p ∈ cs, p.2 = b then some (HO.tbl #[]) else none) hHt (fun b => ?_) (fun b u z => ?_) (fun b z => ?_) (fun _ => hk) (want _ hHt (.inl (.inr ⟨_, if_pos rfl⟩)))
    · by_cases e : b = a
      · exact .inr (.inr ⟨_, _, if_pos e⟩)
      · by_cases t : ∃ p ∈ cs, p.2 = b
        · exact .inr (.inl t)
        · exact .inl (by rw [if_neg e, if_neg t])
    · rw [at_] at z
      by_cases e : b = a
      · rw [if_pos e] at z
        subst e
        cases z
        exact ⟨ha, by rw [List.length_map]; exact hl, vs, _, rv, ha⟩
      · rw [if_neg e] at z
        split at z
        · rename_i t
          obtain ⟨p, hp, rfl⟩ := t
          cases z
          exact R.tab p hp
        · cases z
    · by_cases e : b = a
      · exact .inl e
      · by_cases t : ∃ p ∈ cs, p.2 = b
        · exact .inr t
        · exact absurd (by rw [if_neg e, if_neg t]) z
end
theorem walkGT {l : PySem.W.OpenLaw} {n k : Nat} {q : Program} {loose : List Str} {XP : (Str → Option Value) → Heap → Prop} {YP : World → Heap → Prop} {d : DefRec} {K : Params → PySem.W.Frag} {cs : List (Addr × Addr)} {T : List (Addr × Str)} {x : Str}
    (hn : l.most = some n) (hn2 : n ≤ sizeLine) (hdf : d.params.defaults = []) (hr : Room k callerA) (hY : ∀ (w : World) (h : Heap), YP w h → (K w.params).In h)
    (F : ∀ (w : World) (mean : ExcName → Option Value) (mg mb : Str → Option Value) (fa : Addr) (h : Heap), Top q (PySem.W.looseW q loose) mean mg mb h → YP w h → (K w.params).In h → h.Ns mainGlobals mg → mg d.name = some (.ref fa) →
      Rear (K w.params) mg mb cs h ∧ ∃ fd : FuncData, (∀ (s : Shared) (u : Value), BindsTo s fd ⟨[u], []⟩ [(x, u)]) ∧ ∀ base : Heap, (K w.params).In base → base.Ns mainGlobals mg → (∃ o, base.get? sysModules = some o) → (∀ p ∈ cs, LamX.TabB base mg p.1 p.2) → FnG l.prog w (K w.params) mg base CX0 k fa fd [x] (spLaw (K w.params) T))
    (hT : ∀ p ∈ T, ∃ c, (c, p.1) ∈ cs) (h63 : n ≤ 63) :
    PySem.W.WalkO q loose XP YP l.row.toRowW d [] (fun f vs => PySem.call f vs) := by
  refine Att.attach_call hn hdf ?_
  intro w s₀ s₁ mg mb fa o pm cd doc a vs ns G Y ho hd hcd hmg hobj hints hlen hg
  obtain ⟨R, fd, hb, hF⟩ := F w _ mg mb fa _ G.T Y (hY w _ Y) G.T.g hmg
  refine endCallT R hg hobj hints (Nat.le_trans hlen hn2) hr hF hb fun H hH seq => ⟨a, ns, rfl, seq, Nat.le_trans hlen h63, fun p hp => ?_, fun _ => rfl⟩
  obtain ⟨c, hc⟩ := hT p hp
  exact LamX.TabS.nil (hH _ hc)
/-! ### facts06.lean -/
/-! facts about the error classes, asked as one bool each -/
section
variable {K : PySem.W.Frag}
def erIsB (K : PySem.W.Frag) (D : Addr) : Bool := (PySem.W.clsIn K D).isSome && decide (PySem.W.findIn K (.ref D) "__getattribute__" = some (some (.builtin "BaseException.__getattribute__"))) && decide (PySem.W.findIn K (.ref D) "__getattr__" = some none) && decide (PySem.W.subIn K (.ref D) (.type "BaseException") = some true)
  && decide (PySem.W.findIn K (.ref D) "__class__" = some (some (.builtin "object.__class__"))) && decide (PySem.W.specialIn K (.builtin "object.__class__") "__get__" = some (some (.builtin "getset_descriptor.__get__"))) && decide (PySem.W.takesIn K (.builtin "object.__class__") = some true) && decide (PySem.W.mroIn K D (.type "object") = some true)
theorem erIs_of {D : Addr} (h : erIsB K D = true) : ErIs K D := by
  unfold erIsB at h
  simp only [Bool.and_eq_true, decide_eq_true_eq] at h
  obtain ⟨⟨⟨⟨⟨⟨⟨h1, h2⟩, h3⟩, h4⟩, h5⟩, h6⟩, h7⟩, h8⟩ := h
  exact ⟨h1, h2, h3, h4, h5, h6, h7, h8⟩
def erKindB (K : PySem.W.Frag) (c : Nat → Addr) (D : Addr) (k : Nat) : Bool := ((List.range 20).all fun i => decide (PySem.W.kitOne K (.ref D) (.ref (c i)) = some (decide (i = k)))) && decide (PySem.W.kitOne K (.ref D) (.ref (c 20)) = some (decide (k < 14))) && decide (PySem.W.kitOne K (.ref D) (.ref (c 21)) = some (decide (13 < k) && decide (k < 18))) && decide (PySem.W.kitOne K (.ref D) (.ref (c 22)) = some (decide (17 < k)))
  && decide (PySem.W.kitOne K (.ref D) (.type "ValueError") = some (decide (k < 14))) && decide (PySem.W.kitOne K (.ref D) (.type "LookupError") = some (decide (13 < k) && decide (k < 18))) && decide (PySem.W.kitOne K (.ref D) (.type "ArithmeticError") = some (decide (17 < k))) && decide (k < 20)
theorem erKind_of {c : Nat → Addr} {D : Addr} {k : Nat} (h : erKindB K c D k = true) : ErKind K c D k := by
  unfold erKindB at h
  simp only [Bool.and_eq_true, decide_eq_true_eq, List.all_eq_true, List.mem_range] at h
  obtain ⟨⟨⟨⟨⟨⟨⟨h0, h1⟩, h2⟩, h3⟩, h4⟩, h5⟩, h6⟩, h7⟩ := h
  exact ⟨h0 0 (by decide), h0 1 (by decide), h0 2 (by decide), h0 3 (by decide), h0 4 (by decide), h0 5 (by decide), h0 6 (by decide), h0 7 (by decide), h0 8 (by decide), h0 9 (by decide), h0 10 (by decide), h0 11 (by decide), h0 12 (by decide), h0 13 (by decide), h0 14 (by decide), h0 15 (by decide), h0 16 (by decide), h0 17 (by decide), h0 18 (by decide), h0 19 (by decide), h1, h2, h3, h4, h5, h6, h7⟩
def erValB (K : PySem.W.Frag) (c : Nat → Addr) (D : Addr) : Bool := decide (PySem.W.exmAny K (.ref D) [.ref (c 6), .ref (c 10), .ref (c 12)] = some false) && decide (PySem.W.exmAny K (.ref D) [.ref (c 18), .ref (c 19)] = some false) && decide (PySem.W.exmOne K (.ref D) (.ref (c 17)) = some false) && decide (PySem.W.exmAny K (.ref D) [.ref (c 20), .ref (c 21)] = some true)
  && xfB K D && decide (PySem.W.findIn K (.ref D) "value" = some none)
theorem erVal_of {c : Nat → Addr} {D : Addr} (h : erValB K c D = true) : ErVal K c D := by
  unfold erValB at h
  simp only [Bool.and_eq_true, decide_eq_true_eq] at h
  obtain ⟨⟨⟨⟨⟨h1, h2⟩, h3⟩, h4⟩, h5⟩, h6⟩ := h
  exact ⟨h1, h2, h3, h4, xfB_ok h5, h6⟩
def evB (K : PySem.W.Frag) (C fI : Addr) : Bool := decide (PySem.W.findIn K (.ref C) "__setattr__" = some (some (.builtin "object.__setattr__"))) && decide (PySem.W.findIn K (.ref C) "__getattribute__" = some (some (.builtin "BaseException.__getattribute__"))) && decide (PySem.W.findIn K (.ref C) "__getattr__" = some none) && decide (PySem.W.findIn K (.ref C) "value" = some none)
  && decide (PySem.W.findIn K (.ref C) "__init__" = some (some (.ref fI))) && decide (PySem.W.typeIn K (.ref fI) = some (.type "function")) && PySem.W.keepIn K (.ref C) && decide (PySem.W.subIn K (.ref C) (.type "BaseException") = some true) && decide (PySem.W.typeIn K (.ref C) = some (.type "type")) && PySem.W.hasDictIn K C
open PySem.W PySem.Calls PyProof.Rows PySem.HandSPX in
theorem evTxt_of {C fI : Addr} {qi nm q : Str} {N : Addr} {bs bm : List Value} {sn : List Str} {sub : List Value} {ab : Bool} {col : Option Bool} {dd : Option Addr} {k0 k1 k2 k3 k5 : Option Value} {oc doc pm cdv ct : Value} {od an : Option Addr} {osl : Array (Option Value)} {p1 p2 q1 q2 q3 q4 : Pos}
    (l : K.lookup C = some (excClassObj nm q C N bs bm true sn sub ab col dd k0 k1 k2 k3 k5 "ValueError.__new__")) (v : refsVE bm = true) (h : evB K C fI = true)
    (lf : K.lookup fI = some ⟨oc, od, .func (PySem.W.fnOf "__init__" qi (evArgs p1 p2) (evBody q1 q2 q3 q4) evScope .none .none doc pm an cdv ct), osl⟩) (cf : PySem.W.codeIn K cdv qi = true) : EvTxt K C fI qi := by
  unfold evB at h
  simp only [Bool.and_eq_true, decide_eq_true_eq] at h
  obtain ⟨⟨⟨⟨⟨⟨⟨⟨⟨h1, h2⟩, h3⟩, h4⟩, h5⟩, h6⟩, h7⟩, h8⟩, h9⟩, h10⟩ := h
  exact { cls := ⟨_, _, _, _, _, _, _, _, _, _, _, _, _, _, _, l, v⟩, sa := h1, ga := h2, gg := h3, noN := h4, iC := h5, tC := h6, kC := h7, exC := h8, tyC := h9, hdC := h10, fn := ⟨_, _, _, _, _, _, _, _, _, _, _, _, _, _, lf, cf⟩ }
end
set_option maxHeartbeats 0 in
open PySem.W PySem.Calls PyProof.Rows PySem.HandSPX in
theorem all_mk {l : PySem.W.OpenLaw} {w : World} {q : Program} {loose : List Str} {mean : ExcName → Option Value} {K : PySem.W.Frag} {h : Heap} {mg mb : Str → Option Value} {fa : Addr} {cco0z cco1z : Addr} (TP : Top q loose mean mg mb h) (HT : ∀ P ∈ [623, 637], h.get? P = some (tabObj #[])) (X : K.In h) (G : h.Ns mainGlobals mg) (hfa : mg "law" = some (.ref fa))
    {f0 f1 f2 f3 f4 f5 f6 f7 f8 f9 f10 f11 f12 f13 f14 f15 f16 f17 f18 f19 f20 f21 f22 f23 f24 f25 f26 f27 f28 f29 f30 f31 f32 : Addr} {od0 an0 od1 an1 od2 an2 od3 an3 od4 an4 od5 an5 od6 an6 od7 an7 od8 an8 od9 an9 od10 an10 od11 an11 od12 an12 od13 an13 od14 an14 od15 an15 od16 an16 od17 an17 od18 an18 od19 an19 od20 an20 od21 an21 od22 an22 od23 an23 od24 an24 od25 an25 od26 an26 od27 an27 od28 an28 od29 an29 od30 an30 od31 an31 od32 an32 : Option Addr} {sl0 sl1 sl2 sl3 sl4 sl5 sl6 sl7 sl8 sl9 sl10 sl11 sl12 sl13 sl14 sl15 sl16 sl17 sl18 sl19 sl20 sl21 sl22 sl23 sl24 sl25 sl26 sl27 sl28 sl29 sl30 sl31 sl32 : Array (Option Value)} {oc0 kV0 dc0 pm0 cd0 ct0 oc1 kV1 dc1 pm1 cd1 ct1 oc2 kV2 dc2 pm2 cd2 ct2 oc3 kV3 dc3 pm3 cd3 ct3 oc4 kV4 dc4 pm4 cd4 ct4 oc5 kV5 dc5 pm5 cd5 ct5 oc6 kV6 dc6 pm6 cd6 ct6 oc7 kV7 dc7 pm7 cd7 ct7 oc8 kV8 dc8 pm8 cd8 ct8 oc9 kV9 dc9 pm9 cd9 ct9 oc10 kV10 dc10 pm10 cd10 ct10 oc11 kV11 dc11 pm11 cd11 ct11 oc12 kV12 dc12 pm12 cd12 ct12 oc13 kV13 dc13 pm13 cd13 ct13 oc14 kV14 dc14 pm14 cd14 ct14 oc15 kV15 dc15 pm15 cd15 ct15 oc16 kV16 dc16 pm16 cd16 ct16 oc17 kV17 dc17 pm17 cd17 ct17 oc18 kV18 dc18 pm18 cd18 ct18 oc19 kV19 dc19 pm19 cd19 ct19 oc20 kV20 dc20 pm20 cd20 ct20 oc21 kV21 dc21 pm21 cd21 ct21 oc22 kV22 dc22 pm22 cd22 ct22 oc23 kV23 dc23 pm23 cd23 ct23 oc24 kV24 dc24 pm24 cd24 ct24 oc25 kV25 dc25 pm25 cd25 ct25 oc26 kV26 dc26 pm26 cd26 ct26 oc27 kV27 dc27 pm27 cd27 ct27 oc28 kV28 dc28 pm28 cd28 ct28 oc29 kV29 dc29 pm29 cd29 ct29 oc30 kV30 dc30 pm30 cd30 ct30 oc31 kV31 dc31 pm31 cd31 ct31 oc32 kV32 dc32 pm32 cd32 ct32 : Value}
    {e09 e19 e29 e39 e49 e59 e69 e79 e89 e99 e109 e119 e129 e139 e149 e159 e169 e179 e189 e199 e209 e219 e229 : Addr}
    {fI0 : Addr} {nm0 q0 : Str} {N0 : Addr} {bs0 bm0 sub0 : List Value} {sn0 : List Str} {ab0 : Bool} {col0 : Option Bool} {dd0 : Option Addr} {x00 x10 x20 x30 x50 : Option Value}
    {yoc0 ydc0 ypm0 ycd0 yct0 : Value} {yod0 yan0 : Option Addr} {ysl0 : Array (Option Value)} {yp10 yp20 yq10 yq20 yq30 yq40 : Pos}
    {fI8 : Addr} {nm8 q8 : Str} {N8 : Addr} {bs8 bm8 sub8 : List Value} {sn8 : List Str} {ab8 : Bool} {col8 : Option Bool} {dd8 : Option Addr} {x08 x18 x28 x38 x58 : Option Value}
    {yoc8 ydc8 ypm8 ycd8 yct8 : Value} {yod8 yan8 : Option Addr} {ysl8 : Array (Option Value)} {yp18 yp28 yq18 yq28 yq38 yq48 : Pos}
    (a0 : PySem.W.nsIn K mainGlobals "is_integer" = some (some (.ref f0))) (l0 : K.lookup f0 = some ⟨oc0, od0, .func (PySem.W.fnOf "is_integer" "is_integer" (defArgs s_is_integer) (defBody s_is_integer) (defScope s_is_integer) .none kV0 dc0 pm0 an0 cd0 ct0), sl0⟩) (c0 : PySem.W.codeIn K cd0 "is_integer" = true) (k0 : PySem.W.keepIn K (.ref f0) = true)
    (a1 : PySem.W.nsIn K mainGlobals "is_positive" = some (some (.ref f1))) (l1 : K.lookup f1 = some ⟨oc1, od1, .func (PySem.W.fnOf "is_positive" "is_positive" (defArgs s_is_positive) (defBody s_is_positive) (defScope s_is_positive) .none kV1 dc1 pm1 an1 cd1 ct1), sl1⟩) (c1 : PySem.W.codeIn K cd1 "is_positive" = true) (k1 : PySem.W.keepIn K (.ref f1) = true)
    (a2 : PySem.W.nsIn K mainGlobals "common_divisor" = some (some (.ref f2))) (l2 : K.lookup f2 = some ⟨oc2, od2, .func (PySem.W.fnOf "common_divisor" "common_divisor" (defArgs s_common_divisor) (defBody s_common_divisor) (defScope s_common_divisor) .none kV2 dc2 pm2 an2 cd2 ct2), sl2⟩) (c2 : PySem.W.codeIn K cd2 "common_divisor" = true) (k2 : PySem.W.keepIn K (.ref f2) = true)
    (a3 : PySem.W.nsIn K mainGlobals "lowest_terms" = some (some (.ref f3))) (l3 : K.lookup f3 = some ⟨oc3, od3, .func (PySem.W.fnOf "lowest_terms" "lowest_terms" (defArgs s_lowest_terms) (defBody s_lowest_terms) (defScope s_lowest_terms) .none kV3 dc3 pm3 an3 cd3 ct3), sl3⟩) (c3 : PySem.W.codeIn K cd3 "lowest_terms" = true) (k3 : PySem.W.keepIn K (.ref f3) = true)
    (a4 : PySem.W.nsIn K mainGlobals "is_fraction" = some (some (.ref f4))) (l4 : K.lookup f4 = some ⟨oc4, od4, .func (PySem.W.fnOf "is_fraction" "is_fraction" (defArgs s_is_fraction) (defBody s_is_fraction) (defScope s_is_fraction) .none kV4 dc4 pm4 an4 cd4 ct4), sl4⟩) (c4 : PySem.W.codeIn K cd4 "is_fraction" = true) (k4 : PySem.W.keepIn K (.ref f4) = true)
    (a5 : PySem.W.nsIn K mainGlobals "check_fractions" = some (some (.ref f5))) (l5 : K.lookup f5 = some ⟨oc5, od5, .func (PySem.W.fnOf "check_fractions" "check_fractions" (defArgs s_check_fractions) (defBody s_check_fractions) (defScope s_check_fractions) .none kV5 dc5 pm5 an5 cd5 ct5), sl5⟩) (c5 : PySem.W.codeIn K cd5 "check_fractions" = true) (k5 : PySem.W.keepIn K (.ref f5) = true)
    {T6 : Addr} {toc6 : Value} {tod6 : Option Addr} {tn6 : Nat} {tsl6 : Array (Option Value)} {tk6 : Tok}
    (a6 : PySem.W.nsIn K mainGlobals "fraction" = some (some (.ref f6))) (l6 : K.lookup f6 = some ⟨oc6, od6, .func (PySem.W.fnOf "fraction" "fraction" (defArgs s_fraction) (defBody s_fraction) (defScope s_fraction) (.ref T6) kV6 dc6 pm6 an6 cd6 ct6), sl6⟩) (c6 : PySem.W.codeIn K cd6 "fraction" = true) (k6 : PySem.W.keepIn K (.ref f6) = true)
    (t6 : K.lookup T6 = some ⟨toc6, tod6, .seq #[.int 1 tk6] tn6, tsl6⟩)
    (a7 : PySem.W.nsIn K mainGlobals "product" = some (some (.ref f7))) (l7 : K.lookup f7 = some ⟨oc7, od7, .func (PySem.W.fnOf "product" "product" (defArgs s_product) (defBody s_product) (defScope s_product) .none kV7 dc7 pm7 an7 cd7 ct7), sl7⟩) (c7 : PySem.W.codeIn K cd7 "product" = true) (k7 : PySem.W.keepIn K (.ref f7) = true)
    (a8 : PySem.W.nsIn K mainGlobals "quotient" = some (some (.ref f8))) (l8 : K.lookup f8 = some ⟨oc8, od8, .func (PySem.W.fnOf "quotient" "quotient" (defArgs s_quotient) (defBody s_quotient) (defScope s_quotient) .none kV8 dc8 pm8 an8 cd8 ct8), sl8⟩) (c8 : PySem.W.codeIn K cd8 "quotient" = true) (k8 : PySem.W.keepIn K (.ref f8) = true)
    (a9 : PySem.W.nsIn K mainGlobals "order" = some (some (.ref f9))) (l9 : K.lookup f9 = some ⟨oc9, od9, .func (PySem.W.fnOf "order" "order" (defArgs s_order) (defBody s_order) (defScope s_order) .none kV9 dc9 pm9 an9 cd9 ct9), sl9⟩) (c9 : PySem.W.codeIn K cd9 "order" = true) (k9 : PySem.W.keepIn K (.ref f9) = true)
    (a10 : PySem.W.nsIn K mainGlobals "compare" = some (some (.ref f10))) (l10 : K.lookup f10 = some ⟨oc10, od10, .func (PySem.W.fnOf "compare" "compare" (defArgs s_compare) (defBody s_compare) (defScope s_compare) .none kV10 dc10 pm10 an10 cd10 ct10), sl10⟩) (c10 : PySem.W.codeIn K cd10 "compare" = true) (k10 : PySem.W.keepIn K (.ref f10) = true)
    (a11 : PySem.W.nsIn K mainGlobals "format_fraction" = some (some (.ref f11))) (l11 : K.lookup f11 = some ⟨oc11, od11, .func (PySem.W.fnOf "format_fraction" "format_fraction" (defArgs s_format_fraction) (defBody s_format_fraction) (defScope s_format_fraction) .none kV11 dc11 pm11 an11 cd11 ct11), sl11⟩) (c11 : PySem.W.codeIn K cd11 "format_fraction" = true) (k11 : PySem.W.keepIn K (.ref f11) = true)
    (a12 : PySem.W.nsIn K mainGlobals "is_numeral" = some (some (.ref f12))) (l12 : K.lookup f12 = some ⟨oc12, od12, .func (PySem.W.fnOf "is_numeral" "is_numeral" (defArgs s_is_numeral) (defBody s_is_numeral) (defScope s_is_numeral) .none kV12 dc12 pm12 an12 cd12 ct12), sl12⟩) (c12 : PySem.W.codeIn K cd12 "is_numeral" = true) (k12 : PySem.W.keepIn K (.ref f12) = true)
    (a13 : PySem.W.nsIn K mainGlobals "find_fraction" = some (some (.ref f13))) (l13 : K.lookup f13 = some ⟨oc13, od13, .func (PySem.W.fnOf "find_fraction" "find_fraction" (defArgs s_find_fraction) (defBody s_find_fraction) (defScope s_find_fraction) .none kV13 dc13 pm13 an13 cd13 ct13), sl13⟩) (c13 : PySem.W.codeIn K cd13 "find_fraction" = true) (k13 : PySem.W.keepIn K (.ref f13) = true)
    (a14 : PySem.W.nsIn K mainGlobals "parse_fraction" = some (some (.ref f14))) (l14 : K.lookup f14 = some ⟨oc14, od14, .func (PySem.W.fnOf "parse_fraction" "parse_fraction" (defArgs s_parse_fraction) (defBody s_parse_fraction) (defScope s_parse_fraction) .none kV14 dc14 pm14 an14 cd14 ct14), sl14⟩) (c14 : PySem.W.codeIn K cd14 "parse_fraction" = true) (k14 : PySem.W.keepIn K (.ref f14) = true)
    (a15 : PySem.W.nsIn K mainGlobals "_law_cell" = some (some (.ref f15))) (l15 : K.lookup f15 = some ⟨oc15, od15, .func (PySem.W.fnOf "_law_cell" "_law_cell" (defArgs s_l_cell) (defBody s_l_cell) (defScope s_l_cell) .none kV15 dc15 pm15 an15 cd15 ct15), sl15⟩) (c15 : PySem.W.codeIn K cd15 "_law_cell" = true) (k15 : PySem.W.keepIn K (.ref f15) = true)
    (a16 : PySem.W.nsIn K mainGlobals "_law_pool" = some (some (.ref f16))) (l16 : K.lookup f16 = some ⟨oc16, od16, .func (PySem.W.fnOf "_law_pool" "_law_pool" (defArgs s_l_pool) (defBody s_l_pool) (defScope s_l_pool) .none kV16 dc16 pm16 an16 cd16 ct16), sl16⟩) (c16 : PySem.W.codeIn K cd16 "_law_pool" = true) (k16 : PySem.W.keepIn K (.ref f16) = true)
    (a17 : PySem.W.nsIn K mainGlobals "_law_draw" = some (some (.ref f17))) (l17 : K.lookup f17 = some ⟨oc17, od17, .func (PySem.W.fnOf "_law_draw" "_law_draw" (defArgs s_l_draw) (defBody s_l_draw) (defScope s_l_draw) .none kV17 dc17 pm17 an17 cd17 ct17), sl17⟩) (c17 : PySem.W.codeIn K cd17 "_law_draw" = true) (k17 : PySem.W.keepIn K (.ref f17) = true)
    (a18 : PySem.W.nsIn K mainGlobals "_law_low" = some (some (.ref f18))) (l18 : K.lookup f18 = some ⟨oc18, od18, .func (PySem.W.fnOf "_law_low" "_law_low" (defArgs s_l_low) (defBody s_l_low) (defScope s_l_low) .none kV18 dc18 pm18 an18 cd18 ct18), sl18⟩) (c18 : PySem.W.codeIn K cd18 "_law_low" = true) (k18 : PySem.W.keepIn K (.ref f18) = true)
    (a19 : PySem.W.nsIn K mainGlobals "_law_part" = some (some (.ref f19))) (l19 : K.lookup f19 = some ⟨oc19, od19, .func (PySem.W.fnOf "_law_part" "_law_part" (defArgs s_l_part) (defBody s_l_part) (defScope s_l_part) .none kV19 dc19 pm19 an19 cd19 ct19), sl19⟩) (c19 : PySem.W.codeIn K cd19 "_law_part" = true) (k19 : PySem.W.keepIn K (.ref f19) = true)
    (a20 : PySem.W.nsIn K mainGlobals "_law_whole" = some (some (.ref f20))) (l20 : K.lookup f20 = some ⟨oc20, od20, .func (PySem.W.fnOf "_law_whole" "_law_whole" (defArgs s_l_whole) (defBody s_l_whole) (defScope s_l_whole) .none kV20 dc20 pm20 an20 cd20 ct20), sl20⟩) (c20 : PySem.W.codeIn K cd20 "_law_whole" = true) (k20 : PySem.W.keepIn K (.ref f20) = true)
    (a21 : PySem.W.nsIn K mainGlobals "_law_is_part" = some (some (.ref f21))) (l21 : K.lookup f21 = some ⟨oc21, od21, .func (PySem.W.fnOf "_law_is_part" "_law_is_part" (defArgs s_l_is_part) (defBody s_l_is_part) (defScope s_l_is_part) .none kV21 dc21 pm21 an21 cd21 ct21), sl21⟩) (c21 : PySem.W.codeIn K cd21 "_law_is_part" = true) (k21 : PySem.W.keepIn K (.ref f21) = true)
    (a22 : PySem.W.nsIn K mainGlobals "_law_odd" = some (some (.ref f22))) (l22 : K.lookup f22 = some ⟨oc22, od22, .func (PySem.W.fnOf "_law_odd" "_law_odd" (defArgs s_l_odd) (defBody s_l_odd) (defScope s_l_odd) .none kV22 dc22 pm22 an22 cd22 ct22), sl22⟩) (c22 : PySem.W.codeIn K cd22 "_law_odd" = true) (k22 : PySem.W.keepIn K (.ref f22) = true)
    (a23 : PySem.W.nsIn K mainGlobals "_law_kind" = some (some (.ref f23))) (l23 : K.lookup f23 = some ⟨oc23, od23, .func (PySem.W.fnOf "_law_kind" "_law_kind" (defArgs s_l_kind) (defBody s_l_kind) (defScope s_l_kind) .none kV23 dc23 pm23 an23 cd23 ct23), sl23⟩) (c23 : PySem.W.codeIn K cd23 "_law_kind" = true) (k23 : PySem.W.keepIn K (.ref f23) = true)
    (a24 : PySem.W.nsIn K mainGlobals "_law_caught" = some (some (.ref f24))) (l24 : K.lookup f24 = some ⟨oc24, od24, .func (PySem.W.fnOf "_law_caught" "_law_caught" (defArgs s_l_caught) (defBody s_l_caught) (defScope s_l_caught) .none kV24 dc24 pm24 an24 cd24 ct24), sl24⟩) (c24 : PySem.W.codeIn K cd24 "_law_caught" = true) (k24 : PySem.W.keepIn K (.ref f24) = true)
    (a25 : PySem.W.nsIn K mainGlobals "_law_read" = some (some (.ref f25))) (l25 : K.lookup f25 = some ⟨oc25, od25, .func (PySem.W.fnOf "_law_read" "_law_read" (defArgs s_l_read) (defBody s_l_read) (defScope s_l_read) .none kV25 dc25 pm25 an25 cd25 ct25), sl25⟩) (c25 : PySem.W.codeIn K cd25 "_law_read" = true) (k25 : PySem.W.keepIn K (.ref f25) = true)
    (a26 : PySem.W.nsIn K mainGlobals "_law_asked" = some (some (.ref f26))) (l26 : K.lookup f26 = some ⟨oc26, od26, .func (PySem.W.fnOf "_law_asked" "_law_asked" (defArgs s_l_asked) (defBody s_l_asked) (defScope s_l_asked) .none kV26 dc26 pm26 an26 cd26 ct26), sl26⟩) (c26 : PySem.W.codeIn K cd26 "_law_asked" = true) (k26 : PySem.W.keepIn K (.ref f26) = true)
    (a27 : PySem.W.nsIn K mainGlobals "_law_due" = some (some (.ref f27))) (l27 : K.lookup f27 = some ⟨oc27, od27, .func (PySem.W.fnOf "_law_due" "_law_due" (defArgs s_l_due) (defBody s_l_due) (defScope s_l_due) .none kV27 dc27 pm27 an27 cd27 ct27), sl27⟩) (c27 : PySem.W.codeIn K cd27 "_law_due" = true) (k27 : PySem.W.keepIn K (.ref f27) = true)
    (a28 : PySem.W.nsIn K mainGlobals "_law_door_right" = some (some (.ref f28))) (l28 : K.lookup f28 = some ⟨oc28, od28, .func (PySem.W.fnOf "_law_door_right" "_law_door_right" (defArgs s_l_door_right) (defBody s_l_door_right) (defScope s_l_door_right) .none kV28 dc28 pm28 an28 cd28 ct28), sl28⟩) (c28 : PySem.W.codeIn K cd28 "_law_door_right" = true) (k28 : PySem.W.keepIn K (.ref f28) = true)
    (a29 : PySem.W.nsIn K mainGlobals "_law_thing" = some (some (.ref f29))) (l29 : K.lookup f29 = some ⟨oc29, od29, .func (PySem.W.fnOf "_law_thing" "_law_thing" (defArgs s_l_thing) (defBody s_l_thing) (defScope s_l_thing) .none kV29 dc29 pm29 an29 cd29 ct29), sl29⟩) (c29 : PySem.W.codeIn K cd29 "_law_thing" = true) (k29 : PySem.W.keepIn K (.ref f29) = true)
    (a30 : PySem.W.nsIn K mainGlobals "_law_by_hand" = some (some (.ref f30))) (l30 : K.lookup f30 = some ⟨oc30, od30, .func (PySem.W.fnOf "_law_by_hand" "_law_by_hand" (defArgs s_l_by_hand) (defBody s_l_by_hand) (defScope s_l_by_hand) .none kV30 dc30 pm30 an30 cd30 ct30), sl30⟩) (c30 : PySem.W.codeIn K cd30 "_law_by_hand" = true) (k30 : PySem.W.keepIn K (.ref f30) = true)
    (a31 : PySem.W.nsIn K mainGlobals "_law_right" = some (some (.ref f31))) (l31 : K.lookup f31 = some ⟨oc31, od31, .func (PySem.W.fnOf "_law_right" "_law_right" (defArgs s_l_right) (defBody s_l_right) (defScope s_l_right) .none kV31 dc31 pm31 an31 cd31 ct31), sl31⟩) (c31 : PySem.W.codeIn K cd31 "_law_right" = true) (k31 : PySem.W.keepIn K (.ref f31) = true)
    (a32 : PySem.W.nsIn K mainGlobals "law" = some (some (.ref f32))) (l32 : K.lookup f32 = some ⟨oc32, od32, .func (PySem.W.fnOf "law" "law" (defArgs s_law) (defBody s_law) (defScope s_law) .none kV32 dc32 pm32 an32 cd32 ct32), sl32⟩) (c32 : PySem.W.codeIn K cd32 "law" = true) (k32 : PySem.W.keepIn K (.ref f32) = true)
    (z_isinstance : PySem.W.nsIn K mainGlobals "isinstance" = some none)
    (z_int : PySem.W.nsIn K mainGlobals "int" = some none)
    (z_bool : PySem.W.nsIn K mainGlobals "bool" = some none)
    (z_len : PySem.W.nsIn K mainGlobals "len" = some none)
    (z_abs : PySem.W.nsIn K mainGlobals "abs" = some none)
    (z_divmod : PySem.W.nsIn K mainGlobals "divmod" = some none)
    (z_repr : PySem.W.nsIn K mainGlobals "repr" = some none)
    (z_range : PySem.W.nsIn K mainGlobals "range" = some none)
    (z_all : PySem.W.nsIn K mainGlobals "all" = some none)
    (z_max : PySem.W.nsIn K mainGlobals "max" = some none)
    (z_min : PySem.W.nsIn K mainGlobals "min" = some none)
    (z_tuple : PySem.W.nsIn K mainGlobals "tuple" = some none)
    (z_str : PySem.W.nsIn K mainGlobals "str" = some none)
    (z_ValueError : PySem.W.nsIn K mainGlobals "ValueError" = some none)
    (z_LookupError : PySem.W.nsIn K mainGlobals "LookupError" = some none)
    (z_ArithmeticError : PySem.W.nsIn K mainGlobals "ArithmeticError" = some none)
    (en0 : PySem.W.nsIn K mainGlobals "InvalidFraction" = some (some (.ref e09)))
    (en1 : PySem.W.nsIn K mainGlobals "InvalidSize" = some (some (.ref e19)))
    (en2 : PySem.W.nsIn K mainGlobals "InvalidBox" = some (some (.ref e29)))
    (en3 : PySem.W.nsIn K mainGlobals "InvalidKeep" = some (some (.ref e39)))
    (en4 : PySem.W.nsIn K mainGlobals "InvalidTimes" = some (some (.ref e49)))
    (en5 : PySem.W.nsIn K mainGlobals "InvalidStep" = some (some (.ref e59)))
    (en6 : PySem.W.nsIn K mainGlobals "InvalidSteps" = some (some (.ref e69)))
    (en7 : PySem.W.nsIn K mainGlobals "InvalidChain" = some (some (.ref e79)))
    (en8 : PySem.W.nsIn K mainGlobals "InvalidText" = some (some (.ref e89)))
    (en9 : PySem.W.nsIn K mainGlobals "InvalidKind" = some (some (.ref e99)))
    (en10 : PySem.W.nsIn K mainGlobals "InvalidRecords" = some (some (.ref e109)))
    (en11 : PySem.W.nsIn K mainGlobals "InvalidName" = some (some (.ref e119)))
    (en12 : PySem.W.nsIn K mainGlobals "InvalidDeeds" = some (some (.ref e129)))
    (en13 : PySem.W.nsIn K mainGlobals "InvalidLine" = some (some (.ref e139)))
    (en14 : PySem.W.nsIn K mainGlobals "NoStep" = some (some (.ref e149)))
    (en15 : PySem.W.nsIn K mainGlobals "UnknownName" = some (some (.ref e159)))
    (en16 : PySem.W.nsIn K mainGlobals "NameTaken" = some (some (.ref e169)))
    (en17 : PySem.W.nsIn K mainGlobals "NothingToUndo" = some (some (.ref e179)))
    (en18 : PySem.W.nsIn K mainGlobals "TooManySteps" = some (some (.ref e189)))
    (en19 : PySem.W.nsIn K mainGlobals "TooManyDeeds" = some (some (.ref e199)))
    (en20 : PySem.W.nsIn K mainGlobals "PictureError" = some (some (.ref e209)))
    (en21 : PySem.W.nsIn K mainGlobals "FindError" = some (some (.ref e219)))
    (en22 : PySem.W.nsIn K mainGlobals "LimitError" = some (some (.ref e229)))
    (ex0 : K.lookup e09 = some (excClassObj nm0 q0 e09 N0 bs0 bm0 true sn0 sub0 ab0 col0 dd0 x00 x10 x20 x30 x50 "ValueError.__new__"))
    (kr_ev0 : refsVE bm0 = true)
    (ei0 : PySem.W.findIn K (.ref e09) "__init__" = some (some (.ref fI0)))
    (kr_eb0 : evB K e09 fI0 = true)
    (el0 : K.lookup fI0 = some ⟨yoc0, yod0, .func (PySem.W.fnOf "__init__" "InvalidFraction.__init__" (evArgs yp10 yp20) (evBody yq10 yq20 yq30 yq40) evScope .none .none ydc0 ypm0 yan0 ycd0 yct0), ysl0⟩)
    (ec0 : PySem.W.codeIn K ycd0 "InvalidFraction.__init__" = true)
    (kr_is0 : erIsB K e09 = true)
    (kr_ek0 : erKindB K (fun i => [e09, e19, e29, e39, e49, e59, e69, e79, e89, e99, e109, e119, e129, e139, e149, e159, e169, e179, e189, e199, e209, e219, e229].getD i 0) e09 0 = true)
    (kr_el0 : erValB K (fun i => [e09, e19, e29, e39, e49, e59, e69, e79, e89, e99, e109, e119, e129, e139, e149, e159, e169, e179, e189, e199, e209, e219, e229].getD i 0) e09 = true)
    (ex8 : K.lookup e89 = some (excClassObj nm8 q8 e89 N8 bs8 bm8 true sn8 sub8 ab8 col8 dd8 x08 x18 x28 x38 x58 "ValueError.__new__"))
    (kr_ev8 : refsVE bm8 = true)
    (ei8 : PySem.W.findIn K (.ref e89) "__init__" = some (some (.ref fI8)))
    (kr_eb8 : evB K e89 fI8 = true)
    (el8 : K.lookup fI8 = some ⟨yoc8, yod8, .func (PySem.W.fnOf "__init__" "InvalidText.__init__" (evArgs yp18 yp28) (evBody yq18 yq28 yq38 yq48) evScope .none .none ydc8 ypm8 yan8 ycd8 yct8), ysl8⟩)
    (ec8 : PySem.W.codeIn K ycd8 "InvalidText.__init__" = true)
    (kr_is8 : erIsB K e89 = true)
    (kr_ek8 : erKindB K (fun i => [e09, e19, e29, e39, e49, e59, e69, e79, e89, e99, e109, e119, e129, e139, e149, e159, e169, e179, e189, e199, e209, e219, e229].getD i 0) e89 8 = true)
    (kr_el8 : erValB K (fun i => [e09, e19, e29, e39, e49, e59, e69, e79, e89, e99, e109, e119, e129, e139, e149, e159, e169, e179, e189, e199, e209, e219, e229].getD i 0) e89 = true)
    (tc0 : cd28 = .ref cco0z) (td0 : PySem.W.codeHdIn K cco0z 623 = true) (tf0 : K.lookup 623 = none)
    (tc1 : cd30 = .ref cco1z) (td1 : PySem.W.codeHdIn K cco1z 637 = true) (tf1 : K.lookup 637 = none)
    (ti : importsNone q = true)
    : Rear K mg mb [(cco0z, 623), (cco1z, 637)] h ∧ ∃ fd : FuncData, (∀ (s : Shared) (u : Value), BindsTo s fd ⟨[u], []⟩ [("_law_script", u)]) ∧ ∀ base : Heap, K.In base → base.Ns mainGlobals mg → (∃ o, base.get? sysModules = some o) → (∀ p ∈ ([(cco0z, 623), (cco1z, 637)] : List (Addr × Addr)), LamX.TabB base mg p.1 p.2) → FnG l.prog w K mg base CX0 14 fa fd ["_law_script"] (spLaw K [(623, lamQ "_law_door_right"), (637, lamQ "_law_by_hand")]) := by
  have e := hfa.symm.trans (PySem.W.mg_of X G a32)
  cases e
  have F0 := fun_mk (st := s_is_integer) l0 c0 k0
  have b0 := F0.binds (ps := ["value"]) fun _ _ _ _ _ _ us hl => match us, hl with | [_], _ => rfl
  have m0 := PySem.W.mg_of X G a0
  have F1 := fun_mk (st := s_is_positive) l1 c1 k1
  have b1 := F1.binds (ps := ["value"]) fun _ _ _ _ _ _ us hl => match us, hl with | [_], _ => rfl
  have m1 := PySem.W.mg_of X G a1
  have F2 := fun_mk (st := s_common_divisor) l2 c2 k2
  have b2 := F2.binds (ps := ["one", "other"]) fun _ _ _ _ _ _ us hl => match us, hl with | [_, _], _ => rfl
  have m2 := PySem.W.mg_of X G a2
  have F3 := fun_mk (st := s_lowest_terms) l3 c3 k3
  have b3 := F3.binds (ps := ["top", "bottom"]) fun _ _ _ _ _ _ us hl => match us, hl with | [_, _], _ => rfl
  have m3 := PySem.W.mg_of X G a3
  have F4 := fun_mk (st := s_is_fraction) l4 c4 k4
  have b4 := F4.binds (ps := ["value"]) fun _ _ _ _ _ _ us hl => match us, hl with | [_], _ => rfl
  have m4 := PySem.W.mg_of X G a4
  have F5 := fun_mk (st := s_check_fractions) l5 c5 k5
  have b5 := F5.binds (ps := ["values"]) fun _ _ _ _ _ _ us hl => match us, hl with | [_], _ => rfl
  have m5 := PySem.W.mg_of X G a5
  have F6 : FunD K "fraction" "fraction" (defArgs s_fraction) (defBody s_fraction) (defScope s_fraction) [.int 1] [] f6 _ := ⟨⟨_, _, _, _, _, _, _, _, _, _, rfl, l6, c6, .inr ⟨by simp, T6, _, [.int 1 tk6], tn6, rfl, t6, rfl, .cons ⟨_, rfl⟩ .nil⟩, .inl rfl⟩, k6⟩
  have m6 := PySem.W.mg_of X G a6
  have F7 := fun_mk (st := s_product) l7 c7 k7
  have m7 := PySem.W.mg_of X G a7
  have F8 := fun_mk (st := s_quotient) l8 c8 k8
  have b8 := F8.binds (ps := ["one", "other"]) fun _ _ _ _ _ _ us hl => match us, hl with | [_, _], _ => rfl
  have m8 := PySem.W.mg_of X G a8
  have F9 := fun_mk (st := s_order) l9 c9 k9
  have b9 := F9.binds (ps := ["left", "right"]) fun _ _ _ _ _ _ us hl => match us, hl with | [_, _], _ => rfl
  have m9 := PySem.W.mg_of X G a9
  have F10 := fun_mk (st := s_compare) l10 c10 k10
  have b10 := F10.binds (ps := ["one", "other"]) fun _ _ _ _ _ _ us hl => match us, hl with | [_, _], _ => rfl
  have m10 := PySem.W.mg_of X G a10
  have F11 := fun_mk (st := s_format_fraction) l11 c11 k11
  have b11 := F11.binds (ps := ["number"]) fun _ _ _ _ _ _ us hl => match us, hl with | [_], _ => rfl
  have m11 := PySem.W.mg_of X G a11
  have F12 := fun_mk (st := s_is_numeral) l12 c12 k12
  have b12 := F12.binds (ps := ["text"]) fun _ _ _ _ _ _ us hl => match us, hl with | [_], _ => rfl
  have m12 := PySem.W.mg_of X G a12
  have F13 := fun_mk (st := s_find_fraction) l13 c13 k13
  have b13 := F13.binds (ps := ["text"]) fun _ _ _ _ _ _ us hl => match us, hl with | [_], _ => rfl
  have m13 := PySem.W.mg_of X G a13
  have F14 := fun_mk (st := s_parse_fraction) l14 c14 k14
  have b14 := F14.binds (ps := ["text"]) fun _ _ _ _ _ _ us hl => match us, hl with | [_], _ => rfl
  have m14 := PySem.W.mg_of X G a14
  have F15 := fun_mk (st := s_l_cell) l15 c15 k15
  have b15 := F15.binds (ps := ["_law_script", "_law_k"]) fun _ _ _ _ _ _ us hl => match us, hl with | [_, _], _ => rfl
  have m15 := PySem.W.mg_of X G a15
  have F16 := fun_mk (st := s_l_pool) l16 c16 k16
  have b16 := F16.binds (ps := ["_law_figure"]) fun _ _ _ _ _ _ us hl => match us, hl with | [_], _ => rfl
  have m16 := PySem.W.mg_of X G a16
  have F17 := fun_mk (st := s_l_draw) l17 c17 k17
  have b17 := F17.binds (ps := ["_law_pool_here", "_law_most"]) fun _ _ _ _ _ _ us hl => match us, hl with | [_, _], _ => rfl
  have m17 := PySem.W.mg_of X G a17
  have F18 := fun_mk (st := s_l_low) l18 c18 k18
  have b18 := F18.binds (ps := ["_law_high_part", "_law_low_part"]) fun _ _ _ _ _ _ us hl => match us, hl with | [_, _], _ => rfl
  have m18 := PySem.W.mg_of X G a18
  have F19 := fun_mk (st := s_l_part) l19 c19 k19
  have b19 := F19.binds (ps := ["_law_pool_here", "_law_great"]) fun _ _ _ _ _ _ us hl => match us, hl with | [_, _], _ => rfl
  have m19 := PySem.W.mg_of X G a19
  have F20 := fun_mk (st := s_l_whole) l20 c20 k20
  have b20 := F20.binds (ps := ["_law_thing_here"]) fun _ _ _ _ _ _ us hl => match us, hl with | [_], _ => rfl
  have m20 := PySem.W.mg_of X G a20
  have F21 := fun_mk (st := s_l_is_part) l21 c21 k21
  have b21 := F21.binds (ps := ["_law_thing_here"]) fun _ _ _ _ _ _ us hl => match us, hl with | [_], _ => rfl
  have m21 := PySem.W.mg_of X G a21
  have F22 := fun_mk (st := s_l_odd) l22 c22 k22
  have b22 := F22.binds (ps := ["_law_pool_here"]) fun _ _ _ _ _ _ us hl => match us, hl with | [_], _ => rfl
  have m22 := PySem.W.mg_of X G a22
  have F23 := fun_mk (st := s_l_kind) l23 c23 k23
  have b23 := F23.binds (ps := ["_law_e"]) fun _ _ _ _ _ _ us hl => match us, hl with | [_], _ => rfl
  have m23 := PySem.W.mg_of X G a23
  have F24 := fun_mk (st := s_l_caught) l24 c24 k24
  have b24 := F24.binds (ps := ["_law_act"]) fun _ _ _ _ _ _ us hl => match us, hl with | [_], _ => rfl
  have m24 := PySem.W.mg_of X G a24
  have F25 := fun_mk (st := s_l_read) l25 c25 k25
  have b25 := F25.binds (ps := ["_law_text_here"]) fun _ _ _ _ _ _ us hl => match us, hl with | [_], _ => rfl
  have m25 := PySem.W.mg_of X G a25
  have F26 := fun_mk (st := s_l_asked) l26 c26 k26
  have b26 := F26.binds (ps := ["_law_door", "_law_things", "_law_by_name"]) fun _ _ _ _ _ _ us hl => match us, hl with | [_, _, _], _ => rfl
  have m26 := PySem.W.mg_of X G a26
  have F27 := fun_mk (st := s_l_due) l27 c27 k27
  have b27 := F27.binds (ps := ["_law_door", "_law_things"]) fun _ _ _ _ _ _ us hl => match us, hl with | [_, _], _ => rfl
  have m27 := PySem.W.mg_of X G a27
  have F28 := fun_mk (st := s_l_door_right) l28 c28 k28
  have b28 := F28.binds (ps := ["_law_door", "_law_things"]) fun _ _ _ _ _ _ us hl => match us, hl with | [_, _], _ => rfl
  have m28 := PySem.W.mg_of X G a28
  have F29 := fun_mk (st := s_l_thing) l29 c29 k29
  have b29 := F29.binds (ps := ["_law_pool_here", "_law_door"]) fun _ _ _ _ _ _ us hl => match us, hl with | [_, _], _ => rfl
  have m29 := PySem.W.mg_of X G a29
  have F30 := fun_mk (st := s_l_by_hand) l30 c30 k30
  have b30 := F30.binds (ps := []) fun _ _ _ _ _ _ us hl => match us, hl with | [], _ => rfl
  have m30 := PySem.W.mg_of X G a30
  have F31 := fun_mk (st := s_l_right) l31 c31 k31
  have b31 := F31.binds (ps := ["_law_pool_here"]) fun _ _ _ _ _ _ us hl => match us, hl with | [_], _ => rfl
  have m31 := PySem.W.mg_of X G a31
  have F32 := fun_mk (st := s_law) l32 c32 k32
  have b32 := F32.binds (ps := ["_law_script"]) fun _ _ _ _ _ _ us hl => match us, hl with | [_], _ => rfl
  have m32 := PySem.W.mg_of X G a32
  have n_isinstance := PySem.W.mg_none_of X G z_isinstance
  have n_int := PySem.W.mg_none_of X G z_int
  have n_bool := PySem.W.mg_none_of X G z_bool
  have n_len := PySem.W.mg_none_of X G z_len
  have n_abs := PySem.W.mg_none_of X G z_abs
  have n_divmod := PySem.W.mg_none_of X G z_divmod
  have n_repr := PySem.W.mg_none_of X G z_repr
  have n_range := PySem.W.mg_none_of X G z_range
  have n_all := PySem.W.mg_none_of X G z_all
  have n_max := PySem.W.mg_none_of X G z_max
  have n_min := PySem.W.mg_none_of X G z_min
  have n_tuple := PySem.W.mg_none_of X G z_tuple
  have n_str := PySem.W.mg_none_of X G z_str
  have n_ValueError := PySem.W.mg_none_of X G z_ValueError
  have n_LookupError := PySem.W.mg_none_of X G z_LookupError
  have n_ArithmeticError := PySem.W.mg_none_of X G z_ArithmeticError
  have NM : ErNames mg (fun i => [e09, e19, e29, e39, e49, e59, e69, e79, e89, e99, e109, e119, e129, e139, e149, e159, e169, e179, e189, e199, e209, e219, e229].getD i 0) := ⟨PySem.W.mg_of X G en0, PySem.W.mg_of X G en1, PySem.W.mg_of X G en2, PySem.W.mg_of X G en3, PySem.W.mg_of X G en4, PySem.W.mg_of X G en5, PySem.W.mg_of X G en6, PySem.W.mg_of X G en7, PySem.W.mg_of X G en8, PySem.W.mg_of X G en9, PySem.W.mg_of X G en10, PySem.W.mg_of X G en11, PySem.W.mg_of X G en12, PySem.W.mg_of X G en13, PySem.W.mg_of X G en14, PySem.W.mg_of X G en15, PySem.W.mg_of X G en16, PySem.W.mg_of X G en17, PySem.W.mg_of X G en18, PySem.W.mg_of X G en19, PySem.W.mg_of X G en20, PySem.W.mg_of X G en21, PySem.W.mg_of X G en22⟩
  have ZT0 := evTxt_of ex0 kr_ev0 kr_eb0 el0 ec0
  have TD0 : Told K (fun i => [e09, e19, e29, e39, e49, e59, e69, e79, e89, e99, e109, e119, e129, e139, e149, e159, e169, e179, e189, e199, e209, e219, e229].getD i 0) e09 0 := ⟨erIs_of kr_is0, erKind_of kr_ek0, erVal_of kr_el0⟩
  have ZT8 := evTxt_of ex8 kr_ev8 kr_eb8 el8 ec8
  have TD8 : Told K (fun i => [e09, e19, e29, e39, e49, e59, e69, e79, e89, e99, e109, e119, e129, e139, e149, e159, e169, e179, e189, e199, e209, e219, e229].getD i 0) e89 8 := ⟨erIs_of kr_is8, erKind_of kr_ek8, erVal_of kr_el8⟩
  refine ⟨⟨X, G, TP.b, TP.builtins, TP.nolimit, (let ⟨mm, a, _⟩ := (TP.seer ti).mods; ⟨mm, a⟩), TP.bmain, ?_, ?_, ?_⟩, ?_⟩
  · exact List.forall_mem_cons.mpr ⟨HT 623 (by simp), List.forall_mem_cons.mpr ⟨HT 637 (by simp), fun _ m => nomatch m⟩⟩
  · exact List.forall_mem_cons.mpr ⟨codeHd_of_K X td0, List.forall_mem_cons.mpr ⟨codeHd_of_K X td1, fun _ m => nomatch m⟩⟩
  · exact List.forall_mem_cons.mpr ⟨tf0, List.forall_mem_cons.mpr ⟨tf1, fun _ m => nomatch m⟩⟩
  refine ⟨PySem.W.fnOf "law" "law" (defArgs s_law) (defBody s_law) (defScope s_law) .none kV32 dc32 pm32 an32 cd32 ct32, fun s u => .of_eq rfl, fun base inB nsB sysB TBs => ?_⟩
  have TB0 : LamX.TabB base mg cco0z 623 := TBs (cco0z, 623) (by simp)
  have TB1 : LamX.TabB base mg cco1z 637 := TBs (cco1z, 637) (by simp)
  have g0 := ok_is_positive F1 (ok_is_integer (P := l.prog) (w := w) (mg := mg) (base := base) F0 n_isinstance n_int n_bool) b0 k0 m0
  have g1 := ok_common_divisor (P := l.prog) (w := w) (mg := mg) (base := base) F2
  have g2 := ok_lowest_terms F3 g1 b2 k2 m2
  have g3 := ok_is_fraction F4 n_isinstance n_tuple n_len g0 b1 k1 m1 g1 b2 k2 m2
  have g4 := ok_check_x F5 ZT0 NM.m0 g3 b4 k4 m4
  have g5 := ok_fraction_x F6 ZT0 NM.m0 g0 b1 k1 m1 g2 b3 k3 m3
  have g6 := ok_quot_x F8 g4 b5 k5 m5 g2 b3 k3 m3
  have g7 := ok_comp_x F10 g4 b5 k5 m5 (ok_order (P := l.prog) (w := w) (mg := mg) (base := base) F9) b9 k9 m9
  have g8 := ok_product_x F7 g4 b5 k5 m5 g2 b3 k3 m3
  have g9 := ok_format_x F11 g4 b5 k5 m5
  have g10 := ok_is_numeral (P := l.prog) (w := w) (mg := mg) (base := base) F12
  have g11 := ok_find_x F13 n_isinstance n_str n_int g10 b12 k12 m12 g3 b4 k4 m4 g9 b11 k11 m11
  have g12 := ok_parse_x F14 ZT8 NM.m8 g11 b13 k13 m13
  have l0 := ok_cell (P := l.prog) (w := w) (mg := mg) (base := base) F15 n_len
  have l1 := ok_pool (P := l.prog) (w := w) (mg := mg) (base := base) F16 n_abs
  have l2 := ok_draw (P := l.prog) (w := w) (mg := mg) (base := base) F17 n_divmod
  have l3 := ok_llow (P := l.prog) (w := w) (mg := mg) (base := base) F18
  have l4 := ok_part F19 l2 b17 k17 m17 l3 b18 k18 m18
  have l5 := ok_whole (P := l.prog) (w := w) (mg := mg) (base := base) F20 n_isinstance n_int n_bool
  have l6 := ok_is_part F21 n_isinstance n_tuple n_len l5 b20 k20 m20 l3 b18 k18 m18
  have l7 := ok_odd F22 n_str l4 b19 k19 m19 l2 b17 k17 m17
  have l8 := ok_kind (P := l.prog) (w := w) (mg := mg) (base := base) F23 NM n_isinstance n_ValueError n_LookupError n_ArithmeticError
  have l9 := ok_read F25 n_len n_int l3 b18 k18 m18
  have FC := frac_calls F6
  have l10 := ok_asked F26 (.of g5) FC k6 m6 (.of g6) b8 (two_calls_quot F8) k8 m8 (.of g7) b10 (two_calls_comp F10) k10 m10 g8 k7 m7 (.of g9) b11 (fmt_call F11) k11 m11 (.of g12) b14 (parse_call F14) k14 m14
  have l11 := ok_due F27 n_repr n_isinstance n_str sysB (.of l5) b20 k20 m20 (.of l6) b21 k21 m21 (.of l9) b25 k25 m25
  have mem0 : (623, lamQ "_law_door_right") ∈ [(623, lamQ "_law_door_right"), (637, lamQ "_law_by_hand")] := List.mem_cons_self
  have mem1 : (637, lamQ "_law_by_hand") ∈ [(623, lamQ "_law_door_right"), (637, lamQ "_law_by_hand")] := List.mem_cons_of_mem _ List.mem_cons_self
  have only0 : ∀ q ∈ [(623, lamQ "_law_door_right"), (637, lamQ "_law_by_hand")], q.1 = 623 → q.2 = lamQ "_law_door_right" := List.forall_mem_cons.mpr ⟨fun _ => rfl, List.forall_mem_cons.mpr ⟨fun z => absurd z (by decide), fun _ m => nomatch m⟩⟩
  have only1 : ∀ q ∈ [(623, lamQ "_law_door_right"), (637, lamQ "_law_by_hand")], q.1 = 637 → q.2 = lamQ "_law_by_hand" := List.forall_mem_cons.mpr ⟨fun z => absurd z (by decide), List.forall_mem_cons.mpr ⟨fun _ => rfl, fun _ m => nomatch m⟩⟩
  have l12 := ok_door F28 tc0 TB0 mem0 only0 TD0 TD8 sysB n_repr F24 b24 k24 m24 NM l8 b23 k23 m23 l10 b26 k26 m26 l11 b27 k27 m27
  have l13 := ok_thing F29 n_str l4 b19 k19 m19 l2 b17 k17 m17 l7 b22 k22 m22
  have l14 := ok_hand F30 tc1 TB1 mem1 only1 TD0 sysB n_repr n_all F24 b24 k24 m24 NM l8 b23 k23 m23 (.of g5) FC k6 m6 l12 b28 k28 m28
  have l15 := ok_right F31 n_range l13 b29 k29 m29 l12 b28 k28 m28
  exact ok_law F32 n_all n_range n_max n_min n_len l15 b31 k31 m31 l1 b16 k16 m16 l0 b15 k15 m15 l14 b30 k30 m30
end Gd
open PySem PySem.W PyProof.Rows
set_option maxRecDepth 100000 in
set_option maxHeartbeats 0 in
theorem PySem.Challenge.cw_sizechains_k06_exact_refused_holds : PySem.Challenge.rw_sizechains_k06_exact_refused.Holds := by
  w_on; o_law; k_head; (case hw => w_witness2)
  k_fill
  refine Gd.walkGT (l := PySem.Challenge.rw_sizechains_k06_exact_refused) (k := 14) (n := 63) (x := "_law_script") (cs := [(627, 623), (639, 637)]) (T := [(623, Gd.lamQ "_law_door_right"), (637, Gd.lamQ "_law_by_hand")]) rfl (by decide) rfl ⟨rfl, by decide, by decide⟩ (fun w h Y => PySem.W.km_in_of Y) ?F ?T (by decide)
  case T => exact List.forall_mem_cons.mpr ⟨⟨627, by simp⟩, List.forall_mem_cons.mpr ⟨⟨639, by simp⟩, fun _ m => nomatch m⟩⟩
  case F =>
    intro w mean mg mb fa h TP Y KX G hmg
    refine' Gd.all_mk TP (PySem.W.km_tabs_of Y) KX G hmg ?a0 ?l0 ?c0 ?k0 ?a1 ?l1 ?c1 ?k1 ?a2 ?l2 ?c2 ?k2 ?a3 ?l3 ?c3 ?k3 ?a4 ?l4 ?c4 ?k4 ?a5 ?l5 ?c5 ?k5 ?a6 ?l6 ?c6 ?k6 ?t6 ?a7 ?l7 ?c7 ?k7 ?a8 ?l8 ?c8 ?k8 ?a9 ?l9 ?c9 ?k9 ?a10 ?l10 ?c10 ?k10 ?a11 ?l11 ?c11 ?k11 ?a12 ?l12 ?c12 ?k12 ?a13 ?l13 ?c13 ?k13 ?a14 ?l14 ?c14 ?k14 ?a15 ?l15 ?c15 ?k15 ?a16 ?l16 ?c16 ?k16 ?a17 ?l17 ?c17 ?k17 ?a18 ?l18 ?c18 ?k18 ?a19 ?l19 ?c19 ?k19 ?a20 ?l20 ?c20 ?k20 ?a21 ?l21 ?c21 ?k21 ?a22 ?l22 ?c22 ?k22 ?a23 ?l23 ?c23 ?k23 ?a24 ?l24 ?c24 ?k24 ?a25 ?l25 ?c25 ?k25 ?a26 ?l26 ?c26 ?k26 ?a27 ?l27 ?c27 ?k27 ?a28 ?l28 ?c28 ?k28 ?a29 ?l29 ?c29 ?k29 ?a30 ?l30 ?c30 ?k30 ?a31 ?l31 ?c31 ?k31 ?a32 ?l32 ?c32 ?k32 ?z_isinstance ?z_int ?z_bool ?z_len ?z_abs ?z_divmod ?z_repr ?z_range ?z_all ?z_max ?z_min ?z_tuple ?z_str ?z_ValueError ?z_LookupError ?z_ArithmeticError ?en0 ?en1 ?en2 ?en3 ?en4 ?en5 ?en6 ?en7 ?en8 ?en9 ?en10 ?en11 ?en12 ?en13 ?en14 ?en15 ?en16 ?en17 ?en18 ?en19 ?en20 ?en21 ?en22 ?ex0 ?kr_ev0 ?ei0 ?kr_eb0 ?el0 ?ec0 ?kr_is0 ?kr_ek0 ?kr_el0 ?ex8 ?kr_ev8 ?ei8 ?kr_eb8 ?el8 ?ec8 ?kr_is8 ?kr_ek8 ?kr_el8 ?tc0 ?td0 ?tf0 ?tc1 ?td1 ?tf1 ?ti
    (case a0 => k_is)
    (case l0 => k_is)
    (case c0 => k_is)
    (case k0 => k_is)
    (case a1 => k_is)
    (case l1 => k_is)
    (case c1 => k_is)
    (case k1 => k_is)
    (case a2 => k_is)
    (case l2 => k_is)
    (case c2 => k_is)
    (case k2 => k_is)
    (case a3 => k_is)
    (case l3 => k_is)
    (case c3 => k_is)
    (case k3 => k_is)
    (case a4 => k_is)
    (case l4 => k_is)
    (case c4 => k_is)
    (case k4 => k_is)
    (case a5 => k_is)
    (case l5 => k_is)
    (case c5 => k_is)
    (case k5 => k_is)
    (case a6 => k_is)
    (case l6 => k_is)
    (case c6 => k_is)
    (case k6 => k_is)
    (case t6 => k_is)
    (case a7 => k_is)
    (case l7 => k_is)
    (case c7 => k_is)
    (case k7 => k_is)
    (case a8 => k_is)
    (case l8 => k_is)
    (case c8 => k_is)
    (case k8 => k_is)
    (case a9 => k_is)
    (case l9 => k_is)
    (case c9 => k_is)
    (case k9 => k_is)
    (case a10 => k_is)
    (case l10 => k_is)
    (case c10 => k_is)
    (case k10 => k_is)
    (case a11 => k_is)
    (case l11 => k_is)
    (case c11 => k_is)
    (case k11 => k_is)
    (case a12 => k_is)
    (case l12 => k_is)
    (case c12 => k_is)
    (case k12 => k_is)
    (case a13 => k_is)
    (case l13 => k_is)
    (case c13 => k_is)
    (case k13 => k_is)
    (case a14 => k_is)
    (case l14 => k_is)
    (case c14 => k_is)
    (case k14 => k_is)
    (case a15 => k_is)
    (case l15 => k_is)
    (case c15 => k_is)
    (case k15 => k_is)
    (case a16 => k_is)
    (case l16 => k_is)
    (case c16 => k_is)
    (case k16 => k_is)
    (case a17 => k_is)
    (case l17 => k_is)
    (case c17 => k_is)
    (case k17 => k_is)
    (case a18 => k_is)
    (case l18 => k_is)
    (case c18 => k_is)
    (case k18 => k_is)
    (case a19 => k_is)
    (case l19 => k_is)
    (case c19 => k_is)
    (case k19 => k_is)
    (case a20 => k_is)
    (case l20 => k_is)
    (case c20 => k_is)
    (case k20 => k_is)
    (case a21 => k_is)
    (case l21 => k_is)
    (case c21 => k_is)
    (case k21 => k_is)
    (case a22 => k_is)
    (case l22 => k_is)
    (case c22 => k_is)
    (case k22 => k_is)
    (case a23 => k_is)
    (case l23 => k_is)
    (case c23 => k_is)
    (case k23 => k_is)
    (case a24 => k_is)
    (case l24 => k_is)
    (case c24 => k_is)
    (case k24 => k_is)
    (case a25 => k_is)
    (case l25 => k_is)
    (case c25 => k_is)
    (case k25 => k_is)
    (case a26 => k_is)
    (case l26 => k_is)
    (case c26 => k_is)
    (case k26 => k_is)
    (case a27 => k_is)
    (case l27 => k_is)
    (case c27 => k_is)
    (case k27 => k_is)
    (case a28 => k_is)
    (case l28 => k_is)
    (case c28 => k_is)
    (case k28 => k_is)
    (case a29 => k_is)
    (case l29 => k_is)
    (case c29 => k_is)
    (case k29 => k_is)
    (case a30 => k_is)
    (case l30 => k_is)
    (case c30 => k_is)
    (case k30 => k_is)
    (case a31 => k_is)
    (case l31 => k_is)
    (case c31 => k_is)
    (case k31 => k_is)
    (case a32 => k_is)
    (case l32 => k_is)
    (case c32 => k_is)
    (case k32 => k_is)
    (case z_isinstance => k_is)
    (case z_int => k_is)
    (case z_bool => k_is)
    (case z_len => k_is)
    (case z_abs => k_is)
    (case z_divmod => k_is)
    (case z_repr => k_is)
    (case z_range => k_is)
    (case z_all => k_is)
    (case z_max => k_is)
    (case z_min => k_is)
    (case z_tuple => k_is)
    (case z_str => k_is)
    (case z_ValueError => k_is)
    (case z_LookupError => k_is)
    (case z_ArithmeticError => k_is)
    (case en0 => k_is)
    (case en1 => k_is)
    (case en2 => k_is)
    (case en3 => k_is)
    (case en4 => k_is)
    (case en5 => k_is)
    (case en6 => k_is)
    (case en7 => k_is)
    (case en8 => k_is)
    (case en9 => k_is)
    (case en10 => k_is)
    (case en11 => k_is)
    (case en12 => k_is)
    (case en13 => k_is)
    (case en14 => k_is)
    (case en15 => k_is)
    (case en16 => k_is)
    (case en17 => k_is)
    (case en18 => k_is)
    (case en19 => k_is)
    (case en20 => k_is)
    (case en21 => k_is)
    (case en22 => k_is)
    (case ex0 => k_is)
    (case kr_ev0 => first | kernel_rfl | rfl | decide +kernel)
    (case ei0 => k_is)
    (case kr_eb0 => first | kernel_rfl | rfl | decide +kernel)
    (case el0 => k_is)
    (case ec0 => k_is)
    (case kr_is0 => first | kernel_rfl | rfl | decide +kernel)
    (case kr_ek0 => first | kernel_rfl | rfl | decide +kernel)
    (case kr_el0 => first | kernel_rfl | rfl | decide +kernel)
    (case ex8 => k_is)
    (case kr_ev8 => first | kernel_rfl | rfl | decide +kernel)
    (case ei8 => k_is)
    (case kr_eb8 => first | kernel_rfl | rfl | decide +kernel)
    (case el8 => k_is)
    (case ec8 => k_is)
    (case kr_is8 => first | kernel_rfl | rfl | decide +kernel)
    (case kr_ek8 => first | kernel_rfl | rfl | decide +kernel)
    (case kr_el8 => first | kernel_rfl | rfl | decide +kernel)
    (case tc0 => rfl)
    (case td0 => first | kernel_rfl | rfl | decide +kernel)
    (case tf0 => first | kernel_rfl | rfl | decide +kernel)
    (case tc1 => rfl)
    (case td1 => first | kernel_rfl | rfl | decide +kernel)
    (case tf1 => first | kernel_rfl | rfl | decide +kernel)
    (case ti => first | kernel_rfl | rfl | decide +kernel)
