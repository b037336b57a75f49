import PyProof.Rows.All
import Wide.All
import OpenK.AllK
import Wide.FinOn
import HandS.ForExc
import HandS.Nested
import HandS.ExcInit
import HandS.ExcField
import HandS.FStr
import HandS.MakeKwOnly
import HandS.IsInst
import HandS.ExcIs
import KE.KExcSuper
import KE.KExcIs
import HandS.ForMost
import HandS.Evl
import HandS.NoneIn
import HandS.TupAny
import PySem.Challenge.RW_tickrings_k19_admitted_rates
set_option Elab.async false
set_option maxRecDepth 100000
set_option maxHeartbeats 4000000
set_option linter.all false
set_option autoImplicit false
/-! An own error class over another own class over ValueError, whose __init__ says super().__init__(..) and stores one field. -/
namespace Sx
open PySem PySem.Spec PyProof.Rows L2 PySem.W PySem.Calls NdefX
section
variable {prog : Program} {w : World} {A : Around} {E : Value → Shared → Prop} {h : Heap} {g : Array GenState} {d : Drawn} {t : Nat} {os : OsState}
/-- ValueError.__init__ bound to an exception, called -/
theorem call_mw {nm q : Str} {C N u e t0 : Addr} {bs bm : List Value} {hdct : Bool} {sn : List Str} {sub : List Value} {ab : Bool} {col : Option Bool} {dd : Option Addr} {k0 k1 k2 k3 k5 : Option Value} {rest : List Value} {Q : Value → Shared → Prop}
    (hC : h.get? C = some (excClassObj nm q C N bs bm hdct sn sub ab col dd k0 k1 k2 k3 k5 "ValueError.__new__")) (he : h.get? e = some (HandSPX.excO C t0)) (hu : h.get? u = some (kxs_mw "ValueError.__init__" e)) (hrest : rest.length ≤ sizeLine)
    (hq : ∀ h' t1, (∀ b o, b ≠ e → h.get? b = some o → h'.get? b = some o) → h'.get? e = some (HandSPX.excO C t1) → Q .none ⟨h', g, d, t, os⟩) :
    wpAny (model prog w) A (call (.ref u) rest) Q E ⟨h, g, d, t, os⟩ := by
  refine wpAny_call (codeAny_of_tree ?_)
  show wpAny _ A.in1 (callAny (.ref u) ⟨rest, []⟩) _ _ _
  simp only [callAny]
  refine wpAny_bind (wpAny_load hu ?_)
  simp only [kxs_mw, show (Value.type "method-wrapper" == Value.type "method" || Value.type "method-wrapper" == Value.type "builtin_function_or_method" || Value.type "method-wrapper" == Value.type "method-wrapper") = true by decide, if_true]
  refine W.KFB.if_so (by decide) ?_
  refine wpAny_bind (check_bound_init F.excBase_ValueError.toExcCallFacts hC he rfl ?_)
  refine wpAny_bind (wpAny_pure (wpAny_pure ?_))
  refine ⟨plainId_quiet F.excBase_ValueError.init.plain _, codeAny_builtin F.excBase_ValueError.initEntry ?_⟩
  exact exc_init_tree (cls := .ref C) (t0 := t0) (dv := none) (c2 := .none) (c3 := .none) (b4 := .bool false) he hrest fun h' k hx _ => hq h' _ k hx
end
/-- what the top has written of such a class -/
structure ErrC (P : Program) (K : PySem.W.Frag) (mg : Str → Option Value) (C : Addr) : Prop where
  ox : OexC K C
  sup : ks_superIn K C C "__init__" = some (some (.builtin "ValueError.__init__"))
  ve : PySem.W.subIn K (.ref C) (.type "ValueError") = some true
  op : PySem.W.nsIn K cStatics "thirdparty.any" = some none
  selfM : PySem.W.mroIn K C (.ref C) = some true
  sm : mg "super" = none
  top : (P.main.scope.names.lookup ("super" : Str)).isSome = false
/-- its __init__ -/
structure ErrI (P : Program) (K : PySem.W.Frag) (C cc cda fI : Addr) (name qual : Str) (params : Arguments) (body : List Stmt) (scope : Scope) (fd : FuncData) : Prop where
  fn : ∃ oc od osl dV kV doc pm an ct, fd = PySem.W.fnX name qual params body scope [("__class__", cc)] dV kV doc pm an (.ref cda) ct ∧ K.lookup fI = some ⟨oc, od, .func fd, osl⟩
  cd : PySem.W.codeIn K (.ref cda) qual = true
  cell : ∃ cl cld csl, K.lookup cc = some ⟨cl, cld, .cell (some (.ref C)), csl⟩
  code : ∃ ccl cdd vs ccs file tf, K.lookup cda = some ⟨ccl, cdd, .fields vs, ccs⟩ ∧ vs[2]? = some (.str file tf) ∧ ((P.main.file : Str) == file) = true
section
variable {P : Program} {w : World} {K : PySem.W.Frag} {mg : Str → Option Value} {base : Heap} {CX : CXT}
theorem fn_of_err {C cc cda f : Addr} {name qual : Str} {params : Arguments} {scope : Scope} {fd : FuncData} {ar : Arg} {N ps : List Str} {k : Nat} {sp : Sp} {p0 p1 p2 pos pos' : Pos} {e : Expr} {es : List Expr} {rest : List Stmt}
    (T : ErrC P K mg C) (I0 : ErrI P K C cc cda f name qual params (.Expr (.Call (.Attribute (.Call (.Name "super" p0) [] [] p1) "__init__" p2) (e :: es) [] pos) pos' :: rest) scope fd)
    (S : NScope N ps ["__class__"] scope) (hp : (params.posonlyargs ++ params.args).head? = some ar) (hp0 : ps[0]? = some ar.arg) (hsup : scope.names.lookup ("super" : Str) = some .globalImplicit)
    (len : ∀ vs H Q E, sp vs H Q E → vs.length = ps.length)
    (he : ∀ env, starEach (e :: es) env = (false, eval e env) :: starEach es env) (hpl : ∀ env, (backTo pos (starEach es env)).any (·.1) = false)
    {pl : Env → Sem Bool} (hmc : ∀ env : Env, eval (.Call (.Attribute (.Call (.Name "super" p0) [] [] p1) "__init__" p2) (e :: es) [] pos) env = (do
      let ov ← attributeBase (.Call (.Name "super" p0) [] [] p1) "__init__" env (eval (.Call (.Name "super" p0) [] [] p1) env)
      standAt p2.atName
      let (f, first) ← holding [ov] (getMethod ov "__init__" (pl env))
      callWith pos f first (backTo pos (starEach (e :: es) env)) []))
    (hsw : ∀ env, swapsWith (.Call (.Attribute (.Call (.Name "super" p0) [] [] p1) "__init__" p2) (e :: es) [] pos) none pos'.line env = pure false)
    (hbody : ∀ (A : Around) (outer : List Env) (s : Shared) (H : Hp) (vs : List V) (Q : VK) (E : XK), sp vs H Q E →
      ∃ ta t, PA (ncx CX P w K mg base N ⟨name, qual, params, .Expr (.Call (.Attribute (.Call (.Name "super" p0) [] [] p1) "__init__" p2) (e :: es) [] pos) pos' :: rest, scope, [("__class__", cc)], cda⟩ f A outer s H E) (e :: es) ta ∧
        PSs (ncx CX P w K mg base N ⟨name, qual, params, .Expr (.Call (.Attribute (.Call (.Name "super" p0) [] [] p1) "__init__" p2) (e :: es) [] pos) pos' :: rest, scope, [("__class__", cc)], cda⟩ f A outer s H E) rest t ∧
        ∃ a, vs[0]? = some (.ref a) ∧ H a = some (exo a C none) ∧
          ta (startF N vs [some (.ref C)]) H fun ws H1 => ws.length ≤ 1000 ∧ H1 a = some (exo a C none) ∧ t { nx := fun _ H' => Q .non H', rt := Q } (startF N vs [some (.ref C)]) H1) :
    FnOk P w K mg base CX (k + 1) f fd ps sp := by
  obtain ⟨⟨oc, od, osl, dV, kV, doc, pm, an, ct, rfl, lk⟩, hcd, ⟨cl, cld, csl, hcell⟩, ⟨ccl, cdd, vsC, ccs, file, tf, hcode, hvs, hfile⟩⟩ := I0
  refine ⟨len, fun A outer s H args us vs Q E hr e0 hb r hsp => ?_⟩
  have hl := len _ _ _ _ hsp
  have KX : K.In s.heap := e0.mod.kin.keeps fun b o e => (e0.bs b o e).1
  have lim : s.heap.NoLimit := e0.mod.nolimit.keeps fun b o e => (e0.bs b o e).1
  have C0 : CellsAt [(("__class__" : Str), cc)] ["__class__"] [some (V.ref C)] s.heap H := by
    refine ⟨rfl, fun y c q => ?_, fun x y c q1 q2 => ?_, fun i y q => ?_⟩
    · have hy : c = cc := by
        by_cases hyy : y = ("__class__" : Str)
        · subst hyy
          simpa [List.lookup] using q.symm
        · have : (y == ("__class__" : Str)) = false := by simpa using hyy
          simp [List.lookup, this] at q
      subst hy
      exact ⟨(e0.bs c _ (e0.mod.kin _ _ hcell)).2, _, ⟨_, KX _ _ hcell, rfl⟩⟩
    · have hx : x = ("__class__" : Str) := by
        by_cases hyy : x = ("__class__" : Str)
        · exact hyy
        · have : (x == ("__class__" : Str)) = false := by simpa using hyy
          simp [List.lookup, this] at q1
      have hy : y = ("__class__" : Str) := by
        by_cases hyy : y = ("__class__" : Str)
        · exact hyy
        · have : (y == ("__class__" : Str)) = false := by simpa using hyy
          simp [List.lookup, this] at q2
      rw [hx, hy]
    · match i, q with
      | 0, q =>
        have hy : ("__class__" : Str) = y := Option.some.inj q
        subst hy
        refine ⟨cc, by simp [List.lookup], fun v hv => ⟨.ref C, ?_, _, KX _ _ hcell, rfl⟩⟩
        have hv' : V.ref C = v := by simpa using hv
        subst hv'
        rfl
      | i + 1, q => simp at q
  let F : NF := ⟨name, qual, params, .Expr (.Call (.Attribute (.Call (.Name "super" p0) [] [] p1) "__init__" p2) (e :: es) [] pos) pos' :: rest, scope, [("__class__", cc)], cda⟩
  have hS : NScope N ps ["__class__"] F.scope := S
  refine ks_codeAny_call_defAt (body := F.body) (binds := ps.zip us) hr.depth (KX _ _ lk) rfl lim (codeRec_of KX hcd) rfl (hb) S.nocell (fun ⟨n, _⟩ hy => S.par n (List.of_mem_zip hy).1) (fun h₁ hns kp => ?_) S.co S.gen S.kind
  obtain ⟨ta, tb, hta, htb, a, hv0, hea, hq⟩ := hbody A outer s H vs Q E hsp
  have I : Inv (ncx CX P w K mg base N F f A outer s H E) [] (startF N vs [some (.ref C)]) H { s with heap := h₁, toks := s.toks + (ps.zip us).length } := inv_startN hS hr.hd e0 hl r C0 hns kp
  show PySem.wpAt _ (A.deeper (envF F f s.heap.objs.size)) (.func F.body (envF F f s.heap.objs.size)) (execs F.body (envF F f s.heap.objs.size)) _ _ _
  refine ks_wpAt_mono (Q := SP (ncx CX P w K mg base N F f A outer s H E) [] { nx := fun _ H' => Q .non H', rt := Q }) (ks_wpAt_execs_cons (ks_wpAt_Expr_any (ks_wpAt_MethodCall (pl := pl _) ?_ (hmc _)) (by show (scope.kind == ScopeKind.module && _) = false; rw [S.kind]; rfl) (hsw _))) (fun fl s' hs => ?_) fun e s' hs => hs
  · -- super()
    have KX1 : K.In h₁ := KX.keeps kp
    obtain ⟨nm, q, N', bs, bm, sn, sub, ab, col, dd, k0, k1, k2, k3, k5, hC, hbm⟩ := T.ox.cls
    have hcl : PySem.W.clsIn K C = some { name := nm, bases := bs, mro := .ref C :: bm, ns := N', qualname := q, hasDict := true, slotNames := sn, subclasses := sub, abstract := ab, collection := col, hasDel := false } := by unfold PySem.W.clsIn; rw [hC] <;> rfl
    obtain ⟨t1, ho⟩ := exo_at I.hok hea
    have hu0 : us[0]? = some (.ref a) := by
      obtain ⟨u, hu, ru⟩ := r.get hv0
      have : u = Value.ref a := ru
      rw [hu, this]
    have hself : (ps.zip us).reverse.lookup ar.arg = some (.ref a) := by
      have ndP : ps.Nodup := by
        have q := S.nd.sublist (List.take_sublist (ps.length + 1) N)
        have q2 := S.pre
        simp only [List.length_cons, List.length_nil, Nat.zero_add] at q2
        rw [q2] at q
        exact (List.nodup_append.mp q).1
      exact zip_look ndP hp0 hu0
    have gl : h₁.Ns mainGlobals mg := e0.mod.glob.keeps fun b o z => kp b o (e0.bs b o z).1
    obtain ⟨mb, hmb, hmbE⟩ := e0.mod.blt
    have bl : h₁.Ns builtinsNs mb := hmb.keeps fun b o z => kp b o (e0.bs b o z).1
    refine ks_wpAt_super_base (env := envF F f s.heap.objs.size) hsup (S.frk _ List.mem_cons_self) (by decide) rfl (KX1 _ _ lk) rfl hp rfl (KX1 _ _ hcode) rfl hvs hfile T.top ?_
    refine ks_loadName_global S.kind hsup (loadGlobal_builtin (env := envF F f s.heap.objs.size) gl T.sm bl ((hmbE _ (by decide +kernel)).trans (by decide +kernel : bootBuiltins "super" = some (.type "super"))) ⟨rfl, ?_⟩)
    refine wpAny_loadName_free S.kind (S.frk _ List.mem_cons_self) (by first | rfl | simp [List.lookup]) ⟨_, KX1 _ _ hcell, rfl⟩ ?_
    refine wpAny_loadName_local S.kind (S.par _ (List.mem_of_getElem? hp0)) hns hself ?_
    refine ks_wpAny_isType_cls (KX1 _ _ hC) rfl ⟨rfl, ?_⟩
    refine ks_wpAny_call_super (KX1 _ _ hC) rfl ho rfl (fun c e => by cases e) (PySem.W.looks_mroIn KX1 T.selfM) (fun h2 eso k2 => ?_)
    have I1 := I.kept (t' := s.toks + (ps.zip us).length) k2
    have KX2 : K.In h2 := KX1.keeps k2
    have hax : a ≠ C := by
      intro z
      have z1 := KX1 _ _ hC
      rw [← z, ho] at z1
      cases z1
    have ho2 : h2.get? a = some ({ cls := .ref C, dict := none, data := .fields #[.ref t1, .none, .none, .none, .bool false, .none] } : Obj) := k2 _ _ ho
    have J : PySem.W.InstAt h2 a ({ cls := .ref C, dict := none, data := .fields #[.ref t1, .none, .none, .none, .bool false, .none] } : Obj) C none := ⟨ho2, rfl, rfl, trivial⟩
    have hsupX := T.sup
    unfold ks_superIn at hsupX
    rw [hcl] at hsupX
    have hI : PySem.W.Looks (model P w) h2 (isInstance (.ref a) (.type "ValueError")) true := J.type.andThen (PySem.W.looks_subIn KX2 T.ve)
    refine kxs_getMethod kxs_ValueError eso (PySem.W.looks_opaque KX2 T.op) (l₀ := .ref C :: bm) ?_ rfl KX2 hsupX hI hax (by decide) ?_
    · exact fun A Q E s k q => wpAny_bind ((PySem.W.looks_clsIn KX2 hcl) A _ E s k (wpAny_pure q))
    · have k3 : ∀ b o, h2.get? b = some o → (h2.push (kxs_mw "ValueError.__init__" a)).get? b = some o := fun b o e => Heap.get?_push_of_some _ e
      have I2 := I1.kept (t' := s.toks + (ps.zip us).length + 1) k3
      have nu : H h2.objs.size = none := I1.hok.fresh (Nat.le_refl _)
      have hmw : (h2.push (kxs_mw "ValueError.__init__" a)).get? h2.objs.size = some (kxs_mw "ValueError.__init__" a) := Heap.get?_push_at rfl rfl
      have I3 := I2.pins_of (pins' := [(h2.objs.size, kxs_mw "ValueError.__init__" a)]) fun p hp => by
        have hp' : p = (h2.objs.size, kxs_mw "ValueError.__init__" a) := by simpa [ncx] using hp
        subst hp'
        exact ⟨hmw, nu, fun z => absurd I1.lt (by rw [← z]; exact Nat.lt_irrefl _), I1.nofs (Nat.le_refl _), fun v z => by cases z⟩
      refine kxs_callWith (i := "ValueError.__init__") (x := a) (by rw [he]; show (false || (backTo pos (starEach es _)).any (·.1)) = false; rw [hpl]; rfl) ?_
      rw [he]
      refine evalArgs_plain ?_
      show wpAny _ _ (spliced (backTo pos ((false, eval e (envF F f s.heap.objs.size)) :: starEach es (envF F f s.heap.objs.size)))) _ _ _
      rw [← he]
      refine thn (hta.run pos _ _ _ H _ I3 hq) fun us1 s1 hAP => ?_
      obtain ⟨ws, H1, I4, r4, hz, hea1, q4⟩ := hAP
      have hpin := (I4.pin (h2.objs.size, kxs_mw "ValueError.__init__" a) (by simp [ncx])).1
      refine ⟨hpin, ?_⟩
      obtain ⟨t2, ho4⟩ := exo_at I4.hok hea1
      have I5 := I4.pins_of (pins' := []) fun p hp => by simp [ncx] at hp
      obtain ⟨hp4, g4, d4, t4, os4⟩ := s1
      refine call_mw (I4.kIn _ _ hC) ho4 hpin (by show us1.length ≤ sizeLine; rw [← r4.length, sizeLine_eq]; omega) fun h' t5 k5 hx5 => ?_
      have I6 := I5.write (t' := t4) (x := a) (e := a) (o := exo a C none) (by rw [hea1]; exact True.intro) (.inl rfl) k5 ⟨_, hx5⟩ (exo_ok hx5)
      have eu : upd H1 a (exo a C none) = H1 := by
        funext b
        by_cases hb : b = a
        · rw [hb, upd_same, hea1]
        · rw [upd_ne hb]
      rw [eu] at I6
      exact wpAt_of_wpAny (htb.run [] _ _ H1 _ I6 q4)
  · have fin : ∀ {σ' : L2.St} {H' : Hp} {v : V} {u : Value}, Inv (ncx CX P w K mg base N F f A outer s H E) [] σ' H' s' → L2.RelV v u → Q v H' → CE outer P w H s Q u s' :=
      fun {σ' H' v u} J rv q => ⟨v, H', J.os, J.bare, J.base, J.hok, rv, q⟩
    cases fl with
    | ret u =>
      obtain ⟨v, σ', H', J, rv, q⟩ := hs
      exact fin J rv q
    | next =>
      obtain ⟨σ', H', J, q⟩ := hs
      exact fin (v := V.non) (u := Value.none) J rfl q
    | brk =>
      obtain ⟨_, _, _, q⟩ := hs
      exact False.elim q
    | cont =>
      obtain ⟨_, _, _, q⟩ := hs
      exact False.elim q
end

/-! ### the promise of such an __init__, its body, the raise -/
def okV (x : V) : Prop := (∃ y : Str, x = .str y ∧ y.length ≤ 1000) ∨ ∃ i : Int, x = .int i ∧ i.natAbs.log2 < 1920
theorem okV_int {i : Int} (h : -(2 ^ 64) < i ∧ i < 2 ^ 64) : okV (.int i) := by
  refine .inr ⟨i, rfl, ?_⟩
  have h1 : i.natAbs < 2 ^ 64 := by omega
  by_cases h0 : i.natAbs = 0
  · rw [h0]; decide
  · exact Nat.lt_of_lt_of_le ((Nat.log2_lt h0).mpr h1) (by decide)
def spErr (C : Addr) (fld : Str) : Sp := fun vs H Q _ => ∃ a x, vs = [.ref a, x] ∧ okV x ∧ H a = some (exo a C none) ∧ ∀ d, H d = none → d ≠ a → Q .non (upd (upd H d (exd d [(fld, x)])) a (exo a C (some d)))
section
variable {P : Program} {w : World} {K : PySem.W.Frag} {mg : Str → Option Value} {base : Heap} {CX : CXT}
theorem okErr {C cc cda f : Addr} {name qual fld : Str} {params : Arguments} {scope : Scope} {fd : FuncData} {ar : Arg} {prm : Str} {p0 p1 p2 pos pos' q0 q1 q2 q3 : Pos} {e : Expr} {te : TE}
    (T : ErrC P K mg C) (hno : PySem.W.findIn K (.ref C) fld = some none)
    (I0 : ErrI P K C cc cda f name qual params [.Expr (.Call (.Attribute (.Call (.Name "super" p0) [] [] p1) "__init__" p2) [e] [] pos) pos', .Assign [.Attribute (.Name "self" q0) fld q1] (.Name prm q2) q3] scope fd)
    (S : NScope ["self", prm, "__class__"] ["self", prm] ["__class__"] scope) (hp : (params.posonlyargs ++ params.args).head? = some ar) (hp0 : ar.arg = "self") (hsup : scope.names.lookup ("super" : Str) = some .globalImplicit)
    (hd : (prm == ("__debug__" : Str)) = false) (hcd : (prm == ("__classdict__" : Str)) = false)
    (he : ∀ env, starEach [e] env = (false, eval e env) :: starEach [] env)
    {pl : Env → Sem Bool} (hmc : ∀ env : Env, eval (.Call (.Attribute (.Call (.Name "super" p0) [] [] p1) "__init__" p2) [e] [] pos) env = (do
      let ov ← attributeBase (.Call (.Name "super" p0) [] [] p1) "__init__" env (eval (.Call (.Name "super" p0) [] [] p1) env)
      standAt p2.atName
      let (f, first) ← holding [ov] (getMethod ov "__init__" (pl env))
      callWith pos f first (backTo pos (starEach [e] env)) []))
    (hsw : ∀ env, swapsWith (.Call (.Attribute (.Call (.Name "super" p0) [] [] p1) "__init__" p2) [e] [] pos) none pos'.line env = pure false)
    (hsw2 : ∀ env, swapsWith (.Name prm q2) (some (.Attribute (.Name "self" q0) fld q1)) q3.line env = pure false)
    (hPE : ∀ X : Cx, X.N[1]? = some prm → Vis X.env.scope prm → PE X e te)
    (hte : ∀ (σ : L2.St) (H : Hp) (Q : VK) (x : V), σ[1]? = some (some x) → okV x → (∀ z, Q (.str z) H) → te σ H Q) :
    FnOk P w K mg base CX 1 f fd ["self", prm] (spErr C fld) := by
  refine fn_of_err T I0 S hp (by rw [hp0]; rfl) hsup (fun vs H Q E h => ?_) he (fun env => rfl) hmc hsw fun A outer s H vs Q E h => ?_
  · obtain ⟨a, x, rfl, _⟩ := h
    rfl
  · obtain ⟨a, x, rfl, hok, hea, k⟩ := h
    refine ⟨tCons te tNil, tOst K fld (tVar 0) (tVar 1), pa_cons (hPE _ rfl (Or.inl (S.par _ (by simp)))) pa_nil (he _), pss_one (ps_ost (pv 0 rfl (Or.inl (S.par _ (by simp)))) (pv 1 rfl (Or.inl (S.par _ (by simp))) hd hcd) (hsw2 _)), a, rfl, hea, ?_⟩
    refine hte _ _ _ x rfl hok fun z => ?_
    refine ⟨by show 1 ≤ 1000; decide, hea, ?_⟩
    exact ⟨x, rfl, _, rfl, a, C, rfl, T.ox, hno, .inl ⟨hea, fun d hd hda => k d hd hda⟩⟩
/-- f"pre{x}" and f"pre{x}suf" -/
theorem te2 {pre : Str} {i : Nat} (hpre : pre.length ≤ 1000) (σ : L2.St) (H : Hp) (Q : VK) (x : V) (hx : σ[i]? = some (some x)) (ho : okV x) (q : ∀ z, Q (.str z) H) :
    tJs [tC (.str pre), tFmt (tVar i)] Str.empty σ H (fun out H1 => Q (.str out) H1) := by
  have hs : ∀ n : Nat, n ≤ 10000 → n ≤ sizeLine := fun n h => by rw [sizeLine_eq]; omega
  have l0 : (Str.empty ++ pre).length ≤ 1000 := by rw [Str.length_append]; show 0 + _ ≤ _; omega
  refine ⟨pre, rfl, hs _ (by omega), x, hx, ?_⟩
  rcases ho with ⟨y, rfl, hy⟩ | ⟨j, rfl, hj⟩
  · exact .inl ⟨y, rfl, hs _ (by omega), y, rfl, hs _ (by rw [Str.length_append]; omega), q _⟩
  · have l1 := int_text_len_1921 hj
    exact .inr ⟨j, rfl, hj, _, rfl, hs _ (by rw [Str.length_append]; exact Nat.le_trans (Nat.add_le_add l0 l1) (by decide)), q _⟩
theorem te3 {pre suf : Str} {i : Nat} (hpre : pre.length ≤ 1000) (hsuf : suf.length ≤ 1000) (σ : L2.St) (H : Hp) (Q : VK) (x : V) (hx : σ[i]? = some (some x)) (ho : okV x) (q : ∀ z, Q (.str z) H) :
    tJs [tC (.str pre), tFmt (tVar i), tC (.str suf)] Str.empty σ H (fun out H1 => Q (.str out) H1) := by
  have hs : ∀ n : Nat, n ≤ 10000 → n ≤ sizeLine := fun n h => by rw [sizeLine_eq]; omega
  have l0 : (Str.empty ++ pre).length ≤ 1000 := by rw [Str.length_append]; show 0 + _ ≤ _; omega
  refine ⟨pre, rfl, hs _ (by omega), x, hx, ?_⟩
  rcases ho with ⟨y, rfl, hy⟩ | ⟨j, rfl, hj⟩
  · have l2 : (Str.empty ++ pre ++ y).length ≤ 2000 := by rw [Str.length_append]; omega
    exact .inl ⟨y, rfl, hs _ (by omega), y, rfl, hs _ (by omega), suf, rfl, hs _ (by rw [Str.length_append]; omega), q _⟩
  · have l1 := int_text_len_1921 hj
    have l2 : (Str.empty ++ pre ++ Str.ofString (toString j)).length ≤ 2921 := by rw [Str.length_append]; omega
    exact .inr ⟨j, rfl, hj, _, rfl, hs _ (Nat.le_trans l2 (by decide)), suf, rfl, hs _ (by rw [Str.length_append]; exact Nat.le_trans (Nat.add_le_add l2 hsuf) (by decide)), q _⟩
end
/-- an own error class, ready to be raised and caught -/
structure EK (P : Program) (w : World) (K : PySem.W.Frag) (mg : Str → Option Value) (base : Heap) (x fld : Str) (C fI : Addr) (fd : FuncData) (ps : List Str) : Prop where
  T : ErrC P K mg C
  g : mg x = some (.ref C)
  iC : PySem.W.findIn K (.ref C) "__init__" = some (some (.ref fI))
  tI : PySem.W.typeIn K (.ref fI) = some (.type "function")
  F1 : FnOk P w K mg base CX0 1 fI fd ps (spErr C fld)
  b : Binds K fd ps []
  nof : PySem.W.findIn K (.ref C) fld = some none
  xf : XfC K C
  isc : ExcC K C
  own : PySem.W.subIn K (.ref C) (.ref C) = some true
theorem EK.exm {P : Program} {w : World} {K : PySem.W.Frag} {mg : Str → Option Value} {base : Heap} {x fld : Str} {C fI : Addr} {fd : FuncData} {ps : List Str} (E : EK P w K mg base x fld C fI fd ps) : PySem.W.exmOne K (.ref C) (.ref C) = some true :=
  PySem.W.exm_ref E.T.ox.exC E.xf.hdC E.T.ox.tyC E.own
section
variable {X : Cx} {W : WX} {x fld : Str} {C fI : Addr} {fd : FuncData} {ps : List Str} {e o : Expr} {te ta : TE} {p pos pos' apos : Pos}
theorem upd_del {fs : List (Str × V)} {H : Hp} {a d : Addr} {o u v : HO} (ha : H a = none) (hda : d ≠ a) : upd (del (upd (upd (upd H a o) d u) a v) a) d (.xd fs) = upd H d (.xd fs) := by
  funext b
  by_cases hb : b = d
  · subst hb; rw [upd_same, upd_same]
  · rw [upd_ne hb, upd_ne hb]
    by_cases hba : b = a
    · subst hba; rw [del_same, ha]
    · rw [del_ne hba, upd_ne hba, upd_ne hb, upd_ne hba]
/-- a reading made to bear a weaker wish -/
def tUp (te : TE) : TE := fun σ H Q => ∃ Q0 : VK, te σ H Q0 ∧ ∀ v H1, Q0 v H1 → Q v H1
theorem pe_up (h : PE X e te) : PE X e (tUp te) := ⟨fun pins s σ H Q I ⟨Q0, q, m⟩ => thn (h.run pins s σ H Q0 I q) fun _ _ ⟨v, H1, J, r, z⟩ => ⟨v, H1, J, r, m _ _ z⟩⟩
/-- raise X(e) -/
def tRaiseE (W : WX) (C : Addr) (fld : Str) (te : TE) : TS := fun _ σ H => te σ H fun v H1 => okV v ∧ ∀ d, H1 d = none → W (.ref C) (some d) σ (upd H1 d (.xd [(fld, v)]))
theorem ps_raiseE (hc : X.calm = true) (E : EK X.prog X.w X.K X.mg X.base x fld C fI fd ps) (hr : Room 2 X.A) (tk : Takes X W) (hg : Gl X x) (he : PE X e te) (hdb : (x == ("__debug__" : Str)) = false := by decide)
    (hst : starEach [e] X.env = (false, eval e X.env) :: starEach [] X.env := by rfl) :
    PS X (.Raise (some (.Call (.Name x p) [e] [] pos)) none pos') (tRaiseE W C fld te) := by
  refine ⟨fun pins s σ H D I h => ?_⟩
  refine (ps_raise hc tk (pmk_oex E.T.ox E.iC E.tI E.F1 hr E.b .nil pass0 hg E.g (pa_cons (pe_up he) pa_nil hst) hdb hst rfl)).run pins s σ H D I ?_
  refine ⟨_, h, fun v H1 ⟨hok, k⟩ => ⟨by show 1 ≤ 1000; decide, fun a ha => ⟨a, v, rfl, hok, upd_same, fun d hd hda => ⟨rfl, d, [(fld, v)], upd_same, by rw [upd_ne hda, upd_same], ?_, ?_⟩⟩⟩⟩
  · rw [upd_ne hda] at hd
    exact hd
  · rw [upd_ne hda] at hd
    rw [upd_del ha hda]
    exact k d hd
/-! ### calls of what may raise, the wish at the slots -/
variable {CX : CXT} {k : Nat} {f : Addr} {sp : Sp} {m : Str} {es : List Expr} {t : TA} {ES : L2.St → XK}
def tMethS (C : Addr) (m : Str) (sp : Sp) (ES : L2.St → XK) (ta : TE) (t : TA) : TE := fun σ H Q => ta σ H fun x H1 => ∃ a dx fs, x = .ref a ∧ H1 a = some (.ins C dx fs) ∧ fs.lookup m = none ∧ t σ H1 fun vs H2 => sp (x :: vs) H2 Q (ES σ)
theorem pe_methS {pl : Sem Bool} (he : PE X o ta) (c : Cls X.K C) (hm : Meth X.K C m f) (F : FnOk X.prog X.w X.K X.mg X.base CX k f fd ps sp) (hr : Room k X.A) (hb : Binds X.K fd ps []) (hx : ∀ σ, PassesAt CX X σ (ES σ)) (ha : PA X (e :: es) t)
    (hst : starEach (e :: es) X.env = (false, eval e X.env) :: starEach es X.env := by rfl) (hpl : (backTo pos (starEach es X.env)).any (·.1) = false := by rfl)
    (ht : eval (.Call (.Attribute o m apos) (e :: es) [] pos) X.env = (do
      let ov ← eval o X.env
      standAt apos.atName
      let (f, first) ← holding [ov] (getMethod ov m pl)
      callWith pos f first (backTo pos (starEach (e :: es) X.env)) (backToKw pos (keywordEach [] X.env))) := by rfl) :
    PE X (.Call (.Attribute o m apos) (e :: es) [] pos) (tMethS C m sp ES ta t) := by
  refine ⟨fun pins s σ H Q I h => ?_⟩
  refine PySem.W.methodCall_KW (pl := pl) (thn (he.run pins s σ H _ I h) fun u s1 ⟨x, H1, I1, rx, a, dx, fs, ex, ea, l, q⟩ => ?_) ht
  subst ex
  obtain rfl : u = Value.ref a := rx
  refine getmeth_ok I1 ea c hm l ?_
  refine PySem.W.callWith_K (first := [.ref a]) (h₀ := X.base) I.ok.mod.kin hm.kp (thn (ha.run pos pins s1 σ H1 _ I1 q) fun us s2 ⟨vs, H2, I2, r, q2⟩ => ⟨I2.kIn, ?_⟩) hst hpl
  exact run_fnS (us := .ref a :: us) (vs := .ref a :: vs) F hr hb (hx σ) I2 (.cons rfl r) q2
theorem pe_meth0S {pl : Sem Bool} (he : PE X o ta) (c : Cls X.K C) (hm : Meth X.K C m f) (F : FnOk X.prog X.w X.K X.mg X.base CX k f fd ps sp) (hr : Room k X.A) (hb : Binds X.K fd ps []) (hx : ∀ σ, PassesAt CX X σ (ES σ))
    (ht : eval (.Call (.Attribute o m apos) [] [] pos) X.env = (do
      let ov ← eval o X.env
      standAt apos.atName
      let (f, first) ← holding [ov] (getMethod ov m pl)
      callWith pos f first (backTo pos (starEach [] X.env)) (backToKw pos (keywordEach [] X.env))) := by rfl) :
    PE X (.Call (.Attribute o m apos) [] [] pos) (tMethS C m sp ES ta tNil) := by
  refine ⟨fun pins s σ H Q I h => ?_⟩
  refine PySem.W.methodCall_KW (pl := pl) (thn (he.run pins s σ H _ I h) fun u s1 ⟨x, H1, I1, rx, a, dx, fs, ex, ea, l, q⟩ => ?_) ht
  subst ex
  obtain rfl : u = Value.ref a := rx
  refine getmeth_ok I1 ea c hm l ?_
  exact PySem.W.callWith_K0 (first := [.ref a]) I1.kIn hm.kp (run_fnS (us := [.ref a]) (vs := [.ref a]) F hr hb (hx σ) I1 (.cons rfl .nil) q)
theorem pe_call0S (F : FnOk X.prog X.w X.K X.mg X.base CX k f fd ps sp) (hr : Room k X.A) (hg : Gl X x) (hm : X.mg x = some (.ref f)) (hk : PySem.W.keepIn X.K (.ref f) = true) (hb : Binds X.K fd ps []) (hx : ∀ σ, PassesAt CX X σ (ES σ))
    (hdb : (x == ("__debug__" : Str)) = false := by decide) : PE X (.Call (.Name x p) [] [] pos) (tCallS sp ES tNil) := by
  refine ⟨fun pins s σ H Q I h => ?_⟩
  refine wpAny_Call_Name_kw (ld_glob I hg hm ?_ hdb)
  exact PySem.W.callWith_K0 I.kIn hk (run_fnS (us := []) (vs := []) F hr hb (hx σ) I .nil h)
theorem run_makeS {pins : List (Addr × Obj)} {σ : L2.St} {H : Hp} {s : Shared} {Q : VK} {us : List Value} {vs : List V} (M : Mk X.K C f) (F : FnOk X.prog X.w X.K X.mg X.base CX k f fd ps sp) (hr : Room (k + 1) X.A) (hb : Binds X.K fd ps []) (hp : ∀ (σ : L2.St), PassesAt CX X σ (ES σ))
    (I : Inv X pins σ H s) (r : Vals vs us) (h : ∀ x dx, H x = none → H dx = none → dx ≠ x → sp (.ref x :: vs) (upd (upd H dx (.own x)) x (.ins C dx [])) (fun v H2 => v = .non ∧ Q (.ref x) H2) (ES σ)) :
    wpAny (model X.prog X.w) X.A (call (.ref C) us) (EP X pins σ Q) X.xe s := by
  have hq := h (s.heap.objs.size + 1) s.heap.objs.size (I.hok.fresh (Nat.le_succ _)) (I.hok.fresh (Nat.le_refl _)) (Nat.ne_of_lt (Nat.lt_succ_self _))
  have I2 := Inv.made (C := C) I
  have r2 : Vals (V.ref (s.heap.objs.size + 1) :: vs) (Value.ref (s.heap.objs.size + 1) :: us) := .cons rfl r
  have hl : (Value.ref (s.heap.objs.size + 1) :: us).length = ps.length := by rw [← r2.length]; exact F.len _ _ _ _ hq
  have b := hb _ (Value.ref (s.heap.objs.size + 1) :: us) I2.kIn (by rw [List.append_nil]; exact hl)
  rw [List.append_nil] at b
  refine wpAny_call (make_map (f := f) I.kIn M.makes M.init (beq_iff_eq.mp M.fn) (codeAny_mono (F.run _ X.stack _ _ ⟨Value.ref (s.heap.objs.size + 1) :: us, []⟩ (Value.ref (s.heap.objs.size + 1) :: us) _ _ (ES σ) (hr.make C us [])
    (I2.env0.make C us []) b r2 hq) fun r s' hq' => ?_))
  cases r with
  | error e => exact hp σ pins _ _ e s' I2 hq'
  | ok fl =>
    cases fl with
    | ret u =>
      obtain ⟨v, H', I3, rv, ev, q3⟩ := I2.after hq'
      subst ev
      exact ⟨rv, ⟨V.ref (s.heap.objs.size + 1), H', I3, rfl, q3⟩⟩
    | next => exact False.elim hq'
    | brk => exact False.elim hq'
    | cont => exact False.elim hq'
def tMakeS (C : Addr) (sp : Sp) (ES : L2.St → XK) (t : TA) : TE := fun σ H Q => t σ H fun vs H1 => ∀ x dx, H1 x = none → H1 dx = none → dx ≠ x → sp (.ref x :: vs) (upd (upd H1 dx (.own x)) x (.ins C dx [])) (fun v H2 => v = .non ∧ Q (.ref x) H2) (ES σ)
theorem pe_makeS (M : Mk X.K C f) (F : FnOk X.prog X.w X.K X.mg X.base CX k f fd ps sp) (hr : Room (k + 1) X.A) (hg : Gl X x) (hm : X.mg x = some (.ref C)) (hb : Binds X.K fd ps []) (hx : ∀ σ, PassesAt CX X σ (ES σ))
    (ha : PA X (e :: es) t) (hdb : (x == ("__debug__" : Str)) = false := by decide) (he : starEach (e :: es) X.env = (false, eval e X.env) :: starEach es X.env := by rfl) (hpl : (backTo pos (starEach es X.env)).any (·.1) = false := by rfl) :
    PE X (.Call (.Name x p) (e :: es) [] pos) (tMakeS C sp ES t) := by
  refine ⟨fun pins s σ H Q I h => ?_⟩
  refine wpAny_Call_Name_kw (ld_glob I hg hm ?_ hdb)
  refine PySem.W.callWith_K (h₀ := X.base) I.ok.mod.kin M.kp (thn (ha.run pos pins s σ H _ I h) fun us s1 ⟨vs, H1, I1, r, q⟩ => ⟨I1.kIn, ?_⟩) he hpl
  exact run_makeS M F hr hb hx I1 r q
theorem pe_make0S (M : Mk X.K C f) (F : FnOk X.prog X.w X.K X.mg X.base CX k f fd ps sp) (hr : Room (k + 1) X.A) (hg : Gl X x) (hm : X.mg x = some (.ref C)) (hb : Binds X.K fd ps []) (hx : ∀ σ, PassesAt CX X σ (ES σ))
    (hdb : (x == ("__debug__" : Str)) = false := by decide) : PE X (.Call (.Name x p) [] [] pos) (tMakeS C sp ES tNil) := by
  refine ⟨fun pins s σ H Q I h => ?_⟩
  refine wpAny_Call_Name_kw (ld_glob I hg hm ?_ hdb)
  exact PySem.W.callWith_K0 I.kIn M.kp (run_makeS (us := []) (vs := []) M F hr hb hx I .nil h)
/-! ### isinstance(e, T), e a caught error that has its dict -/
def rIsED (K : PySem.W.Frag) (D a : Addr) (cls : Value) (d : Option Addr) : List V → Hp → VK → Prop := fun xs H Q => ∃ (c : V) (cv : Value) (b : Bool) (dd : Addr) (fs : List (Str × V)), xs = [.ref a, c] ∧ cls = .ref D ∧ d = some dd ∧ H dd = some (.xd fs) ∧ (∀ u, RelV c u → u = cv) ∧ PySem.W.kitOne K (.ref D) cv = some b ∧ Q (.bl b) H
theorem call_isED {a D : Addr} {oe : Obj} {cls : Value} {d : Option Addr} {pn : List (Addr × Obj)} (C : ExcC X.K D) (hz : Zc cls d oe) (hf : ∃ vs, oe.data = .fields vs) : CallR (X.suite a ((a, oe) :: pn)) (.builtin "isinstance") (rIsED X.K D a cls d) := by
  intro pins s σ H xs us Q I r h
  obtain ⟨c, cv, b, dd, fs, rfl, rfl, rfl, hdd, hcv, e, q⟩ := h
  cases r with
  | cons rx rr =>
    cases rr with
    | cons rt rr =>
      cases rr
      cases rx
      have ec := hcv _ rt
      subst ec
      obtain ⟨hget, _⟩ := I.pin (a, oe) (List.mem_append.mpr (.inl List.mem_cons_self))
      obtain ⟨vs, hv⟩ := hf
      have hx : ObjOk X.prog X.w H s.heap dd (.xd fs) := I.hok dd _ hdd
      obtain ⟨mA, hns, hr⟩ := hx
      obtain ⟨od, ho, hl⟩ := lookIn_ns hns
      have J : PySem.W.InstAt s.heap a oe D (some od) := by
        obtain ⟨oc, od', oda, osl⟩ := oe
        obtain ⟨h1, h2⟩ := hz
        dsimp only at h1 h2 hv
        subst h1 h2 hv
        exact ⟨hget, rfl, rfl, ho⟩
      exact PySem.W.kia_one (PySem.W.kitx_exc (by obtain ⟨cd, hc, _⟩ := PySem.W.any_some C.hd; rw [hc]; rfl) C.hg C.hk C.hs C.ha C.hn C.ht C.hm) I.kIn J e (fun z => nomatch z) fun tk => ⟨.bl b, H, I.kept (t' := tk) fun _ _ z => z, rfl, q⟩
end

/-! ### C(k = v, ..), the parameters keyword-only -/
section
variable {X : Cx} {CX : CXT} {k : Nat} {f C : Addr} {fd : FuncData} {ps ks : List Str} {sp : Sp} {ES : L2.St → XK} {x : Str} {p pos : Pos} {kws : List Keyword} {tk : TA} {gV : List V → List V → List V}
def tMakeKS (C : Addr) (m : Nat) (sp : Sp) (gV : List V → List V → List V) (ES : L2.St → XK) (tk : TA) : TE := fun σ H Q => tk σ H fun zs H2 => zs.length = m ∧ ∀ x dx, H2 x = none → H2 dx = none → dx ≠ x →
  sp (gV [.ref x] zs) (upd (upd H2 dx (.own x)) x (.ins C dx [])) (fun v H3 => v = .non ∧ Q (.ref x) H3) (ES σ)
theorem pe_makeKS (M : Mk X.K C f) (F : FnOk X.prog X.w X.K X.mg X.base CX k f fd ps sp) (hr : Room (k + 1) X.A) (hg : Gl X x) (hm : X.mg x = some (.ref C)) (hbn : ∃ g, KBn X.K fd ps 1 ks g gV) (hx : ∀ σ, PassesAt CX X σ (ES σ)) (hkw : PK X kws tk)
    (hall : (backToKw pos (keywordEach kws X.env)).all (·.1.isSome) = true := by rfl) (hks : (backToKw pos (keywordEach kws X.env)).filterMap (·.1) = ks := by rfl) (hdb : (x == ("__debug__" : Str)) = false := by decide)
    (hpl : ((backTo pos (starEach [] X.env)).any (·.1) || (backToKw pos (keywordEach kws X.env)).any (·.1.isNone)) = false := by rfl) :
    PE X (.Call (.Name x p) [] kws pos) (tMakeKS C ks.length sp gV ES tk) := by
  obtain ⟨g, hb⟩ := hbn
  refine ⟨fun pins s σ H Q I h => ?_⟩
  refine wpAny_Call_Name_kw (ld_glob I hg hm ?_ hdb)
  refine PySem.W.callWith_KW0 (h₀ := X.base) I.ok.mod.kin M.kp hall ?_ hpl
  refine thn (hkw.run pos pins s σ H _ I h) fun ws s2 ⟨zs, H2, I2, rz, l2, q2⟩ => ⟨I2.kIn, ?_⟩
  rw [hks]
  have hq := q2 (s2.heap.objs.size + 1) s2.heap.objs.size (I2.hok.fresh (Nat.le_succ _)) (I2.hok.fresh (Nat.le_refl _)) (Nat.ne_of_lt (Nat.lt_succ_self _))
  have I3 := Inv.made (C := C) I2
  have r1 : Vals [V.ref (s2.heap.objs.size + 1)] [Value.ref (s2.heap.objs.size + 1)] := .cons rfl .nil
  have r2 := hb.rel r1 rz
  refine wpAny_call (make_map (f := f) I2.kIn M.makes M.init (beq_iff_eq.mp M.fn) (codeAny_mono (F.run _ X.stack _ _ ⟨[Value.ref (s2.heap.objs.size + 1)], ks.zip ws⟩ (g [Value.ref (s2.heap.objs.size + 1)] ws) _ _ (ES σ) (hr.make C [] (ks.zip ws))
    (I3.env0.make C [] (ks.zip ws)) (hb.to _ [Value.ref (s2.heap.objs.size + 1)] ws I3.kIn rfl (rz.length.symm.trans l2)) r2 hq) fun r s' hq' => ?_))
  cases r with
  | error e => exact hx σ pins _ _ e s' I3 hq'
  | ok fl =>
    cases fl with
    | ret u =>
      obtain ⟨v, H', I4, rv, ev, q3⟩ := I3.after hq'
      subst ev
      exact ⟨rv, ⟨V.ref (s2.heap.objs.size + 1), H', I4, rfl, q3⟩⟩
    | next => exact False.elim hq'
    | brk => exact False.elim hq'
    | cont => exact False.elim hq'
end
theorem passNo {X : Cx} {σ : L2.St} : PassesAt (L2.CX X.prog X.w) X σ (WE (fun _ _ _ _ => False) σ) := by
  intro pins H s e s' I c
  obtain ⟨_, _, _, _, _, _, _, _, _, _, _, _, z⟩ := c
  exact z.elim
end Sx
set_option Elab.async false
set_option maxRecDepth 100000
set_option maxHeartbeats 4000000
set_option linter.all false
set_option autoImplicit false
/-! Readings, one step a lemma; heaps by footprints. -/
namespace Rd
open PySem PySem.Spec PyProof.Rows L2 Sx
/-! ### promises by the number of arguments -/
def A0 (φ : Hp → VK → XK → Prop) : Sp := fun vs H Q E => vs = [] ∧ φ H Q E
def A1 (φ : V → Hp → VK → XK → Prop) : Sp := fun vs H Q E => ∃ x, vs = [x] ∧ φ x H Q E
def A2 (φ : V → V → Hp → VK → XK → Prop) : Sp := fun vs H Q E => ∃ x y, vs = [x, y] ∧ φ x y H Q E
def A3 (φ : V → V → V → Hp → VK → XK → Prop) : Sp := fun vs H Q E => ∃ x y z, vs = [x, y, z] ∧ φ x y z H Q E
def A4 (φ : V → V → V → V → Hp → VK → XK → Prop) : Sp := fun vs H Q E => ∃ x y z u, vs = [x, y, z, u] ∧ φ x y z u H Q E
def A5 (φ : V → V → V → V → V → Hp → VK → XK → Prop) : Sp := fun vs H Q E => ∃ x y z u w, vs = [x, y, z, u, w] ∧ φ x y z u w H Q E
def A6 (φ : V → V → V → V → V → V → Hp → VK → XK → Prop) : Sp := fun vs H Q E => ∃ x y z u w o, vs = [x, y, z, u, w, o] ∧ φ x y z u w o H Q E
theorem A0.len {φ : Hp → VK → XK → Prop} {vs : List V} {H : Hp} {Q : VK} {E : XK} (h : A0 φ vs H Q E) : vs.length = 0 := by obtain ⟨rfl, _⟩ := h; rfl
theorem A1.len {φ : V → Hp → VK → XK → Prop} {vs : List V} {H : Hp} {Q : VK} {E : XK} (h : A1 φ vs H Q E) : vs.length = 1 := by obtain ⟨_, rfl, _⟩ := h; rfl
theorem A2.len {φ : V → V → Hp → VK → XK → Prop} {vs : List V} {H : Hp} {Q : VK} {E : XK} (h : A2 φ vs H Q E) : vs.length = 2 := by obtain ⟨_, _, rfl, _⟩ := h; rfl
theorem A3.len {φ : V → V → V → Hp → VK → XK → Prop} {vs : List V} {H : Hp} {Q : VK} {E : XK} (h : A3 φ vs H Q E) : vs.length = 3 := by obtain ⟨_, _, _, rfl, _⟩ := h; rfl
theorem A4.len {φ : V → V → V → V → Hp → VK → XK → Prop} {vs : List V} {H : Hp} {Q : VK} {E : XK} (h : A4 φ vs H Q E) : vs.length = 4 := by obtain ⟨_, _, _, _, rfl, _⟩ := h; rfl
theorem A5.len {φ : V → V → V → V → V → Hp → VK → XK → Prop} {vs : List V} {H : Hp} {Q : VK} {E : XK} (h : A5 φ vs H Q E) : vs.length = 5 := by obtain ⟨_, _, _, _, _, rfl, _⟩ := h; rfl
theorem A6.len {φ : V → V → V → V → V → V → Hp → VK → XK → Prop} {vs : List V} {H : Hp} {Q : VK} {E : XK} (h : A6 φ vs H Q E) : vs.length = 6 := by obtain ⟨_, _, _, _, _, _, rfl, _⟩ := h; rfl
theorem a0 {φ : Hp → VK → XK → Prop} {H : Hp} {Q : VK} {E : XK} (h : φ H Q E) : A0 φ [] H Q E := ⟨rfl, h⟩
theorem a1 {φ : V → Hp → VK → XK → Prop} {x : V} {H : Hp} {Q : VK} {E : XK} (h : φ x H Q E) : A1 φ [x] H Q E := ⟨x, rfl, h⟩
theorem a2 {φ : V → V → Hp → VK → XK → Prop} {x y : V} {H : Hp} {Q : VK} {E : XK} (h : φ x y H Q E) : A2 φ [x, y] H Q E := ⟨x, y, rfl, h⟩
theorem a3 {φ : V → V → V → Hp → VK → XK → Prop} {x y z : V} {H : Hp} {Q : VK} {E : XK} (h : φ x y z H Q E) : A3 φ [x, y, z] H Q E := ⟨x, y, z, rfl, h⟩
theorem a4 {φ : V → V → V → V → Hp → VK → XK → Prop} {x y z u : V} {H : Hp} {Q : VK} {E : XK} (h : φ x y z u H Q E) : A4 φ [x, y, z, u] H Q E := ⟨x, y, z, u, rfl, h⟩
theorem a5 {φ : V → V → V → V → V → Hp → VK → XK → Prop} {x y z u w : V} {H : Hp} {Q : VK} {E : XK} (h : φ x y z u w H Q E) : A5 φ [x, y, z, u, w] H Q E := ⟨x, y, z, u, w, rfl, h⟩
theorem a6 {φ : V → V → V → V → V → V → Hp → VK → XK → Prop} {x y z u w o : V} {H : Hp} {Q : VK} {E : XK} (h : φ x y z u w o H Q E) : A6 φ [x, y, z, u, w, o] H Q E := ⟨x, y, z, u, w, o, rfl, h⟩
def A7 (φ : V → V → V → V → V → V → V → Hp → VK → XK → Prop) : Sp := fun vs H Q E => ∃ x0 x1 x2 x3 x4 x5 x6, vs = [x0, x1, x2, x3, x4, x5, x6] ∧ φ x0 x1 x2 x3 x4 x5 x6 H Q E
theorem A7.len {φ : V → V → V → V → V → V → V → Hp → VK → XK → Prop} {vs : List V} {H : Hp} {Q : VK} {E : XK} (h : A7 φ vs H Q E) : vs.length = 7 := by obtain ⟨_, _, _, _, _, _, _, rfl, _⟩ := h; rfl
theorem a7 {φ : V → V → V → V → V → V → V → Hp → VK → XK → Prop} {x0 x1 x2 x3 x4 x5 x6 : V} {H : Hp} {Q : VK} {E : XK} (h : φ x0 x1 x2 x3 x4 x5 x6 H Q E) : A7 φ [x0, x1, x2, x3, x4, x5, x6] H Q E := ⟨x0, x1, x2, x3, x4, x5, x6, rfl, h⟩
def A8 (φ : V → V → V → V → V → V → V → V → Hp → VK → XK → Prop) : Sp := fun vs H Q E => ∃ x0 x1 x2 x3 x4 x5 x6 x7, vs = [x0, x1, x2, x3, x4, x5, x6, x7] ∧ φ x0 x1 x2 x3 x4 x5 x6 x7 H Q E
theorem A8.len {φ : V → V → V → V → V → V → V → V → Hp → VK → XK → Prop} {vs : List V} {H : Hp} {Q : VK} {E : XK} (h : A8 φ vs H Q E) : vs.length = 8 := by obtain ⟨_, _, _, _, _, _, _, _, rfl, _⟩ := h; rfl
theorem a8 {φ : V → V → V → V → V → V → V → V → Hp → VK → XK → Prop} {x0 x1 x2 x3 x4 x5 x6 x7 : V} {H : Hp} {Q : VK} {E : XK} (h : φ x0 x1 x2 x3 x4 x5 x6 x7 H Q E) : A8 φ [x0, x1, x2, x3, x4, x5, x6, x7] H Q E := ⟨x0, x1, x2, x3, x4, x5, x6, x7, rfl, h⟩
def A9 (φ : V → V → V → V → V → V → V → V → V → Hp → VK → XK → Prop) : Sp := fun vs H Q E => ∃ x0 x1 x2 x3 x4 x5 x6 x7 x8, vs = [x0, x1, x2, x3, x4, x5, x6, x7, x8] ∧ φ x0 x1 x2 x3 x4 x5 x6 x7 x8 H Q E
theorem A9.len {φ : V → V → V → V → V → V → V → V → V → Hp → VK → XK → Prop} {vs : List V} {H : Hp} {Q : VK} {E : XK} (h : A9 φ vs H Q E) : vs.length = 9 := by obtain ⟨_, _, _, _, _, _, _, _, _, rfl, _⟩ := h; rfl
theorem a9 {φ : V → V → V → V → V → V → V → V → V → Hp → VK → XK → Prop} {x0 x1 x2 x3 x4 x5 x6 x7 x8 : V} {H : Hp} {Q : VK} {E : XK} (h : φ x0 x1 x2 x3 x4 x5 x6 x7 x8 H Q E) : A9 φ [x0, x1, x2, x3, x4, x5, x6, x7, x8] H Q E := ⟨x0, x1, x2, x3, x4, x5, x6, x7, x8, rfl, h⟩
def A10 (φ : V → V → V → V → V → V → V → V → V → V → Hp → VK → XK → Prop) : Sp := fun vs H Q E => ∃ x0 x1 x2 x3 x4 x5 x6 x7 x8 x9, vs = [x0, x1, x2, x3, x4, x5, x6, x7, x8, x9] ∧ φ x0 x1 x2 x3 x4 x5 x6 x7 x8 x9 H Q E
theorem A10.len {φ : V → V → V → V → V → V → V → V → V → V → Hp → VK → XK → Prop} {vs : List V} {H : Hp} {Q : VK} {E : XK} (h : A10 φ vs H Q E) : vs.length = 10 := by obtain ⟨_, _, _, _, _, _, _, _, _, _, rfl, _⟩ := h; rfl
theorem a10 {φ : V → V → V → V → V → V → V → V → V → V → Hp → VK → XK → Prop} {x0 x1 x2 x3 x4 x5 x6 x7 x8 x9 : V} {H : Hp} {Q : VK} {E : XK} (h : φ x0 x1 x2 x3 x4 x5 x6 x7 x8 x9 H Q E) : A10 φ [x0, x1, x2, x3, x4, x5, x6, x7, x8, x9] H Q E := ⟨x0, x1, x2, x3, x4, x5, x6, x7, x8, x9, rfl, h⟩
def A11 (φ : V → V → V → V → V → V → V → V → V → V → V → Hp → VK → XK → Prop) : Sp := fun vs H Q E => ∃ x0 x1 x2 x3 x4 x5 x6 x7 x8 x9 x10, vs = [x0, x1, x2, x3, x4, x5, x6, x7, x8, x9, x10] ∧ φ x0 x1 x2 x3 x4 x5 x6 x7 x8 x9 x10 H Q E
theorem A11.len {φ : V → V → V → V → V → V → V → V → V → V → V → Hp → VK → XK → Prop} {vs : List V} {H : Hp} {Q : VK} {E : XK} (h : A11 φ vs H Q E) : vs.length = 11 := by obtain ⟨_, _, _, _, _, _, _, _, _, _, _, rfl, _⟩ := h; rfl
theorem a11 {φ : V → V → V → V → V → V → V → V → V → V → V → Hp → VK → XK → Prop} {x0 x1 x2 x3 x4 x5 x6 x7 x8 x9 x10 : V} {H : Hp} {Q : VK} {E : XK} (h : φ x0 x1 x2 x3 x4 x5 x6 x7 x8 x9 x10 H Q E) : A11 φ [x0, x1, x2, x3, x4, x5, x6, x7, x8, x9, x10] H Q E := ⟨x0, x1, x2, x3, x4, x5, x6, x7, x8, x9, x10, rfl, h⟩
def A12 (φ : V → V → V → V → V → V → V → V → V → V → V → V → Hp → VK → XK → Prop) : Sp := fun vs H Q E => ∃ x0 x1 x2 x3 x4 x5 x6 x7 x8 x9 x10 x11, vs = [x0, x1, x2, x3, x4, x5, x6, x7, x8, x9, x10, x11] ∧ φ x0 x1 x2 x3 x4 x5 x6 x7 x8 x9 x10 x11 H Q E
theorem A12.len {φ : V → V → V → V → V → V → V → V → V → V → V → V → Hp → VK → XK → Prop} {vs : List V} {H : Hp} {Q : VK} {E : XK} (h : A12 φ vs H Q E) : vs.length = 12 := by obtain ⟨_, _, _, _, _, _, _, _, _, _, _, _, rfl, _⟩ := h; rfl
theorem a12 {φ : V → V → V → V → V → V → V → V → V → V → V → V → Hp → VK → XK → Prop} {x0 x1 x2 x3 x4 x5 x6 x7 x8 x9 x10 x11 : V} {H : Hp} {Q : VK} {E : XK} (h : φ x0 x1 x2 x3 x4 x5 x6 x7 x8 x9 x10 x11 H Q E) : A12 φ [x0, x1, x2, x3, x4, x5, x6, x7, x8, x9, x10, x11] H Q E := ⟨x0, x1, x2, x3, x4, x5, x6, x7, x8, x9, x10, x11, rfl, h⟩
/-! ### attribute lists -/
theorem putF_hit (f : Str) (v y : V) (r : List (Str × V)) : putF f v ((f, y) :: r) = (f, v) :: r := if_pos rfl
theorem putF_miss {f g : Str} (h : ¬ g = f) (v y : V) (r : List (Str × V)) : putF f v ((g, y) :: r) = (g, y) :: putF f v r := if_neg h
theorem putF_nil (f : Str) (v : V) : putF f v [] = [(f, v)] := rfl
theorem look_hit (f : Str) (y : V) (r : List (Str × V)) : ((f, y) :: r).lookup f = some y := by rw [lookup_put, if_pos rfl]
theorem look_miss {f g : Str} (h : ¬ g = f) (y : V) (r : List (Str × V)) : ((f, y) :: r).lookup g = r.lookup g := by rw [lookup_put, if_neg h]
/-! ### steps -/
section
variable {K : PySem.W.Frag} {D : Ends} {σ : L2.St} {H : Hp} {t u : TS} {te ta tb tc : TE} {tt tu : TT} {g : TG} {Q : VK} {QT : Bool → Hp → Prop} {v x y : V} {i : Nat} {r : R2} {tl tr : TA} {QA : List V → Hp → Prop}
theorem s_seq (h : t { D with nx := u D } σ H) : tSeq t u D σ H := h
theorem s_asg (h : te σ H fun x H1 => g x σ H1 D.nx) : tAsg te g D σ H := h
theorem g_name {R : L2.St → Hp → Prop} (h : R (σ.set i (some v)) H) : gName i v σ H R := h
theorem s_ret (h : te σ H D.rt) : tRet te D σ H := h
theorem s_retN (h : D.rt .non H) : tRetN D σ H := h
theorem s_drop (h : te σ H fun _ H1 => D.nx σ H1) : tDrop te D σ H := h
theorem s_if (h : tt σ H fun b H1 => if b = true then t D σ H1 else u D σ H1) : tIfS tt t u D σ H := h
theorem s_next (h : D.nx σ H) : tNext D σ H := h
theorem s_cont (h : D.ct σ H) : tCont D σ H := h
theorem s_break (h : D.bk σ H) : tBreak D σ H := h
theorem d_nx {a c d : L2.St → Hp → Prop} {b : V → Hp → Prop} (h : a σ H) : (Ends.mk a b c d).nx σ H := h
theorem d_rt {a c d : L2.St → Hp → Prop} {b : V → Hp → Prop} (h : b v H) : (Ends.mk a b c d).rt v H := h
theorem d_bk {a c d : L2.St → Hp → Prop} {b : V → Hp → Prop} (h : c σ H) : (Ends.mk a b c d).bk σ H := h
theorem d_ct {a c d : L2.St → Hp → Prop} {b : V → Hp → Prop} (h : d σ H) : (Ends.mk a b c d).ct σ H := h
def kSet (K : PySem.W.Frag) (f : Str) (y x : V) (H : Hp) (R : Hp → Prop) : Prop := ∃ a C dx fs, x = .ref a ∧ H a = some (.ins C dx fs) ∧ Cls K C ∧ NoAttr K C f ∧ fs.length < 1000 ∧ R (upd H a (.ins C dx (putF f y fs)))
theorem s_fld {f : Str} (h : tb σ H fun y H1 => ta σ H1 fun x H2 => kSet K f y x H2 (D.nx σ)) : sFld K ta tb f D σ H := h
theorem k_set {f : Str} {R : Hp → Prop} {a C dx : Addr} {fs fs' : List (Str × V)} (h : H a = some (.ins C dx fs)) (c : Cls K C) (n : NoAttr K C f) (hp : putF f y fs = fs') (l : fs.length < 1000) (q : R (upd H a (.ins C dx fs'))) : kSet K f y (.ref a) H R := ⟨a, C, dx, fs, rfl, h, c, n, l, hp ▸ q⟩
theorem e_var (h : σ[i]? = some (some v)) (q : Q v H) : tVar i σ H Q := ⟨v, h, q⟩
theorem e_c (q : Q v H) : tC v σ H Q := q
theorem e_op (h : ta σ H fun x H1 => tb σ H1 fun y H2 => r x y H2 Q) : tOp r ta tb σ H Q := h
theorem e_un {ru : V → Hp → VK → Prop} (h : ta σ H fun x H1 => ru x H1 Q) : tUn ru ta σ H Q := h
theorem o_I0 {gg : Int → Int → V} {m n : Int} (q : Q (gg m n) H) : rI0 gg (.int m) (.int n) H Q := ⟨m, n, rfl, rfl, q⟩
theorem o_I {Cc : Int → Int → Prop} {gg : Int → Int → V} {m n : Int} (c : Cc m n) (q : Q (gg m n) H) : rI Cc gg (.int m) (.int n) H Q := ⟨m, n, rfl, rfl, c, q⟩
theorem o_U {gg : Int → V} {m : Int} (q : Q (gg m) H) : rU gg (.int m) H Q := ⟨m, rfl, q⟩
theorem o_eq (s : scal x y = true) (q : Q (.bl (decide (x = y))) H) : rEq x y H Q := ⟨s, q⟩
theorem o_ne (s : scal x y = true) (q : Q (.bl (!decide (x = y))) H) : rNe x y H Q := ⟨s, q⟩
theorem o_ixL {p : Addr} {xs : List V} {n : Int} (h : SqL K H p xs) (a : atI xs n = some v) (q : Q v H) : rIxL K (.ref p) (.int n) H Q := ⟨p, xs, n, v, rfl, rfl, h, a, q⟩
theorem o_ixT {p : Addr} {xs : List V} {n : Int} (h : SqT K H p xs) (a : atI xs n = some v) (q : Q v H) : rIxT K (.ref p) (.int n) H Q := ⟨p, xs, n, v, rfl, rfl, h, a, q⟩
def kFld (K : PySem.W.Frag) (f : Str) (x : V) (H : Hp) (Q : VK) : Prop := ∃ a C dx fs v, x = .ref a ∧ H a = some (.ins C dx fs) ∧ Cls K C ∧ NoAttr K C f ∧ fs.lookup f = some v ∧ Q v H
theorem e_fld {f : Str} (h : ta σ H fun x H1 => kFld K f x H1 Q) : tFld K ta f σ H Q := h
theorem k_fld {f : Str} {a C dx : Addr} {fs : List (Str × V)} (h : H a = some (.ins C dx fs)) (c : Cls K C) (n : NoAttr K C f) (l : fs.lookup f = some v) (q : Q v H) : kFld K f (.ref a) H Q := ⟨a, C, dx, fs, v, rfl, h, c, n, l, q⟩
def kMeth (C : Addr) (m : Str) (sp : Sp) (E : XK) (t : TA) (σ : L2.St) (x : V) (H : Hp) (Q : VK) : Prop := ∃ a dx fs, x = .ref a ∧ H a = some (.ins C dx fs) ∧ fs.lookup m = none ∧ t σ H fun vs H2 => sp (x :: vs) H2 Q E
theorem e_meth {C : Addr} {m : Str} {sp : Sp} {ES : L2.St → XK} (h : ta σ H fun x H1 => kMeth C m sp (ES σ) tl σ x H1 Q) : tMethS C m sp ES ta tl σ H Q := h
theorem k_meth {C a dx : Addr} {m : Str} {sp : Sp} {E : XK} {fs : List (Str × V)} (h : H a = some (.ins C dx fs)) (l : fs.lookup m = none) (q : tl σ H fun vs H2 => sp (.ref a :: vs) H2 Q E) : kMeth C m sp E tl σ (.ref a) H Q := ⟨a, dx, fs, rfl, h, l, q⟩
theorem e_call {sp : Sp} {ES : L2.St → XK} (h : tl σ H fun vs H1 => sp vs H1 Q (ES σ)) : tCallS sp ES tl σ H Q := h
theorem e_make {C : Addr} {sp : Sp} {ES : L2.St → XK} (h : tl σ H fun vs H1 => ∀ x dx, H1 x = none → H1 dx = none → dx ≠ x → sp (.ref x :: vs) (upd (upd H1 dx (.own x)) x (.ins C dx [])) (fun v H2 => v = .non ∧ Q (.ref x) H2) (ES σ)) : tMakeS C sp ES tl σ H Q := h
theorem e_cb {rc : List V → Hp → VK → Prop} (h : tl σ H fun vs H1 => rc vs H1 Q) : tCB rc tl σ H Q := h
theorem l_nil (h : QA [] H) : tNil σ H QA := h
theorem l_cons (h : ta σ H fun x H1 => tl σ H1 fun xs H2 => QA (x :: xs) H2) : tCons ta tl σ H QA := h
theorem e_lst (h : tl σ H fun xs H1 => xs.length ≤ sizeLine ∧ ∀ p, H1 p = none → Q (.ref p) (upd H1 p (.lst xs))) : tLst tl σ H Q := h
theorem e_tup (h : tl σ H fun xs H1 => xs.length ≤ sizeLine ∧ ∀ p, H1 p = none → Q (.ref p) (upd H1 p (.tup xs))) : tTup tl σ H Q := h
theorem e_bm {T : String} {rm : V → List V → Hp → VK → Prop} (h : ta σ H fun x H1 => tyV K T x H1 ∧ tl σ H1 fun xs H2 => rm x xs H2 Q) : tBM K T rm ta tl σ H Q := h
theorem e_bm0 {T : String} {rm : V → List V → Hp → VK → Prop} (h : ta σ H fun x H1 => tyV K T x H1 ∧ rm x [] H1 Q) : tBM0 K T rm ta σ H Q := h
theorem e_not (h : ta σ H fun x H1 => ∃ c, x = .bl c ∧ Q (.bl (!c)) H1) : tNotV ta σ H Q := h
theorem e_if (h : tt σ H fun c H1 => if c = true then ta σ H1 Q else tb σ H1 Q) : tIf tt ta tb σ H Q := h
def kT (x : V) (H : Hp) (QT : Bool → Hp → Prop) : Prop := ∃ k, x = .bl k ∧ QT k H
theorem k_t {b : Bool} (q : QT b H) : kT (.bl b) H QT := ⟨b, rfl, q⟩
theorem t_test (h : te σ H fun x H1 => kT x H1 QT) : tTest te σ H QT := h
theorem t_B (h : te σ H fun x H1 => kT x H1 QT) : tB te σ H QT := h
theorem t_and (h : tt σ H fun c H1 => if c = true then tu σ H1 QT else QT false H1) : tAnd tt tu σ H QT := h
theorem t_or (h : tt σ H fun c H1 => if c = true then QT true H1 else tu σ H1 QT) : tOr tt tu σ H QT := h
theorem t_not (h : tt σ H fun c H1 => QT (!c) H1) : tNot tt σ H QT := h
theorem e_and (h : ta σ H fun x H1 => ∃ c, x = .bl c ∧ if c = true then tb σ H1 Q else Q (.bl false) H1) : tAndV ta tb σ H Q := h
theorem e_or (h : ta σ H fun x H1 => ∃ c, x = .bl c ∧ if c = true then Q (.bl true) H1 else tb σ H1 Q) : tOrV ta tb σ H Q := h
theorem e_chain {r' : R2} (h : ta σ H fun x H1 => tb σ H1 fun y H2 => r x y H2 fun z H3 => kT z H3 fun k H4 => if k = true then tc σ H4 fun w' H5 => r' y w' H5 Q else Q (.bl false) H4) : tChain r r' ta tb tc σ H Q := by
  refine h
theorem s_raise {W : WX} {C : Addr} {fld : Str} (h : te σ H fun v H1 => okV v ∧ ∀ d, H1 d = none → W (.ref C) (some d) σ (upd H1 d (.xd [(fld, v)]))) : tRaiseE W C fld te D σ H := h
theorem e_sl {rs : V → Option Int → Option Int → Hp → VK → Prop} {to th : TO} (h : te σ H fun x H1 => to σ H1 fun l H2 => th σ H2 fun u H3 => rs x l u H3 Q) : tSl rs te to th σ H Q := h
theorem p_no {QO : Option Int → Hp → Prop} (h : QO none H) : tNoPart σ H QO := h
def kI (x : V) (H : Hp) (QO : Option Int → Hp → Prop) : Prop := ∃ n, x = .int n ∧ QO (some n) H
theorem k_i {QO : Option Int → Hp → Prop} {n : Int} (q : QO (some n) H) : kI (.int n) H QO := ⟨n, rfl, q⟩
theorem p_some {QO : Option Int → Hp → Prop} (h : te σ H fun x H1 => kI x H1 QO) : tPart te σ H QO := h
/-! ### ifs -/
theorem if_d {c A B : Prop} [Decidable c] (h1 : c → A) (h2 : ¬ c → B) : if decide c = true then A else B := by
  by_cases h : c
  · rw [if_pos (decide_eq_true h)]; exact h1 h
  · rw [if_neg (by rw [decide_eq_false h]; exact Bool.false_ne_true)]; exact h2 h
theorem if_nd {c A B : Prop} [Decidable c] (h1 : ¬ c → A) (h2 : c → B) : if (!decide c) = true then A else B := by
  by_cases h : c
  · rw [decide_eq_true h]; exact iteF (h2 h)
  · rw [decide_eq_false h]; exact iteT (h1 h)
theorem if_dT {c A B : Prop} [Decidable c] (h : c) (q : A) : if decide c = true then A else B := by rw [if_pos (decide_eq_true h)]; exact q
theorem if_dF {c A B : Prop} [Decidable c] (h : ¬ c) (q : B) : if decide c = true then A else B := if_d (fun z => absurd z h) fun _ => q
theorem if_ndT {c A B : Prop} [Decidable c] (h : ¬ c) (q : A) : if (!decide c) = true then A else B := if_nd (fun _ => q) fun z => absurd z h
theorem if_ndF {c A B : Prop} [Decidable c] (h : c) (q : B) : if (!decide c) = true then A else B := if_nd (fun z => absurd h z) fun _ => q
theorem if_b {b : Bool} {A B : Prop} (h1 : b = true → A) (h2 : b = false → B) : if b = true then A else B := by
  cases b with
  | true => exact iteT (h1 rfl)
  | false => exact iteF (h2 rfl)
end
/-! ### lists of values -/
theorem upd_rw {H : Hp} {a : Addr} {o : HO} (h : H a = some o) : upd H a o = H := by
  funext b
  by_cases hb : b = a
  · rw [hb, upd_same, h]
  · rw [upd_ne hb]
theorem sz {n : Nat} (h : n ≤ 100000) : n ≤ sizeLine := by rw [sizeLine_eq]; omega
theorem szl {n : Nat} (h : n < 100000) : n < sizeLine := by rw [sizeLine_eq]; omega
/-! ### what a step may touch -/
/-- all that was tracked, but at fp, is as it was -/
def Fp (fp : List Addr) (H H' : Hp) : Prop := ∀ b o, H b = some o → b ∉ fp → H' b = some o
theorem Fp.refl (fp : List Addr) (H : Hp) : Fp fp H H := fun _ _ h _ => h
theorem Fp.trans {fp : List Addr} {H H1 H2 : Hp} (a : Fp fp H H1) (b : Fp fp H1 H2) : Fp fp H H2 := fun c o h n => b c o (a c o h n) n
theorem Fp.mono {fp fq : List Addr} {H H' : Hp} (a : Fp fp H H') (s : ∀ x, x ∈ fp → x ∈ fq) : Fp fq H H' := fun c o h n => a c o h fun z => n (s c z)
theorem Fp.new {fp : List Addr} {H : Hp} {a : Addr} {o : HO} (h : H a = none) : Fp fp H (upd H a o) := fun c u e _ => by rw [upd_ne (ne_of_none e h)]; exact e
theorem Fp.at_ {fp : List Addr} {H : Hp} {a : Addr} {o : HO} (h : a ∈ fp) : Fp fp H (upd H a o) := fun c u e n => by
  rw [upd_ne (fun z => n (by rw [z]; exact h))]
  exact e
/-- what was new in H does not count -/
theorem Fp.drop {fp fq : List Addr} {H H' : Hp} (a : Fp fp H H') (s : ∀ x, x ∈ fp → x ∈ fq ∨ H x = none) : Fp fq H H' := fun c o h n => a c o h fun z => by
  rcases s c z with q | q
  · exact n q
  · rw [q] at h; cases h
theorem Fp.free {fp : List Addr} {H H' : Hp} (e : Fp fp H H') {l : Addr} (n : l ∉ fp) (h : H' l = none) : H l = none := by
  cases q : H l with
  | none => rfl
  | some o => rw [e l o q n] at h; cases h
theorem Fp.seq {K : PySem.W.Frag} {fp : List Addr} {H H' : Hp} {a : Addr} {xs : List V} (e : Fp fp H H') (n : a ∉ fp) (h : SqL K H a xs) : SqL K H' a xs := by
  rcases h with (h | ⟨o, h⟩) | h
  · exact .inl (.inl (e _ _ h n))
  · exact .inl (.inr ⟨o, e _ _ h n⟩)
  · exact .inr h
theorem Fp.tup {K : PySem.W.Frag} {fp : List Addr} {H H' : Hp} {a : Addr} {xs : List V} (e : Fp fp H H') (n : a ∉ fp) (h : SqT K H a xs) : SqT K H' a xs := by
  rcases h with (h | ⟨o, h⟩) | h
  · exact .inl (.inl (e _ _ h n))
  · exact .inl (.inr ⟨o, e _ _ h n⟩)
  · exact .inr h

/-! ### built-ins by name -/
section
variable {X : Cx} {K : PySem.W.Frag} {H : Hp} {Q : VK} {v : V}
def rLn (K : PySem.W.Frag) : List V → Hp → VK → Prop := fun xs H Q => ∃ p ys, xs = [.ref p] ∧ (SqL K H p ys ∨ SqT K H p ys) ∧ Q (.int ys.length) H
theorem call_ln : CallR X (.builtin "len") (rLn X.K) := call_len_seq
theorem c_ln {p : Addr} {ys : List V} (h : SqL K H p ys) (q : Q (.int ys.length) H) : rLn K [.ref p] H Q := ⟨p, ys, rfl, .inl h, q⟩
theorem c_lnT {p : Addr} {ys : List V} (h : SqT K H p ys) (q : Q (.int ys.length) H) : rLn K [.ref p] H Q := ⟨p, ys, rfl, .inr h, q⟩
def rAb : List V → Hp → VK → Prop := fun xs H Q => ∃ i, xs = [.int i] ∧ Q (.int (if i < 0 then -i else i)) H
theorem call_ab : CallR X (.builtin "abs") rAb := call_abs
theorem c_ab {i : Int} (q : Q (.int (if i < 0 then -i else i)) H) : rAb [.int i] H Q := ⟨i, rfl, q⟩
def rIn1 : List V → Hp → VK → Prop := fun xs H Q => ∃ i, xs = [.int i] ∧ Q (.int i) H
theorem call_in : CallR X (.type "int") rIn1 := fun pins s σ H xs us Q I r ⟨i, e, q⟩ => call_int1 pins s σ H xs us Q I r (.inl ⟨i, e, q⟩)
theorem c_in {i : Int} (q : Q (.int i) H) : rIn1 [.int i] H Q := ⟨i, rfl, q⟩
def rMx : List V → Hp → VK → Prop := fun xs H Q => ∃ i j, xs = [.int i, .int j] ∧ Q (.int (if j > i then j else i)) H
theorem call_mx (hc : X.calm = true) : CallR X (.builtin "max") rMx := call_max2 hc
theorem c_mx {i j : Int} (q : Q (.int (if j > i then j else i)) H) : rMx [.int i, .int j] H Q := ⟨i, j, rfl, q⟩
def rMn : List V → Hp → VK → Prop := fun xs H Q => ∃ i j, xs = [.int i, .int j] ∧ Q (.int (if j < i then j else i)) H
theorem call_mn (hc : X.calm = true) : CallR X (.builtin "min") rMn := call_min2 hc
theorem c_mn {i j : Int} (q : Q (.int (if j < i then j else i)) H) : rMn [.int i, .int j] H Q := ⟨i, j, rfl, q⟩
def rLs (K : PySem.W.Frag) : List V → Hp → VK → Prop := fun xs H Q => ∃ p ys, xs = [.ref p] ∧ (SqL K H p ys ∨ SqT K H p ys) ∧ ∀ l, H l = none → Q (.ref l) (upd H l (.lst ys))
theorem call_ls : CallR X (.type "list") (rLs X.K) := call_list_of
theorem c_ls {p : Addr} {ys : List V} (h : SqL K H p ys) (q : ∀ l, H l = none → Q (.ref l) (upd H l (.lst ys))) : rLs K [.ref p] H Q := ⟨p, ys, rfl, .inl h, q⟩
theorem c_app {l : Addr} {xs : List V} (h : H l = some (.lst xs)) (z : xs.length < sizeLine) (q : Q .non (upd H l (.lst (xs ++ [v])))) : rAppend (.ref l) [v] H Q := ⟨l, xs, v, rfl, rfl, h, z, q⟩
theorem c_pop0 {l : Addr} {x : V} {xs : List V} (h : H l = some (.lst (x :: xs))) (z : xs.length < 100000) (q : Q x (upd H l (.lst xs))) : rPopAt (.ref l) [.int 0] H Q :=
  ⟨l, x :: xs, 0, 0, x, rfl, rfl, h, by decide, by decide, by
    unfold seqIndex?
    first | rfl | simp, rfl, q⟩
theorem c_setL {p : Addr} {xs : List V} {n : Int} {j : Nat} {R : Hp → Prop} (h : H p = some (.lst xs)) (e : n = (j : Int)) (hj : j < xs.length) (q : R (upd H p (.lst (xs.set j v)))) : rSetL (.ref p) (.int n) v H R := by
  subst e
  exact ⟨p, xs, _, j, rfl, rfl, h, Evl.ixN_nat hj, q⟩
theorem g_sub {to ti : TE} {ts : TSet} {σ : L2.St} {R : L2.St → Hp → Prop} (h : to σ H fun o H1 => ti σ H1 fun i H2 => ts o i v H2 fun H3 => R σ H3) : gSub to ti ts v σ H R := h
theorem o_cat {l b : Addr} {xs zs : List V} (h : H l = some (.lst xs)) (h' : H b = some (.lst zs)) (z : xs.length + zs.length ≤ sizeLine) (q : ∀ p, H p = none → Q (.ref p) (upd H p (.lst (xs ++ zs)))) : rCat (.ref l) (.ref b) H Q := ⟨l, b, xs, zs, rfl, rfl, h, h', z, q⟩
theorem o_slL {a : Addr} {xs : List V} {lo hi : Option Int} (h : SqL K H a xs) (q : ∀ p, H p = none → Q (.ref p) (upd H p (.lst (cutV xs lo hi)))) : rSlL K (.ref a) lo hi H Q := ⟨a, xs, rfl, h, q⟩
/-- data of one level, as PyData -/
def toD : V → PyData
  | .bl b => .bool b
  | .int i => .int i
  | .str x => .str x
  | _ => .none
def flat : V → Bool
  | .non => true | .bl _ => true | .int _ => true | .str x => PyData.strOk x | _ => false
theorem dp_flat {x : V} (h : flat x = true) : Dp K H x (toD x) := by
  cases x with
  | non => exact .non
  | bl b => exact .bl b
  | int i => exact .int i
  | str z => exact .str z
  | byt _ => cases h
  | flt _ => cases h
  | ref _ => cases h
  | ty _ => cases h
theorem dp_flats : ∀ {xs : List V}, (∀ x ∈ xs, flat x = true) → DpAll K H xs (xs.map toD)
  | [], _ => .nil
  | x :: xs, h => .cons (dp_flat (h x List.mem_cons_self)) (dp_flats fun y hy => h y (List.mem_cons_of_mem _ hy))
theorem lay_flat {x : V} (h : flat x = true) : (toD x).canLay0 = true := by
  cases x with
  | str z => show PyData.strOk z = true; exact h
  | non => rfl
  | bl b => rfl
  | int i => rfl
  | byt _ => cases h
  | flt _ => cases h
  | ref _ => cases h
  | ty _ => cases h
theorem lay_flats : ∀ {xs : List V}, (∀ x ∈ xs, flat x = true) → PyData.canLayAll0 (xs.map toD) = true
  | [], _ => rfl
  | x :: xs, h => by
    show ((toD x).canLay0 && PyData.canLayAll0 (xs.map toD)) = true
    rw [lay_flat (h x List.mem_cons_self), lay_flats fun y hy => h y (List.mem_cons_of_mem _ hy)]
    rfl
theorem depth_flat (x : V) : (toD x).depth ≤ 1 := by
  cases x <;> first | decide | (simp [toD, PyData.depth])
theorem depth_flats : ∀ xs : List V, PyData.depthAll (xs.map toD) ≤ 1
  | [] => by simp [PyData.depthAll]
  | x :: xs => by
    have h1 := depth_flat x
    have h2 := depth_flats xs
    show PyData.depthAll (toD x :: xs.map toD) ≤ 1
    simp only [PyData.depthAll]
    omega
theorem shaped_flat {x : V} (h : flat x = true) : SeqAt.shaped (toD x) = true := by
  show ((toD x).canLay0 && decide ((toD x).depth ≤ 64)) = true
  rw [lay_flat h, decide_eq_true (Nat.le_trans (depth_flat x) (by decide))]
  rfl
theorem shaped_flats {xs : List V} (h : ∀ x ∈ xs, flat x = true) : SeqAt.shaped (.list (xs.map toD)) = true := by
  have d1 := depth_flats xs
  show (PyData.canLay0 (.list (xs.map toD)) && decide (PyData.depth (.list (xs.map toD)) ≤ 64)) = true
  have e1 : PyData.canLay0 (.list (xs.map toD)) = PyData.canLayAll0 (xs.map toD) := by simp only [PyData.canLay0]
  have e2 : PyData.depth (.list (xs.map toD)) ≤ 64 := by simp only [PyData.depth]; omega
  rw [e1, lay_flats h, decide_eq_true e2]
  rfl
theorem shaped_flatT {xs : List V} (h : ∀ x ∈ xs, flat x = true) : SeqAt.shaped (.tuple (xs.map toD)) = true := by
  have d1 := depth_flats xs
  show (PyData.canLay0 (.tuple (xs.map toD)) && decide (PyData.depth (.tuple (xs.map toD)) ≤ 64)) = true
  have e1 : PyData.canLay0 (.tuple (xs.map toD)) = PyData.canLayAll0 (xs.map toD) := by simp only [PyData.canLay0]
  have e2 : PyData.depth (.tuple (xs.map toD)) ≤ 64 := by simp only [PyData.depth]; omega
  rw [e1, lay_flats h, decide_eq_true e2]
  rfl
/-- the same data on both sides -/
theorem eqv_self {d : PyData} (h : SeqAt.shaped d = true) : PyData.eqv d d = true := by
  have h1 : d.canLay0 = true := SeqAt.canLay_of_shaped h
  first | exact SeqAt.eqv_refl d h1 | exact P3.eqv_refl d h1 | exact eqv_refl d h1
theorem o_eqD {x y : V} {d : PyData} (h1 : Dp K H x d) (h2 : Dp K H y d) (s : SeqAt.shaped d = true) (q : Q (.bl true) H) : rEqD K x y H Q := ⟨d, d, h1, h2, s, s, by rw [eqv_self s]; exact q⟩
theorem o_neD {x y : V} {d : PyData} (h1 : Dp K H x d) (h2 : Dp K H y d) (s : SeqAt.shaped d = true) (q : Q (.bl false) H) : rNeD K x y H Q := ⟨d, d, h1, h2, s, s, by rw [eqv_self s]; exact q⟩
/-- two lists of plain values that are one list -/
theorem o_neL {a b : Addr} {xs : List V} (h1 : SqL K H a xs) (h2 : SqL K H b xs) (f : ∀ x ∈ xs, flat x = true) (q : Q (.bl false) H) : rNeD K (.ref a) (.ref b) H Q :=
  o_neD (.lst h1 (dp_flats f)) (.lst h2 (dp_flats f)) (shaped_flats f) q
theorem o_eqL {a b : Addr} {xs : List V} (h1 : SqL K H a xs) (h2 : SqL K H b xs) (f : ∀ x ∈ xs, flat x = true) (q : Q (.bl true) H) : rEqD K (.ref a) (.ref b) H Q :=
  o_eqD (.lst h1 (dp_flats f)) (.lst h2 (dp_flats f)) (shaped_flats f) q
theorem o_neT {a b : Addr} {xs : List V} (h1 : SqT K H a xs) (h2 : SqT K H b xs) (f : ∀ x ∈ xs, flat x = true) (q : Q (.bl false) H) : rNeD K (.ref a) (.ref b) H Q :=
  o_neD (.tup h1 (dp_flats f)) (.tup h2 (dp_flats f)) (shaped_flatT f) q
theorem flat_ints (ns : List Int) : ∀ x ∈ ns.map V.int, flat x = true := fun x hx => by
  obtain ⟨n, _, rfl⟩ := List.mem_map.mp hx
  rfl
end

/-! ### loops and comprehensions -/
section
variable {K : PySem.W.Frag} {D : Ends} {σ : L2.St} {H : Hp} {tb : TS} {te tl : TE} {tt tc : TT} {g : TG} {Q : VK} {j : Nat} {b : Addr} {xs ys : List V} {vs : List Nat}
theorem f_list (Pv : Nat → L2.St → Hp → Prop) (hv : σ[j]? = some (some (.ref b))) (hS : SqL K H b xs) (h0 : Pv 0 σ H) (hl : ∀ i σ' H', i ≤ xs.length → Pv i σ' H' → SqL K H' b xs)
    (hs : ∀ i x σ' H', xs[i]? = some x → Pv i σ' H' → g x σ' H' fun σ2 H2 => tb { D with nx := Pv (i + 1), ct := Pv (i + 1), bk := D.nx } σ2 H2) (hd : ∀ σ' H', Pv xs.length σ' H' → D.nx σ' H') : tFor (iList K (tVar j)) g tb D σ H :=
  ⟨_, hv, b, rfl, ⟨_, hS⟩, for_list Pv h0 hl hs hd⟩
/-- over a list that an expression hands back -/
theorem f_listE (h : tl σ H fun x H1 => ∃ (p : Addr) (xs : List V) (Pv : Nat → L2.St → Hp → Prop), x = .ref p ∧ SqL K H1 p xs ∧ Pv 0 σ H1 ∧ (∀ i σ' H', i ≤ xs.length → Pv i σ' H' → SqL K H' p xs) ∧
    (∀ i x σ' H', xs[i]? = some x → Pv i σ' H' → g x σ' H' fun σ2 H2 => tb { D with nx := Pv (i + 1), ct := Pv (i + 1), bk := D.nx } σ2 H2) ∧ ∀ σ' H', Pv xs.length σ' H' → D.nx σ' H') (up : ∀ R R' : VK, (∀ x H1, R x H1 → R' x H1) → tl σ H R → tl σ H R') : tFor (iList K tl) g tb D σ H :=
  up _ _ (fun _ _ ⟨p, xs, Pv, e, hS, h0, hl, hs, hd⟩ => ⟨p, e, ⟨xs, hS⟩, for_list Pv h0 hl hs hd⟩) h
/-- over the first n of a list -/
theorem f_listS {n : Int} (hv : σ[j]? = some (some (.ref b))) (hS : SqL K H b xs)
    (h : ∀ c, H c = none → ∃ Pv : Nat → L2.St → Hp → Prop, Pv 0 σ (upd H c (.lst (cutV xs none (some n)))) ∧ (∀ i σ' H', i ≤ (cutV xs none (some n)).length → Pv i σ' H' → SqL K H' c (cutV xs none (some n))) ∧
      (∀ i x σ' H', (cutV xs none (some n))[i]? = some x → Pv i σ' H' → g x σ' H' fun σ2 H2 => tb { D with nx := Pv (i + 1), ct := Pv (i + 1), bk := D.nx } σ2 H2) ∧ ∀ σ' H', Pv (cutV xs none (some n)).length σ' H' → D.nx σ' H') :
    tFor (iList K (tSl (rSlL K) (tVar j) tNoPart (tPart (tC (.int n))))) g tb D σ H := by
  show tSl (rSlL K) (tVar j) tNoPart (tPart (tC (.int n))) σ H _
  refine e_sl (e_var hv (p_no (p_some (e_c (k_i (o_slL hS fun c hc => ?_))))))
  obtain ⟨Pv, h0, hl, hs, hd⟩ := h c hc
  exact ⟨c, rfl, ⟨_, Or.inl (Or.inl upd_same)⟩, for_list Pv h0 hl hs hd⟩
theorem Fp.add {fp : List Addr} {H H1 H2 : Hp} (F : Fp [] H H1) (f : Fp fp H1 H2) (n : ∀ z ∈ fp, H z = none) : Fp [] H H2 := fun c o h m => f c o (F c o h (by simp)) fun z => by rw [n c z] at h; cases h
/-- for i in range(n) -/
def kRng (g : TG) (tb : TS) (D : Ends) (σ : L2.St) (x : V) (H1 : Hp) : Prop := iRng1 (fun _ _ R => R [x] H1) σ H1 fun J H1 => ∃ W : Nat → Nat → L2.St → Hp → Prop, (∃ m, W 0 m σ H1) ∧ ∀ i m σ H, W i m σ H →
  (J.stop i H ∧ D.nx σ H) ∨ (J.go i H ∧ ∃ N : L2.St → Hp → Prop, (∀ σ' H', N σ' H' → ∃ m', m' < m ∧ W (i + 1) m' σ' H') ∧ ∀ x H', J.yld i H x H' → g x σ H' fun σ2 H2 => tb { D with nx := N, ct := N, bk := D.nx } σ2 H2)
theorem f_rng1 (h : te σ H fun x H1 => kRng g tb D σ x H1) : tFor (iRng1 (tCons te tNil)) g tb D σ H := h
theorem k_rng (Pv : Nat → L2.St → Hp → Prop) {n : Int} (h1 : -(2 ^ 62) ≤ n) (h2 : n < 2 ^ 62) (h0 : Pv 0 σ H)
    (hs : ∀ i σ' H', i < n.toNat → Pv i σ' H' → g (.int (i : Nat)) σ' H' fun σ2 H2 => tb { D with nx := Pv (i + 1), ct := Pv (i + 1), bk := D.nx } σ2 H2) (hd : ∀ σ' H', Pv n.toNat σ' H' → D.nx σ' H') : kRng g tb D σ (.int n) H :=
  ⟨n, rfl, h1, h2, for_range (lo := 0) (n := n.toNat) Pv h0 (fun i σ' H' hi p => by
    have e0 : (0 : Int) + (i : Int) = (i : Int) := Int.zero_add _
    rw [e0]
    exact hs i σ' H' hi p) hd⟩
theorem w_by (W : Nat → L2.St → Hp → Prop) (m0 : Nat) (h0 : W m0 σ H) (hs : ∀ m σ' H', W m σ' H' → tc σ' H' fun k H1 => if k = true then ∃ N : L2.St → Hp → Prop, (∀ σ2 H2, N σ2 H2 → ∃ m', m' < m ∧ W m' σ2 H2) ∧ tb { D with nx := N, ct := N, bk := D.nx } σ' H1 else D.nx σ' H1) :
    tWhile tc tb D σ H := ⟨W, ⟨m0, h0⟩, hs⟩
theorem take_snoc {α : Type} {l : List α} {i : Nat} {x : α} (h : l[i]? = some x) : l.take (i + 1) = l.take i ++ [x] := by
  obtain ⟨hi, rfl⟩ := List.getElem?_eq_some_iff.mp h
  rw [List.take_succ, List.getElem?_eq_getElem hi]
  rfl
/-- [e for x in xs], e without a trace in the heap -/
theorem lc_pure (hv : σ[j]? = some (some (.ref b))) (hS : SqL K H b xs) (hlen : ys.length = xs.length) (hz : xs.length < 100000)
    (hs : ∀ (E : Addr) (i : Nat) (x y : V) (H' : Hp) (R : VK), H E = none → xs[i]? = some x → ys[i]? = some y → H' = upd H E (.lst (ys.take i)) → R y H' → g x (wipe σ vs) H' fun σ2 H2 => wipe σ2 vs = wipe σ vs ∧ te σ2 H2 R)
    (q : ∀ E, H E = none → Q (.ref E) (upd H E (.lst ys))) : tLc (iList K (tVar j)) g tYes te vs σ H Q := by
  refine ⟨_, hv, b, rfl, ⟨_, hS⟩, fun E hE => ?_⟩
  refine lc_list (K := K) (a := b) (xs := xs) (fun i H' => H' = upd H E (.lst (ys.take i))) (by rw [List.take_zero]) (fun i H' hi e => ?_) (fun i x H' hx e => ?_) fun H' e => ?_
  · subst e; exact (Fp.new (fp := []) hE).seq (by simp) hS
  · have hi : i < xs.length := (List.getElem?_eq_some_iff.mp hx).1
    have hy : ys[i]? = some ys[i] := List.getElem?_eq_getElem (by omega)
    have z := hs E i x _ H' (fun y H4 => ∃ acc, H4 E = some (.lst acc) ∧ acc.length < sizeLine ∧ upd H4 E (.lst (acc ++ [y])) = upd H E (.lst (ys.take (i + 1)))) hE hx hy e
      ⟨ys.take i, by rw [e]; exact upd_same, szl (by rw [List.length_take]; omega), by rw [e, upd_upd, take_snoc hy]⟩
    exact z
  · rw [e, ← hlen, List.take_length]
    exact q E hE
theorem lc_pureR {n : Int} (h1 : 0 ≤ n) (h2 : n < 100000) (hlen : (ys.length : Int) = n)
    (hs : ∀ (E : Addr) (i : Nat) (y : V) (H' : Hp) (R : VK), H E = none → (i : Int) < n → ys[i]? = some y → H' = upd H E (.lst (ys.take i)) → R y H' → g (.int (i : Nat)) (wipe σ vs) H' fun σ2 H2 => wipe σ2 vs = wipe σ vs ∧ te σ2 H2 R)
    (q : ∀ E, H E = none → Q (.ref E) (upd H E (.lst ys))) : (iRng1 (fun _ _ R => R [V.int n] H)) σ H fun J H1 => ∀ E, H1 E = none → ∃ W : Nat → Nat → Hp → Prop, (∃ m, W 0 m (upd H1 E (.lst []))) ∧ ∀ i m H, W i m H →
    (J.stop i H ∧ Q (.ref E) H) ∨ (J.go i H ∧ ∃ Nx : Hp → Prop, (∀ H', Nx H' → ∃ m', m' < m ∧ W (i + 1) m' H') ∧ ∀ x H', J.yld i H x H' → g x (wipe σ vs) H' fun σ2 H2 => wipe σ2 vs = wipe σ vs ∧ tYes σ2 H2 fun b H3 =>
      if b = true then te σ2 H3 fun y H4 => ∃ acc, H4 E = some (.lst acc) ∧ acc.length < sizeLine ∧ Nx (upd H4 E (.lst (acc ++ [y]))) else Nx H3) := by
  refine ⟨n, rfl, by omega, by omega, fun E hE => ?_⟩
  refine lc_range (lo := 0) (n := n.toNat) (fun i H' => H' = upd H E (.lst (ys.take i))) (by rw [List.take_zero]) (fun i H' hi e => ?_) fun H' e => ?_
  · have hy : ys[i]? = some ys[i] := List.getElem?_eq_getElem (by omega)
    have e0 : (0 : Int) + (i : Int) = (i : Int) := Int.zero_add _
    rw [e0]
    exact hs E i _ H' (fun y H4 => ∃ acc, H4 E = some (.lst acc) ∧ acc.length < sizeLine ∧ upd H4 E (.lst (acc ++ [y])) = upd H E (.lst (ys.take (i + 1)))) hE (by omega) hy e
      ⟨ys.take i, by rw [e]; exact upd_same, szl (by rw [List.length_take]; omega), by rw [e, upd_upd, take_snoc hy]⟩
  · have : n.toNat = ys.length := by omega
    rw [e, this, List.take_length]
    exact q E hE
def kLcR (g : TG) (te : TE) (vs : List Nat) (σ : L2.St) (Q : VK) (x : V) (H : Hp) : Prop := (iRng1 (fun _ _ R => R [x] H)) σ H fun J H1 => ∀ E, H1 E = none → ∃ W : Nat → Nat → Hp → Prop, (∃ m, W 0 m (upd H1 E (.lst []))) ∧ ∀ i m H, W i m H →
    (J.stop i H ∧ Q (.ref E) H) ∨ (J.go i H ∧ ∃ Nx : Hp → Prop, (∀ H', Nx H' → ∃ m', m' < m ∧ W (i + 1) m' H') ∧ ∀ x H', J.yld i H x H' → g x (wipe σ vs) H' fun σ2 H2 => wipe σ2 vs = wipe σ vs ∧ tYes σ2 H2 fun b H3 =>
      if b = true then te σ2 H3 fun y H4 => ∃ acc, H4 E = some (.lst acc) ∧ acc.length < sizeLine ∧ Nx (upd H4 E (.lst (acc ++ [y]))) else Nx H3)
theorem fm_snoc {α : Type} {f : α → Option V} {l : List α} {i : Nat} {x : α} (h : l[i]? = some x) : (l.take (i + 1)).filterMap f = (l.take i).filterMap f ++ (f x).toList := by
  rw [take_snoc h, List.filterMap_append]
  cases e : f x <;> simp [e]
/-- [e for x in xs if t], where t and e may make new objects -/
theorem lc_filt (f : V → Option V) (hv : σ[j]? = some (some (.ref b))) (hS : SqL K H b xs) (hz : xs.length < 100000)
    (hs : ∀ (E : Addr) (i : Nat) (x : V) (H' : Hp) (R : VK) (N : Hp → Prop), H E = none → xs[i]? = some x → H' E = some (.lst ((xs.take i).filterMap f)) → Fp [] H H' → (∀ y H4, f x = some y → Fp [] H' H4 → R y H4) → (f x = none → ∀ H4, Fp [] H' H4 → N H4) →
      g x (wipe σ vs) H' fun σ2 H2 => wipe σ2 vs = wipe σ vs ∧ tt σ2 H2 fun k H3 => if k = true then te σ2 H3 R else N H3)
    (q : ∀ E H', H E = none → H' E = some (.lst (xs.filterMap f)) → Fp [] H H' → Q (.ref E) H') : tLc (iList K (tVar j)) g tt te vs σ H Q := by
  refine ⟨_, hv, b, rfl, ⟨_, hS⟩, fun E hE => ?_⟩
  refine lc_list (K := K) (a := b) (xs := xs) (fun i H' => H' E = some (.lst ((xs.take i).filterMap f)) ∧ Fp [] H H') ⟨by rw [List.take_zero]; exact upd_same, Fp.new hE⟩ (fun i H' hi e => ?_) (fun i x H' hx e => ?_) fun H' e => ?_
  · exact e.2.seq (by simp) hS
  · have hi : i < xs.length := (List.getElem?_eq_some_iff.mp hx).1
    exact hs E i x H' (fun y H4 => ∃ acc, H4 E = some (.lst acc) ∧ acc.length < sizeLine ∧ (upd H4 E (.lst (acc ++ [y]))) E = some (.lst ((xs.take (i + 1)).filterMap f)) ∧ Fp [] H (upd H4 E (.lst (acc ++ [y])))) (fun H4 => H4 E = some (.lst ((xs.take (i + 1)).filterMap f)) ∧ Fp [] H H4) hE hx e.1 e.2
      (fun y H4 ey f4 => ⟨_, f4 _ _ e.1 (by simp), szl (Nat.lt_of_le_of_lt (List.length_filterMap_le _ _) (by rw [List.length_take]; omega)), by rw [upd_same, fm_snoc hx, ey]; rfl, Fp.drop (fp := [E]) (((e.2.trans f4).mono (by simp)).trans (Fp.at_ (by simp))) fun z hz => by rcases List.mem_singleton.mp hz with rfl; exact .inr hE⟩)
      (fun ey H4 f4 => ⟨by rw [fm_snoc hx, ey]; simpa using f4 _ _ e.1 (by simp), e.2.trans f4⟩)
  · rw [List.take_length] at e
    exact q E H' hE e.1 e.2
def kLcF (g : TG) (tt : TT) (te : TE) (vs : List Nat) (σ : L2.St) (Q : VK) (x : V) (H : Hp) : Prop := (iRng1 (fun _ _ R => R [x] H)) σ H fun J H1 => ∀ E, H1 E = none → ∃ W : Nat → Nat → Hp → Prop, (∃ m, W 0 m (upd H1 E (.lst []))) ∧ ∀ i m H, W i m H →
    (J.stop i H ∧ Q (.ref E) H) ∨ (J.go i H ∧ ∃ Nx : Hp → Prop, (∀ H', Nx H' → ∃ m', m' < m ∧ W (i + 1) m' H') ∧ ∀ x H', J.yld i H x H' → g x (wipe σ vs) H' fun σ2 H2 => wipe σ2 vs = wipe σ vs ∧ tt σ2 H2 fun b H3 =>
      if b = true then te σ2 H3 fun y H4 => ∃ acc, H4 E = some (.lst acc) ∧ acc.length < sizeLine ∧ Nx (upd H4 E (.lst (acc ++ [y]))) else Nx H3)
theorem e_lcF (h : tl σ H fun x H1 => kLcF g tt te vs σ Q x H1) : tLc (iRng1 (tCons tl tNil)) g tt te vs σ H Q := h
theorem fm_range {f : Nat → Option V} {i : Nat} : (List.range (i + 1)).filterMap f = (List.range i).filterMap f ++ (f i).toList := by
  rw [List.range_succ, List.filterMap_append]
  cases e : f i <;> simp [e]
/-- [e for i in range(n) if t] -/
theorem k_lcF {n : Int} (f : Nat → Option V) (h1 : 0 ≤ n) (h2 : n < 100000)
    (hs : ∀ (E : Addr) (i : Nat) (H' : Hp) (R : VK) (N : Hp → Prop), H E = none → (i : Int) < n → H' E = some (.lst ((List.range i).filterMap f)) → Fp [] H H' → (∀ y H4, f i = some y → Fp [] H' H4 → R y H4) → (f i = none → ∀ H4, Fp [] H' H4 → N H4) →
      g (.int (i : Nat)) (wipe σ vs) H' fun σ2 H2 => wipe σ2 vs = wipe σ vs ∧ tt σ2 H2 fun k H3 => if k = true then te σ2 H3 R else N H3)
    (q : ∀ E H', H E = none → H' E = some (.lst ((List.range n.toNat).filterMap f)) → Fp [] H H' → Q (.ref E) H') : kLcF g tt te vs σ Q (.int n) H := by
  refine ⟨n, rfl, by omega, by omega, fun E hE => ?_⟩
  refine lc_range (lo := 0) (n := n.toNat) (fun i H' => H' E = some (.lst ((List.range i).filterMap f)) ∧ Fp [] H H') ⟨upd_same, Fp.new hE⟩ (fun i H' hi e => ?_) fun H' e => q E H' hE e.1 e.2
  have e0 : (0 : Int) + (i : Int) = (i : Int) := Int.zero_add _
  rw [e0]
  exact hs E i H' (fun y H4 => ∃ acc, H4 E = some (.lst acc) ∧ acc.length < sizeLine ∧ (upd H4 E (.lst (acc ++ [y]))) E = some (.lst ((List.range (i + 1)).filterMap f)) ∧ Fp [] H (upd H4 E (.lst (acc ++ [y])))) (fun H4 => H4 E = some (.lst ((List.range (i + 1)).filterMap f)) ∧ Fp [] H H4) hE (by omega) e.1 e.2
    (fun y H4 ey f4 => ⟨_, f4 _ _ e.1 (by simp), szl (Nat.lt_of_le_of_lt (List.length_filterMap_le _ _) (by rw [List.length_range]; omega)), by rw [upd_same, fm_range, ey]; rfl, Fp.drop (fp := [E]) (((e.2.trans f4).mono (by simp)).trans (Fp.at_ (by simp))) fun z hz => by rcases List.mem_singleton.mp hz with rfl; exact .inr hE⟩)
    (fun ey H4 f4 => ⟨by rw [fm_range, ey]; simpa using f4 _ _ e.1 (by simp), e.2.trans f4⟩)
theorem e_lcR (h : tl σ H fun x H1 => kLcR g te vs σ Q x H1) : tLc (iRng1 (tCons tl tNil)) g tYes te vs σ H Q := h
theorem k_lcR {n : Int} (h1 : 0 ≤ n) (h2 : n < 100000) (hlen : (ys.length : Int) = n)
    (hs : ∀ (E : Addr) (i : Nat) (y : V) (H' : Hp) (R : VK), H E = none → (i : Int) < n → ys[i]? = some y → H' = upd H E (.lst (ys.take i)) → R y H' → g (.int (i : Nat)) (wipe σ vs) H' fun σ2 H2 => wipe σ2 vs = wipe σ vs ∧ te σ2 H2 R)
    (q : ∀ E, H E = none → Q (.ref E) (upd H E (.lst ys))) : kLcR g te vs σ Q (.int n) H := lc_pureR h1 h2 hlen hs q
end

theorem atI_zero {α : Type} (x : α) (xs : List α) : atI (x :: xs) 0 = some x := by
  have h : (x :: xs)[0]? = some x := rfl
  exact atI_nat (j := 0) h
theorem int_inj {i j : Int} (h : V.int i = V.int j) : i = j := V.int.inj h
theorem int_ne {i j : Int} (h : ¬ V.int i = V.int j) : i ≠ j := fun z => h (by rw [z])

theorem k_ty {K : PySem.W.Frag} {H : Hp} {p : Addr} {xs : List V} {R : Prop} (h : SqL K H p xs) (q : R) : tyV K "list" (.ref p) H ∧ R := ⟨Or.inl ⟨rfl, xs, h⟩, q⟩

theorem o_rep {K : PySem.W.Frag} {H : Hp} {Q : VK} {l : Addr} {n : Int} {xs : List V} (h : H l = some (.lst xs)) (h1 : 0 ≤ n) (h2 : xs.length * n.toNat ≤ 100000) (h3 : n < 2 ^ 63) (q : ∀ p, H p = none → Q (.ref p) (upd H p (.lst (List.replicate n.toNat xs).flatten))) : rRep (.ref l) (.int n) H Q :=
  ⟨l, n, xs, rfl, rfl, h, by omega, h3, sz h2, q⟩

theorem c_isBool {K : PySem.W.Frag} {H : Hp} {Q : VK} {b : Bool} (q : Q (.bl true) H) : rIsi K [.bl b, .ty "bool"] H Q := ⟨.bl b, .ty "bool", .type "bool", .type "bool", true, rfl, .ty _, .base (.bl b), kit_ty (by decide +kernel), q⟩
theorem c_isInt {K : PySem.W.Frag} {H : Hp} {Q : VK} {n : Int} (q : Q (.bl true) H) : rIsi K [.int n, .ty "int"] H Q := ⟨.int n, .ty "int", .type "int", .type "int", true, rfl, .ty _, .base (.int n), kit_ty (by decide +kernel), q⟩
theorem c_isBoolN {K : PySem.W.Frag} {H : Hp} {Q : VK} {n : Int} (q : Q (.bl false) H) : rIsi K [.int n, .ty "bool"] H Q := ⟨.int n, .ty "bool", .type "int", .type "bool", false, rfl, .ty _, .base (.int n), kit_ty (by decide +kernel), q⟩
theorem c_isList {K : PySem.W.Frag} {H : Hp} {Q : VK} {a : Addr} {xs : List V} (h : H a = some (.lst xs)) (q : Q (.bl true) H) : rIsi K [.ref a, .ty "list"] H Q := ⟨.ref a, .ty "list", .type "list", .type "list", true, rfl, .ty _, .base (.lst h), kit_ty (by decide +kernel), q⟩
theorem c_isTup {K : PySem.W.Frag} {H : Hp} {Q : VK} {a : Addr} {xs : List V} (h : H a = some (.tup xs)) (q : Q (.bl true) H) : rIsi K [.ref a, .ty "tuple"] H Q := ⟨.ref a, .ty "tuple", .type "tuple", .type "tuple", true, rfl, .ty _, .base (.tup h), kit_ty (by decide +kernel), q⟩
theorem c_isTupB {K : PySem.W.Frag} {H : Hp} {Q : VK} {a : Addr} {xs : List V} (h : H a = some (.tup xs)) (q : Q (.bl false) H) : rIsi K [.ref a, .ty "bool"] H Q := ⟨.ref a, .ty "bool", .type "tuple", .type "bool", false, rfl, .ty _, .base (.tup h), kit_ty (by decide +kernel), q⟩
/-- is True, is False -/
def rIsB : V → V → Hp → VK → Prop := fun x y H Q => ∃ a b, x = .bl a ∧ y = .bl b ∧ Q (.bl (decide (a = b))) H
def rNotB : V → V → Hp → VK → Prop := fun x y H Q => ∃ a b, x = .bl a ∧ y = .bl b ∧ Q (.bl (!decide (a = b))) H
theorem bo_beq (a b : Bool) : (Value.bool a == Value.bool b) = decide (a = b) := by cases a <;> cases b <;> decide +kernel
theorem op_isB {X : Cx} : OpR X (compareOp .Is) rIsB := by
  intro pins s σ H x y v u Q I rx ry h
  obtain ⟨a, b, rfl, rfl, q⟩ := h
  cases (show v = Value.bool a from rx)
  cases (show u = Value.bool b from ry)
  exact wpAny_is_plain rfl (fin_bl I q (bo_beq a b).symm)
theorem op_notB {X : Cx} : OpR X (compareOp .IsNot) rNotB := by
  intro pins s σ H x y v u Q I rx ry h
  obtain ⟨a, b, rfl, rfl, q⟩ := h
  cases (show v = Value.bool a from rx)
  cases (show u = Value.bool b from ry)
  exact wpAny_isNot_plain rfl (fin_bl I q (congrArg not (bo_beq a b).symm))
theorem o_isB {H : Hp} {Q : VK} {a b : Bool} (q : Q (.bl (decide (a = b))) H) : rIsB (.bl a) (.bl b) H Q := ⟨a, b, rfl, rfl, q⟩
theorem o_notB {H : Hp} {Q : VK} {a b : Bool} (q : Q (.bl (!decide (a = b))) H) : rNotB (.bl a) (.bl b) H Q := ⟨a, b, rfl, rfl, q⟩
theorem c_isTupI {K : PySem.W.Frag} {H : Hp} {Q : VK} {n : Int} (q : Q (.bl false) H) : rIsi K [.int n, .ty "tuple"] H Q := ⟨.int n, .ty "tuple", .type "int", .type "tuple", false, rfl, .ty _, .base (.int n), kit_ty (by decide +kernel), q⟩
theorem c_isNonB {K : PySem.W.Frag} {H : Hp} {Q : VK} (q : Q (.bl false) H) : rIsi K [.non, .ty "bool"] H Q := ⟨.non, .ty "bool", .type "NoneType", .type "bool", false, rfl, .ty _, .base .non, kit_ty (by decide +kernel), q⟩
theorem c_isNonT {K : PySem.W.Frag} {H : Hp} {Q : VK} (q : Q (.bl false) H) : rIsi K [.non, .ty "tuple"] H Q := ⟨.non, .ty "tuple", .type "NoneType", .type "tuple", false, rfl, .ty _, .base .non, kit_ty (by decide +kernel), q⟩
theorem k_bl {c : Bool} {P : Bool → Prop} (h : P c) : ∃ c', V.bl c = V.bl c' ∧ P c' := ⟨c, rfl, h⟩

section
variable {K : PySem.W.Frag} {H : Hp} {Q : VK} {σ : L2.St} {te : TE} {C D ae dd CT : Addr} {f : Str} {fs : List (Str × V)} {v : V} {cls : Value} {de : Option Addr}
def kXf (a : Addr) (cls : Value) (d : Option Addr) (C : Addr) (f : Str) (x : V) (H1 : Hp) (Q : VK) : Prop := x = .ref a ∧ cls = .ref C ∧ ∃ (dd : Addr) (fs : List (Str × V)) (v : V), d = some dd ∧ H1 dd = some (.xd fs) ∧ fs.lookup f = some v ∧ Q v H1
theorem e_xf (h : te σ H fun x H1 => kXf ae cls de C f x H1 Q) : tXf ae cls de C f te σ H Q := h
theorem k_xf (h : H dd = some (.xd fs)) (l : fs.lookup f = some v) (q : Q v H) : kXf ae (.ref C) (some dd) C f (.ref ae) H Q := ⟨rfl, rfl, dd, fs, v, rfl, h, l, q⟩
theorem c_isED (h : H dd = some (.xd fs)) (k : PySem.W.kitOne K (.ref D) (.ref CT) = some true) (q : Q (.bl true) H) : rIsED K D ae (.ref D) (some dd) [.ref ae, .ref CT] H Q :=
  ⟨.ref CT, .ref CT, true, dd, fs, rfl, rfl, rfl, h, fun u r => r, k, q⟩
theorem c_isEDty {n : String} (h : H dd = some (.xd fs)) (k : PySem.W.kitOne K (.ref D) (.type n) = some true) (q : Q (.bl true) H) : rIsED K D ae (.ref D) (some dd) [.ref ae, .ty n] H Q :=
  ⟨.ty n, .type n, true, dd, fs, rfl, rfl, rfl, h, fun u r => r, k, q⟩
theorem w_as {c : Value} {i : Nat} {ts : Addr → Value → Option Addr → TS} {Wout : WX} {D : Ends} (e : PySem.W.exmOne K cls c = some true)
    (h : ∀ a, H a = none → ts a cls de { nx := fun σ' H' => D.nx (σ'.set i none) H', rt := D.rt, bk := fun σ' H' => D.bk (σ'.set i none) H', ct := fun σ' H' => D.ct (σ'.set i none) H' } (σ.set i (some (.ref a))) H) : WE (wAs K c i ts Wout D) σ cls de H :=
  ⟨true, e, fun _ => h, fun z => Bool.noConfusion z⟩
end

theorem s_cut {D : Ends} {σ : L2.St} {H : Hp} {t u : TS} (Mid : L2.St → Hp → Prop) (h1 : t { D with nx := Mid } σ H) (h2 : ∀ σ' H', Mid σ' H' → u D σ' H') : Evl.tCut t u D σ H := ⟨Mid, h1, h2⟩

/-- a test whose outcomes are told once -/
def tUpT (t : TT) : TT := fun σ H Q => ∃ P : Bool → Hp → Prop, t σ H P ∧ ∀ b H1, P b H1 → Q b H1
theorem pt_up {X : Cx} {e : Expr} {t : TT} (h : PT X e t) : PT X e (tUpT t) := ⟨fun pins s σ H Q I ⟨P, q, m⟩ => thn (h.run pins s σ H P I q) fun _ _ ⟨H1, J, z⟩ => ⟨H1, J, m _ _ z⟩⟩
theorem t_up {t : TT} {σ : L2.St} {H : Hp} {Q : Bool → Hp → Prop} (P : Bool → Hp → Prop) (h : t σ H P) (k : ∀ b H1, P b H1 → Q b H1) : tUpT t σ H Q := ⟨P, h, k⟩
theorem cut1 {x : V} {xs : List V} : cutV (x :: xs) (some 1) none = xs := by
  unfold cutV
  simp [HT.sIx]

/-! ### dicts by texts -/
section
variable {K : PySem.W.Frag} {D : Ends} {σ : L2.St} {H : Hp} {Q : VK} {td ty tv te : TE} {a : Addr} {kvs : List (Key × V)} {s : Str} {v : V} {x y c : Int} {i : Nat}
theorem val_hit (k : Key) (v : V) (r : List (Key × V)) : valV ((k, v) :: r) k = some v := by simp [valV]
theorem val_miss {k k' : Key} (h : ¬ k = k') (v : V) (r : List (Key × V)) : valV ((k, v) :: r) k' = valV r k' := by simp [valV, h]
theorem val_nil (k : Key) : valV ([] : List (Key × V)) k = none := rfl
def kDGet (x y : V) (H : Hp) (Q : VK) : Prop := ∃ a v, x = .ref a ∧ DGet H a y (some v) ∧ Q v H
theorem e_dget (h : td σ H fun x H1 => ty σ H1 fun y H2 => kDGet x y H2 Q) : tDGet td ty σ H Q := h
theorem k_dget (h : H a = some (.dK kvs)) (l : valV kvs (Sum.inr s) = some v) (q : Q v H) : kDGet (.ref a) (.str s) H Q := ⟨a, v, rfl, .inl ⟨kvs, Sum.inr s, .inl h, rfl, l.symm⟩, q⟩
def kDPut (v x y : V) (H : Hp) (R : Hp → Prop) : Prop := ∃ a H4, x = .ref a ∧ DPut H a y v H4 ∧ R H4
theorem s_dput (h : tv σ H fun v H1 => td σ H1 fun x H2 => ty σ H2 fun y H3 => kDPut v x y H3 (D.nx σ)) : sDPut td ty tv D σ H := h
theorem k_dput {R : Hp → Prop} (h : H a = some (.dK kvs)) (hl : kvs.length < 100000) (q : R (upd H a (.dK (putK kvs (Sum.inr s) v)))) : kDPut v (.ref a) (.str s) H R := ⟨a, _, rfl, DPut.k (k := Sum.inr s) h (szl hl), q⟩
theorem c_sum {ns : List Int} (h : SqL K H a (ns.map V.int)) (q : Q (.int ns.sum) H) : rSum K [.ref a] H Q := ⟨a, ns, rfl, h, q⟩
/-! ### x ≤ y ≤ c -/
theorem o_chC (q : Q (.bl (decide (x ≤ y ∧ y ≤ c))) H) :
    rI0 (fun i j => V.bl (decide (i ≤ j))) (.int x) (.int y) H fun z H3 => kT z H3 fun k H4 => if k = true then tC (.int c) σ H4 fun w' H5 => rI0 (fun i j => V.bl (decide (i ≤ j))) (.int y) w' H5 Q else Q (.bl false) H4 := by
  refine o_I0 (k_t ?_)
  refine if_d (fun h => e_c (o_I0 ?_)) (fun h => ?_)
  · rw [show decide (y ≤ c) = decide (x ≤ y ∧ y ≤ c) from decide_eq_decide.mpr ⟨fun z => ⟨h, z⟩, fun z => z.2⟩]; exact q
  · rw [show false = decide (x ≤ y ∧ y ≤ c) from (decide_eq_false fun z => h z.1).symm]; exact q
theorem o_chV (hv : σ[i]? = some (some (.int c))) (q : Q (.bl (decide (x ≤ y ∧ y ≤ c))) H) :
    rI0 (fun i j => V.bl (decide (i ≤ j))) (.int x) (.int y) H fun z H3 => kT z H3 fun k H4 => if k = true then tVar i σ H4 fun w' H5 => rI0 (fun i j => V.bl (decide (i ≤ j))) (.int y) w' H5 Q else Q (.bl false) H4 := by
  refine o_I0 (k_t ?_)
  refine if_d (fun h => e_var hv (o_I0 ?_)) (fun h => ?_)
  · rw [show decide (y ≤ c) = decide (x ≤ y ∧ y ≤ c) from decide_eq_decide.mpr ⟨fun z => ⟨h, z⟩, fun z => z.2⟩]; exact q
  · rw [show false = decide (x ≤ y ∧ y ≤ c) from (decide_eq_false fun z => h z.1).symm]; exact q
theorem e_makeK {C : Addr} {m : Nat} {sp : Sp} {gV : List V → List V → List V} {ES : L2.St → XK} {tk : TA} (h : tk σ H fun zs H2 => zs.length = m ∧ ∀ x dx, H2 x = none → H2 dx = none → dx ≠ x →
  sp (gV [.ref x] zs) (upd (upd H2 dx (.own x)) x (.ins C dx [])) (fun v H3 => v = .non ∧ Q (.ref x) H3) (ES σ)) : tMakeKS C m sp gV ES tk σ H Q := h
def kTup (K : PySem.W.Frag) (n : Nat) (t : TGs) (v : V) (σ : L2.St) (H : Hp) (R : L2.St → Hp → Prop) : Prop := ∃ a xs, v = .ref a ∧ SqT K H a xs ∧ xs.length = n ∧ t xs σ H R
theorem g_tup {n : Nat} {t : TGs} {R : L2.St → Hp → Prop} {xs : List V} (h : SqT K H a xs) (hn : xs.length = n) (q : t xs σ H R) : gTup K n t (.ref a) σ H R := ⟨a, xs, rfl, h, hn, q⟩
theorem g_cons {t : TG} {u : TGs} {R : L2.St → Hp → Prop} {r : List V} (q : t v σ H fun σ' H' => u r σ' H' R) : gCons t u (v :: r) σ H R := ⟨v, r, rfl, q⟩
theorem g_nil {R : L2.St → Hp → Prop} (q : R σ H) : gNil [] σ H R := ⟨rfl, q⟩
end

def PL (fs : List (Str × V)) (n : Nat) : Prop := fs.length ≤ n
theorem PL.nil {n : Nat} : PL [] n := Nat.zero_le _
theorem putF_length (f : Str) (v : V) : ∀ fs : List (Str × V), (putF f v fs).length ≤ fs.length + 1
  | [] => Nat.le_refl _
  | (g, y) :: r => by
    by_cases h : g = f
    · rw [show putF f v ((g, y) :: r) = (g, v) :: r from if_pos h]
      exact Nat.le_succ _
    · rw [putF_miss h]
      exact Nat.succ_le_succ (putF_length f v r)
theorem PL.put {f : Str} {v : V} {fs : List (Str × V)} {n : Nat} (h : PL fs n) : PL (putF f v fs) (n + 1) := Nat.le_trans (putF_length f v fs) (Nat.succ_le_succ h)
theorem PL.lt {fs : List (Str × V)} {n : Nat} (h : PL fs n) (hn : n < 1000) : fs.length < 1000 := Nat.lt_of_le_of_lt h hn

/-- objects that stand -/
def Obs (H : Hp) (l : List (Addr × HO)) : Prop := ∀ p ∈ l, H p.1 = some p.2
theorem Obs.nil {H : Hp} : Obs H [] := fun p hp => by cases hp
theorem Obs.fp {H H1 : Hp} {l : List (Addr × HO)} {fp : List Addr} (u : Obs H l) (f : Fp fp H H1) (n : ∀ p ∈ l, p.1 ∉ fp) : Obs H1 l := fun p hp => f _ _ (u p hp) (n p hp)
theorem Obs.fp0 {H H1 : Hp} {l : List (Addr × HO)} (u : Obs H l) (f : Fp [] H H1) : Obs H1 l := u.fp f fun _ _ => by simp
theorem Obs.add {H : Hp} {l : List (Addr × HO)} {t : Addr} {o : HO} (u : Obs H l) (h : H t = none) : Obs (upd H t o) ((t, o) :: l) := fun p hp => by
  rcases List.mem_cons.mp hp with rfl | hp
  · exact upd_same
  · exact Fp.new (fp := []) h _ _ (u p hp) (by simp)
theorem Obs.cons {H : Hp} {l : List (Addr × HO)} {t : Addr} {o : HO} (u : Obs H l) (h : H t = some o) : Obs H ((t, o) :: l) := fun p hp => by
  rcases List.mem_cons.mp hp with rfl | hp
  · exact h
  · exact u p hp
/-- xs[i], read for an augmented assignment -/
theorem get_list {X : Cx} : PGet X (rIxL X.K) := by
  intro pins s σ H o i ov iv Q I rx ry h
  obtain ⟨p, xs, n, z, rfl, rfl, hq, he, q⟩ := h
  cases rx
  obtain ⟨t, rfl⟩ := ry
  obtain ⟨its, r, pl, hz⟩ := I.list hq
  obtain ⟨j, h1, h2, h3, h4, h5⟩ := atI_get he
  obtain ⟨w, ew, rw'⟩ := r.get h2
  have hl := r.length
  have hn := line63
  have fin : EP X pins σ Q w s := ⟨z, H, I, rw', q⟩
  by_cases h0 : 0 ≤ n
  · have hj : n.toNat = j := by
      rw [seqIndex_of h0 h5] at h1
      exact Option.some.inj h1
    refine L2.thn (wpAny_getItem_list (x := w) (Q := fun r s' => r = w ∧ EP X pins σ Q r s') pl.isList h0 (by omega) (by rw [hj]; simpa using ew) ⟨rfl, fin⟩) fun _ _ e => e.2
  · have hj : (n + (its.toArray.size : Int)).toNat = j := by
      rw [seqIndex_neg (by omega) h4] at h1
      rw [List.size_toArray, ← hl]
      exact Option.some.inj h1
    refine L2.thn (wpAny_getItem_list_neg (x := w) (Q := fun r s' => r = w ∧ EP X pins σ Q r s') pl.isList (by omega) (by rw [List.size_toArray] <;> omega) (by omega) (by rw [hj]; simpa using ew) ⟨rfl, fin⟩) fun _ _ e => e.2
theorem s_augS {D : Ends} {σ : L2.St} {H : Hp} {to ti te : TE} {tget : V → V → Hp → VK → Prop} {tip : TIp} {tset : TSet} (h : to σ H fun o H1 => ti σ H1 fun i H2 => tget o i H2 fun x H3 => te σ H3 fun y H4 => tip x y H4 fun z H5 => tset o i z H5 fun H6 => D.nx σ H6) : tAugS to ti te tget tip tset D σ H := h
theorem ip_I {f : Int → Int → Int} {m n : Int} {H : Hp} {Q : VK} (q : Q (.int (f m n)) H) : ipI f (.int m) (.int n) H Q := ⟨m, n, rfl, rfl, q⟩
def kAug (i : Nat) (te : TE) (tip : TIp) (σ : L2.St) (x : V) (H : Hp) (N : L2.St → Hp → Prop) : Prop := te σ H fun y H1 => tip x y H1 fun z H2 => N (σ.set i (some z)) H2
theorem s_augV {D : Ends} {σ : L2.St} {H : Hp} {te : TE} {tip : TIp} {i : Nat} {x : V} (hx : σ[i]? = some (some x)) (h : te σ H fun y H1 => tip x y H1 fun z H2 => D.nx (σ.set i (some z)) H2) : tAug i te tip D σ H := ⟨x, hx, h⟩

/-! ### comprehensions over enumerate(list), over a list that is made -/
section
variable {K : PySem.W.Frag} {σ : L2.St} {H : Hp} {Q : VK} {g : TG} {tt : TT} {te ta : TE} {vs : List Nat} {tl : TA} {a : Addr} {xs : List V}
def lcT (J : It) (g : TG) (tt : TT) (te : TE) (vs : List Nat) (σ : L2.St) (Q : VK) (H1 : Hp) : Prop := ∀ E, H1 E = none → ∃ W : Nat → Nat → Hp → Prop, (∃ m, W 0 m (upd H1 E (.lst []))) ∧ ∀ i m H, W i m H →
    (J.stop i H ∧ Q (.ref E) H) ∨ (J.go i H ∧ ∃ Nx : Hp → Prop, (∀ H', Nx H' → ∃ m', m' < m ∧ W (i + 1) m' H') ∧ ∀ x H', J.yld i H x H' → g x (wipe σ vs) H' fun σ2 H2 => wipe σ2 vs = wipe σ vs ∧ tt σ2 H2 fun b H3 =>
      if b = true then te σ2 H3 fun y H4 => ∃ acc, H4 E = some (.lst acc) ∧ acc.length < sizeLine ∧ Nx (upd H4 E (.lst (acc ++ [y]))) else Nx H3)
def kLcE (K : PySem.W.Frag) (g : TG) (tt : TT) (te : TE) (vs : List Nat) (σ : L2.St) (Q : VK) (ys : List V) (H1 : Hp) : Prop := ∃ a xs, ys = [.ref a] ∧ SqL K H1 a xs ∧ lcT (Ite K a) g tt te vs σ Q H1
theorem e_lcE (h : tl σ H fun ys H1 => kLcE K g tt te vs σ Q ys H1) : tLc (iEnum K tl) g tt te vs σ H Q := h
theorem k_lcE (F : Nat → Option V) (hS : SqL K H a xs) (hz : xs.length < 100000)
    (hs : ∀ (E T : Addr) (i : Nat) (x : V) (H' : Hp) (R : VK) (N : Hp → Prop), H E = none → xs[i]? = some x → H' T = some (.tup [.int (i : Nat), x]) → H' E = some (.lst ((List.range i).filterMap F)) → Fp [] H H' → (∀ y H4, F i = some y → Fp [] H' H4 → R y H4) → (F i = none → ∀ H4, Fp [] H' H4 → N H4) →
      g (.ref T) (wipe σ vs) H' fun σ2 H2 => wipe σ2 vs = wipe σ vs ∧ tt σ2 H2 fun k H3 => if k = true then te σ2 H3 R else N H3)
    (q : ∀ E H', H E = none → H' E = some (.lst ((List.range xs.length).filterMap F)) → Fp [] H H' → Q (.ref E) H') : kLcE K g tt te vs σ Q [.ref a] H := by
  refine ⟨a, xs, rfl, hS, fun E hE => ?_⟩
  refine ⟨fun i m H' => m = xs.length - i ∧ i ≤ xs.length ∧ H' E = some (.lst ((List.range i).filterMap F)) ∧ Fp [] H H', ⟨_, rfl, Nat.zero_le _, upd_same, Fp.new hE⟩, ?_⟩
  rintro i m H' ⟨rfl, hi, e1, e2⟩
  have hq : SqL K H' a xs := e2.seq (by simp) hS
  by_cases hlt : i < xs.length
  · refine .inr ⟨⟨xs, xs[i], hq, List.getElem?_eq_getElem hlt⟩, fun H4 => H4 E = some (.lst ((List.range (i + 1)).filterMap F)) ∧ Fp [] H H4, fun H4 z => ⟨_, by omega, rfl, by omega, z.1, z.2⟩, ?_⟩
    rintro v H2 ⟨T, x, rfl, hT, rfl, hx⟩
    have hx2 := hx xs hq
    have fT : Fp [] H' (upd H' T (.tup [.int (i : Nat), x])) := Fp.new hT
    have f2 := e2.trans fT
    have E2 := fT _ _ e1 (by simp)
    exact hs E T i x _ (fun y H4 => ∃ acc, H4 E = some (.lst acc) ∧ acc.length < sizeLine ∧ (upd H4 E (.lst (acc ++ [y]))) E = some (.lst ((List.range (i + 1)).filterMap F)) ∧ Fp [] H (upd H4 E (.lst (acc ++ [y])))) (fun H4 => H4 E = some (.lst ((List.range (i + 1)).filterMap F)) ∧ Fp [] H H4) hE hx2 upd_same E2 f2
      (fun y H4 ey f4 => ⟨_, f4 _ _ E2 (by simp), szl (Nat.lt_of_le_of_lt (List.length_filterMap_le _ _) (by rw [List.length_range]; omega)), by rw [upd_same, fm_range, ey]; rfl, Fp.drop (fp := [E]) (((f2.trans f4).mono (by simp)).trans (Fp.at_ (by simp))) fun z hz => by rcases List.mem_singleton.mp hz with rfl; exact .inr hE⟩)
      (fun ey H4 f4 => ⟨by rw [fm_range, ey]; simpa using f4 _ _ E2 (by simp), f2.trans f4⟩)
  · have hi2 : i = xs.length := by omega
    subst hi2
    exact .inl ⟨⟨xs, hq, Nat.le_refl _⟩, q E H' hE e1 e2⟩
def kLcL (K : PySem.W.Frag) (g : TG) (tt : TT) (te : TE) (vs : List Nat) (σ : L2.St) (Q : VK) (x : V) (H : Hp) : Prop := (iList K fun _ _ R => R x H) σ H fun J H1 => lcT J g tt te vs σ Q H1
theorem e_lcL (h : ta σ H fun x H1 => kLcL K g tt te vs σ Q x H1) : tLc (iList K ta) g tt te vs σ H Q := h
theorem k_lcL (f : V → Option V) (hS : SqL K H a xs) (hz : xs.length < 100000)
    (hs : ∀ (E : Addr) (i : Nat) (x : V) (H' : Hp) (R : VK) (N : Hp → Prop), H E = none → xs[i]? = some x → H' E = some (.lst ((xs.take i).filterMap f)) → Fp [] H H' → (∀ y H4, f x = some y → Fp [] H' H4 → R y H4) → (f x = none → ∀ H4, Fp [] H' H4 → N H4) →
      g x (wipe σ vs) H' fun σ2 H2 => wipe σ2 vs = wipe σ vs ∧ tt σ2 H2 fun k H3 => if k = true then te σ2 H3 R else N H3)
    (q : ∀ E H', H E = none → H' E = some (.lst (xs.filterMap f)) → Fp [] H H' → Q (.ref E) H') : kLcL K g tt te vs σ Q (.ref a) H := by
  refine ⟨a, rfl, ⟨_, hS⟩, fun E hE => ?_⟩
  refine lc_list (K := K) (a := a) (xs := xs) (fun i H' => H' E = some (.lst ((xs.take i).filterMap f)) ∧ Fp [] H H') ⟨by rw [List.take_zero]; exact upd_same, Fp.new hE⟩ (fun i H' hi e => ?_) (fun i x H' hx e => ?_) fun H' e => ?_
  · exact e.2.seq (by simp) hS
  · have hi : i < xs.length := (List.getElem?_eq_some_iff.mp hx).1
    exact hs E i x H' (fun y H4 => ∃ acc, H4 E = some (.lst acc) ∧ acc.length < sizeLine ∧ (upd H4 E (.lst (acc ++ [y]))) E = some (.lst ((xs.take (i + 1)).filterMap f)) ∧ Fp [] H (upd H4 E (.lst (acc ++ [y])))) (fun H4 => H4 E = some (.lst ((xs.take (i + 1)).filterMap f)) ∧ Fp [] H H4) hE hx e.1 e.2
      (fun y H4 ey f4 => ⟨_, f4 _ _ e.1 (by simp), szl (Nat.lt_of_le_of_lt (List.length_filterMap_le _ _) (by rw [List.length_take]; omega)), by rw [upd_same, fm_snoc hx, ey]; rfl, Fp.drop (fp := [E]) (((e.2.trans f4).mono (by simp)).trans (Fp.at_ (by simp))) fun z hz => by rcases List.mem_singleton.mp hz with rfl; exact .inr hE⟩)
      (fun ey H4 f4 => ⟨by rw [fm_snoc hx, ey]; simpa using f4 _ _ e.1 (by simp), e.2.trans f4⟩)
  · rw [List.take_length] at e
    exact q E H' hE e.1 e.2
end
theorem cut_take {xs : List V} {n : Nat} : cutV xs none (some (n : Int)) = xs.take n := by
  unfold cutV
  rw [HT.sIx_nat, HT.sIx_none, List.drop_zero, Nat.sub_zero, List.take_eq_take_iff]
  omega
theorem cut_drop {xs : List V} {n : Nat} : cutV xs (some (n : Int)) none = xs.drop n := by
  unfold cutV
  rw [HT.sIx_nat, HT.sIx_none]
  by_cases h : n ≤ xs.length
  · rw [Nat.min_eq_left h, List.take_of_length_le (by rw [List.length_drop]; exact Nat.le_refl _)]
  · rw [Nat.min_eq_right (by omega), List.drop_of_length_le (Nat.le_refl _), List.drop_of_length_le (by omega), List.take_nil]
theorem c_ext {l b : Addr} {xs zs : List V} {H : Hp} {Q : VK} (h : H l = some (.lst xs)) (h' : H b = some (.lst zs)) (z : xs.length + zs.length ≤ 100000) (q : Q .non (upd H l (.lst (xs ++ zs)))) : rExtend (.ref l) [.ref b] H Q := ⟨l, b, xs, zs, rfl, rfl, h, h', sz z, q⟩
/-- [e for k in range(n)], e with its own doing -/
theorem k_lcS {σ : L2.St} {H : Hp} {Q : VK} {g : TG} {te : TE} {vs : List Nat} {n : Int} (J : Addr → Nat → List V → Hp → Prop) (h1 : 0 ≤ n) (h2 : n < 100000) (h0 : ∀ E, H E = none → J E 0 [] (upd H E (.lst [])))
    (hs : ∀ (E : Addr) (i : Nat) (acc : List V) (H' : Hp) (R : VK), H E = none → (i : Int) < n → acc.length = i → H' E = some (.lst acc) → J E i acc H' → (∀ y H4, H4 E = some (.lst acc) → J E (i + 1) (acc ++ [y]) (upd H4 E (.lst (acc ++ [y]))) → R y H4) →
      g (.int (i : Nat)) (wipe σ vs) H' fun σ2 H2 => wipe σ2 vs = wipe σ vs ∧ te σ2 H2 R)
    (q : ∀ E acc H', H E = none → acc.length = n.toNat → H' E = some (.lst acc) → J E n.toNat acc H' → Q (.ref E) H') : kLcR g te vs σ Q (.int n) H := by
  refine ⟨n, rfl, by omega, by omega, fun E hE => ?_⟩
  refine lc_range (lo := 0) (n := n.toNat) (fun i H' => ∃ acc, acc.length = i ∧ H' E = some (.lst acc) ∧ J E i acc H') ⟨[], rfl, upd_same, h0 E hE⟩ (fun i H' hi ⟨acc, ha, e, j⟩ => ?_) fun H' ⟨acc, ha, e, j⟩ => q E acc H' hE ha e j
  have e0 : (0 : Int) + (i : Int) = (i : Int) := Int.zero_add _
  rw [e0]
  exact hs E i acc H' (fun y H4 => ∃ acc, H4 E = some (.lst acc) ∧ acc.length < sizeLine ∧ ∃ acc2, acc2.length = i + 1 ∧ (upd H4 E (.lst (acc ++ [y]))) E = some (.lst acc2) ∧ J E (i + 1) acc2 (upd H4 E (.lst (acc ++ [y])))) hE (by omega) ha e j
    fun y H4 e4 j4 => ⟨acc, e4, szl (by omega), _, by rw [List.length_append, ha]; rfl, upd_same, j4⟩
theorem ints_of : ∀ {acc : List V}, (∀ y ∈ acc, ∃ z, y = V.int z) → ∃ ys : List Int, acc = ys.map V.int
  | [], _ => ⟨[], rfl⟩
  | y :: r, h => by
    obtain ⟨z, rfl⟩ := h y List.mem_cons_self
    obtain ⟨ys, rfl⟩ := ints_of fun x hx => h x (List.mem_cons_of_mem _ hx)
    exact ⟨z :: ys, rfl⟩
/-! ### what stands -/
def Inn (H : Hp) (L : List Addr) : Prop := ∀ y ∈ L, ∃ o, H y = some o
theorem Inn.nil {H : Hp} : Inn H [] := fun _ h => by cases h
theorem Inn.cons {H : Hp} {L : List Addr} {x : Addr} {o : HO} (h : H x = some o) (I : Inn H L) : Inn H (x :: L) := fun y hy => by
  rcases List.mem_cons.mp hy with rfl | hy
  · exact ⟨_, h⟩
  · exact I y hy
theorem Inn.app {H : Hp} {L M : List Addr} (I : Inn H L) (J : Inn H M) : Inn H (L ++ M) := fun y hy => (List.mem_append.mp hy).elim (I y) (J y)
theorem Inn.fresh {H : Hp} {L : List Addr} {x : Addr} (I : Inn H L) (h : H x = none) : x ∉ L := fun z => by
  obtain ⟨o, e⟩ := I x z
  rw [h] at e
  cases e
theorem Inn.ne {H : Hp} {L : List Addr} {x y : Addr} (I : Inn H L) (hy : y ∈ L) (h : H x = none) : x ≠ y := fun z => I.fresh h (z ▸ hy)
theorem Inn.fp {H H1 : Hp} {L : List Addr} (I : Inn H L) (f : Fp [] H H1) : Inn H1 L := fun y hy => by
  obtain ⟨o, e⟩ := I y hy
  exact ⟨o, f _ _ e (by simp)⟩
theorem Inn.mono {H : Hp} {L M : List Addr} (I : Inn H L) (h : ∀ x ∈ M, x ∈ L) : Inn H M := fun y hy => I y (h y hy)
theorem nd_new {L : List Addr} {x : Addr} (n : L.Nodup) (h : x ∉ L) : (x :: L).Nodup := List.nodup_cons.mpr ⟨h, n⟩
theorem nin_c {L : List Addr} {x y : Addr} (n : x ≠ y) (h : x ∉ L) : x ∉ y :: L := fun z => (List.mem_cons.mp z).elim n h
def kTru (K : PySem.W.Frag) (x : V) (H : Hp) (QT : Bool → Hp → Prop) : Prop := ∃ k, TruV K x H k ∧ QT k H
def tTr (K : PySem.W.Frag) (ta : TE) : TT := fun σ H Q => ta σ H fun x H' => kTru K x H' Q
theorem pt_tr {X : Cx} {a : Expr} {ta : TE} (ha : PE X a ta) (he : ∀ whole, isTrue a X.env whole = (do let v ← whole; standAt a.pos; holding [v] (truthy v))) : PT X a (tTr X.K ta) := pt_truth ha he
theorem t_tru {K : PySem.W.Frag} {σ : L2.St} {te : TE} {H : Hp} {QT : Bool → Hp → Prop} (h : te σ H fun x H1 => kTru K x H1 QT) : tTr K te σ H QT := h
theorem k_truL {K : PySem.W.Frag} {H : Hp} {QT : Bool → Hp → Prop} {p : Addr} {xs : List V} (h : SqL K H p xs) (q : QT (!xs.isEmpty) H) : kTru K (.ref p) H QT := ⟨_, Or.inl ⟨xs, h, rfl⟩, q⟩
/-- [e for k in range(n) if t], t and e with their own doing -/
theorem k_lcSF {σ : L2.St} {H : Hp} {Q : VK} {g : TG} {tt : TT} {te : TE} {vs : List Nat} {n : Int} (J : Addr → Nat → List V → Hp → Prop) (h1 : 0 ≤ n) (h2 : n < 100000) (h0 : ∀ E, H E = none → J E 0 [] (upd H E (.lst [])))
    (hs : ∀ (E : Addr) (i : Nat) (acc : List V) (H' : Hp) (R : VK) (N : Hp → Prop), H E = none → (i : Int) < n → acc.length ≤ i → H' E = some (.lst acc) → J E i acc H' → (∀ y H4, H4 E = some (.lst acc) → J E (i + 1) (acc ++ [y]) (upd H4 E (.lst (acc ++ [y]))) → R y H4) → (∀ H4, H4 E = some (.lst acc) → J E (i + 1) acc H4 → N H4) →
      g (.int (i : Nat)) (wipe σ vs) H' fun σ2 H2 => wipe σ2 vs = wipe σ vs ∧ tt σ2 H2 fun k H3 => if k = true then te σ2 H3 R else N H3)
    (q : ∀ E acc H', H E = none → acc.length ≤ n.toNat → H' E = some (.lst acc) → J E n.toNat acc H' → Q (.ref E) H') : kLcF g tt te vs σ Q (.int n) H := by
  refine ⟨n, rfl, by omega, by omega, fun E hE => ?_⟩
  refine lc_range (lo := 0) (n := n.toNat) (fun i H' => ∃ acc, acc.length ≤ i ∧ H' E = some (.lst acc) ∧ J E i acc H') ⟨[], Nat.le_refl _, upd_same, h0 E hE⟩ (fun i H' hi ⟨acc, ha, e, j⟩ => ?_) fun H' ⟨acc, ha, e, j⟩ => q E acc H' hE ha e j
  have e0 : (0 : Int) + (i : Int) = (i : Int) := Int.zero_add _
  rw [e0]
  exact hs E i acc H' (fun y H4 => ∃ acc, H4 E = some (.lst acc) ∧ acc.length < sizeLine ∧ ∃ acc2, acc2.length ≤ i + 1 ∧ (upd H4 E (.lst (acc ++ [y]))) E = some (.lst acc2) ∧ J E (i + 1) acc2 (upd H4 E (.lst (acc ++ [y])))) (fun H4 => ∃ acc2, acc2.length ≤ i + 1 ∧ H4 E = some (.lst acc2) ∧ J E (i + 1) acc2 H4) hE (by omega) ha e j
    (fun y H4 e4 j4 => ⟨acc, e4, szl (by omega), _, by rw [List.length_append]; simp; omega, upd_same, j4⟩) fun H4 e4 j4 => ⟨acc, by omega, e4, j4⟩
/-- for x in a list that an expression hands back -/
def kForL (K : PySem.W.Frag) (g : TG) (tb : TS) (D : Ends) (σ : L2.St) (x : V) (H1 : Hp) : Prop := (iList K fun _ _ R => R x H1) σ H1 fun J H1 => ∃ W : Nat → Nat → L2.St → Hp → Prop, (∃ m, W 0 m σ H1) ∧ ∀ i m σ H, W i m σ H →
  (J.stop i H ∧ D.nx σ H) ∨ (J.go i H ∧ ∃ N : L2.St → Hp → Prop, (∀ σ' H', N σ' H' → ∃ m', m' < m ∧ W (i + 1) m' σ' H') ∧ ∀ x H', J.yld i H x H' → g x σ H' fun σ2 H2 => tb { D with nx := N, ct := N, bk := D.nx } σ2 H2)
theorem f_lst {K : PySem.W.Frag} {g : TG} {tb : TS} {D : Ends} {σ : L2.St} {H : Hp} {te : TE} (h : te σ H fun x H1 => kForL K g tb D σ x H1) : tFor (iList K te) g tb D σ H := h
theorem k_forL {K : PySem.W.Frag} {g : TG} {tb : TS} {D : Ends} {σ : L2.St} {H : Hp} {p : Addr} {xs : List V} (Pv : Nat → L2.St → Hp → Prop) (hS : SqL K H p xs) (h0 : Pv 0 σ H) (hl : ∀ i σ' H', i ≤ xs.length → Pv i σ' H' → SqL K H' p xs)
    (hs : ∀ i x σ' H', xs[i]? = some x → Pv i σ' H' → g x σ' H' fun σ2 H2 => tb { D with nx := Pv (i + 1), ct := Pv (i + 1), bk := D.nx } σ2 H2) (hd : ∀ σ' H', Pv xs.length σ' H' → D.nx σ' H') : kForL K g tb D σ (.ref p) H :=
  ⟨p, rfl, ⟨xs, hS⟩, for_list Pv h0 hl hs hd⟩
theorem t_yes {σ : L2.St} {H : Hp} {QT : Bool → Hp → Prop} (h : QT true H) : tYes σ H QT := h
theorem ixN_last {n : Nat} (h : 0 < n) : ixN n (-1) = some (n - 1) := by
  unfold ixN
  rw [if_neg (by decide), if_pos (by omega)]
  congr 1
  omega
/-- xs[-1] = v -/
theorem c_setE {p : Addr} {xs : List V} {x v : V} {H : Hp} {R : Hp → Prop} (h : H p = some (.lst (xs ++ [x]))) (q : R (upd H p (.lst (xs ++ [v])))) : rSetL (.ref p) (.int (-1)) v H R := by
  refine ⟨p, xs ++ [x], -1, xs.length, rfl, rfl, h, by rw [ixN_last (by simp)]; simp, ?_⟩
  rw [List.set_append_right _ _ (Nat.le_refl _), Nat.sub_self]
  exact q
/-- [e for x in xs if t] by places, xs in a name -/
theorem lc_filtN {K : PySem.W.Frag} {σ : L2.St} {H : Hp} {Q : VK} {g : TG} {tt : TT} {te : TE} {vs : List Nat} {j : Nat} {b : Addr} {xs : List V} (F : Nat → Option V) (hv : σ[j]? = some (some (.ref b))) (hS : SqL K H b xs) (hz : xs.length < 100000)
    (hs : ∀ (E : Addr) (i : Nat) (x : V) (H' : Hp) (R : VK) (N : Hp → Prop), H E = none → xs[i]? = some x → H' E = some (.lst ((List.range i).filterMap F)) → Fp [] H H' → (∀ y H4, F i = some y → Fp [] H' H4 → R y H4) → (F i = none → ∀ H4, Fp [] H' H4 → N H4) →
      g x (wipe σ vs) H' fun σ2 H2 => wipe σ2 vs = wipe σ vs ∧ tt σ2 H2 fun k H3 => if k = true then te σ2 H3 R else N H3)
    (q : ∀ E H', H E = none → H' E = some (.lst ((List.range xs.length).filterMap F)) → Fp [] H H' → Q (.ref E) H') : tLc (iList K (tVar j)) g tt te vs σ H Q := by
  refine ⟨_, hv, b, rfl, ⟨_, hS⟩, fun E hE => ?_⟩
  refine lc_list (K := K) (a := b) (xs := xs) (fun i H' => H' E = some (.lst ((List.range i).filterMap F)) ∧ Fp [] H H') ⟨upd_same, Fp.new hE⟩ (fun i H' hi e => ?_) (fun i x H' hx e => ?_) fun H' e => q E H' hE e.1 e.2
  · exact e.2.seq (by simp) hS
  · have hi : i < xs.length := (List.getElem?_eq_some_iff.mp hx).1
    exact hs E i x H' (fun y H4 => ∃ acc, H4 E = some (.lst acc) ∧ acc.length < sizeLine ∧ (upd H4 E (.lst (acc ++ [y]))) E = some (.lst ((List.range (i + 1)).filterMap F)) ∧ Fp [] H (upd H4 E (.lst (acc ++ [y])))) (fun H4 => H4 E = some (.lst ((List.range (i + 1)).filterMap F)) ∧ Fp [] H H4) hE hx e.1 e.2
      (fun y H4 ey f4 => ⟨_, f4 _ _ e.1 (by simp), szl (Nat.lt_of_le_of_lt (List.length_filterMap_le _ _) (by rw [List.length_range]; omega)), by rw [upd_same, fm_range, ey]; rfl, Fp.drop (fp := [E]) (((e.2.trans f4).mono (by simp)).trans (Fp.at_ (by simp))) fun z hz => by rcases List.mem_singleton.mp hz with rfl; exact .inr hE⟩)
      (fun ey H4 f4 => ⟨by rw [fm_range, ey]; simpa using f4 _ _ e.1 (by simp), e.2.trans f4⟩)
theorem fm_len {F : Nat → Option V} {p : Nat → Bool} : ∀ {l : List Nat}, (∀ i ∈ l, (F i).isSome = p i) → (l.filterMap F).length = (l.filter p).length
  | [], _ => rfl
  | i :: r, h => by
    have h1 := h i List.mem_cons_self
    have ih := fm_len (F := F) (p := p) (l := r) fun x hx => h x (List.mem_cons_of_mem _ hx)
    cases e : F i with
    | none =>
      rw [e] at h1
      rw [List.filterMap_cons_none e, List.filter_cons_of_neg (by rw [← h1]; exact Bool.false_ne_true), ih]
    | some y =>
      rw [e] at h1
      rw [List.filterMap_cons_some e, List.filter_cons_of_pos h1.symm, List.length_cons, List.length_cons, ih]
/-! ### data in data -/
def LD (k : Nat) (d : PyData) : Prop := d.canLay0 = true ∧ d.depth ≤ k
theorem LD.int {k : Nat} (z : Int) : LD (k + 1) (.int z) := ⟨rfl, by simp [PyData.depth]⟩
theorem LD.bl {k : Nat} (b : Bool) : LD (k + 1) (.bool b) := ⟨rfl, by simp [PyData.depth]⟩
theorem LD.non {k : Nat} : LD (k + 1) .none := ⟨rfl, by simp [PyData.depth]⟩
theorem LD.str {k : Nat} {x : Str} (h : PyData.strOk x = true) : LD (k + 1) (.str x) := ⟨h, by simp [PyData.depth]⟩
theorem LD.all {k : Nat} : ∀ {ds : List PyData}, (∀ d ∈ ds, LD k d) → PyData.canLayAll0 ds = true ∧ PyData.depthAll ds ≤ k
  | [], _ => ⟨rfl, by simp [PyData.depthAll]⟩
  | d :: r, h => by
    obtain ⟨h1, h2⟩ := h d List.mem_cons_self
    obtain ⟨i1, i2⟩ := LD.all (ds := r) fun x hx => h x (List.mem_cons_of_mem _ hx)
    refine ⟨?_, ?_⟩
    · show (d.canLay0 && PyData.canLayAll0 r) = true
      rw [h1, i1]; rfl
    · simp only [PyData.depthAll]; omega
theorem LD.list {k : Nat} {ds : List PyData} (h : ∀ d ∈ ds, LD k d) : LD (k + 1) (.list ds) := by
  obtain ⟨h1, h2⟩ := LD.all h
  exact ⟨by simp only [PyData.canLay0]; exact h1, by simp only [PyData.depth]; omega⟩
theorem LD.tup {k : Nat} {ds : List PyData} (h : ∀ d ∈ ds, LD k d) : LD (k + 1) (.tuple ds) := by
  obtain ⟨h1, h2⟩ := LD.all h
  exact ⟨by simp only [PyData.canLay0]; exact h1, by simp only [PyData.depth]; omega⟩
theorem LD.sh {k : Nat} {d : PyData} (h : LD k d) (hk : k ≤ 64 := by decide) : SeqAt.shaped d = true := by
  show (d.canLay0 && decide (d.depth ≤ 64)) = true
  rw [h.1, decide_eq_true (Nat.le_trans h.2 hk)]; rfl
def dInts (ns : List Int) : PyData := .list (ns.map PyData.int)
theorem dp_ints {K : PySem.W.Frag} {H : Hp} : ∀ ns : List Int, DpAll K H (ns.map V.int) (ns.map PyData.int)
  | [] => .nil
  | n :: r => .cons (.int n) (dp_ints r)
theorem LD.ints {k : Nat} (ns : List Int) : LD (k + 2) (dInts ns) := LD.list fun d hd => by
  obtain ⟨n, _, rfl⟩ := List.mem_map.mp hd
  exact LD.int n
theorem g_unl {K : PySem.W.Frag} {H : Hp} {σ : L2.St} {n : Nat} {t : TGs} {R : L2.St → Hp → Prop} {a : Addr} {xs : List V} (h : SqL K H a xs) (hn : xs.length = n) (q : t xs σ H R) : gUnl K n t (.ref a) σ H R := ⟨a, xs, rfl, h, hn, q⟩
theorem c_clr {l : Addr} {xs : List V} {H : Hp} {Q : VK} (h : H l = some (.lst xs)) (q : Q .non (upd H l (.lst []))) : rClear (.ref l) [] H Q := ⟨l, xs, rfl, rfl, h, q⟩
/-- [e for x in xs], e with its own doing -/
theorem k_lcLS {K : PySem.W.Frag} {σ : L2.St} {H : Hp} {Q : VK} {g : TG} {te : TE} {vs : List Nat} {a : Addr} {xs : List V} (J : Addr → Nat → List V → Hp → Prop) (hS : SqL K H a xs) (hz : xs.length < 100000) (h0 : ∀ E, H E = none → J E 0 [] (upd H E (.lst [])))
    (hl : ∀ E i acc H', J E i acc H' → SqL K H' a xs)
    (hs : ∀ (E : Addr) (i : Nat) (x : V) (acc : List V) (H' : Hp) (R : VK), H E = none → xs[i]? = some x → acc.length = i → H' E = some (.lst acc) → J E i acc H' → (∀ y H4, H4 E = some (.lst acc) → J E (i + 1) (acc ++ [y]) (upd H4 E (.lst (acc ++ [y]))) → R y H4) →
      g x (wipe σ vs) H' fun σ2 H2 => wipe σ2 vs = wipe σ vs ∧ te σ2 H2 R)
    (q : ∀ E acc H', H E = none → acc.length = xs.length → H' E = some (.lst acc) → J E xs.length acc H' → Q (.ref E) H') : kLcL K g tYes te vs σ Q (.ref a) H := by
  refine ⟨a, rfl, ⟨_, hS⟩, fun E hE => ?_⟩
  refine lc_list (K := K) (a := a) (xs := xs) (fun i H' => ∃ acc, acc.length = i ∧ H' E = some (.lst acc) ∧ J E i acc H') ⟨[], rfl, upd_same, h0 E hE⟩ (fun i H' hi ⟨acc, _, _, j⟩ => hl E i acc H' j) (fun i x H' hx ⟨acc, ha, e, j⟩ => ?_) fun H' ⟨acc, ha, e, j⟩ => q E acc H' hE ha e j
  have hi : i < xs.length := (List.getElem?_eq_some_iff.mp hx).1
  exact hs E i x acc H' (fun y H4 => ∃ acc, H4 E = some (.lst acc) ∧ acc.length < sizeLine ∧ ∃ acc2, acc2.length = i + 1 ∧ (upd H4 E (.lst (acc ++ [y]))) E = some (.lst acc2) ∧ J E (i + 1) acc2 (upd H4 E (.lst (acc ++ [y])))) hE hx ha e j
    fun y H4 e4 j4 => ⟨acc, e4, szl (by omega), _, by rw [List.length_append, ha]; rfl, upd_same, j4⟩
end Rd
set_option Elab.async false
set_option maxRecDepth 100000
set_option maxHeartbeats 4000000
set_option linter.all false
set_option autoImplicit false
/-! A small separation logic over the heap of the hand layer. -/
namespace Sl
open PySem PySem.Spec PyProof.Rows L2 Sx Rd
/-- what never changes -/
def Imm : HO → Prop
  | .tup _ => True | .frz _ _ => True | .rng _ _ => True | .xd _ => True | .met _ _ => True
  | _ => False
def Agree (S : Addr → Prop) (H H' : Hp) : Prop := (∀ a, S a → H' a = H a) ∧ ∀ a o, H a = some o → Imm o → H' a = some o
structure As where
  at_ : Hp → (Addr → Prop) → Prop
  loc : ∀ {H H' : Hp} {S : Addr → Prop}, at_ H S → Agree S H H' → at_ H' S
  dom : ∀ {H : Hp} {S : Addr → Prop}, at_ H S → ∀ a, S a → H a ≠ none
def emp : As := ⟨fun _ S => ∀ a, ¬ S a, fun h _ => h, fun h a s => absurd s (h a)⟩
def cell (a : Addr) (o : HO) : As := ⟨fun H S => (∀ b, S b ↔ b = a) ∧ H a = some o, fun h g => ⟨h.1, by rw [g.1 a ((h.1 a).mpr rfl)]; exact h.2⟩, fun h b s => by
  rw [(h.1 b).mp s, h.2]; simp⟩
def icell (a : Addr) (o : HO) : As := ⟨fun H S => (∀ b, ¬ S b) ∧ H a = some o ∧ Imm o, fun h g => ⟨h.1, g.2 _ _ h.2.1 h.2.2, h.2.2⟩, fun h b s => absurd s (h.1 b)⟩
abbrev tcell (a : Addr) (xs : List V) : As := icell a (.tup xs)
def pur (φ : Prop) : As := ⟨fun _ S => (∀ a, ¬ S a) ∧ φ, fun h _ => h, fun h a s => absurd s (h.1 a)⟩
def ex {α : Type} (P : α → As) : As := ⟨fun H S => ∃ x, (P x).at_ H S, fun ⟨x, h⟩ g => ⟨x, (P x).loc h g⟩, fun ⟨x, h⟩ => (P x).dom h⟩
def star (P Q : As) : As := ⟨fun H S => ∃ S1 S2 : Addr → Prop, (∀ a, S a ↔ S1 a ∨ S2 a) ∧ (∀ a, S1 a → ¬ S2 a) ∧ P.at_ H S1 ∧ Q.at_ H S2,
  fun ⟨S1, S2, e, d, h1, h2⟩ g => ⟨S1, S2, e, d, P.loc h1 ⟨fun a s => g.1 a ((e a).mpr (.inl s)), g.2⟩, Q.loc h2 ⟨fun a s => g.1 a ((e a).mpr (.inr s)), g.2⟩⟩,
  fun ⟨S1, S2, e, d, h1, h2⟩ a s => by
    rcases (e a).mp s with s | s
    · exact P.dom h1 a s
    · exact Q.dom h2 a s⟩
/-- many, apart from each other -/
def all : List As → As
  | [] => emp
  | P :: L => star P (all L)
def St (L : List As) (H : Hp) : Prop := ∃ S, (all L).at_ H S
/-- what entails what, for the same cells or fewer -/
def Ent (L M : List As) : Prop := ∀ H S, (all L).at_ H S → ∃ S', (∀ a, S' a → S a) ∧ (all M).at_ H S'
theorem Ent.refl (L : List As) : Ent L L := fun _ S h => ⟨S, fun _ s => s, h⟩
theorem Ent.trans {L M N : List As} (a : Ent L M) (b : Ent M N) : Ent L N := fun H S h => by
  obtain ⟨S1, i1, h1⟩ := a H S h
  obtain ⟨S2, i2, h2⟩ := b H S1 h1
  exact ⟨S2, fun x s => i1 x (i2 x s), h2⟩
theorem Ent.cons {P : As} {L M : List As} (a : Ent L M) : Ent (P :: L) (P :: M) := fun H S ⟨S1, S2, e, d, h1, h2⟩ => by
  obtain ⟨S3, i3, h3⟩ := a H S2 h2
  exact ⟨fun x => S1 x ∨ S3 x, fun x s => (e x).mpr (s.imp id (i3 x)), S1, S3, fun _ => Iff.rfl, fun x s t => d x s (i3 x t), h1, h3⟩
theorem Ent.swap {P Q : As} {L : List As} : Ent (P :: Q :: L) (Q :: P :: L) := fun H S ⟨S1, S2, e, d, h1, S3, S4, e2, d2, h3, h4⟩ =>
  ⟨S, fun _ s => s, S3, fun x => S1 x ∨ S4 x, fun x => by rw [e x, e2 x]; exact ⟨fun h => by rcases h with h | h | h <;> simp [h], fun h => by rcases h with h | h | h <;> simp [h]⟩,
    fun x s t => by
      rcases t with t | t
      · exact d x t ((e2 x).mpr (.inl s))
      · exact d2 x s t, h3, S1, S4, fun _ => Iff.rfl, fun x s t => d x s ((e2 x).mpr (.inr t)), h1, h4⟩
theorem Ent.drop {P : As} {L : List As} : Ent (P :: L) L := fun H S ⟨S1, S2, e, d, h1, h2⟩ => ⟨S2, fun x s => (e x).mpr (.inr s), h2⟩
theorem Ent.st {L M : List As} {H : Hp} (a : Ent L M) (h : St L H) : St M H := let ⟨S, h⟩ := h; let ⟨S', _, h'⟩ := a H S h; ⟨S', h'⟩
theorem Ent.app {L M : List As} (a : Ent L M) : ∀ R : List As, Ent (R ++ L) (R ++ M)
  | [] => a
  | _ :: R => (a.app R).cons
/-- P stands in L, R is the rest -/
inductive Sel (P : As) : List As → List As → Prop
  | here {R : List As} : Sel P (P :: R) R
  | there {Q : As} {L R : List As} : Sel P L R → Sel P (Q :: L) (Q :: R)
theorem Sel.ent {P : As} {L R : List As} (s : Sel P L R) : Ent L (P :: R) := by
  induction s with
  | here => exact Ent.refl _
  | there s ih => exact (Ent.cons ih).trans Ent.swap
theorem Sel.ent' {P : As} {L R : List As} (s : Sel P L R) : Ent (P :: R) L := by
  induction s with
  | here => exact Ent.refl _
  | there s ih => exact Ent.swap.trans (Ent.cons ih)
inductive Sels : List As → List As → List As → Prop
  | nil {L : List As} : Sels [] L L
  | cons {P : As} {Ps L M R : List As} : Sel P L M → Sels Ps M R → Sels (P :: Ps) L R
theorem Sels.all : ∀ L : List As, Sels L L []
  | [] => .nil
  | _ :: L => .cons .here (Sels.all L)
theorem Sels.skip {Q : As} {Ps L R : List As} (s : Sels Ps L R) : Sels Ps (Q :: L) (Q :: R) := by
  induction s with
  | nil => exact .nil
  | cons a _ ih => exact .cons (.there a) ih
theorem Sels.ent {Ps L R : List As} (s : Sels Ps L R) : Ent L (Ps ++ R) := by
  induction s with
  | nil => exact Ent.refl _
  | cons a _ ih => exact a.ent.trans ih.cons
theorem Sels.ent' {Ps L R : List As} (s : Sels Ps L R) : Ent (Ps ++ R) L := by
  induction s with
  | nil => exact Ent.refl _
  | cons a _ ih => exact ih.cons.trans a.ent'
section
variable {L M R : List As} {H : Hp} {a p : Addr} {o o' : HO} {P Q : As} {φ : Prop} {xs : List V}
theorem St.sel (h : St L H) (s : Sel P L R) : St (P :: R) H := s.ent.st h
theorem St.sels {Ps : List As} (h : St L H) (s : Sels Ps L R) : St (Ps ++ R) H := s.ent.st h
theorem St.get0 (h : St (cell a o :: R) H) : H a = some o := by
  obtain ⟨S, S1, S2, e, d, h1, h2⟩ := h
  exact h1.2
theorem St.get (h : St L H) (s : Sel (cell a o) L R) : H a = some o := (h.sel s).get0
theorem St.geti (h : St L H) (s : Sel (icell a o) L R) : H a = some o := by
  obtain ⟨S, S1, S2, e, d, h1, h2⟩ := h.sel s
  exact h1.2.1
theorem St.upd0 (h : St (cell a o :: R) H) (i : ¬ Imm o) : St (cell a o' :: R) (upd H a o') := by
  obtain ⟨S, S1, S2, e, d, ⟨h0, h1⟩, h2⟩ := h
  refine ⟨S, S1, S2, e, d, ⟨h0, upd_same⟩, (all R).loc h2 ⟨fun b s => upd_ne fun z => ?_, fun b u g j => ?_⟩⟩
  · exact d a ((h0 a).mpr rfl) (z ▸ s)
  · rw [upd_ne fun z => ?_, g]
    subst z
    rw [h1] at g
    cases g
    exact i j
theorem St.upd (h : St L H) (s : Sel (cell a o) L R) (i : ¬ Imm o) : St (cell a o' :: R) (upd H a o') := (h.sel s).upd0 i
theorem St.agree_new (n : H p = none) {S : Addr → Prop} (dm : ∀ b, S b → H b ≠ none) : Agree S H (L2.upd H p o) := ⟨fun b s => upd_ne fun z => dm b s (z ▸ n), fun b u g _ => by rw [upd_ne fun z => ?_, g]; subst z; rw [n] at g; cases g⟩
theorem St.new (h : St L H) (n : H p = none) : St (cell p o :: L) (L2.upd H p o) := by
  obtain ⟨S, h⟩ := h
  have dm := (all L).dom h
  refine ⟨fun b => b = p ∨ S b, fun b => b = p, S, fun _ => Iff.rfl, fun b z s => dm b s (z ▸ n), ⟨fun _ => Iff.rfl, upd_same⟩, (all L).loc h (St.agree_new n dm)⟩
theorem St.newi (h : St L H) (n : H p = none) (i : Imm o) : St (icell p o :: L) (L2.upd H p o) := by
  obtain ⟨S, h⟩ := h
  have dm := (all L).dom h
  exact ⟨S, fun _ => False, S, fun _ => ⟨.inr, fun z => z.elim (fun f => f.elim) id⟩, fun _ f => f.elim, ⟨fun _ f => f, upd_same, i⟩, (all L).loc h (St.agree_new n dm)⟩
theorem St.keep (h : St L H) (n : H p = none) : St L (L2.upd H p o) := by
  obtain ⟨S, h⟩ := h
  exact ⟨S, (all L).loc h (St.agree_new n ((all L).dom h))⟩
theorem St.cons0 {L : List As} (h : St (P :: L) H) : St L H := Ent.drop.st h
theorem St.drop (h : St L H) (s : Sel P L R) : St R H := (h.sel s).cons0
theorem St.dup (h : St L H) (s : Sel (icell a o) L R) : St (icell a o :: L) H := by
  obtain ⟨S, S1, S2, e, d, h1, h2⟩ := h.sel s
  obtain ⟨S0, h0⟩ := h
  exact ⟨S0, S1, S0, fun b => ⟨.inr, fun z => z.elim (fun f => absurd f (h1.1 b)) id⟩, fun b f => absurd f (h1.1 b), h1, h0⟩
theorem ent_ex {α : Type} {P : α → As} (x : α) : Ent (P x :: R) (ex P :: R) := fun H S ⟨S1, S2, e, d, h1, h2⟩ => ⟨S, fun _ s => s, S1, S2, e, d, ⟨x, h1⟩, h2⟩
theorem St.exU {α : Type} {P : α → As} (h : St (ex P :: R) H) : ∃ x, St (P x :: R) H := by
  obtain ⟨S, S1, S2, e, d, ⟨x, h1⟩, h2⟩ := h
  exact ⟨x, S, S1, S2, e, d, h1, h2⟩
theorem St.exI {α : Type} {P : α → As} (x : α) (h : St (P x :: R) H) : St (ex P :: R) H := (ent_ex x).st h
theorem St.purU (h : St (pur φ :: R) H) : φ ∧ St R H := by
  refine ⟨?_, h.cons0⟩
  obtain ⟨S, S1, S2, e, d, ⟨_, f⟩, h2⟩ := h
  exact f
theorem St.purI (f : φ) (h : St R H) : St (pur φ :: R) H := by
  obtain ⟨S, h⟩ := h
  exact ⟨S, fun _ => False, S, fun _ => ⟨.inr, fun z => z.elim (fun f => f.elim) id⟩, fun _ f => f.elim, ⟨fun _ f => f, f⟩, h⟩
theorem star_assoc1 {P Q T : As} {H : Hp} {S : Addr → Prop} (h : (star (star P Q) T).at_ H S) : (star P (star Q T)).at_ H S := by
  obtain ⟨S1, S2, e, d, ⟨S3, S4, e2, d2, h3, h4⟩, h2⟩ := h
  refine ⟨S3, fun x => S4 x ∨ S2 x, fun x => by rw [e x, e2 x]; exact or_assoc, fun x s t => ?_, h3, S4, S2, fun _ => Iff.rfl, fun x s t => d x ((e2 x).mpr (.inr s)) t, h4, h2⟩
  rcases t with t | t
  · exact d2 x s t
  · exact d x ((e2 x).mpr (.inl s)) t
theorem star_assoc2 {P Q T : As} {H : Hp} {S : Addr → Prop} (h : (star P (star Q T)).at_ H S) : (star (star P Q) T).at_ H S := by
  obtain ⟨S1, S2, e, d, h1, S3, S4, e2, d2, h3, h4⟩ := h
  refine ⟨fun x => S1 x ∨ S3 x, S4, fun x => by rw [e x, e2 x]; exact or_assoc.symm, fun x s t => ?_, ⟨S1, S3, fun _ => Iff.rfl, fun x s t => d x s ((e2 x).mpr (.inl t)), h1, h3⟩, h4⟩
  rcases s with s | s
  · exact d x s ((e2 x).mpr (.inr t))
  · exact d2 x s t
theorem ent_allU : ∀ (L R : List As), Ent (all L :: R) (L ++ R)
  | [], R => Ent.drop
  | P :: L, R => fun H S h => by
    have h' := star_assoc1 h
    exact (Ent.cons (ent_allU L R)) H S h'
theorem ent_allI : ∀ (L R : List As), Ent (L ++ R) (all L :: R)
  | [], R => fun H S h => ⟨S, fun _ s => s, fun _ => False, S, fun _ => ⟨.inr, fun z => z.elim (fun f => f.elim) id⟩, fun _ f => f.elim, fun _ f => f, h⟩
  | P :: L, R => fun H S h => by
    obtain ⟨S', i, h'⟩ := (Ent.cons (ent_allI L R)) H S h
    exact ⟨S', i, star_assoc2 h'⟩
theorem St.allU (h : St (all L :: R) H) : St (L ++ R) H := (ent_allU L R).st h
theorem St.allI (h : St (L ++ R) H) : St (all L :: R) H := (ent_allI L R).st h
/-- a new thing in a question -/
theorem nw {Rk : V → Hp → Prop} (h : St L H) (q : ∀ p H', St (cell p o :: L) H' → Rk (.ref p) H') : ∀ p, H p = none → Rk (.ref p) (L2.upd H p o) := fun p n => q p _ (h.new n)
theorem nwT {Rk : V → Hp → Prop} (h : St L H) (q : ∀ p H', St (tcell p xs :: L) H' → Rk (.ref p) H') : ∀ p, H p = none → Rk (.ref p) (L2.upd H p (.tup xs)) := fun p n => q p _ (h.newi n trivial)
theorem wr {Rk : Hp → Prop} (h : St L H) (s : Sel (cell a o) L R) (i : ¬ Imm o) (q : ∀ H', St (cell a o' :: R) H' → Rk H') : Rk (L2.upd H a o') := q _ (h.upd s i)
end
/-! ### promises over footprints, framed -/
/-- an assertion from a predicate with a list of cells -/
def fpa (P : Hp → List Addr → Prop) (l : ∀ (H H' : Hp) (A : List Addr), P H A → Agree (fun a => a ∈ A) H H' → P H' A) (d : ∀ (H : Hp) (A : List Addr), P H A → ∀ a, a ∈ A → H a ≠ none) : As :=
  ⟨fun H S => ∃ A : List Addr, (∀ a, S a ↔ a ∈ A) ∧ P H A, fun ⟨A, e, h⟩ g => ⟨A, e, l _ _ _ h ⟨fun a s => g.1 a ((e a).mpr s), g.2⟩⟩, fun ⟨A, e, h⟩ a s => d _ _ h a ((e a).mp s)⟩
theorem Agree.of_fp {A : List Addr} {S : Addr → Prop} {H H' : Hp} (f : Fp A H H') (im : ∀ a ∈ A, ∀ o, H a = some o → ¬ Imm o) (dm : ∀ b, S b → H b ≠ none) (dj : ∀ b, S b → b ∉ A) : Agree S H H' :=
  ⟨fun b s => by
    cases e : H b with
    | none => exact absurd e (dm b s)
    | some o => exact f b o e (dj b s), fun b o e i => f b o e fun m => im b m o e i⟩
end Sl
namespace Sl
open PySem PySem.Spec PyProof.Rows L2 Sx Rd
/-! ### steps -/
section
variable {K : PySem.W.Frag} {D : Ends} {σ : L2.St} {L R : List As} {H : Hp} {Q : VK} {Rk : Hp → Prop} {a b l p C dx : Addr} {f : Str} {fs fs' : List (Str × V)} {v x y : V} {xs ys : List V} {tl : TA} {te ta tb tv td ty : TE} {i j : Nat} {n : Int}
theorem k_setS (hs : St L H) (s : Sel (cell a (.ins C dx fs)) L R) (c : Cls K C) (n : NoAttr K C f) (hp : putF f y fs = fs') (l : fs.length < 1000) (q : ∀ H', St (cell a (.ins C dx fs') :: R) H' → Rk H') : kSet K f y (.ref a) H Rk :=
  k_set (hs.get s) c n hp l (q _ (hs.upd s id))
def kAug (K : PySem.W.Frag) (tv : TE) (rd : V → V → Hp → VK → Prop) (f : Str) (σ : L2.St) (x : V) (H1 : Hp) (R : Hp → Prop) : Prop := ∃ a C dx fs v, x = .ref a ∧ H1 a = some (.ins C dx fs) ∧ Cls K C ∧ NoAttr K C f ∧ fs.lookup f = some v ∧
  tv σ H1 fun y H2 => rd v y H2 fun z H3 => ∃ dx' fs', H3 a = some (.ins C dx' fs') ∧ fs'.length < 1000 ∧ R (upd H3 a (.ins C dx' (putF f z fs')))
theorem s_aug {rd : V → V → Hp → VK → Prop} (h : ta σ H fun x H1 => kAug K tv rd f σ x H1 (D.nx σ)) : sFldAug K ta tv rd f D σ H := h
/-- self.f += e, e an int that touches nothing -/
theorem k_augA {m : Int} (hs : St L H) (s : Sel (cell a (.ins C dx fs)) L R) (c : Cls K C) (na : NoAttr K C f) (lk : fs.lookup f = some (.int m)) (hp : putF f (.int (m + n)) fs = fs') (l : fs.length < 1000)
    (ht : ∀ Q' : VK, Q' (.int n) H → tv σ H Q') (q : ∀ H', St (cell a (.ins C dx fs') :: R) H' → Rk H') : kAug K tv rAdd f σ (.ref a) H Rk :=
  ⟨a, C, dx, fs, _, rfl, hs.get s, c, na, lk, ht _ ⟨m, n, rfl, rfl, dx, fs, hs.get s, l, by rw [hp]; exact q _ (hs.upd s id)⟩⟩
theorem c_appS (hs : St L H) (s : Sel (cell l (.lst xs)) L R) (z : xs.length < 100000) (q : ∀ H', St (cell l (.lst (xs ++ [v])) :: R) H' → Q .non H') : rAppend (.ref l) [v] H Q := c_app (hs.get s) (szl z) (q _ (hs.upd s id))
theorem c_pop0S (hs : St L H) (s : Sel (cell l (.lst (x :: xs))) L R) (z : xs.length < 100000) (q : ∀ H', St (cell l (.lst xs) :: R) H' → Q x H') : rPopAt (.ref l) [.int 0] H Q := c_pop0 (hs.get s) z (q _ (hs.upd s id))
theorem c_popS (hs : St L H) (s : Sel (cell l (.lst (xs ++ [x]))) L R) (q : ∀ H', St (cell l (.lst xs) :: R) H' → Q x H') : rPop (.ref l) [] H Q :=
  ⟨l, _, x, rfl, rfl, hs.get s, by simp, by rw [List.dropLast_concat]; exact q _ (hs.upd s id)⟩
theorem c_extS (hs : St L H) (s : Sel (cell l (.lst xs)) L R) (h : H b = some (.lst ys)) (z : xs.length + ys.length ≤ 100000) (q : ∀ H', St (cell l (.lst (xs ++ ys)) :: R) H' → Q .non H') : rExtend (.ref l) [.ref b] H Q :=
  ⟨l, b, xs, ys, rfl, rfl, hs.get s, h, sz z, q _ (hs.upd s id)⟩
theorem c_clrS (hs : St L H) (s : Sel (cell l (.lst xs)) L R) (q : ∀ H', St (cell l (.lst []) :: R) H' → Q .non H') : rClear (.ref l) [] H Q := ⟨l, xs, rfl, rfl, hs.get s, q _ (hs.upd s id)⟩
theorem c_setLS (hs : St L H) (s : Sel (cell l (.lst xs)) L R) (e : n = (j : Int)) (hj : j < xs.length) (q : ∀ H', St (cell l (.lst (xs.set j v)) :: R) H' → Rk H') : rSetL (.ref l) (.int n) v H Rk := c_setL (hs.get s) e hj (q _ (hs.upd s id))
def kNewL (xs : List V) (H : Hp) (Q : VK) : Prop := xs.length ≤ sizeLine ∧ ∀ p, H p = none → Q (.ref p) (upd H p (.lst xs))
theorem e_lstS (h : tl σ H fun xs H1 => kNewL xs H1 Q) : tLst tl σ H Q := h
theorem k_newL (hs : St L H) (z : xs.length ≤ 100000) (q : ∀ p H', St (cell p (.lst xs) :: L) H' → Q (.ref p) H') : kNewL xs H Q := ⟨sz z, fun p n => q p _ (hs.new n)⟩
def kNewT (xs : List V) (H : Hp) (Q : VK) : Prop := xs.length ≤ sizeLine ∧ ∀ p, H p = none → Q (.ref p) (upd H p (.tup xs))
theorem e_tupS (h : tl σ H fun xs H1 => kNewT xs H1 Q) : tTup tl σ H Q := h
theorem k_newT (hs : St L H) (z : xs.length ≤ 100000) (q : ∀ p H', St (tcell p xs :: L) H' → Q (.ref p) H') : kNewT xs H Q := ⟨sz z, fun p n => q p _ (hs.newi n trivial)⟩
theorem o_catS {zs : List V} (hs : St L H) (h : H l = some (.lst xs)) (h' : H b = some (.lst zs)) (z : xs.length + zs.length ≤ 100000) (q : ∀ p H', St (cell p (.lst (xs ++ zs)) :: L) H' → Q (.ref p) H') : rCat (.ref l) (.ref b) H Q := o_cat h h' (sz z) fun p n => q p _ (hs.new n)
theorem o_catAS {zs : List V} (hs : St L H) (h : SqT K H l xs) (h' : SqT K H b zs) (z : xs.length + zs.length ≤ 100000) (n1 : xs ≠ []) (n2 : zs ≠ []) (q : ∀ p H', St (tcell p (xs ++ zs) :: L) H' → Q (.ref p) H') : rCatA K (.ref l) (.ref b) H Q :=
  ⟨l, b, xs, zs, rfl, rfl, h, h', sz z, fun e => absurd e n1, fun _ e => absurd e n2, fun _ _ p n => q p _ (hs.newi n trivial)⟩
theorem o_slLS {lo hi : Option Int} (hs : St L H) (h : SqL K H a xs) (q : ∀ p H', St (cell p (.lst (cutV xs lo hi)) :: L) H' → Q (.ref p) H') : rSlL K (.ref a) lo hi H Q := o_slL h fun p n => q p _ (hs.new n)
theorem o_repS {Kx : PySem.W.Frag} (hs : St L H) (h : H l = some (.lst [v])) (h1 : 0 ≤ n) (h2 : n ≤ 100000) (q : ∀ p H', St (cell p (.lst (List.replicate n.toNat v)) :: L) H' → Q (.ref p) H') : rRep (.ref l) (.int n) H Q :=
  Rd.o_rep (K := Kx) h h1 (by simp; omega) (by omega) fun p n' => by
    have e : ∀ k : Nat, (List.replicate k [v]).flatten = List.replicate k v := fun k => by
      induction k with
      | zero => rfl
      | succ k ih => rw [List.replicate_succ, List.flatten_cons, ih]; rfl
    rw [e]; exact q p _ (hs.new n')
theorem c_lsS (hs : St L H) (h : SqL K H p ys) (q : ∀ l H', St (cell l (.lst ys) :: L) H' → Q (.ref l) H') : rLs K [.ref p] H Q := c_ls h fun l n => q l _ (hs.new n)
def kMake (C : Addr) (sp : Sp) (E : XK) (vs : List V) (H1 : Hp) (Q : VK) : Prop := ∀ x dx, H1 x = none → H1 dx = none → dx ≠ x → sp (.ref x :: vs) (upd (upd H1 dx (.own x)) x (.ins C dx [])) (fun v H2 => v = .non ∧ Q (.ref x) H2) E
theorem e_makeS {sp : Sp} {ES : L2.St → XK} (h : tl σ H fun vs H1 => kMake C sp (ES σ) vs H1 Q) : tMakeS C sp ES tl σ H Q := h
theorem k_make {sp : Sp} {E : XK} {vs : List V} (hs : St L H) (q : ∀ x dx H', St (cell x (.ins C dx []) :: L) H' → sp (.ref x :: vs) H' (fun v H2 => v = .non ∧ Q (.ref x) H2) E) : kMake C sp E vs H Q := fun x dx n1 n2 ne =>
  q x dx _ ((hs.keep n2).new (by rw [upd_ne ne.symm]; exact n1))
def kMakeK (C : Addr) (m : Nat) (sp : Sp) (gV : List V → List V → List V) (E : XK) (zs : List V) (H2 : Hp) (Q : VK) : Prop := zs.length = m ∧ ∀ x dx, H2 x = none → H2 dx = none → dx ≠ x →
  sp (gV [.ref x] zs) (upd (upd H2 dx (.own x)) x (.ins C dx [])) (fun v H3 => v = .non ∧ Q (.ref x) H3) E
theorem e_makeKS {m : Nat} {sp : Sp} {gV : List V → List V → List V} {ES : L2.St → XK} (h : tl σ H fun zs H2 => kMakeK C m sp gV (ES σ) zs H2 Q) : tMakeKS C m sp gV ES tl σ H Q := h
theorem k_makeK {m : Nat} {sp : Sp} {gV : List V → List V → List V} {E : XK} {zs : List V} (hs : St L H) (hm : zs.length = m) (q : ∀ x dx H', St (cell x (.ins C dx []) :: L) H' → sp (gV [.ref x] zs) H' (fun v H2 => v = .non ∧ Q (.ref x) H2) E) : kMakeK C m sp gV E zs H Q :=
  ⟨hm, fun x dx n1 n2 ne => q x dx _ ((hs.keep n2).new (by rw [upd_ne ne.symm]; exact n1))⟩
def kNewD (H : Hp) (Q : VK) : Prop := ∀ p, H p = none → Q (.ref p) (upd H p (.dK []))
theorem e_dnew (h : kNewD H Q) : tDNewK σ H Q := h
theorem k_newD (hs : St L H) (q : ∀ p H', St (cell p (.dK []) :: L) H' → Q (.ref p) H') : kNewD H Q := fun p n => q p _ (hs.new n)
theorem k_dputS {kvs kvs' : List (Key × V)} {s : Str} (hs : St L H) (se : Sel (cell a (.dK kvs)) L R) (hl : kvs.length < 100000) (e : putK kvs (Sum.inr s) v = kvs') (q : ∀ H', St (cell a (.dK kvs') :: R) H' → Rk H') : kDPut v (.ref a) (.str s) H Rk :=
  k_dput (hs.get se) hl (by rw [e]; exact q _ (hs.upd se id))
def kRaise (W : WX) (C : Addr) (fld : Str) (σ : L2.St) (v : V) (H1 : Hp) : Prop := okV v ∧ ∀ d, H1 d = none → W (.ref C) (some d) σ (upd H1 d (.xd [(fld, v)]))
theorem s_raiseS {W : WX} {fld : Str} (h : te σ H fun v H1 => kRaise W C fld σ v H1) : tRaiseE W C fld te D σ H := h
theorem k_raise {W : WX} {fld : Str} (hs : St L H) (o : okV v) (q : ∀ d H', St (icell d (.xd [(fld, v)]) :: L) H' → W (.ref C) (some d) σ H') : kRaise W C fld σ v H := ⟨o, fun d n => q d _ (hs.newi n trivial)⟩
/-! ### persistent facts -/
def per (φ : Hp → Prop) (m : ∀ (H H' : Hp), φ H → (∀ a o, H a = some o → Imm o → H' a = some o) → φ H') : As := ⟨fun H S => (∀ a, ¬ S a) ∧ φ H, fun h g => ⟨h.1, m _ _ h.2 g.2⟩, fun h a s => absurd s (h.1 a)⟩
theorem St.perU {φ : Hp → Prop} {m : ∀ (H H' : Hp), φ H → (∀ a o, H a = some o → Imm o → H' a = some o) → φ H'} (h : St L H) (s : Sel (per φ m) L R) : φ H := by
  obtain ⟨S, S1, S2, e, d, h1, h2⟩ := h.sel s
  exact h1.2
theorem St.perI {φ : Hp → Prop} {m : ∀ (H H' : Hp), φ H → (∀ a o, H a = some o → Imm o → H' a = some o) → φ H'} (h : St L H) (f : φ H) : St (per φ m :: L) H := by
  obtain ⟨S, h⟩ := h
  exact ⟨S, fun _ => False, S, fun _ => ⟨.inr, fun z => z.elim (fun f => f.elim) id⟩, fun _ f => f.elim, ⟨fun _ f => f, f⟩, h⟩
theorem St.perD {φ : Hp → Prop} {m : ∀ (H H' : Hp), φ H → (∀ a o, H a = some o → Imm o → H' a = some o) → φ H'} (h : St L H) (s : Sel (per φ m) L R) : St (per φ m :: L) H := h.perI (h.perU s)
end
end Sl
namespace Sl
open PySem PySem.Spec PyProof.Rows L2 Sx Rd
section
variable {L R : List As} {H H1 : Hp} {Q0 : As} {A A' ft : List Addr} {P P' : Hp → List Addr → Prop}
/-- from a promise over footprints to assertions -/
theorem step_gen {l' : ∀ (H H' : Hp) (A : List Addr), P' H A → Agree (fun a => a ∈ A) H H' → P' H' A} {d' : ∀ (H : Hp) (A : List Addr), P' H A → ∀ a, a ∈ A → H a ≠ none}
    (h : St (Q0 :: R) H) (hA : ∀ S, Q0.at_ H S → ∀ x ∈ A, S x) (f : Fp ft H H1) (hf : ∀ x ∈ ft, (x ∈ A ∨ H x = none) ∧ ∀ o, H x = some o → ¬ Imm o) (p : P' H1 A') (hA' : ∀ x ∈ A', x ∈ A ∨ H x = none) : St (fpa P' l' d' :: R) H1 := by
  obtain ⟨S, S1, S2, e, d, h1, h2⟩ := h
  have dm := (all R).dom h2
  have hS := hA S1 h1
  refine ⟨fun x => x ∈ A' ∨ S2 x, fun x => x ∈ A', S2, fun _ => Iff.rfl, fun x m s => ?_, ⟨A', fun _ => Iff.rfl, p⟩, (all R).loc h2 ⟨fun b s => ?_, fun b o g i => f b o g fun m => (hf b m).2 o g i⟩⟩
  · rcases hA' x m with m | m
    · exact d x (hS x m) s
    · exact dm x s m
  · cases g : H b with
    | none => exact absurd g (dm b s)
    | some o =>
      refine f b o g fun m => ?_
      rcases (hf b m).1 with q | q
      · exact d b (hS b q) s
      · rw [q] at g; cases g
theorem fpa_U {l : ∀ (H H' : Hp) (A : List Addr), P H A → Agree (fun a => a ∈ A) H H' → P H' A} {dd : ∀ (H : Hp) (A : List Addr), P H A → ∀ a, a ∈ A → H a ≠ none} (h : St (fpa P l dd :: R) H) : ∃ A, P H A ∧
    ∀ (P' : Hp → List Addr → Prop) (l' : ∀ (H H' : Hp) (A : List Addr), P' H A → Agree (fun a => a ∈ A) H H' → P' H' A) (d' : ∀ (H : Hp) (A : List Addr), P' H A → ∀ a, a ∈ A → H a ≠ none) (ft A' : List Addr) (H1 : Hp),
      Fp ft H H1 → (∀ x ∈ ft, (x ∈ A ∨ H x = none) ∧ ∀ o, H x = some o → ¬ Imm o) → P' H1 A' → (∀ x ∈ A', x ∈ A ∨ H x = none) → St (fpa P' l' d' :: R) H1 := by
  obtain ⟨S, S1, S2, e, d, ⟨A, eA, h1⟩, h2⟩ := id h
  refine ⟨A, h1, fun P' l' d' ft A' H1 f hf p hA' => ?_⟩
  have h' : St (fpa (fun H A1 => A1 = A ∧ P H A) (fun H H' A1 ⟨x, y⟩ g => ⟨x, l _ _ _ y ⟨fun a m => g.1 a (by rw [x]; exact m), g.2⟩⟩) (fun H A1 ⟨x, y⟩ a m => by rw [x] at m; exact dd _ _ y a m) :: R) H := ⟨S, S1, S2, e, d, ⟨A, eA, rfl, h1⟩, h2⟩
  refine step_gen h' (fun S ⟨A1, e1, e2, _⟩ x m => (e1 x).mpr (by rw [e2]; exact m)) f hf p hA'
theorem fpa_new {l' : ∀ (H H' : Hp) (A : List Addr), P' H A → Agree (fun a => a ∈ A) H H' → P' H' A} {d' : ∀ (H : Hp) (A : List Addr), P' H A → ∀ a, a ∈ A → H a ≠ none}
    (h : St L H) (f : Fp [] H H1) (p : P' H1 A') (n : ∀ x ∈ A', H x = none) : St (fpa P' l' d' :: L) H1 := by
  have h' : St (emp :: L) H := by
    obtain ⟨S, h⟩ := h
    exact ⟨S, fun _ => False, S, fun _ => ⟨.inr, fun z => z.elim (fun f => f.elim) id⟩, fun _ f => f.elim, fun _ f => f, h⟩
  exact step_gen (A := []) h' (fun _ _ x m => by simp at m) f (fun x m => by simp at m) p fun x m => .inr (n x m)
theorem fpa_cell {a : Addr} {o : HO} {l' : ∀ (H H' : Hp) (A : List Addr), P' H A → Agree (fun a => a ∈ A) H H' → P' H' A} {d' : ∀ (H : Hp) (A : List Addr), P' H A → ∀ a, a ∈ A → H a ≠ none}
    (h : St (cell a o :: R) H) (i : ¬ Imm o) (f : Fp [a] H H1) (p : P' H1 A') (n : ∀ x ∈ A', x = a ∨ H x = none) : St (fpa P' l' d' :: R) H1 :=
  step_gen (A := [a]) h (fun S g x m => (g.1 x).mpr (List.mem_singleton.mp m)) f (fun x m => ⟨.inl m, fun u e => by rw [List.mem_singleton.mp m, h.get0] at e; cases e; exact i⟩) p fun x m => (n x m).imp (fun e => by rw [e]; simp) id
theorem St.keepF (h : St L H) (f : Fp [] H H1) : St L H1 := by
  obtain ⟨S, h⟩ := h
  exact ⟨S, (all L).loc h (Agree.of_fp f (fun a m => by simp at m) ((all L).dom h) fun b s => by simp)⟩
/-! ### lists of owned things -/
def lA {α : Type} (P : V → α → As) : List V → List α → As
  | [], [] => emp
  | v :: vs, x :: xs => star (P v x) (lA P vs xs)
  | _, _ => pur False
variable {α : Type} {Pa : V → α → As} {v : V} {x : α} {vs ws : List V} {xs ys : List α}
theorem lA.len (h : St (lA Pa vs xs :: R) H) : vs.length = xs.length := by
  induction vs generalizing xs R with
  | nil =>
    cases xs with
    | nil => rfl
    | cons x xs => exact h.purU.1.elim
  | cons v vs ih =>
    cases xs with
    | nil => exact h.purU.1.elim
    | cons x xs =>
      have h' : St (lA Pa vs xs :: Pa v x :: R) H := by
        obtain ⟨S, h⟩ := h
        exact Ent.swap.st ⟨S, star_assoc1 h⟩
      simp [ih h']
theorem St.starU {P Q : As} (h : St (star P Q :: R) H) : St (P :: Q :: R) H := by
  obtain ⟨S, h⟩ := h
  exact ⟨S, star_assoc1 h⟩
theorem St.starI {P Q : As} (h : St (P :: Q :: R) H) : St (star P Q :: R) H := by
  obtain ⟨S, h⟩ := h
  exact ⟨S, star_assoc2 h⟩
theorem lA.consU (h : St (lA Pa vs (x :: xs) :: R) H) : ∃ v ws, vs = v :: ws ∧ St (Pa v x :: lA Pa ws xs :: R) H := by
  cases vs with
  | nil => exact h.purU.1.elim
  | cons v ws => exact ⟨v, ws, rfl, h.starU⟩
theorem lA.consI (h : St (Pa v x :: lA Pa vs xs :: R) H) : St (lA Pa (v :: vs) (x :: xs) :: R) H := h.starI
theorem lA.nilI (h : St R H) : St (lA Pa [] [] :: R) H := by
  obtain ⟨S, h⟩ := h
  exact ⟨S, fun _ => False, S, fun _ => ⟨.inr, fun z => z.elim (fun f => f.elim) id⟩, fun _ f => f.elim, fun _ f => f, h⟩
theorem lA.nilU (h : St (lA Pa vs [] :: R) H) : vs = [] := List.eq_nil_of_length_eq_zero (lA.len h)
theorem lA.appI (h : St (lA Pa vs xs :: lA Pa ws ys :: R) H) : St (lA Pa (vs ++ ws) (xs ++ ys) :: R) H := by
  induction vs generalizing xs R with
  | nil =>
    cases xs with
    | nil => exact h.cons0
    | cons x xs => exact h.purU.1.elim
  | cons v vs ih =>
    cases xs with
    | nil => exact h.purU.1.elim
    | cons x xs =>
      have h1 := (Ent.cons Ent.swap).st (Ent.swap.st h.starU)
      exact lA.consI (Ent.swap.st (ih (R := Pa v x :: R) ((Ent.cons Ent.swap).st h1 |> fun h => (Ent.cons Ent.swap).st h)))
theorem lA.snocI (h : St (lA Pa vs xs :: Pa v x :: R) H) : St (lA Pa (vs ++ [v]) (xs ++ [x]) :: R) H := by
  refine lA.appI (Ent.swap.st ?_)
  refine lA.consI ?_
  have h1 := Ent.swap.st h
  have h2 : St (lA Pa [] [] :: Pa v x :: lA Pa vs xs :: R) H := lA.nilI h1
  exact Ent.swap.st h2
theorem lA.appU {xs ys : List α} (h : St (lA Pa vs (xs ++ ys) :: R) H) : ∃ v1 v2, vs = v1 ++ v2 ∧ St (lA Pa v1 xs :: lA Pa v2 ys :: R) H := by
  induction xs generalizing vs R with
  | nil => exact ⟨[], vs, rfl, lA.nilI h⟩
  | cons x xs ih =>
    obtain ⟨v, ws, rfl, h1⟩ := lA.consU h
    obtain ⟨v1, v2, rfl, h2⟩ := ih (Ent.swap.st h1)
    exact ⟨v :: v1, v2, rfl, lA.consI (Ent.swap.st ((Ent.cons Ent.swap).st h2))⟩
/-- all but the i-th -/
def lH (P : V → α → As) (vs : List V) (xs : List α) (i : Nat) : As := star (lA P (vs.take i) (xs.take i)) (lA P (vs.drop (i + 1)) (xs.drop (i + 1)))
theorem lA.out {i : Nat} (h : St (lA Pa vs xs :: R) H) (hx : xs[i]? = some x) : ∃ v, vs[i]? = some v ∧ St (Pa v x :: lH Pa vs xs i :: R) H := by
  obtain ⟨hi, rfl⟩ := List.getElem?_eq_some_iff.mp hx
  have e : xs = xs.take i ++ (xs[i] :: xs.drop (i + 1)) := by rw [List.getElem_cons_drop, List.take_append_drop]
  rw [e] at h
  obtain ⟨v1, v2, rfl, h1⟩ := lA.appU h
  have l1 : v1.length = i := by rw [lA.len h1, List.length_take]; omega
  obtain ⟨v, ws, rfl, h2⟩ := lA.consU (Ent.swap.st h1)
  refine ⟨v, by rw [List.getElem?_append_right (by omega), l1, Nat.sub_self]; rfl, ?_⟩
  have e1 : (v1 ++ v :: ws).take i = v1 := by rw [← l1, List.take_left]
  have e2 : (v1 ++ v :: ws).drop (i + 1) = ws := by rw [← l1, List.drop_append]; simp
  unfold lH
  rw [e1, e2]
  have h3 := (Ent.cons Ent.swap).st h2
  have h4 : St (Pa v xs[i] :: star (lA Pa v1 (xs.take i)) (lA Pa ws (xs.drop (i + 1))) :: R) H := by
    obtain ⟨S, S1, S2, e, d, g1, g2⟩ := h3
    exact ⟨S, S1, S2, e, d, g1, star_assoc2 g2⟩
  exact h4
theorem lA.back {i : Nat} (hi : i < xs.length) (hv : vs[i]? = some v) (h : St (Pa v x :: lH Pa vs xs i :: R) H) : St (lA Pa vs (xs.set i x) :: R) H := by
  unfold lH at h
  have h3 : St (Pa v x :: lA Pa (vs.take i) (xs.take i) :: lA Pa (vs.drop (i + 1)) (xs.drop (i + 1)) :: R) H := by
    obtain ⟨S, S1, S2, e, d, g1, g2⟩ := h
    exact ⟨S, S1, S2, e, d, g1, star_assoc1 g2⟩
  have h4 := lA.appI (Ent.swap.st (lA.consI ((Ent.cons Ent.swap).st h3)))
  obtain ⟨hj, rfl⟩ := List.getElem?_eq_some_iff.mp hv
  rw [show vs.take i ++ vs[i] :: vs.drop (i + 1) = vs by rw [List.getElem_cons_drop, List.take_append_drop]] at h4
  rw [show xs.set i x = xs.take i ++ x :: xs.drop (i + 1) from List.set_eq_take_append_cons_drop .. |>.trans (if_pos hi)]
  exact h4
end
end Sl
namespace Sl
open PySem PySem.Spec PyProof.Rows L2 Sx Rd
section
variable {L M R : List As} {H : Hp} {P Q : As} {α : Type} {Pa : V → α → As} {v : V} {x : α} {vs ws : List V} {xs ys : List α}
theorem St.sel2 (h : St L H) (s1 : Sel P L M) (s2 : Sel Q M R) : St (P :: Q :: R) H := (Ent.cons s2.ent).st (h.sel s1)
theorem St.sel3 {T : As} {N : List As} (h : St L H) (s1 : Sel P L M) (s2 : Sel Q M N) (s3 : Sel T N R) : St (P :: Q :: T :: R) H := (Ent.cons (Ent.cons s3.ent)).st (h.sel2 s1 s2)
theorem lA.snocS (h : St L H) (s1 : Sel (lA Pa vs xs) L M) (s2 : Sel (Pa v x) M R) : St (lA Pa (vs ++ [v]) (xs ++ [x]) :: R) H := lA.snocI (h.sel2 s1 s2)
theorem lA.consS (h : St L H) (s1 : Sel (Pa v x) L M) (s2 : Sel (lA Pa vs xs) M R) : St (lA Pa (v :: vs) (x :: xs) :: R) H := lA.consI (h.sel2 s1 s2)
theorem lA.appS (h : St L H) (s1 : Sel (lA Pa vs xs) L M) (s2 : Sel (lA Pa ws ys) M R) : St (lA Pa (vs ++ ws) (xs ++ ys) :: R) H := lA.appI (h.sel2 s1 s2)
theorem lA.unS (h : St L H) (s : Sel (lA Pa vs (x :: xs)) L R) : ∃ v ws, vs = v :: ws ∧ St (Pa v x :: lA Pa ws xs :: R) H := lA.consU (h.sel s)
theorem lA.lenS (h : St L H) (s : Sel (lA Pa vs xs) L R) : vs.length = xs.length := lA.len (h.sel s)
theorem lA.outS {i : Nat} (h : St L H) (s : Sel (lA Pa vs xs) L R) (hx : xs[i]? = some x) : ∃ v, vs[i]? = some v ∧ St (Pa v x :: lH Pa vs xs i :: R) H := lA.out (h.sel s) hx
theorem lA.backS {i : Nat} (h : St L H) (s1 : Sel (Pa v x) L M) (s2 : Sel (lH Pa vs xs i) M R) (hi : i < xs.length) (hv : vs[i]? = some v) : St (lA Pa vs (xs.set i x) :: R) H := lA.back hi hv (h.sel2 s1 s2)
/-- given back as it was -/
theorem lA.backE {i : Nat} (h : St L H) (s1 : Sel (Pa v x) L M) (s2 : Sel (lH Pa vs xs i) M R) (hx : xs[i]? = some x) (hv : vs[i]? = some v) : St (lA Pa vs xs :: R) H := by
  obtain ⟨hi, rfl⟩ := List.getElem?_eq_some_iff.mp hx
  have z := lA.backS h s1 s2 hi hv
  rwa [List.set_getElem_self] at z
end
end Sl
namespace Sl
open PySem PySem.Spec PyProof.Rows L2 Sx Rd
/-! ### comprehensions -/
section
variable {K : PySem.W.Frag} {σ : L2.St} {H : Hp} {Q : VK} {g : TG} {tt : TT} {te : TE} {vs : List Nat} {L R0 : List As} {p : Addr} {xs : List V}
/-- what a turn has to bring about -/
abbrev LcStep (g : TG) (tt : TT) (te : TE) (vs : List Nat) (σ : L2.St) (φ : Nat → List V → Prop) (Lf : Nat → List V → List As) (E : Addr) (i : Nat) (x : V) (acc : List V) (H' : Hp) : Prop :=
  ∀ (R : VK) (N : Hp → Prop), (∀ y H4, φ (i + 1) (acc ++ [y]) → St (cell E (.lst acc) :: Lf (i + 1) (acc ++ [y])) H4 → R y H4) → (∀ H4, φ (i + 1) acc → St (cell E (.lst acc) :: Lf (i + 1) acc) H4 → N H4) →
    g x (wipe σ vs) H' fun σ2 H2 => wipe σ2 vs = wipe σ vs ∧ tt σ2 H2 fun b H3 => if b = true then te σ2 H3 R else N H3
theorem k_lcLS (φ : Nat → List V → Prop) (Lf : Nat → List V → List As) (hs : St (Lf 0 []) H) (hq : SqL K H p xs) (hz : xs.length < 100000) (f0 : φ 0 [])
    (hl : ∀ i E acc H', φ i acc → St (cell E (.lst acc) :: Lf i acc) H' → SqL K H' p xs)
    (st : ∀ E i x acc H', xs[i]? = some x → acc.length ≤ i → φ i acc → St (cell E (.lst acc) :: Lf i acc) H' → LcStep g tt te vs σ φ Lf E i x acc H')
    (q : ∀ E acc H', acc.length ≤ xs.length → φ xs.length acc → St (cell E (.lst acc) :: Lf xs.length acc) H' → Q (.ref E) H') : kLcL K g tt te vs σ Q (.ref p) H := by
  refine ⟨p, rfl, ⟨_, hq⟩, fun E hE => ?_⟩
  refine lc_list (K := K) (a := p) (xs := xs) (fun i H' => ∃ acc, acc.length ≤ i ∧ φ i acc ∧ St (cell E (.lst acc) :: Lf i acc) H') ⟨[], Nat.le_refl _, f0, hs.new hE⟩ (fun i H' hi ⟨acc, _, f, h⟩ => hl i E acc H' f h) (fun i x H' hx ⟨acc, ha, f, h⟩ => ?_) fun H' ⟨acc, ha, f, h⟩ => q E acc H' ha f h
  have hi : i < xs.length := (List.getElem?_eq_some_iff.mp hx).1
  exact st E i x acc H' hx ha f h _ _ (fun y H4 f4 h4 => ⟨acc, h4.get0, szl (by omega), acc ++ [y], by rw [List.length_append]; simp; omega, f4, h4.upd0 id⟩) fun H4 f4 h4 => ⟨acc, by omega, f4, h4⟩
/-- over range(n) -/
theorem k_lcFS {n : Int} (φ : Nat → List V → Prop) (Lf : Nat → List V → List As) (hs : St (Lf 0 []) H) (h1 : 0 ≤ n) (h2 : n < 100000) (f0 : φ 0 [])
    (st : ∀ E (i : Nat) acc H', (i : Int) < n → acc.length ≤ i → φ i acc → St (cell E (.lst acc) :: Lf i acc) H' → LcStep g tt te vs σ φ Lf E i (.int (i : Nat)) acc H')
    (q : ∀ E acc H', acc.length ≤ n.toNat → φ n.toNat acc → St (cell E (.lst acc) :: Lf n.toNat acc) H' → Q (.ref E) H') : kLcF g tt te vs σ Q (.int n) H := by
  refine ⟨n, rfl, by omega, by omega, fun E hE => ?_⟩
  refine lc_range (lo := 0) (n := n.toNat) (fun i H' => ∃ acc, acc.length ≤ i ∧ φ i acc ∧ St (cell E (.lst acc) :: Lf i acc) H') ⟨[], Nat.le_refl _, f0, hs.new hE⟩ (fun i H' hi ⟨acc, ha, f, h⟩ => ?_) fun H' ⟨acc, ha, f, h⟩ => q E acc H' ha f h
  have e0 : (0 : Int) + (i : Int) = (i : Int) := Int.zero_add _
  rw [e0]
  exact st E i acc H' (by omega) ha f h _ _ (fun y H4 f4 h4 => ⟨acc, h4.get0, szl (by omega), acc ++ [y], by rw [List.length_append]; simp; omega, f4, h4.upd0 id⟩) fun H4 f4 h4 => ⟨acc, by omega, f4, h4⟩
/-- over enumerate(list) -/
theorem k_lcES (φ : Nat → List V → Prop) (Lf : Nat → List V → List As) (hs : St (Lf 0 []) H) (hq : SqL K H p xs) (hz : xs.length < 100000) (f0 : φ 0 [])
    (hl : ∀ i E acc H', φ i acc → St (cell E (.lst acc) :: Lf i acc) H' → SqL K H' p xs)
    (st : ∀ E T i x acc H', xs[i]? = some x → acc.length ≤ i → φ i acc → H' T = some (.tup [.int (i : Nat), x]) → St (cell E (.lst acc) :: Lf i acc) H' → LcStep g tt te vs σ φ Lf E i (.ref T) acc H')
    (q : ∀ E acc H', acc.length ≤ xs.length → φ xs.length acc → St (cell E (.lst acc) :: Lf xs.length acc) H' → Q (.ref E) H') : kLcE K g tt te vs σ Q [.ref p] H := by
  refine ⟨p, xs, rfl, hq, fun E hE => ?_⟩
  refine ⟨fun i m H' => m = xs.length - i ∧ i ≤ xs.length ∧ ∃ acc, acc.length ≤ i ∧ φ i acc ∧ St (cell E (.lst acc) :: Lf i acc) H', ⟨_, rfl, Nat.zero_le _, [], Nat.le_refl _, f0, hs.new hE⟩, ?_⟩
  rintro i m H' ⟨rfl, hi, acc, ha, f, h⟩
  have hq' := hl i E acc H' f h
  by_cases hlt : i < xs.length
  · refine .inr ⟨⟨xs, xs[i], hq', List.getElem?_eq_getElem hlt⟩, fun H4 => ∃ acc, acc.length ≤ i + 1 ∧ φ (i + 1) acc ∧ St (cell E (.lst acc) :: Lf (i + 1) acc) H4, fun H4 z => ⟨_, by omega, rfl, by omega, z⟩, ?_⟩
    rintro v H2 ⟨T, x, rfl, hT, rfl, hx⟩
    exact st E T i x acc _ (hx xs hq') ha f upd_same (h.keep hT) _ _ (fun y H4 f4 h4 => ⟨acc, h4.get0, szl (by omega), acc ++ [y], by rw [List.length_append]; simp; omega, f4, h4.upd0 id⟩) fun H4 f4 h4 => ⟨acc, by omega, f4, h4⟩
  · have hi2 : i = xs.length := by omega
    subst hi2
    exact .inl ⟨⟨xs, hq', Nat.le_refl _⟩, q E acc H' ha f h⟩
/-- one more assertion that grows -/
theorem k_lcLX (X : Nat → List V → As) (hs : St L H) (hq : SqL K H p xs) (hz : xs.length < 100000) (h0 : St L H → St (X 0 [] :: L) H)
    (hl : ∀ i E acc H', St (cell E (.lst acc) :: X i acc :: L) H' → SqL K H' p xs)
    (st : ∀ E i x acc H', xs[i]? = some x → acc.length ≤ i → St (cell E (.lst acc) :: X i acc :: L) H' → LcStep g tt te vs σ (fun _ _ => True) (fun i acc => X i acc :: L) E i x acc H')
    (q : ∀ E acc H', acc.length ≤ xs.length → St (cell E (.lst acc) :: X xs.length acc :: L) H' → Q (.ref E) H') : kLcL K g tt te vs σ Q (.ref p) H :=
  k_lcLS (fun _ _ => True) (fun i acc => X i acc :: L) (h0 hs) hq hz trivial (fun i E acc H' _ h => hl i E acc H' h) (fun E i x acc H' hx ha _ h => st E i x acc H' hx ha h) fun E acc H' ha _ h => q E acc H' ha h
theorem St.perm {M R : List As} (h : St L H) (s : Sels M L R) : St M H := by
  have z := h.sels s
  have e : ∀ M : List As, Ent (M ++ R) M := fun M => by
    induction M with
    | nil => exact fun H S h => ⟨fun _ => False, fun _ f => f.elim, fun _ f => f⟩
    | cons P M ih => exact ih.cons
  exact (e M).st z
/-- a test that is none -/
theorem lc_yes {σ2 : L2.St} {H2 : Hp} {R : VK} {N : Hp → Prop} (h : te σ2 H2 R) : tYes σ2 H2 fun b H3 => if b = true then te σ2 H3 R else N H3 := t_yes (iteT h)
end
end Sl
namespace Sl
open PySem PySem.Spec PyProof.Rows L2 Sx Rd
/-- a cut without a promise of its own: what follows is read on each way -/
theorem s_cut0 {D : Ends} {σ : L2.St} {H : Hp} {t u : TS} (h : t { D with nx := u D } σ H) : Evl.tCut t u D σ H := s_cut (u D) h fun _ _ z => z
end Sl
namespace Sl
open PySem PySem.Spec PyProof.Rows L2 Sx Rd
theorem St.nil {H : Hp} : St [] H := ⟨fun _ => False, fun _ f => f⟩
theorem ix_ints {ns : List Int} {r : Int} (h0 : 0 ≤ r) (h1 : r < ns.length) : ∃ m ∈ ns, atI (ns.map V.int) r = some (.int m) := by
  obtain ⟨j, rfl⟩ := Int.eq_ofNat_of_zero_le h0
  have hj : j < ns.length := by omega
  exact ⟨ns[j], List.getElem_mem hj, atI_nat (by rw [List.getElem?_map, List.getElem?_eq_getElem hj]; rfl)⟩
end Sl
namespace Sl
open PySem PySem.Spec PyProof.Rows L2 Sx Rd
theorem ix_of (ns : List Int) {xs : List V} {r : Int} (e : xs = ns.map V.int) (h0 : 0 ≤ r) (h1 : r < ns.length) : ∃ m ∈ ns, atI xs r = some (.int m) := by
  subst e
  exact ix_ints h0 h1
end Sl
namespace Sl
open PySem PySem.Spec PyProof.Rows L2 Sx Rd
theorem t_up0 {t : TT} {σ : L2.St} {H : Hp} {Q : Bool → Hp → Prop} (h : t σ H Q) : tUpT t σ H Q := t_up Q h fun _ _ z => z
end Sl
namespace Sl
open PySem PySem.Spec PyProof.Rows L2 Sx Rd
/-- a new thing, found behind a promise over footprints -/
theorem St.newF {L : List As} {H H1 : Hp} {a : Addr} {o : HO} (h : St L H) (f : Fp [] H H1) (n : H a = none) (g : H1 a = some o) : St (cell a o :: L) H1 := by
  obtain ⟨S, h⟩ := h
  have dm := (all L).dom h
  exact ⟨fun b => b = a ∨ S b, fun b => b = a, S, fun _ => Iff.rfl, fun b z s => dm b s (z ▸ n), ⟨fun _ => Iff.rfl, g⟩, (all L).loc h (Agree.of_fp f (fun _ m => by simp at m) dm fun _ _ => by simp)⟩
theorem St.newiF {L : List As} {H H1 : Hp} {a : Addr} {o : HO} (h : St L H) (f : Fp [] H H1) (g : H1 a = some o) (i : Imm o) : St (icell a o :: L) H1 := by
  obtain ⟨S, h⟩ := h.keepF f
  exact ⟨S, fun _ => False, S, fun _ => ⟨.inr, fun z => z.elim (fun f => f.elim) id⟩, fun _ f => f.elim, ⟨fun _ f => f, g, i⟩, h⟩
end Sl
namespace Sl
open PySem PySem.Spec PyProof.Rows L2 Sx Rd
theorem St.iadd {L : List As} {H : Hp} {a : Addr} {o : HO} (h : St L H) (g : H a = some o) (i : Imm o) : St (icell a o :: L) H := by
  obtain ⟨S, h⟩ := h
  exact ⟨S, fun _ => False, S, fun _ => ⟨.inr, fun z => z.elim (fun f => f.elim) id⟩, fun _ f => f.elim, ⟨fun _ f => f, g, i⟩, h⟩
end Sl
namespace Sl
open PySem PySem.Spec PyProof.Rows L2 Sx Rd
/-- a list that is only read: tracked, frozen or known -/
def sqA (K : PySem.W.Frag) (b : Addr) (xs : List V) : As := ⟨fun H S => SqL K H b xs ∧ ((H b = some (.lst xs) ∧ ∀ x, S x ↔ x = b) ∨ ((∀ x, ¬ S x) ∧ ((∃ o, H b = some (.frz o (.lst xs))) ∨ ∀ H' : Hp, SqL K H' b xs))),
  fun {H H' S} ⟨h, c⟩ g => by
    rcases c with ⟨e, s⟩ | ⟨s, ⟨o, e⟩ | e⟩
    · have e' : H' b = some (.lst xs) := by rw [g.1 b ((s b).mpr rfl)]; exact e
      exact ⟨.inl (.inl e'), .inl ⟨e', s⟩⟩
    · have e' := g.2 _ _ e trivial
      exact ⟨.inl (.inr ⟨o, e'⟩), .inr ⟨s, .inl ⟨o, e'⟩⟩⟩
    · exact ⟨e H', .inr ⟨s, .inr e⟩⟩,
  fun {H S} ⟨h, c⟩ a m => by
    rcases c with ⟨e, s⟩ | ⟨s, _⟩
    · rw [(s a).mp m, e]; simp
    · exact absurd m (s a)⟩
theorem sqA.U {K : PySem.W.Frag} {b : Addr} {xs : List V} {L R : List As} {H : Hp} (hs : St L H) (s : Sel (sqA K b xs) L R) : SqL K H b xs := by
  obtain ⟨S, S1, S2, e, d, h1, h2⟩ := hs.sel s
  exact h1.1
theorem sqA.new {K : PySem.W.Frag} {b : Addr} {xs : List V} {H : Hp} (h : SqL K H b xs) : St [sqA K b xs] H := by
  have mk : ∀ S : Addr → Prop, (sqA K b xs).at_ H S → St [sqA K b xs] H := fun S h => ⟨S, S, fun _ => False, fun _ => ⟨.inl, fun z => z.elim id fun f => f.elim⟩, fun _ _ f => f, h, fun _ f => f⟩
  rcases id h with (e | ⟨o, e⟩) | e
  · exact mk (fun x => x = b) ⟨h, .inl ⟨e, fun _ => Iff.rfl⟩⟩
  · exact mk (fun _ => False) ⟨h, .inr ⟨fun _ f => f, .inl ⟨o, e⟩⟩⟩
  · exact mk (fun _ => False) ⟨h, .inr ⟨fun _ f => f, .inr fun H' => .inr e⟩⟩
end Sl
namespace Sl
open PySem PySem.Spec PyProof.Rows L2 Sx Rd
section
variable {K : PySem.W.Frag} {H : Hp} {Q : VK} {a : Addr}
theorem c_max {ns : List Int} {m : Int} (h : SqL K H a (ns.map V.int)) (hm : m ∈ ns) (hx : ∀ y ∈ ns, y ≤ m) (q : Q (.int m) H) : rMax K [.ref a] H Q :=
  ⟨a, ns, rfl, h, List.length_pos_iff.mpr fun e => (by rw [e] at hm; cases hm), fun m' h1 h2 => by
    have : m' = m := Int.le_antisymm (hx m' h1) (h2 m hm)
    rw [this]; exact q⟩
theorem c_min {ns : List Int} {m : Int} (h : SqL K H a (ns.map V.int)) (hm : m ∈ ns) (hx : ∀ y ∈ ns, m ≤ y) (q : Q (.int m) H) : rMin K [.ref a] H Q :=
  ⟨a, ns, rfl, h, List.length_pos_iff.mpr fun e => (by rw [e] at hm; cases hm), fun m' h1 h2 => by
    have : m' = m := Int.le_antisymm (h2 m hm) (hx m' h1)
    rw [this]; exact q⟩
theorem c_all {bs : List Bool} (h : SqL K H a (bs.map V.bl)) (q : Q (.bl (bs.all id)) H) : rAll K [.ref a] H Q := ⟨a, bs, rfl, h, q⟩
/-- the greatest of some numbers -/
theorem max_of : ∀ (ns : List Int), ns ≠ [] → ∃ m ∈ ns, ∀ y ∈ ns, y ≤ m
  | [], h => absurd rfl h
  | [x], _ => ⟨x, by simp, by simp⟩
  | x :: y :: r, _ => by
    obtain ⟨m, h1, h2⟩ := max_of (y :: r) (by simp)
    by_cases h : m ≤ x
    · exact ⟨x, by simp, fun z hz => by rcases List.mem_cons.mp hz with rfl | hz; exact Int.le_refl _; exact Int.le_trans (h2 z hz) h⟩
    · exact ⟨m, List.mem_cons_of_mem _ h1, fun z hz => by rcases List.mem_cons.mp hz with rfl | hz; omega; exact h2 z hz⟩
end
end Sl
set_option Elab.async false
set_option maxRecDepth 100000
set_option maxHeartbeats 100000000
set_option linter.all false
namespace My
open PySem L2 Sx Rd Sl
def top (i : Nat) : Stmt := PySem.Challenge.pw_tickrings_k19_admitted_rates.main.body.getD i (.Pass ⟨0, 0, 0, 0⟩)
abbrev s_job_share : Stmt := top 1
abbrev s_device_admits : Stmt := top 2
abbrev s_admits : Stmt := top 3
abbrev s_warm_up : Stmt := top 4
abbrev s_latency : Stmt := top 5
abbrev s_ConfigError_init : Stmt := inClass (top 8) 0
abbrev s_require : Stmt := top 10
abbrev s_budget_sum : Stmt := top 11
abbrev s_Settings_init : Stmt := inClass (top 12) 0
abbrev s_Config_init : Stmt := inClass (top 13) 0
abbrev s_law_state : Stmt := top 15
abbrev s_law_draw : Stmt := top 16
abbrev s_law_near : Stmt := top 17
abbrev s_law_settings : Stmt := top 18
abbrev s_law_device_due : Stmt := top 19
abbrev s_law : Stmt := top 20
theorem sc_job_share : FnScope ["config"] ["config"] (defScope s_job_share) := ⟨rfl, rfl, rfl, by decide +kernel, rfl, by decide +kernel, by decide +kernel⟩
theorem sc_device_admits : FnScope ["settings", "rate", "share", "closings"] ["settings", "rate", "share"] (defScope s_device_admits) := ⟨rfl, rfl, rfl, by decide +kernel, rfl, by decide +kernel, by decide +kernel⟩
theorem sc_admits : FnScope ["config", "rates", "settings", "share", "d"] ["config", "rates"] (defScope s_admits) := ⟨rfl, rfl, rfl, by decide +kernel, rfl, by decide +kernel, by decide +kernel⟩
theorem sc_warm_up : FnScope ["config", "share", "slots", "settings"] ["config"] (defScope s_warm_up) := ⟨rfl, rfl, rfl, by decide +kernel, rfl, by decide +kernel, by decide +kernel⟩
theorem sc_latency : FnScope ["config", "at"] ["config", "at"] (defScope s_latency) := ⟨rfl, rfl, rfl, by decide +kernel, rfl, by decide +kernel, by decide +kernel⟩
theorem sc_ConfigError_init : NdefX.NScope ["self", "setting", "__class__"] ["self", "setting"] ["__class__"] (defScope s_ConfigError_init) := NdefX.nscope_by (by decide +kernel)
theorem sc_require : FnScope ["setting", "in_range"] ["setting", "in_range"] (defScope s_require) := ⟨rfl, rfl, rfl, by decide +kernel, rfl, by decide +kernel, by decide +kernel⟩
theorem sc_budget_sum : FnScope ["devices", "jobs", "device"] ["devices", "jobs"] (defScope s_budget_sum) := ⟨rfl, rfl, rfl, by decide +kernel, rfl, by decide +kernel, by decide +kernel⟩
theorem sc_Settings_init : FnScope ["self", "queue", "sending", "slots", "pace", "count", "wait", "idle", "room", "receive", "transmit"] ["self", "queue", "sending", "slots", "pace", "count", "wait", "idle", "room", "receive", "transmit"] (defScope s_Settings_init) := ⟨rfl, rfl, rfl, by decide +kernel, rfl, by decide +kernel, by decide +kernel⟩
theorem sc_Config_init : FnScope ["self", "devices", "buffers", "size", "period", "jobs"] ["self", "devices", "buffers", "size", "period", "jobs"] (defScope s_Config_init) := ⟨rfl, rfl, rfl, by decide +kernel, rfl, by decide +kernel, by decide +kernel⟩
theorem sc_law_state : FnScope ["script", "seed", "cell"] ["script"] (defScope s_law_state) := ⟨rfl, rfl, rfl, by decide +kernel, rfl, by decide +kernel, by decide +kernel⟩
theorem sc_law_draw : FnScope ["state", "many", "cells", "value", "mixed"] ["state", "many"] (defScope s_law_draw) := ⟨rfl, rfl, rfl, by decide +kernel, rfl, by decide +kernel, by decide +kernel⟩
theorem sc_law_near : FnScope ["state", "n", "least", "greatest"] ["state", "n", "least", "greatest"] (defScope s_law_near) := ⟨rfl, rfl, rfl, by decide +kernel, rfl, by decide +kernel, by decide +kernel⟩
theorem sc_law_settings : FnScope ["state", "rate", "receive", "many", "queue", "count", "slots"] ["state", "rate"] (defScope s_law_settings) := ⟨rfl, rfl, rfl, by decide +kernel, rfl, by decide +kernel, by decide +kernel⟩
theorem sc_law_device_due : FnScope ["config", "one", "rate", "share", "many"] ["config", "one", "rate", "share"] (defScope s_law_device_due) := ⟨rfl, rfl, rfl, by decide +kernel, rfl, by decide +kernel, by decide +kernel⟩
theorem sc_law : FnScope ["script", "state", "rates", "k", "devices", "rate", "many", "spent", "device", "need", "jobs", "slots", "buffers", "size", "period", "config", "share", "due", "given", "told", "warm", "most"] ["script"] (defScope s_law) := ⟨rfl, rfl, rfl, by decide +kernel, rfl, by decide +kernel, by decide +kernel⟩
/-- where things stand -/
structure Ads where
  (C_TickringsError C_ConfigError C_Settings C_Config : Addr)
  (f_job_share f_device_admits f_admits f_warm_up f_latency f_ConfigError_init f_require f_budget_sum f_Settings_init f_Config_init f_law_state f_law_draw f_law_near f_law_settings f_law_device_due f_law : Addr)
  (fd_job_share fd_device_admits fd_admits fd_warm_up fd_latency fd_ConfigError_init fd_require fd_budget_sum fd_Settings_init fd_Config_init fd_law_state fd_law_draw fd_law_near fd_law_settings fd_law_device_due fd_law : FuncData)
def F_Settings (x0 x1 x2 x3 x4 x5 x6 x7 x8 x9 : V) : List (Str × V) := [("queue", x0), ("sending", x1), ("slots", x2), ("pace", x3), ("count_limit", x4), ("wait", x5), ("idle", x6), ("room", x7), ("receive", x8), ("transmit", x9)]
section
variable {x0 x1 x2 x3 x4 x5 x6 x7 x8 x9 v : V}
theorem F_Settings_queue_l : (F_Settings x0 x1 x2 x3 x4 x5 x6 x7 x8 x9).lookup ("queue" : Str) = some x0 := by unfold F_Settings; rw [look_hit]
theorem F_Settings_queue_p : putF "queue" v (F_Settings x0 x1 x2 x3 x4 x5 x6 x7 x8 x9) = F_Settings v x1 x2 x3 x4 x5 x6 x7 x8 x9 := by unfold F_Settings; rw [putF_hit]; try rfl
theorem F_Settings_sending_l : (F_Settings x0 x1 x2 x3 x4 x5 x6 x7 x8 x9).lookup ("sending" : Str) = some x1 := by unfold F_Settings; rw [look_miss (by decide +kernel), look_hit]
theorem F_Settings_sending_p : putF "sending" v (F_Settings x0 x1 x2 x3 x4 x5 x6 x7 x8 x9) = F_Settings x0 v x2 x3 x4 x5 x6 x7 x8 x9 := by unfold F_Settings; rw [putF_miss (by decide +kernel), putF_hit]; try rfl
theorem F_Settings_slots_l : (F_Settings x0 x1 x2 x3 x4 x5 x6 x7 x8 x9).lookup ("slots" : Str) = some x2 := by unfold F_Settings; rw [look_miss (by decide +kernel), look_miss (by decide +kernel), look_hit]
theorem F_Settings_slots_p : putF "slots" v (F_Settings x0 x1 x2 x3 x4 x5 x6 x7 x8 x9) = F_Settings x0 x1 v x3 x4 x5 x6 x7 x8 x9 := by unfold F_Settings; rw [putF_miss (by decide +kernel), putF_miss (by decide +kernel), putF_hit]; try rfl
theorem F_Settings_pace_l : (F_Settings x0 x1 x2 x3 x4 x5 x6 x7 x8 x9).lookup ("pace" : Str) = some x3 := by unfold F_Settings; rw [look_miss (by decide +kernel), look_miss (by decide +kernel), look_miss (by decide +kernel), look_hit]
theorem F_Settings_pace_p : putF "pace" v (F_Settings x0 x1 x2 x3 x4 x5 x6 x7 x8 x9) = F_Settings x0 x1 x2 v x4 x5 x6 x7 x8 x9 := by unfold F_Settings; rw [putF_miss (by decide +kernel), putF_miss (by decide +kernel), putF_miss (by decide +kernel), putF_hit]; try rfl
theorem F_Settings_count_limit_l : (F_Settings x0 x1 x2 x3 x4 x5 x6 x7 x8 x9).lookup ("count_limit" : Str) = some x4 := by unfold F_Settings; rw [look_miss (by decide +kernel), look_miss (by decide +kernel), look_miss (by decide +kernel), look_miss (by decide +kernel), look_hit]
theorem F_Settings_count_limit_p : putF "count_limit" v (F_Settings x0 x1 x2 x3 x4 x5 x6 x7 x8 x9) = F_Settings x0 x1 x2 x3 v x5 x6 x7 x8 x9 := by unfold F_Settings; rw [putF_miss (by decide +kernel), putF_miss (by decide +kernel), putF_miss (by decide +kernel), putF_miss (by decide +kernel), putF_hit]; try rfl
theorem F_Settings_wait_l : (F_Settings x0 x1 x2 x3 x4 x5 x6 x7 x8 x9).lookup ("wait" : Str) = some x5 := by unfold F_Settings; rw [look_miss (by decide +kernel), look_miss (by decide +kernel), look_miss (by decide +kernel), look_miss (by decide +kernel), look_miss (by decide +kernel), look_hit]
theorem F_Settings_wait_p : putF "wait" v (F_Settings x0 x1 x2 x3 x4 x5 x6 x7 x8 x9) = F_Settings x0 x1 x2 x3 x4 v x6 x7 x8 x9 := by unfold F_Settings; rw [putF_miss (by decide +kernel), putF_miss (by decide +kernel), putF_miss (by decide +kernel), putF_miss (by decide +kernel), putF_miss (by decide +kernel), putF_hit]; try rfl
theorem F_Settings_idle_l : (F_Settings x0 x1 x2 x3 x4 x5 x6 x7 x8 x9).lookup ("idle" : Str) = some x6 := by unfold F_Settings; rw [look_miss (by decide +kernel), look_miss (by decide +kernel), look_miss (by decide +kernel), look_miss (by decide +kernel), look_miss (by decide +kernel), look_miss (by decide +kernel), look_hit]
theorem F_Settings_idle_p : putF "idle" v (F_Settings x0 x1 x2 x3 x4 x5 x6 x7 x8 x9) = F_Settings x0 x1 x2 x3 x4 x5 v x7 x8 x9 := by unfold F_Settings; rw [putF_miss (by decide +kernel), putF_miss (by decide +kernel), putF_miss (by decide +kernel), putF_miss (by decide +kernel), putF_miss (by decide +kernel), putF_miss (by decide +kernel), putF_hit]; try rfl
theorem F_Settings_room_l : (F_Settings x0 x1 x2 x3 x4 x5 x6 x7 x8 x9).lookup ("room" : Str) = some x7 := by unfold F_Settings; rw [look_miss (by decide +kernel), look_miss (by decide +kernel), look_miss (by decide +kernel), look_miss (by decide +kernel), look_miss (by decide +kernel), look_miss (by decide +kernel), look_miss (by decide +kernel), look_hit]
theorem F_Settings_room_p : putF "room" v (F_Settings x0 x1 x2 x3 x4 x5 x6 x7 x8 x9) = F_Settings x0 x1 x2 x3 x4 x5 x6 v x8 x9 := by unfold F_Settings; rw [putF_miss (by decide +kernel), putF_miss (by decide +kernel), putF_miss (by decide +kernel), putF_miss (by decide +kernel), putF_miss (by decide +kernel), putF_miss (by decide +kernel), putF_miss (by decide +kernel), putF_hit]; try rfl
theorem F_Settings_receive_l : (F_Settings x0 x1 x2 x3 x4 x5 x6 x7 x8 x9).lookup ("receive" : Str) = some x8 := by unfold F_Settings; rw [look_miss (by decide +kernel), look_miss (by decide +kernel), look_miss (by decide +kernel), look_miss (by decide +kernel), look_miss (by decide +kernel), look_miss (by decide +kernel), look_miss (by decide +kernel), look_miss (by decide +kernel), look_hit]
theorem F_Settings_receive_p : putF "receive" v (F_Settings x0 x1 x2 x3 x4 x5 x6 x7 x8 x9) = F_Settings x0 x1 x2 x3 x4 x5 x6 x7 v x9 := by unfold F_Settings; rw [putF_miss (by decide +kernel), putF_miss (by decide +kernel), putF_miss (by decide +kernel), putF_miss (by decide +kernel), putF_miss (by decide +kernel), putF_miss (by decide +kernel), putF_miss (by decide +kernel), putF_miss (by decide +kernel), putF_hit]; try rfl
theorem F_Settings_transmit_l : (F_Settings x0 x1 x2 x3 x4 x5 x6 x7 x8 x9).lookup ("transmit" : Str) = some x9 := by unfold F_Settings; rw [look_miss (by decide +kernel), look_miss (by decide +kernel), look_miss (by decide +kernel), look_miss (by decide +kernel), look_miss (by decide +kernel), look_miss (by decide +kernel), look_miss (by decide +kernel), look_miss (by decide +kernel), look_miss (by decide +kernel), look_hit]
theorem F_Settings_transmit_p : putF "transmit" v (F_Settings x0 x1 x2 x3 x4 x5 x6 x7 x8 x9) = F_Settings x0 x1 x2 x3 x4 x5 x6 x7 x8 v := by unfold F_Settings; rw [putF_miss (by decide +kernel), putF_miss (by decide +kernel), putF_miss (by decide +kernel), putF_miss (by decide +kernel), putF_miss (by decide +kernel), putF_miss (by decide +kernel), putF_miss (by decide +kernel), putF_miss (by decide +kernel), putF_miss (by decide +kernel), putF_hit]; try rfl
theorem F_Settings_len : (F_Settings x0 x1 x2 x3 x4 x5 x6 x7 x8 x9).length < 1000 := by show 10 < 1000; decide
theorem F_Settings_i1 : putF "sending" x1 ([(("queue" : Str), x0)] : List (Str × V)) = [(("queue" : Str), x0), (("sending" : Str), x1)] := by rw [putF_miss (by decide +kernel)]; rfl
theorem F_Settings_i2 : putF "slots" x2 ([(("queue" : Str), x0), (("sending" : Str), x1)] : List (Str × V)) = [(("queue" : Str), x0), (("sending" : Str), x1), (("slots" : Str), x2)] := by rw [putF_miss (by decide +kernel), putF_miss (by decide +kernel)]; rfl
theorem F_Settings_i3 : putF "pace" x3 ([(("queue" : Str), x0), (("sending" : Str), x1), (("slots" : Str), x2)] : List (Str × V)) = [(("queue" : Str), x0), (("sending" : Str), x1), (("slots" : Str), x2), (("pace" : Str), x3)] := by rw [putF_miss (by decide +kernel), putF_miss (by decide +kernel), putF_miss (by decide +kernel)]; rfl
theorem F_Settings_i4 : putF "count_limit" x4 ([(("queue" : Str), x0), (("sending" : Str), x1), (("slots" : Str), x2), (("pace" : Str), x3)] : List (Str × V)) = [(("queue" : Str), x0), (("sending" : Str), x1), (("slots" : Str), x2), (("pace" : Str), x3), (("count_limit" : Str), x4)] := by rw [putF_miss (by decide +kernel), putF_miss (by decide +kernel), putF_miss (by decide +kernel), putF_miss (by decide +kernel)]; rfl
theorem F_Settings_i5 : putF "wait" x5 ([(("queue" : Str), x0), (("sending" : Str), x1), (("slots" : Str), x2), (("pace" : Str), x3), (("count_limit" : Str), x4)] : List (Str × V)) = [(("queue" : Str), x0), (("sending" : Str), x1), (("slots" : Str), x2), (("pace" : Str), x3), (("count_limit" : Str), x4), (("wait" : Str), x5)] := by rw [putF_miss (by decide +kernel), putF_miss (by decide +kernel), putF_miss (by decide +kernel), putF_miss (by decide +kernel), putF_miss (by decide +kernel)]; rfl
theorem F_Settings_i6 : putF "idle" x6 ([(("queue" : Str), x0), (("sending" : Str), x1), (("slots" : Str), x2), (("pace" : Str), x3), (("count_limit" : Str), x4), (("wait" : Str), x5)] : List (Str × V)) = [(("queue" : Str), x0), (("sending" : Str), x1), (("slots" : Str), x2), (("pace" : Str), x3), (("count_limit" : Str), x4), (("wait" : Str), x5), (("idle" : Str), x6)] := by rw [putF_miss (by decide +kernel), putF_miss (by decide +kernel), putF_miss (by decide +kernel), putF_miss (by decide +kernel), putF_miss (by decide +kernel), putF_miss (by decide +kernel)]; rfl
theorem F_Settings_i7 : putF "room" x7 ([(("queue" : Str), x0), (("sending" : Str), x1), (("slots" : Str), x2), (("pace" : Str), x3), (("count_limit" : Str), x4), (("wait" : Str), x5), (("idle" : Str), x6)] : List (Str × V)) = [(("queue" : Str), x0), (("sending" : Str), x1), (("slots" : Str), x2), (("pace" : Str), x3), (("count_limit" : Str), x4), (("wait" : Str), x5), (("idle" : Str), x6), (("room" : Str), x7)] := by rw [putF_miss (by decide +kernel), putF_miss (by decide +kernel), putF_miss (by decide +kernel), putF_miss (by decide +kernel), putF_miss (by decide +kernel), putF_miss (by decide +kernel), putF_miss (by decide +kernel)]; rfl
theorem F_Settings_i8 : putF "receive" x8 ([(("queue" : Str), x0), (("sending" : Str), x1), (("slots" : Str), x2), (("pace" : Str), x3), (("count_limit" : Str), x4), (("wait" : Str), x5), (("idle" : Str), x6), (("room" : Str), x7)] : List (Str × V)) = [(("queue" : Str), x0), (("sending" : Str), x1), (("slots" : Str), x2), (("pace" : Str), x3), (("count_limit" : Str), x4), (("wait" : Str), x5), (("idle" : Str), x6), (("room" : Str), x7), (("receive" : Str), x8)] := by rw [putF_miss (by decide +kernel), putF_miss (by decide +kernel), putF_miss (by decide +kernel), putF_miss (by decide +kernel), putF_miss (by decide +kernel), putF_miss (by decide +kernel), putF_miss (by decide +kernel), putF_miss (by decide +kernel)]; rfl
theorem F_Settings_i9 : putF "transmit" x9 ([(("queue" : Str), x0), (("sending" : Str), x1), (("slots" : Str), x2), (("pace" : Str), x3), (("count_limit" : Str), x4), (("wait" : Str), x5), (("idle" : Str), x6), (("room" : Str), x7), (("receive" : Str), x8)] : List (Str × V)) = [(("queue" : Str), x0), (("sending" : Str), x1), (("slots" : Str), x2), (("pace" : Str), x3), (("count_limit" : Str), x4), (("wait" : Str), x5), (("idle" : Str), x6), (("room" : Str), x7), (("receive" : Str), x8), (("transmit" : Str), x9)] := by rw [putF_miss (by decide +kernel), putF_miss (by decide +kernel), putF_miss (by decide +kernel), putF_miss (by decide +kernel), putF_miss (by decide +kernel), putF_miss (by decide +kernel), putF_miss (by decide +kernel), putF_miss (by decide +kernel), putF_miss (by decide +kernel)]; rfl
theorem F_Settings_init : putF "transmit" x9 (putF "receive" x8 (putF "room" x7 (putF "idle" x6 (putF "wait" x5 (putF "count_limit" x4 (putF "pace" x3 (putF "slots" x2 (putF "sending" x1 (putF "queue" x0 []))))))))) = F_Settings x0 x1 x2 x3 x4 x5 x6 x7 x8 x9 := by unfold F_Settings; rw [putF_nil, F_Settings_i1, F_Settings_i2, F_Settings_i3, F_Settings_i4, F_Settings_i5, F_Settings_i6, F_Settings_i7, F_Settings_i8, F_Settings_i9]
end
def F_Config (x0 x1 x2 x3 x4 : V) : List (Str × V) := [("devices", x0), ("buffers", x1), ("size", x2), ("period", x3), ("jobs", x4)]
section
variable {x0 x1 x2 x3 x4 v : V}
theorem F_Config_devices_l : (F_Config x0 x1 x2 x3 x4).lookup ("devices" : Str) = some x0 := by unfold F_Config; rw [look_hit]
theorem F_Config_devices_p : putF "devices" v (F_Config x0 x1 x2 x3 x4) = F_Config v x1 x2 x3 x4 := by unfold F_Config; rw [putF_hit]; try rfl
theorem F_Config_buffers_l : (F_Config x0 x1 x2 x3 x4).lookup ("buffers" : Str) = some x1 := by unfold F_Config; rw [look_miss (by decide +kernel), look_hit]
theorem F_Config_buffers_p : putF "buffers" v (F_Config x0 x1 x2 x3 x4) = F_Config x0 v x2 x3 x4 := by unfold F_Config; rw [putF_miss (by decide +kernel), putF_hit]; try rfl
theorem F_Config_size_l : (F_Config x0 x1 x2 x3 x4).lookup ("size" : Str) = some x2 := by unfold F_Config; rw [look_miss (by decide +kernel), look_miss (by decide +kernel), look_hit]
theorem F_Config_size_p : putF "size" v (F_Config x0 x1 x2 x3 x4) = F_Config x0 x1 v x3 x4 := by unfold F_Config; rw [putF_miss (by decide +kernel), putF_miss (by decide +kernel), putF_hit]; try rfl
theorem F_Config_period_l : (F_Config x0 x1 x2 x3 x4).lookup ("period" : Str) = some x3 := by unfold F_Config; rw [look_miss (by decide +kernel), look_miss (by decide +kernel), look_miss (by decide +kernel), look_hit]
theorem F_Config_period_p : putF "period" v (F_Config x0 x1 x2 x3 x4) = F_Config x0 x1 x2 v x4 := by unfold F_Config; rw [putF_miss (by decide +kernel), putF_miss (by decide +kernel), putF_miss (by decide +kernel), putF_hit]; try rfl
theorem F_Config_jobs_l : (F_Config x0 x1 x2 x3 x4).lookup ("jobs" : Str) = some x4 := by unfold F_Config; rw [look_miss (by decide +kernel), look_miss (by decide +kernel), look_miss (by decide +kernel), look_miss (by decide +kernel), look_hit]
theorem F_Config_jobs_p : putF "jobs" v (F_Config x0 x1 x2 x3 x4) = F_Config x0 x1 x2 x3 v := by unfold F_Config; rw [putF_miss (by decide +kernel), putF_miss (by decide +kernel), putF_miss (by decide +kernel), putF_miss (by decide +kernel), putF_hit]; try rfl
theorem F_Config_len : (F_Config x0 x1 x2 x3 x4).length < 1000 := by show 5 < 1000; decide
theorem F_Config_i1 : putF "buffers" x1 ([(("devices" : Str), x0)] : List (Str × V)) = [(("devices" : Str), x0), (("buffers" : Str), x1)] := by rw [putF_miss (by decide +kernel)]; rfl
theorem F_Config_i2 : putF "size" x2 ([(("devices" : Str), x0), (("buffers" : Str), x1)] : List (Str × V)) = [(("devices" : Str), x0), (("buffers" : Str), x1), (("size" : Str), x2)] := by rw [putF_miss (by decide +kernel), putF_miss (by decide +kernel)]; rfl
theorem F_Config_i3 : putF "period" x3 ([(("devices" : Str), x0), (("buffers" : Str), x1), (("size" : Str), x2)] : List (Str × V)) = [(("devices" : Str), x0), (("buffers" : Str), x1), (("size" : Str), x2), (("period" : Str), x3)] := by rw [putF_miss (by decide +kernel), putF_miss (by decide +kernel), putF_miss (by decide +kernel)]; rfl
theorem F_Config_i4 : putF "jobs" x4 ([(("devices" : Str), x0), (("buffers" : Str), x1), (("size" : Str), x2), (("period" : Str), x3)] : List (Str × V)) = [(("devices" : Str), x0), (("buffers" : Str), x1), (("size" : Str), x2), (("period" : Str), x3), (("jobs" : Str), x4)] := by rw [putF_miss (by decide +kernel), putF_miss (by decide +kernel), putF_miss (by decide +kernel), putF_miss (by decide +kernel)]; rfl
theorem F_Config_init : putF "jobs" x4 (putF "period" x3 (putF "size" x2 (putF "buffers" x1 (putF "devices" x0 [])))) = F_Config x0 x1 x2 x3 x4 := by unfold F_Config; rw [putF_nil, F_Config_i1, F_Config_i2, F_Config_i3, F_Config_i4]
end
def g_Settings_init_0 {α : Type} (us mv ws : List α) : List α := us ++ (((ws).drop 0).take 1 ++ (((mv).drop 0).take 1 ++ (((ws).drop 1).take 1 ++ (((mv).drop 1).take 1 ++ (((ws).drop 2).take 1 ++ (((mv).drop 2).take 1 ++ (((ws).drop 3).take 1 ++ (((mv).drop 3).take 1 ++ (((ws).drop 4).take 1 ++ (((mv).drop 4).take 1))))))))))
def ms_Settings_init_0 : List (Str × V) := [("sending", V.int 4), ("pace", V.int 1), ("wait", V.int 1), ("room", V.int 16), ("transmit", V.int 1)]
def gv_Settings_init_0 : List V → List V → List V := fun us ws => g_Settings_init_0 us ((ms_Settings_init_0).map (·.2)) ws
def g_Config_init_1 {α : Type} (us mv ws : List α) : List α := us ++ ws
def ms_Config_init_1 : List (Str × V) := []
def gv_Config_init_1 : List V → List V → List V := fun us ws => g_Config_init_1 us ((ms_Config_init_1).map (·.2)) ws
def kd_Settings_init : List (Str × V) := [("queue", V.int 4), ("sending", V.int 4), ("slots", V.int 2), ("pace", V.int 1), ("count", V.int 1), ("wait", V.int 1), ("idle", V.int 4), ("room", V.int 16), ("receive", V.int 1), ("transmit", V.int 1)]
def kd_Config_init : List (Str × V) := [("buffers", V.int 8), ("size", V.int 4), ("period", V.int 16), ("jobs", V.int 4)]
def sp_law0 (K : PySem.W.Frag) : Sp := A1 fun v H Q _ => ∃ (b : Addr) (ns : List Int), v = .ref b ∧ SqL K H b (ns.map V.int) ∧ ns.length ≤ 63 ∧ ∀ H1, Q (.bl true) H1
abbrev sp_law (K : PySem.W.Frag) (a : Ads) : Sp := sp_law0 K
/-- what the top has written -/
structure Txt (P : Program) (w : World) (K : PySem.W.Frag) (mg : Str → Option Value) (base : Heap) (a : Ads) : Prop where
  g_abs : mg "abs" = none
  g_all : mg "all" = none
  g_bool : mg "bool" = none
  g_enumerate : mg "enumerate" = none
  g_int : mg "int" = none
  g_isinstance : mg "isinstance" = none
  g_len : mg "len" = none
  g_list : mg "list" = none
  g_max : mg "max" = none
  g_min : mg "min" = none
  g_range : mg "range" = none
  g_sum : mg "sum" = none
  F_job_share : Fun K "_job_share" "_job_share" s_job_share a.f_job_share a.fd_job_share
  b_job_share : Binds K a.fd_job_share ["config"] []
  g_job_share : mg "_job_share" = some (.ref a.f_job_share)
  F_device_admits : Fun K "_device_admits" "_device_admits" s_device_admits a.f_device_admits a.fd_device_admits
  b_device_admits : Binds K a.fd_device_admits ["settings", "rate", "share"] []
  g_device_admits : mg "_device_admits" = some (.ref a.f_device_admits)
  F_admits : Fun K "admits" "admits" s_admits a.f_admits a.fd_admits
  b_admits : Binds K a.fd_admits ["config", "rates"] []
  g_admits : mg "admits" = some (.ref a.f_admits)
  F_warm_up : Fun K "warm_up" "warm_up" s_warm_up a.f_warm_up a.fd_warm_up
  b_warm_up : Binds K a.fd_warm_up ["config"] []
  g_warm_up : mg "warm_up" = some (.ref a.f_warm_up)
  F_latency : Fun K "latency" "latency" s_latency a.f_latency a.fd_latency
  b_latency : Binds K a.fd_latency ["config", "at"] []
  g_latency : mg "latency" = some (.ref a.f_latency)
  F_require : Fun K "_require" "_require" s_require a.f_require a.fd_require
  b_require : Binds K a.fd_require ["setting", "in_range"] []
  g_require : mg "_require" = some (.ref a.f_require)
  F_budget_sum : Fun K "_budget_sum" "_budget_sum" s_budget_sum a.f_budget_sum a.fd_budget_sum
  b_budget_sum : Binds K a.fd_budget_sum ["devices", "jobs"] []
  g_budget_sum : mg "_budget_sum" = some (.ref a.f_budget_sum)
  F_Settings_init : FunD K "__init__" "Settings.__init__" (defArgs s_Settings_init) (defBody s_Settings_init) (defScope s_Settings_init) [] kd_Settings_init a.f_Settings_init a.fd_Settings_init
  kb_Settings_init_0 : ∃ gg, KBn K a.fd_Settings_init ["self", "queue", "sending", "slots", "pace", "count", "wait", "idle", "room", "receive", "transmit"] 1 ["queue", "slots", "count", "idle", "receive"] gg gv_Settings_init_0
  mk_Settings : Mk K a.C_Settings a.f_Settings_init
  F_Config_init : FunD K "__init__" "Config.__init__" (defArgs s_Config_init) (defBody s_Config_init) (defScope s_Config_init) [] kd_Config_init a.f_Config_init a.fd_Config_init
  kb_Config_init_1 : ∃ gg, KBn K a.fd_Config_init ["self", "devices", "buffers", "size", "period", "jobs"] 1 ["devices", "buffers", "size", "period", "jobs"] gg gv_Config_init_1
  mk_Config : Mk K a.C_Config a.f_Config_init
  F_law_state : Fun K "_law_state" "_law_state" s_law_state a.f_law_state a.fd_law_state
  b_law_state : Binds K a.fd_law_state ["script"] []
  g_law_state : mg "_law_state" = some (.ref a.f_law_state)
  F_law_draw : Fun K "_law_draw" "_law_draw" s_law_draw a.f_law_draw a.fd_law_draw
  b_law_draw : Binds K a.fd_law_draw ["state", "many"] []
  g_law_draw : mg "_law_draw" = some (.ref a.f_law_draw)
  F_law_near : Fun K "_law_near" "_law_near" s_law_near a.f_law_near a.fd_law_near
  b_law_near : Binds K a.fd_law_near ["state", "n", "least", "greatest"] []
  g_law_near : mg "_law_near" = some (.ref a.f_law_near)
  F_law_settings : Fun K "_law_settings" "_law_settings" s_law_settings a.f_law_settings a.fd_law_settings
  b_law_settings : Binds K a.fd_law_settings ["state", "rate"] []
  g_law_settings : mg "_law_settings" = some (.ref a.f_law_settings)
  F_law_device_due : Fun K "_law_device_due" "_law_device_due" s_law_device_due a.f_law_device_due a.fd_law_device_due
  b_law_device_due : Binds K a.fd_law_device_due ["config", "one", "rate", "share"] []
  g_law_device_due : mg "_law_device_due" = some (.ref a.f_law_device_due)
  F_law : Fun K "law" "law" s_law a.f_law a.fd_law
  b_law : Binds K a.fd_law ["script"] []
  g_law : mg "law" = some (.ref a.f_law)
  g_TickringsError : mg "TickringsError" = some (.ref a.C_TickringsError)
  g_ConfigError : mg "ConfigError" = some (.ref a.C_ConfigError)
  g_Settings : mg "Settings" = some (.ref a.C_Settings)
  g_Config : mg "Config" = some (.ref a.C_Config)
  cl_Settings : Cls K a.C_Settings
  n_Settings_queue : NoAttr K a.C_Settings "queue"
  n_Settings_sending : NoAttr K a.C_Settings "sending"
  n_Settings_slots : NoAttr K a.C_Settings "slots"
  n_Settings_pace : NoAttr K a.C_Settings "pace"
  n_Settings_count_limit : NoAttr K a.C_Settings "count_limit"
  n_Settings_wait : NoAttr K a.C_Settings "wait"
  n_Settings_idle : NoAttr K a.C_Settings "idle"
  n_Settings_room : NoAttr K a.C_Settings "room"
  n_Settings_receive : NoAttr K a.C_Settings "receive"
  n_Settings_transmit : NoAttr K a.C_Settings "transmit"
  cl_Config : Cls K a.C_Config
  n_Config_devices : NoAttr K a.C_Config "devices"
  n_Config_buffers : NoAttr K a.C_Config "buffers"
  n_Config_size : NoAttr K a.C_Config "size"
  n_Config_period : NoAttr K a.C_Config "period"
  n_Config_jobs : NoAttr K a.C_Config "jobs"
  e_ConfigError : EK P w K mg base "ConfigError" "setting" a.C_ConfigError a.f_ConfigError_init a.fd_ConfigError_init ["self", "setting"]
local macro_rules | `(tactic| walk_at "ne") => `(tactic| (first | with_reducible assumption | with_reducible exact Ne.symm (by with_reducible assumption)))
local macro_rules | `(tactic| walk_at "nin") => `(tactic| (simp only [List.mem_cons, List.not_mem_nil, or_false, not_or, not_false_eq_true]; (repeat' refine And.intro ?_ ?_); (all_goals walk_at "ne")))
local macro_rules | `(tactic| walk_at "hl") => `(tactic| (first | (with_reducible assumption) | exact upd_same | ((with_reducible refine' (upd_ne ?hne).trans ?hgo); (case hne => walk_at "ne"); (case hgo => walk_at "hl"))))
local macro_rules | `(tactic| walk_at "sq") => `(tactic| (first | (with_reducible assumption) | exact Or.inl (Or.inl (by walk_at "hl"))))
local macro_rules | `(tactic| walk_at "ar") => `(tactic| (first | omega | exact ⟨by omega, by omega⟩ | exact Or.inl ⟨by omega, by omega⟩ | exact Or.inr ⟨by omega, by omega⟩ | (show (0 : Int) < _; omega) | (show (0 : Int) < _ ∧ _ < (1073741824 : Int); omega)))
local macro_rules | `(tactic| walk_at "cls") => `(tactic| (first | exact Txt.cl_Settings (by assumption) | exact Txt.cl_Config (by assumption)))
local macro_rules | `(tactic| walk_at "noa") => `(tactic| (first | exact Txt.n_Settings_queue (by assumption) | exact Txt.n_Settings_sending (by assumption) | exact Txt.n_Settings_slots (by assumption) | exact Txt.n_Settings_pace (by assumption) | exact Txt.n_Settings_count_limit (by assumption) | exact Txt.n_Settings_wait (by assumption) | exact Txt.n_Settings_idle (by assumption) | exact Txt.n_Settings_room (by assumption) | exact Txt.n_Settings_receive (by assumption) | exact Txt.n_Settings_transmit (by assumption) | exact Txt.n_Config_devices (by assumption) | exact Txt.n_Config_buffers (by assumption) | exact Txt.n_Config_size (by assumption) | exact Txt.n_Config_period (by assumption) | exact Txt.n_Config_jobs (by assumption)))
local macro_rules | `(tactic| walk_at "lkp") => `(tactic| (first | (with_reducible exact F_Settings_queue_l) | (with_reducible exact F_Settings_sending_l) | (with_reducible exact F_Settings_slots_l) | (with_reducible exact F_Settings_pace_l) | (with_reducible exact F_Settings_count_limit_l) | (with_reducible exact F_Settings_wait_l) | (with_reducible exact F_Settings_idle_l) | (with_reducible exact F_Settings_room_l) | (with_reducible exact F_Settings_receive_l) | (with_reducible exact F_Settings_transmit_l) | (with_reducible exact F_Config_devices_l) | (with_reducible exact F_Config_buffers_l) | (with_reducible exact F_Config_size_l) | (with_reducible exact F_Config_period_l) | (with_reducible exact F_Config_jobs_l)))
local macro_rules | `(tactic| walk_at "ptf") => `(tactic| (first | (with_reducible exact F_Settings_queue_p) | (with_reducible exact F_Settings_sending_p) | (with_reducible exact F_Settings_slots_p) | (with_reducible exact F_Settings_pace_p) | (with_reducible exact F_Settings_count_limit_p) | (with_reducible exact F_Settings_wait_p) | (with_reducible exact F_Settings_idle_p) | (with_reducible exact F_Settings_room_p) | (with_reducible exact F_Settings_receive_p) | (with_reducible exact F_Settings_transmit_p) | (with_reducible exact F_Config_devices_p) | (with_reducible exact F_Config_buffers_p) | (with_reducible exact F_Config_size_p) | (with_reducible exact F_Config_period_p) | (with_reducible exact F_Config_jobs_p) | exact rfl))
local macro_rules | `(tactic| walk_at "lnF") => `(tactic| (first | (with_reducible exact F_Settings_len) | (with_reducible exact F_Config_len) | (refine PL.lt (n := 60) ?_ (by decide); (repeat refine PL.put ?_); exact PL.nil) | decide))
local macro_rules | `(tactic| walk_at "nol") => `(tactic| (first | fail))
local macro_rules | `(tactic| walk_at "r1") => `(tactic| (first
  | with_reducible apply l_cons | ((with_reducible apply e_var); (case h => exact rfl)) | with_reducible apply l_nil | with_reducible apply s_seq | with_reducible apply e_c | with_reducible apply g_name
  | with_reducible apply s_asg | with_reducible apply e_call | with_reducible apply k_t | with_reducible apply e_op | with_reducible apply e_cb | with_reducible apply t_test
  | with_reducible apply s_if | with_reducible apply t_or | with_reducible apply t_and | with_reducible apply t_B | with_reducible apply s_next | with_reducible apply p_some
  | with_reducible apply p_no | with_reducible apply e_sl | with_reducible apply k_i | with_reducible apply e_lst | with_reducible apply t_not | with_reducible apply o_chC | ((with_reducible refine' o_chV ?hv ?_); (case hv => exact rfl)) | with_reducible apply o_I0
  | ((with_reducible refine' o_I ?hc ?_); (case hc => walk_at "ar")) | with_reducible apply e_meth | ((with_reducible refine' k_meth ?h1 ?h2 ?_); (case h1 => walk_at "hl"); (case h2 => walk_at "nol")) | with_reducible apply e_fld | ((with_reducible refine' k_fld ?h1 ?h2 ?h3 ?h4 ?_); (case h1 => walk_at "hl"); (case h2 => walk_at "cls"); (case h3 => walk_at "noa"); (case h4 => walk_at "lkp")) | with_reducible apply e_not
  | with_reducible apply s_ret | ((with_reducible refine' k_ty ?h1 ?_); (case h1 => walk_at "sq")) | with_reducible apply s_drop | with_reducible apply s_retN | with_reducible apply s_cont | with_reducible apply s_break
  | with_reducible apply e_un | with_reducible apply o_U | ((with_reducible refine' o_eq ?hs ?_); (case hs => exact rfl)) | ((with_reducible refine' o_ne ?hs ?_); (case hs => exact rfl))
  | ((with_reducible refine' o_ixL ?h1 ?h2 ?_); (case h1 => walk_at "sq"); (case h2 => first | exact rfl | exact atI_zero _ _)) | with_reducible apply s_fld | with_reducible apply e_make | ((with_reducible refine' k_set ?h1 ?h2 ?h3 ?h4 ?h5 ?_); (case h1 => walk_at "hl"); (case h2 => walk_at "cls"); (case h3 => walk_at "noa"); (case h4 => walk_at "ptf"); (case h5 => walk_at "lnF")) | with_reducible apply e_tup | with_reducible apply e_bm
  | with_reducible apply e_bm0 | with_reducible apply e_if | with_reducible apply e_chain | with_reducible apply s_raise | with_reducible apply g_sub | ((with_reducible refine' c_ln ?h1 ?_); (case h1 => walk_at "sq"))
  | ((with_reducible refine' c_pop0 ?h1 ?h2 ?_); (case h1 => walk_at "hl"); (case h2 => omega)) | with_reducible apply c_isBool | with_reducible apply c_isInt | with_reducible apply c_isBoolN | with_reducible apply c_isTupI | with_reducible apply c_isNonB
  | with_reducible apply c_isNonT | ((with_reducible refine' c_isList ?h1 ?_); (case h1 => walk_at "hl")) | ((with_reducible refine' c_isTup ?h1 ?_); (case h1 => walk_at "hl")) | ((with_reducible refine' c_isTupB ?h1 ?_); (case h1 => walk_at "hl")) | with_reducible apply o_isB | with_reducible apply o_notB
  | with_reducible apply e_and | with_reducible apply e_or | with_reducible apply k_bl | with_reducible apply e_xf | with_reducible apply s_augS | ((with_reducible refine' s_augV ?hv ?_); (case hv => exact rfl))
  | with_reducible apply ip_I | with_reducible apply e_lcE | ((with_reducible refine' k_xf ?h1 ?h2 ?_); (case h1 => walk_at "hl"); (case h2 => exact look_hit _ _ _)) | ((with_reducible refine' o_slL ?h1 ?_); (case h1 => walk_at "sq")) | ((with_reducible refine' k_dget ?h1 ?h2 ?_); (case h1 => walk_at "hl"); (case h2 => with_reducible assumption)) | with_reducible apply e_dget
  | with_reducible apply s_dput | with_reducible apply e_makeK | with_reducible apply g_cons | with_reducible apply g_nil | with_reducible apply c_ab | with_reducible apply c_in
  | with_reducible apply c_mx | with_reducible apply c_mn | with_reducible apply a1 | with_reducible apply a2 | with_reducible apply a3 | with_reducible apply a4
  | with_reducible apply a5 | with_reducible apply a6 | with_reducible apply a0 | with_reducible apply t_tru | with_reducible apply t_yes | ((with_reducible refine' k_truL ?h1 ?_); (case h1 => walk_at "sq")) | with_reducible refine d_nx ?_ | with_reducible refine d_rt ?_ | with_reducible refine d_bk ?_
  | with_reducible refine d_ct ?_))
local macro_rules | `(tactic| walk_at "r") => `(tactic| (repeat walk_at "r1"))
local macro_rules | `(tactic| walk_at "sel") => `(tactic| (first | with_reducible exact Sl.Sel.here | ((with_reducible refine' Sl.Sel.there ?t); (case t => walk_at "sel"))))
local macro_rules | `(tactic| walk_at "selt") => `(tactic| (first | with_reducible exact Sl.Sels.all _ | ((with_reducible refine' Sl.Sels.skip ?t); (case t => walk_at "selt"))))
local macro_rules | `(tactic| walk_at "sels") => `(tactic| (first | with_reducible exact Sl.Sels.nil | ((with_reducible refine' Sl.Sels.cons ?a ?b); (case a => walk_at "sel"); (case b => walk_at "sels")) | walk_at "selt"))
local macro_rules | `(tactic| walk_at "selm") => `(tactic| ((try (simp only [])); (try simp only [List.map_append, List.map_cons, List.map_nil]); walk_at "sels"))
local macro_rules | `(tactic| walk_at "hg") => do
  let h := Lean.mkIdent `hs
  `(tactic| (first | (with_reducible assumption) | ((with_reducible refine' Sl.St.get $h ?s); (case s => walk_at "sel")) | ((with_reducible refine' Sl.St.geti $h ?s); (case s => walk_at "sel"))))
local macro_rules | `(tactic| walk_at "sg") => do
  let h := Lean.mkIdent `hs
  `(tactic| (first | (with_reducible assumption) | exact Or.inl (Or.inl (by walk_at "hg")) | (refine' Sl.sqA.U $h ?s; (case s => walk_at "sel"))))
local macro_rules | `(tactic| walk_at "le5") => `(tactic| (first | omega | (simp only [List.length_cons, List.length_nil, List.length_append, List.length_map]; omega) | (show _ ≤ _; decide) | (show _ < _; decide)))
local macro_rules | `(tactic| walk_at "km") => `(tactic| fail)
local macro_rules | `(tactic| walk_at "kf") => `(tactic| fail)
local macro_rules | `(tactic| walk_at "x1") => do
  let h := Lean.mkIdent `hs
  `(tactic| (first
  | with_reducible apply l_cons | ((with_reducible apply e_var); (case h => exact rfl)) | with_reducible apply l_nil | with_reducible apply s_seq | with_reducible apply e_c | with_reducible apply g_name
  | with_reducible apply s_asg | with_reducible apply e_call | with_reducible apply k_t | with_reducible apply e_op | with_reducible apply e_cb | with_reducible apply t_test
  | with_reducible apply s_if | with_reducible apply t_or | with_reducible apply t_and | with_reducible apply t_B | with_reducible apply s_next | with_reducible apply p_some
  | with_reducible apply p_no | with_reducible apply e_sl | with_reducible apply k_i | with_reducible apply Sl.e_lstS | with_reducible apply t_not | with_reducible apply o_chC | ((with_reducible refine' o_chV ?hv ?_); (case hv => exact rfl)) | with_reducible apply o_I0
  | ((with_reducible refine' o_I ?hc ?_); (case hc => walk_at "ar")) | with_reducible apply e_meth | ((with_reducible refine' k_meth ?h1 ?h2 ?_); (case h1 => walk_at "hg"); (case h2 => walk_at "nol")) | walk_at "km" | with_reducible apply e_fld
  | ((with_reducible refine' k_fld ?h1 ?h2 ?h3 ?h4 ?_); (case h1 => walk_at "hg"); (case h2 => walk_at "cls"); (case h3 => walk_at "noa"); (case h4 => walk_at "lkp")) | walk_at "kf" | with_reducible apply e_not
  | with_reducible apply s_ret | ((with_reducible refine' k_ty ?h1 ?_); (case h1 => walk_at "sg")) | with_reducible apply s_drop | with_reducible apply s_retN | with_reducible apply s_cont | with_reducible apply s_break
  | with_reducible apply e_un | with_reducible apply o_U | ((with_reducible refine' o_eq ?hs ?_); (case hs => exact rfl)) | ((with_reducible refine' o_ne ?hs ?_); (case hs => exact rfl))
  | ((with_reducible refine' o_ixL ?h1 ?h2 ?_); (case h1 => walk_at "sg"); (case h2 => first | exact rfl | exact atI_zero _ _)) | ((with_reducible refine' o_ixT ?h1 ?h2 ?_); (case h1 => walk_at "sg"); (case h2 => first | exact rfl | exact atI_zero _ _)) | with_reducible apply s_fld | with_reducible apply Sl.e_makeS
  | ((with_reducible refine' Sl.k_setS $h ?h1 ?h2 ?h3 ?h4 ?h5 ?_); (case h1 => walk_at "sel"); (case h2 => walk_at "cls"); (case h3 => walk_at "noa"); (case h4 => walk_at "ptf"); (case h5 => walk_at "lnF"); (clear $h; intro _ $h)) | with_reducible apply Sl.e_tupS | with_reducible apply e_bm
  | with_reducible apply e_bm0 | with_reducible apply e_if | with_reducible apply e_chain | with_reducible apply s_raise | with_reducible apply g_sub | ((with_reducible refine' c_ln ?h1 ?_); (case h1 => walk_at "sg")) | ((with_reducible refine' c_lnT ?h1 ?_); (case h1 => walk_at "sg"))
  | ((with_reducible refine' Sl.k_newL $h ?h1 ?_); (case h1 => walk_at "le5"); (clear $h; intro _ _ $h)) | ((with_reducible refine' Sl.k_newT $h ?h1 ?_); (case h1 => walk_at "le5"); (clear $h; intro _ _ $h)) | ((with_reducible refine' Sl.k_make $h ?_); (clear $h; intro _ _ _ $h))
  | ((with_reducible refine' Sl.c_appS $h ?h1 ?h2 ?_); (case h1 => walk_at "sel"); (case h2 => walk_at "le5"); (clear $h; intro _ $h)) | ((with_reducible refine' Sl.c_pop0S $h ?h1 ?h2 ?_); (case h1 => walk_at "sel"); (case h2 => walk_at "le5"); (clear $h; intro _ $h))
  | ((with_reducible refine' Sl.c_lsS $h ?h1 ?_); (case h1 => walk_at "sg"); (clear $h; intro _ _ $h)) | ((with_reducible refine' Sl.o_slLS $h ?h1 ?_); (case h1 => walk_at "sg"); (clear $h; intro _ _ $h)) | ((with_reducible refine' Sl.c_clrS $h ?h1 ?_); (case h1 => walk_at "sel"); (clear $h; intro _ $h))
  | ((with_reducible refine' Sl.o_catS $h ?h1 ?h2 ?h3 ?_); (case h1 => walk_at "hg"); (case h2 => walk_at "hg"); (case h3 => walk_at "le5"); (clear $h; intro _ _ $h)) | ((with_reducible refine' Sl.c_extS $h ?h1 ?h2 ?h3 ?_); (case h1 => walk_at "sel"); (case h2 => walk_at "hg"); (case h3 => walk_at "le5"); (clear $h; intro _ $h))
  | ((with_reducible refine' Sl.k_raise $h ?h1 ?_); (case h1 => exact okV_int ⟨by omega, by omega⟩); (clear $h; intro _ _ $h))
  | with_reducible apply c_isBool | with_reducible apply c_isInt | with_reducible apply c_isBoolN | with_reducible apply c_isTupI | with_reducible apply c_isNonB
  | with_reducible apply c_isNonT | ((with_reducible refine' c_isList ?h1 ?_); (case h1 => walk_at "hg")) | ((with_reducible refine' c_isTup ?h1 ?_); (case h1 => walk_at "hg")) | ((with_reducible refine' c_isTupB ?h1 ?_); (case h1 => walk_at "hg")) | with_reducible apply o_isB | with_reducible apply o_notB
  | with_reducible apply e_and | with_reducible apply e_or | with_reducible apply k_bl | with_reducible apply e_xf | with_reducible apply s_augS | ((with_reducible refine' s_augV ?hv ?_); (case hv => exact rfl)) | with_reducible apply Sl.s_aug
  | with_reducible apply ip_I | with_reducible apply e_lcE | with_reducible apply e_lcL | with_reducible apply f_lst | with_reducible apply e_lcF | with_reducible apply f_rng1 | ((with_reducible refine' k_xf ?h1 ?h2 ?_); (case h1 => walk_at "hg"); (case h2 => exact look_hit _ _ _)) | ((with_reducible refine' k_dget ?h1 ?h2 ?_); (case h1 => walk_at "hg"); (case h2 => with_reducible assumption)) | with_reducible apply e_dget
  | with_reducible apply s_dput | with_reducible apply Sl.e_makeKS | with_reducible apply g_cons | with_reducible apply g_nil | ((with_reducible refine' g_tup ?h1 ?h2 ?_); (case h1 => walk_at "sg"); (case h2 => exact rfl)) | with_reducible apply c_ab | with_reducible apply c_in
  | with_reducible apply c_mx | with_reducible apply c_mn | with_reducible apply a1 | with_reducible apply a2 | with_reducible apply a3 | with_reducible apply a4
  | with_reducible apply a5 | with_reducible apply a6 | with_reducible apply a0 | with_reducible apply t_tru | with_reducible apply t_yes | ((with_reducible refine' k_truL ?h1 ?_); (case h1 => walk_at "sg")) | with_reducible refine d_nx ?_ | with_reducible refine d_rt ?_ | with_reducible refine d_bk ?_
  | with_reducible refine d_ct ?_))
local macro_rules | `(tactic| walk_at "x") => `(tactic| (repeat walk_at "x1"))
section
variable {P : Program} {w : World} {K : PySem.W.Frag} {mg : Str → Option Value} {base : Heap} {a : Ads}
/-! ### the script's numbers, drawn -/
def StAt (H : Hp) (st sl : Addr) : Prop := ∃ (ns : List Int) (m : Int), H st = some (.lst [.ref sl, .int m]) ∧ H sl = some (.lst (ns.map V.int)) ∧ ns.length ≤ 63 ∧ (∀ z ∈ ns, 0 ≤ z) ∧ 0 ≤ m ∧ m ≤ 2147483647
theorem StAt.ne {H : Hp} {st sl : Addr} (s : StAt H st sl) : st ≠ sl := by
  obtain ⟨ns, m, h1, h2, _⟩ := s
  refine ne_of h1 h2 fun z => ?_
  have z2 := HO.lst.inj z
  cases ns with
  | nil => cases z2
  | cons y ys => cases (List.cons.inj z2).1
theorem StAt.fp {H H1 : Hp} {st sl : Addr} {fp : List Addr} (s : StAt H st sl) (f : Fp fp H H1) (n1 : st ∉ fp) (n2 : sl ∉ fp) : StAt H1 st sl := by
  obtain ⟨ns, m, h1, h2, r⟩ := s
  exact ⟨ns, m, f _ _ h1 n1, f _ _ h2 n2, r⟩
theorem StAt.inn {H : Hp} {st sl : Addr} (s : StAt H st sl) : Inn H [st, sl] := by
  obtain ⟨ns, m, h1, h2, r⟩ := s
  exact .cons h1 (.cons h2 .nil)
theorem StAt.nd {H : Hp} {st sl : Addr} (s : StAt H st sl) : [st, sl].Nodup := by simp [s.ne]
/-- [draw for k in range(n)] -/
theorem k_lcD {σ : L2.St} {H : Hp} {Q : VK} {g : TG} {te : TE} {vs : List Nat} {n : Int} {st sl : Addr} (P : V → Prop) (h1 : 0 ≤ n) (h2 : n < 100000) (S : StAt H st sl)
    (hs : ∀ (i : Nat) (H' : Hp) (R : VK), (i : Int) < n → StAt H' st sl → Fp [st, sl] H H' → (∀ y H4, P y → StAt H4 st sl → Fp [st, sl] H' H4 → R y H4) →
      g (.int (i : Nat)) (wipe σ vs) H' fun σ2 H2 => wipe σ2 vs = wipe σ vs ∧ te σ2 H2 R)
    (q : ∀ E acc H', H E = none → acc.length = n.toNat → H' E = some (.lst acc) → (∀ y ∈ acc, P y) → StAt H' st sl → Fp [st, sl] H H' → st ≠ E → sl ≠ E → Q (.ref E) H') : kLcR g te vs σ Q (.int n) H := by
  obtain ⟨_, _, z1, z2, _⟩ := id S
  refine k_lcS (fun E i acc H' => (∀ y ∈ acc, P y) ∧ StAt H' st sl ∧ Fp [st, sl] H H') h1 h2 (fun E hE => ⟨by simp, S.fp (Fp.new (fp := []) hE) (by simp) (by simp), Fp.new hE⟩) (fun E i acc H' R hE hi hl e ⟨j1, j2, j3⟩ k => hs i H' R hi j2 j3 fun y H4 py S4 f4 => ?_) fun E acc H' hE hl e ⟨j1, j2, j3⟩ => q E acc H' hE hl e j1 j2 j3 (ne_of_none z1 hE) (ne_of_none z2 hE)
  have n1 := ne_of_none z1 hE
  have n2 := ne_of_none z2 hE
  refine k y H4 (f4 _ _ e (by simp [n1.symm, n2.symm])) ⟨fun x hx => ?_, S4.fp (Fp.at_ (fp := [E]) (by simp)) (by simp [n1]) (by simp [n2]), Fp.drop (fp := [E, st, sl]) (((j3.trans f4).mono (fun z hz => List.mem_cons_of_mem _ hz)).trans (Fp.at_ (by simp))) fun z hz => ?_⟩
  · rcases List.mem_append.mp hx with hx | hx
    · exact j1 x hx
    · rw [List.mem_singleton.mp hx]; exact py
  · rcases List.mem_cons.mp hz with rfl | hz
    · exact .inr hE
    · exact .inl hz
/-- [e for k in range(n) if draw] -/
theorem k_lcDF {σ : L2.St} {H : Hp} {Q : VK} {g : TG} {tt : TT} {te : TE} {vs : List Nat} {n : Int} {st sl : Addr} (P : V → Prop) (h1 : 0 ≤ n) (h2 : n < 100000) (S : StAt H st sl)
    (hs : ∀ (i : Nat) (H' : Hp) (R : VK) (N : Hp → Prop), (i : Int) < n → StAt H' st sl → Fp [st, sl] H H' → (∀ y H4, P y → StAt H4 st sl → Fp [st, sl] H' H4 → R y H4) → (∀ H4, StAt H4 st sl → Fp [st, sl] H' H4 → N H4) →
      g (.int (i : Nat)) (wipe σ vs) H' fun σ2 H2 => wipe σ2 vs = wipe σ vs ∧ tt σ2 H2 fun k H3 => if k = true then te σ2 H3 R else N H3)
    (q : ∀ E acc H', H E = none → acc.length ≤ n.toNat → H' E = some (.lst acc) → (∀ y ∈ acc, P y) → StAt H' st sl → Fp [st, sl] H H' → st ≠ E → sl ≠ E → Q (.ref E) H') : kLcF g tt te vs σ Q (.int n) H := by
  obtain ⟨_, _, z1, z2, _⟩ := id S
  refine k_lcSF (fun E i acc H' => (∀ y ∈ acc, P y) ∧ StAt H' st sl ∧ Fp [st, sl] H H') h1 h2 (fun E hE => ⟨by simp, S.fp (Fp.new (fp := []) hE) (by simp) (by simp), Fp.new hE⟩) (fun E i acc H' R N hE hi hl e ⟨j1, j2, j3⟩ k kn => ?_) fun E acc H' hE hl e ⟨j1, j2, j3⟩ => q E acc H' hE hl e j1 j2 j3 (ne_of_none z1 hE) (ne_of_none z2 hE)
  have n1 := ne_of_none z1 hE
  have n2 := ne_of_none z2 hE
  refine hs i H' R N hi j2 j3 (fun y H4 py S4 f4 => ?_) fun H4 S4 f4 => kn H4 (f4 _ _ e (by simp [n1.symm, n2.symm])) ⟨j1, S4, j3.trans f4⟩
  refine k y H4 (f4 _ _ e (by simp [n1.symm, n2.symm])) ⟨fun x hx => ?_, S4.fp (Fp.at_ (fp := [E]) (by simp)) (by simp [n1]) (by simp [n2]), Fp.drop (fp := [E, st, sl]) (((j3.trans f4).mono (fun z hz => List.mem_cons_of_mem _ hz)).trans (Fp.at_ (by simp))) fun z hz => ?_⟩
  · rcases List.mem_append.mp hx with hx | hx
    · exact j1 x hx
    · rw [List.mem_singleton.mp hx]; exact py
  · rcases List.mem_cons.mp hz with rfl | hz
    · exact .inr hE
    · exact .inl hz
def sp_law_state (K : PySem.W.Frag) (a : Ads) : Sp := A1 fun v H Q _ => ∃ (b : Addr) (ns : List Int), v = .ref b ∧ SqL K H b (ns.map V.int) ∧ ns.length ≤ 63 ∧
  ∀ st sl H1, H st = none → H sl = none → StAt H1 st sl → Fp [] H H1 → Q (.ref st) H1
def sp_law_draw (K : PySem.W.Frag) (a : Ads) : Sp := A2 fun s m H Q _ => ∃ (st sl : Addr) (k : Int), s = .ref st ∧ m = .int k ∧ StAt H st sl ∧ 1 ≤ k ∧ k < 1073741824 ∧
  ∀ r H1, 0 ≤ r → r < k → StAt H1 st sl → Fp [st, sl] H H1 → Q (.int r) H1
theorem ok_law_state (T : Txt P w K mg base a) : FnOk P w K mg base (L2.CX P w) 1 a.f_law_state a.fd_law_state ["script"] (sp_law_state K a) := by
  refine T.F_law_state.okX sc_law_state (fun vs H Q E h => A1.len h) (fun cdv A outer s H vs Q E hr h => ?_)
  have hu := hu_of hr
  obtain ⟨v_script, rfl, h⟩ := h
  refine ⟨_, (pss_cons (ps_set (i := 1) sc_law_state.nd rfl (by first | exact Or.inl rfl | exact Or.inr rfl) pe_int)
    (pss_cons (ps_for (passes_of rfl) rfl (pi_list (pv 0)) (pg_name (i := 2) sc_law_state.nd rfl (by first | exact Or.inl rfl | exact Or.inr rfl)) (pss_one (ps_set (i := 1) sc_law_state.nd rfl (by first | exact Or.inl rfl | exact Or.inr rfl) (pe_op op_mod (pe_callTy call_in (by rfl) T.g_int (by decide +kernel) (pa_cons (pe_op op_add (pe_op op_mul (pv 1) pe_int) (pv 2)) pa_nil)) pe_int))))
    (pss_one (ps_ret (pe_lst (pa_cons (pe_lc (own := [("cell", 2)]) (g := (gName 2)) (tt := tYes) (te := (tCB rAb (tCons (tVar 2) tNil))) rfl sc_law_state.nd (pi_list (pv 0)) (blkOk_by (N := ["script", "seed", "cell"]) (sc := defScope s_law_state) (own := [("cell", 2)]) (by decide +kernel)) (fun _ _ _ _ _ => by exact (pg_name (i := 2) sc_law_state.nd rfl (by first | exact Or.inl rfl | exact Or.inr rfl))) (fun _ _ _ _ _ => by exact pts_nil) (fun _ _ _ _ _ => by exact (pe_callB call_ab (by rfl) T.g_abs (by decide +kernel) (pa_cons (pv 2) pa_nil)))) (pa_cons (pe_op op_add (pv 1) pe_int) pa_nil))))))), ?_⟩
  obtain ⟨b, ns, rfl, hS, hn, k⟩ := h
  walk_at "r"
  refine f_list (xs := ns.map V.int) (fun i σ H1 => ∃ (sd : Int) (u : Option V), σ = [some (.ref b), some (.int sd), u] ∧ H1 = H ∧ 0 ≤ sd ∧ sd < 1000003) rfl hS ⟨7, none, rfl, rfl, by omega, by omega⟩ (fun i σ H1 _ ⟨_, _, _, e, _⟩ => e ▸ hS) ?_ ?_
  · rintro i x σ H1 hx ⟨sd, u, rfl, rfl, h0, h1⟩
    obtain ⟨z, rfl⟩ : ∃ z, x = V.int z := by
      obtain ⟨z, _, e⟩ := List.mem_map.mp (List.mem_of_getElem? hx)
      exact ⟨z, e.symm⟩
    walk_at "r"
    exact ⟨_, _, rfl, rfl, Int.emod_nonneg _ (by omega), Int.emod_lt_of_pos _ (by omega)⟩
  · rintro σ H1 ⟨sd, u, rfl, rfl, h0, h1⟩
    walk_at "r"
    refine lc_pure (xs := ns.map V.int) (ys := (ns.map fun z => if z < 0 then -z else z).map V.int) rfl hS (by simp) (by simp <;> omega) (fun E i x y H2 R hE hx hy e hR => ?_) fun E hE => ?_
    · obtain ⟨z, hz, rfl⟩ : ∃ z, ns[i]? = some z ∧ V.int z = x := by rw [List.getElem?_map] at hx; simpa using hx
      have hy' : V.int (if z < 0 then -z else z) = y := by simpa [List.getElem?_map, hz] using hy
      refine ⟨rfl, ?_⟩
      walk_at "r"
      rw [hy']
      exact hR
    · walk_at "r"
      refine ⟨sz (by simp), fun st hst => ?_⟩
      have nE : st ≠ E := ne_of_none upd_same hst |>.symm
      have nst : H1 st = none := by rw [upd_ne nE] at hst; exact hst
      refine k st E _ nst hE ⟨_, _, upd_same, by rw [upd_ne nE.symm, upd_same], by simpa using hn, fun z hz => ?_, by omega, by omega⟩ ((Fp.new hE).trans (Fp.new hst))
      obtain ⟨y, _, rfl⟩ := List.mem_map.mp hz
      split <;> omega
theorem ok_law_draw (T : Txt P w K mg base a) : FnOk P w K mg base (L2.CX P w) 1 a.f_law_draw a.fd_law_draw ["state", "many"] (sp_law_draw K a) := by
  refine T.F_law_draw.okX sc_law_draw (fun vs H Q E h => A2.len h) (fun cdv A outer s H vs Q E hr h => ?_)
  have hu := hu_of hr
  obtain ⟨v_state, v_many, rfl, h⟩ := h
  refine ⟨_, (pss_cons (ps_set (i := 2) sc_law_draw.nd rfl (by first | exact Or.inl rfl | exact Or.inr rfl) (pe_ix ix_list (pv 0) pe_int (fun _ _ => rfl)))
    (pss_cons (ps_while (passes_of rfl) (PW.pt (pw_and (pt_cmpR op_gt (pe_callB call_ln (by rfl) T.g_len (by decide +kernel) (pa_cons (pv 2) pa_nil)) pe_int (nomark _)) (pw_and1 (pt_cmpR op_eq (pe_ix ix_list (pv 2) pe_int (fun _ _ => rfl)) pe_int (nomark _))))) (pss_one (ps_expr (pe_bm PySem.F.plainAttrs_list PySem.F.slot_list_pop PySem.F.type_list_pop mt_popAt (pv 2) (pa_cons pe_int pa_nil)))))
    (pss_cons (ps_if (pt_cmpR op_gt (pe_callB call_ln (by rfl) T.g_len (by decide +kernel) (pa_cons (pv 2) pa_nil)) pe_int (nomark _)) (pss_cons (ps_set (i := 3) sc_law_draw.nd rfl (by first | exact Or.inl rfl | exact Or.inr rfl) (pe_ix ix_list (pv 2) pe_int (fun _ _ => rfl)))
    (pss_cons (ps_asg (pe_op op_fdiv (pv 3) (pv 1)) (pg_sub (pv 2) pe_int set_list))
    (pss_one (ps_ret (pe_op op_mod (pe_callTy call_in (by rfl) T.g_int (by decide +kernel) (pa_cons (pv 3) pa_nil)) (pv 1)))))) pss_nil)
    (pss_cons (ps_set (i := 4) sc_law_draw.nd rfl (by first | exact Or.inl rfl | exact Or.inr rfl) (pe_op op_mod (pe_callTy call_in (by rfl) T.g_int (by decide +kernel) (pa_cons (pe_op op_add (pe_op op_mul (pe_ix ix_list (pv 0) pe_int (fun _ _ => rfl)) pe_int) pe_int) pa_nil)) pe_int))
    (pss_cons (ps_asg (pv 4) (pg_sub (pv 0) pe_int set_list))
    (pss_one (ps_ret (pe_op op_mod (pe_callTy call_in (by rfl) T.g_int (by decide +kernel) (pa_cons (pe_op op_fdiv (pv 4) pe_int) pa_nil)) (pv 1))))))))), ?_⟩
  obtain ⟨st, sl, kk, rfl, rfl, S, k1, k2, k⟩ := h
  obtain ⟨ns, m, hst, hsl, hn, hpos, m0, m1⟩ := id S
  have nss := S.ne
  walk_at "r"
  refine w_by (fun q σ H1 => ∃ (ns1 : List Int), σ = [some (.ref st), some (.int kk), some (.ref sl), none, none] ∧ q = ns1.length ∧ H1 st = some (.lst [.ref sl, .int m]) ∧ H1 sl = some (.lst (ns1.map V.int)) ∧ ns1.length ≤ 63 ∧ (∀ z ∈ ns1, 0 ≤ z) ∧ Fp [st, sl] H H1) ns.length ⟨ns, rfl, rfl, hst, hsl, hn, hpos, Fp.refl _ _⟩ ?_
  rintro q σ H1 ⟨ns1, rfl, rfl, g1, g2, gn, gp, gf⟩
  walk_at "r"
  rw [List.length_map]
  cases ns1 with
  | nil =>
    refine if_dF (by simp) ?_
    refine iteF ?_
    walk_at "r"
    refine if_dF (by simp) ?_
    walk_at "r"
    refine c_setL (j := 1) g1 rfl (by simp) ?_
    walk_at "r"
    exact k _ _ (Int.emod_nonneg _ (by omega)) (Int.emod_lt_of_pos _ (by omega)) ⟨[], _, upd_same, by rw [upd_ne nss.symm]; exact g2, gn, gp, Int.emod_nonneg _ (by omega), by have := Int.emod_lt_of_pos (m * 48271 + 12345) (show (0 : Int) < 2147483647 by omega); omega⟩ (gf.trans (Fp.at_ (by simp)))
  | cons z zs =>
    rw [List.map_cons] at g2
    have gz : zs.length ≤ 62 := by simpa using gn
    have gl : ((zs.map V.int).length) < 100000 := by rw [List.length_map]; omega
    refine if_dT (by simp <;> omega) ?_
    walk_at "r"
    refine if_d (fun e => ?_) (fun e => ?_)
    · refine ⟨_, fun _ _ h => h, ?_⟩
      walk_at "r"
      exact ⟨zs.length, by simp, zs, rfl, rfl, by rw [upd_ne nss]; exact g1, upd_same, by omega, fun y hy => gp y (List.mem_cons_of_mem _ hy), gf.trans (Fp.at_ (by simp))⟩
    · walk_at "r"
      refine if_dT (by simp <;> omega) ?_
      walk_at "r"
      refine c_setL (j := 0) g2 rfl (by simp) ?_
      walk_at "r"
      have hz := gp z List.mem_cons_self
      exact k _ _ (Int.emod_nonneg _ (by omega)) (Int.emod_lt_of_pos _ (by omega)) ⟨z / kk :: zs, m, by rw [upd_ne nss]; exact g1, upd_same, gn, fun y hy => by
        rcases List.mem_cons.mp hy with rfl | hy
        · exact Int.ediv_nonneg hz (by omega)
        · exact gp y (List.mem_cons_of_mem _ hy), m0, m1⟩ (gf.trans (Fp.at_ (by simp)))
/-! ### the drawn numbers, as an assertion -/
def stP (st : Addr) (H : Hp) (A : List Addr) : Prop := ∃ sl, A = [st, sl] ∧ StAt H st sl
def StA (st : Addr) : As := fpa (stP st) (fun H H' A ⟨sl, e, ns, m, h1, h2, r⟩ g => ⟨sl, e, ns, m, by rw [g.1 st (by simp [e])]; exact h1, by rw [g.1 sl (by simp [e])]; exact h2, r⟩)
  (fun H A ⟨sl, e, ns, m, h1, h2, r⟩ a s => by rw [e] at s; simp only [List.mem_cons, List.not_mem_nil, or_false] at s; rcases s with rfl | rfl <;> simp [h1, h2])
theorem c_draw {L R : List As} {H : Hp} {Q : VK} {E : XK} {st : Addr} {k : Int} (hs : Sl.St L H) (s : Sel (StA st) L R) (k1 : 1 ≤ k) (k2 : k < 1073741824) (q : ∀ r H', 0 ≤ r → r < k → Sl.St (StA st :: R) H' → Q (.int r) H') : sp_law_draw K a [.ref st, .int k] H Q E := by
  obtain ⟨A, ⟨sl, rfl, S⟩, up⟩ := fpa_U (hs.sel s)
  refine a2 ⟨st, sl, k, rfl, rfl, S, k1, k2, fun r H1 r1 r2 S1 f => q r H1 r1 r2 (up _ _ _ [st, sl] [st, sl] H1 f (fun x m => ⟨.inl m, fun o e => ?_⟩) ⟨sl, rfl, S1⟩ fun x m => .inl m)⟩
  obtain ⟨ns, m', h1, h2, _⟩ := S
  simp only [List.mem_cons, List.not_mem_nil, or_false] at m
  rcases m with rfl | rfl
  · rw [h1] at e; cases e; exact id
  · rw [h2] at e; cases e; exact id
theorem c_state {L : List As} {H : Hp} {Q : VK} {E : XK} {b : Addr} {ns : List Int} (hs : Sl.St L H) (h : SqL K H b (ns.map V.int)) (hn : ns.length ≤ 63) (q : ∀ st H', Sl.St (StA st :: L) H' → Fp [] H H' → Q (.ref st) H') : sp_law_state K a [.ref b] H Q E :=
  a1 ⟨b, ns, rfl, h, hn, fun st sl H1 n1 n2 S f => q st H1 (fpa_new hs f ⟨sl, rfl, S⟩ fun x m => by
    simp only [List.mem_cons, List.not_mem_nil, or_false] at m
    rcases m with rfl | rfl <;> assumption) f⟩
/-! ### settings and configurations -/
def firstFail : List (Str × Bool) → Option Str
  | [] => none
  | (n, b) :: r => if b = true then firstFail r else some n
theorem ff_T {n : Str} {b : Bool} {r : List (Str × Bool)} (h : b = true) : firstFail ((n, b) :: r) = firstFail r := if_pos h
theorem ff_F {n : Str} {b : Bool} {r : List (Str × Bool)} (h : b = false) : firstFail ((n, b) :: r) = some n := by rw [h]; rfl
/-- what Settings asks, in its order -/
def chkS (q se sl pa co wa id ro re tr : Int) : List (Str × Bool) := [("queue", decide (1 ≤ q ∧ q ≤ 16)), ("sending", decide (1 ≤ se ∧ se ≤ 16)), ("slots", decide (1 ≤ sl ∧ sl ≤ 32)), ("pace", decide (1 ≤ pa ∧ pa ≤ 16)), ("count", decide (1 ≤ co ∧ co ≤ q)),
  ("wait", decide (1 ≤ wa ∧ wa ≤ 32)), ("idle", decide (1 ≤ id ∧ id ≤ 32)), ("room", decide (16 ≤ ro ∧ ro ≤ 64)), ("receive", decide (1 ≤ re)), ("transmit", decide (1 ≤ tr))]
def SetAt (C : Addr) (H : Hp) (p : Addr) (q se sl pa co wa id ro re tr : Int) : Prop := ∃ dx, H p = some (.ins C dx (F_Settings (.int q) (.int se) (.int sl) (.int pa) (.int co) (.int wa) (.int id) (.int ro) (.int re) (.int tr)))
theorem SetAt.fp {C p : Addr} {H H1 : Hp} {fp : List Addr} {q se sl pa co wa id ro re tr : Int} (s : SetAt C H p q se sl pa co wa id ro re tr) (f : Fp fp H H1) (n : p ∉ fp) : SetAt C H1 p q se sl pa co wa id ro re tr := by
  obtain ⟨dx, h⟩ := s
  exact ⟨dx, f _ _ h n⟩
def sp_require (K : PySem.W.Frag) (a : Ads) : Sp := A2 fun s r H Q E => ∃ (z : Str) (b : Bool), s = .str z ∧ r = .bl b ∧ z.length ≤ 1000 ∧
  (b = false → ∀ d, H d = none → E (.ref a.C_ConfigError) (some d) (upd H d (.xd [("setting", .str z)]))) ∧ (b = true → Q .non H)
def sp_Settings_init (K : PySem.W.Frag) (a : Ads) : Sp := A11 fun s xq xse xsl xpa xco xwa xid xro xre xtr H Q E => ∃ (p dx : Addr) (q se sl pa co wa id ro re tr : Int), s = .ref p ∧ xq = .int q ∧ xse = .int se ∧ xsl = .int sl ∧ xpa = .int pa ∧ xco = .int co ∧ xwa = .int wa ∧ xid = .int id ∧ xro = .int ro ∧ xre = .int re ∧ xtr = .int tr ∧
  H p = some (.ins a.C_Settings dx []) ∧
  (∀ z, firstFail (chkS q se sl pa co wa id ro re tr) = some z → ∀ d, H d = none → E (.ref a.C_ConfigError) (some d) (upd H d (.xd [("setting", .str z)]))) ∧
  (firstFail (chkS q se sl pa co wa id ro re tr) = none → ∀ H1, SetAt a.C_Settings H1 p q se sl pa co wa id ro re tr → Fp [p] H H1 → Q .non H1)
theorem ok_require (T : Txt P w K mg base a) : FnOk P w K mg base (L2.CX P w) 3 a.f_require a.fd_require ["setting", "in_range"] (sp_require K a) := by
  refine T.F_require.okX sc_require (fun vs H Q E h => A2.len h) (fun cdv A outer s H vs Q E hr h => ?_)
  have hu := hu_of hr
  obtain ⟨v_setting, v_in_range, rfl, h⟩ := h
  refine ⟨_, (pss_one (ps_if (pt_not (pt_val (pv 1))) (pss_one (ps_raiseE rfl T.e_ConfigError (hr.mono (by decide)) (takes_of rfl rfl rfl rfl) rfl (pv 0))) pss_nil)), ?_⟩
  obtain ⟨z, b, rfl, rfl, hz, kf, kt⟩ := h
  walk_at "r"
  cases b with
  | false =>
    refine iteT ?_
    walk_at "r"
    exact ⟨.inl ⟨z, rfl, hz⟩, fun d hd => kf rfl d hd⟩
  | true =>
    refine iteF ?_
    walk_at "r"
    exact kt rfl
theorem ok_Settings_init (T : Txt P w K mg base a) : FnOk P w K mg base (L2.CX P w) 4 a.f_Settings_init a.fd_Settings_init ["self", "queue", "sending", "slots", "pace", "count", "wait", "idle", "room", "receive", "transmit"] (sp_Settings_init K a) := by
  have G_require := ok_require T
  refine T.F_Settings_init.ok (CX := L2.CX P w) sc_Settings_init (fun vs H Q E h => A11.len h) (fun cdv A outer s H vs Q E hr h => ?_)
  have hu := hu_of hr
  obtain ⟨v_self, v_queue, v_sending, v_slots, v_pace, v_count, v_wait, v_idle, v_room, v_receive, v_transmit, rfl, h⟩ := h
  refine ⟨_, (pss_cons (ps_expr (pe_callS G_require (hr.mono (by decide)) rfl T.g_require T.F_require.kp T.b_require (fun σ => passAt (takes_of rfl rfl rfl rfl) σ) (pa_cons pe_str (pa_cons (pe_chain op_le op_le pe_int (pv 1) pe_int) pa_nil))))
    (pss_cons (ps_expr (pe_callS G_require (hr.mono (by decide)) rfl T.g_require T.F_require.kp T.b_require (fun σ => passAt (takes_of rfl rfl rfl rfl) σ) (pa_cons pe_str (pa_cons (pe_chain op_le op_le pe_int (pv 2) pe_int) pa_nil))))
    (pss_cons (ps_expr (pe_callS G_require (hr.mono (by decide)) rfl T.g_require T.F_require.kp T.b_require (fun σ => passAt (takes_of rfl rfl rfl rfl) σ) (pa_cons pe_str (pa_cons (pe_chain op_le op_le pe_int (pv 3) pe_int) pa_nil))))
    (pss_cons (ps_expr (pe_callS G_require (hr.mono (by decide)) rfl T.g_require T.F_require.kp T.b_require (fun σ => passAt (takes_of rfl rfl rfl rfl) σ) (pa_cons pe_str (pa_cons (pe_chain op_le op_le pe_int (pv 4) pe_int) pa_nil))))
    (pss_cons (ps_expr (pe_callS G_require (hr.mono (by decide)) rfl T.g_require T.F_require.kp T.b_require (fun σ => passAt (takes_of rfl rfl rfl rfl) σ) (pa_cons pe_str (pa_cons (pe_chain op_le op_le pe_int (pv 5) (pv 1)) pa_nil))))
    (pss_cons (ps_expr (pe_callS G_require (hr.mono (by decide)) rfl T.g_require T.F_require.kp T.b_require (fun σ => passAt (takes_of rfl rfl rfl rfl) σ) (pa_cons pe_str (pa_cons (pe_chain op_le op_le pe_int (pv 6) pe_int) pa_nil))))
    (pss_cons (ps_expr (pe_callS G_require (hr.mono (by decide)) rfl T.g_require T.F_require.kp T.b_require (fun σ => passAt (takes_of rfl rfl rfl rfl) σ) (pa_cons pe_str (pa_cons (pe_chain op_le op_le pe_int (pv 7) pe_int) pa_nil))))
    (pss_cons (ps_expr (pe_callS G_require (hr.mono (by decide)) rfl T.g_require T.F_require.kp T.b_require (fun σ => passAt (takes_of rfl rfl rfl rfl) σ) (pa_cons pe_str (pa_cons (pe_chain op_le op_le pe_int (pv 8) pe_int) pa_nil))))
    (pss_cons (ps_expr (pe_callS G_require (hr.mono (by decide)) rfl T.g_require T.F_require.kp T.b_require (fun σ => passAt (takes_of rfl rfl rfl rfl) σ) (pa_cons pe_str (pa_cons (pe_cmpR op_ge (pv 9) pe_int (nomark _)) pa_nil))))
    (pss_cons (ps_expr (pe_callS G_require (hr.mono (by decide)) rfl T.g_require T.F_require.kp T.b_require (fun σ => passAt (takes_of rfl rfl rfl rfl) σ) (pa_cons pe_str (pa_cons (pe_cmpR op_ge (pv 10) pe_int (nomark _)) pa_nil))))
    (pss_cons (ps_fld (pv 0) (pv 1) rfl)
    (pss_cons (ps_fld (pv 0) (pv 2) rfl)
    (pss_cons (ps_fld (pv 0) (pv 3) rfl)
    (pss_cons (ps_fld (pv 0) (pv 4) rfl)
    (pss_cons (ps_fld (pv 0) (pv 5) rfl)
    (pss_cons (ps_fld (pv 0) (pv 6) rfl)
    (pss_cons (ps_fld (pv 0) (pv 7) rfl)
    (pss_cons (ps_fld (pv 0) (pv 8) rfl)
    (pss_cons (ps_fld (pv 0) (pv 9) rfl)
    (pss_one (ps_fld (pv 0) (pv 10) rfl))))))))))))))))))))), ?_⟩
  obtain ⟨p, dx, q, se, sl, pa, co, wa, id, ro, re, tr, rfl, rfl, rfl, rfl, rfl, rfl, rfl, rfl, rfl, rfl, rfl, hp, kf, k⟩ := h
  unfold chkS at kf k
  walk_at "r"
  refine a2 ⟨_, _, rfl, rfl, by decide, fun e => ?_, fun e1 => ?_⟩
  · exact kf _ (ff_F e)
  rw [ff_T e1] at kf k
  walk_at "r"
  refine a2 ⟨_, _, rfl, rfl, by decide, fun e => ?_, fun e2 => ?_⟩
  · exact kf _ (ff_F e)
  rw [ff_T e2] at kf k
  walk_at "r"
  refine a2 ⟨_, _, rfl, rfl, by decide, fun e => ?_, fun e3 => ?_⟩
  · exact kf _ (ff_F e)
  rw [ff_T e3] at kf k
  walk_at "r"
  refine a2 ⟨_, _, rfl, rfl, by decide, fun e => ?_, fun e4 => ?_⟩
  · exact kf _ (ff_F e)
  rw [ff_T e4] at kf k
  walk_at "r"
  refine a2 ⟨_, _, rfl, rfl, by decide, fun e => ?_, fun e5 => ?_⟩
  · exact kf _ (ff_F e)
  rw [ff_T e5] at kf k
  walk_at "r"
  refine a2 ⟨_, _, rfl, rfl, by decide, fun e => ?_, fun e6 => ?_⟩
  · exact kf _ (ff_F e)
  rw [ff_T e6] at kf k
  walk_at "r"
  refine a2 ⟨_, _, rfl, rfl, by decide, fun e => ?_, fun e7 => ?_⟩
  · exact kf _ (ff_F e)
  rw [ff_T e7] at kf k
  walk_at "r"
  refine a2 ⟨_, _, rfl, rfl, by decide, fun e => ?_, fun e8 => ?_⟩
  · exact kf _ (ff_F e)
  rw [ff_T e8] at kf k
  walk_at "r"
  refine a2 ⟨_, _, rfl, rfl, by decide, fun e => ?_, fun e9 => ?_⟩
  · exact kf _ (ff_F e)
  rw [ff_T e9] at kf k
  walk_at "r"
  refine a2 ⟨_, _, rfl, rfl, by decide, fun e => ?_, fun e10 => ?_⟩
  · exact kf _ (ff_F e)
  rw [ff_T e10] at kf k
  walk_at "r"
  refine k rfl _ ?_ ?_
  · exact ⟨dx, by rw [upd_same, F_Settings_init]⟩
  exact (((((((((Fp.at_ (by simp)).trans (Fp.at_ (by simp))).trans (Fp.at_ (by simp))).trans (Fp.at_ (by simp))).trans (Fp.at_ (by simp))).trans (Fp.at_ (by simp))).trans (Fp.at_ (by simp))).trans (Fp.at_ (by simp))).trans (Fp.at_ (by simp))).trans (Fp.at_ (by simp))
/-! ### lists of settings -/
/-- the values of one Settings, as a list -/
structure SetV where
  (q se sl pa co wa id ro re tr : Int)
def SetV.chk (x : SetV) : List (Str × Bool) := chkS x.q x.se x.sl x.pa x.co x.wa x.id x.ro x.re x.tr
def SetIs (C : Addr) (H : Hp) (p : Addr) (x : SetV) : Prop := SetAt C H p x.q x.se x.sl x.pa x.co x.wa x.id x.ro x.re x.tr
def SetsAt (C : Addr) (H : Hp) (ps : List Addr) (xs : List SetV) : Prop := ps.length = xs.length ∧ ∀ (i : Nat) p x, ps[i]? = some p → xs[i]? = some x → SetIs C H p x
theorem SetsAt.fp {C : Addr} {H H1 : Hp} {fp : List Addr} {ps : List Addr} {xs : List SetV} (s : SetsAt C H ps xs) (f : Fp fp H H1) (n : ∀ p ∈ ps, p ∉ fp) : SetsAt C H1 ps xs :=
  ⟨s.1, fun i p x h1 h2 => (s.2 i p x h1 h2).fp f (n p (List.mem_of_getElem? h1))⟩
theorem SetsAt.snoc {C : Addr} {H : Hp} {ps : List Addr} {xs : List SetV} {p : Addr} {x : SetV} (s : SetsAt C H ps xs) (h : SetIs C H p x) : SetsAt C H (ps ++ [p]) (xs ++ [x]) := by
  refine ⟨by rw [List.length_append, List.length_append, s.1]; rfl, fun i p1 x1 h1 h2 => ?_⟩
  by_cases hi : i < ps.length
  · rw [List.getElem?_append_left hi] at h1
    rw [List.getElem?_append_left (by rw [← s.1]; exact hi)] at h2
    exact s.2 i p1 x1 h1 h2
  · rw [List.getElem?_append_right (by omega)] at h1
    rw [List.getElem?_append_right (by rw [← s.1]; omega)] at h2
    have e1 := (List.getElem?_eq_some_iff.mp h1).1
    rw [List.length_singleton] at e1
    have e2 : i - ps.length = 0 := by omega
    rw [e2] at h1
    rw [← s.1, e2] at h2
    have z1 : p = p1 := by simpa using h1
    have z2 : x = x1 := by simpa using h2
    subst z1 z2
    exact h
def sumB (xs : List SetV) : Int := (xs.map fun x => x.re + x.tr).sum
def sp_budget_sum (K : PySem.W.Frag) (a : Ads) : Sp := A2 fun d j H Q _ => ∃ (dl : Addr) (ps : List Addr) (xs : List SetV) (jb : Int), d = .ref dl ∧ j = .int jb ∧ H dl = some (.lst (ps.map V.ref)) ∧ SetsAt a.C_Settings H ps xs ∧ ps.length ≤ 1000 ∧
  ∀ H1, Fp [] H H1 → Q (.int (sumB xs + jb)) H1
/-- what Config asks, in its order -/
def chkC (xs : List SetV) (bu sz pe jb : Int) : List (Str × Bool) := [("devices", decide (1 ≤ (xs.length : Int) ∧ (xs.length : Int) ≤ 4)), ("buffers", decide (2 * (xs.length : Int) ≤ bu ∧ bu ≤ 256)), ("size", decide (1 ≤ sz ∧ sz ≤ 16)), ("period", decide (1 ≤ pe ∧ pe ≤ 64)), ("jobs", decide (1 ≤ jb)), ("budgets", decide (sumB xs + jb ≤ pe))]
def ConfAt (C : Addr) (H : Hp) (p dl : Addr) (ps : List Addr) (bu sz pe jb : Int) : Prop := (∃ dx, H p = some (.ins C dx (F_Config (.ref dl) (.int bu) (.int sz) (.int pe) (.int jb)))) ∧ H dl = some (.lst (ps.map V.ref))
def sp_Config_init (K : PySem.W.Frag) (a : Ads) : Sp := A6 fun s d xb xs_ xp xj H Q E => ∃ (p dx dl : Addr) (ps : List Addr) (xs : List SetV) (bu sz pe jb : Int), s = .ref p ∧ d = .ref dl ∧ xb = .int bu ∧ xs_ = .int sz ∧ xp = .int pe ∧ xj = .int jb ∧
  H p = some (.ins a.C_Config dx []) ∧ H dl = some (.lst (ps.map V.ref)) ∧ SetsAt a.C_Settings H ps xs ∧ ps.length ≤ 1000 ∧
  (∀ z, firstFail (chkC xs bu sz pe jb) = some z → ∀ d H1, Fp [] H H1 → H1 d = some (.xd [("setting", .str z)]) → E (.ref a.C_ConfigError) (some d) H1) ∧
  (firstFail (chkC xs bu sz pe jb) = none → ∀ dl2 H1, H dl2 = none → ConfAt a.C_Config H1 p dl2 ps bu sz pe jb → Fp [p] H H1 → Q .non H1)
theorem ok_budget_sum (T : Txt P w K mg base a) : FnOk P w K mg base (L2.CX P w) 1 a.f_budget_sum a.fd_budget_sum ["devices", "jobs"] (sp_budget_sum K a) := by
  refine T.F_budget_sum.okX sc_budget_sum (fun vs H Q E h => A2.len h) (fun cdv A outer s H vs Q E hr h => ?_)
  have hu := hu_of hr
  obtain ⟨v_devices, v_jobs, rfl, h⟩ := h
  refine ⟨_, (pss_one (ps_ret (pe_op op_add (pe_callB (cr_sum rfl) (by rfl) T.g_sum (by decide +kernel) (pa_cons (pe_lc (own := [("device", 2)]) (g := (gName 2)) (tt := tYes) (te := (tOp (rI0 fun i j => .int (i + j)) (tFld K (tVar 2) "receive") (tFld K (tVar 2) "transmit"))) rfl sc_budget_sum.nd (pi_list (pv 0)) (blkOk_by (N := ["devices", "jobs", "device"]) (sc := defScope s_budget_sum) (own := [("device", 2)]) (by decide +kernel)) (fun _ _ _ _ _ => by exact (pg_name (i := 2) sc_budget_sum.nd rfl (by first | exact Or.inl rfl | exact Or.inr rfl))) (fun _ _ _ _ _ => by exact pts_nil) (fun _ _ _ _ _ => by exact (pe_op op_add (pe_fld (pv 2) rfl) (pe_fld (pv 2) rfl)))) pa_nil)) (pv 1)))), ?_⟩
  obtain ⟨dl, ps, xs, jb, rfl, rfl, hd, hs, hz, k⟩ := h
  walk_at "r"
  refine lc_pure (xs := ps.map V.ref) (ys := (xs.map fun x => x.re + x.tr).map V.int) rfl (Or.inl (Or.inl hd)) (by simp [hs.1]) (by simp; omega) (fun E2 i x y H2 R hE hx hy e hR => ?_) fun E2 hE => ?_
  · obtain ⟨p, hp, rfl⟩ : ∃ p, ps[i]? = some p ∧ V.ref p = x := by rw [List.getElem?_map] at hx; simpa using hx
    obtain ⟨sv, hsv, rfl⟩ : ∃ sv, xs[i]? = some sv ∧ V.int (sv.re + sv.tr) = y := by rw [List.map_map, List.getElem?_map] at hy; simpa using hy
    obtain ⟨dx, ho⟩ := hs.2 i p sv hp hsv
    have npE : p ≠ E2 := ne_of_none ho hE
    refine ⟨rfl, ?_⟩
    subst e
    walk_at "r"
    exact hR
  · walk_at "r"
    refine c_sum (Or.inl (Or.inl upd_same)) ?_
    walk_at "r"
    exact k _ (Fp.new hE)
theorem ok_Config_init (T : Txt P w K mg base a) : FnOk P w K mg base (L2.CX P w) 4 a.f_Config_init a.fd_Config_init ["self", "devices", "buffers", "size", "period", "jobs"] (sp_Config_init K a) := by
  have G_require := ok_require T
  have G_budget_sum := ok_budget_sum T
  refine T.F_Config_init.ok (CX := L2.CX P w) sc_Config_init (fun vs H Q E h => A6.len h) (fun cdv A outer s H vs Q E hr h => ?_)
  have hu := hu_of hr
  obtain ⟨v_self, v_devices, v_buffers, v_size, v_period, v_jobs, rfl, h⟩ := h
  refine ⟨_, (pss_cons (ps_expr (pe_callS G_require (hr.mono (by decide)) rfl T.g_require T.F_require.kp T.b_require (fun σ => passAt (takes_of rfl rfl rfl rfl) σ) (pa_cons pe_str (pa_cons (pe_chain op_le op_le pe_int (pe_callB call_ln (by rfl) T.g_len (by decide +kernel) (pa_cons (pv 1) pa_nil)) pe_int) pa_nil))))
    (pss_cons (ps_expr (pe_callS G_require (hr.mono (by decide)) rfl T.g_require T.F_require.kp T.b_require (fun σ => passAt (takes_of rfl rfl rfl rfl) σ) (pa_cons pe_str (pa_cons (pe_chain op_le op_le (pe_op op_mul pe_int (pe_callB call_ln (by rfl) T.g_len (by decide +kernel) (pa_cons (pv 1) pa_nil))) (pv 2) pe_int) pa_nil))))
    (pss_cons (ps_expr (pe_callS G_require (hr.mono (by decide)) rfl T.g_require T.F_require.kp T.b_require (fun σ => passAt (takes_of rfl rfl rfl rfl) σ) (pa_cons pe_str (pa_cons (pe_chain op_le op_le pe_int (pv 3) pe_int) pa_nil))))
    (pss_cons (ps_expr (pe_callS G_require (hr.mono (by decide)) rfl T.g_require T.F_require.kp T.b_require (fun σ => passAt (takes_of rfl rfl rfl rfl) σ) (pa_cons pe_str (pa_cons (pe_chain op_le op_le pe_int (pv 4) pe_int) pa_nil))))
    (pss_cons (ps_expr (pe_callS G_require (hr.mono (by decide)) rfl T.g_require T.F_require.kp T.b_require (fun σ => passAt (takes_of rfl rfl rfl rfl) σ) (pa_cons pe_str (pa_cons (pe_cmpR op_ge (pv 5) pe_int (nomark _)) pa_nil))))
    (pss_cons (ps_expr (pe_callS G_require (hr.mono (by decide)) rfl T.g_require T.F_require.kp T.b_require (fun σ => passAt (takes_of rfl rfl rfl rfl) σ) (pa_cons pe_str (pa_cons (pe_cmpR op_le (pe_callS G_budget_sum (hr.mono (by decide)) rfl T.g_budget_sum T.F_budget_sum.kp T.b_budget_sum (fun σ => passAt (takes_of rfl rfl rfl rfl) σ) (pa_cons (pv 1) (pa_cons (pv 5) pa_nil))) (pv 4) (nomark _)) pa_nil))))
    (pss_cons (ps_fld (pv 0) (pe_callTy call_ls (by rfl) T.g_list (by decide +kernel) (pa_cons (pv 1) pa_nil)) rfl)
    (pss_cons (ps_fld (pv 0) (pv 2) rfl)
    (pss_cons (ps_fld (pv 0) (pv 3) rfl)
    (pss_cons (ps_fld (pv 0) (pv 4) rfl)
    (pss_one (ps_fld (pv 0) (pv 5) rfl)))))))))))), ?_⟩
  obtain ⟨p, dx, dl, ps, xs, bu, sz, pe, jb, rfl, rfl, rfl, rfl, rfl, rfl, hp, hd, hs, hz, kf, k⟩ := h
  unfold chkC at kf k
  have ln : ((ps.map V.ref).length : Int) = (xs.length : Int) := by rw [List.length_map, hs.1]
  walk_at "r"
  rw [ln]
  walk_at "r"
  refine a2 ⟨_, _, rfl, rfl, by decide, fun e d hd => ?_, fun e1 => ?_⟩
  · exact kf _ (ff_F e) d _ (Fp.new hd) upd_same
  rw [ff_T e1] at kf k
  walk_at "r"
  rw [ln]
  walk_at "r"
  refine a2 ⟨_, _, rfl, rfl, by decide, fun e d hd => ?_, fun e2 => ?_⟩
  · exact kf _ (ff_F e) d _ (Fp.new hd) upd_same
  rw [ff_T e2] at kf k
  walk_at "r"
  refine a2 ⟨_, _, rfl, rfl, by decide, fun e d hd => ?_, fun e3 => ?_⟩
  · exact kf _ (ff_F e) d _ (Fp.new hd) upd_same
  rw [ff_T e3] at kf k
  walk_at "r"
  refine a2 ⟨_, _, rfl, rfl, by decide, fun e d hd => ?_, fun e4 => ?_⟩
  · exact kf _ (ff_F e) d _ (Fp.new hd) upd_same
  rw [ff_T e4] at kf k
  walk_at "r"
  refine a2 ⟨_, _, rfl, rfl, by decide, fun e d hd => ?_, fun e5 => ?_⟩
  · exact kf _ (ff_F e) d _ (Fp.new hd) upd_same
  rw [ff_T e5] at kf k
  walk_at "r"
  refine a2 ⟨dl, ps, xs, jb, rfl, rfl, hd, hs, hz, fun H2 f2 => ?_⟩
  walk_at "r"
  refine a2 ⟨_, _, rfl, rfl, by decide, fun e d hd2 => ?_, fun e6 => ?_⟩
  · exact kf _ (ff_F e) d _ (f2.trans (Fp.new hd2)) upd_same
  rw [ff_T e6] at kf k
  have hd2 := f2 _ _ hd (by simp)
  have hp2 := f2 _ _ hp (by simp)
  walk_at "r"
  refine c_ls (Or.inl (Or.inl hd2)) fun dl2 hdl2 => ?_
  have nd : p ≠ dl2 := ne_of_none hp2 hdl2
  walk_at "r"
  refine k rfl dl2 _ (f2.free (by simp) hdl2) ⟨?_, ?_⟩ ?_
  · exact ⟨dx, by rw [upd_same, F_Config_init]⟩
  · rw [upd_ne nd.symm, upd_ne nd.symm, upd_ne nd.symm, upd_ne nd.symm, upd_ne nd.symm, upd_same]
  exact ((((((f2.mono (by simp)).trans (Fp.new hdl2)).trans (Fp.at_ (by simp))).trans (Fp.at_ (by simp))).trans (Fp.at_ (by simp))).trans (Fp.at_ (by simp))).trans (Fp.at_ (by simp))
end
end My
set_option Elab.async false
set_option maxRecDepth 100000
set_option maxHeartbeats 100000000
set_option linter.all false
namespace My
open PySem L2 Sx Rd Sl
local macro_rules | `(tactic| walk_at "ne") => `(tactic| (first | with_reducible assumption | with_reducible exact Ne.symm (by with_reducible assumption)))
local macro_rules | `(tactic| walk_at "nin") => `(tactic| (simp only [List.mem_cons, List.not_mem_nil, or_false, not_or, not_false_eq_true]; (repeat' refine And.intro ?_ ?_); (all_goals walk_at "ne")))
local macro_rules | `(tactic| walk_at "hl") => `(tactic| (first | (with_reducible assumption) | exact upd_same | ((with_reducible refine' (upd_ne ?hne).trans ?hgo); (case hne => walk_at "ne"); (case hgo => walk_at "hl"))))
local macro_rules | `(tactic| walk_at "sq") => `(tactic| (first | (with_reducible assumption) | exact Or.inl (Or.inl (by walk_at "hl"))))
local macro_rules | `(tactic| walk_at "ar") => `(tactic| (first | omega | exact ⟨by omega, by omega⟩ | exact Or.inl ⟨by omega, by omega⟩ | exact Or.inr ⟨by omega, by omega⟩ | (show (0 : Int) < _; omega) | (show (0 : Int) < _ ∧ _ < (1073741824 : Int); omega)))
local macro_rules | `(tactic| walk_at "cls") => `(tactic| (first | exact Txt.cl_Settings (by assumption) | exact Txt.cl_Config (by assumption)))
local macro_rules | `(tactic| walk_at "noa") => `(tactic| (first | exact Txt.n_Settings_queue (by assumption) | exact Txt.n_Settings_sending (by assumption) | exact Txt.n_Settings_slots (by assumption) | exact Txt.n_Settings_pace (by assumption) | exact Txt.n_Settings_count_limit (by assumption) | exact Txt.n_Settings_wait (by assumption) | exact Txt.n_Settings_idle (by assumption) | exact Txt.n_Settings_room (by assumption) | exact Txt.n_Settings_receive (by assumption) | exact Txt.n_Settings_transmit (by assumption) | exact Txt.n_Config_devices (by assumption) | exact Txt.n_Config_buffers (by assumption) | exact Txt.n_Config_size (by assumption) | exact Txt.n_Config_period (by assumption) | exact Txt.n_Config_jobs (by assumption)))
local macro_rules | `(tactic| walk_at "lkp") => `(tactic| (first | (with_reducible exact F_Settings_queue_l) | (with_reducible exact F_Settings_sending_l) | (with_reducible exact F_Settings_slots_l) | (with_reducible exact F_Settings_pace_l) | (with_reducible exact F_Settings_count_limit_l) | (with_reducible exact F_Settings_wait_l) | (with_reducible exact F_Settings_idle_l) | (with_reducible exact F_Settings_room_l) | (with_reducible exact F_Settings_receive_l) | (with_reducible exact F_Settings_transmit_l) | (with_reducible exact F_Config_devices_l) | (with_reducible exact F_Config_buffers_l) | (with_reducible exact F_Config_size_l) | (with_reducible exact F_Config_period_l) | (with_reducible exact F_Config_jobs_l)))
local macro_rules | `(tactic| walk_at "ptf") => `(tactic| (first | (with_reducible exact F_Settings_queue_p) | (with_reducible exact F_Settings_sending_p) | (with_reducible exact F_Settings_slots_p) | (with_reducible exact F_Settings_pace_p) | (with_reducible exact F_Settings_count_limit_p) | (with_reducible exact F_Settings_wait_p) | (with_reducible exact F_Settings_idle_p) | (with_reducible exact F_Settings_room_p) | (with_reducible exact F_Settings_receive_p) | (with_reducible exact F_Settings_transmit_p) | (with_reducible exact F_Config_devices_p) | (with_reducible exact F_Config_buffers_p) | (with_reducible exact F_Config_size_p) | (with_reducible exact F_Config_period_p) | (with_reducible exact F_Config_jobs_p) | exact rfl))
local macro_rules | `(tactic| walk_at "lnF") => `(tactic| (first | (with_reducible exact F_Settings_len) | (with_reducible exact F_Config_len) | (refine PL.lt (n := 60) ?_ (by decide); (repeat refine PL.put ?_); exact PL.nil) | decide))
local macro_rules | `(tactic| walk_at "nol") => `(tactic| (first | fail))
local macro_rules | `(tactic| walk_at "r1") => `(tactic| (first
  | with_reducible apply l_cons | ((with_reducible apply e_var); (case h => exact rfl)) | with_reducible apply l_nil | with_reducible apply s_seq | with_reducible apply e_c | with_reducible apply g_name
  | with_reducible apply s_asg | with_reducible apply e_call | with_reducible apply k_t | with_reducible apply e_op | with_reducible apply e_cb | with_reducible apply t_test
  | with_reducible apply s_if | with_reducible apply t_or | with_reducible apply t_and | with_reducible apply t_B | with_reducible apply s_next | with_reducible apply p_some
  | with_reducible apply p_no | with_reducible apply e_sl | with_reducible apply k_i | with_reducible apply e_lst | with_reducible apply t_not | with_reducible apply o_chC | ((with_reducible refine' o_chV ?hv ?_); (case hv => exact rfl)) | with_reducible apply o_I0
  | ((with_reducible refine' o_I ?hc ?_); (case hc => walk_at "ar")) | with_reducible apply e_meth | ((with_reducible refine' k_meth ?h1 ?h2 ?_); (case h1 => walk_at "hl"); (case h2 => walk_at "nol")) | with_reducible apply e_fld | ((with_reducible refine' k_fld ?h1 ?h2 ?h3 ?h4 ?_); (case h1 => walk_at "hl"); (case h2 => walk_at "cls"); (case h3 => walk_at "noa"); (case h4 => walk_at "lkp")) | with_reducible apply e_not
  | with_reducible apply s_ret | ((with_reducible refine' k_ty ?h1 ?_); (case h1 => walk_at "sq")) | with_reducible apply s_drop | with_reducible apply s_retN | with_reducible apply s_cont | with_reducible apply s_break
  | with_reducible apply e_un | with_reducible apply o_U | ((with_reducible refine' o_eq ?hs ?_); (case hs => exact rfl)) | ((with_reducible refine' o_ne ?hs ?_); (case hs => exact rfl))
  | ((with_reducible refine' o_ixL ?h1 ?h2 ?_); (case h1 => walk_at "sq"); (case h2 => first | exact rfl | exact atI_zero _ _)) | with_reducible apply s_fld | with_reducible apply e_make | ((with_reducible refine' k_set ?h1 ?h2 ?h3 ?h4 ?h5 ?_); (case h1 => walk_at "hl"); (case h2 => walk_at "cls"); (case h3 => walk_at "noa"); (case h4 => walk_at "ptf"); (case h5 => walk_at "lnF")) | with_reducible apply e_tup | with_reducible apply e_bm
  | with_reducible apply e_bm0 | with_reducible apply e_if | with_reducible apply e_chain | with_reducible apply s_raise | with_reducible apply g_sub | ((with_reducible refine' c_ln ?h1 ?_); (case h1 => walk_at "sq"))
  | ((with_reducible refine' c_pop0 ?h1 ?h2 ?_); (case h1 => walk_at "hl"); (case h2 => omega)) | with_reducible apply c_isBool | with_reducible apply c_isInt | with_reducible apply c_isBoolN | with_reducible apply c_isTupI | with_reducible apply c_isNonB
  | with_reducible apply c_isNonT | ((with_reducible refine' c_isList ?h1 ?_); (case h1 => walk_at "hl")) | ((with_reducible refine' c_isTup ?h1 ?_); (case h1 => walk_at "hl")) | ((with_reducible refine' c_isTupB ?h1 ?_); (case h1 => walk_at "hl")) | with_reducible apply o_isB | with_reducible apply o_notB
  | with_reducible apply e_and | with_reducible apply e_or | with_reducible apply k_bl | with_reducible apply e_xf | with_reducible apply s_augS | ((with_reducible refine' s_augV ?hv ?_); (case hv => exact rfl))
  | with_reducible apply ip_I | with_reducible apply e_lcE | ((with_reducible refine' k_xf ?h1 ?h2 ?_); (case h1 => walk_at "hl"); (case h2 => exact look_hit _ _ _)) | ((with_reducible refine' o_slL ?h1 ?_); (case h1 => walk_at "sq")) | ((with_reducible refine' k_dget ?h1 ?h2 ?_); (case h1 => walk_at "hl"); (case h2 => with_reducible assumption)) | with_reducible apply e_dget
  | with_reducible apply s_dput | with_reducible apply e_makeK | with_reducible apply g_cons | with_reducible apply g_nil | with_reducible apply c_ab | with_reducible apply c_in
  | with_reducible apply c_mx | with_reducible apply c_mn | with_reducible apply a1 | with_reducible apply a2 | with_reducible apply a3 | with_reducible apply a4
  | with_reducible apply a5 | with_reducible apply a6 | with_reducible apply a0 | with_reducible apply t_tru | with_reducible apply t_yes | ((with_reducible refine' k_truL ?h1 ?_); (case h1 => walk_at "sq")) | with_reducible refine d_nx ?_ | with_reducible refine d_rt ?_ | with_reducible refine d_bk ?_
  | with_reducible refine d_ct ?_))
local macro_rules | `(tactic| walk_at "r") => `(tactic| (repeat walk_at "r1"))
local macro_rules | `(tactic| walk_at "sel") => `(tactic| (first | with_reducible exact Sl.Sel.here | ((with_reducible refine' Sl.Sel.there ?t); (case t => walk_at "sel"))))
local macro_rules | `(tactic| walk_at "selt") => `(tactic| (first | with_reducible exact Sl.Sels.all _ | ((with_reducible refine' Sl.Sels.skip ?t); (case t => walk_at "selt"))))
local macro_rules | `(tactic| walk_at "sels") => `(tactic| (first | with_reducible exact Sl.Sels.nil | ((with_reducible refine' Sl.Sels.cons ?a ?b); (case a => walk_at "sel"); (case b => walk_at "sels")) | walk_at "selt"))
local macro_rules | `(tactic| walk_at "selm") => `(tactic| ((try (simp only [])); (try simp only [List.map_append, List.map_cons, List.map_nil]); walk_at "sels"))
local macro_rules | `(tactic| walk_at "hg") => do
  let h := Lean.mkIdent `hs
  `(tactic| (first | (with_reducible assumption) | ((with_reducible refine' Sl.St.get $h ?s); (case s => walk_at "sel")) | ((with_reducible refine' Sl.St.geti $h ?s); (case s => walk_at "sel"))))
local macro_rules | `(tactic| walk_at "sg") => do
  let h := Lean.mkIdent `hs
  `(tactic| (first | (with_reducible assumption) | exact Or.inl (Or.inl (by walk_at "hg")) | (refine' Sl.sqA.U $h ?s; (case s => walk_at "sel"))))
local macro_rules | `(tactic| walk_at "le5") => `(tactic| (first | omega | (simp only [List.length_cons, List.length_nil, List.length_append, List.length_map]; omega) | (show _ ≤ _; decide) | (show _ < _; decide)))
local macro_rules | `(tactic| walk_at "km") => `(tactic| fail)
local macro_rules | `(tactic| walk_at "kf") => `(tactic| fail)
local macro_rules | `(tactic| walk_at "x1") => do
  let h := Lean.mkIdent `hs
  `(tactic| (first
  | with_reducible apply l_cons | ((with_reducible apply e_var); (case h => exact rfl)) | with_reducible apply l_nil | with_reducible apply s_seq | with_reducible apply e_c | with_reducible apply g_name
  | with_reducible apply s_asg | with_reducible apply e_call | with_reducible apply k_t | with_reducible apply e_op | with_reducible apply e_cb | with_reducible apply t_test
  | with_reducible apply s_if | with_reducible apply t_or | with_reducible apply t_and | with_reducible apply t_B | with_reducible apply s_next | with_reducible apply p_some
  | with_reducible apply p_no | with_reducible apply e_sl | with_reducible apply k_i | with_reducible apply Sl.e_lstS | with_reducible apply t_not | with_reducible apply o_chC | ((with_reducible refine' o_chV ?hv ?_); (case hv => exact rfl)) | with_reducible apply o_I0
  | ((with_reducible refine' o_I ?hc ?_); (case hc => walk_at "ar")) | with_reducible apply e_meth | ((with_reducible refine' k_meth ?h1 ?h2 ?_); (case h1 => walk_at "hg"); (case h2 => walk_at "nol")) | walk_at "km" | with_reducible apply e_fld
  | ((with_reducible refine' k_fld ?h1 ?h2 ?h3 ?h4 ?_); (case h1 => walk_at "hg"); (case h2 => walk_at "cls"); (case h3 => walk_at "noa"); (case h4 => walk_at "lkp")) | walk_at "kf" | with_reducible apply e_not
  | with_reducible apply s_ret | ((with_reducible refine' k_ty ?h1 ?_); (case h1 => walk_at "sg")) | with_reducible apply s_drop | with_reducible apply s_retN | with_reducible apply s_cont | with_reducible apply s_break
  | with_reducible apply e_un | with_reducible apply o_U | ((with_reducible refine' o_eq ?hs ?_); (case hs => exact rfl)) | ((with_reducible refine' o_ne ?hs ?_); (case hs => exact rfl))
  | ((with_reducible refine' o_ixL ?h1 ?h2 ?_); (case h1 => walk_at "sg"); (case h2 => first | exact rfl | exact atI_zero _ _)) | ((with_reducible refine' o_ixT ?h1 ?h2 ?_); (case h1 => walk_at "sg"); (case h2 => first | exact rfl | exact atI_zero _ _)) | with_reducible apply s_fld | with_reducible apply Sl.e_makeS
  | ((with_reducible refine' Sl.k_setS $h ?h1 ?h2 ?h3 ?h4 ?h5 ?_); (case h1 => walk_at "sel"); (case h2 => walk_at "cls"); (case h3 => walk_at "noa"); (case h4 => walk_at "ptf"); (case h5 => walk_at "lnF"); (clear $h; intro _ $h)) | with_reducible apply Sl.e_tupS | with_reducible apply e_bm
  | with_reducible apply e_bm0 | with_reducible apply e_if | with_reducible apply e_chain | with_reducible apply s_raise | with_reducible apply g_sub | ((with_reducible refine' c_ln ?h1 ?_); (case h1 => walk_at "sg")) | ((with_reducible refine' c_lnT ?h1 ?_); (case h1 => walk_at "sg"))
  | ((with_reducible refine' Sl.k_newL $h ?h1 ?_); (case h1 => walk_at "le5"); (clear $h; intro _ _ $h)) | ((with_reducible refine' Sl.k_newT $h ?h1 ?_); (case h1 => walk_at "le5"); (clear $h; intro _ _ $h)) | ((with_reducible refine' Sl.k_make $h ?_); (clear $h; intro _ _ _ $h))
  | ((with_reducible refine' Sl.c_appS $h ?h1 ?h2 ?_); (case h1 => walk_at "sel"); (case h2 => walk_at "le5"); (clear $h; intro _ $h)) | ((with_reducible refine' Sl.c_pop0S $h ?h1 ?h2 ?_); (case h1 => walk_at "sel"); (case h2 => walk_at "le5"); (clear $h; intro _ $h))
  | ((with_reducible refine' Sl.c_lsS $h ?h1 ?_); (case h1 => walk_at "sg"); (clear $h; intro _ _ $h)) | ((with_reducible refine' Sl.o_slLS $h ?h1 ?_); (case h1 => walk_at "sg"); (clear $h; intro _ _ $h)) | ((with_reducible refine' Sl.c_clrS $h ?h1 ?_); (case h1 => walk_at "sel"); (clear $h; intro _ $h))
  | ((with_reducible refine' Sl.o_catS $h ?h1 ?h2 ?h3 ?_); (case h1 => walk_at "hg"); (case h2 => walk_at "hg"); (case h3 => walk_at "le5"); (clear $h; intro _ _ $h)) | ((with_reducible refine' Sl.c_extS $h ?h1 ?h2 ?h3 ?_); (case h1 => walk_at "sel"); (case h2 => walk_at "hg"); (case h3 => walk_at "le5"); (clear $h; intro _ $h))
  | ((with_reducible refine' Sl.k_raise $h ?h1 ?_); (case h1 => exact okV_int ⟨by omega, by omega⟩); (clear $h; intro _ _ $h))
  | with_reducible apply c_isBool | with_reducible apply c_isInt | with_reducible apply c_isBoolN | with_reducible apply c_isTupI | with_reducible apply c_isNonB
  | with_reducible apply c_isNonT | ((with_reducible refine' c_isList ?h1 ?_); (case h1 => walk_at "hg")) | ((with_reducible refine' c_isTup ?h1 ?_); (case h1 => walk_at "hg")) | ((with_reducible refine' c_isTupB ?h1 ?_); (case h1 => walk_at "hg")) | with_reducible apply o_isB | with_reducible apply o_notB
  | with_reducible apply e_and | with_reducible apply e_or | with_reducible apply k_bl | with_reducible apply e_xf | with_reducible apply s_augS | ((with_reducible refine' s_augV ?hv ?_); (case hv => exact rfl)) | with_reducible apply Sl.s_aug
  | with_reducible apply ip_I | with_reducible apply e_lcE | with_reducible apply e_lcL | with_reducible apply f_lst | with_reducible apply e_lcF | with_reducible apply f_rng1 | ((with_reducible refine' k_xf ?h1 ?h2 ?_); (case h1 => walk_at "hg"); (case h2 => exact look_hit _ _ _)) | ((with_reducible refine' k_dget ?h1 ?h2 ?_); (case h1 => walk_at "hg"); (case h2 => with_reducible assumption)) | with_reducible apply e_dget
  | with_reducible apply s_dput | with_reducible apply Sl.e_makeKS | with_reducible apply g_cons | with_reducible apply g_nil | ((with_reducible refine' g_tup ?h1 ?h2 ?_); (case h1 => walk_at "sg"); (case h2 => exact rfl)) | with_reducible apply c_ab | with_reducible apply c_in
  | with_reducible apply c_mx | with_reducible apply c_mn | with_reducible apply a1 | with_reducible apply a2 | with_reducible apply a3 | with_reducible apply a4
  | with_reducible apply a5 | with_reducible apply a6 | with_reducible apply a0 | with_reducible apply t_tru | with_reducible apply t_yes | ((with_reducible refine' k_truL ?h1 ?_); (case h1 => walk_at "sg")) | with_reducible refine d_nx ?_ | with_reducible refine d_rt ?_ | with_reducible refine d_bk ?_
  | with_reducible refine d_ct ?_))
local macro_rules | `(tactic| walk_at "x") => `(tactic| (repeat walk_at "x1"))
section
variable {P : Program} {w : World} {K : PySem.W.Frag} {mg : Str → Option Value} {base : Heap} {a : Ads}
/-! ### settings and configurations, as assertions -/
def SetC (a : Ads) (p : Addr) (x : SetV) : As := ex fun dx => cell p (.ins a.C_Settings dx (F_Settings (.int x.q) (.int x.se) (.int x.sl) (.int x.pa) (.int x.co) (.int x.wa) (.int x.id) (.int x.ro) (.int x.re) (.int x.tr)))
def SetB (a : Ads) (v : V) (x : SetV) : As := ex fun p => Sl.all [pur (v = .ref p), SetC a p x]
structure CfgV where
  (bu sz pe jb : Int)
def CfC (a : Ads) (p dl : Addr) (c : CfgV) : As := ex fun dx => cell p (.ins a.C_Config dx (F_Config (.ref dl) (.int c.bu) (.int c.sz) (.int c.pe) (.int c.jb)))
section
variable {L M R : List As} {H H1 : Hp} {Q : VK} {E : XK} {p dl : Addr} {x : SetV} {v : V} {c : CfgV} {o o' : HO}
theorem SetC.U (hs : Sl.St L H) (s : Sel (SetC a p x) L M) : ∃ dx, Sl.St (cell p (.ins a.C_Settings dx (F_Settings (.int x.q) (.int x.se) (.int x.sl) (.int x.pa) (.int x.co) (.int x.wa) (.int x.id) (.int x.ro) (.int x.re) (.int x.tr))) :: M) H := (hs.sel s).exU
theorem SetC.is (hs : Sl.St L H) (s : Sel (SetC a p x) L M) : SetIs a.C_Settings H p x := by
  obtain ⟨dx, h⟩ := SetC.U hs s
  exact ⟨dx, h.get0⟩
theorem SetB.U (hs : Sl.St L H) (s : Sel (SetB a v x) L M) : ∃ p, v = .ref p ∧ Sl.St (SetC a p x :: M) H := by
  obtain ⟨p, h⟩ := (hs.sel s).exU
  obtain ⟨e, h⟩ := h.allU.purU
  exact ⟨p, e, h⟩
theorem SetB.I (hs : Sl.St L H) (s : Sel (SetC a p x) L M) : Sl.St (SetB a (.ref p) x :: M) H := Sl.St.exI p (Sl.St.allI (L := [_, _]) (Sl.St.purI rfl (hs.sel s)))
theorem cellF (h : Sl.St (cell p o :: R) H) (i : ¬ Imm o) (f : Fp [p] H H1) (g : H1 p = some o') : Sl.St (cell p o' :: R) H1 := by
  obtain ⟨S, S1, S2, e, d, ⟨h0, h1⟩, h2⟩ := h
  refine ⟨S, S1, S2, e, d, ⟨h0, g⟩, (Sl.all R).loc h2 (Agree.of_fp f (fun b m u e => ?_) ((Sl.all R).dom h2) fun b s m => ?_)⟩
  · rw [List.mem_singleton.mp m, h1] at e; cases e; exact i
  · rw [List.mem_singleton.mp m] at s; exact d p ((h0 p).mpr rfl) s
theorem setsB {vs : List V} {xs : List SetV} : ∀ {L M : List As}, Sl.St L H → Sel (lA (SetB a) vs xs) L M → ∃ ps : List Addr, vs = ps.map V.ref ∧ SetsAt a.C_Settings H ps xs := by
  induction xs generalizing vs with
  | nil => intro L M hs s; exact ⟨[], lA.nilU (hs.sel s), rfl, fun i p x h => by simp at h⟩
  | cons x xs ih =>
    intro L M hs s
    obtain ⟨v, ws, rfl, h⟩ := lA.unS hs s
    obtain ⟨ps, rfl, h1, h2⟩ := ih h (.there .here)
    obtain ⟨p, e, h3⟩ := SetB.U h .here
    have hx := SetC.is h3 .here
    subst e
    refine ⟨p :: ps, rfl, by simp [h1], fun i p' x' e1 e2 => ?_⟩
    cases i with
    | zero => cases e1; cases e2; exact hx
    | succ i => exact h2 i p' x' e1 e2
theorem c_settings {dx : Addr} {x : SetV} (hs : Sl.St L H) (s : Sel (cell p (.ins a.C_Settings dx [])) L M) (ok : firstFail x.chk = none) (q : ∀ H', Sl.St (SetC a p x :: M) H' → Q .non H') : sp_Settings_init K a [.ref p, .int x.q, .int x.se, .int x.sl, .int x.pa, .int x.co, .int x.wa, .int x.id, .int x.ro, .int x.re, .int x.tr] H Q E :=
  a11 ⟨p, dx, x.q, x.se, x.sl, x.pa, x.co, x.wa, x.id, x.ro, x.re, x.tr, rfl, rfl, rfl, rfl, rfl, rfl, rfl, rfl, rfl, rfl, rfl, hs.get s, fun z e => (by rw [show chkS x.q x.se x.sl x.pa x.co x.wa x.id x.ro x.re x.tr = x.chk from rfl, ok] at e; cases e),
    fun _ H1 ⟨dy, g⟩ f => q H1 (Sl.St.exI dy (cellF (hs.sel s) id f g))⟩
theorem c_config {dx : Addr} {xs : List SetV} {vs : List V} (hs : Sl.St L H) (s : Sel (cell p (.ins a.C_Config dx [])) L M) (hd : H dl = some (.lst vs)) (hv : ∃ ps : List Addr, vs = ps.map V.ref ∧ SetsAt a.C_Settings H ps xs) (hz : vs.length ≤ 1000) (ok : firstFail (chkC xs c.bu c.sz c.pe c.jb) = none)
    (q : ∀ dl2 H', Sl.St (CfC a p dl2 c :: cell dl2 (.lst vs) :: M) H' → Q .non H') : sp_Config_init K a [.ref p, .ref dl, .int c.bu, .int c.sz, .int c.pe, .int c.jb] H Q E := by
  obtain ⟨ps, rfl, hp⟩ := hv
  refine a6 ⟨p, dx, dl, ps, xs, c.bu, c.sz, c.pe, c.jb, rfl, rfl, rfl, rfl, rfl, rfl, hs.get s, hd, hp, by simpa using hz, fun z e => (by rw [ok] at e; cases e), fun _ dl2 H1 n ⟨⟨dy, g⟩, g2⟩ f => q dl2 H1 ?_⟩
  have hne : dl2 ≠ p := fun e => by rw [e, hs.get s] at n; cases n
  have h1 := cellF (hs.sel s) id f g
  -- the new list stands apart
  have h2 : Sl.St (cell dl2 (.lst (ps.map V.ref)) :: cell p (.ins a.C_Config dy (F_Config (.ref dl2) (.int c.bu) (.int c.sz) (.int c.pe) (.int c.jb))) :: M) H1 := by
    obtain ⟨S, S1, S2, e, d, ⟨h0, _⟩, h2⟩ := h1
    obtain ⟨T, T1, T2, e', d', ⟨k0, _⟩, k2⟩ := hs.sel s
    have ag : Agree T2 H H1 := Agree.of_fp f (fun b m u e => by rw [List.mem_singleton.mp m, hs.get s] at e; cases e; exact id) ((Sl.all M).dom k2) fun b s m => by
      rw [List.mem_singleton.mp m] at s; exact d' p ((k0 p).mpr rfl) s
    have k3 := (Sl.all M).loc k2 ag
    refine ⟨fun b => b = dl2 ∨ (b = p ∨ T2 b), fun b => b = dl2, fun b => b = p ∨ T2 b, fun _ => Iff.rfl, fun b z w => ?_, ⟨fun _ => Iff.rfl, g2⟩, fun b => b = p, T2, fun _ => Iff.rfl, fun b z w => d' b ((k0 b).mpr z) w, ⟨fun _ => Iff.rfl, g⟩, k3⟩
    rcases w with w | w
    · exact hne (z ▸ w)
    · exact (Sl.all M).dom k2 b w (z ▸ n)
  exact Sl.St.exI dy (Ent.swap.st h2)
end
end
end My
set_option Elab.async false
set_option maxRecDepth 100000
set_option maxHeartbeats 100000000
set_option linter.all false
namespace My
open PySem L2 Sx Rd Sl
local macro_rules | `(tactic| walk_at "ne") => `(tactic| (first | with_reducible assumption | with_reducible exact Ne.symm (by with_reducible assumption)))
local macro_rules | `(tactic| walk_at "nin") => `(tactic| (simp only [List.mem_cons, List.not_mem_nil, or_false, not_or, not_false_eq_true]; (repeat' refine And.intro ?_ ?_); (all_goals walk_at "ne")))
local macro_rules | `(tactic| walk_at "hl") => `(tactic| (first | (with_reducible assumption) | exact upd_same | ((with_reducible refine' (upd_ne ?hne).trans ?hgo); (case hne => walk_at "ne"); (case hgo => walk_at "hl"))))
local macro_rules | `(tactic| walk_at "sq") => `(tactic| (first | (with_reducible assumption) | exact Or.inl (Or.inl (by walk_at "hl"))))
local macro_rules | `(tactic| walk_at "ar") => `(tactic| (first | omega | exact ⟨by omega, by omega⟩ | exact Or.inl ⟨by omega, by omega⟩ | exact Or.inr ⟨by omega, by omega⟩ | (show (0 : Int) < _; omega) | (show (0 : Int) < _ ∧ _ < (1073741824 : Int); omega)))
local macro_rules | `(tactic| walk_at "cls") => `(tactic| (first | exact Txt.cl_Settings (by assumption) | exact Txt.cl_Config (by assumption)))
local macro_rules | `(tactic| walk_at "noa") => `(tactic| (first | exact Txt.n_Settings_queue (by assumption) | exact Txt.n_Settings_sending (by assumption) | exact Txt.n_Settings_slots (by assumption) | exact Txt.n_Settings_pace (by assumption) | exact Txt.n_Settings_count_limit (by assumption) | exact Txt.n_Settings_wait (by assumption) | exact Txt.n_Settings_idle (by assumption) | exact Txt.n_Settings_room (by assumption) | exact Txt.n_Settings_receive (by assumption) | exact Txt.n_Settings_transmit (by assumption) | exact Txt.n_Config_devices (by assumption) | exact Txt.n_Config_buffers (by assumption) | exact Txt.n_Config_size (by assumption) | exact Txt.n_Config_period (by assumption) | exact Txt.n_Config_jobs (by assumption)))
local macro_rules | `(tactic| walk_at "lkp") => `(tactic| (first | (with_reducible exact F_Settings_queue_l) | (with_reducible exact F_Settings_sending_l) | (with_reducible exact F_Settings_slots_l) | (with_reducible exact F_Settings_pace_l) | (with_reducible exact F_Settings_count_limit_l) | (with_reducible exact F_Settings_wait_l) | (with_reducible exact F_Settings_idle_l) | (with_reducible exact F_Settings_room_l) | (with_reducible exact F_Settings_receive_l) | (with_reducible exact F_Settings_transmit_l) | (with_reducible exact F_Config_devices_l) | (with_reducible exact F_Config_buffers_l) | (with_reducible exact F_Config_size_l) | (with_reducible exact F_Config_period_l) | (with_reducible exact F_Config_jobs_l)))
local macro_rules | `(tactic| walk_at "ptf") => `(tactic| (first | (with_reducible exact F_Settings_queue_p) | (with_reducible exact F_Settings_sending_p) | (with_reducible exact F_Settings_slots_p) | (with_reducible exact F_Settings_pace_p) | (with_reducible exact F_Settings_count_limit_p) | (with_reducible exact F_Settings_wait_p) | (with_reducible exact F_Settings_idle_p) | (with_reducible exact F_Settings_room_p) | (with_reducible exact F_Settings_receive_p) | (with_reducible exact F_Settings_transmit_p) | (with_reducible exact F_Config_devices_p) | (with_reducible exact F_Config_buffers_p) | (with_reducible exact F_Config_size_p) | (with_reducible exact F_Config_period_p) | (with_reducible exact F_Config_jobs_p) | exact rfl))
local macro_rules | `(tactic| walk_at "lnF") => `(tactic| (first | (with_reducible exact F_Settings_len) | (with_reducible exact F_Config_len) | (refine PL.lt (n := 60) ?_ (by decide); (repeat refine PL.put ?_); exact PL.nil) | decide))
local macro_rules | `(tactic| walk_at "nol") => `(tactic| (first | fail))
local macro_rules | `(tactic| walk_at "r1") => `(tactic| (first
  | with_reducible apply l_cons | ((with_reducible apply e_var); (case h => exact rfl)) | with_reducible apply l_nil | with_reducible apply s_seq | with_reducible apply e_c | with_reducible apply g_name
  | with_reducible apply s_asg | with_reducible apply e_call | with_reducible apply k_t | with_reducible apply e_op | with_reducible apply e_cb | with_reducible apply t_test
  | with_reducible apply s_if | with_reducible apply t_or | with_reducible apply t_and | with_reducible apply t_B | with_reducible apply s_next | with_reducible apply p_some
  | with_reducible apply p_no | with_reducible apply e_sl | with_reducible apply k_i | with_reducible apply e_lst | with_reducible apply t_not | with_reducible apply o_chC | ((with_reducible refine' o_chV ?hv ?_); (case hv => exact rfl)) | with_reducible apply o_I0
  | ((with_reducible refine' o_I ?hc ?_); (case hc => walk_at "ar")) | with_reducible apply e_meth | ((with_reducible refine' k_meth ?h1 ?h2 ?_); (case h1 => walk_at "hl"); (case h2 => walk_at "nol")) | with_reducible apply e_fld | ((with_reducible refine' k_fld ?h1 ?h2 ?h3 ?h4 ?_); (case h1 => walk_at "hl"); (case h2 => walk_at "cls"); (case h3 => walk_at "noa"); (case h4 => walk_at "lkp")) | with_reducible apply e_not
  | with_reducible apply s_ret | ((with_reducible refine' k_ty ?h1 ?_); (case h1 => walk_at "sq")) | with_reducible apply s_drop | with_reducible apply s_retN | with_reducible apply s_cont | with_reducible apply s_break
  | with_reducible apply e_un | with_reducible apply o_U | ((with_reducible refine' o_eq ?hs ?_); (case hs => exact rfl)) | ((with_reducible refine' o_ne ?hs ?_); (case hs => exact rfl))
  | ((with_reducible refine' o_ixL ?h1 ?h2 ?_); (case h1 => walk_at "sq"); (case h2 => first | exact rfl | exact atI_zero _ _)) | with_reducible apply s_fld | with_reducible apply e_make | ((with_reducible refine' k_set ?h1 ?h2 ?h3 ?h4 ?h5 ?_); (case h1 => walk_at "hl"); (case h2 => walk_at "cls"); (case h3 => walk_at "noa"); (case h4 => walk_at "ptf"); (case h5 => walk_at "lnF")) | with_reducible apply e_tup | with_reducible apply e_bm
  | with_reducible apply e_bm0 | with_reducible apply e_if | with_reducible apply e_chain | with_reducible apply s_raise | with_reducible apply g_sub | ((with_reducible refine' c_ln ?h1 ?_); (case h1 => walk_at "sq"))
  | ((with_reducible refine' c_pop0 ?h1 ?h2 ?_); (case h1 => walk_at "hl"); (case h2 => omega)) | with_reducible apply c_isBool | with_reducible apply c_isInt | with_reducible apply c_isBoolN | with_reducible apply c_isTupI | with_reducible apply c_isNonB
  | with_reducible apply c_isNonT | ((with_reducible refine' c_isList ?h1 ?_); (case h1 => walk_at "hl")) | ((with_reducible refine' c_isTup ?h1 ?_); (case h1 => walk_at "hl")) | ((with_reducible refine' c_isTupB ?h1 ?_); (case h1 => walk_at "hl")) | with_reducible apply o_isB | with_reducible apply o_notB
  | with_reducible apply e_and | with_reducible apply e_or | with_reducible apply k_bl | with_reducible apply e_xf | with_reducible apply s_augS | ((with_reducible refine' s_augV ?hv ?_); (case hv => exact rfl))
  | with_reducible apply ip_I | with_reducible apply e_lcE | ((with_reducible refine' k_xf ?h1 ?h2 ?_); (case h1 => walk_at "hl"); (case h2 => exact look_hit _ _ _)) | ((with_reducible refine' o_slL ?h1 ?_); (case h1 => walk_at "sq")) | ((with_reducible refine' k_dget ?h1 ?h2 ?_); (case h1 => walk_at "hl"); (case h2 => with_reducible assumption)) | with_reducible apply e_dget
  | with_reducible apply s_dput | with_reducible apply e_makeK | with_reducible apply g_cons | with_reducible apply g_nil | with_reducible apply c_ab | with_reducible apply c_in
  | with_reducible apply c_mx | with_reducible apply c_mn | with_reducible apply a1 | with_reducible apply a2 | with_reducible apply a3 | with_reducible apply a4
  | with_reducible apply a5 | with_reducible apply a6 | with_reducible apply a0 | with_reducible apply t_tru | with_reducible apply t_yes | ((with_reducible refine' k_truL ?h1 ?_); (case h1 => walk_at "sq")) | with_reducible refine d_nx ?_ | with_reducible refine d_rt ?_ | with_reducible refine d_bk ?_
  | with_reducible refine d_ct ?_))
local macro_rules | `(tactic| walk_at "r") => `(tactic| (repeat walk_at "r1"))
local macro_rules | `(tactic| walk_at "sel") => `(tactic| (first | with_reducible exact Sl.Sel.here | ((with_reducible refine' Sl.Sel.there ?t); (case t => walk_at "sel"))))
local macro_rules | `(tactic| walk_at "selt") => `(tactic| (first | with_reducible exact Sl.Sels.all _ | ((with_reducible refine' Sl.Sels.skip ?t); (case t => walk_at "selt"))))
local macro_rules | `(tactic| walk_at "sels") => `(tactic| (first | with_reducible exact Sl.Sels.nil | ((with_reducible refine' Sl.Sels.cons ?a ?b); (case a => walk_at "sel"); (case b => walk_at "sels")) | walk_at "selt"))
local macro_rules | `(tactic| walk_at "selm") => `(tactic| ((try (simp only [])); (try simp only [List.map_append, List.map_cons, List.map_nil]); walk_at "sels"))
local macro_rules | `(tactic| walk_at "hg") => do
  let h := Lean.mkIdent `hs
  `(tactic| (first | (with_reducible assumption) | ((with_reducible refine' Sl.St.get $h ?s); (case s => walk_at "sel")) | ((with_reducible refine' Sl.St.geti $h ?s); (case s => walk_at "sel"))))
local macro_rules | `(tactic| walk_at "sg") => do
  let h := Lean.mkIdent `hs
  `(tactic| (first | (with_reducible assumption) | exact Or.inl (Or.inl (by walk_at "hg")) | (refine' Sl.sqA.U $h ?s; (case s => walk_at "sel"))))
local macro_rules | `(tactic| walk_at "le5") => `(tactic| (first | omega | (simp only [List.length_cons, List.length_nil, List.length_append, List.length_map]; omega) | (show _ ≤ _; decide) | (show _ < _; decide)))
local macro_rules | `(tactic| walk_at "km") => `(tactic| fail)
local macro_rules | `(tactic| walk_at "kf") => `(tactic| fail)
local macro_rules | `(tactic| walk_at "x1") => do
  let h := Lean.mkIdent `hs
  `(tactic| (first
  | with_reducible apply l_cons | ((with_reducible apply e_var); (case h => exact rfl)) | with_reducible apply l_nil | with_reducible apply s_seq | with_reducible apply e_c | with_reducible apply g_name
  | with_reducible apply s_asg | with_reducible apply e_call | with_reducible apply k_t | with_reducible apply e_op | with_reducible apply e_cb | with_reducible apply t_test
  | with_reducible apply s_if | with_reducible apply t_or | with_reducible apply t_and | with_reducible apply t_B | with_reducible apply s_next | with_reducible apply p_some
  | with_reducible apply p_no | with_reducible apply e_sl | with_reducible apply k_i | with_reducible apply Sl.e_lstS | with_reducible apply t_not | with_reducible apply o_chC | ((with_reducible refine' o_chV ?hv ?_); (case hv => exact rfl)) | with_reducible apply o_I0
  | ((with_reducible refine' o_I ?hc ?_); (case hc => walk_at "ar")) | with_reducible apply e_meth | ((with_reducible refine' k_meth ?h1 ?h2 ?_); (case h1 => walk_at "hg"); (case h2 => walk_at "nol")) | walk_at "km" | with_reducible apply e_fld
  | ((with_reducible refine' k_fld ?h1 ?h2 ?h3 ?h4 ?_); (case h1 => walk_at "hg"); (case h2 => walk_at "cls"); (case h3 => walk_at "noa"); (case h4 => walk_at "lkp")) | walk_at "kf" | with_reducible apply e_not
  | with_reducible apply s_ret | ((with_reducible refine' k_ty ?h1 ?_); (case h1 => walk_at "sg")) | with_reducible apply s_drop | with_reducible apply s_retN | with_reducible apply s_cont | with_reducible apply s_break
  | with_reducible apply e_un | with_reducible apply o_U | ((with_reducible refine' o_eq ?hs ?_); (case hs => exact rfl)) | ((with_reducible refine' o_ne ?hs ?_); (case hs => exact rfl))
  | ((with_reducible refine' o_ixL ?h1 ?h2 ?_); (case h1 => walk_at "sg"); (case h2 => first | exact rfl | exact atI_zero _ _)) | ((with_reducible refine' o_ixT ?h1 ?h2 ?_); (case h1 => walk_at "sg"); (case h2 => first | exact rfl | exact atI_zero _ _)) | with_reducible apply s_fld | with_reducible apply Sl.e_makeS
  | ((with_reducible refine' Sl.k_setS $h ?h1 ?h2 ?h3 ?h4 ?h5 ?_); (case h1 => walk_at "sel"); (case h2 => walk_at "cls"); (case h3 => walk_at "noa"); (case h4 => walk_at "ptf"); (case h5 => walk_at "lnF"); (clear $h; intro _ $h)) | with_reducible apply Sl.e_tupS | with_reducible apply e_bm
  | with_reducible apply e_bm0 | with_reducible apply e_if | with_reducible apply e_chain | with_reducible apply s_raise | with_reducible apply g_sub | ((with_reducible refine' c_ln ?h1 ?_); (case h1 => walk_at "sg")) | ((with_reducible refine' c_lnT ?h1 ?_); (case h1 => walk_at "sg"))
  | ((with_reducible refine' Sl.k_newL $h ?h1 ?_); (case h1 => walk_at "le5"); (clear $h; intro _ _ $h)) | ((with_reducible refine' Sl.k_newT $h ?h1 ?_); (case h1 => walk_at "le5"); (clear $h; intro _ _ $h)) | ((with_reducible refine' Sl.k_make $h ?_); (clear $h; intro _ _ _ $h))
  | ((with_reducible refine' Sl.c_appS $h ?h1 ?h2 ?_); (case h1 => walk_at "sel"); (case h2 => walk_at "le5"); (clear $h; intro _ $h)) | ((with_reducible refine' Sl.c_pop0S $h ?h1 ?h2 ?_); (case h1 => walk_at "sel"); (case h2 => walk_at "le5"); (clear $h; intro _ $h))
  | ((with_reducible refine' Sl.c_lsS $h ?h1 ?_); (case h1 => walk_at "sg"); (clear $h; intro _ _ $h)) | ((with_reducible refine' Sl.o_slLS $h ?h1 ?_); (case h1 => walk_at "sg"); (clear $h; intro _ _ $h)) | ((with_reducible refine' Sl.c_clrS $h ?h1 ?_); (case h1 => walk_at "sel"); (clear $h; intro _ $h))
  | ((with_reducible refine' Sl.o_catS $h ?h1 ?h2 ?h3 ?_); (case h1 => walk_at "hg"); (case h2 => walk_at "hg"); (case h3 => walk_at "le5"); (clear $h; intro _ _ $h)) | ((with_reducible refine' Sl.c_extS $h ?h1 ?h2 ?h3 ?_); (case h1 => walk_at "sel"); (case h2 => walk_at "hg"); (case h3 => walk_at "le5"); (clear $h; intro _ $h))
  | ((with_reducible refine' Sl.k_raise $h ?h1 ?_); (case h1 => exact okV_int ⟨by omega, by omega⟩); (clear $h; intro _ _ $h))
  | with_reducible apply c_isBool | with_reducible apply c_isInt | with_reducible apply c_isBoolN | with_reducible apply c_isTupI | with_reducible apply c_isNonB
  | with_reducible apply c_isNonT | ((with_reducible refine' c_isList ?h1 ?_); (case h1 => walk_at "hg")) | ((with_reducible refine' c_isTup ?h1 ?_); (case h1 => walk_at "hg")) | ((with_reducible refine' c_isTupB ?h1 ?_); (case h1 => walk_at "hg")) | with_reducible apply o_isB | with_reducible apply o_notB
  | with_reducible apply e_and | with_reducible apply e_or | with_reducible apply k_bl | with_reducible apply e_xf | with_reducible apply s_augS | ((with_reducible refine' s_augV ?hv ?_); (case hv => exact rfl)) | with_reducible apply Sl.s_aug
  | with_reducible apply ip_I | with_reducible apply e_lcE | with_reducible apply e_lcL | with_reducible apply f_lst | with_reducible apply e_lcF | with_reducible apply f_rng1 | ((with_reducible refine' k_xf ?h1 ?h2 ?_); (case h1 => walk_at "hg"); (case h2 => exact look_hit _ _ _)) | ((with_reducible refine' k_dget ?h1 ?h2 ?_); (case h1 => walk_at "hg"); (case h2 => with_reducible assumption)) | with_reducible apply e_dget
  | with_reducible apply s_dput | with_reducible apply Sl.e_makeKS | with_reducible apply g_cons | with_reducible apply g_nil | ((with_reducible refine' g_tup ?h1 ?h2 ?_); (case h1 => walk_at "sg"); (case h2 => exact rfl)) | with_reducible apply c_ab | with_reducible apply c_in
  | with_reducible apply c_mx | with_reducible apply c_mn | with_reducible apply a1 | with_reducible apply a2 | with_reducible apply a3 | with_reducible apply a4
  | with_reducible apply a5 | with_reducible apply a6 | with_reducible apply a0 | with_reducible apply t_tru | with_reducible apply t_yes | ((with_reducible refine' k_truL ?h1 ?_); (case h1 => walk_at "sg")) | with_reducible refine d_nx ?_ | with_reducible refine d_rt ?_ | with_reducible refine d_bk ?_
  | with_reducible refine d_ct ?_))
local macro_rules | `(tactic| walk_at "x") => `(tactic| (repeat walk_at "x1"))
section
variable {P : Program} {w : World} {K : PySem.W.Frag} {mg : Str → Option Value} {base : Heap} {a : Ads}
/-! ### rates -/
/-- a configuration with its settings -/
def CfgA (a : Ads) (p : Addr) (c : CfgV) (vs : List V) (xs : List SetV) : As := ex fun dl => Sl.all [CfC a p dl c, cell dl (.lst vs), lA (SetB a) vs xs]
section
variable {L M : List As} {H : Hp} {p dl : Addr} {c : CfgV} {xs : List SetV} {vs : List V}
theorem CfgA.U (hs : Sl.St L H) (s : Sel (CfgA a p c vs xs) L M) : ∃ dx dl, vs.length = xs.length ∧ Sl.St (cell p (.ins a.C_Config dx (F_Config (.ref dl) (.int c.bu) (.int c.sz) (.int c.pe) (.int c.jb))) :: cell dl (.lst vs) :: lA (SetB a) vs xs :: M) H := by
  obtain ⟨dl, h⟩ := (hs.sel s).exU
  obtain ⟨dx, h⟩ := h.allU.exU
  exact ⟨dx, dl, lA.lenS h (.there (.there .here)), h⟩
theorem CfgA.I {dx : Addr} (hs : Sl.St L H) (s : Sels [cell p (.ins a.C_Config dx (F_Config (.ref dl) (.int c.bu) (.int c.sz) (.int c.pe) (.int c.jb))), cell dl (.lst vs), lA (SetB a) vs xs] L M) : Sl.St (CfgA a p c vs xs :: M) H :=
  Sl.St.exI dl (Sl.St.allI (L := [_, _, _]) (Sl.St.exI dx (hs.sels s)))
theorem CfgA.I2 (hs : Sl.St L H) (s : Sels [CfC a p dl c, cell dl (.lst vs), lA (SetB a) vs xs] L M) : Sl.St (CfgA a p c vs xs :: M) H := Sl.St.exI dl (Sl.St.allI (L := [_, _, _]) (hs.sels s))
end
def shareI (c : CfgV) (xs : List SetV) : Int := c.jb / (3 * (xs.length : Int))
def mnI (i j : Int) : Int := if j < i then j else i
def dueD (x : SetV) (rate share : Int) : Bool := if rate = 0 then true else if x.co ≠ 1 ∨ rate > x.re ∨ 2 * rate > x.q then false else decide (x.sl > 3 * (mnI x.re (2 * rate) + 1) ∧ share ≥ 2 * (mnI x.re (2 * rate) + 1))
/-- what is read only -/
def SetSp (a : Ads) (s : V) (H : Hp) (φ : SetV → Prop) : Prop := ∃ (p : Addr) (x : SetV) (L R : List As), s = .ref p ∧ Sl.St L H ∧ Sel (SetC a p x) L R ∧ φ x
def sp_job_share (K : PySem.W.Frag) (a : Ads) : Sp := A1 fun s H Q E => ∃ (p : Addr) (c : CfgV) (vs : List V) (xs : List SetV) (L R : List As), s = .ref p ∧ Sl.St L H ∧ Sel (CfgA a p c vs xs) L R ∧ 1 ≤ xs.length ∧ xs.length ≤ 4 ∧ Q (.int (shareI c xs)) H
def sp_device_admits (K : PySem.W.Frag) (a : Ads) : Sp := A3 fun s r z H Q E => ∃ (rate share : Int), r = .int rate ∧ z = .int share ∧ SetSp a s H fun x => Q (.bl (dueD x rate share)) H
def sp_law_device_due (K : PySem.W.Frag) (a : Ads) : Sp := A4 fun c s r z H Q E => ∃ (rate share : Int), r = .int rate ∧ z = .int share ∧ SetSp a s H fun x => 1 ≤ x.co ∧ Q (.bl (dueD x rate share)) H
def sp_law_near (K : PySem.W.Frag) (a : Ads) : Sp := A4 fun s n l g H Q E => ∃ (st : Addr) (i lo hi : Int) (L R : List As), s = .ref st ∧ n = .int i ∧ l = .int lo ∧ g = .int hi ∧ Sl.St L H ∧ Sel (StA st) L R ∧ lo ≤ hi ∧ ∀ r H', lo ≤ r → r ≤ hi → Sl.St (StA st :: R) H' → Q (.int r) H'
theorem ok_job_share (T : Txt P w K mg base a) : FnOk P w K mg base (L2.CX P w) 1 a.f_job_share a.fd_job_share ["config"] (sp_job_share K a) := by
  refine T.F_job_share.okX sc_job_share (fun vs H Q E h => A1.len h) (fun cdv A outer s H vs Q E hr h => ?_)
  have hu := hu_of hr
  obtain ⟨v_config, rfl, h⟩ := h
  refine ⟨_, (pss_one (ps_ret (pe_op op_fdiv (pe_fld (pv 0) rfl) (pe_op op_mul pe_int (pe_callB call_ln (by rfl) T.g_len (by decide +kernel) (pa_cons (pe_fld (pv 0) rfl) pa_nil)))))), ?_⟩
  obtain ⟨p, c, vs, xs, L, R, rfl, hs, se, h1, h2, k⟩ := h
  have hU := CfgA.U hs se
  clear hs
  obtain ⟨dx, dl, hl, hs⟩ := hU
  walk_at "x"
  rw [hl]
  exact k
theorem ok_device_admits (T : Txt P w K mg base a) : FnOk P w K mg base (L2.CX P w) 1 a.f_device_admits a.fd_device_admits ["settings", "rate", "share"] (sp_device_admits K a) := by
  refine T.F_device_admits.okX sc_device_admits (fun vs H Q E h => A3.len h) (fun cdv A outer s H vs Q E hr h => ?_)
  have hu := hu_of hr
  obtain ⟨v_settings, v_rate, v_share, rfl, h⟩ := h
  refine ⟨_, (pss_cons (ps_if (pt_cmpR op_eq (pv 1) pe_int (nomark _)) (pss_one (ps_ret pe_bl)) pss_nil)
    (pss_cons (ps_if (PW.pt (pw_or (pt_cmpR op_ne (pe_fld (pv 0) rfl) pe_int (nomark _)) (pw_or (pt_cmpR op_gt (pv 1) (pe_fld (pv 0) rfl) (nomark _)) (pw_or1 (pt_cmpR op_gt (pe_op op_mul pe_int (pv 1)) (pe_fld (pv 0) rfl) (nomark _)))))) (pss_one (ps_ret pe_bl)) pss_nil)
    (pss_cons (ps_set (i := 3) sc_device_admits.nd rfl (by first | exact Or.inl rfl | exact Or.inr rfl) (pe_op op_add (pe_callB (call_mn rfl) (by rfl) T.g_min (by decide +kernel) (pa_cons (pe_fld (pv 0) rfl) (pa_cons (pe_op op_mul pe_int (pv 1)) pa_nil))) pe_int))
    (pss_one (ps_ret (pe_and (pe_cmpR op_gt (pe_fld (pv 0) rfl) (pe_op op_mul pe_int (pv 3)) (nomark _)) (pe_one (pe_cmpR op_ge (pv 2) (pe_op op_mul pe_int (pv 3)) (nomark _))))))))), ?_⟩
  obtain ⟨rate, share, rfl, rfl, p, x, L, R, rfl, hs, se, k⟩ := h
  have hU := SetC.U hs se
  clear hs
  obtain ⟨dx, hs⟩ := hU
  walk_at "x"
  unfold dueD at k
  refine if_d (fun c => ?_) (fun c => ?_)
  · rw [if_pos (int_inj c)] at k
    walk_at "x"
    exact k
  · rw [if_neg (int_ne c)] at k
    walk_at "x"
    by_cases hc : x.co = 1
    · refine if_ndF (by rw [hc]) ?_
      walk_at "x"
      refine if_d (fun c1 => ?_) (fun c1 => ?_)
      · rw [if_pos (Or.inr (Or.inl c1))] at k
        refine iteT ?_
        walk_at "x"
        exact k
      · walk_at "x"
        refine if_d (fun c2 => ?_) (fun c2 => ?_)
        · rw [if_pos (Or.inr (Or.inr c2))] at k
          walk_at "x"
          exact k
        · rw [if_neg (by omega)] at k
          walk_at "x"
          refine if_d (fun c3 => ?_) (fun c3 => ?_)
          · walk_at "x"
            rw [decide_eq_decide.mpr (show (x.sl > 3 * (mnI x.re (2 * rate) + 1) ∧ share ≥ 2 * (mnI x.re (2 * rate) + 1)) ↔ 2 * ((if 2 * rate < x.re then 2 * rate else x.re) + 1) ≤ share from ⟨fun z => z.2, fun z => ⟨c3, z⟩⟩)] at k
            exact k
          · walk_at "x"
            rw [decide_eq_false (fun z => c3 z.1)] at k
            exact k
    · rw [if_pos (Or.inl hc)] at k
      refine if_ndT (fun e => hc (int_inj e)) ?_
      refine iteT ?_
      walk_at "x"
      exact k
theorem ok_law_near (T : Txt P w K mg base a) : FnOk P w K mg base (L2.CX P w) 2 a.f_law_near a.fd_law_near ["state", "n", "least", "greatest"] (sp_law_near K a) := by
  have G_law_draw := ok_law_draw T
  refine T.F_law_near.okX sc_law_near (fun vs H Q E h => A4.len h) (fun cdv A outer s H vs Q E hr h => ?_)
  have hu := hu_of hr
  obtain ⟨v_state, v_n, v_least, v_greatest, rfl, h⟩ := h
  refine ⟨_, (pss_one (ps_ret (pe_callB (call_mn rfl) (by rfl) T.g_min (by decide +kernel) (pa_cons (pv 3) (pa_cons (pe_callB (call_mx rfl) (by rfl) T.g_max (by decide +kernel) (pa_cons (pv 2) (pa_cons (pe_op op_sub (pe_op op_add (pv 1) (pe_callS G_law_draw (hr.mono (by decide)) rfl T.g_law_draw T.F_law_draw.kp T.b_law_draw (fun σ => passAt (takes_of rfl rfl rfl rfl) σ) (pa_cons (pv 0) (pa_cons pe_int pa_nil)))) pe_int) pa_nil))) pa_nil))))), ?_⟩
  obtain ⟨st, i, lo, hi, L, R, rfl, rfl, rfl, rfl, hs, se, hle, k⟩ := h
  walk_at "x"
  refine c_draw hs se (by omega) (by omega) fun r H1 ra rb hs => ?_
  walk_at "x"
  exact k _ _ (by split <;> split <;> omega) (by split <;> split <;> omega) hs
theorem ok_law_device_due (T : Txt P w K mg base a) : FnOk P w K mg base (L2.CX P w) 1 a.f_law_device_due a.fd_law_device_due ["config", "one", "rate", "share"] (sp_law_device_due K a) := by
  refine T.F_law_device_due.okX sc_law_device_due (fun vs H Q E h => A4.len h) (fun cdv A outer s H vs Q E hr h => ?_)
  have hu := hu_of hr
  obtain ⟨v_config, v_one, v_rate, v_share, rfl, h⟩ := h
  refine ⟨_, (pss_cons (ps_if (pt_cmpR op_eq (pv 2) pe_int (nomark _)) (pss_one (ps_ret pe_bl)) pss_nil)
    (pss_cons (ps_set (i := 4) sc_law_device_due.nd rfl (by first | exact Or.inl rfl | exact Or.inr rfl) (pe_op op_add (pe_callB (call_mn rfl) (by rfl) T.g_min (by decide +kernel) (pa_cons (pe_fld (pv 1) rfl) (pa_cons (pe_op op_mul pe_int (pv 2)) pa_nil))) pe_int))
    (pss_cons (ps_if (PW.pt (pw_or (pt_cmpR op_gt (pe_fld (pv 1) rfl) pe_int (nomark _)) (pw_or (pt_cmpR op_gt (pv 2) (pe_fld (pv 1) rfl) (nomark _)) (pw_or1 (pt_cmpR op_gt (pe_op op_mul pe_int (pv 2)) (pe_fld (pv 1) rfl) (nomark _)))))) (pss_one (ps_ret pe_bl)) pss_nil)
    (pss_one (ps_ret (pe_and (pe_cmpR op_ge (pe_fld (pv 1) rfl) (pe_op op_add (pe_op op_mul pe_int (pv 4)) pe_int) (nomark _)) (pe_one (pe_cmpR op_ge (pv 3) (pe_op op_mul pe_int (pv 4)) (nomark _))))))))), ?_⟩
  obtain ⟨rate, share, rfl, rfl, p, x, L, R, rfl, hs, se, hco, k⟩ := h
  have hU := SetC.U hs se
  clear hs
  obtain ⟨dx, hs⟩ := hU
  walk_at "x"
  unfold dueD at k
  refine if_d (fun c => ?_) (fun c => ?_)
  · rw [if_pos (int_inj c)] at k
    walk_at "x"
    exact k
  · rw [if_neg (int_ne c)] at k
    walk_at "x"
    refine if_d (fun hc => ?_) (fun hc => ?_)
    · rw [if_pos (Or.inl (by omega))] at k
      refine iteT ?_
      walk_at "x"
      exact k
    · walk_at "x"
      refine if_d (fun c1 => ?_) (fun c1 => ?_)
      · rw [if_pos (Or.inr (Or.inl c1))] at k
        refine iteT ?_
        walk_at "x"
        exact k
      · walk_at "x"
        refine if_d (fun c2 => ?_) (fun c2 => ?_)
        · rw [if_pos (Or.inr (Or.inr c2))] at k
          walk_at "x"
          exact k
        · rw [if_neg (by omega)] at k
          walk_at "x"
          refine if_d (fun c3 => ?_) (fun c3 => ?_)
          · walk_at "x"
            rw [decide_eq_decide.mpr (show (x.sl > 3 * (mnI x.re (2 * rate) + 1) ∧ share ≥ 2 * (mnI x.re (2 * rate) + 1)) ↔ 2 * ((if 2 * rate < x.re then 2 * rate else x.re) + 1) ≤ share from ⟨fun z => z.2, fun z => ⟨by have : 3 * ((if 2 * rate < x.re then 2 * rate else x.re) + 1) + 1 ≤ x.sl := c3; show 3 * ((if 2 * rate < x.re then 2 * rate else x.re) + 1) < x.sl; omega, z⟩⟩)] at k
            exact k
          · walk_at "x"
            rw [decide_eq_false (fun z => c3 (by have : 3 * ((if 2 * rate < x.re then 2 * rate else x.re) + 1) < x.sl := z.1; omega))] at k
            exact k
def sp_law_settings (K : PySem.W.Frag) (a : Ads) : Sp := A2 fun s r H Q E => ∃ (st : Addr) (rate : Int) (L R : List As), s = .ref st ∧ r = .int rate ∧ Sl.St L H ∧ Sel (StA st) L R ∧ 0 ≤ rate ∧ rate ≤ 5 ∧
  ∀ p x H', firstFail x.chk = none → 1 ≤ x.re → x.re ≤ 6 → x.tr = 1 → 1 ≤ x.sl → x.sl ≤ 32 → 1 ≤ x.co → Sl.St (SetC a p x :: StA st :: R) H' → Q (.ref p) H'
theorem ok_law_settings (T : Txt P w K mg base a) : FnOk P w K mg base (L2.CX P w) 6 a.f_law_settings a.fd_law_settings ["state", "rate"] (sp_law_settings K a) := by
  have G_law_near := ok_law_near T
  have G_law_draw := ok_law_draw T
  have G_Settings_init := ok_Settings_init T
  refine T.F_law_settings.okX sc_law_settings (fun vs H Q E h => A2.len h) (fun cdv A outer s H vs Q E hr h => ?_)
  have hu := hu_of hr
  obtain ⟨v_state, v_rate, rfl, h⟩ := h
  refine ⟨_, (pss_cons (ps_set (i := 2) sc_law_settings.nd rfl (by first | exact Or.inl rfl | exact Or.inr rfl) (pe_callS G_law_near (hr.mono (by decide)) rfl T.g_law_near T.F_law_near.kp T.b_law_near (fun σ => passAt (takes_of rfl rfl rfl rfl) σ) (pa_cons (pv 0) (pa_cons (pe_op op_add (pv 1) pe_int) (pa_cons pe_int (pa_cons pe_int pa_nil))))))
    (pss_cons (ps_set (i := 3) sc_law_settings.nd rfl (by first | exact Or.inl rfl | exact Or.inr rfl) (pe_op op_add (pe_callB (call_mn rfl) (by rfl) T.g_min (by decide +kernel) (pa_cons (pv 2) (pa_cons (pe_op op_mul pe_int (pv 1)) pa_nil))) pe_int))
    (pss_cons (ps_set (i := 4) sc_law_settings.nd rfl (by first | exact Or.inl rfl | exact Or.inr rfl) (pe_callS G_law_near (hr.mono (by decide)) rfl T.g_law_near T.F_law_near.kp T.b_law_near (fun σ => passAt (takes_of rfl rfl rfl rfl) σ) (pa_cons (pv 0) (pa_cons (pe_op op_add (pe_op op_mul pe_int (pv 1)) pe_int) (pa_cons pe_int (pa_cons pe_int pa_nil))))))
    (pss_cons (ps_set (i := 5) sc_law_settings.nd rfl (by first | exact Or.inl rfl | exact Or.inr rfl) pe_int)
    (Evl.pss_cut (ps_if (pt_cmpR op_eq (pe_callS G_law_draw (hr.mono (by decide)) rfl T.g_law_draw T.F_law_draw.kp T.b_law_draw (fun σ => passAt (takes_of rfl rfl rfl rfl) σ) (pa_cons (pv 0) (pa_cons pe_int pa_nil))) pe_int (nomark _)) (pss_one (ps_set (i := 5) sc_law_settings.nd rfl (by first | exact Or.inl rfl | exact Or.inr rfl) (pe_callB (call_mn rfl) (by rfl) T.g_min (by decide +kernel) (pa_cons pe_int (pa_cons (pv 4) pa_nil))))) pss_nil)
    (pss_cons (ps_set (i := 6) sc_law_settings.nd rfl (by first | exact Or.inl rfl | exact Or.inr rfl) (pe_callS G_law_near (hr.mono (by decide)) rfl T.g_law_near T.F_law_near.kp T.b_law_near (fun σ => passAt (takes_of rfl rfl rfl rfl) σ) (pa_cons (pv 0) (pa_cons (pe_op op_add (pe_op op_mul pe_int (pv 3)) pe_int) (pa_cons pe_int (pa_cons pe_int pa_nil))))))
    (pss_one (ps_ret (pe_makeKS (ks := ["queue", "slots", "count", "idle", "receive"]) T.mk_Settings G_Settings_init (hr.mono (by decide)) rfl T.g_Settings T.kb_Settings_init_0 (fun σ => passAt (takes_of rfl rfl rfl rfl) σ) (pk_cons (pv 4) (pk_cons (pv 6) (pk_cons (pv 5) (pk_cons (pe_op op_add pe_int (pe_callS G_law_draw (hr.mono (by decide)) rfl T.g_law_draw T.F_law_draw.kp T.b_law_draw (fun σ => passAt (takes_of rfl rfl rfl rfl) σ) (pa_cons (pv 0) (pa_cons pe_int pa_nil)))) (pk_cons (pv 2) pk_nil)))))))))))))), ?_⟩
  obtain ⟨st, rate, L, R, rfl, rfl, hs, se, h0, h1, k⟩ := h
  have hs := hs.sel se
  walk_at "x"
  refine a4 ⟨st, rate + 1, 1, 6, _, _, rfl, rfl, rfl, rfl, hs, .here, by omega, fun re H1 e1 e2 hs => ?_⟩
  walk_at "x"
  refine Rd.a4 ⟨st, 2 * rate + 1, 1, 16, _, _, rfl, rfl, rfl, rfl, hs, .here, by omega, fun qu H2 e3 e4 hs => ?_⟩
  walk_at "x"
  refine s_cut (fun σ H' => ∃ co : Int, 1 ≤ co ∧ co ≤ qu ∧ σ = [some (.ref st), some (.int rate), some (.int re), some (.int ((if 2 * rate < re then 2 * rate else re) + 1)), some (.int qu), some (.int co), none] ∧ Sl.St (StA st :: R) H') ?_ ?_
  · walk_at "x"
    refine c_draw hs .here (by omega) (by omega) fun r1 H3 ra1 rb1 hs => ?_
    walk_at "x"
    refine if_d (fun c => ?_) (fun c => ?_)
    · walk_at "x"
      exact ⟨_, by split <;> omega, by split <;> omega, rfl, hs⟩
    · walk_at "x"
      exact ⟨_, by omega, by omega, rfl, hs⟩
  rintro σ H3 ⟨co, hc1, hc2, rfl, hs⟩
  walk_at "x"
  refine Rd.a4 ⟨st, 3 * ((if 2 * rate < re then 2 * rate else re) + 1) + 2, 1, 32, _, _, rfl, rfl, rfl, rfl, hs, .here, by omega, fun sl H4 e5 e6 hs => ?_⟩
  walk_at "x"
  refine c_draw hs .here (by omega) (by omega) fun r2 H5 ra2 rb2 hs => ?_
  walk_at "x"
  refine k_makeK hs rfl fun p dx H6 hs => ?_
  have ok : firstFail (SetV.chk ⟨qu, 4, sl, 1, co, 1, 1 + r2, 16, re, 1⟩) = none := by
    unfold SetV.chk chkS
    simp only []
    repeat rw [ff_T (decide_eq_true (by first | omega | exact ⟨by omega, by omega⟩))]
    rfl
  show sp_Settings_init K a [.ref p, .int qu, .int 4, .int sl, .int 1, .int co, .int 1, .int (1 + r2), .int 16, .int re, .int 1] H6 _ _
  refine c_settings (x := ⟨qu, 4, sl, 1, co, 1, 1 + r2, 16, re, 1⟩) hs .here ok fun H7 hs => ⟨rfl, ?_⟩
  walk_at "x"
  exact k p _ _ ok e1 e2 rfl e5 e6 hc1 hs
theorem sum_two : ∀ xs : List SetV, (xs.map fun x => 2 * x.sl).sum = 2 * (xs.map (·.sl)).sum
  | [] => rfl
  | x :: r => by rw [List.map_cons, List.map_cons, List.sum_cons, List.sum_cons, sum_two r]; omega
def sp_admits (K : PySem.W.Frag) (a : Ads) : Sp := A2 fun s r H Q E => ∃ (p rl : Addr) (c : CfgV) (vs : List V) (xs : List SetV) (rs : List Int) (L R : List As), s = .ref p ∧ r = .ref rl ∧ Sl.St L H ∧ Sels [CfgA a p c vs xs, cell rl (.lst (rs.map V.int))] L R ∧ 1 ≤ xs.length ∧ xs.length ≤ 4 ∧ rs.length = xs.length ∧
  ∀ H', Sl.St (CfgA a p c vs xs :: cell rl (.lst (rs.map V.int)) :: R) H' → Q (.bl (decide (2 * (xs.map (·.sl)).sum ≤ c.bu) && (xs.zip rs).all fun q => dueD q.1 q.2 (shareI c xs))) H'
def sp_warm_up (K : PySem.W.Frag) (a : Ads) : Sp := A1 fun s H Q E => ∃ (p : Addr) (c : CfgV) (vs : List V) (xs : List SetV) (L R : List As), s = .ref p ∧ Sl.St L H ∧ Sel (CfgA a p c vs xs) L R ∧ 1 ≤ xs.length ∧ xs.length ≤ 4 ∧ 0 ≤ c.jb ∧ c.jb ≤ 1000 ∧
  ∀ w H', (shareI c xs = 0 → w = 0) → (shareI c xs ≠ 0 → ∃ m, m ∈ xs.map (·.sl) ∧ (∀ y ∈ xs.map (·.sl), y ≤ m) ∧ w = (m + shareI c xs - 1) / shareI c xs) → Sl.St (CfgA a p c vs xs :: R) H' → Q (.int w) H'
def sp_latency (K : PySem.W.Frag) (a : Ads) : Sp := A2 fun s z H Q E => ∃ (p : Addr) (c : CfgV) (vs : List V) (xs : List SetV) (j : Nat) (x : SetV) (L R : List As), s = .ref p ∧ z = .int j ∧ Sl.St L H ∧ Sel (CfgA a p c vs xs) L R ∧ xs[j]? = some x ∧ 0 ≤ c.sz ∧ c.sz ≤ 16 ∧ Q (.int (4 * c.pe + c.sz * x.id)) H
theorem ok_latency (T : Txt P w K mg base a) : FnOk P w K mg base (L2.CX P w) 1 a.f_latency a.fd_latency ["config", "at"] (sp_latency K a) := by
  refine T.F_latency.okX sc_latency (fun vs H Q E h => A2.len h) (fun cdv A outer s H vs Q E hr h => ?_)
  have hu := hu_of hr
  obtain ⟨v_config, v_at, rfl, h⟩ := h
  refine ⟨_, (pss_one (ps_ret (pe_op op_add (pe_op op_mul pe_int (pe_fld (pv 0) rfl)) (pe_op op_mul (pe_fld (pv 0) rfl) (pe_fld (pe_ix ix_list (pe_fld (pv 0) rfl) (pv 1) (fun _ _ => rfl)) rfl))))), ?_⟩
  obtain ⟨p, c, vs, xs, j, x, L, R, rfl, rfl, hs, se, hj, z0, z1, k⟩ := h
  have hU := CfgA.U hs se
  clear hs
  obtain ⟨dx, dl, hl, hs⟩ := hU
  have hU := lA.outS (Pa := SetB a) (xs := xs) hs (by walk_at "sel") hj
  clear hs
  obtain ⟨v, hv, hs⟩ := hU
  have hU := SetB.U hs .here
  clear hs
  obtain ⟨sp, rfl, hs⟩ := hU
  have hU := SetC.U hs .here
  clear hs
  obtain ⟨dy, hs⟩ := hU
  walk_at "x"
  refine o_ixL (by walk_at "sg") (atI_nat hv) ?_
  walk_at "x"
  exact k
theorem ok_warm_up (T : Txt P w K mg base a) : FnOk P w K mg base (L2.CX P w) 2 a.f_warm_up a.fd_warm_up ["config"] (sp_warm_up K a) := by
  have G_job_share := ok_job_share T
  refine T.F_warm_up.okX sc_warm_up (fun vs H Q E h => A1.len h) (fun cdv A outer s H vs Q E hr h => ?_)
  have hu := hu_of hr
  obtain ⟨v_config, rfl, h⟩ := h
  refine ⟨_, (pss_cons (ps_set (i := 1) sc_warm_up.nd rfl (by first | exact Or.inl rfl | exact Or.inr rfl) (pe_callS G_job_share (hr.mono (by decide)) rfl T.g_job_share T.F_job_share.kp T.b_job_share (fun σ => passAt (takes_of rfl rfl rfl rfl) σ) (pa_cons (pv 0) pa_nil)))
    (pss_cons (ps_if (pt_cmpR op_eq (pv 1) pe_int (nomark _)) (pss_one (ps_ret pe_int)) pss_nil)
    (pss_cons (ps_set (i := 2) sc_warm_up.nd rfl (by first | exact Or.inl rfl | exact Or.inr rfl) (pe_callB (cr_max rfl) (by rfl) T.g_max (by decide +kernel) (pa_cons (pe_lc (own := [("settings", 3)]) (g := (gName 3)) (tt := tYes) (te := (tFld K (tVar 3) "slots")) rfl sc_warm_up.nd (pi_list (pe_fld (pv 0) rfl)) (blkOk_by (N := ["config", "share", "slots", "settings"]) (sc := defScope s_warm_up) (own := [("settings", 3)]) (by decide +kernel)) (fun _ _ _ _ _ => by exact (pg_name (i := 3) sc_warm_up.nd rfl (by first | exact Or.inl rfl | exact Or.inr rfl))) (fun _ _ _ _ _ => by exact pts_nil) (fun _ _ _ _ _ => by exact (pe_fld (pv 3) rfl))) pa_nil)))
    (pss_one (ps_ret (pe_op op_fdiv (pe_op op_sub (pe_op op_add (pv 2) (pv 1)) pe_int) (pv 1))))))), ?_⟩
  obtain ⟨p, c, vs, xs, L, R, rfl, hs, se, h1, h2, hj, hjb, k⟩ := h
  have hs := hs.sel se
  walk_at "x"
  refine a1 ⟨p, c, vs, xs, _, _, rfl, hs, .here, h1, h2, ?_⟩
  walk_at "x"
  have hsh : 0 ≤ shareI c xs := Int.ediv_nonneg hj (by omega)
  refine if_d (fun e => ?_) (fun e => ?_)
  · walk_at "x"
    exact k _ _ (fun _ => rfl) (fun h => absurd (int_inj e) h) hs
  · have hU := CfgA.U hs .here
    clear hs
    obtain ⟨dx, dl, hl, hs⟩ := hU
    walk_at "x"
    refine k_lcLS (fun i acc => acc = ((xs.take i).map (·.sl)).map V.int) (fun _ _ => _) hs (by walk_at "sg") (by omega) rfl (fun i E acc H' _ hs => by walk_at "sg") (fun E i x acc H' hx ha f hs R0 N y _ => ?_) fun E acc H' ha f hs => ?_
    · have hi : i < xs.length := by rw [← hl]; exact (List.getElem?_eq_some_iff.mp hx).1
      have hU := lA.outS (Pa := SetB a) (xs := xs) hs (by walk_at "sel") (List.getElem?_eq_getElem hi)
      clear hs
      obtain ⟨v, hv, hs⟩ := hU
      cases hv.symm.trans hx
      have hU := SetB.U hs .here
      clear hs
      obtain ⟨sp, rfl, hs⟩ := hU
      have hU := SetC.U hs .here
      clear hs
      obtain ⟨dy, hs⟩ := hU
      walk_at "x"
      refine ⟨rfl, lc_yes ?_⟩
      walk_at "x"
      have hs := SetB.I (x := xs[i]) (Sl.St.exI dy hs : Sl.St (SetC a sp xs[i] :: _) _) .here
      have hs := lA.backE (Pa := SetB a) hs .here (by walk_at "sel") (List.getElem?_eq_getElem hi) hv
      refine y _ _ ?_ (hs.perm (by walk_at "selm"))
      show _ = List.map V.int (List.map (·.sl) (xs.take (i + 1)))
      rw [take_snoc (List.getElem?_eq_getElem hi), List.map_append, List.map_append, ← f]
      rfl
    · rw [hl, List.take_length] at f
      subst f
      obtain ⟨m, hm, hx⟩ := max_of (xs.map (·.sl)) (by intro e; have := congrArg List.length e; simp at this; rw [this] at h1; simp at h1)
      walk_at "x"
      refine c_max (Or.inl (Or.inl (by walk_at "hg"))) hm hx ?_
      have hpos : 0 < shareI c xs := by have := int_ne e; omega
      have hsm : shareI c xs ≤ 1000 := Int.le_trans (Int.ediv_le_self _ hj) hjb
      walk_at "x"
      have hs := CfgA.I (xs := xs) hs (by walk_at "sels")
      exact k _ _ (fun h => absurd h (by omega)) (fun _ => ⟨m, hm, hx, rfl⟩) (hs.perm (by walk_at "sels"))
theorem ok_admits (T : Txt P w K mg base a) : FnOk P w K mg base (L2.CX P w) 2 a.f_admits a.fd_admits ["config", "rates"] (sp_admits K a) := by
  have G_job_share := ok_job_share T
  have G_device_admits := ok_device_admits T
  refine T.F_admits.okX sc_admits (fun vs H Q E h => A2.len h) (fun cdv A outer s H vs Q E hr h => ?_)
  have hu := hu_of hr
  obtain ⟨v_config, v_rates, rfl, h⟩ := h
  refine ⟨_, (pss_cons (ps_if (pt_cmpR op_lt (pe_fld (pv 0) rfl) (pe_callB (cr_sum rfl) (by rfl) T.g_sum (by decide +kernel) (pa_cons (pe_lc (own := [("settings", 2)]) (g := (gName 2)) (tt := tYes) (te := (tOp (rI CMul fun i j => .int (i * j)) (tC (.int 2)) (tFld K (tVar 2) "slots"))) rfl sc_admits.nd (pi_list (pe_fld (pv 0) rfl)) (blkOk_by (N := ["config", "rates", "settings", "share", "d"]) (sc := defScope s_admits) (own := [("settings", 2)]) (by decide +kernel)) (fun _ _ _ _ _ => by exact (pg_name (i := 2) sc_admits.nd rfl (by first | exact Or.inl rfl | exact Or.inr rfl))) (fun _ _ _ _ _ => by exact pts_nil) (fun _ _ _ _ _ => by exact (pe_op op_mul pe_int (pe_fld (pv 2) rfl)))) pa_nil)) (nomark _)) (pss_one (ps_ret pe_bl)) pss_nil)
    (pss_cons (ps_set (i := 3) sc_admits.nd rfl (by first | exact Or.inl rfl | exact Or.inr rfl) (pe_callS G_job_share (hr.mono (by decide)) rfl T.g_job_share T.F_job_share.kp T.b_job_share (fun σ => passAt (takes_of rfl rfl rfl rfl) σ) (pa_cons (pv 0) pa_nil)))
    (pss_one (ps_ret (pe_callB (cr_all rfl) (by rfl) T.g_all (by decide +kernel) (pa_cons (pe_lc (own := [("d", 4), ("settings", 2)]) (g := (gTup K 2 (gCons (gName 4) (gCons (gName 2) gNil)))) (tt := tYes) (te := (tCallS (sp_device_admits K a) (WE (fun _ _ _ _ => False)) (tCons (tVar 2) (tCons (tOp (rIxL K) (tVar 1) (tVar 4)) (tCons (tVar 3) tNil))))) rfl sc_admits.nd (pi_enum rfl T.g_enumerate (pa_cons (pe_fld (pv 0) rfl) pa_nil)) (blkOk_by (N := ["config", "rates", "settings", "share", "d"]) (sc := defScope s_admits) (own := [("d", 4), ("settings", 2)]) (by decide +kernel)) (fun _ _ _ _ _ => by exact (pg_tup rfl (pgs_cons (pg_name (i := 4) sc_admits.nd rfl (by first | exact Or.inl rfl | exact Or.inr rfl)) (pgs_cons (pg_name (i := 2) sc_admits.nd rfl (by first | exact Or.inl rfl | exact Or.inr rfl)) pgs_nil)))) (fun _ _ _ _ _ => by exact pts_nil) (fun _ _ _ _ _ => by exact (pe_callS G_device_admits (hr.mono (by decide)) rfl T.g_device_admits T.F_device_admits.kp T.b_device_admits (fun σ => passNo) (pa_cons (pv 2) (pa_cons (pe_ix ix_list (pv 1) (pv 4) (fun _ _ => rfl)) (pa_cons (pv 3) pa_nil)))))) pa_nil)))))), ?_⟩
  obtain ⟨p, rl, c, vs, xs, rs, L, R, rfl, rfl, hs, se, h1, h2, hr, k⟩ := h
  have hs := hs.sels se
  simp only [List.cons_append, List.nil_append] at hs
  have hU := CfgA.U hs .here
  clear hs
  obtain ⟨dx, dl, hl, hs⟩ := hU
  walk_at "x"
  refine k_lcLS (fun i acc => acc = ((xs.take i).map fun x => 2 * x.sl).map V.int) (fun _ _ => _) hs (by walk_at "sg") (by omega) rfl (fun i E acc H' _ hs => by walk_at "sg") (fun E i x acc H' hx ha f hs R0 N y _ => ?_) fun E acc H' ha f hs => ?_
  · have hi : i < xs.length := by rw [← hl]; exact (List.getElem?_eq_some_iff.mp hx).1
    have hU := lA.outS (Pa := SetB a) (xs := xs) hs (by walk_at "sel") (List.getElem?_eq_getElem hi)
    clear hs
    obtain ⟨v, hv, hs⟩ := hU
    cases hv.symm.trans hx
    have hU := SetB.U hs .here
    clear hs
    obtain ⟨sp, rfl, hs⟩ := hU
    have hU := SetC.U hs .here
    clear hs
    obtain ⟨dy, hs⟩ := hU
    walk_at "x"
    refine ⟨rfl, lc_yes ?_⟩
    walk_at "x"
    have hs := SetB.I (x := xs[i]) (Sl.St.exI dy hs : Sl.St (SetC a sp xs[i] :: _) _) .here
    have hs := lA.backE (Pa := SetB a) hs .here (by walk_at "sel") (List.getElem?_eq_getElem hi) hv
    refine y _ _ ?_ (hs.perm (by walk_at "selm"))
    show _ = List.map V.int (List.map (fun x => 2 * x.sl) (xs.take (i + 1)))
    rw [take_snoc (List.getElem?_eq_getElem hi), List.map_append, List.map_append, ← f]
    rfl
  · rw [hl, List.take_length] at f
    subst f
    walk_at "x"
    refine Rd.c_sum (Or.inl (Or.inl (by walk_at "hg"))) ?_
    walk_at "x"
    have e2 := sum_two xs
    rw [e2]
    refine if_d (fun c1 => ?_) (fun c1 => ?_)
    · walk_at "x"
      have hs := CfgA.I (xs := xs) hs (by walk_at "sels")
      have := k _ (hs.perm (by walk_at "sels"))
      rw [decide_eq_false (by omega), Bool.false_and] at this
      exact this
    · have hs := CfgA.I (xs := xs) hs (by walk_at "sels")
      walk_at "x"
      refine a1 ⟨p, c, vs, xs, _, _, rfl, hs, .here, h1, h2, ?_⟩
      have hU := CfgA.U hs .here
      clear hs
      obtain ⟨dx, dl, hl, hs⟩ := hU
      walk_at "x"
      refine k_lcES (fun i acc => acc = (((xs.zip rs).take i).map fun q => dueD q.1 q.2 (shareI c xs)).map V.bl) (fun _ _ => _) hs (by walk_at "sg") (by omega) rfl (fun i E acc H' _ hs => by walk_at "sg") (fun E T i x acc H' hx ha f hT hs R0 N y _ => ?_) fun E acc H' ha f hs => ?_
      · have hi : i < xs.length := by rw [← hl]; exact (List.getElem?_eq_some_iff.mp hx).1
        have hir : i < rs.length := by omega
        have hU := lA.outS (Pa := SetB a) (xs := xs) hs (by walk_at "sel") (List.getElem?_eq_getElem hi)
        clear hs
        obtain ⟨v, hv, hs⟩ := hU
        cases hv.symm.trans hx
        have hU := SetB.U hs .here
        clear hs
        obtain ⟨sp, rfl, hs⟩ := hU
        walk_at "x"
        refine ⟨rfl, lc_yes ?_⟩
        walk_at "x"
        refine o_ixL (by walk_at "sg") (atI_nat (v := V.int rs[i]) (by rw [List.getElem?_map, List.getElem?_eq_getElem hir]; rfl)) ?_
        walk_at "x"
        refine a3 ⟨_, _, rfl, rfl, sp, xs[i], _, _, rfl, hs, .here, ?_⟩
        have hs := SetB.I (x := xs[i]) hs .here
        have hs := lA.backE (Pa := SetB a) hs .here (by walk_at "sel") (List.getElem?_eq_getElem hi) hv
        refine y _ _ ?_ (hs.perm (by walk_at "selm"))
        show _ = List.map V.bl (List.map (fun q => dueD q.1 q.2 (shareI c xs)) ((xs.zip rs).take (i + 1)))
        rw [take_snoc (show (xs.zip rs)[i]? = some (xs[i], rs[i]) by rw [List.getElem?_zip_eq_some]; exact ⟨List.getElem?_eq_getElem hi, List.getElem?_eq_getElem hir⟩), List.map_append, List.map_append, ← f]
        rfl
      · rw [hl, List.take_of_length_le (by rw [List.length_zip]; omega)] at f
        subst f
        walk_at "x"
        refine c_all (Or.inl (Or.inl (by walk_at "hg"))) ?_
        walk_at "x"
        have hs := CfgA.I (xs := xs) hs (by walk_at "sels")
        have := k _ (hs.perm (by walk_at "sels"))
        rw [decide_eq_true (by omega), Bool.true_and] at this
        rw [List.all_map]
        exact this
end
end My
set_option Elab.async false
set_option maxRecDepth 100000
set_option maxHeartbeats 100000000
set_option linter.all false
namespace My
open PySem L2 Sx Rd Sl
local macro_rules | `(tactic| walk_at "ne") => `(tactic| (first | with_reducible assumption | with_reducible exact Ne.symm (by with_reducible assumption)))
local macro_rules | `(tactic| walk_at "nin") => `(tactic| (simp only [List.mem_cons, List.not_mem_nil, or_false, not_or, not_false_eq_true]; (repeat' refine And.intro ?_ ?_); (all_goals walk_at "ne")))
local macro_rules | `(tactic| walk_at "hl") => `(tactic| (first | (with_reducible assumption) | exact upd_same | ((with_reducible refine' (upd_ne ?hne).trans ?hgo); (case hne => walk_at "ne"); (case hgo => walk_at "hl"))))
local macro_rules | `(tactic| walk_at "sq") => `(tactic| (first | (with_reducible assumption) | exact Or.inl (Or.inl (by walk_at "hl"))))
local macro_rules | `(tactic| walk_at "ar") => `(tactic| (first | omega | exact ⟨by omega, by omega⟩ | exact Or.inl ⟨by omega, by omega⟩ | exact Or.inr ⟨by omega, by omega⟩ | (show (0 : Int) < _; omega) | (show (0 : Int) < _ ∧ _ < (1073741824 : Int); omega)))
local macro_rules | `(tactic| walk_at "cls") => `(tactic| (first | exact Txt.cl_Settings (by assumption) | exact Txt.cl_Config (by assumption)))
local macro_rules | `(tactic| walk_at "noa") => `(tactic| (first | exact Txt.n_Settings_queue (by assumption) | exact Txt.n_Settings_sending (by assumption) | exact Txt.n_Settings_slots (by assumption) | exact Txt.n_Settings_pace (by assumption) | exact Txt.n_Settings_count_limit (by assumption) | exact Txt.n_Settings_wait (by assumption) | exact Txt.n_Settings_idle (by assumption) | exact Txt.n_Settings_room (by assumption) | exact Txt.n_Settings_receive (by assumption) | exact Txt.n_Settings_transmit (by assumption) | exact Txt.n_Config_devices (by assumption) | exact Txt.n_Config_buffers (by assumption) | exact Txt.n_Config_size (by assumption) | exact Txt.n_Config_period (by assumption) | exact Txt.n_Config_jobs (by assumption)))
local macro_rules | `(tactic| walk_at "lkp") => `(tactic| (first | (with_reducible exact F_Settings_queue_l) | (with_reducible exact F_Settings_sending_l) | (with_reducible exact F_Settings_slots_l) | (with_reducible exact F_Settings_pace_l) | (with_reducible exact F_Settings_count_limit_l) | (with_reducible exact F_Settings_wait_l) | (with_reducible exact F_Settings_idle_l) | (with_reducible exact F_Settings_room_l) | (with_reducible exact F_Settings_receive_l) | (with_reducible exact F_Settings_transmit_l) | (with_reducible exact F_Config_devices_l) | (with_reducible exact F_Config_buffers_l) | (with_reducible exact F_Config_size_l) | (with_reducible exact F_Config_period_l) | (with_reducible exact F_Config_jobs_l)))
local macro_rules | `(tactic| walk_at "ptf") => `(tactic| (first | (with_reducible exact F_Settings_queue_p) | (with_reducible exact F_Settings_sending_p) | (with_reducible exact F_Settings_slots_p) | (with_reducible exact F_Settings_pace_p) | (with_reducible exact F_Settings_count_limit_p) | (with_reducible exact F_Settings_wait_p) | (with_reducible exact F_Settings_idle_p) | (with_reducible exact F_Settings_room_p) | (with_reducible exact F_Settings_receive_p) | (with_reducible exact F_Settings_transmit_p) | (with_reducible exact F_Config_devices_p) | (with_reducible exact F_Config_buffers_p) | (with_reducible exact F_Config_size_p) | (with_reducible exact F_Config_period_p) | (with_reducible exact F_Config_jobs_p) | exact rfl))
local macro_rules | `(tactic| walk_at "lnF") => `(tactic| (first | (with_reducible exact F_Settings_len) | (with_reducible exact F_Config_len) | (refine PL.lt (n := 60) ?_ (by decide); (repeat refine PL.put ?_); exact PL.nil) | decide))
local macro_rules | `(tactic| walk_at "nol") => `(tactic| (first | fail))
local macro_rules | `(tactic| walk_at "r1") => `(tactic| (first
  | with_reducible apply l_cons | ((with_reducible apply e_var); (case h => exact rfl)) | with_reducible apply l_nil | with_reducible apply s_seq | with_reducible apply e_c | with_reducible apply g_name
  | with_reducible apply s_asg | with_reducible apply e_call | with_reducible apply k_t | with_reducible apply e_op | with_reducible apply e_cb | with_reducible apply t_test
  | with_reducible apply s_if | with_reducible apply t_or | with_reducible apply t_and | with_reducible apply t_B | with_reducible apply s_next | with_reducible apply p_some
  | with_reducible apply p_no | with_reducible apply e_sl | with_reducible apply k_i | with_reducible apply e_lst | with_reducible apply t_not | with_reducible apply o_chC | ((with_reducible refine' o_chV ?hv ?_); (case hv => exact rfl)) | with_reducible apply o_I0
  | ((with_reducible refine' o_I ?hc ?_); (case hc => walk_at "ar")) | with_reducible apply e_meth | ((with_reducible refine' k_meth ?h1 ?h2 ?_); (case h1 => walk_at "hl"); (case h2 => walk_at "nol")) | with_reducible apply e_fld | ((with_reducible refine' k_fld ?h1 ?h2 ?h3 ?h4 ?_); (case h1 => walk_at "hl"); (case h2 => walk_at "cls"); (case h3 => walk_at "noa"); (case h4 => walk_at "lkp")) | with_reducible apply e_not
  | with_reducible apply s_ret | ((with_reducible refine' k_ty ?h1 ?_); (case h1 => walk_at "sq")) | with_reducible apply s_drop | with_reducible apply s_retN | with_reducible apply s_cont | with_reducible apply s_break
  | with_reducible apply e_un | with_reducible apply o_U | ((with_reducible refine' o_eq ?hs ?_); (case hs => exact rfl)) | ((with_reducible refine' o_ne ?hs ?_); (case hs => exact rfl))
  | ((with_reducible refine' o_ixL ?h1 ?h2 ?_); (case h1 => walk_at "sq"); (case h2 => first | exact rfl | exact atI_zero _ _)) | with_reducible apply s_fld | with_reducible apply e_make | ((with_reducible refine' k_set ?h1 ?h2 ?h3 ?h4 ?h5 ?_); (case h1 => walk_at "hl"); (case h2 => walk_at "cls"); (case h3 => walk_at "noa"); (case h4 => walk_at "ptf"); (case h5 => walk_at "lnF")) | with_reducible apply e_tup | with_reducible apply e_bm
  | with_reducible apply e_bm0 | with_reducible apply e_if | with_reducible apply e_chain | with_reducible apply s_raise | with_reducible apply g_sub | ((with_reducible refine' c_ln ?h1 ?_); (case h1 => walk_at "sq"))
  | ((with_reducible refine' c_pop0 ?h1 ?h2 ?_); (case h1 => walk_at "hl"); (case h2 => omega)) | with_reducible apply c_isBool | with_reducible apply c_isInt | with_reducible apply c_isBoolN | with_reducible apply c_isTupI | with_reducible apply c_isNonB
  | with_reducible apply c_isNonT | ((with_reducible refine' c_isList ?h1 ?_); (case h1 => walk_at "hl")) | ((with_reducible refine' c_isTup ?h1 ?_); (case h1 => walk_at "hl")) | ((with_reducible refine' c_isTupB ?h1 ?_); (case h1 => walk_at "hl")) | with_reducible apply o_isB | with_reducible apply o_notB
  | with_reducible apply e_and | with_reducible apply e_or | with_reducible apply k_bl | with_reducible apply e_xf | with_reducible apply s_augS | ((with_reducible refine' s_augV ?hv ?_); (case hv => exact rfl))
  | with_reducible apply ip_I | with_reducible apply e_lcE | ((with_reducible refine' k_xf ?h1 ?h2 ?_); (case h1 => walk_at "hl"); (case h2 => exact look_hit _ _ _)) | ((with_reducible refine' o_slL ?h1 ?_); (case h1 => walk_at "sq")) | ((with_reducible refine' k_dget ?h1 ?h2 ?_); (case h1 => walk_at "hl"); (case h2 => with_reducible assumption)) | with_reducible apply e_dget
  | with_reducible apply s_dput | with_reducible apply e_makeK | with_reducible apply g_cons | with_reducible apply g_nil | with_reducible apply c_ab | with_reducible apply c_in
  | with_reducible apply c_mx | with_reducible apply c_mn | with_reducible apply a1 | with_reducible apply a2 | with_reducible apply a3 | with_reducible apply a4
  | with_reducible apply a5 | with_reducible apply a6 | with_reducible apply a0 | with_reducible apply t_tru | with_reducible apply t_yes | ((with_reducible refine' k_truL ?h1 ?_); (case h1 => walk_at "sq")) | with_reducible refine d_nx ?_ | with_reducible refine d_rt ?_ | with_reducible refine d_bk ?_
  | with_reducible refine d_ct ?_))
local macro_rules | `(tactic| walk_at "r") => `(tactic| (repeat walk_at "r1"))
local macro_rules | `(tactic| walk_at "sel") => `(tactic| (first | with_reducible exact Sl.Sel.here | ((with_reducible refine' Sl.Sel.there ?t); (case t => walk_at "sel"))))
local macro_rules | `(tactic| walk_at "selt") => `(tactic| (first | with_reducible exact Sl.Sels.all _ | ((with_reducible refine' Sl.Sels.skip ?t); (case t => walk_at "selt"))))
local macro_rules | `(tactic| walk_at "sels") => `(tactic| (first | with_reducible exact Sl.Sels.nil | ((with_reducible refine' Sl.Sels.cons ?a ?b); (case a => walk_at "sel"); (case b => walk_at "sels")) | walk_at "selt"))
local macro_rules | `(tactic| walk_at "selm") => `(tactic| ((try (simp only [])); (try simp only [List.map_append, List.map_cons, List.map_nil]); walk_at "sels"))
local macro_rules | `(tactic| walk_at "hg") => do
  let h := Lean.mkIdent `hs
  `(tactic| (first | (with_reducible assumption) | ((with_reducible refine' Sl.St.get $h ?s); (case s => walk_at "sel")) | ((with_reducible refine' Sl.St.geti $h ?s); (case s => walk_at "sel"))))
local macro_rules | `(tactic| walk_at "sg") => do
  let h := Lean.mkIdent `hs
  `(tactic| (first | (with_reducible assumption) | exact Or.inl (Or.inl (by walk_at "hg")) | (refine' Sl.sqA.U $h ?s; (case s => walk_at "sel"))))
local macro_rules | `(tactic| walk_at "le5") => `(tactic| (first | omega | (simp only [List.length_cons, List.length_nil, List.length_append, List.length_map]; omega) | (show _ ≤ _; decide) | (show _ < _; decide)))
local macro_rules | `(tactic| walk_at "km") => `(tactic| fail)
local macro_rules | `(tactic| walk_at "kf") => `(tactic| fail)
local macro_rules | `(tactic| walk_at "x1") => do
  let h := Lean.mkIdent `hs
  `(tactic| (first
  | with_reducible apply l_cons | ((with_reducible apply e_var); (case h => exact rfl)) | with_reducible apply l_nil | with_reducible apply s_seq | with_reducible apply e_c | with_reducible apply g_name
  | with_reducible apply s_asg | with_reducible apply e_call | with_reducible apply k_t | with_reducible apply e_op | with_reducible apply e_cb | with_reducible apply t_test
  | with_reducible apply s_if | with_reducible apply t_or | with_reducible apply t_and | with_reducible apply t_B | with_reducible apply s_next | with_reducible apply p_some
  | with_reducible apply p_no | with_reducible apply e_sl | with_reducible apply k_i | with_reducible apply Sl.e_lstS | with_reducible apply t_not | with_reducible apply o_chC | ((with_reducible refine' o_chV ?hv ?_); (case hv => exact rfl)) | with_reducible apply o_I0
  | ((with_reducible refine' o_I ?hc ?_); (case hc => walk_at "ar")) | with_reducible apply e_meth | ((with_reducible refine' k_meth ?h1 ?h2 ?_); (case h1 => walk_at "hg"); (case h2 => walk_at "nol")) | walk_at "km" | with_reducible apply e_fld
  | ((with_reducible refine' k_fld ?h1 ?h2 ?h3 ?h4 ?_); (case h1 => walk_at "hg"); (case h2 => walk_at "cls"); (case h3 => walk_at "noa"); (case h4 => walk_at "lkp")) | walk_at "kf" | with_reducible apply e_not
  | with_reducible apply s_ret | ((with_reducible refine' k_ty ?h1 ?_); (case h1 => walk_at "sg")) | with_reducible apply s_drop | with_reducible apply s_retN | with_reducible apply s_cont | with_reducible apply s_break
  | with_reducible apply e_un | with_reducible apply o_U | ((with_reducible refine' o_eq ?hs ?_); (case hs => exact rfl)) | ((with_reducible refine' o_ne ?hs ?_); (case hs => exact rfl))
  | ((with_reducible refine' o_ixL ?h1 ?h2 ?_); (case h1 => walk_at "sg"); (case h2 => first | exact rfl | exact atI_zero _ _)) | ((with_reducible refine' o_ixT ?h1 ?h2 ?_); (case h1 => walk_at "sg"); (case h2 => first | exact rfl | exact atI_zero _ _)) | with_reducible apply s_fld | with_reducible apply Sl.e_makeS
  | ((with_reducible refine' Sl.k_setS $h ?h1 ?h2 ?h3 ?h4 ?h5 ?_); (case h1 => walk_at "sel"); (case h2 => walk_at "cls"); (case h3 => walk_at "noa"); (case h4 => walk_at "ptf"); (case h5 => walk_at "lnF"); (clear $h; intro _ $h)) | with_reducible apply Sl.e_tupS | with_reducible apply e_bm
  | with_reducible apply e_bm0 | with_reducible apply e_if | with_reducible apply e_chain | with_reducible apply s_raise | with_reducible apply g_sub | ((with_reducible refine' c_ln ?h1 ?_); (case h1 => walk_at "sg")) | ((with_reducible refine' c_lnT ?h1 ?_); (case h1 => walk_at "sg"))
  | ((with_reducible refine' Sl.k_newL $h ?h1 ?_); (case h1 => walk_at "le5"); (clear $h; intro _ _ $h)) | ((with_reducible refine' Sl.k_newT $h ?h1 ?_); (case h1 => walk_at "le5"); (clear $h; intro _ _ $h)) | ((with_reducible refine' Sl.k_make $h ?_); (clear $h; intro _ _ _ $h))
  | ((with_reducible refine' Sl.c_appS $h ?h1 ?h2 ?_); (case h1 => walk_at "sel"); (case h2 => walk_at "le5"); (clear $h; intro _ $h)) | ((with_reducible refine' Sl.c_pop0S $h ?h1 ?h2 ?_); (case h1 => walk_at "sel"); (case h2 => walk_at "le5"); (clear $h; intro _ $h))
  | ((with_reducible refine' Sl.c_lsS $h ?h1 ?_); (case h1 => walk_at "sg"); (clear $h; intro _ _ $h)) | ((with_reducible refine' Sl.o_slLS $h ?h1 ?_); (case h1 => walk_at "sg"); (clear $h; intro _ _ $h)) | ((with_reducible refine' Sl.c_clrS $h ?h1 ?_); (case h1 => walk_at "sel"); (clear $h; intro _ $h))
  | ((with_reducible refine' Sl.o_catS $h ?h1 ?h2 ?h3 ?_); (case h1 => walk_at "hg"); (case h2 => walk_at "hg"); (case h3 => walk_at "le5"); (clear $h; intro _ _ $h)) | ((with_reducible refine' Sl.c_extS $h ?h1 ?h2 ?h3 ?_); (case h1 => walk_at "sel"); (case h2 => walk_at "hg"); (case h3 => walk_at "le5"); (clear $h; intro _ $h))
  | ((with_reducible refine' Sl.k_raise $h ?h1 ?_); (case h1 => exact okV_int ⟨by omega, by omega⟩); (clear $h; intro _ _ $h))
  | with_reducible apply c_isBool | with_reducible apply c_isInt | with_reducible apply c_isBoolN | with_reducible apply c_isTupI | with_reducible apply c_isNonB
  | with_reducible apply c_isNonT | ((with_reducible refine' c_isList ?h1 ?_); (case h1 => walk_at "hg")) | ((with_reducible refine' c_isTup ?h1 ?_); (case h1 => walk_at "hg")) | ((with_reducible refine' c_isTupB ?h1 ?_); (case h1 => walk_at "hg")) | with_reducible apply o_isB | with_reducible apply o_notB
  | with_reducible apply e_and | with_reducible apply e_or | with_reducible apply k_bl | with_reducible apply e_xf | with_reducible apply s_augS | ((with_reducible refine' s_augV ?hv ?_); (case hv => exact rfl)) | with_reducible apply Sl.s_aug
  | with_reducible apply ip_I | with_reducible apply e_lcE | with_reducible apply e_lcL | with_reducible apply f_lst | with_reducible apply e_lcF | with_reducible apply f_rng1 | ((with_reducible refine' k_xf ?h1 ?h2 ?_); (case h1 => walk_at "hg"); (case h2 => exact look_hit _ _ _)) | ((with_reducible refine' k_dget ?h1 ?h2 ?_); (case h1 => walk_at "hg"); (case h2 => with_reducible assumption)) | with_reducible apply e_dget
  | with_reducible apply s_dput | with_reducible apply Sl.e_makeKS | with_reducible apply g_cons | with_reducible apply g_nil | ((with_reducible refine' g_tup ?h1 ?h2 ?_); (case h1 => walk_at "sg"); (case h2 => exact rfl)) | with_reducible apply c_ab | with_reducible apply c_in
  | with_reducible apply c_mx | with_reducible apply c_mn | with_reducible apply a1 | with_reducible apply a2 | with_reducible apply a3 | with_reducible apply a4
  | with_reducible apply a5 | with_reducible apply a6 | with_reducible apply a0 | with_reducible apply t_tru | with_reducible apply t_yes | ((with_reducible refine' k_truL ?h1 ?_); (case h1 => walk_at "sg")) | with_reducible refine d_nx ?_ | with_reducible refine d_rt ?_ | with_reducible refine d_bk ?_
  | with_reducible refine d_ct ?_))
local macro_rules | `(tactic| walk_at "x") => `(tactic| (repeat walk_at "x1"))
section
variable {P : Program} {w : World} {K : PySem.W.Frag} {mg : Str → Option Value} {base : Heap} {a : Ads}
/-- what the law's settings keep to -/
def GoodS (x : SetV) : Prop := 1 ≤ x.re ∧ x.re ≤ 6 ∧ x.tr = 1 ∧ 1 ≤ x.sl ∧ x.sl ≤ 32 ∧ 1 ≤ x.co
theorem sumB_le {xs : List SetV} (h : ∀ x ∈ xs, GoodS x) : 2 * (xs.length : Int) ≤ sumB xs ∧ sumB xs ≤ 7 * xs.length := by
  induction xs with
  | nil => simp [sumB]
  | cons x r ih =>
    have h1 := h x (by simp)
    have h2 := ih fun y hy => h y (by simp [hy])
    obtain ⟨a1, a2, a3, _⟩ := h1
    simp only [sumB, List.map_cons, List.sum_cons, List.length_cons] at h2 ⊢
    omega
theorem sumS_le {xs : List SetV} (h : ∀ x ∈ xs, GoodS x) : (xs.length : Int) ≤ (xs.map (·.sl)).sum ∧ (xs.map (·.sl)).sum ≤ 32 * xs.length := by
  induction xs with
  | nil => simp
  | cons x r ih =>
    have h1 := h x (by simp)
    have h2 := ih fun y hy => h y (by simp [hy])
    obtain ⟨_, _, _, a4, a5, _⟩ := h1
    simp only [List.map_cons, List.sum_cons, List.length_cons]
    omega
theorem warm_eq {m s w : Int} (hs : 0 < s) (h1 : m ≤ w * s) (h2 : w * s < m + s) : w = (m + s - 1) / s := by
  refine (((Int.ediv_emod_unique hs (r := m + s - 1 - s * w) (q := w)).mpr ⟨by omega, ?_, ?_⟩).1).symm
  · rw [Int.mul_comm s w]; omega
  · rw [Int.mul_comm s w]; omega
def devX (a : Ads) (i : Nat) (acc : List V) : As := ex fun xs : List SetV => Sl.all [pur (xs.length = i ∧ ∀ x ∈ xs, GoodS x), lA (SetB a) acc xs]
theorem devX.U {L M : List As} {H : Hp} {i : Nat} {acc : List V} (hs : Sl.St L H) (s : Sel (devX a i acc) L M) : ∃ xs, xs.length = i ∧ (∀ x ∈ xs, GoodS x) ∧ Sl.St (lA (SetB a) acc xs :: M) H := by
  obtain ⟨xs, h⟩ := (hs.sel s).exU
  obtain ⟨⟨e1, e2⟩, h⟩ := h.allU.purU
  exact ⟨xs, e1, e2, h⟩
theorem devX.I {L M : List As} {H : Hp} {i : Nat} {acc : List V} {xs : List SetV} (hs : Sl.St L H) (s : Sel (lA (SetB a) acc xs) L M) (h1 : xs.length = i) (h2 : ∀ x ∈ xs, GoodS x) : Sl.St (devX a i acc :: M) H := by
  have z : Sl.St (Sl.all [pur (xs.length = i ∧ ∀ x ∈ xs, GoodS x), lA (SetB a) acc xs] :: M) H := Sl.St.allI (L := [_, _]) (Sl.St.purI ⟨h1, h2⟩ (hs.sel s))
  exact Sl.St.exI (P := fun xs : List SetV => Sl.all [pur (xs.length = i ∧ ∀ x ∈ xs, GoodS x), lA (SetB a) acc xs]) xs z
theorem ok_law (T : Txt P w K mg base a) : FnOk P w K mg base (L2.CX P w) 7 a.f_law a.fd_law ["script"] (sp_law K a) := by
  have G_law_state := ok_law_state T
  have G_law_draw := ok_law_draw T
  have G_law_settings := ok_law_settings T
  have G_law_near := ok_law_near T
  have G_Config_init := ok_Config_init T
  have G_law_device_due := ok_law_device_due T
  have G_admits := ok_admits T
  have G_warm_up := ok_warm_up T
  have G_latency := ok_latency T
  refine T.F_law.okX sc_law (fun vs H Q E h => A1.len h) (fun cdv A outer s H vs Q E hr h => ?_)
  have hu := hu_of hr
  obtain ⟨v_script, rfl, h⟩ := h
  refine ⟨_, (pss_cons (ps_set (i := 1) sc_law.nd rfl (by first | exact Or.inl rfl | exact Or.inr rfl) (pe_callS G_law_state (hr.mono (by decide)) rfl T.g_law_state T.F_law_state.kp T.b_law_state (fun σ => passAt (takes_of rfl rfl rfl rfl) σ) (pa_cons (pv 0) pa_nil)))
    (pss_cons (ps_set (i := 2) sc_law.nd rfl (by first | exact Or.inl rfl | exact Or.inr rfl) (pe_lc (own := [("k", 3)]) (g := (gName 3)) (tt := tYes) (te := (tCallS (sp_law_draw K a) (WE (fun _ _ _ _ => False)) (tCons (tVar 1) (tCons (tOp (rIxL K) (tLst (tCons (tC (.int 2)) (tCons (tC (.int 6)) tNil))) (tCallS (sp_law_draw K a) (WE (fun _ _ _ _ => False)) (tCons (tVar 1) (tCons (tC (.int 2)) tNil)))) tNil)))) rfl sc_law.nd (pi_range1 rfl T.g_range (pa_cons (pe_op op_add pe_int (pe_callS G_law_draw (hr.mono (by decide)) rfl T.g_law_draw T.F_law_draw.kp T.b_law_draw (fun σ => passAt (takes_of rfl rfl rfl rfl) σ) (pa_cons (pv 1) (pa_cons pe_int pa_nil)))) pa_nil)) (blkOk_by (N := ["script", "state", "rates", "k", "devices", "rate", "many", "spent", "device", "need", "jobs", "slots", "buffers", "size", "period", "config", "share", "due", "given", "told", "warm", "most"]) (sc := defScope s_law) (own := [("k", 3)]) (by decide +kernel)) (fun _ _ _ _ _ => by exact (pg_name (i := 3) sc_law.nd rfl (by first | exact Or.inl rfl | exact Or.inr rfl))) (fun _ _ _ _ _ => by exact pts_nil) (fun _ _ _ _ _ => by exact (pe_callS G_law_draw (hr.mono (by decide)) rfl T.g_law_draw T.F_law_draw.kp T.b_law_draw (fun σ => passNo) (pa_cons (pv 1) (pa_cons (pe_ix ix_list (pe_lst (pa_cons pe_int (pa_cons pe_int pa_nil))) (pe_callS G_law_draw (hr.mono (by decide)) rfl T.g_law_draw T.F_law_draw.kp T.b_law_draw (fun σ => passNo) (pa_cons (pv 1) (pa_cons pe_int pa_nil))) (fun _ _ => rfl)) pa_nil))))))
    (pss_cons (ps_set (i := 4) sc_law.nd rfl (by first | exact Or.inl rfl | exact Or.inr rfl) (pe_lc (own := [("rate", 5)]) (g := (gName 5)) (tt := tYes) (te := (tCallS (sp_law_settings K a) (WE (fun _ _ _ _ => False)) (tCons (tVar 1) (tCons (tVar 5) tNil)))) rfl sc_law.nd (pi_list (pv 2)) (blkOk_by (N := ["script", "state", "rates", "k", "devices", "rate", "many", "spent", "device", "need", "jobs", "slots", "buffers", "size", "period", "config", "share", "due", "given", "told", "warm", "most"]) (sc := defScope s_law) (own := [("rate", 5)]) (by decide +kernel)) (fun _ _ _ _ _ => by exact (pg_name (i := 5) sc_law.nd rfl (by first | exact Or.inl rfl | exact Or.inr rfl))) (fun _ _ _ _ _ => by exact pts_nil) (fun _ _ _ _ _ => by exact (pe_callS G_law_settings (hr.mono (by decide)) rfl T.g_law_settings T.F_law_settings.kp T.b_law_settings (fun σ => passNo) (pa_cons (pv 1) (pa_cons (pv 5) pa_nil))))))
    (pss_cons (ps_set (i := 6) sc_law.nd rfl (by first | exact Or.inl rfl | exact Or.inr rfl) (pe_callB call_ln (by rfl) T.g_len (by decide +kernel) (pa_cons (pv 2) pa_nil)))
    (pss_cons (ps_set (i := 7) sc_law.nd rfl (by first | exact Or.inl rfl | exact Or.inr rfl) (pe_callB (cr_sum rfl) (by rfl) T.g_sum (by decide +kernel) (pa_cons (pe_lc (own := [("device", 8)]) (g := (gName 8)) (tt := tYes) (te := (tOp (rI0 fun i j => .int (i + j)) (tFld K (tVar 8) "receive") (tFld K (tVar 8) "transmit"))) rfl sc_law.nd (pi_list (pv 4)) (blkOk_by (N := ["script", "state", "rates", "k", "devices", "rate", "many", "spent", "device", "need", "jobs", "slots", "buffers", "size", "period", "config", "share", "due", "given", "told", "warm", "most"]) (sc := defScope s_law) (own := [("device", 8)]) (by decide +kernel)) (fun _ _ _ _ _ => by exact (pg_name (i := 8) sc_law.nd rfl (by first | exact Or.inl rfl | exact Or.inr rfl))) (fun _ _ _ _ _ => by exact pts_nil) (fun _ _ _ _ _ => by exact (pe_op op_add (pe_fld (pv 8) rfl) (pe_fld (pv 8) rfl)))) pa_nil)))
    (pss_cons (ps_set (i := 9) sc_law.nd rfl (by first | exact Or.inl rfl | exact Or.inr rfl) (pe_callB (cr_max rfl) (by rfl) T.g_max (by decide +kernel) (pa_cons (pe_lc (own := [("k", 3)]) (g := (gName 3)) (tt := tYes) (te := (tOp (rI0 fun i j => .int (i + j)) (tCB rMn (tCons (tFld K (tOp (rIxL K) (tVar 4) (tVar 3)) "receive") (tCons (tOp (rI CMul fun i j => .int (i * j)) (tC (.int 2)) (tOp (rIxL K) (tVar 2) (tVar 3))) tNil))) (tC (.int 1)))) rfl sc_law.nd (pi_range1 rfl T.g_range (pa_cons (pv 6) pa_nil)) (blkOk_by (N := ["script", "state", "rates", "k", "devices", "rate", "many", "spent", "device", "need", "jobs", "slots", "buffers", "size", "period", "config", "share", "due", "given", "told", "warm", "most"]) (sc := defScope s_law) (own := [("k", 3)]) (by decide +kernel)) (fun _ _ _ _ _ => by exact (pg_name (i := 3) sc_law.nd rfl (by first | exact Or.inl rfl | exact Or.inr rfl))) (fun _ _ _ _ _ => by exact pts_nil) (fun _ _ _ _ _ => by exact (pe_op op_add (pe_callB (call_mn rfl) (by rfl) T.g_min (by decide +kernel) (pa_cons (pe_fld (pe_ix ix_list (pv 4) (pv 3) (fun _ _ => rfl)) rfl) (pa_cons (pe_op op_mul pe_int (pe_ix ix_list (pv 2) (pv 3) (fun _ _ => rfl))) pa_nil))) pe_int))) pa_nil)))
    (pss_cons (ps_set (i := 10) sc_law.nd rfl (by first | exact Or.inl rfl | exact Or.inr rfl) (pe_callS G_law_near (hr.mono (by decide)) rfl T.g_law_near T.F_law_near.kp T.b_law_near (fun σ => passAt (takes_of rfl rfl rfl rfl) σ) (pa_cons (pv 1) (pa_cons (pe_op op_mul (pe_op op_mul pe_int (pv 6)) (pv 9)) (pa_cons pe_int (pa_cons (pe_op op_sub pe_int (pv 7)) pa_nil))))))
    (Evl.pss_cut (ps_if (pt_cmpR op_eq (pe_callS G_law_draw (hr.mono (by decide)) rfl T.g_law_draw T.F_law_draw.kp T.b_law_draw (fun σ => passAt (takes_of rfl rfl rfl rfl) σ) (pa_cons (pv 1) (pa_cons pe_int pa_nil))) pe_int (nomark _)) (pss_one (ps_set (i := 10) sc_law.nd rfl (by first | exact Or.inl rfl | exact Or.inr rfl) (pe_op op_add pe_int (pe_callS G_law_draw (hr.mono (by decide)) rfl T.g_law_draw T.F_law_draw.kp T.b_law_draw (fun σ => passAt (takes_of rfl rfl rfl rfl) σ) (pa_cons (pv 1) (pa_cons (pe_op op_mul pe_int (pv 6)) pa_nil)))))) pss_nil)
    (pss_cons (ps_set (i := 10) sc_law.nd rfl (by first | exact Or.inl rfl | exact Or.inr rfl) (pe_callB (call_mx rfl) (by rfl) T.g_max (by decide +kernel) (pa_cons pe_int (pa_cons (pe_callB (call_mn rfl) (by rfl) T.g_min (by decide +kernel) (pa_cons (pv 10) (pa_cons (pe_op op_sub pe_int (pv 7)) pa_nil))) pa_nil))))
    (pss_cons (ps_set (i := 11) sc_law.nd rfl (by first | exact Or.inl rfl | exact Or.inr rfl) (pe_op op_mul pe_int (pe_callB (cr_sum rfl) (by rfl) T.g_sum (by decide +kernel) (pa_cons (pe_lc (own := [("device", 8)]) (g := (gName 8)) (tt := tYes) (te := (tFld K (tVar 8) "slots")) rfl sc_law.nd (pi_list (pv 4)) (blkOk_by (N := ["script", "state", "rates", "k", "devices", "rate", "many", "spent", "device", "need", "jobs", "slots", "buffers", "size", "period", "config", "share", "due", "given", "told", "warm", "most"]) (sc := defScope s_law) (own := [("device", 8)]) (by decide +kernel)) (fun _ _ _ _ _ => by exact (pg_name (i := 8) sc_law.nd rfl (by first | exact Or.inl rfl | exact Or.inr rfl))) (fun _ _ _ _ _ => by exact pts_nil) (fun _ _ _ _ _ => by exact (pe_fld (pv 8) rfl))) pa_nil))))
    (pss_cons (ps_set (i := 12) sc_law.nd rfl (by first | exact Or.inl rfl | exact Or.inr rfl) (pe_callS G_law_near (hr.mono (by decide)) rfl T.g_law_near T.F_law_near.kp T.b_law_near (fun σ => passAt (takes_of rfl rfl rfl rfl) σ) (pa_cons (pv 1) (pa_cons (pe_op op_add (pv 11) pe_int) (pa_cons (pe_op op_mul pe_int (pv 6)) (pa_cons pe_int pa_nil))))))
    (pss_cons (ps_set (i := 13) sc_law.nd rfl (by first | exact Or.inl rfl | exact Or.inr rfl) (pe_op op_add pe_int (pe_callS G_law_draw (hr.mono (by decide)) rfl T.g_law_draw T.F_law_draw.kp T.b_law_draw (fun σ => passAt (takes_of rfl rfl rfl rfl) σ) (pa_cons (pv 1) (pa_cons pe_int pa_nil)))))
    (pss_cons (ps_set (i := 14) sc_law.nd rfl (by first | exact Or.inl rfl | exact Or.inr rfl) (pe_callB (call_mn rfl) (by rfl) T.g_min (by decide +kernel) (pa_cons pe_int (pa_cons (pe_op op_add (pe_op op_add (pv 7) (pv 10)) (pe_callS G_law_draw (hr.mono (by decide)) rfl T.g_law_draw T.F_law_draw.kp T.b_law_draw (fun σ => passAt (takes_of rfl rfl rfl rfl) σ) (pa_cons (pv 1) (pa_cons pe_int pa_nil)))) pa_nil))))
    (pss_cons (ps_set (i := 15) sc_law.nd rfl (by first | exact Or.inl rfl | exact Or.inr rfl) (pe_makeKS (ks := ["devices", "buffers", "size", "period", "jobs"]) T.mk_Config G_Config_init (hr.mono (by decide)) rfl T.g_Config T.kb_Config_init_1 (fun σ => passAt (takes_of rfl rfl rfl rfl) σ) (pk_cons (pv 4) (pk_cons (pv 12) (pk_cons (pv 13) (pk_cons (pv 14) (pk_cons (pv 10) pk_nil)))))))
    (pss_cons (ps_set (i := 16) sc_law.nd rfl (by first | exact Or.inl rfl | exact Or.inr rfl) (pe_op op_fdiv (pv 10) (pe_op op_mul pe_int (pv 6))))
    (pss_cons (ps_set (i := 17) sc_law.nd rfl (by first | exact Or.inl rfl | exact Or.inr rfl) (pe_cmpR op_ge (pv 12) (pv 11) (nomark _)))
    (pss_cons (ps_for (passes_of rfl) rfl (pi_range1 rfl T.g_range (pa_cons (pv 6) pa_nil)) (pg_name (i := 3) sc_law.nd rfl (by first | exact Or.inl rfl | exact Or.inr rfl)) (pss_one (ps_if (pt_not (pt_val (pe_callS G_law_device_due (hr.mono (by decide)) rfl T.g_law_device_due T.F_law_device_due.kp T.b_law_device_due (fun σ => passAt (takes_of rfl rfl rfl rfl) σ) (pa_cons (pv 15) (pa_cons (pe_ix ix_list (pv 4) (pv 3) (fun _ _ => rfl)) (pa_cons (pe_ix ix_list (pv 2) (pv 3) (fun _ _ => rfl)) (pa_cons (pv 16) pa_nil))))))) (pss_one (ps_set (i := 17) sc_law.nd rfl (by first | exact Or.inl rfl | exact Or.inr rfl) pe_bl)) pss_nil)))
    (pss_cons (ps_set (i := 18) sc_law.nd rfl (by first | exact Or.inl rfl | exact Or.inr rfl) (pe_callTy call_ls (by rfl) T.g_list (by decide +kernel) (pa_cons (pv 2) pa_nil)))
    (pss_cons (ps_set (i := 19) sc_law.nd rfl (by first | exact Or.inl rfl | exact Or.inr rfl) (pe_callS G_admits (hr.mono (by decide)) rfl T.g_admits T.F_admits.kp T.b_admits (fun σ => passAt (takes_of rfl rfl rfl rfl) σ) (pa_cons (pv 15) (pa_cons (pv 18) pa_nil))))
    (pss_cons (ps_if (PW.pt (pw_or (pt_not (pt_val (pe_callB call_isi (by rfl) T.g_isinstance (by decide +kernel) (pa_cons (pv 19) (pa_cons (pe_bltn (v := .ty "bool") rfl T.g_bool (by decide +kernel) rfl) pa_nil))))) (pw_or (pt_cmpR op_ne (pv 19) (pv 17) (nomark _)) (pw_or1 (pt_cmpR (op_neD hr.units) (pv 18) (pv 2) (nomark _)))))) (pss_one (ps_ret pe_bl)) pss_nil)
    (pss_cons (ps_set (i := 20) sc_law.nd rfl (by first | exact Or.inl rfl | exact Or.inr rfl) pe_int)
    (Evl.pss_cut (ps_if (pt_cmpR op_gt (pv 16) pe_int (nomark _)) (pss_cons (ps_set (i := 21) sc_law.nd rfl (by first | exact Or.inl rfl | exact Or.inr rfl) (pe_callB (cr_max rfl) (by rfl) T.g_max (by decide +kernel) (pa_cons (pe_lc (own := [("device", 8)]) (g := (gName 8)) (tt := tYes) (te := (tFld K (tVar 8) "slots")) rfl sc_law.nd (pi_list (pv 4)) (blkOk_by (N := ["script", "state", "rates", "k", "devices", "rate", "many", "spent", "device", "need", "jobs", "slots", "buffers", "size", "period", "config", "share", "due", "given", "told", "warm", "most"]) (sc := defScope s_law) (own := [("device", 8)]) (by decide +kernel)) (fun _ _ _ _ _ => by exact (pg_name (i := 8) sc_law.nd rfl (by first | exact Or.inl rfl | exact Or.inr rfl))) (fun _ _ _ _ _ => by exact pts_nil) (fun _ _ _ _ _ => by exact (pe_fld (pv 8) rfl))) pa_nil)))
    (pss_one (ps_while (passes_of rfl) (pt_cmpR op_lt (pe_op op_mul (pv 20) (pv 16)) (pv 21) (nomark _)) (pss_one (ps_set (i := 20) sc_law.nd rfl (by first | exact Or.inl rfl | exact Or.inr rfl) (pe_op op_add (pv 20) pe_int)))))) pss_nil)
    (pss_cons (ps_if (pt_cmpR op_ne (pe_callS G_warm_up (hr.mono (by decide)) rfl T.g_warm_up T.F_warm_up.kp T.b_warm_up (fun σ => passAt (takes_of rfl rfl rfl rfl) σ) (pa_cons (pv 15) pa_nil)) (pv 20) (nomark _)) (pss_one (ps_ret pe_bl)) pss_nil)
    (pss_one (ps_ret (pe_cmpR (op_eqD hr.units) (pe_lc (own := [("k", 3)]) (g := (gName 3)) (tt := tYes) (te := (tCallS (sp_latency K a) (WE (fun _ _ _ _ => False)) (tCons (tVar 15) (tCons (tVar 3) tNil)))) rfl sc_law.nd (pi_range1 rfl T.g_range (pa_cons (pv 6) pa_nil)) (blkOk_by (N := ["script", "state", "rates", "k", "devices", "rate", "many", "spent", "device", "need", "jobs", "slots", "buffers", "size", "period", "config", "share", "due", "given", "told", "warm", "most"]) (sc := defScope s_law) (own := [("k", 3)]) (by decide +kernel)) (fun _ _ _ _ _ => by exact (pg_name (i := 3) sc_law.nd rfl (by first | exact Or.inl rfl | exact Or.inr rfl))) (fun _ _ _ _ _ => by exact pts_nil) (fun _ _ _ _ _ => by exact (pe_callS G_latency (hr.mono (by decide)) rfl T.g_latency T.F_latency.kp T.b_latency (fun σ => passNo) (pa_cons (pv 15) (pa_cons (pv 3) pa_nil))))) (pe_lc (own := [("device", 8)]) (g := (gName 8)) (tt := tYes) (te := (tOp (rI0 fun i j => .int (i + j)) (tOp (rI CMul fun i j => .int (i * j)) (tC (.int 4)) (tVar 14)) (tOp (rI CMul fun i j => .int (i * j)) (tVar 13) (tFld K (tVar 8) "idle")))) rfl sc_law.nd (pi_list (pv 4)) (blkOk_by (N := ["script", "state", "rates", "k", "devices", "rate", "many", "spent", "device", "need", "jobs", "slots", "buffers", "size", "period", "config", "share", "due", "given", "told", "warm", "most"]) (sc := defScope s_law) (own := [("device", 8)]) (by decide +kernel)) (fun _ _ _ _ _ => by exact (pg_name (i := 8) sc_law.nd rfl (by first | exact Or.inl rfl | exact Or.inr rfl))) (fun _ _ _ _ _ => by exact pts_nil) (fun _ _ _ _ _ => by exact (pe_op op_add (pe_op op_mul pe_int (pv 14)) (pe_op op_mul (pv 13) (pe_fld (pv 8) rfl))))) (nomark _))))))))))))))))))))))))))), ?_⟩
  obtain ⟨b, ns, rfl, hS, hn, k⟩ := h
  have hs : Sl.St [] H := Sl.St.nil
  walk_at "x"
  refine c_state hs hS hn fun st H1 hs _ => ?_
  walk_at "x"
  refine c_draw hs (by walk_at "sel") (by omega) (by omega) fun r1 H2 ra1 rb1 hs => ?_
  walk_at "x"
  refine k_lcFS (fun i acc => acc.length = i ∧ ∀ y ∈ acc, ∃ z, y = V.int z ∧ 0 ≤ z ∧ z ≤ 5) (fun _ _ => _) hs (by omega) (by omega) ⟨rfl, by simp⟩ (fun D i acc H' hi ha f hs R0 N y _ => ?_) fun D acc H' ha f hs => ?_
  · walk_at "x"
    refine ⟨rfl, lc_yes ?_⟩
    walk_at "x"
    refine c_draw hs (by walk_at "sel") (by omega) (by omega) fun r2 H3 ra2 rb2 hs => ?_
    walk_at "x"
    obtain ⟨m, hm, em⟩ := ix_of [2, 6] (xs := [.int 2, .int 6]) rfl ra2 (by simpa using rb2)
    refine o_ixL (by walk_at "sg") em ?_
    have hm' : 2 ≤ m ∧ m ≤ 6 := by simp at hm; omega
    walk_at "x"
    refine c_draw hs (by walk_at "sel") (by omega) (by omega) fun r3 H4 ra3 rb3 hs => ?_
    refine y _ _ ⟨by rw [List.length_append, f.1]; rfl, fun y hy => ?_⟩ (hs.perm (by walk_at "selm"))
    rcases List.mem_append.mp hy with hy | hy
    · exact f.2 y hy
    · rw [List.mem_singleton.mp hy]; exact ⟨_, rfl, ra3, by omega⟩
  obtain ⟨rs, rfl⟩ := ints_of fun y hy => (f.2 y hy).imp fun z h => h.1
  have hrl := f.1
  rw [List.length_map] at hrl
  have hrs : ∀ z ∈ rs, 0 ≤ z ∧ z ≤ 5 := fun z hz => by
    obtain ⟨z', e, h⟩ := f.2 (.int z) (List.mem_map.mpr ⟨z, hz, rfl⟩)
    cases e; exact h
  have hr4 : 1 ≤ rs.length ∧ rs.length ≤ 4 := by omega
  clear f ha
  walk_at "x"
  refine k_lcLX (fun i acc => devX a i acc) hs (by walk_at "sg") (by simp <;> omega) (fun hs => ?_) (fun i E acc H' hs => by walk_at "sg") (fun E i x acc H' hx ha hs R0 N y _ => ?_) fun dl vs H' hv hs => ?_
  · exact devX.I (xs := []) (lA.nilI hs) .here rfl (by simp)
  · rw [List.getElem?_map] at hx
    obtain ⟨z, hz1, rfl⟩ : ∃ z, rs[i]? = some z ∧ V.int z = x := by
      cases h : rs[i]? with
      | none => rw [h] at hx; cases hx
      | some z => rw [h] at hx; exact ⟨z, rfl, Option.some.inj hx⟩
    have hzz := hrs z (List.mem_of_getElem? hz1)
    walk_at "x"
    refine ⟨rfl, lc_yes ?_⟩
    walk_at "x"
    refine a2 ⟨st, z, _, _, rfl, rfl, hs, by walk_at "sel", hzz.1, hzz.2, fun p x H3 ok g1 g2 g3 g4 g5 g6 hs => ?_⟩
    have hs := SetB.I (x := x) hs .here
    obtain ⟨xs, e1, e2, hs⟩ := devX.U (acc := acc) hs (by walk_at "sel")
    have hs := lA.snocS (Pa := SetB a) (x := x) (xs := xs) hs .here (by walk_at "sel")
    have hs := devX.I (i := i + 1) hs .here (by simp [e1]) (fun w hw => by
      rcases List.mem_append.mp hw with hw | hw
      · exact e2 w hw
      · rw [List.mem_singleton.mp hw]; exact ⟨g1, g2, g3, g4, g5, g6⟩)
    exact y _ _ trivial (hs.perm (by walk_at "selm"))
  rw [List.length_map] at hs
  obtain ⟨xs, hxl, hg, hs⟩ := devX.U (acc := vs) hs (by walk_at "sel")
  have hvl := lA.lenS (Pa := SetB a) (xs := xs) hs (by walk_at "sel")
  have sb := sumB_le hg
  have ss := sumS_le hg
  walk_at "x"
  refine k_lcLS (fun i acc => acc = ((xs.take i).map fun x => x.re + x.tr).map V.int) (fun _ _ => _) hs (by walk_at "sg") (by omega) rfl (fun i E acc H' _ hs => by walk_at "sg") (fun E i x acc H' hx ha f hs R0 N y _ => ?_) fun E acc H' ha f hs => ?_
  · have hi : i < xs.length := by rw [← hvl]; exact (List.getElem?_eq_some_iff.mp hx).1
    have hU := lA.outS (Pa := SetB a) (xs := xs) hs (by walk_at "sel") (List.getElem?_eq_getElem hi)
    clear hs
    obtain ⟨v, hv, hs⟩ := hU
    cases hv.symm.trans hx
    have hU := SetB.U hs .here
    clear hs
    obtain ⟨sp, rfl, hs⟩ := hU
    have hU := SetC.U hs .here
    clear hs
    obtain ⟨dy, hs⟩ := hU
    walk_at "x"
    refine ⟨rfl, lc_yes ?_⟩
    walk_at "x"
    have hs := SetB.I (x := xs[i]) (Sl.St.exI dy hs : Sl.St (SetC a sp xs[i] :: _) _) .here
    have hs := lA.backE (Pa := SetB a) hs .here (by walk_at "sel") (List.getElem?_eq_getElem hi) hv
    refine y _ _ ?_ (hs.perm (by walk_at "selm"))
    show _ = List.map V.int (List.map (fun x => x.re + x.tr) (xs.take (i + 1)))
    rw [take_snoc (List.getElem?_eq_getElem hi), List.map_append, List.map_append, ← f]
    rfl
  rw [hvl, List.take_length] at f
  subst f
  clear ha
  have hs := hs.perm (M := [lA (SetB a) vs xs, cell dl (.lst vs), cell D (.lst (rs.map V.int)), StA st, cell E (.lst ((xs.map fun x => x.re + x.tr).map V.int))]) (by walk_at "sels")
  walk_at "x"
  refine Rd.c_sum (Or.inl (Or.inl (by walk_at "hg"))) ?_
  rw [show (xs.map fun x => x.re + x.tr).sum = sumB xs from rfl]
  have hs := hs.perm (M := [lA (SetB a) vs xs, cell dl (.lst vs), cell D (.lst (rs.map V.int)), StA st]) (by walk_at "sels")
  walk_at "x"
  rw [List.length_map]
  refine k_lcFS (fun i acc => acc.length = i ∧ ∀ y ∈ acc, ∃ z, y = V.int z ∧ 1 ≤ z ∧ z ≤ 11) (fun _ _ => _) hs (by omega) (by omega) ⟨rfl, by simp⟩ (fun E i acc H' hi ha f hs R0 N y _ => ?_) fun E2 acc H2 ha f hs => ?_
  · have hi2 : i < xs.length := by omega
    have hir : i < rs.length := by omega
    have hz := hrs rs[i] (List.getElem_mem hir)
    have hgi := hg xs[i] (List.getElem_mem hi2)
    have hU := lA.outS (Pa := SetB a) (xs := xs) hs (by walk_at "sel") (List.getElem?_eq_getElem hi2)
    clear hs
    obtain ⟨v, hv, hs⟩ := hU
    have hU := SetB.U hs .here
    clear hs
    obtain ⟨sp, rfl, hs⟩ := hU
    have hU := SetC.U hs .here
    clear hs
    obtain ⟨dy, hs⟩ := hU
    walk_at "x"
    refine ⟨rfl, lc_yes ?_⟩
    walk_at "x"
    refine o_ixL (by walk_at "sg") (atI_nat hv) ?_
    walk_at "x"
    refine o_ixL (by walk_at "sg") (atI_nat (v := V.int rs[i]) (by rw [List.getElem?_map, List.getElem?_eq_getElem hir]; rfl)) ?_
    walk_at "x"
    have hs := SetB.I (x := xs[i]) (Sl.St.exI dy hs : Sl.St (SetC a sp xs[i] :: _) _) .here
    have hs := lA.backE (Pa := SetB a) hs .here (by walk_at "sel") (List.getElem?_eq_getElem hi2) hv
    refine y _ _ ⟨by rw [List.length_append, f.1]; rfl, fun y hy => ?_⟩ (hs.perm (by walk_at "selm"))
    rcases List.mem_append.mp hy with hy | hy
    · exact f.2 y hy
    · obtain ⟨g1, g2, _⟩ := hgi
      rw [List.mem_singleton.mp hy]
      exact ⟨_, rfl, by split <;> omega, by split <;> omega⟩
  obtain ⟨nds, rfl⟩ := ints_of fun y hy => (f.2 y hy).imp fun z h => h.1
  have hnl := f.1
  rw [List.length_map] at hnl
  obtain ⟨need, hm, hmx⟩ := max_of nds (by intro e; rw [e] at hnl; simp at hnl; omega)
  have hneed : 1 ≤ need ∧ need ≤ 11 := by
    obtain ⟨z', e, h⟩ := f.2 (.int need) (List.mem_map.mpr ⟨need, hm, rfl⟩)
    cases e; exact h
  walk_at "x"
  refine c_max (Or.inl (Or.inl (by walk_at "hg"))) hm hmx ?_
  have hs := hs.perm (M := [lA (SetB a) vs xs, cell dl (.lst vs), cell D (.lst (rs.map V.int)), StA st]) (by walk_at "sels")
  clear f hm hmx hnl ha
  walk_at "x"
  refine Rd.a4 ⟨st, 6 * (rs.length : Int) * need, 1, 64 - sumB xs, _, _, rfl, rfl, rfl, rfl, hs, by walk_at "sel", by omega, fun jb0 H3 e1 e2 hs => ?_⟩
  walk_at "x"
  refine s_cut (fun σ H' => ∃ jb : Int, 1 ≤ jb ∧ σ = [some (.ref b), some (.ref st), some (.ref D), none, some (.ref dl), none, some (.int rs.length), some (.int (sumB xs)), none, some (.int need), some (.int jb), none, none, none, none, none, none, none, none, none, none, none] ∧ Sl.St [lA (SetB a) vs xs, cell dl (.lst vs), cell D (.lst (rs.map V.int)), StA st] H') ?_ ?_
  · walk_at "x"
    refine c_draw hs (by walk_at "sel") (by omega) (by omega) fun r2 H4 ra2 rb2 hs => ?_
    walk_at "x"
    refine if_d (fun c => ?_) (fun c => ?_)
    · walk_at "x"
      refine c_draw hs (by walk_at "sel") (by omega) (by omega) fun r3 H5 ra3 rb3 hs => ?_
      walk_at "x"
      exact ⟨_, by omega, rfl, hs.perm (by walk_at "sels")⟩
    · walk_at "x"
      exact ⟨_, by omega, rfl, hs.perm (by walk_at "sels")⟩
  clear hs e1 e2
  rintro σ H4 ⟨jb, hjb, rfl, hs⟩
  walk_at "x"
  generalize hj2 : (if (if 64 - sumB xs < jb then 64 - sumB xs else jb) > 1 then (if 64 - sumB xs < jb then 64 - sumB xs else jb) else 1) = j2
  have hj2' : 1 ≤ j2 ∧ j2 ≤ 64 - sumB xs := by rw [← hj2]; split <;> split <;> omega
  clear hj2
  refine k_lcLS (fun i acc => acc = ((xs.take i).map fun x => x.sl).map V.int) (fun _ _ => _) hs (by walk_at "sg") (by omega) rfl (fun i E acc H' _ hs => by walk_at "sg") (fun E i x acc H' hx ha f hs R0 N y _ => ?_) fun E acc H' ha f hs => ?_
  · have hi : i < xs.length := by rw [← hvl]; exact (List.getElem?_eq_some_iff.mp hx).1
    have hU := lA.outS (Pa := SetB a) (xs := xs) hs (by walk_at "sel") (List.getElem?_eq_getElem hi)
    clear hs
    obtain ⟨v, hv, hs⟩ := hU
    cases hv.symm.trans hx
    have hU := SetB.U hs .here
    clear hs
    obtain ⟨sp, rfl, hs⟩ := hU
    have hU := SetC.U hs .here
    clear hs
    obtain ⟨dy, hs⟩ := hU
    walk_at "x"
    refine ⟨rfl, lc_yes ?_⟩
    walk_at "x"
    have hs := SetB.I (x := xs[i]) (Sl.St.exI dy hs : Sl.St (SetC a sp xs[i] :: _) _) .here
    have hs := lA.backE (Pa := SetB a) hs .here (by walk_at "sel") (List.getElem?_eq_getElem hi) hv
    refine y _ _ ?_ (hs.perm (by walk_at "selm"))
    show _ = List.map V.int (List.map (fun x => x.sl) (xs.take (i + 1)))
    rw [take_snoc (List.getElem?_eq_getElem hi), List.map_append, List.map_append, ← f]
    rfl
  rw [hvl, List.take_length] at f
  subst f
  clear ha
  have hs := hs.perm (M := [lA (SetB a) vs xs, cell dl (.lst vs), cell D (.lst (rs.map V.int)), StA st, cell E (.lst ((xs.map fun x => x.sl).map V.int))]) (by walk_at "sels")
  walk_at "x"
  refine Rd.c_sum (Or.inl (Or.inl (by walk_at "hg"))) ?_
  have hs := hs.perm (M := [lA (SetB a) vs xs, cell dl (.lst vs), cell D (.lst (rs.map V.int)), StA st]) (by walk_at "sels")
  walk_at "x"
  generalize hS : (xs.map fun x => x.sl).sum = SS at ss ⊢
  refine Rd.a4 ⟨st, 2 * SS + 1, 2 * (rs.length : Int), 256, _, _, rfl, rfl, rfl, rfl, hs, by walk_at "sel", by omega, fun bu H5 e3 e4 hs => ?_⟩
  walk_at "x"
  refine c_draw hs (by walk_at "sel") (by omega) (by omega) fun r4 H6 ra4 rb4 hs => ?_
  walk_at "x"
  refine c_draw hs (by walk_at "sel") (by omega) (by omega) fun r5 H7 ra5 rb5 hs => ?_
  walk_at "x"
  generalize hpe : (if sumB xs + j2 + r5 < 64 then sumB xs + j2 + r5 else 64) = pe
  have hpe' : sumB xs + j2 ≤ pe ∧ pe ≤ 64 := by rw [← hpe]; split <;> omega
  clear hpe
  refine k_makeK hs rfl fun p dx H8 hs => ?_
  have okc : firstFail (chkC xs bu (1 + r4) pe j2) = none := by
    unfold chkC
    repeat rw [ff_T (decide_eq_true (by first | omega | exact ⟨by omega, by omega⟩))]
    rfl
  show sp_Config_init K a [.ref p, .ref dl, .int bu, .int (1 + r4), .int pe, .int j2] H8 _ _
  refine c_config (c := ⟨bu, 1 + r4, pe, j2⟩) (xs := xs) (vs := vs) hs .here (hs.get (by walk_at "sel")) (setsB hs (by walk_at "sel")) (by omega) okc fun dl2 H9 hs => ⟨rfl, ?_⟩
  have hs := hs.perm (M := [CfC a p dl2 ⟨bu, 1 + r4, pe, j2⟩, cell dl2 (.lst vs), lA (SetB a) vs xs, cell dl (.lst vs), cell D (.lst (rs.map V.int)), StA st]) (by walk_at "sels")
  have esh : j2 / (3 * (rs.length : Int)) = shareI ⟨bu, 1 + r4, pe, j2⟩ xs := by unfold shareI; rw [hxl]
  have hsh : 0 ≤ shareI ⟨bu, 1 + r4, pe, j2⟩ xs ∧ shareI ⟨bu, 1 + r4, pe, j2⟩ xs ≤ 1000 := ⟨Int.ediv_nonneg (by show 0 ≤ j2; omega) (by omega), Int.le_trans (Int.ediv_le_self _ (by show 0 ≤ j2; omega)) (by show j2 ≤ 1000; omega)⟩
  walk_at "x"
  rw [esh]
  generalize hshe : shareI ⟨bu, 1 + r4, pe, j2⟩ xs = sh at hsh ⊢
  refine k_rng (fun i σ H' => ∃ u : Option V, σ = [some (.ref b), some (.ref st), some (.ref D), u, some (.ref dl), none, some (.int rs.length), some (.int (sumB xs)), none, some (.int need), some (.int j2), some (.int (2 * SS)), some (.int bu), some (.int (1 + r4)), some (.int pe), some (.ref p), some (.int sh), some (.bl (decide (2 * SS ≤ bu) && ((xs.zip rs).take i).all fun q => dueD q.1 q.2 sh)), none, none, none, none] ∧ Sl.St [CfC a p dl2 ⟨bu, 1 + r4, pe, j2⟩, cell dl2 (.lst vs), lA (SetB a) vs xs, cell dl (.lst vs), cell D (.lst (rs.map V.int)), StA st] H') (by omega) (by omega) ⟨_, by simp only [List.take_zero, List.all_nil, Bool.and_true]; rfl, hs⟩ ?_ ?_
  · clear hs
    rintro i σ H' hi ⟨u, rfl, hs⟩
    have hi2 : i < xs.length := by omega
    have hir : i < rs.length := by omega
    have hz0 : (xs.zip rs)[i]? = some (xs[i], rs[i]) := by rw [List.getElem?_zip_eq_some]; exact ⟨List.getElem?_eq_getElem hi2, List.getElem?_eq_getElem hir⟩
    have hgi := hg xs[i] (List.getElem_mem hi2)
    have hU := lA.outS (Pa := SetB a) (xs := xs) hs (by walk_at "sel") (List.getElem?_eq_getElem hi2)
    clear hs
    obtain ⟨v, hv, hs⟩ := hU
    have hU := SetB.U hs .here
    clear hs
    obtain ⟨sp, rfl, hs⟩ := hU
    walk_at "x"
    refine o_ixL (by walk_at "sg") (atI_nat hv) ?_
    walk_at "x"
    refine o_ixL (by walk_at "sg") (atI_nat (v := V.int rs[i]) (by rw [List.getElem?_map, List.getElem?_eq_getElem hir]; rfl)) ?_
    walk_at "x"
    refine Rd.a4 ⟨rs[i], sh, rfl, rfl, sp, xs[i], _, _, rfl, hs, .here, hgi.2.2.2.2.2, ?_⟩
    have hs := SetB.I (x := xs[i]) hs .here
    have hs := lA.backE (Pa := SetB a) hs .here (by walk_at "sel") (List.getElem?_eq_getElem hi2) hv
    walk_at "x"
    have eall : ((xs.zip rs).take (i + 1)).all (fun q => dueD q.1 q.2 sh) = (((xs.zip rs).take i).all (fun q => dueD q.1 q.2 sh) && dueD xs[i] rs[i] sh) := by
      rw [take_snoc hz0, List.all_append, List.all_cons, List.all_nil, Bool.and_true]
    cases hd : dueD xs[i] rs[i] sh with
    | true =>
      refine iteF ?_
      walk_at "x"
      exact ⟨_, by rw [eall, hd, Bool.and_true]; rfl, hs.perm (by walk_at "sels")⟩
    | false =>
      refine iteT ?_
      walk_at "x"
      exact ⟨_, by rw [eall, hd, Bool.and_false, Bool.and_false]; rfl, hs.perm (by walk_at "sels")⟩
  rintro σ H' ⟨u, rfl, hs⟩
  rw [List.take_of_length_le (by rw [List.length_zip]; omega)]
  have hs := CfgA.I2 (xs := xs) hs (by walk_at "sels")
  walk_at "x"
  refine Rd.a2 ⟨p, _, ⟨bu, 1 + r4, pe, j2⟩, vs, xs, rs, _, _, rfl, rfl, hs, by walk_at "sels", by omega, by omega, by omega, fun H2 hs => ?_⟩
  rw [hshe]
  simp only [hS]
  walk_at "x"
  refine iteF ?_
  walk_at "x"
  refine if_ndF rfl ?_
  walk_at "x"
  refine o_neL (Or.inl (Or.inl (by walk_at "hg"))) (Or.inl (Or.inl (by walk_at "hg"))) (flat_ints _) ?_
  walk_at "x"
  refine iteF ?_
  walk_at "x"
  refine s_cut (fun σ H' => ∃ (w : Int) (u2 u5 u6 : Option V), (sh = 0 → w = 0) ∧ (sh ≠ 0 → ∀ m, m ∈ xs.map (·.sl) → (∀ y ∈ xs.map (·.sl), y ≤ m) → w = (m + sh - 1) / sh) ∧ σ = [some (.ref b), some (.ref st), some (.ref D), u, some (.ref dl), none, some (.int rs.length), some (.int (sumB xs)), none, some (.int need), some (.int j2), some (.int (2 * SS)), some (.int bu), some (.int (1 + r4)), some (.int pe), some (.ref p), some (.int sh), some (.bl (decide (2 * SS ≤ bu) && (xs.zip rs).all fun q => dueD q.1 q.2 sh)), u5, u6, some (.int w), u2] ∧ Sl.St [CfgA a p ⟨bu, 1 + r4, pe, j2⟩ vs xs, cell dl (.lst vs), cell D (.lst (rs.map V.int)), StA st] H') ?_ ?_
  · walk_at "x"
    refine if_d (fun c => ?_) (fun c => ?_)
    · have hU := CfgA.U hs (by walk_at "sel")
      clear hs
      obtain ⟨dxc, dlc, _, hs⟩ := hU
      walk_at "x"
      refine k_lcLS (fun i acc => acc = ((xs.take i).map fun x => x.sl).map V.int) (fun _ _ => _) hs (by walk_at "sg") (by omega) rfl (fun i E acc H' _ hs => by walk_at "sg") (fun E i x acc H' hx ha f hs R0 N y _ => ?_) fun E acc H' ha f hs => ?_
      · have hi : i < xs.length := by rw [← hvl]; exact (List.getElem?_eq_some_iff.mp hx).1
        have hU := lA.outS (Pa := SetB a) (xs := xs) hs (by walk_at "sel") (List.getElem?_eq_getElem hi)
        clear hs
        obtain ⟨v, hv, hs⟩ := hU
        cases hv.symm.trans hx
        have hU := SetB.U hs .here
        clear hs
        obtain ⟨sp, rfl, hs⟩ := hU
        have hU := SetC.U hs .here
        clear hs
        obtain ⟨dy, hs⟩ := hU
        walk_at "x"
        refine ⟨rfl, lc_yes ?_⟩
        walk_at "x"
        have hs := SetB.I (x := xs[i]) (Sl.St.exI dy hs : Sl.St (SetC a sp xs[i] :: _) _) .here
        have hs := lA.backE (Pa := SetB a) hs .here (by walk_at "sel") (List.getElem?_eq_getElem hi) hv
        refine y _ _ ?_ (hs.perm (by walk_at "selm"))
        show _ = List.map V.int (List.map (fun x => x.sl) (xs.take (i + 1)))
        rw [take_snoc (List.getElem?_eq_getElem hi), List.map_append, List.map_append, ← f]
        rfl
      rw [hvl, List.take_length] at f
      subst f
      clear ha
      obtain ⟨m, hm, hmx⟩ := max_of (xs.map fun x => x.sl) (by intro e; have := congrArg List.length e; simp at this; rw [this] at hxl; simp at hxl; omega)
      walk_at "x"
      refine c_max (Or.inl (Or.inl (by walk_at "hg"))) hm hmx ?_
      have hm1 : 1 ≤ m ∧ m ≤ 32 := by
        obtain ⟨x, hx, rfl⟩ := List.mem_map.mp hm
        have := hg x hx
        exact ⟨this.2.2.2.1, this.2.2.2.2.1⟩
      have hs := CfgA.I (xs := xs) hs (by walk_at "sels")
      have hs := hs.perm (M := [CfgA a p ⟨bu, 1 + r4, pe, j2⟩ vs xs, cell dl (.lst vs), cell D (.lst (rs.map V.int)), StA st]) (by walk_at "sels")
      walk_at "x"
      refine w_by (fun q σ H' => ∃ (w : Int) (u5 u6 : Option V), 0 ≤ w ∧ w ≤ 40 ∧ (w = 0 ∨ (w - 1) * sh < m) ∧ q = (50 - w).toNat ∧ σ = [some (.ref b), some (.ref st), some (.ref D), u, some (.ref dl), none, some (.int rs.length), some (.int (sumB xs)), none, some (.int need), some (.int j2), some (.int (2 * SS)), some (.int bu), some (.int (1 + r4)), some (.int pe), some (.ref p), some (.int sh), some (.bl (decide (2 * SS ≤ bu) && (xs.zip rs).all fun q => dueD q.1 q.2 sh)), u5, u6, some (.int w), some (.int m)] ∧ Sl.St [CfgA a p ⟨bu, 1 + r4, pe, j2⟩ vs xs, cell dl (.lst vs), cell D (.lst (rs.map V.int)), StA st] H') _ ⟨0, _, _, by omega, by omega, .inl rfl, rfl, rfl, hs⟩ ?_
      clear hs
      rintro q σ H' ⟨w, u5, u6, w0, w40, hw, rfl, rfl, hs⟩
      walk_at "x"
      refine if_d (fun c2 => ?_) (fun c2 => ?_)
      · refine ⟨_, fun _ _ h => h, ?_⟩
        walk_at "x"
        have hw32 : w < m := Int.lt_of_le_of_lt (by have := Int.mul_le_mul_of_nonneg_left (show (1 : Int) ≤ sh by omega) w0; omega) c2
        exact ⟨(50 - (w + 1)).toNat, by omega, w + 1, _, _, by omega, by omega, .inr (by rw [Int.add_sub_cancel]; exact c2), rfl, rfl, hs⟩
      · refine ⟨w, _, _, _, fun h => by omega, fun _ m' q1 q2 => ?_, rfl, hs⟩
        have hmm : m' = m := Int.le_antisymm (hmx m' q1) (q2 m hm)
        subst hmm
        refine warm_eq (by omega) (by omega) ?_
        rcases hw with rfl | hw
        · rw [Int.zero_mul]; omega
        · rw [Int.sub_mul] at hw; omega
    · walk_at "x"
      exact ⟨0, _, _, _, fun _ => rfl, fun h => absurd (show sh = 0 by omega) h, rfl, hs.perm (by walk_at "sels")⟩
  clear hs
  rintro σ H4 ⟨w, u2, u5, u6, hw0, hw1, rfl, hs⟩
  walk_at "x"
  refine Rd.a1 ⟨p, ⟨bu, 1 + r4, pe, j2⟩, vs, xs, _, _, rfl, hs, by walk_at "sel", by omega, by omega, (by show 0 ≤ j2; omega), (by show j2 ≤ 1000; omega), fun w2 H5 hv0 hv1 hs => ?_⟩
  rw [hshe] at hv0 hv1
  have hww : w2 = w := by
    by_cases h0 : sh = 0
    · rw [hv0 h0, hw0 h0]
    · obtain ⟨m, q1, q2, q3⟩ := hv1 h0
      rw [q3, hw1 h0 m q1 q2]
  subst hww
  walk_at "x"
  refine if_ndF rfl ?_
  walk_at "x"
  refine k_lcFS (fun i acc => acc = ((xs.take i).map fun x => 4 * pe + (1 + r4) * x.id).map V.int) (fun _ _ => _) hs (by omega) (by omega) rfl (fun E i acc H' hi ha f hs R0 N y _ => ?_) fun E2 acc H6 ha f hs => ?_
  · have hi2 : i < xs.length := by omega
    walk_at "x"
    refine ⟨rfl, lc_yes ?_⟩
    walk_at "x"
    refine a2 ⟨p, ⟨bu, 1 + r4, pe, j2⟩, vs, xs, i, xs[i], _, _, rfl, rfl, hs, by walk_at "sel", List.getElem?_eq_getElem hi2, (by show 0 ≤ 1 + r4; omega), (by show 1 + r4 ≤ 16; omega), ?_⟩
    refine y _ _ ?_ (hs.perm (by walk_at "selm"))
    show _ = List.map V.int (List.map (fun x => 4 * pe + (1 + r4) * x.id) (xs.take (i + 1)))
    rw [take_snoc (List.getElem?_eq_getElem hi2), List.map_append, List.map_append, ← f]
    rfl
  rw [Int.toNat_natCast, ← hxl, List.take_length] at f
  subst f
  have hU := CfgA.U hs (by walk_at "sel")
  clear hs
  obtain ⟨dxc, dlc, _, hs⟩ := hU
  walk_at "x"
  refine k_lcLS (fun i acc => acc = ((xs.take i).map fun x => 4 * pe + (1 + r4) * x.id).map V.int) (fun _ _ => _) hs (by walk_at "sg") (by omega) rfl (fun i E acc H' _ hs => by walk_at "sg") (fun E i x acc H' hx ha f hs R0 N y _ => ?_) fun E acc H' ha f hs => ?_
  · have hi : i < xs.length := by rw [← hvl]; exact (List.getElem?_eq_some_iff.mp hx).1
    have hU := lA.outS (Pa := SetB a) (xs := xs) hs (by walk_at "sel") (List.getElem?_eq_getElem hi)
    clear hs
    obtain ⟨v, hv, hs⟩ := hU
    cases hv.symm.trans hx
    have hU := SetB.U hs .here
    clear hs
    obtain ⟨sp, rfl, hs⟩ := hU
    have hU := SetC.U hs .here
    clear hs
    obtain ⟨dy, hs⟩ := hU
    walk_at "x"
    refine ⟨rfl, lc_yes ?_⟩
    walk_at "x"
    have hs := SetB.I (x := xs[i]) (Sl.St.exI dy hs : Sl.St (SetC a sp xs[i] :: _) _) .here
    have hs := lA.backE (Pa := SetB a) hs .here (by walk_at "sel") (List.getElem?_eq_getElem hi) hv
    refine y _ _ ?_ (hs.perm (by walk_at "selm"))
    show _ = List.map V.int (List.map (fun x => 4 * pe + (1 + r4) * x.id) (xs.take (i + 1)))
    rw [take_snoc (List.getElem?_eq_getElem hi), List.map_append, List.map_append, ← f]
    rfl
  rw [hvl, List.take_length] at f
  subst f
  walk_at "x"
  refine o_eqL (Or.inl (Or.inl (by walk_at "hg"))) (Or.inl (Or.inl (by walk_at "hg"))) (flat_ints _) ?_
  exact k _
end
end My
set_option Elab.async false
set_option maxRecDepth 100000
set_option maxHeartbeats 100000000
set_option linter.all false
namespace My
open PySem L2 Sx Rd Sl
local macro_rules | `(tactic| walk_at "ne") => `(tactic| (first | with_reducible assumption | with_reducible exact Ne.symm (by with_reducible assumption)))
local macro_rules | `(tactic| walk_at "nin") => `(tactic| (simp only [List.mem_cons, List.not_mem_nil, or_false, not_or, not_false_eq_true]; (repeat' refine And.intro ?_ ?_); (all_goals walk_at "ne")))
local macro_rules | `(tactic| walk_at "hl") => `(tactic| (first | (with_reducible assumption) | exact upd_same | ((with_reducible refine' (upd_ne ?hne).trans ?hgo); (case hne => walk_at "ne"); (case hgo => walk_at "hl"))))
local macro_rules | `(tactic| walk_at "sq") => `(tactic| (first | (with_reducible assumption) | exact Or.inl (Or.inl (by walk_at "hl"))))
local macro_rules | `(tactic| walk_at "ar") => `(tactic| (first | omega | exact ⟨by omega, by omega⟩ | exact Or.inl ⟨by omega, by omega⟩ | exact Or.inr ⟨by omega, by omega⟩ | (show (0 : Int) < _; omega) | (show (0 : Int) < _ ∧ _ < (1073741824 : Int); omega)))
local macro_rules | `(tactic| walk_at "cls") => `(tactic| (first | exact Txt.cl_Settings (by assumption) | exact Txt.cl_Config (by assumption)))
local macro_rules | `(tactic| walk_at "noa") => `(tactic| (first | exact Txt.n_Settings_queue (by assumption) | exact Txt.n_Settings_sending (by assumption) | exact Txt.n_Settings_slots (by assumption) | exact Txt.n_Settings_pace (by assumption) | exact Txt.n_Settings_count_limit (by assumption) | exact Txt.n_Settings_wait (by assumption) | exact Txt.n_Settings_idle (by assumption) | exact Txt.n_Settings_room (by assumption) | exact Txt.n_Settings_receive (by assumption) | exact Txt.n_Settings_transmit (by assumption) | exact Txt.n_Config_devices (by assumption) | exact Txt.n_Config_buffers (by assumption) | exact Txt.n_Config_size (by assumption) | exact Txt.n_Config_period (by assumption) | exact Txt.n_Config_jobs (by assumption)))
local macro_rules | `(tactic| walk_at "lkp") => `(tactic| (first | (with_reducible exact F_Settings_queue_l) | (with_reducible exact F_Settings_sending_l) | (with_reducible exact F_Settings_slots_l) | (with_reducible exact F_Settings_pace_l) | (with_reducible exact F_Settings_count_limit_l) | (with_reducible exact F_Settings_wait_l) | (with_reducible exact F_Settings_idle_l) | (with_reducible exact F_Settings_room_l) | (with_reducible exact F_Settings_receive_l) | (with_reducible exact F_Settings_transmit_l) | (with_reducible exact F_Config_devices_l) | (with_reducible exact F_Config_buffers_l) | (with_reducible exact F_Config_size_l) | (with_reducible exact F_Config_period_l) | (with_reducible exact F_Config_jobs_l)))
local macro_rules | `(tactic| walk_at "ptf") => `(tactic| (first | (with_reducible exact F_Settings_queue_p) | (with_reducible exact F_Settings_sending_p) | (with_reducible exact F_Settings_slots_p) | (with_reducible exact F_Settings_pace_p) | (with_reducible exact F_Settings_count_limit_p) | (with_reducible exact F_Settings_wait_p) | (with_reducible exact F_Settings_idle_p) | (with_reducible exact F_Settings_room_p) | (with_reducible exact F_Settings_receive_p) | (with_reducible exact F_Settings_transmit_p) | (with_reducible exact F_Config_devices_p) | (with_reducible exact F_Config_buffers_p) | (with_reducible exact F_Config_size_p) | (with_reducible exact F_Config_period_p) | (with_reducible exact F_Config_jobs_p) | exact rfl))
local macro_rules | `(tactic| walk_at "lnF") => `(tactic| (first | (with_reducible exact F_Settings_len) | (with_reducible exact F_Config_len) | (refine PL.lt (n := 60) ?_ (by decide); (repeat refine PL.put ?_); exact PL.nil) | decide))
local macro_rules | `(tactic| walk_at "nol") => `(tactic| (first | fail))
local macro_rules | `(tactic| walk_at "r1") => `(tactic| (first
  | with_reducible apply l_cons | ((with_reducible apply e_var); (case h => exact rfl)) | with_reducible apply l_nil | with_reducible apply s_seq | with_reducible apply e_c | with_reducible apply g_name
  | with_reducible apply s_asg | with_reducible apply e_call | with_reducible apply k_t | with_reducible apply e_op | with_reducible apply e_cb | with_reducible apply t_test
  | with_reducible apply s_if | with_reducible apply t_or | with_reducible apply t_and | with_reducible apply t_B | with_reducible apply s_next | with_reducible apply p_some
  | with_reducible apply p_no | with_reducible apply e_sl | with_reducible apply k_i | with_reducible apply e_lst | with_reducible apply t_not | with_reducible apply o_chC | ((with_reducible refine' o_chV ?hv ?_); (case hv => exact rfl)) | with_reducible apply o_I0
  | ((with_reducible refine' o_I ?hc ?_); (case hc => walk_at "ar")) | with_reducible apply e_meth | ((with_reducible refine' k_meth ?h1 ?h2 ?_); (case h1 => walk_at "hl"); (case h2 => walk_at "nol")) | with_reducible apply e_fld | ((with_reducible refine' k_fld ?h1 ?h2 ?h3 ?h4 ?_); (case h1 => walk_at "hl"); (case h2 => walk_at "cls"); (case h3 => walk_at "noa"); (case h4 => walk_at "lkp")) | with_reducible apply e_not
  | with_reducible apply s_ret | ((with_reducible refine' k_ty ?h1 ?_); (case h1 => walk_at "sq")) | with_reducible apply s_drop | with_reducible apply s_retN | with_reducible apply s_cont | with_reducible apply s_break
  | with_reducible apply e_un | with_reducible apply o_U | ((with_reducible refine' o_eq ?hs ?_); (case hs => exact rfl)) | ((with_reducible refine' o_ne ?hs ?_); (case hs => exact rfl))
  | ((with_reducible refine' o_ixL ?h1 ?h2 ?_); (case h1 => walk_at "sq"); (case h2 => first | exact rfl | exact atI_zero _ _)) | with_reducible apply s_fld | with_reducible apply e_make | ((with_reducible refine' k_set ?h1 ?h2 ?h3 ?h4 ?h5 ?_); (case h1 => walk_at "hl"); (case h2 => walk_at "cls"); (case h3 => walk_at "noa"); (case h4 => walk_at "ptf"); (case h5 => walk_at "lnF")) | with_reducible apply e_tup | with_reducible apply e_bm
  | with_reducible apply e_bm0 | with_reducible apply e_if | with_reducible apply e_chain | with_reducible apply s_raise | with_reducible apply g_sub | ((with_reducible refine' c_ln ?h1 ?_); (case h1 => walk_at "sq"))
  | ((with_reducible refine' c_pop0 ?h1 ?h2 ?_); (case h1 => walk_at "hl"); (case h2 => omega)) | with_reducible apply c_isBool | with_reducible apply c_isInt | with_reducible apply c_isBoolN | with_reducible apply c_isTupI | with_reducible apply c_isNonB
  | with_reducible apply c_isNonT | ((with_reducible refine' c_isList ?h1 ?_); (case h1 => walk_at "hl")) | ((with_reducible refine' c_isTup ?h1 ?_); (case h1 => walk_at "hl")) | ((with_reducible refine' c_isTupB ?h1 ?_); (case h1 => walk_at "hl")) | with_reducible apply o_isB | with_reducible apply o_notB
  | with_reducible apply e_and | with_reducible apply e_or | with_reducible apply k_bl | with_reducible apply e_xf | with_reducible apply s_augS | ((with_reducible refine' s_augV ?hv ?_); (case hv => exact rfl))
  | with_reducible apply ip_I | with_reducible apply e_lcE | ((with_reducible refine' k_xf ?h1 ?h2 ?_); (case h1 => walk_at "hl"); (case h2 => exact look_hit _ _ _)) | ((with_reducible refine' o_slL ?h1 ?_); (case h1 => walk_at "sq")) | ((with_reducible refine' k_dget ?h1 ?h2 ?_); (case h1 => walk_at "hl"); (case h2 => with_reducible assumption)) | with_reducible apply e_dget
  | with_reducible apply s_dput | with_reducible apply e_makeK | with_reducible apply g_cons | with_reducible apply g_nil | with_reducible apply c_ab | with_reducible apply c_in
  | with_reducible apply c_mx | with_reducible apply c_mn | with_reducible apply a1 | with_reducible apply a2 | with_reducible apply a3 | with_reducible apply a4
  | with_reducible apply a5 | with_reducible apply a6 | with_reducible apply a0 | with_reducible apply t_tru | with_reducible apply t_yes | ((with_reducible refine' k_truL ?h1 ?_); (case h1 => walk_at "sq")) | with_reducible refine d_nx ?_ | with_reducible refine d_rt ?_ | with_reducible refine d_bk ?_
  | with_reducible refine d_ct ?_))
local macro_rules | `(tactic| walk_at "r") => `(tactic| (repeat walk_at "r1"))
local macro_rules | `(tactic| walk_at "sel") => `(tactic| (first | with_reducible exact Sl.Sel.here | ((with_reducible refine' Sl.Sel.there ?t); (case t => walk_at "sel"))))
local macro_rules | `(tactic| walk_at "selt") => `(tactic| (first | with_reducible exact Sl.Sels.all _ | ((with_reducible refine' Sl.Sels.skip ?t); (case t => walk_at "selt"))))
local macro_rules | `(tactic| walk_at "sels") => `(tactic| (first | with_reducible exact Sl.Sels.nil | ((with_reducible refine' Sl.Sels.cons ?a ?b); (case a => walk_at "sel"); (case b => walk_at "sels")) | walk_at "selt"))
local macro_rules | `(tactic| walk_at "selm") => `(tactic| ((try (simp only [])); (try simp only [List.map_append, List.map_cons, List.map_nil]); walk_at "sels"))
local macro_rules | `(tactic| walk_at "hg") => do
  let h := Lean.mkIdent `hs
  `(tactic| (first | (with_reducible assumption) | ((with_reducible refine' Sl.St.get $h ?s); (case s => walk_at "sel")) | ((with_reducible refine' Sl.St.geti $h ?s); (case s => walk_at "sel"))))
local macro_rules | `(tactic| walk_at "sg") => do
  let h := Lean.mkIdent `hs
  `(tactic| (first | (with_reducible assumption) | exact Or.inl (Or.inl (by walk_at "hg")) | (refine' Sl.sqA.U $h ?s; (case s => walk_at "sel"))))
local macro_rules | `(tactic| walk_at "le5") => `(tactic| (first | omega | (simp only [List.length_cons, List.length_nil, List.length_append, List.length_map]; omega) | (show _ ≤ _; decide) | (show _ < _; decide)))
local macro_rules | `(tactic| walk_at "km") => `(tactic| fail)
local macro_rules | `(tactic| walk_at "kf") => `(tactic| fail)
local macro_rules | `(tactic| walk_at "x1") => do
  let h := Lean.mkIdent `hs
  `(tactic| (first
  | with_reducible apply l_cons | ((with_reducible apply e_var); (case h => exact rfl)) | with_reducible apply l_nil | with_reducible apply s_seq | with_reducible apply e_c | with_reducible apply g_name
  | with_reducible apply s_asg | with_reducible apply e_call | with_reducible apply k_t | with_reducible apply e_op | with_reducible apply e_cb | with_reducible apply t_test
  | with_reducible apply s_if | with_reducible apply t_or | with_reducible apply t_and | with_reducible apply t_B | with_reducible apply s_next | with_reducible apply p_some
  | with_reducible apply p_no | with_reducible apply e_sl | with_reducible apply k_i | with_reducible apply Sl.e_lstS | with_reducible apply t_not | with_reducible apply o_chC | ((with_reducible refine' o_chV ?hv ?_); (case hv => exact rfl)) | with_reducible apply o_I0
  | ((with_reducible refine' o_I ?hc ?_); (case hc => walk_at "ar")) | with_reducible apply e_meth | ((with_reducible refine' k_meth ?h1 ?h2 ?_); (case h1 => walk_at "hg"); (case h2 => walk_at "nol")) | walk_at "km" | with_reducible apply e_fld
  | ((with_reducible refine' k_fld ?h1 ?h2 ?h3 ?h4 ?_); (case h1 => walk_at "hg"); (case h2 => walk_at "cls"); (case h3 => walk_at "noa"); (case h4 => walk_at "lkp")) | walk_at "kf" | with_reducible apply e_not
  | with_reducible apply s_ret | ((with_reducible refine' k_ty ?h1 ?_); (case h1 => walk_at "sg")) | with_reducible apply s_drop | with_reducible apply s_retN | with_reducible apply s_cont | with_reducible apply s_break
  | with_reducible apply e_un | with_reducible apply o_U | ((with_reducible refine' o_eq ?hs ?_); (case hs => exact rfl)) | ((with_reducible refine' o_ne ?hs ?_); (case hs => exact rfl))
  | ((with_reducible refine' o_ixL ?h1 ?h2 ?_); (case h1 => walk_at "sg"); (case h2 => first | exact rfl | exact atI_zero _ _)) | ((with_reducible refine' o_ixT ?h1 ?h2 ?_); (case h1 => walk_at "sg"); (case h2 => first | exact rfl | exact atI_zero _ _)) | with_reducible apply s_fld | with_reducible apply Sl.e_makeS
  | ((with_reducible refine' Sl.k_setS $h ?h1 ?h2 ?h3 ?h4 ?h5 ?_); (case h1 => walk_at "sel"); (case h2 => walk_at "cls"); (case h3 => walk_at "noa"); (case h4 => walk_at "ptf"); (case h5 => walk_at "lnF"); (clear $h; intro _ $h)) | with_reducible apply Sl.e_tupS | with_reducible apply e_bm
  | with_reducible apply e_bm0 | with_reducible apply e_if | with_reducible apply e_chain | with_reducible apply s_raise | with_reducible apply g_sub | ((with_reducible refine' c_ln ?h1 ?_); (case h1 => walk_at "sg")) | ((with_reducible refine' c_lnT ?h1 ?_); (case h1 => walk_at "sg"))
  | ((with_reducible refine' Sl.k_newL $h ?h1 ?_); (case h1 => walk_at "le5"); (clear $h; intro _ _ $h)) | ((with_reducible refine' Sl.k_newT $h ?h1 ?_); (case h1 => walk_at "le5"); (clear $h; intro _ _ $h)) | ((with_reducible refine' Sl.k_make $h ?_); (clear $h; intro _ _ _ $h))
  | ((with_reducible refine' Sl.c_appS $h ?h1 ?h2 ?_); (case h1 => walk_at "sel"); (case h2 => walk_at "le5"); (clear $h; intro _ $h)) | ((with_reducible refine' Sl.c_pop0S $h ?h1 ?h2 ?_); (case h1 => walk_at "sel"); (case h2 => walk_at "le5"); (clear $h; intro _ $h))
  | ((with_reducible refine' Sl.c_lsS $h ?h1 ?_); (case h1 => walk_at "sg"); (clear $h; intro _ _ $h)) | ((with_reducible refine' Sl.o_slLS $h ?h1 ?_); (case h1 => walk_at "sg"); (clear $h; intro _ _ $h)) | ((with_reducible refine' Sl.c_clrS $h ?h1 ?_); (case h1 => walk_at "sel"); (clear $h; intro _ $h))
  | ((with_reducible refine' Sl.o_catS $h ?h1 ?h2 ?h3 ?_); (case h1 => walk_at "hg"); (case h2 => walk_at "hg"); (case h3 => walk_at "le5"); (clear $h; intro _ _ $h)) | ((with_reducible refine' Sl.c_extS $h ?h1 ?h2 ?h3 ?_); (case h1 => walk_at "sel"); (case h2 => walk_at "hg"); (case h3 => walk_at "le5"); (clear $h; intro _ $h))
  | ((with_reducible refine' Sl.k_raise $h ?h1 ?_); (case h1 => exact okV_int ⟨by omega, by omega⟩); (clear $h; intro _ _ $h))
  | with_reducible apply c_isBool | with_reducible apply c_isInt | with_reducible apply c_isBoolN | with_reducible apply c_isTupI | with_reducible apply c_isNonB
  | with_reducible apply c_isNonT | ((with_reducible refine' c_isList ?h1 ?_); (case h1 => walk_at "hg")) | ((with_reducible refine' c_isTup ?h1 ?_); (case h1 => walk_at "hg")) | ((with_reducible refine' c_isTupB ?h1 ?_); (case h1 => walk_at "hg")) | with_reducible apply o_isB | with_reducible apply o_notB
  | with_reducible apply e_and | with_reducible apply e_or | with_reducible apply k_bl | with_reducible apply e_xf | with_reducible apply s_augS | ((with_reducible refine' s_augV ?hv ?_); (case hv => exact rfl)) | with_reducible apply Sl.s_aug
  | with_reducible apply ip_I | with_reducible apply e_lcE | with_reducible apply e_lcL | with_reducible apply f_lst | with_reducible apply e_lcF | with_reducible apply f_rng1 | ((with_reducible refine' k_xf ?h1 ?h2 ?_); (case h1 => walk_at "hg"); (case h2 => exact look_hit _ _ _)) | ((with_reducible refine' k_dget ?h1 ?h2 ?_); (case h1 => walk_at "hg"); (case h2 => with_reducible assumption)) | with_reducible apply e_dget
  | with_reducible apply s_dput | with_reducible apply Sl.e_makeKS | with_reducible apply g_cons | with_reducible apply g_nil | ((with_reducible refine' g_tup ?h1 ?h2 ?_); (case h1 => walk_at "sg"); (case h2 => exact rfl)) | with_reducible apply c_ab | with_reducible apply c_in
  | with_reducible apply c_mx | with_reducible apply c_mn | with_reducible apply a1 | with_reducible apply a2 | with_reducible apply a3 | with_reducible apply a4
  | with_reducible apply a5 | with_reducible apply a6 | with_reducible apply a0 | with_reducible apply t_tru | with_reducible apply t_yes | ((with_reducible refine' k_truL ?h1 ?_); (case h1 => walk_at "sg")) | with_reducible refine d_nx ?_ | with_reducible refine d_rt ?_ | with_reducible refine d_bk ?_
  | with_reducible refine d_ct ?_))
local macro_rules | `(tactic| walk_at "x") => `(tactic| (repeat walk_at "x1"))
section
variable {P : Program} {w : World} {K : PySem.W.Frag} {mg : Str → Option Value} {base : Heap} {a : Ads}
end
/-- the top's facts -/
theorem all_mk {l : PySem.W.OpenLaw} {w : World} {K : PySem.W.Frag} {h : Heap} {mg : Str → Option Value} {fa : Addr} (hl : l.prog = PySem.Challenge.pw_tickrings_k19_admitted_rates) (X : K.In h) (G : h.Ns mainGlobals mg) (hfa : mg "law" = some (.ref fa))
    {C_TickringsError C_ConfigError C_Settings C_Config : Addr} {f_job_share f_device_admits f_admits f_warm_up f_latency f_ConfigError_init f_require f_budget_sum f_Settings_init f_Config_init f_law_state f_law_draw f_law_near f_law_settings f_law_device_due f_law : Addr}
    {oc_job_share : Value} {dc_job_share : Value} {pm_job_share : Value} {cd_job_share : Value} {ct_job_share : Value} {kV_job_share : Value} {od_job_share : Option Addr} {an_job_share : Option Addr} {sl_job_share : Array (Option Value)} {oc_device_admits : Value} {dc_device_admits : Value} {pm_device_admits : Value} {cd_device_admits : Value} {ct_device_admits : Value} {kV_device_admits : Value} {od_device_admits : Option Addr} {an_device_admits : Option Addr} {sl_device_admits : Array (Option Value)} {oc_admits : Value} {dc_admits : Value} {pm_admits : Value} {cd_admits : Value} {ct_admits : Value} {kV_admits : Value} {od_admits : Option Addr} {an_admits : Option Addr} {sl_admits : Array (Option Value)} {oc_warm_up : Value} {dc_warm_up : Value} {pm_warm_up : Value} {cd_warm_up : Value} {ct_warm_up : Value} {kV_warm_up : Value} {od_warm_up : Option Addr} {an_warm_up : Option Addr} {sl_warm_up : Array (Option Value)} {oc_latency : Value} {dc_latency : Value} {pm_latency : Value} {cd_latency : Value} {ct_latency : Value} {kV_latency : Value} {od_latency : Option Addr} {an_latency : Option Addr} {sl_latency : Array (Option Value)} {oc_ConfigError_init : Value} {dc_ConfigError_init : Value} {pm_ConfigError_init : Value} {ct_ConfigError_init : Value} {kV_ConfigError_init : Value} {od_ConfigError_init : Option Addr} {an_ConfigError_init : Option Addr} {sl_ConfigError_init : Array (Option Value)} {nm_ConfigError : Str} {qn_ConfigError : Str} {N_ConfigError : Addr} {bs_ConfigError : List Value} {bm_ConfigError : List Value} {sub_ConfigError : List Value} {sn_ConfigError : List Str} {ab_ConfigError : Bool} {col_ConfigError : Option Bool} {dd_ConfigError : Option Addr} {k0_ConfigError k1_ConfigError k2_ConfigError k3_ConfigError k5_ConfigError : Option Value} {cda_ConfigError cc_ConfigError : Addr} {cl_ConfigError ccl_ConfigError : Value} {cld_ConfigError cdd_ConfigError : Option Addr} {csl_ConfigError ccs_ConfigError : Array (Option Value)} {vs_ConfigError : Array Value} {file_ConfigError : Str} {tf_ConfigError : Tok} {oc_require : Value} {dc_require : Value} {pm_require : Value} {cd_require : Value} {ct_require : Value} {kV_require : Value} {od_require : Option Addr} {an_require : Option Addr} {sl_require : Array (Option Value)} {oc_budget_sum : Value} {dc_budget_sum : Value} {pm_budget_sum : Value} {cd_budget_sum : Value} {ct_budget_sum : Value} {kV_budget_sum : Value} {od_budget_sum : Option Addr} {an_budget_sum : Option Addr} {sl_budget_sum : Array (Option Value)} {oc_Settings_init : Value} {dc_Settings_init : Value} {pm_Settings_init : Value} {cd_Settings_init : Value} {ct_Settings_init : Value} {od_Settings_init : Option Addr} {an_Settings_init : Option Addr} {sl_Settings_init : Array (Option Value)} {D_Settings_init : Addr} {t_Settings_init_queue : Tok} {t_Settings_init_sending : Tok} {t_Settings_init_slots : Tok} {t_Settings_init_pace : Tok} {t_Settings_init_count : Tok} {t_Settings_init_wait : Tok} {t_Settings_init_idle : Tok} {t_Settings_init_room : Tok} {t_Settings_init_receive : Tok} {t_Settings_init_transmit : Tok} {oc_Config_init : Value} {dc_Config_init : Value} {pm_Config_init : Value} {cd_Config_init : Value} {ct_Config_init : Value} {od_Config_init : Option Addr} {an_Config_init : Option Addr} {sl_Config_init : Array (Option Value)} {D_Config_init : Addr} {t_Config_init_buffers : Tok} {t_Config_init_size : Tok} {t_Config_init_period : Tok} {t_Config_init_jobs : Tok} {oc_law_state : Value} {dc_law_state : Value} {pm_law_state : Value} {cd_law_state : Value} {ct_law_state : Value} {kV_law_state : Value} {od_law_state : Option Addr} {an_law_state : Option Addr} {sl_law_state : Array (Option Value)} {oc_law_draw : Value} {dc_law_draw : Value} {pm_law_draw : Value} {cd_law_draw : Value} {ct_law_draw : Value} {kV_law_draw : Value} {od_law_draw : Option Addr} {an_law_draw : Option Addr} {sl_law_draw : Array (Option Value)} {oc_law_near : Value} {dc_law_near : Value} {pm_law_near : Value} {cd_law_near : Value} {ct_law_near : Value} {kV_law_near : Value} {od_law_near : Option Addr} {an_law_near : Option Addr} {sl_law_near : Array (Option Value)} {oc_law_settings : Value} {dc_law_settings : Value} {pm_law_settings : Value} {cd_law_settings : Value} {ct_law_settings : Value} {kV_law_settings : Value} {od_law_settings : Option Addr} {an_law_settings : Option Addr} {sl_law_settings : Array (Option Value)} {oc_law_device_due : Value} {dc_law_device_due : Value} {pm_law_device_due : Value} {cd_law_device_due : Value} {ct_law_device_due : Value} {kV_law_device_due : Value} {od_law_device_due : Option Addr} {an_law_device_due : Option Addr} {sl_law_device_due : Array (Option Value)} {oc_law : Value} {dc_law : Value} {pm_law : Value} {cd_law : Value} {ct_law : Value} {kV_law : Value} {od_law : Option Addr} {an_law : Option Addr} {sl_law : Array (Option Value)}
    (gC_TickringsError : PySem.W.nsIn K mainGlobals "TickringsError" = some (some (.ref C_TickringsError)))
    (gC_ConfigError : PySem.W.nsIn K mainGlobals "ConfigError" = some (some (.ref C_ConfigError)))
    (gC_Settings : PySem.W.nsIn K mainGlobals "Settings" = some (some (.ref C_Settings)))
    (gC_Config : PySem.W.nsIn K mainGlobals "Config" = some (some (.ref C_Config)))
    (a_job_share : PySem.W.nsIn K mainGlobals "_job_share" = some (some (.ref f_job_share)))
    (l_job_share : K.lookup f_job_share = some ⟨oc_job_share, od_job_share, .func (PySem.W.fnOf "_job_share" "_job_share" (defArgs s_job_share) (defBody s_job_share) (defScope s_job_share) .none kV_job_share dc_job_share pm_job_share an_job_share cd_job_share ct_job_share), sl_job_share⟩)
    (c_job_share : PySem.W.codeIn K cd_job_share "_job_share" = true)
    (k_job_share : PySem.W.keepIn K (.ref f_job_share) = true)
    (a_device_admits : PySem.W.nsIn K mainGlobals "_device_admits" = some (some (.ref f_device_admits)))
    (l_device_admits : K.lookup f_device_admits = some ⟨oc_device_admits, od_device_admits, .func (PySem.W.fnOf "_device_admits" "_device_admits" (defArgs s_device_admits) (defBody s_device_admits) (defScope s_device_admits) .none kV_device_admits dc_device_admits pm_device_admits an_device_admits cd_device_admits ct_device_admits), sl_device_admits⟩)
    (c_device_admits : PySem.W.codeIn K cd_device_admits "_device_admits" = true)
    (k_device_admits : PySem.W.keepIn K (.ref f_device_admits) = true)
    (a_admits : PySem.W.nsIn K mainGlobals "admits" = some (some (.ref f_admits)))
    (l_admits : K.lookup f_admits = some ⟨oc_admits, od_admits, .func (PySem.W.fnOf "admits" "admits" (defArgs s_admits) (defBody s_admits) (defScope s_admits) .none kV_admits dc_admits pm_admits an_admits cd_admits ct_admits), sl_admits⟩)
    (c_admits : PySem.W.codeIn K cd_admits "admits" = true)
    (k_admits : PySem.W.keepIn K (.ref f_admits) = true)
    (a_warm_up : PySem.W.nsIn K mainGlobals "warm_up" = some (some (.ref f_warm_up)))
    (l_warm_up : K.lookup f_warm_up = some ⟨oc_warm_up, od_warm_up, .func (PySem.W.fnOf "warm_up" "warm_up" (defArgs s_warm_up) (defBody s_warm_up) (defScope s_warm_up) .none kV_warm_up dc_warm_up pm_warm_up an_warm_up cd_warm_up ct_warm_up), sl_warm_up⟩)
    (c_warm_up : PySem.W.codeIn K cd_warm_up "warm_up" = true)
    (k_warm_up : PySem.W.keepIn K (.ref f_warm_up) = true)
    (a_latency : PySem.W.nsIn K mainGlobals "latency" = some (some (.ref f_latency)))
    (l_latency : K.lookup f_latency = some ⟨oc_latency, od_latency, .func (PySem.W.fnOf "latency" "latency" (defArgs s_latency) (defBody s_latency) (defScope s_latency) .none kV_latency dc_latency pm_latency an_latency cd_latency ct_latency), sl_latency⟩)
    (c_latency : PySem.W.codeIn K cd_latency "latency" = true)
    (k_latency : PySem.W.keepIn K (.ref f_latency) = true)
    (x_ConfigError : K.lookup C_ConfigError = some (excClassObj nm_ConfigError qn_ConfigError C_ConfigError N_ConfigError bs_ConfigError bm_ConfigError true sn_ConfigError sub_ConfigError ab_ConfigError col_ConfigError dd_ConfigError k0_ConfigError k1_ConfigError k2_ConfigError k3_ConfigError k5_ConfigError "ValueError.__new__"))
    (hbm_ConfigError : PySem.HandSPX.refsVE bm_ConfigError = true)
    (sa_ConfigError : PySem.W.findIn K (.ref C_ConfigError) "__setattr__" = some (some (.builtin "object.__setattr__")))
    (ex_ConfigError : PySem.W.subIn K (.ref C_ConfigError) (.type "BaseException") = some true)
    (ty_ConfigError : PySem.W.typeIn K (.ref C_ConfigError) = some (.type "type"))
    (kp_ConfigError : PySem.W.keepIn K (.ref C_ConfigError) = true)
    (su_ConfigError : PySem.W.ks_superIn K C_ConfigError C_ConfigError "__init__" = some (some (.builtin "ValueError.__init__")))
    (ve_ConfigError : PySem.W.subIn K (.ref C_ConfigError) (.type "ValueError") = some true)
    (op_ConfigError : PySem.W.nsIn K cStatics "thirdparty.any" = some none)
    (sm_ConfigError : PySem.W.mroIn K C_ConfigError (.ref C_ConfigError) = some true)
    (ic_ConfigError : PySem.W.findIn K (.ref C_ConfigError) "__init__" = some (some (.ref f_ConfigError_init)))
    (ti_ConfigError : PySem.W.typeIn K (.ref f_ConfigError_init) = some (.type "function"))
    (l_ConfigError_init : K.lookup f_ConfigError_init = some ⟨oc_ConfigError_init, od_ConfigError_init, .func (PySem.W.fnX "__init__" "ConfigError.__init__" (defArgs s_ConfigError_init) (defBody s_ConfigError_init) (defScope s_ConfigError_init) [("__class__", cc_ConfigError)] .none kV_ConfigError_init dc_ConfigError_init pm_ConfigError_init an_ConfigError_init (.ref cda_ConfigError) ct_ConfigError_init), sl_ConfigError_init⟩)
    (c_ConfigError_init : PySem.W.codeIn K (.ref cda_ConfigError) "ConfigError.__init__" = true)
    (ce_ConfigError : K.lookup cc_ConfigError = some ⟨cl_ConfigError, cld_ConfigError, .cell (some (.ref C_ConfigError)), csl_ConfigError⟩)
    (co_ConfigError : K.lookup cda_ConfigError = some ⟨ccl_ConfigError, cdd_ConfigError, .fields vs_ConfigError, ccs_ConfigError⟩)
    (cv_ConfigError : vs_ConfigError[2]? = some (.str file_ConfigError tf_ConfigError))
    (cf_ConfigError : ((PySem.Challenge.pw_tickrings_k19_admitted_rates.main.file : Str) == file_ConfigError) = true)
    (no_ConfigError : PySem.W.findIn K (.ref C_ConfigError) "setting" = some none)
    (ga_ConfigError : PySem.W.findIn K (.ref C_ConfigError) "__getattribute__" = some (some (.builtin "BaseException.__getattribute__")))
    (gg_ConfigError : PySem.W.findIn K (.ref C_ConfigError) "__getattr__" = some none)
    (hd_ConfigError : PySem.W.hasDictIn K C_ConfigError = true)
    (ha_ConfigError : PySem.W.findIn K (.ref C_ConfigError) "__class__" = some (some (.builtin "object.__class__")))
    (hn_ConfigError : PySem.W.specialIn K (.builtin "object.__class__") "__get__" = some (some (.builtin "getset_descriptor.__get__")))
    (ht_ConfigError : PySem.W.takesIn K (.builtin "object.__class__") = some true)
    (hm_ConfigError : PySem.W.mroIn K C_ConfigError (.type "object") = some true)
    (ow_ConfigError : PySem.W.subIn K (.ref C_ConfigError) (.ref C_ConfigError) = some true)
    (a_require : PySem.W.nsIn K mainGlobals "_require" = some (some (.ref f_require)))
    (l_require : K.lookup f_require = some ⟨oc_require, od_require, .func (PySem.W.fnOf "_require" "_require" (defArgs s_require) (defBody s_require) (defScope s_require) .none kV_require dc_require pm_require an_require cd_require ct_require), sl_require⟩)
    (c_require : PySem.W.codeIn K cd_require "_require" = true)
    (k_require : PySem.W.keepIn K (.ref f_require) = true)
    (a_budget_sum : PySem.W.nsIn K mainGlobals "_budget_sum" = some (some (.ref f_budget_sum)))
    (l_budget_sum : K.lookup f_budget_sum = some ⟨oc_budget_sum, od_budget_sum, .func (PySem.W.fnOf "_budget_sum" "_budget_sum" (defArgs s_budget_sum) (defBody s_budget_sum) (defScope s_budget_sum) .none kV_budget_sum dc_budget_sum pm_budget_sum an_budget_sum cd_budget_sum ct_budget_sum), sl_budget_sum⟩)
    (c_budget_sum : PySem.W.codeIn K cd_budget_sum "_budget_sum" = true)
    (k_budget_sum : PySem.W.keepIn K (.ref f_budget_sum) = true)
    (a_Settings_init : PySem.W.findIn K (.ref C_Settings) "__init__" = some (some (.ref f_Settings_init)))
    (i_Settings_init : PySem.W.isFn K (.ref f_Settings_init) = true)
    (l_Settings_init : K.lookup f_Settings_init = some ⟨oc_Settings_init, od_Settings_init, .func (PySem.W.fnOf "__init__" "Settings.__init__" (defArgs s_Settings_init) (defBody s_Settings_init) (defScope s_Settings_init) .none (.ref D_Settings_init) dc_Settings_init pm_Settings_init an_Settings_init cd_Settings_init ct_Settings_init), sl_Settings_init⟩)
    (d_Settings_init_queue : PySem.W.nsIn K D_Settings_init "queue" = some (some (.int 4 t_Settings_init_queue)))
    (d_Settings_init_sending : PySem.W.nsIn K D_Settings_init "sending" = some (some (.int 4 t_Settings_init_sending)))
    (d_Settings_init_slots : PySem.W.nsIn K D_Settings_init "slots" = some (some (.int 2 t_Settings_init_slots)))
    (d_Settings_init_pace : PySem.W.nsIn K D_Settings_init "pace" = some (some (.int 1 t_Settings_init_pace)))
    (d_Settings_init_count : PySem.W.nsIn K D_Settings_init "count" = some (some (.int 1 t_Settings_init_count)))
    (d_Settings_init_wait : PySem.W.nsIn K D_Settings_init "wait" = some (some (.int 1 t_Settings_init_wait)))
    (d_Settings_init_idle : PySem.W.nsIn K D_Settings_init "idle" = some (some (.int 4 t_Settings_init_idle)))
    (d_Settings_init_room : PySem.W.nsIn K D_Settings_init "room" = some (some (.int 16 t_Settings_init_room)))
    (d_Settings_init_receive : PySem.W.nsIn K D_Settings_init "receive" = some (some (.int 1 t_Settings_init_receive)))
    (d_Settings_init_transmit : PySem.W.nsIn K D_Settings_init "transmit" = some (some (.int 1 t_Settings_init_transmit)))
    (c_Settings_init : PySem.W.codeIn K cd_Settings_init "Settings.__init__" = true)
    (k_Settings_init : PySem.W.keepIn K (.ref f_Settings_init) = true)
    (a_Config_init : PySem.W.findIn K (.ref C_Config) "__init__" = some (some (.ref f_Config_init)))
    (i_Config_init : PySem.W.isFn K (.ref f_Config_init) = true)
    (l_Config_init : K.lookup f_Config_init = some ⟨oc_Config_init, od_Config_init, .func (PySem.W.fnOf "__init__" "Config.__init__" (defArgs s_Config_init) (defBody s_Config_init) (defScope s_Config_init) .none (.ref D_Config_init) dc_Config_init pm_Config_init an_Config_init cd_Config_init ct_Config_init), sl_Config_init⟩)
    (d_Config_init_buffers : PySem.W.nsIn K D_Config_init "buffers" = some (some (.int 8 t_Config_init_buffers)))
    (d_Config_init_size : PySem.W.nsIn K D_Config_init "size" = some (some (.int 4 t_Config_init_size)))
    (d_Config_init_period : PySem.W.nsIn K D_Config_init "period" = some (some (.int 16 t_Config_init_period)))
    (d_Config_init_jobs : PySem.W.nsIn K D_Config_init "jobs" = some (some (.int 4 t_Config_init_jobs)))
    (c_Config_init : PySem.W.codeIn K cd_Config_init "Config.__init__" = true)
    (k_Config_init : PySem.W.keepIn K (.ref f_Config_init) = true)
    (a_law_state : PySem.W.nsIn K mainGlobals "_law_state" = some (some (.ref f_law_state)))
    (l_law_state : K.lookup f_law_state = some ⟨oc_law_state, od_law_state, .func (PySem.W.fnOf "_law_state" "_law_state" (defArgs s_law_state) (defBody s_law_state) (defScope s_law_state) .none kV_law_state dc_law_state pm_law_state an_law_state cd_law_state ct_law_state), sl_law_state⟩)
    (c_law_state : PySem.W.codeIn K cd_law_state "_law_state" = true)
    (k_law_state : PySem.W.keepIn K (.ref f_law_state) = true)
    (a_law_draw : PySem.W.nsIn K mainGlobals "_law_draw" = some (some (.ref f_law_draw)))
    (l_law_draw : K.lookup f_law_draw = some ⟨oc_law_draw, od_law_draw, .func (PySem.W.fnOf "_law_draw" "_law_draw" (defArgs s_law_draw) (defBody s_law_draw) (defScope s_law_draw) .none kV_law_draw dc_law_draw pm_law_draw an_law_draw cd_law_draw ct_law_draw), sl_law_draw⟩)
    (c_law_draw : PySem.W.codeIn K cd_law_draw "_law_draw" = true)
    (k_law_draw : PySem.W.keepIn K (.ref f_law_draw) = true)
    (a_law_near : PySem.W.nsIn K mainGlobals "_law_near" = some (some (.ref f_law_near)))
    (l_law_near : K.lookup f_law_near = some ⟨oc_law_near, od_law_near, .func (PySem.W.fnOf "_law_near" "_law_near" (defArgs s_law_near) (defBody s_law_near) (defScope s_law_near) .none kV_law_near dc_law_near pm_law_near an_law_near cd_law_near ct_law_near), sl_law_near⟩)
    (c_law_near : PySem.W.codeIn K cd_law_near "_law_near" = true)
    (k_law_near : PySem.W.keepIn K (.ref f_law_near) = true)
    (a_law_settings : PySem.W.nsIn K mainGlobals "_law_settings" = some (some (.ref f_law_settings)))
    (l_law_settings : K.lookup f_law_settings = some ⟨oc_law_settings, od_law_settings, .func (PySem.W.fnOf "_law_settings" "_law_settings" (defArgs s_law_settings) (defBody s_law_settings) (defScope s_law_settings) .none kV_law_settings dc_law_settings pm_law_settings an_law_settings cd_law_settings ct_law_settings), sl_law_settings⟩)
    (c_law_settings : PySem.W.codeIn K cd_law_settings "_law_settings" = true)
    (k_law_settings : PySem.W.keepIn K (.ref f_law_settings) = true)
    (a_law_device_due : PySem.W.nsIn K mainGlobals "_law_device_due" = some (some (.ref f_law_device_due)))
    (l_law_device_due : K.lookup f_law_device_due = some ⟨oc_law_device_due, od_law_device_due, .func (PySem.W.fnOf "_law_device_due" "_law_device_due" (defArgs s_law_device_due) (defBody s_law_device_due) (defScope s_law_device_due) .none kV_law_device_due dc_law_device_due pm_law_device_due an_law_device_due cd_law_device_due ct_law_device_due), sl_law_device_due⟩)
    (c_law_device_due : PySem.W.codeIn K cd_law_device_due "_law_device_due" = true)
    (k_law_device_due : PySem.W.keepIn K (.ref f_law_device_due) = true)
    (a_law : PySem.W.nsIn K mainGlobals "law" = some (some (.ref f_law)))
    (l_law : K.lookup f_law = some ⟨oc_law, od_law, .func (PySem.W.fnOf "law" "law" (defArgs s_law) (defBody s_law) (defScope s_law) .none kV_law dc_law pm_law an_law cd_law ct_law), sl_law⟩)
    (c_law : PySem.W.codeIn K cd_law "law" = true)
    (k_law : PySem.W.keepIn K (.ref f_law) = true)
    (pg_Settings : PySem.W.plainGet K C_Settings Str.empty = true)
    (hd_Settings : PySem.W.hasDictIn K C_Settings = true)
    (po_Settings : PySem.W.plainOver K C_Settings = true)
    (sa_Settings : PySem.W.findIn K (.ref C_Settings) "__setattr__" = some (some (.builtin "object.__setattr__")))
    (mk_Settings : PySem.W.makesIn K C_Settings = true)
    (kc_Settings : PySem.W.keepIn K (.ref C_Settings) = true)
    (n_Settings_queue : PySem.W.findIn K (.ref C_Settings) "queue" = some none)
    (n_Settings_sending : PySem.W.findIn K (.ref C_Settings) "sending" = some none)
    (n_Settings_slots : PySem.W.findIn K (.ref C_Settings) "slots" = some none)
    (n_Settings_pace : PySem.W.findIn K (.ref C_Settings) "pace" = some none)
    (n_Settings_count_limit : PySem.W.findIn K (.ref C_Settings) "count_limit" = some none)
    (n_Settings_wait : PySem.W.findIn K (.ref C_Settings) "wait" = some none)
    (n_Settings_idle : PySem.W.findIn K (.ref C_Settings) "idle" = some none)
    (n_Settings_room : PySem.W.findIn K (.ref C_Settings) "room" = some none)
    (n_Settings_receive : PySem.W.findIn K (.ref C_Settings) "receive" = some none)
    (n_Settings_transmit : PySem.W.findIn K (.ref C_Settings) "transmit" = some none)
    (pg_Config : PySem.W.plainGet K C_Config Str.empty = true)
    (hd_Config : PySem.W.hasDictIn K C_Config = true)
    (po_Config : PySem.W.plainOver K C_Config = true)
    (sa_Config : PySem.W.findIn K (.ref C_Config) "__setattr__" = some (some (.builtin "object.__setattr__")))
    (mk_Config : PySem.W.makesIn K C_Config = true)
    (kc_Config : PySem.W.keepIn K (.ref C_Config) = true)
    (n_Config_devices : PySem.W.findIn K (.ref C_Config) "devices" = some none)
    (n_Config_buffers : PySem.W.findIn K (.ref C_Config) "buffers" = some none)
    (n_Config_size : PySem.W.findIn K (.ref C_Config) "size" = some none)
    (n_Config_period : PySem.W.findIn K (.ref C_Config) "period" = some none)
    (n_Config_jobs : PySem.W.findIn K (.ref C_Config) "jobs" = some none)
    (z_abs : PySem.W.nsIn K mainGlobals "abs" = some none)
    (z_all : PySem.W.nsIn K mainGlobals "all" = some none)
    (z_bool : PySem.W.nsIn K mainGlobals "bool" = some none)
    (z_enumerate : PySem.W.nsIn K mainGlobals "enumerate" = some none)
    (z_int : PySem.W.nsIn K mainGlobals "int" = some none)
    (z_isinstance : PySem.W.nsIn K mainGlobals "isinstance" = some none)
    (z_len : PySem.W.nsIn K mainGlobals "len" = some none)
    (z_list : PySem.W.nsIn K mainGlobals "list" = some none)
    (z_max : PySem.W.nsIn K mainGlobals "max" = some none)
    (z_min : PySem.W.nsIn K mainGlobals "min" = some none)
    (z_range : PySem.W.nsIn K mainGlobals "range" = some none)
    (z_sum : PySem.W.nsIn K mainGlobals "sum" = some none)
    (z_super : PySem.W.nsIn K mainGlobals "super" = some none)
    : ∃ fd : FuncData, (∀ (s : Shared) (v : Value), BindsTo s fd ⟨[v], []⟩ [("script", v)]) ∧ ∀ base : Heap, K.In base → base.Ns mainGlobals mg → FnOk l.prog w K mg base (L2.CX l.prog w) 7 fa fd ["script"] (sp_law0 K) := by
  have e : f_law = fa := by
    have z := hfa.symm.trans (PySem.W.mg_of X G a_law)
    cases z
    rfl
  subst e
  have F_job_share := fun_mk (st := s_job_share) l_job_share c_job_share k_job_share
  have b_job_share := F_job_share.binds (ps := ["config"]) fun _ _ _ _ _ _ us hl => match us, hl with | [_], _ => rfl
  have F_device_admits := fun_mk (st := s_device_admits) l_device_admits c_device_admits k_device_admits
  have b_device_admits := F_device_admits.binds (ps := ["settings", "rate", "share"]) fun _ _ _ _ _ _ us hl => match us, hl with | [_, _, _], _ => rfl
  have F_admits := fun_mk (st := s_admits) l_admits c_admits k_admits
  have b_admits := F_admits.binds (ps := ["config", "rates"]) fun _ _ _ _ _ _ us hl => match us, hl with | [_, _], _ => rfl
  have F_warm_up := fun_mk (st := s_warm_up) l_warm_up c_warm_up k_warm_up
  have b_warm_up := F_warm_up.binds (ps := ["config"]) fun _ _ _ _ _ _ us hl => match us, hl with | [_], _ => rfl
  have F_latency := fun_mk (st := s_latency) l_latency c_latency k_latency
  have b_latency := F_latency.binds (ps := ["config", "at"]) fun _ _ _ _ _ _ us hl => match us, hl with | [_, _], _ => rfl
  have F_require := fun_mk (st := s_require) l_require c_require k_require
  have b_require := F_require.binds (ps := ["setting", "in_range"]) fun _ _ _ _ _ _ us hl => match us, hl with | [_, _], _ => rfl
  have F_budget_sum := fun_mk (st := s_budget_sum) l_budget_sum c_budget_sum k_budget_sum
  have b_budget_sum := F_budget_sum.binds (ps := ["devices", "jobs"]) fun _ _ _ _ _ _ us hl => match us, hl with | [_, _], _ => rfl
  have F_Settings_init : FunD K "__init__" "Settings.__init__" (defArgs s_Settings_init) (defBody s_Settings_init) (defScope s_Settings_init) [] kd_Settings_init f_Settings_init (PySem.W.fnOf "__init__" "Settings.__init__" (defArgs s_Settings_init) (defBody s_Settings_init) (defScope s_Settings_init) .none (.ref D_Settings_init) dc_Settings_init pm_Settings_init an_Settings_init cd_Settings_init ct_Settings_init) := ⟨⟨_, _, _, _, _, _, _, _, _, _, rfl, l_Settings_init, c_Settings_init, .inl ⟨rfl, rfl⟩, .inr ⟨D_Settings_init, rfl, fun z hz => by
    simp only [kd_Settings_init, List.mem_cons, List.not_mem_nil, or_false] at hz
    rcases hz with rfl | rfl | rfl | rfl | rfl | rfl | rfl | rfl | rfl | rfl
    · exact ⟨_, d_Settings_init_queue, _, rfl⟩
    · exact ⟨_, d_Settings_init_sending, _, rfl⟩
    · exact ⟨_, d_Settings_init_slots, _, rfl⟩
    · exact ⟨_, d_Settings_init_pace, _, rfl⟩
    · exact ⟨_, d_Settings_init_count, _, rfl⟩
    · exact ⟨_, d_Settings_init_wait, _, rfl⟩
    · exact ⟨_, d_Settings_init_idle, _, rfl⟩
    · exact ⟨_, d_Settings_init_room, _, rfl⟩
    · exact ⟨_, d_Settings_init_receive, _, rfl⟩
    · exact ⟨_, d_Settings_init_transmit, _, rfl⟩
    ⟩⟩, k_Settings_init⟩
  have kb_Settings_init_0 : ∃ gg, KBn K (PySem.W.fnOf "__init__" "Settings.__init__" (defArgs s_Settings_init) (defBody s_Settings_init) (defScope s_Settings_init) .none (.ref D_Settings_init) dc_Settings_init pm_Settings_init an_Settings_init cd_Settings_init ct_Settings_init) ["self", "queue", "sending", "slots", "pace", "count", "wait", "idle", "room", "receive", "transmit"] 1 ["queue", "slots", "count", "idle", "receive"] gg gv_Settings_init_0 := by
    obtain ⟨mv, z⟩ := F_Settings_init.kbinds0 (ps := ["self", "queue", "sending", "slots", "pace", "count", "wait", "idle", "room", "receive", "transmit"]) 1 ["queue", "slots", "count", "idle", "receive"] ms_Settings_init_0 (fun us mv ws => g_Settings_init_0 us mv ws) (by decide) (fun z hz => by revert z hz; decide +kernel) (fun r1 r2 r3 => r1.append (Vals.append (Vals.take 1 (Vals.drop 0 r3)) (Vals.append (Vals.take 1 (Vals.drop 0 r2)) (Vals.append (Vals.take 1 (Vals.drop 1 r3)) (Vals.append (Vals.take 1 (Vals.drop 1 r2)) (Vals.append (Vals.take 1 (Vals.drop 2 r3)) (Vals.append (Vals.take 1 (Vals.drop 2 r2)) (Vals.append (Vals.take 1 (Vals.drop 3 r3)) (Vals.append (Vals.take 1 (Vals.drop 3 r2)) (Vals.append (Vals.take 1 (Vals.drop 4 r3)) (Vals.take 1 (Vals.drop 4 r2))))))))))))
      (fun D doc pm an cdv ct us mv ws h1 h2 h3 => match us, mv, ws, h1, h2, h3 with | [_], [_, _, _, _, _], [_, _, _, _, _], _, _, _ => ⟨_, _, _, _, _, _, rfl, rfl, ⟨_, _, _, _, _, _, rfl, rfl, ⟨_, _, _, _, _, _, rfl, rfl, ⟨_, _, _, _, _, _, rfl, rfl, ⟨_, _, _, _, _, _, rfl, rfl, rfl⟩⟩⟩⟩⟩)
    exact ⟨_, z⟩
  have F_Config_init : FunD K "__init__" "Config.__init__" (defArgs s_Config_init) (defBody s_Config_init) (defScope s_Config_init) [] kd_Config_init f_Config_init (PySem.W.fnOf "__init__" "Config.__init__" (defArgs s_Config_init) (defBody s_Config_init) (defScope s_Config_init) .none (.ref D_Config_init) dc_Config_init pm_Config_init an_Config_init cd_Config_init ct_Config_init) := ⟨⟨_, _, _, _, _, _, _, _, _, _, rfl, l_Config_init, c_Config_init, .inl ⟨rfl, rfl⟩, .inr ⟨D_Config_init, rfl, fun z hz => by
    simp only [kd_Config_init, List.mem_cons, List.not_mem_nil, or_false] at hz
    rcases hz with rfl | rfl | rfl | rfl
    · exact ⟨_, d_Config_init_buffers, _, rfl⟩
    · exact ⟨_, d_Config_init_size, _, rfl⟩
    · exact ⟨_, d_Config_init_period, _, rfl⟩
    · exact ⟨_, d_Config_init_jobs, _, rfl⟩
    ⟩⟩, k_Config_init⟩
  have kb_Config_init_1 : ∃ gg, KBn K (PySem.W.fnOf "__init__" "Config.__init__" (defArgs s_Config_init) (defBody s_Config_init) (defScope s_Config_init) .none (.ref D_Config_init) dc_Config_init pm_Config_init an_Config_init cd_Config_init ct_Config_init) ["self", "devices", "buffers", "size", "period", "jobs"] 1 ["devices", "buffers", "size", "period", "jobs"] gg gv_Config_init_1 := by
    obtain ⟨mv, z⟩ := F_Config_init.kbinds0 (ps := ["self", "devices", "buffers", "size", "period", "jobs"]) 1 ["devices", "buffers", "size", "period", "jobs"] ms_Config_init_1 (fun us mv ws => g_Config_init_1 us mv ws) (by decide) (fun z hz => by revert z hz; decide +kernel) (fun r1 r2 r3 => r1.append r3)
      (fun D doc pm an cdv ct us mv ws h1 h2 h3 => match us, mv, ws, h1, h2, h3 with | [_], [], [_, _, _, _, _], _, _, _ => rfl)
    exact ⟨_, z⟩
  have F_law_state := fun_mk (st := s_law_state) l_law_state c_law_state k_law_state
  have b_law_state := F_law_state.binds (ps := ["script"]) fun _ _ _ _ _ _ us hl => match us, hl with | [_], _ => rfl
  have F_law_draw := fun_mk (st := s_law_draw) l_law_draw c_law_draw k_law_draw
  have b_law_draw := F_law_draw.binds (ps := ["state", "many"]) fun _ _ _ _ _ _ us hl => match us, hl with | [_, _], _ => rfl
  have F_law_near := fun_mk (st := s_law_near) l_law_near c_law_near k_law_near
  have b_law_near := F_law_near.binds (ps := ["state", "n", "least", "greatest"]) fun _ _ _ _ _ _ us hl => match us, hl with | [_, _, _, _], _ => rfl
  have F_law_settings := fun_mk (st := s_law_settings) l_law_settings c_law_settings k_law_settings
  have b_law_settings := F_law_settings.binds (ps := ["state", "rate"]) fun _ _ _ _ _ _ us hl => match us, hl with | [_, _], _ => rfl
  have F_law_device_due := fun_mk (st := s_law_device_due) l_law_device_due c_law_device_due k_law_device_due
  have b_law_device_due := F_law_device_due.binds (ps := ["config", "one", "rate", "share"]) fun _ _ _ _ _ _ us hl => match us, hl with | [_, _, _, _], _ => rfl
  have F_law := fun_mk (st := s_law) l_law c_law k_law
  have b_law := F_law.binds (ps := ["script"]) fun _ _ _ _ _ _ us hl => match us, hl with | [_], _ => rfl
  let a : Ads := { C_TickringsError := C_TickringsError, C_ConfigError := C_ConfigError, C_Settings := C_Settings, C_Config := C_Config, f_job_share := f_job_share, f_device_admits := f_device_admits, f_admits := f_admits, f_warm_up := f_warm_up, f_latency := f_latency, f_ConfigError_init := f_ConfigError_init, f_require := f_require, f_budget_sum := f_budget_sum, f_Settings_init := f_Settings_init, f_Config_init := f_Config_init, f_law_state := f_law_state, f_law_draw := f_law_draw, f_law_near := f_law_near, f_law_settings := f_law_settings, f_law_device_due := f_law_device_due, f_law := f_law, fd_job_share := (PySem.W.fnOf "_job_share" "_job_share" (defArgs s_job_share) (defBody s_job_share) (defScope s_job_share) .none kV_job_share dc_job_share pm_job_share an_job_share cd_job_share ct_job_share), fd_device_admits := (PySem.W.fnOf "_device_admits" "_device_admits" (defArgs s_device_admits) (defBody s_device_admits) (defScope s_device_admits) .none kV_device_admits dc_device_admits pm_device_admits an_device_admits cd_device_admits ct_device_admits), fd_admits := (PySem.W.fnOf "admits" "admits" (defArgs s_admits) (defBody s_admits) (defScope s_admits) .none kV_admits dc_admits pm_admits an_admits cd_admits ct_admits), fd_warm_up := (PySem.W.fnOf "warm_up" "warm_up" (defArgs s_warm_up) (defBody s_warm_up) (defScope s_warm_up) .none kV_warm_up dc_warm_up pm_warm_up an_warm_up cd_warm_up ct_warm_up), fd_latency := (PySem.W.fnOf "latency" "latency" (defArgs s_latency) (defBody s_latency) (defScope s_latency) .none kV_latency dc_latency pm_latency an_latency cd_latency ct_latency), fd_ConfigError_init := (PySem.W.fnX "__init__" "ConfigError.__init__" (defArgs s_ConfigError_init) (defBody s_ConfigError_init) (defScope s_ConfigError_init) [("__class__", cc_ConfigError)] .none kV_ConfigError_init dc_ConfigError_init pm_ConfigError_init an_ConfigError_init (.ref cda_ConfigError) ct_ConfigError_init), fd_require := (PySem.W.fnOf "_require" "_require" (defArgs s_require) (defBody s_require) (defScope s_require) .none kV_require dc_require pm_require an_require cd_require ct_require), fd_budget_sum := (PySem.W.fnOf "_budget_sum" "_budget_sum" (defArgs s_budget_sum) (defBody s_budget_sum) (defScope s_budget_sum) .none kV_budget_sum dc_budget_sum pm_budget_sum an_budget_sum cd_budget_sum ct_budget_sum), fd_Settings_init := (PySem.W.fnOf "__init__" "Settings.__init__" (defArgs s_Settings_init) (defBody s_Settings_init) (defScope s_Settings_init) .none (.ref D_Settings_init) dc_Settings_init pm_Settings_init an_Settings_init cd_Settings_init ct_Settings_init), fd_Config_init := (PySem.W.fnOf "__init__" "Config.__init__" (defArgs s_Config_init) (defBody s_Config_init) (defScope s_Config_init) .none (.ref D_Config_init) dc_Config_init pm_Config_init an_Config_init cd_Config_init ct_Config_init), fd_law_state := (PySem.W.fnOf "_law_state" "_law_state" (defArgs s_law_state) (defBody s_law_state) (defScope s_law_state) .none kV_law_state dc_law_state pm_law_state an_law_state cd_law_state ct_law_state), fd_law_draw := (PySem.W.fnOf "_law_draw" "_law_draw" (defArgs s_law_draw) (defBody s_law_draw) (defScope s_law_draw) .none kV_law_draw dc_law_draw pm_law_draw an_law_draw cd_law_draw ct_law_draw), fd_law_near := (PySem.W.fnOf "_law_near" "_law_near" (defArgs s_law_near) (defBody s_law_near) (defScope s_law_near) .none kV_law_near dc_law_near pm_law_near an_law_near cd_law_near ct_law_near), fd_law_settings := (PySem.W.fnOf "_law_settings" "_law_settings" (defArgs s_law_settings) (defBody s_law_settings) (defScope s_law_settings) .none kV_law_settings dc_law_settings pm_law_settings an_law_settings cd_law_settings ct_law_settings), fd_law_device_due := (PySem.W.fnOf "_law_device_due" "_law_device_due" (defArgs s_law_device_due) (defBody s_law_device_due) (defScope s_law_device_due) .none kV_law_device_due dc_law_device_due pm_law_device_due an_law_device_due cd_law_device_due ct_law_device_due), fd_law := (PySem.W.fnOf "law" "law" (defArgs s_law) (defBody s_law) (defScope s_law) .none kV_law dc_law pm_law an_law cd_law ct_law) }
  refine ⟨a.fd_law, fun s v => .of_eq rfl, fun base hKb hGb => ?_⟩
  have E_ConfigError : ErrC l.prog K mg C_ConfigError := ⟨⟨⟨nm_ConfigError, qn_ConfigError, N_ConfigError, bs_ConfigError, bm_ConfigError, sn_ConfigError, sub_ConfigError, ab_ConfigError, col_ConfigError, dd_ConfigError, k0_ConfigError, k1_ConfigError, k2_ConfigError, k3_ConfigError, k5_ConfigError, x_ConfigError, hbm_ConfigError⟩, sa_ConfigError, ex_ConfigError, ty_ConfigError, kp_ConfigError⟩, su_ConfigError, ve_ConfigError, op_ConfigError, sm_ConfigError, PySem.W.mg_none_of X G z_super, by rw [hl]; decide +kernel⟩
  have J_ConfigError : ErrI l.prog K C_ConfigError cc_ConfigError cda_ConfigError f_ConfigError_init "__init__" "ConfigError.__init__" (defArgs s_ConfigError_init) (defBody s_ConfigError_init) (defScope s_ConfigError_init) a.fd_ConfigError_init := ⟨⟨_, _, _, _, _, _, _, _, _, rfl, l_ConfigError_init⟩, c_ConfigError_init, ⟨_, _, _, ce_ConfigError⟩, ⟨_, _, _, _, _, _, co_ConfigError, cv_ConfigError, by rw [hl]; exact cf_ConfigError⟩⟩
  have O_ConfigError : FnOk l.prog w K mg base CX0 1 f_ConfigError_init a.fd_ConfigError_init ["self", "setting"] (spErr C_ConfigError "setting") :=
    okErr E_ConfigError no_ConfigError J_ConfigError sc_ConfigError_init rfl rfl (by decide +kernel) (by decide +kernel) (by decide +kernel) (fun _ => rfl) (fun _ => rfl) (fun _ => rfl) (fun _ => rfl) (fun X hN hv => (pe_joined (.cons pe_str (.cons (pe_fmt (pv 1 hN hv)) .nil)))) (te2 (by decide +kernel))
  have B_ConfigError : Binds K a.fd_ConfigError_init ["self", "setting"] [] := .all fun us hl => match us, hl with | [_, _], _ => rfl
  have K_ConfigError : EK l.prog w K mg base "ConfigError" "setting" C_ConfigError f_ConfigError_init a.fd_ConfigError_init ["self", "setting"] := ⟨E_ConfigError, PySem.W.mg_of X G gC_ConfigError, ic_ConfigError, ti_ConfigError, O_ConfigError, B_ConfigError, no_ConfigError, ⟨ga_ConfigError, gg_ConfigError, ex_ConfigError, hd_ConfigError⟩, ⟨ga_ConfigError, gg_ConfigError, ex_ConfigError, hd_ConfigError, ha_ConfigError, hn_ConfigError, ht_ConfigError, hm_ConfigError⟩, ow_ConfigError⟩
  have T : Txt l.prog w K mg base a := {
    g_abs := PySem.W.mg_none_of X G z_abs,
    g_all := PySem.W.mg_none_of X G z_all,
    g_bool := PySem.W.mg_none_of X G z_bool,
    g_enumerate := PySem.W.mg_none_of X G z_enumerate,
    g_int := PySem.W.mg_none_of X G z_int,
    g_isinstance := PySem.W.mg_none_of X G z_isinstance,
    g_len := PySem.W.mg_none_of X G z_len,
    g_list := PySem.W.mg_none_of X G z_list,
    g_max := PySem.W.mg_none_of X G z_max,
    g_min := PySem.W.mg_none_of X G z_min,
    g_range := PySem.W.mg_none_of X G z_range,
    g_sum := PySem.W.mg_none_of X G z_sum,
    F_job_share := F_job_share,
    b_job_share := b_job_share,
    g_job_share := PySem.W.mg_of X G a_job_share,
    F_device_admits := F_device_admits,
    b_device_admits := b_device_admits,
    g_device_admits := PySem.W.mg_of X G a_device_admits,
    F_admits := F_admits,
    b_admits := b_admits,
    g_admits := PySem.W.mg_of X G a_admits,
    F_warm_up := F_warm_up,
    b_warm_up := b_warm_up,
    g_warm_up := PySem.W.mg_of X G a_warm_up,
    F_latency := F_latency,
    b_latency := b_latency,
    g_latency := PySem.W.mg_of X G a_latency,
    F_require := F_require,
    b_require := b_require,
    g_require := PySem.W.mg_of X G a_require,
    F_budget_sum := F_budget_sum,
    b_budget_sum := b_budget_sum,
    g_budget_sum := PySem.W.mg_of X G a_budget_sum,
    F_Settings_init := F_Settings_init,
    kb_Settings_init_0 := kb_Settings_init_0,
    mk_Settings := ⟨mk_Settings, a_Settings_init, i_Settings_init, kc_Settings⟩,
    F_Config_init := F_Config_init,
    kb_Config_init_1 := kb_Config_init_1,
    mk_Config := ⟨mk_Config, a_Config_init, i_Config_init, kc_Config⟩,
    F_law_state := F_law_state,
    b_law_state := b_law_state,
    g_law_state := PySem.W.mg_of X G a_law_state,
    F_law_draw := F_law_draw,
    b_law_draw := b_law_draw,
    g_law_draw := PySem.W.mg_of X G a_law_draw,
    F_law_near := F_law_near,
    b_law_near := b_law_near,
    g_law_near := PySem.W.mg_of X G a_law_near,
    F_law_settings := F_law_settings,
    b_law_settings := b_law_settings,
    g_law_settings := PySem.W.mg_of X G a_law_settings,
    F_law_device_due := F_law_device_due,
    b_law_device_due := b_law_device_due,
    g_law_device_due := PySem.W.mg_of X G a_law_device_due,
    F_law := F_law,
    b_law := b_law,
    g_law := PySem.W.mg_of X G a_law,
    g_TickringsError := PySem.W.mg_of X G gC_TickringsError,
    g_ConfigError := PySem.W.mg_of X G gC_ConfigError,
    g_Settings := PySem.W.mg_of X G gC_Settings,
    g_Config := PySem.W.mg_of X G gC_Config,
    cl_Settings := ⟨pg_Settings, hd_Settings, po_Settings, sa_Settings⟩,
    n_Settings_queue := n_Settings_queue,
    n_Settings_sending := n_Settings_sending,
    n_Settings_slots := n_Settings_slots,
    n_Settings_pace := n_Settings_pace,
    n_Settings_count_limit := n_Settings_count_limit,
    n_Settings_wait := n_Settings_wait,
    n_Settings_idle := n_Settings_idle,
    n_Settings_room := n_Settings_room,
    n_Settings_receive := n_Settings_receive,
    n_Settings_transmit := n_Settings_transmit,
    cl_Config := ⟨pg_Config, hd_Config, po_Config, sa_Config⟩,
    n_Config_devices := n_Config_devices,
    n_Config_buffers := n_Config_buffers,
    n_Config_size := n_Config_size,
    n_Config_period := n_Config_period,
    n_Config_jobs := n_Config_jobs,
    e_ConfigError := K_ConfigError }
  exact FnOk.imp (ok_law T) fun vs H Q E h => h
theorem walk {l : PySem.W.OpenLaw} {q : Program} {loose : List Str} {XP : (Str → Option Value) → Heap → Prop} {YP : World → Heap → Prop} {d : DefRec} {K : Params → PySem.W.Frag} (hn : l.most = some 63) (hdf : d.params.defaults = [])
    (hY : ∀ (w : World) (h : Heap), YP w h → (K w.params).In h)
    (F : ∀ (w : World) (mg : Str → Option Value) (fa : Addr) (h : Heap), (K w.params).In h → h.Ns mainGlobals mg → mg d.name = some (.ref fa) → ∃ fd : FuncData, (∀ (s : Shared) (u : Value), BindsTo s fd ⟨[u], []⟩ [("script", u)]) ∧
      ∀ base : Heap, (K w.params).In base → base.Ns mainGlobals mg → FnOk l.prog w (K w.params) mg base (L2.CX l.prog w) 7 fa fd ["script"] (sp_law0 (K w.params))) :
    PySem.W.WalkO q loose XP YP l.row.toRowW d [] (fun f vs => PySem.call f vs) :=
  L2.walk_of (n := 63) (k := 7) (x := "script") (CX := fun w => L2.CX l.prog w) (sp := fun w => sp_law0 (K w.params)) hn (by decide) hdf ⟨rfl, by decide, by decide⟩ hY F (fun _ _ b ns hl _ hS => a1 ⟨b, ns, rfl, hS, hl, fun _ => rfl⟩) fun _ _ _ _ _ ⟨_, _, _, _, _, _, _, _, _, _, _, _, z⟩ => z
end My
open PySem PySem.W PyProof.Rows
set_option maxRecDepth 100000 in
set_option maxHeartbeats 0 in
theorem PySem.Challenge.cw_tickrings_k19_admitted_rates_holds : PySem.Challenge.rw_tickrings_k19_admitted_rates.Holds := by
  w_on; o_law; k_head; (case hw => w_witness2)
  k_fill
  refine My.walk (l := PySem.Challenge.rw_tickrings_k19_admitted_rates) rfl rfl (fun w h Y => PySem.W.kIn_of Y) ?F
  case F =>
    intro w mg fa h KX G hmg
    refine' My.all_mk rfl KX G hmg ?hgC_TickringsError ?hgC_ConfigError ?hgC_Settings ?hgC_Config ?ha_job_share ?hl_job_share ?hc_job_share ?hk_job_share ?ha_device_admits ?hl_device_admits ?hc_device_admits ?hk_device_admits ?ha_admits ?hl_admits ?hc_admits ?hk_admits ?ha_warm_up ?hl_warm_up ?hc_warm_up ?hk_warm_up ?ha_latency ?hl_latency ?hc_latency ?hk_latency ?hx_ConfigError ?hhbm_ConfigError ?hsa_ConfigError ?hex_ConfigError ?hty_ConfigError ?hkp_ConfigError ?hsu_ConfigError ?hve_ConfigError ?hop_ConfigError ?hsm_ConfigError ?hic_ConfigError ?hti_ConfigError ?hl_ConfigError_init ?hc_ConfigError_init ?hce_ConfigError ?hco_ConfigError ?hcv_ConfigError ?hcf_ConfigError ?hno_ConfigError ?hga_ConfigError ?hgg_ConfigError ?hhd_ConfigError ?hha_ConfigError ?hhn_ConfigError ?hht_ConfigError ?hhm_ConfigError ?how_ConfigError ?ha_require ?hl_require ?hc_require ?hk_require ?ha_budget_sum ?hl_budget_sum ?hc_budget_sum ?hk_budget_sum ?ha_Settings_init ?hi_Settings_init ?hl_Settings_init ?hd_Settings_init_queue ?hd_Settings_init_sending ?hd_Settings_init_slots ?hd_Settings_init_pace ?hd_Settings_init_count ?hd_Settings_init_wait ?hd_Settings_init_idle ?hd_Settings_init_room ?hd_Settings_init_receive ?hd_Settings_init_transmit ?hc_Settings_init ?hk_Settings_init ?ha_Config_init ?hi_Config_init ?hl_Config_init ?hd_Config_init_buffers ?hd_Config_init_size ?hd_Config_init_period ?hd_Config_init_jobs ?hc_Config_init ?hk_Config_init ?ha_law_state ?hl_law_state ?hc_law_state ?hk_law_state ?ha_law_draw ?hl_law_draw ?hc_law_draw ?hk_law_draw ?ha_law_near ?hl_law_near ?hc_law_near ?hk_law_near ?ha_law_settings ?hl_law_settings ?hc_law_settings ?hk_law_settings ?ha_law_device_due ?hl_law_device_due ?hc_law_device_due ?hk_law_device_due ?ha_law ?hl_law ?hc_law ?hk_law ?hpg_Settings ?hhd_Settings ?hpo_Settings ?hsa_Settings ?hmk_Settings ?hkc_Settings ?hn_Settings_queue ?hn_Settings_sending ?hn_Settings_slots ?hn_Settings_pace ?hn_Settings_count_limit ?hn_Settings_wait ?hn_Settings_idle ?hn_Settings_room ?hn_Settings_receive ?hn_Settings_transmit ?hpg_Config ?hhd_Config ?hpo_Config ?hsa_Config ?hmk_Config ?hkc_Config ?hn_Config_devices ?hn_Config_buffers ?hn_Config_size ?hn_Config_period ?hn_Config_jobs ?hz_abs ?hz_all ?hz_bool ?hz_enumerate ?hz_int ?hz_isinstance ?hz_len ?hz_list ?hz_max ?hz_min ?hz_range ?hz_sum ?hz_super
    (case hgC_TickringsError => k_is)
    (case hgC_ConfigError => k_is)
    (case hgC_Settings => k_is)
    (case hgC_Config => k_is)
    (case ha_job_share => k_is)
    (case hl_job_share => k_is)
    (case hc_job_share => k_is)
    (case hk_job_share => k_is)
    (case ha_device_admits => k_is)
    (case hl_device_admits => k_is)
    (case hc_device_admits => k_is)
    (case hk_device_admits => k_is)
    (case ha_admits => k_is)
    (case hl_admits => k_is)
    (case hc_admits => k_is)
    (case hk_admits => k_is)
    (case ha_warm_up => k_is)
    (case hl_warm_up => k_is)
    (case hc_warm_up => k_is)
    (case hk_warm_up => k_is)
    (case ha_latency => k_is)
    (case hl_latency => k_is)
    (case hc_latency => k_is)
    (case hk_latency => k_is)
    (case hx_ConfigError => k_is)
    (case hhbm_ConfigError => first | rfl | decide +kernel)
    (case hsa_ConfigError => k_is)
    (case hex_ConfigError => k_is)
    (case hty_ConfigError => k_is)
    (case hkp_ConfigError => k_is)
    (case hsu_ConfigError => ks_is)
    (case hve_ConfigError => k_is)
    (case hop_ConfigError => k_is)
    (case hsm_ConfigError => k_is)
    (case hic_ConfigError => k_is)
    (case hti_ConfigError => k_is)
    (case hl_ConfigError_init => k_is)
    (case hc_ConfigError_init => k_is)
    (case hce_ConfigError => k_is)
    (case hco_ConfigError => k_is)
    (case hcv_ConfigError => exact rfl)
    (case hcf_ConfigError => first | rfl | decide +kernel)
    (case hno_ConfigError => k_is)
    (case hga_ConfigError => k_is)
    (case hgg_ConfigError => k_is)
    (case hhd_ConfigError => k_is)
    (case hha_ConfigError => k_is)
    (case hhn_ConfigError => k_is)
    (case hht_ConfigError => k_is)
    (case hhm_ConfigError => k_is)
    (case how_ConfigError => first | k_is | rfl)
    (case ha_require => k_is)
    (case hl_require => k_is)
    (case hc_require => k_is)
    (case hk_require => k_is)
    (case ha_budget_sum => k_is)
    (case hl_budget_sum => k_is)
    (case hc_budget_sum => k_is)
    (case hk_budget_sum => k_is)
    (case ha_Settings_init => k_is)
    (case hi_Settings_init => k_is)
    (case hl_Settings_init => k_is)
    (case hd_Settings_init_queue => k_is)
    (case hd_Settings_init_sending => k_is)
    (case hd_Settings_init_slots => k_is)
    (case hd_Settings_init_pace => k_is)
    (case hd_Settings_init_count => k_is)
    (case hd_Settings_init_wait => k_is)
    (case hd_Settings_init_idle => k_is)
    (case hd_Settings_init_room => k_is)
    (case hd_Settings_init_receive => k_is)
    (case hd_Settings_init_transmit => k_is)
    (case hc_Settings_init => k_is)
    (case hk_Settings_init => k_is)
    (case ha_Config_init => k_is)
    (case hi_Config_init => k_is)
    (case hl_Config_init => k_is)
    (case hd_Config_init_buffers => k_is)
    (case hd_Config_init_size => k_is)
    (case hd_Config_init_period => k_is)
    (case hd_Config_init_jobs => k_is)
    (case hc_Config_init => k_is)
    (case hk_Config_init => k_is)
    (case ha_law_state => k_is)
    (case hl_law_state => k_is)
    (case hc_law_state => k_is)
    (case hk_law_state => k_is)
    (case ha_law_draw => k_is)
    (case hl_law_draw => k_is)
    (case hc_law_draw => k_is)
    (case hk_law_draw => k_is)
    (case ha_law_near => k_is)
    (case hl_law_near => k_is)
    (case hc_law_near => k_is)
    (case hk_law_near => k_is)
    (case ha_law_settings => k_is)
    (case hl_law_settings => k_is)
    (case hc_law_settings => k_is)
    (case hk_law_settings => k_is)
    (case ha_law_device_due => k_is)
    (case hl_law_device_due => k_is)
    (case hc_law_device_due => k_is)
    (case hk_law_device_due => k_is)
    (case ha_law => k_is)
    (case hl_law => k_is)
    (case hc_law => k_is)
    (case hk_law => k_is)
    (case hpg_Settings => k_is)
    (case hhd_Settings => k_is)
    (case hpo_Settings => k_is)
    (case hsa_Settings => k_is)
    (case hmk_Settings => k_is)
    (case hkc_Settings => k_is)
    (case hn_Settings_queue => k_is)
    (case hn_Settings_sending => k_is)
    (case hn_Settings_slots => k_is)
    (case hn_Settings_pace => k_is)
    (case hn_Settings_count_limit => k_is)
    (case hn_Settings_wait => k_is)
    (case hn_Settings_idle => k_is)
    (case hn_Settings_room => k_is)
    (case hn_Settings_receive => k_is)
    (case hn_Settings_transmit => k_is)
    (case hpg_Config => k_is)
    (case hhd_Config => k_is)
    (case hpo_Config => k_is)
    (case hsa_Config => k_is)
    (case hmk_Config => k_is)
    (case hkc_Config => k_is)
    (case hn_Config_devices => k_is)
    (case hn_Config_buffers => k_is)
    (case hn_Config_size => k_is)
    (case hn_Config_period => k_is)
    (case hn_Config_jobs => k_is)
    (case hz_abs => k_is)
    (case hz_all => k_is)
    (case hz_bool => k_is)
    (case hz_enumerate => k_is)
    (case hz_int => k_is)
    (case hz_isinstance => k_is)
    (case hz_len => k_is)
    (case hz_list => k_is)
    (case hz_max => k_is)
    (case hz_min => k_is)
    (case hz_range => k_is)
    (case hz_sum => k_is)
    (case hz_super => k_is)
#print axioms PySem.Challenge.cw_tickrings_k19_admitted_rates_holds
