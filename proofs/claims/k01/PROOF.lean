import PyProof.Rows.All
import Wide.All
import OpenK.AllK
import Wide.FinOn
import HandS.ForExc
import HandS.Nested
import HandS.ExcInit
import HandS.ExcField
import HandS.FStr
import HandS.MakeKwOnly
import HandS.IsInst
import HandS.ExcIs
import KE.KExcSuper
import KE.KExcIs
import HandS.ForMost
import HandS.Evl
import PySem.Challenge.RW_tickrings_k01_configurations
set_option Elab.async false
set_option maxRecDepth 100000
set_option maxHeartbeats 4000000
set_option linter.all false
set_option autoImplicit false
/-! An own error class over another own class over ValueError, whose __init__ says super().__init__(..) and stores one field. -/
namespace Sx
open PySem PySem.Spec PyProof.Rows L2 PySem.W PySem.Calls NdefX
section
variable {prog : Program} {w : World} {A : Around} {E : Value → Shared → Prop} {h : Heap} {g : Array GenState} {d : Drawn} {t : Nat} {os : OsState}
/-- ValueError.__init__ bound to an exception, called -/
theorem call_mw {nm q : Str} {C N u e t0 : Addr} {bs bm : List Value} {hdct : Bool} {sn : List Str} {sub : List Value} {ab : Bool} {col : Option Bool} {dd : Option Addr} {k0 k1 k2 k3 k5 : Option Value} {rest : List Value} {Q : Value → Shared → Prop}
    (hC : h.get? C = some (excClassObj nm q C N bs bm hdct sn sub ab col dd k0 k1 k2 k3 k5 "ValueError.__new__")) (he : h.get? e = some (HandSPX.excO C t0)) (hu : h.get? u = some (kxs_mw "ValueError.__init__" e)) (hrest : rest.length ≤ sizeLine)
    (hq : ∀ h' t1, (∀ b o, b ≠ e → h.get? b = some o → h'.get? b = some o) → h'.get? e = some (HandSPX.excO C t1) → Q .none ⟨h', g, d, t, os⟩) :
    wpAny (model prog w) A (call (.ref u) rest) Q E ⟨h, g, d, t, os⟩ := by
  refine wpAny_call (codeAny_of_tree ?_)
  show wpAny _ A.in1 (callAny (.ref u) ⟨rest, []⟩) _ _ _
  simp only [callAny]
  refine wpAny_bind (wpAny_load hu ?_)
  simp only [kxs_mw, show (Value.type "method-wrapper" == Value.type "method" || Value.type "method-wrapper" == Value.type "builtin_function_or_method" || Value.type "method-wrapper" == Value.type "method-wrapper") = true by decide, if_true]
  refine W.KFB.if_so (by decide) ?_
  refine wpAny_bind (check_bound_init F.excBase_ValueError.toExcCallFacts hC he rfl ?_)
  refine wpAny_bind (wpAny_pure (wpAny_pure ?_))
  refine ⟨plainId_quiet F.excBase_ValueError.init.plain _, codeAny_builtin F.excBase_ValueError.initEntry ?_⟩
  exact exc_init_tree (cls := .ref C) (t0 := t0) (dv := none) (c2 := .none) (c3 := .none) (b4 := .bool false) he hrest fun h' k hx _ => hq h' _ k hx
end
/-- what the top has written of such a class -/
structure ErrC (P : Program) (K : PySem.W.Frag) (mg : Str → Option Value) (C : Addr) : Prop where
  ox : OexC K C
  sup : ks_superIn K C C "__init__" = some (some (.builtin "ValueError.__init__"))
  ve : PySem.W.subIn K (.ref C) (.type "ValueError") = some true
  op : PySem.W.nsIn K cStatics "thirdparty.any" = some none
  selfM : PySem.W.mroIn K C (.ref C) = some true
  sm : mg "super" = none
  top : (P.main.scope.names.lookup ("super" : Str)).isSome = false
/-- its __init__ -/
structure ErrI (P : Program) (K : PySem.W.Frag) (C cc cda fI : Addr) (name qual : Str) (params : Arguments) (body : List Stmt) (scope : Scope) (fd : FuncData) : Prop where
  fn : ∃ oc od osl dV kV doc pm an ct, fd = PySem.W.fnX name qual params body scope [("__class__", cc)] dV kV doc pm an (.ref cda) ct ∧ K.lookup fI = some ⟨oc, od, .func fd, osl⟩
  cd : PySem.W.codeIn K (.ref cda) qual = true
  cell : ∃ cl cld csl, K.lookup cc = some ⟨cl, cld, .cell (some (.ref C)), csl⟩
  code : ∃ ccl cdd vs ccs file tf, K.lookup cda = some ⟨ccl, cdd, .fields vs, ccs⟩ ∧ vs[2]? = some (.str file tf) ∧ ((P.main.file : Str) == file) = true
section
variable {P : Program} {w : World} {K : PySem.W.Frag} {mg : Str → Option Value} {base : Heap} {CX : CXT}
theorem fn_of_err {C cc cda f : Addr} {name qual : Str} {params : Arguments} {scope : Scope} {fd : FuncData} {ar : Arg} {N ps : List Str} {k : Nat} {sp : Sp} {p0 p1 p2 pos pos' : Pos} {e : Expr} {es : List Expr} {rest : List Stmt}
    (T : ErrC P K mg C) (I0 : ErrI P K C cc cda f name qual params (.Expr (.Call (.Attribute (.Call (.Name "super" p0) [] [] p1) "__init__" p2) (e :: es) [] pos) pos' :: rest) scope fd)
    (S : NScope N ps ["__class__"] scope) (hp : (params.posonlyargs ++ params.args).head? = some ar) (hp0 : ps[0]? = some ar.arg) (hsup : scope.names.lookup ("super" : Str) = some .globalImplicit)
    (len : ∀ vs H Q E, sp vs H Q E → vs.length = ps.length)
    (he : ∀ env, starEach (e :: es) env = (false, eval e env) :: starEach es env) (hpl : ∀ env, (backTo pos (starEach es env)).any (·.1) = false)
    {pl : Env → Sem Bool} (hmc : ∀ env : Env, eval (.Call (.Attribute (.Call (.Name "super" p0) [] [] p1) "__init__" p2) (e :: es) [] pos) env = (do
      let ov ← attributeBase (.Call (.Name "super" p0) [] [] p1) "__init__" env (eval (.Call (.Name "super" p0) [] [] p1) env)
      standAt p2.atName
      let (f, first) ← holding [ov] (getMethod ov "__init__" (pl env))
      callWith pos f first (backTo pos (starEach (e :: es) env)) []))
    (hsw : ∀ env, swapsWith (.Call (.Attribute (.Call (.Name "super" p0) [] [] p1) "__init__" p2) (e :: es) [] pos) none pos'.line env = pure false)
    (hbody : ∀ (A : Around) (outer : List Env) (s : Shared) (H : Hp) (vs : List V) (Q : VK) (E : XK), sp vs H Q E →
      ∃ ta t, PA (ncx CX P w K mg base N ⟨name, qual, params, .Expr (.Call (.Attribute (.Call (.Name "super" p0) [] [] p1) "__init__" p2) (e :: es) [] pos) pos' :: rest, scope, [("__class__", cc)], cda⟩ f A outer s H E) (e :: es) ta ∧
        PSs (ncx CX P w K mg base N ⟨name, qual, params, .Expr (.Call (.Attribute (.Call (.Name "super" p0) [] [] p1) "__init__" p2) (e :: es) [] pos) pos' :: rest, scope, [("__class__", cc)], cda⟩ f A outer s H E) rest t ∧
        ∃ a, vs[0]? = some (.ref a) ∧ H a = some (exo a C none) ∧
          ta (startF N vs [some (.ref C)]) H fun ws H1 => ws.length ≤ 1000 ∧ H1 a = some (exo a C none) ∧ t { nx := fun _ H' => Q .non H', rt := Q } (startF N vs [some (.ref C)]) H1) :
    FnOk P w K mg base CX (k + 1) f fd ps sp := by
  obtain ⟨⟨oc, od, osl, dV, kV, doc, pm, an, ct, rfl, lk⟩, hcd, ⟨cl, cld, csl, hcell⟩, ⟨ccl, cdd, vsC, ccs, file, tf, hcode, hvs, hfile⟩⟩ := I0
  refine ⟨len, fun A outer s H args us vs Q E hr e0 hb r hsp => ?_⟩
  have hl := len _ _ _ _ hsp
  have KX : K.In s.heap := e0.mod.kin.keeps fun b o e => (e0.bs b o e).1
  have lim : s.heap.NoLimit := e0.mod.nolimit.keeps fun b o e => (e0.bs b o e).1
  have C0 : CellsAt [(("__class__" : Str), cc)] ["__class__"] [some (V.ref C)] s.heap H := by
    refine ⟨rfl, fun y c q => ?_, fun x y c q1 q2 => ?_, fun i y q => ?_⟩
    · have hy : c = cc := by
        by_cases hyy : y = ("__class__" : Str)
        · subst hyy
          simpa [List.lookup] using q.symm
        · have : (y == ("__class__" : Str)) = false := by simpa using hyy
          simp [List.lookup, this] at q
      subst hy
      exact ⟨(e0.bs c _ (e0.mod.kin _ _ hcell)).2, _, ⟨_, KX _ _ hcell, rfl⟩⟩
    · have hx : x = ("__class__" : Str) := by
        by_cases hyy : x = ("__class__" : Str)
        · exact hyy
        · have : (x == ("__class__" : Str)) = false := by simpa using hyy
          simp [List.lookup, this] at q1
      have hy : y = ("__class__" : Str) := by
        by_cases hyy : y = ("__class__" : Str)
        · exact hyy
        · have : (y == ("__class__" : Str)) = false := by simpa using hyy
          simp [List.lookup, this] at q2
      rw [hx, hy]
    · match i, q with
      | 0, q =>
        have hy : ("__class__" : Str) = y := Option.some.inj q
        subst hy
        refine ⟨cc, by simp [List.lookup], fun v hv => ⟨.ref C, ?_, _, KX _ _ hcell, rfl⟩⟩
        have hv' : V.ref C = v := by simpa using hv
        subst hv'
        rfl
      | i + 1, q => simp at q
  let F : NF := ⟨name, qual, params, .Expr (.Call (.Attribute (.Call (.Name "super" p0) [] [] p1) "__init__" p2) (e :: es) [] pos) pos' :: rest, scope, [("__class__", cc)], cda⟩
  have hS : NScope N ps ["__class__"] F.scope := S
  refine ks_codeAny_call_defAt (body := F.body) (binds := ps.zip us) hr.depth (KX _ _ lk) rfl lim (codeRec_of KX hcd) rfl (hb) S.nocell (fun ⟨n, _⟩ hy => S.par n (List.of_mem_zip hy).1) (fun h₁ hns kp => ?_) S.co S.gen S.kind
  obtain ⟨ta, tb, hta, htb, a, hv0, hea, hq⟩ := hbody A outer s H vs Q E hsp
  have I : Inv (ncx CX P w K mg base N F f A outer s H E) [] (startF N vs [some (.ref C)]) H { s with heap := h₁, toks := s.toks + (ps.zip us).length } := inv_startN hS hr.hd e0 hl r C0 hns kp
  show PySem.wpAt _ (A.deeper (envF F f s.heap.objs.size)) (.func F.body (envF F f s.heap.objs.size)) (execs F.body (envF F f s.heap.objs.size)) _ _ _
  refine ks_wpAt_mono (Q := SP (ncx CX P w K mg base N F f A outer s H E) [] { nx := fun _ H' => Q .non H', rt := Q }) (ks_wpAt_execs_cons (ks_wpAt_Expr_any (ks_wpAt_MethodCall (pl := pl _) ?_ (hmc _)) (by show (scope.kind == ScopeKind.module && _) = false; rw [S.kind]; rfl) (hsw _))) (fun fl s' hs => ?_) fun e s' hs => hs
  · -- super()
    have KX1 : K.In h₁ := KX.keeps kp
    obtain ⟨nm, q, N', bs, bm, sn, sub, ab, col, dd, k0, k1, k2, k3, k5, hC, hbm⟩ := T.ox.cls
    have hcl : PySem.W.clsIn K C = some { name := nm, bases := bs, mro := .ref C :: bm, ns := N', qualname := q, hasDict := true, slotNames := sn, subclasses := sub, abstract := ab, collection := col, hasDel := false } := by unfold PySem.W.clsIn; rw [hC] <;> rfl
    obtain ⟨t1, ho⟩ := exo_at I.hok hea
    have hu0 : us[0]? = some (.ref a) := by
      obtain ⟨u, hu, ru⟩ := r.get hv0
      have : u = Value.ref a := ru
      rw [hu, this]
    have hself : (ps.zip us).reverse.lookup ar.arg = some (.ref a) := by
      have ndP : ps.Nodup := by
        have q := S.nd.sublist (List.take_sublist (ps.length + 1) N)
        have q2 := S.pre
        simp only [List.length_cons, List.length_nil, Nat.zero_add] at q2
        rw [q2] at q
        exact (List.nodup_append.mp q).1
      exact zip_look ndP hp0 hu0
    have gl : h₁.Ns mainGlobals mg := e0.mod.glob.keeps fun b o z => kp b o (e0.bs b o z).1
    obtain ⟨mb, hmb, hmbE⟩ := e0.mod.blt
    have bl : h₁.Ns builtinsNs mb := hmb.keeps fun b o z => kp b o (e0.bs b o z).1
    refine ks_wpAt_super_base (env := envF F f s.heap.objs.size) hsup (S.frk _ List.mem_cons_self) (by decide) rfl (KX1 _ _ lk) rfl hp rfl (KX1 _ _ hcode) rfl hvs hfile T.top ?_
    refine ks_loadName_global S.kind hsup (loadGlobal_builtin (env := envF F f s.heap.objs.size) gl T.sm bl ((hmbE _ (by decide +kernel)).trans (by decide +kernel : bootBuiltins "super" = some (.type "super"))) ⟨rfl, ?_⟩)
    refine wpAny_loadName_free S.kind (S.frk _ List.mem_cons_self) (by first | rfl | simp [List.lookup]) ⟨_, KX1 _ _ hcell, rfl⟩ ?_
    refine wpAny_loadName_local S.kind (S.par _ (List.mem_of_getElem? hp0)) hns hself ?_
    refine ks_wpAny_isType_cls (KX1 _ _ hC) rfl ⟨rfl, ?_⟩
    refine ks_wpAny_call_super (KX1 _ _ hC) rfl ho rfl (fun c e => by cases e) (PySem.W.looks_mroIn KX1 T.selfM) (fun h2 eso k2 => ?_)
    have I1 := I.kept (t' := s.toks + (ps.zip us).length) k2
    have KX2 : K.In h2 := KX1.keeps k2
    have hax : a ≠ C := by
      intro z
      have z1 := KX1 _ _ hC
      rw [← z, ho] at z1
      cases z1
    have ho2 : h2.get? a = some ({ cls := .ref C, dict := none, data := .fields #[.ref t1, .none, .none, .none, .bool false, .none] } : Obj) := k2 _ _ ho
    have J : PySem.W.InstAt h2 a ({ cls := .ref C, dict := none, data := .fields #[.ref t1, .none, .none, .none, .bool false, .none] } : Obj) C none := ⟨ho2, rfl, rfl, trivial⟩
    have hsupX := T.sup
    unfold ks_superIn at hsupX
    rw [hcl] at hsupX
    have hI : PySem.W.Looks (model P w) h2 (isInstance (.ref a) (.type "ValueError")) true := J.type.andThen (PySem.W.looks_subIn KX2 T.ve)
    refine kxs_getMethod kxs_ValueError eso (PySem.W.looks_opaque KX2 T.op) (l₀ := .ref C :: bm) ?_ rfl KX2 hsupX hI hax (by decide) ?_
    · exact fun A Q E s k q => wpAny_bind ((PySem.W.looks_clsIn KX2 hcl) A _ E s k (wpAny_pure q))
    · have k3 : ∀ b o, h2.get? b = some o → (h2.push (kxs_mw "ValueError.__init__" a)).get? b = some o := fun b o e => Heap.get?_push_of_some _ e
      have I2 := I1.kept (t' := s.toks + (ps.zip us).length + 1) k3
      have nu : H h2.objs.size = none := I1.hok.fresh (Nat.le_refl _)
      have hmw : (h2.push (kxs_mw "ValueError.__init__" a)).get? h2.objs.size = some (kxs_mw "ValueError.__init__" a) := Heap.get?_push_at rfl rfl
      have I3 := I2.pins_of (pins' := [(h2.objs.size, kxs_mw "ValueError.__init__" a)]) fun p hp => by
        have hp' : p = (h2.objs.size, kxs_mw "ValueError.__init__" a) := by simpa [ncx] using hp
        subst hp'
        exact ⟨hmw, nu, fun z => absurd I1.lt (by rw [← z]; exact Nat.lt_irrefl _), I1.nofs (Nat.le_refl _), fun v z => by cases z⟩
      refine kxs_callWith (i := "ValueError.__init__") (x := a) (by rw [he]; show (false || (backTo pos (starEach es _)).any (·.1)) = false; rw [hpl]; rfl) ?_
      rw [he]
      refine evalArgs_plain ?_
      show wpAny _ _ (spliced (backTo pos ((false, eval e (envF F f s.heap.objs.size)) :: starEach es (envF F f s.heap.objs.size)))) _ _ _
      rw [← he]
      refine thn (hta.run pos _ _ _ H _ I3 hq) fun us1 s1 hAP => ?_
      obtain ⟨ws, H1, I4, r4, hz, hea1, q4⟩ := hAP
      have hpin := (I4.pin (h2.objs.size, kxs_mw "ValueError.__init__" a) (by simp [ncx])).1
      refine ⟨hpin, ?_⟩
      obtain ⟨t2, ho4⟩ := exo_at I4.hok hea1
      have I5 := I4.pins_of (pins' := []) fun p hp => by simp [ncx] at hp
      obtain ⟨hp4, g4, d4, t4, os4⟩ := s1
      refine call_mw (I4.kIn _ _ hC) ho4 hpin (by show us1.length ≤ sizeLine; rw [← r4.length, sizeLine_eq]; omega) fun h' t5 k5 hx5 => ?_
      have I6 := I5.write (t' := t4) (x := a) (e := a) (o := exo a C none) (by rw [hea1]; exact True.intro) (.inl rfl) k5 ⟨_, hx5⟩ (exo_ok hx5)
      have eu : upd H1 a (exo a C none) = H1 := by
        funext b
        by_cases hb : b = a
        · rw [hb, upd_same, hea1]
        · rw [upd_ne hb]
      rw [eu] at I6
      exact wpAt_of_wpAny (htb.run [] _ _ H1 _ I6 q4)
  · have fin : ∀ {σ' : L2.St} {H' : Hp} {v : V} {u : Value}, Inv (ncx CX P w K mg base N F f A outer s H E) [] σ' H' s' → L2.RelV v u → Q v H' → CE outer P w H s Q u s' :=
      fun {σ' H' v u} J rv q => ⟨v, H', J.os, J.bare, J.base, J.hok, rv, q⟩
    cases fl with
    | ret u =>
      obtain ⟨v, σ', H', J, rv, q⟩ := hs
      exact fin J rv q
    | next =>
      obtain ⟨σ', H', J, q⟩ := hs
      exact fin (v := V.non) (u := Value.none) J rfl q
    | brk =>
      obtain ⟨_, _, _, q⟩ := hs
      exact False.elim q
    | cont =>
      obtain ⟨_, _, _, q⟩ := hs
      exact False.elim q
end

/-! ### the promise of such an __init__, its body, the raise -/
def okV (x : V) : Prop := (∃ y : Str, x = .str y ∧ y.length ≤ 1000) ∨ ∃ i : Int, x = .int i ∧ i.natAbs.log2 < 1920
theorem okV_int {i : Int} (h : -(2 ^ 64) < i ∧ i < 2 ^ 64) : okV (.int i) := by
  refine .inr ⟨i, rfl, ?_⟩
  have h1 : i.natAbs < 2 ^ 64 := by omega
  by_cases h0 : i.natAbs = 0
  · rw [h0]; decide
  · exact Nat.lt_of_lt_of_le ((Nat.log2_lt h0).mpr h1) (by decide)
def spErr (C : Addr) (fld : Str) : Sp := fun vs H Q _ => ∃ a x, vs = [.ref a, x] ∧ okV x ∧ H a = some (exo a C none) ∧ ∀ d, H d = none → d ≠ a → Q .non (upd (upd H d (exd d [(fld, x)])) a (exo a C (some d)))
section
variable {P : Program} {w : World} {K : PySem.W.Frag} {mg : Str → Option Value} {base : Heap} {CX : CXT}
theorem okErr {C cc cda f : Addr} {name qual fld : Str} {params : Arguments} {scope : Scope} {fd : FuncData} {ar : Arg} {prm : Str} {p0 p1 p2 pos pos' q0 q1 q2 q3 : Pos} {e : Expr} {te : TE}
    (T : ErrC P K mg C) (hno : PySem.W.findIn K (.ref C) fld = some none)
    (I0 : ErrI P K C cc cda f name qual params [.Expr (.Call (.Attribute (.Call (.Name "super" p0) [] [] p1) "__init__" p2) [e] [] pos) pos', .Assign [.Attribute (.Name "self" q0) fld q1] (.Name prm q2) q3] scope fd)
    (S : NScope ["self", prm, "__class__"] ["self", prm] ["__class__"] scope) (hp : (params.posonlyargs ++ params.args).head? = some ar) (hp0 : ar.arg = "self") (hsup : scope.names.lookup ("super" : Str) = some .globalImplicit)
    (hd : (prm == ("__debug__" : Str)) = false) (hcd : (prm == ("__classdict__" : Str)) = false)
    (he : ∀ env, starEach [e] env = (false, eval e env) :: starEach [] env)
    {pl : Env → Sem Bool} (hmc : ∀ env : Env, eval (.Call (.Attribute (.Call (.Name "super" p0) [] [] p1) "__init__" p2) [e] [] pos) env = (do
      let ov ← attributeBase (.Call (.Name "super" p0) [] [] p1) "__init__" env (eval (.Call (.Name "super" p0) [] [] p1) env)
      standAt p2.atName
      let (f, first) ← holding [ov] (getMethod ov "__init__" (pl env))
      callWith pos f first (backTo pos (starEach [e] env)) []))
    (hsw : ∀ env, swapsWith (.Call (.Attribute (.Call (.Name "super" p0) [] [] p1) "__init__" p2) [e] [] pos) none pos'.line env = pure false)
    (hsw2 : ∀ env, swapsWith (.Name prm q2) (some (.Attribute (.Name "self" q0) fld q1)) q3.line env = pure false)
    (hPE : ∀ X : Cx, X.N[1]? = some prm → Vis X.env.scope prm → PE X e te)
    (hte : ∀ (σ : L2.St) (H : Hp) (Q : VK) (x : V), σ[1]? = some (some x) → okV x → (∀ z, Q (.str z) H) → te σ H Q) :
    FnOk P w K mg base CX 1 f fd ["self", prm] (spErr C fld) := by
  refine fn_of_err T I0 S hp (by rw [hp0]; rfl) hsup (fun vs H Q E h => ?_) he (fun env => rfl) hmc hsw fun A outer s H vs Q E h => ?_
  · obtain ⟨a, x, rfl, _⟩ := h
    rfl
  · obtain ⟨a, x, rfl, hok, hea, k⟩ := h
    refine ⟨tCons te tNil, tOst K fld (tVar 0) (tVar 1), pa_cons (hPE _ rfl (Or.inl (S.par _ (by simp)))) pa_nil (he _), pss_one (ps_ost (pv 0 rfl (Or.inl (S.par _ (by simp)))) (pv 1 rfl (Or.inl (S.par _ (by simp))) hd hcd) (hsw2 _)), a, rfl, hea, ?_⟩
    refine hte _ _ _ x rfl hok fun z => ?_
    refine ⟨by show 1 ≤ 1000; decide, hea, ?_⟩
    exact ⟨x, rfl, _, rfl, a, C, rfl, T.ox, hno, .inl ⟨hea, fun d hd hda => k d hd hda⟩⟩
/-- f"pre{x}" and f"pre{x}suf" -/
theorem te2 {pre : Str} {i : Nat} (hpre : pre.length ≤ 1000) (σ : L2.St) (H : Hp) (Q : VK) (x : V) (hx : σ[i]? = some (some x)) (ho : okV x) (q : ∀ z, Q (.str z) H) :
    tJs [tC (.str pre), tFmt (tVar i)] Str.empty σ H (fun out H1 => Q (.str out) H1) := by
  have hs : ∀ n : Nat, n ≤ 10000 → n ≤ sizeLine := fun n h => by rw [sizeLine_eq]; omega
  have l0 : (Str.empty ++ pre).length ≤ 1000 := by rw [Str.length_append]; show 0 + _ ≤ _; omega
  refine ⟨pre, rfl, hs _ (by omega), x, hx, ?_⟩
  rcases ho with ⟨y, rfl, hy⟩ | ⟨j, rfl, hj⟩
  · exact .inl ⟨y, rfl, hs _ (by omega), y, rfl, hs _ (by rw [Str.length_append]; omega), q _⟩
  · have l1 := int_text_len_1921 hj
    exact .inr ⟨j, rfl, hj, _, rfl, hs _ (by rw [Str.length_append]; exact Nat.le_trans (Nat.add_le_add l0 l1) (by decide)), q _⟩
theorem te3 {pre suf : Str} {i : Nat} (hpre : pre.length ≤ 1000) (hsuf : suf.length ≤ 1000) (σ : L2.St) (H : Hp) (Q : VK) (x : V) (hx : σ[i]? = some (some x)) (ho : okV x) (q : ∀ z, Q (.str z) H) :
    tJs [tC (.str pre), tFmt (tVar i), tC (.str suf)] Str.empty σ H (fun out H1 => Q (.str out) H1) := by
  have hs : ∀ n : Nat, n ≤ 10000 → n ≤ sizeLine := fun n h => by rw [sizeLine_eq]; omega
  have l0 : (Str.empty ++ pre).length ≤ 1000 := by rw [Str.length_append]; show 0 + _ ≤ _; omega
  refine ⟨pre, rfl, hs _ (by omega), x, hx, ?_⟩
  rcases ho with ⟨y, rfl, hy⟩ | ⟨j, rfl, hj⟩
  · have l2 : (Str.empty ++ pre ++ y).length ≤ 2000 := by rw [Str.length_append]; omega
    exact .inl ⟨y, rfl, hs _ (by omega), y, rfl, hs _ (by omega), suf, rfl, hs _ (by rw [Str.length_append]; omega), q _⟩
  · have l1 := int_text_len_1921 hj
    have l2 : (Str.empty ++ pre ++ Str.ofString (toString j)).length ≤ 2921 := by rw [Str.length_append]; omega
    exact .inr ⟨j, rfl, hj, _, rfl, hs _ (Nat.le_trans l2 (by decide)), suf, rfl, hs _ (by rw [Str.length_append]; exact Nat.le_trans (Nat.add_le_add l2 hsuf) (by decide)), q _⟩
end
/-- an own error class, ready to be raised and caught -/
structure EK (P : Program) (w : World) (K : PySem.W.Frag) (mg : Str → Option Value) (base : Heap) (x fld : Str) (C fI : Addr) (fd : FuncData) (ps : List Str) : Prop where
  T : ErrC P K mg C
  g : mg x = some (.ref C)
  iC : PySem.W.findIn K (.ref C) "__init__" = some (some (.ref fI))
  tI : PySem.W.typeIn K (.ref fI) = some (.type "function")
  F1 : FnOk P w K mg base CX0 1 fI fd ps (spErr C fld)
  b : Binds K fd ps []
  nof : PySem.W.findIn K (.ref C) fld = some none
  xf : XfC K C
  isc : ExcC K C
  own : PySem.W.subIn K (.ref C) (.ref C) = some true
theorem EK.exm {P : Program} {w : World} {K : PySem.W.Frag} {mg : Str → Option Value} {base : Heap} {x fld : Str} {C fI : Addr} {fd : FuncData} {ps : List Str} (E : EK P w K mg base x fld C fI fd ps) : PySem.W.exmOne K (.ref C) (.ref C) = some true :=
  PySem.W.exm_ref E.T.ox.exC E.xf.hdC E.T.ox.tyC E.own
section
variable {X : Cx} {W : WX} {x fld : Str} {C fI : Addr} {fd : FuncData} {ps : List Str} {e o : Expr} {te ta : TE} {p pos pos' apos : Pos}
theorem upd_del {fs : List (Str × V)} {H : Hp} {a d : Addr} {o u v : HO} (ha : H a = none) (hda : d ≠ a) : upd (del (upd (upd (upd H a o) d u) a v) a) d (.xd fs) = upd H d (.xd fs) := by
  funext b
  by_cases hb : b = d
  · subst hb; rw [upd_same, upd_same]
  · rw [upd_ne hb, upd_ne hb]
    by_cases hba : b = a
    · subst hba; rw [del_same, ha]
    · rw [del_ne hba, upd_ne hba, upd_ne hb, upd_ne hba]
/-- a reading made to bear a weaker wish -/
def tUp (te : TE) : TE := fun σ H Q => ∃ Q0 : VK, te σ H Q0 ∧ ∀ v H1, Q0 v H1 → Q v H1
theorem pe_up (h : PE X e te) : PE X e (tUp te) := ⟨fun pins s σ H Q I ⟨Q0, q, m⟩ => thn (h.run pins s σ H Q0 I q) fun _ _ ⟨v, H1, J, r, z⟩ => ⟨v, H1, J, r, m _ _ z⟩⟩
/-- raise X(e) -/
def tRaiseE (W : WX) (C : Addr) (fld : Str) (te : TE) : TS := fun _ σ H => te σ H fun v H1 => okV v ∧ ∀ d, H1 d = none → W (.ref C) (some d) σ (upd H1 d (.xd [(fld, v)]))
theorem ps_raiseE (hc : X.calm = true) (E : EK X.prog X.w X.K X.mg X.base x fld C fI fd ps) (hr : Room 2 X.A) (tk : Takes X W) (hg : Gl X x) (he : PE X e te) (hdb : (x == ("__debug__" : Str)) = false := by decide)
    (hst : starEach [e] X.env = (false, eval e X.env) :: starEach [] X.env := by rfl) :
    PS X (.Raise (some (.Call (.Name x p) [e] [] pos)) none pos') (tRaiseE W C fld te) := by
  refine ⟨fun pins s σ H D I h => ?_⟩
  refine (ps_raise hc tk (pmk_oex E.T.ox E.iC E.tI E.F1 hr E.b .nil pass0 hg E.g (pa_cons (pe_up he) pa_nil hst) hdb hst rfl)).run pins s σ H D I ?_
  refine ⟨_, h, fun v H1 ⟨hok, k⟩ => ⟨by show 1 ≤ 1000; decide, fun a ha => ⟨a, v, rfl, hok, upd_same, fun d hd hda => ⟨rfl, d, [(fld, v)], upd_same, by rw [upd_ne hda, upd_same], ?_, ?_⟩⟩⟩⟩
  · rw [upd_ne hda] at hd
    exact hd
  · rw [upd_ne hda] at hd
    rw [upd_del ha hda]
    exact k d hd
/-! ### calls of what may raise, the wish at the slots -/
variable {CX : CXT} {k : Nat} {f : Addr} {sp : Sp} {m : Str} {es : List Expr} {t : TA} {ES : L2.St → XK}
def tMethS (C : Addr) (m : Str) (sp : Sp) (ES : L2.St → XK) (ta : TE) (t : TA) : TE := fun σ H Q => ta σ H fun x H1 => ∃ a dx fs, x = .ref a ∧ H1 a = some (.ins C dx fs) ∧ fs.lookup m = none ∧ t σ H1 fun vs H2 => sp (x :: vs) H2 Q (ES σ)
theorem pe_methS {pl : Sem Bool} (he : PE X o ta) (c : Cls X.K C) (hm : Meth X.K C m f) (F : FnOk X.prog X.w X.K X.mg X.base CX k f fd ps sp) (hr : Room k X.A) (hb : Binds X.K fd ps []) (hx : ∀ σ, PassesAt CX X σ (ES σ)) (ha : PA X (e :: es) t)
    (hst : starEach (e :: es) X.env = (false, eval e X.env) :: starEach es X.env := by rfl) (hpl : (backTo pos (starEach es X.env)).any (·.1) = false := by rfl)
    (ht : eval (.Call (.Attribute o m apos) (e :: es) [] pos) X.env = (do
      let ov ← eval o X.env
      standAt apos.atName
      let (f, first) ← holding [ov] (getMethod ov m pl)
      callWith pos f first (backTo pos (starEach (e :: es) X.env)) (backToKw pos (keywordEach [] X.env))) := by rfl) :
    PE X (.Call (.Attribute o m apos) (e :: es) [] pos) (tMethS C m sp ES ta t) := by
  refine ⟨fun pins s σ H Q I h => ?_⟩
  refine PySem.W.methodCall_KW (pl := pl) (thn (he.run pins s σ H _ I h) fun u s1 ⟨x, H1, I1, rx, a, dx, fs, ex, ea, l, q⟩ => ?_) ht
  subst ex
  obtain rfl : u = Value.ref a := rx
  refine getmeth_ok I1 ea c hm l ?_
  refine PySem.W.callWith_K (first := [.ref a]) (h₀ := X.base) I.ok.mod.kin hm.kp (thn (ha.run pos pins s1 σ H1 _ I1 q) fun us s2 ⟨vs, H2, I2, r, q2⟩ => ⟨I2.kIn, ?_⟩) hst hpl
  exact run_fnS (us := .ref a :: us) (vs := .ref a :: vs) F hr hb (hx σ) I2 (.cons rfl r) q2
theorem pe_meth0S {pl : Sem Bool} (he : PE X o ta) (c : Cls X.K C) (hm : Meth X.K C m f) (F : FnOk X.prog X.w X.K X.mg X.base CX k f fd ps sp) (hr : Room k X.A) (hb : Binds X.K fd ps []) (hx : ∀ σ, PassesAt CX X σ (ES σ))
    (ht : eval (.Call (.Attribute o m apos) [] [] pos) X.env = (do
      let ov ← eval o X.env
      standAt apos.atName
      let (f, first) ← holding [ov] (getMethod ov m pl)
      callWith pos f first (backTo pos (starEach [] X.env)) (backToKw pos (keywordEach [] X.env))) := by rfl) :
    PE X (.Call (.Attribute o m apos) [] [] pos) (tMethS C m sp ES ta tNil) := by
  refine ⟨fun pins s σ H Q I h => ?_⟩
  refine PySem.W.methodCall_KW (pl := pl) (thn (he.run pins s σ H _ I h) fun u s1 ⟨x, H1, I1, rx, a, dx, fs, ex, ea, l, q⟩ => ?_) ht
  subst ex
  obtain rfl : u = Value.ref a := rx
  refine getmeth_ok I1 ea c hm l ?_
  exact PySem.W.callWith_K0 (first := [.ref a]) I1.kIn hm.kp (run_fnS (us := [.ref a]) (vs := [.ref a]) F hr hb (hx σ) I1 (.cons rfl .nil) q)
theorem pe_call0S (F : FnOk X.prog X.w X.K X.mg X.base CX k f fd ps sp) (hr : Room k X.A) (hg : Gl X x) (hm : X.mg x = some (.ref f)) (hk : PySem.W.keepIn X.K (.ref f) = true) (hb : Binds X.K fd ps []) (hx : ∀ σ, PassesAt CX X σ (ES σ))
    (hdb : (x == ("__debug__" : Str)) = false := by decide) : PE X (.Call (.Name x p) [] [] pos) (tCallS sp ES tNil) := by
  refine ⟨fun pins s σ H Q I h => ?_⟩
  refine wpAny_Call_Name_kw (ld_glob I hg hm ?_ hdb)
  exact PySem.W.callWith_K0 I.kIn hk (run_fnS (us := []) (vs := []) F hr hb (hx σ) I .nil h)
theorem run_makeS {pins : List (Addr × Obj)} {σ : L2.St} {H : Hp} {s : Shared} {Q : VK} {us : List Value} {vs : List V} (M : Mk X.K C f) (F : FnOk X.prog X.w X.K X.mg X.base CX k f fd ps sp) (hr : Room (k + 1) X.A) (hb : Binds X.K fd ps []) (hp : ∀ (σ : L2.St), PassesAt CX X σ (ES σ))
    (I : Inv X pins σ H s) (r : Vals vs us) (h : ∀ x dx, H x = none → H dx = none → dx ≠ x → sp (.ref x :: vs) (upd (upd H dx (.own x)) x (.ins C dx [])) (fun v H2 => v = .non ∧ Q (.ref x) H2) (ES σ)) :
    wpAny (model X.prog X.w) X.A (call (.ref C) us) (EP X pins σ Q) X.xe s := by
  have hq := h (s.heap.objs.size + 1) s.heap.objs.size (I.hok.fresh (Nat.le_succ _)) (I.hok.fresh (Nat.le_refl _)) (Nat.ne_of_lt (Nat.lt_succ_self _))
  have I2 := Inv.made (C := C) I
  have r2 : Vals (V.ref (s.heap.objs.size + 1) :: vs) (Value.ref (s.heap.objs.size + 1) :: us) := .cons rfl r
  have hl : (Value.ref (s.heap.objs.size + 1) :: us).length = ps.length := by rw [← r2.length]; exact F.len _ _ _ _ hq
  have b := hb _ (Value.ref (s.heap.objs.size + 1) :: us) I2.kIn (by rw [List.append_nil]; exact hl)
  rw [List.append_nil] at b
  refine wpAny_call (make_map (f := f) I.kIn M.makes M.init (beq_iff_eq.mp M.fn) (codeAny_mono (F.run _ X.stack _ _ ⟨Value.ref (s.heap.objs.size + 1) :: us, []⟩ (Value.ref (s.heap.objs.size + 1) :: us) _ _ (ES σ) (hr.make C us [])
    (I2.env0.make C us []) b r2 hq) fun r s' hq' => ?_))
  cases r with
  | error e => exact hp σ pins _ _ e s' I2 hq'
  | ok fl =>
    cases fl with
    | ret u =>
      obtain ⟨v, H', I3, rv, ev, q3⟩ := I2.after hq'
      subst ev
      exact ⟨rv, ⟨V.ref (s.heap.objs.size + 1), H', I3, rfl, q3⟩⟩
    | next => exact False.elim hq'
    | brk => exact False.elim hq'
    | cont => exact False.elim hq'
def tMakeS (C : Addr) (sp : Sp) (ES : L2.St → XK) (t : TA) : TE := fun σ H Q => t σ H fun vs H1 => ∀ x dx, H1 x = none → H1 dx = none → dx ≠ x → sp (.ref x :: vs) (upd (upd H1 dx (.own x)) x (.ins C dx [])) (fun v H2 => v = .non ∧ Q (.ref x) H2) (ES σ)
theorem pe_makeS (M : Mk X.K C f) (F : FnOk X.prog X.w X.K X.mg X.base CX k f fd ps sp) (hr : Room (k + 1) X.A) (hg : Gl X x) (hm : X.mg x = some (.ref C)) (hb : Binds X.K fd ps []) (hx : ∀ σ, PassesAt CX X σ (ES σ))
    (ha : PA X (e :: es) t) (hdb : (x == ("__debug__" : Str)) = false := by decide) (he : starEach (e :: es) X.env = (false, eval e X.env) :: starEach es X.env := by rfl) (hpl : (backTo pos (starEach es X.env)).any (·.1) = false := by rfl) :
    PE X (.Call (.Name x p) (e :: es) [] pos) (tMakeS C sp ES t) := by
  refine ⟨fun pins s σ H Q I h => ?_⟩
  refine wpAny_Call_Name_kw (ld_glob I hg hm ?_ hdb)
  refine PySem.W.callWith_K (h₀ := X.base) I.ok.mod.kin M.kp (thn (ha.run pos pins s σ H _ I h) fun us s1 ⟨vs, H1, I1, r, q⟩ => ⟨I1.kIn, ?_⟩) he hpl
  exact run_makeS M F hr hb hx I1 r q
theorem pe_make0S (M : Mk X.K C f) (F : FnOk X.prog X.w X.K X.mg X.base CX k f fd ps sp) (hr : Room (k + 1) X.A) (hg : Gl X x) (hm : X.mg x = some (.ref C)) (hb : Binds X.K fd ps []) (hx : ∀ σ, PassesAt CX X σ (ES σ))
    (hdb : (x == ("__debug__" : Str)) = false := by decide) : PE X (.Call (.Name x p) [] [] pos) (tMakeS C sp ES tNil) := by
  refine ⟨fun pins s σ H Q I h => ?_⟩
  refine wpAny_Call_Name_kw (ld_glob I hg hm ?_ hdb)
  exact PySem.W.callWith_K0 I.kIn M.kp (run_makeS (us := []) (vs := []) M F hr hb hx I .nil h)
/-! ### isinstance(e, T), e a caught error that has its dict -/
def rIsED (K : PySem.W.Frag) (D a : Addr) (cls : Value) (d : Option Addr) : List V → Hp → VK → Prop := fun xs H Q => ∃ (c : V) (cv : Value) (b : Bool) (dd : Addr) (fs : List (Str × V)), xs = [.ref a, c] ∧ cls = .ref D ∧ d = some dd ∧ H dd = some (.xd fs) ∧ (∀ u, RelV c u → u = cv) ∧ PySem.W.kitOne K (.ref D) cv = some b ∧ Q (.bl b) H
theorem call_isED {a D : Addr} {oe : Obj} {cls : Value} {d : Option Addr} {pn : List (Addr × Obj)} (C : ExcC X.K D) (hz : Zc cls d oe) (hf : ∃ vs, oe.data = .fields vs) : CallR (X.suite a ((a, oe) :: pn)) (.builtin "isinstance") (rIsED X.K D a cls d) := by
  intro pins s σ H xs us Q I r h
  obtain ⟨c, cv, b, dd, fs, rfl, rfl, rfl, hdd, hcv, e, q⟩ := h
  cases r with
  | cons rx rr =>
    cases rr with
    | cons rt rr =>
      cases rr
      cases rx
      have ec := hcv _ rt
      subst ec
      obtain ⟨hget, _⟩ := I.pin (a, oe) (List.mem_append.mpr (.inl List.mem_cons_self))
      obtain ⟨vs, hv⟩ := hf
      have hx : ObjOk X.prog X.w H s.heap dd (.xd fs) := I.hok dd _ hdd
      obtain ⟨mA, hns, hr⟩ := hx
      obtain ⟨od, ho, hl⟩ := lookIn_ns hns
      have J : PySem.W.InstAt s.heap a oe D (some od) := by
        obtain ⟨oc, od', oda, osl⟩ := oe
        obtain ⟨h1, h2⟩ := hz
        dsimp only at h1 h2 hv
        subst h1 h2 hv
        exact ⟨hget, rfl, rfl, ho⟩
      exact PySem.W.kia_one (PySem.W.kitx_exc (by obtain ⟨cd, hc, _⟩ := PySem.W.any_some C.hd; rw [hc]; rfl) C.hg C.hk C.hs C.ha C.hn C.ht C.hm) I.kIn J e (fun z => nomatch z) fun tk => ⟨.bl b, H, I.kept (t' := tk) fun _ _ z => z, rfl, q⟩
end

/-! ### C(k = v, ..), the parameters keyword-only -/
section
variable {X : Cx} {CX : CXT} {k : Nat} {f C : Addr} {fd : FuncData} {ps ks : List Str} {sp : Sp} {ES : L2.St → XK} {x : Str} {p pos : Pos} {kws : List Keyword} {tk : TA} {gV : List V → List V → List V}
def tMakeKS (C : Addr) (m : Nat) (sp : Sp) (gV : List V → List V → List V) (ES : L2.St → XK) (tk : TA) : TE := fun σ H Q => tk σ H fun zs H2 => zs.length = m ∧ ∀ x dx, H2 x = none → H2 dx = none → dx ≠ x →
  sp (gV [.ref x] zs) (upd (upd H2 dx (.own x)) x (.ins C dx [])) (fun v H3 => v = .non ∧ Q (.ref x) H3) (ES σ)
theorem pe_makeKS (M : Mk X.K C f) (F : FnOk X.prog X.w X.K X.mg X.base CX k f fd ps sp) (hr : Room (k + 1) X.A) (hg : Gl X x) (hm : X.mg x = some (.ref C)) (hbn : ∃ g, KBn X.K fd ps 1 ks g gV) (hx : ∀ σ, PassesAt CX X σ (ES σ)) (hkw : PK X kws tk)
    (hall : (backToKw pos (keywordEach kws X.env)).all (·.1.isSome) = true := by rfl) (hks : (backToKw pos (keywordEach kws X.env)).filterMap (·.1) = ks := by rfl) (hdb : (x == ("__debug__" : Str)) = false := by decide)
    (hpl : ((backTo pos (starEach [] X.env)).any (·.1) || (backToKw pos (keywordEach kws X.env)).any (·.1.isNone)) = false := by rfl) :
    PE X (.Call (.Name x p) [] kws pos) (tMakeKS C ks.length sp gV ES tk) := by
  obtain ⟨g, hb⟩ := hbn
  refine ⟨fun pins s σ H Q I h => ?_⟩
  refine wpAny_Call_Name_kw (ld_glob I hg hm ?_ hdb)
  refine PySem.W.callWith_KW0 (h₀ := X.base) I.ok.mod.kin M.kp hall ?_ hpl
  refine thn (hkw.run pos pins s σ H _ I h) fun ws s2 ⟨zs, H2, I2, rz, l2, q2⟩ => ⟨I2.kIn, ?_⟩
  rw [hks]
  have hq := q2 (s2.heap.objs.size + 1) s2.heap.objs.size (I2.hok.fresh (Nat.le_succ _)) (I2.hok.fresh (Nat.le_refl _)) (Nat.ne_of_lt (Nat.lt_succ_self _))
  have I3 := Inv.made (C := C) I2
  have r1 : Vals [V.ref (s2.heap.objs.size + 1)] [Value.ref (s2.heap.objs.size + 1)] := .cons rfl .nil
  have r2 := hb.rel r1 rz
  refine wpAny_call (make_map (f := f) I2.kIn M.makes M.init (beq_iff_eq.mp M.fn) (codeAny_mono (F.run _ X.stack _ _ ⟨[Value.ref (s2.heap.objs.size + 1)], ks.zip ws⟩ (g [Value.ref (s2.heap.objs.size + 1)] ws) _ _ (ES σ) (hr.make C [] (ks.zip ws))
    (I3.env0.make C [] (ks.zip ws)) (hb.to _ [Value.ref (s2.heap.objs.size + 1)] ws I3.kIn rfl (rz.length.symm.trans l2)) r2 hq) fun r s' hq' => ?_))
  cases r with
  | error e => exact hx σ pins _ _ e s' I3 hq'
  | ok fl =>
    cases fl with
    | ret u =>
      obtain ⟨v, H', I4, rv, ev, q3⟩ := I3.after hq'
      subst ev
      exact ⟨rv, ⟨V.ref (s2.heap.objs.size + 1), H', I4, rfl, q3⟩⟩
    | next => exact False.elim hq'
    | brk => exact False.elim hq'
    | cont => exact False.elim hq'
end
end Sx
set_option Elab.async false
set_option maxRecDepth 100000
set_option maxHeartbeats 4000000
set_option linter.all false
set_option autoImplicit false
/-! Readings, one step a lemma; heaps by footprints. -/
namespace Rd
open PySem PySem.Spec PyProof.Rows L2 Sx
/-! ### promises by the number of arguments -/
def A0 (φ : Hp → VK → XK → Prop) : Sp := fun vs H Q E => vs = [] ∧ φ H Q E
def A1 (φ : V → Hp → VK → XK → Prop) : Sp := fun vs H Q E => ∃ x, vs = [x] ∧ φ x H Q E
def A2 (φ : V → V → Hp → VK → XK → Prop) : Sp := fun vs H Q E => ∃ x y, vs = [x, y] ∧ φ x y H Q E
def A3 (φ : V → V → V → Hp → VK → XK → Prop) : Sp := fun vs H Q E => ∃ x y z, vs = [x, y, z] ∧ φ x y z H Q E
def A4 (φ : V → V → V → V → Hp → VK → XK → Prop) : Sp := fun vs H Q E => ∃ x y z u, vs = [x, y, z, u] ∧ φ x y z u H Q E
def A5 (φ : V → V → V → V → V → Hp → VK → XK → Prop) : Sp := fun vs H Q E => ∃ x y z u w, vs = [x, y, z, u, w] ∧ φ x y z u w H Q E
def A6 (φ : V → V → V → V → V → V → Hp → VK → XK → Prop) : Sp := fun vs H Q E => ∃ x y z u w o, vs = [x, y, z, u, w, o] ∧ φ x y z u w o H Q E
theorem A0.len {φ : Hp → VK → XK → Prop} {vs : List V} {H : Hp} {Q : VK} {E : XK} (h : A0 φ vs H Q E) : vs.length = 0 := by obtain ⟨rfl, _⟩ := h; rfl
theorem A1.len {φ : V → Hp → VK → XK → Prop} {vs : List V} {H : Hp} {Q : VK} {E : XK} (h : A1 φ vs H Q E) : vs.length = 1 := by obtain ⟨_, rfl, _⟩ := h; rfl
theorem A2.len {φ : V → V → Hp → VK → XK → Prop} {vs : List V} {H : Hp} {Q : VK} {E : XK} (h : A2 φ vs H Q E) : vs.length = 2 := by obtain ⟨_, _, rfl, _⟩ := h; rfl
theorem A3.len {φ : V → V → V → Hp → VK → XK → Prop} {vs : List V} {H : Hp} {Q : VK} {E : XK} (h : A3 φ vs H Q E) : vs.length = 3 := by obtain ⟨_, _, _, rfl, _⟩ := h; rfl
theorem A4.len {φ : V → V → V → V → Hp → VK → XK → Prop} {vs : List V} {H : Hp} {Q : VK} {E : XK} (h : A4 φ vs H Q E) : vs.length = 4 := by obtain ⟨_, _, _, _, rfl, _⟩ := h; rfl
theorem A5.len {φ : V → V → V → V → V → Hp → VK → XK → Prop} {vs : List V} {H : Hp} {Q : VK} {E : XK} (h : A5 φ vs H Q E) : vs.length = 5 := by obtain ⟨_, _, _, _, _, rfl, _⟩ := h; rfl
theorem A6.len {φ : V → V → V → V → V → V → Hp → VK → XK → Prop} {vs : List V} {H : Hp} {Q : VK} {E : XK} (h : A6 φ vs H Q E) : vs.length = 6 := by obtain ⟨_, _, _, _, _, _, rfl, _⟩ := h; rfl
theorem a0 {φ : Hp → VK → XK → Prop} {H : Hp} {Q : VK} {E : XK} (h : φ H Q E) : A0 φ [] H Q E := ⟨rfl, h⟩
theorem a1 {φ : V → Hp → VK → XK → Prop} {x : V} {H : Hp} {Q : VK} {E : XK} (h : φ x H Q E) : A1 φ [x] H Q E := ⟨x, rfl, h⟩
theorem a2 {φ : V → V → Hp → VK → XK → Prop} {x y : V} {H : Hp} {Q : VK} {E : XK} (h : φ x y H Q E) : A2 φ [x, y] H Q E := ⟨x, y, rfl, h⟩
theorem a3 {φ : V → V → V → Hp → VK → XK → Prop} {x y z : V} {H : Hp} {Q : VK} {E : XK} (h : φ x y z H Q E) : A3 φ [x, y, z] H Q E := ⟨x, y, z, rfl, h⟩
theorem a4 {φ : V → V → V → V → Hp → VK → XK → Prop} {x y z u : V} {H : Hp} {Q : VK} {E : XK} (h : φ x y z u H Q E) : A4 φ [x, y, z, u] H Q E := ⟨x, y, z, u, rfl, h⟩
theorem a5 {φ : V → V → V → V → V → Hp → VK → XK → Prop} {x y z u w : V} {H : Hp} {Q : VK} {E : XK} (h : φ x y z u w H Q E) : A5 φ [x, y, z, u, w] H Q E := ⟨x, y, z, u, w, rfl, h⟩
theorem a6 {φ : V → V → V → V → V → V → Hp → VK → XK → Prop} {x y z u w o : V} {H : Hp} {Q : VK} {E : XK} (h : φ x y z u w o H Q E) : A6 φ [x, y, z, u, w, o] H Q E := ⟨x, y, z, u, w, o, rfl, h⟩
def A7 (φ : V → V → V → V → V → V → V → Hp → VK → XK → Prop) : Sp := fun vs H Q E => ∃ x0 x1 x2 x3 x4 x5 x6, vs = [x0, x1, x2, x3, x4, x5, x6] ∧ φ x0 x1 x2 x3 x4 x5 x6 H Q E
theorem A7.len {φ : V → V → V → V → V → V → V → Hp → VK → XK → Prop} {vs : List V} {H : Hp} {Q : VK} {E : XK} (h : A7 φ vs H Q E) : vs.length = 7 := by obtain ⟨_, _, _, _, _, _, _, rfl, _⟩ := h; rfl
theorem a7 {φ : V → V → V → V → V → V → V → Hp → VK → XK → Prop} {x0 x1 x2 x3 x4 x5 x6 : V} {H : Hp} {Q : VK} {E : XK} (h : φ x0 x1 x2 x3 x4 x5 x6 H Q E) : A7 φ [x0, x1, x2, x3, x4, x5, x6] H Q E := ⟨x0, x1, x2, x3, x4, x5, x6, rfl, h⟩
def A8 (φ : V → V → V → V → V → V → V → V → Hp → VK → XK → Prop) : Sp := fun vs H Q E => ∃ x0 x1 x2 x3 x4 x5 x6 x7, vs = [x0, x1, x2, x3, x4, x5, x6, x7] ∧ φ x0 x1 x2 x3 x4 x5 x6 x7 H Q E
theorem A8.len {φ : V → V → V → V → V → V → V → V → Hp → VK → XK → Prop} {vs : List V} {H : Hp} {Q : VK} {E : XK} (h : A8 φ vs H Q E) : vs.length = 8 := by obtain ⟨_, _, _, _, _, _, _, _, rfl, _⟩ := h; rfl
theorem a8 {φ : V → V → V → V → V → V → V → V → Hp → VK → XK → Prop} {x0 x1 x2 x3 x4 x5 x6 x7 : V} {H : Hp} {Q : VK} {E : XK} (h : φ x0 x1 x2 x3 x4 x5 x6 x7 H Q E) : A8 φ [x0, x1, x2, x3, x4, x5, x6, x7] H Q E := ⟨x0, x1, x2, x3, x4, x5, x6, x7, rfl, h⟩
def A9 (φ : V → V → V → V → V → V → V → V → V → Hp → VK → XK → Prop) : Sp := fun vs H Q E => ∃ x0 x1 x2 x3 x4 x5 x6 x7 x8, vs = [x0, x1, x2, x3, x4, x5, x6, x7, x8] ∧ φ x0 x1 x2 x3 x4 x5 x6 x7 x8 H Q E
theorem A9.len {φ : V → V → V → V → V → V → V → V → V → Hp → VK → XK → Prop} {vs : List V} {H : Hp} {Q : VK} {E : XK} (h : A9 φ vs H Q E) : vs.length = 9 := by obtain ⟨_, _, _, _, _, _, _, _, _, rfl, _⟩ := h; rfl
theorem a9 {φ : V → V → V → V → V → V → V → V → V → Hp → VK → XK → Prop} {x0 x1 x2 x3 x4 x5 x6 x7 x8 : V} {H : Hp} {Q : VK} {E : XK} (h : φ x0 x1 x2 x3 x4 x5 x6 x7 x8 H Q E) : A9 φ [x0, x1, x2, x3, x4, x5, x6, x7, x8] H Q E := ⟨x0, x1, x2, x3, x4, x5, x6, x7, x8, rfl, h⟩
def A10 (φ : V → V → V → V → V → V → V → V → V → V → Hp → VK → XK → Prop) : Sp := fun vs H Q E => ∃ x0 x1 x2 x3 x4 x5 x6 x7 x8 x9, vs = [x0, x1, x2, x3, x4, x5, x6, x7, x8, x9] ∧ φ x0 x1 x2 x3 x4 x5 x6 x7 x8 x9 H Q E
theorem A10.len {φ : V → V → V → V → V → V → V → V → V → V → Hp → VK → XK → Prop} {vs : List V} {H : Hp} {Q : VK} {E : XK} (h : A10 φ vs H Q E) : vs.length = 10 := by obtain ⟨_, _, _, _, _, _, _, _, _, _, rfl, _⟩ := h; rfl
theorem a10 {φ : V → V → V → V → V → V → V → V → V → V → Hp → VK → XK → Prop} {x0 x1 x2 x3 x4 x5 x6 x7 x8 x9 : V} {H : Hp} {Q : VK} {E : XK} (h : φ x0 x1 x2 x3 x4 x5 x6 x7 x8 x9 H Q E) : A10 φ [x0, x1, x2, x3, x4, x5, x6, x7, x8, x9] H Q E := ⟨x0, x1, x2, x3, x4, x5, x6, x7, x8, x9, rfl, h⟩
def A11 (φ : V → V → V → V → V → V → V → V → V → V → V → Hp → VK → XK → Prop) : Sp := fun vs H Q E => ∃ x0 x1 x2 x3 x4 x5 x6 x7 x8 x9 x10, vs = [x0, x1, x2, x3, x4, x5, x6, x7, x8, x9, x10] ∧ φ x0 x1 x2 x3 x4 x5 x6 x7 x8 x9 x10 H Q E
theorem A11.len {φ : V → V → V → V → V → V → V → V → V → V → V → Hp → VK → XK → Prop} {vs : List V} {H : Hp} {Q : VK} {E : XK} (h : A11 φ vs H Q E) : vs.length = 11 := by obtain ⟨_, _, _, _, _, _, _, _, _, _, _, rfl, _⟩ := h; rfl
theorem a11 {φ : V → V → V → V → V → V → V → V → V → V → V → Hp → VK → XK → Prop} {x0 x1 x2 x3 x4 x5 x6 x7 x8 x9 x10 : V} {H : Hp} {Q : VK} {E : XK} (h : φ x0 x1 x2 x3 x4 x5 x6 x7 x8 x9 x10 H Q E) : A11 φ [x0, x1, x2, x3, x4, x5, x6, x7, x8, x9, x10] H Q E := ⟨x0, x1, x2, x3, x4, x5, x6, x7, x8, x9, x10, rfl, h⟩
def A12 (φ : V → V → V → V → V → V → V → V → V → V → V → V → Hp → VK → XK → Prop) : Sp := fun vs H Q E => ∃ x0 x1 x2 x3 x4 x5 x6 x7 x8 x9 x10 x11, vs = [x0, x1, x2, x3, x4, x5, x6, x7, x8, x9, x10, x11] ∧ φ x0 x1 x2 x3 x4 x5 x6 x7 x8 x9 x10 x11 H Q E
theorem A12.len {φ : V → V → V → V → V → V → V → V → V → V → V → V → Hp → VK → XK → Prop} {vs : List V} {H : Hp} {Q : VK} {E : XK} (h : A12 φ vs H Q E) : vs.length = 12 := by obtain ⟨_, _, _, _, _, _, _, _, _, _, _, _, rfl, _⟩ := h; rfl
theorem a12 {φ : V → V → V → V → V → V → V → V → V → V → V → V → Hp → VK → XK → Prop} {x0 x1 x2 x3 x4 x5 x6 x7 x8 x9 x10 x11 : V} {H : Hp} {Q : VK} {E : XK} (h : φ x0 x1 x2 x3 x4 x5 x6 x7 x8 x9 x10 x11 H Q E) : A12 φ [x0, x1, x2, x3, x4, x5, x6, x7, x8, x9, x10, x11] H Q E := ⟨x0, x1, x2, x3, x4, x5, x6, x7, x8, x9, x10, x11, rfl, h⟩
/-! ### attribute lists -/
theorem putF_hit (f : Str) (v y : V) (r : List (Str × V)) : putF f v ((f, y) :: r) = (f, v) :: r := if_pos rfl
theorem putF_miss {f g : Str} (h : ¬ g = f) (v y : V) (r : List (Str × V)) : putF f v ((g, y) :: r) = (g, y) :: putF f v r := if_neg h
theorem putF_nil (f : Str) (v : V) : putF f v [] = [(f, v)] := rfl
theorem look_hit (f : Str) (y : V) (r : List (Str × V)) : ((f, y) :: r).lookup f = some y := by rw [lookup_put, if_pos rfl]
theorem look_miss {f g : Str} (h : ¬ g = f) (y : V) (r : List (Str × V)) : ((f, y) :: r).lookup g = r.lookup g := by rw [lookup_put, if_neg h]
/-! ### steps -/
section
variable {K : PySem.W.Frag} {D : Ends} {σ : L2.St} {H : Hp} {t u : TS} {te ta tb tc : TE} {tt tu : TT} {g : TG} {Q : VK} {QT : Bool → Hp → Prop} {v x y : V} {i : Nat} {r : R2} {tl tr : TA} {QA : List V → Hp → Prop}
theorem s_seq (h : t { D with nx := u D } σ H) : tSeq t u D σ H := h
theorem s_asg (h : te σ H fun x H1 => g x σ H1 D.nx) : tAsg te g D σ H := h
theorem g_name {R : L2.St → Hp → Prop} (h : R (σ.set i (some v)) H) : gName i v σ H R := h
theorem s_ret (h : te σ H D.rt) : tRet te D σ H := h
theorem s_retN (h : D.rt .non H) : tRetN D σ H := h
theorem s_drop (h : te σ H fun _ H1 => D.nx σ H1) : tDrop te D σ H := h
theorem s_if (h : tt σ H fun b H1 => if b = true then t D σ H1 else u D σ H1) : tIfS tt t u D σ H := h
theorem s_next (h : D.nx σ H) : tNext D σ H := h
theorem s_cont (h : D.ct σ H) : tCont D σ H := h
theorem s_break (h : D.bk σ H) : tBreak D σ H := h
theorem d_nx {a c d : L2.St → Hp → Prop} {b : V → Hp → Prop} (h : a σ H) : (Ends.mk a b c d).nx σ H := h
theorem d_rt {a c d : L2.St → Hp → Prop} {b : V → Hp → Prop} (h : b v H) : (Ends.mk a b c d).rt v H := h
theorem d_bk {a c d : L2.St → Hp → Prop} {b : V → Hp → Prop} (h : c σ H) : (Ends.mk a b c d).bk σ H := h
theorem d_ct {a c d : L2.St → Hp → Prop} {b : V → Hp → Prop} (h : d σ H) : (Ends.mk a b c d).ct σ H := h
def kSet (K : PySem.W.Frag) (f : Str) (y x : V) (H : Hp) (R : Hp → Prop) : Prop := ∃ a C dx fs, x = .ref a ∧ H a = some (.ins C dx fs) ∧ Cls K C ∧ NoAttr K C f ∧ fs.length < 1000 ∧ R (upd H a (.ins C dx (putF f y fs)))
theorem s_fld {f : Str} (h : tb σ H fun y H1 => ta σ H1 fun x H2 => kSet K f y x H2 (D.nx σ)) : sFld K ta tb f D σ H := h
theorem k_set {f : Str} {R : Hp → Prop} {a C dx : Addr} {fs fs' : List (Str × V)} (h : H a = some (.ins C dx fs)) (c : Cls K C) (n : NoAttr K C f) (hp : putF f y fs = fs') (l : fs.length < 1000) (q : R (upd H a (.ins C dx fs'))) : kSet K f y (.ref a) H R := ⟨a, C, dx, fs, rfl, h, c, n, l, hp ▸ q⟩
theorem e_var (h : σ[i]? = some (some v)) (q : Q v H) : tVar i σ H Q := ⟨v, h, q⟩
theorem e_c (q : Q v H) : tC v σ H Q := q
theorem e_op (h : ta σ H fun x H1 => tb σ H1 fun y H2 => r x y H2 Q) : tOp r ta tb σ H Q := h
theorem e_un {ru : V → Hp → VK → Prop} (h : ta σ H fun x H1 => ru x H1 Q) : tUn ru ta σ H Q := h
theorem o_I0 {gg : Int → Int → V} {m n : Int} (q : Q (gg m n) H) : rI0 gg (.int m) (.int n) H Q := ⟨m, n, rfl, rfl, q⟩
theorem o_I {Cc : Int → Int → Prop} {gg : Int → Int → V} {m n : Int} (c : Cc m n) (q : Q (gg m n) H) : rI Cc gg (.int m) (.int n) H Q := ⟨m, n, rfl, rfl, c, q⟩
theorem o_U {gg : Int → V} {m : Int} (q : Q (gg m) H) : rU gg (.int m) H Q := ⟨m, rfl, q⟩
theorem o_eq (s : scal x y = true) (q : Q (.bl (decide (x = y))) H) : rEq x y H Q := ⟨s, q⟩
theorem o_ne (s : scal x y = true) (q : Q (.bl (!decide (x = y))) H) : rNe x y H Q := ⟨s, q⟩
theorem o_ixL {p : Addr} {xs : List V} {n : Int} (h : SqL K H p xs) (a : atI xs n = some v) (q : Q v H) : rIxL K (.ref p) (.int n) H Q := ⟨p, xs, n, v, rfl, rfl, h, a, q⟩
theorem o_ixT {p : Addr} {xs : List V} {n : Int} (h : SqT K H p xs) (a : atI xs n = some v) (q : Q v H) : rIxT K (.ref p) (.int n) H Q := ⟨p, xs, n, v, rfl, rfl, h, a, q⟩
def kFld (K : PySem.W.Frag) (f : Str) (x : V) (H : Hp) (Q : VK) : Prop := ∃ a C dx fs v, x = .ref a ∧ H a = some (.ins C dx fs) ∧ Cls K C ∧ NoAttr K C f ∧ fs.lookup f = some v ∧ Q v H
theorem e_fld {f : Str} (h : ta σ H fun x H1 => kFld K f x H1 Q) : tFld K ta f σ H Q := h
theorem k_fld {f : Str} {a C dx : Addr} {fs : List (Str × V)} (h : H a = some (.ins C dx fs)) (c : Cls K C) (n : NoAttr K C f) (l : fs.lookup f = some v) (q : Q v H) : kFld K f (.ref a) H Q := ⟨a, C, dx, fs, v, rfl, h, c, n, l, q⟩
def kMeth (C : Addr) (m : Str) (sp : Sp) (E : XK) (t : TA) (σ : L2.St) (x : V) (H : Hp) (Q : VK) : Prop := ∃ a dx fs, x = .ref a ∧ H a = some (.ins C dx fs) ∧ fs.lookup m = none ∧ t σ H fun vs H2 => sp (x :: vs) H2 Q E
theorem e_meth {C : Addr} {m : Str} {sp : Sp} {ES : L2.St → XK} (h : ta σ H fun x H1 => kMeth C m sp (ES σ) tl σ x H1 Q) : tMethS C m sp ES ta tl σ H Q := h
theorem k_meth {C a dx : Addr} {m : Str} {sp : Sp} {E : XK} {fs : List (Str × V)} (h : H a = some (.ins C dx fs)) (l : fs.lookup m = none) (q : tl σ H fun vs H2 => sp (.ref a :: vs) H2 Q E) : kMeth C m sp E tl σ (.ref a) H Q := ⟨a, dx, fs, rfl, h, l, q⟩
theorem e_call {sp : Sp} {ES : L2.St → XK} (h : tl σ H fun vs H1 => sp vs H1 Q (ES σ)) : tCallS sp ES tl σ H Q := h
theorem e_make {C : Addr} {sp : Sp} {ES : L2.St → XK} (h : tl σ H fun vs H1 => ∀ x dx, H1 x = none → H1 dx = none → dx ≠ x → sp (.ref x :: vs) (upd (upd H1 dx (.own x)) x (.ins C dx [])) (fun v H2 => v = .non ∧ Q (.ref x) H2) (ES σ)) : tMakeS C sp ES tl σ H Q := h
theorem e_cb {rc : List V → Hp → VK → Prop} (h : tl σ H fun vs H1 => rc vs H1 Q) : tCB rc tl σ H Q := h
theorem l_nil (h : QA [] H) : tNil σ H QA := h
theorem l_cons (h : ta σ H fun x H1 => tl σ H1 fun xs H2 => QA (x :: xs) H2) : tCons ta tl σ H QA := h
theorem e_lst (h : tl σ H fun xs H1 => xs.length ≤ sizeLine ∧ ∀ p, H1 p = none → Q (.ref p) (upd H1 p (.lst xs))) : tLst tl σ H Q := h
theorem e_tup (h : tl σ H fun xs H1 => xs.length ≤ sizeLine ∧ ∀ p, H1 p = none → Q (.ref p) (upd H1 p (.tup xs))) : tTup tl σ H Q := h
theorem e_bm {T : String} {rm : V → List V → Hp → VK → Prop} (h : ta σ H fun x H1 => tyV K T x H1 ∧ tl σ H1 fun xs H2 => rm x xs H2 Q) : tBM K T rm ta tl σ H Q := h
theorem e_bm0 {T : String} {rm : V → List V → Hp → VK → Prop} (h : ta σ H fun x H1 => tyV K T x H1 ∧ rm x [] H1 Q) : tBM0 K T rm ta σ H Q := h
theorem e_not (h : ta σ H fun x H1 => ∃ c, x = .bl c ∧ Q (.bl (!c)) H1) : tNotV ta σ H Q := h
theorem e_if (h : tt σ H fun c H1 => if c = true then ta σ H1 Q else tb σ H1 Q) : tIf tt ta tb σ H Q := h
def kT (x : V) (H : Hp) (QT : Bool → Hp → Prop) : Prop := ∃ k, x = .bl k ∧ QT k H
theorem k_t {b : Bool} (q : QT b H) : kT (.bl b) H QT := ⟨b, rfl, q⟩
theorem t_test (h : te σ H fun x H1 => kT x H1 QT) : tTest te σ H QT := h
theorem t_B (h : te σ H fun x H1 => kT x H1 QT) : tB te σ H QT := h
theorem t_and (h : tt σ H fun c H1 => if c = true then tu σ H1 QT else QT false H1) : tAnd tt tu σ H QT := h
theorem t_or (h : tt σ H fun c H1 => if c = true then QT true H1 else tu σ H1 QT) : tOr tt tu σ H QT := h
theorem t_not (h : tt σ H fun c H1 => QT (!c) H1) : tNot tt σ H QT := h
theorem e_and (h : ta σ H fun x H1 => ∃ c, x = .bl c ∧ if c = true then tb σ H1 Q else Q (.bl false) H1) : tAndV ta tb σ H Q := h
theorem e_or (h : ta σ H fun x H1 => ∃ c, x = .bl c ∧ if c = true then Q (.bl true) H1 else tb σ H1 Q) : tOrV ta tb σ H Q := h
theorem e_chain {r' : R2} (h : ta σ H fun x H1 => tb σ H1 fun y H2 => r x y H2 fun z H3 => kT z H3 fun k H4 => if k = true then tc σ H4 fun w' H5 => r' y w' H5 Q else Q (.bl false) H4) : tChain r r' ta tb tc σ H Q := by
  refine h
theorem s_raise {W : WX} {C : Addr} {fld : Str} (h : te σ H fun v H1 => okV v ∧ ∀ d, H1 d = none → W (.ref C) (some d) σ (upd H1 d (.xd [(fld, v)]))) : tRaiseE W C fld te D σ H := h
theorem e_sl {rs : V → Option Int → Option Int → Hp → VK → Prop} {to th : TO} (h : te σ H fun x H1 => to σ H1 fun l H2 => th σ H2 fun u H3 => rs x l u H3 Q) : tSl rs te to th σ H Q := h
theorem p_no {QO : Option Int → Hp → Prop} (h : QO none H) : tNoPart σ H QO := h
def kI (x : V) (H : Hp) (QO : Option Int → Hp → Prop) : Prop := ∃ n, x = .int n ∧ QO (some n) H
theorem k_i {QO : Option Int → Hp → Prop} {n : Int} (q : QO (some n) H) : kI (.int n) H QO := ⟨n, rfl, q⟩
theorem p_some {QO : Option Int → Hp → Prop} (h : te σ H fun x H1 => kI x H1 QO) : tPart te σ H QO := h
/-! ### ifs -/
theorem if_d {c A B : Prop} [Decidable c] (h1 : c → A) (h2 : ¬ c → B) : if decide c = true then A else B := by
  by_cases h : c
  · rw [if_pos (decide_eq_true h)]; exact h1 h
  · rw [if_neg (by rw [decide_eq_false h]; exact Bool.false_ne_true)]; exact h2 h
theorem if_nd {c A B : Prop} [Decidable c] (h1 : ¬ c → A) (h2 : c → B) : if (!decide c) = true then A else B := by
  by_cases h : c
  · rw [decide_eq_true h]; exact iteF (h2 h)
  · rw [decide_eq_false h]; exact iteT (h1 h)
theorem if_dT {c A B : Prop} [Decidable c] (h : c) (q : A) : if decide c = true then A else B := by rw [if_pos (decide_eq_true h)]; exact q
theorem if_dF {c A B : Prop} [Decidable c] (h : ¬ c) (q : B) : if decide c = true then A else B := if_d (fun z => absurd z h) fun _ => q
theorem if_ndT {c A B : Prop} [Decidable c] (h : ¬ c) (q : A) : if (!decide c) = true then A else B := if_nd (fun _ => q) fun z => absurd z h
theorem if_ndF {c A B : Prop} [Decidable c] (h : c) (q : B) : if (!decide c) = true then A else B := if_nd (fun z => absurd h z) fun _ => q
theorem if_b {b : Bool} {A B : Prop} (h1 : b = true → A) (h2 : b = false → B) : if b = true then A else B := by
  cases b with
  | true => exact iteT (h1 rfl)
  | false => exact iteF (h2 rfl)
end
/-! ### lists of values -/
theorem upd_rw {H : Hp} {a : Addr} {o : HO} (h : H a = some o) : upd H a o = H := by
  funext b
  by_cases hb : b = a
  · rw [hb, upd_same, h]
  · rw [upd_ne hb]
theorem sz {n : Nat} (h : n ≤ 100000) : n ≤ sizeLine := by rw [sizeLine_eq]; omega
theorem szl {n : Nat} (h : n < 100000) : n < sizeLine := by rw [sizeLine_eq]; omega
/-! ### what a step may touch -/
/-- all that was tracked, but at fp, is as it was -/
def Fp (fp : List Addr) (H H' : Hp) : Prop := ∀ b o, H b = some o → b ∉ fp → H' b = some o
theorem Fp.refl (fp : List Addr) (H : Hp) : Fp fp H H := fun _ _ h _ => h
theorem Fp.trans {fp : List Addr} {H H1 H2 : Hp} (a : Fp fp H H1) (b : Fp fp H1 H2) : Fp fp H H2 := fun c o h n => b c o (a c o h n) n
theorem Fp.mono {fp fq : List Addr} {H H' : Hp} (a : Fp fp H H') (s : ∀ x, x ∈ fp → x ∈ fq) : Fp fq H H' := fun c o h n => a c o h fun z => n (s c z)
theorem Fp.new {fp : List Addr} {H : Hp} {a : Addr} {o : HO} (h : H a = none) : Fp fp H (upd H a o) := fun c u e _ => by rw [upd_ne (ne_of_none e h)]; exact e
theorem Fp.at_ {fp : List Addr} {H : Hp} {a : Addr} {o : HO} (h : a ∈ fp) : Fp fp H (upd H a o) := fun c u e n => by
  rw [upd_ne (fun z => n (by rw [z]; exact h))]
  exact e
/-- what was new in H does not count -/
theorem Fp.drop {fp fq : List Addr} {H H' : Hp} (a : Fp fp H H') (s : ∀ x, x ∈ fp → x ∈ fq ∨ H x = none) : Fp fq H H' := fun c o h n => a c o h fun z => by
  rcases s c z with q | q
  · exact n q
  · rw [q] at h; cases h
theorem Fp.free {fp : List Addr} {H H' : Hp} (e : Fp fp H H') {l : Addr} (n : l ∉ fp) (h : H' l = none) : H l = none := by
  cases q : H l with
  | none => rfl
  | some o => rw [e l o q n] at h; cases h
theorem Fp.seq {K : PySem.W.Frag} {fp : List Addr} {H H' : Hp} {a : Addr} {xs : List V} (e : Fp fp H H') (n : a ∉ fp) (h : SqL K H a xs) : SqL K H' a xs := by
  rcases h with (h | ⟨o, h⟩) | h
  · exact .inl (.inl (e _ _ h n))
  · exact .inl (.inr ⟨o, e _ _ h n⟩)
  · exact .inr h
theorem Fp.tup {K : PySem.W.Frag} {fp : List Addr} {H H' : Hp} {a : Addr} {xs : List V} (e : Fp fp H H') (n : a ∉ fp) (h : SqT K H a xs) : SqT K H' a xs := by
  rcases h with (h | ⟨o, h⟩) | h
  · exact .inl (.inl (e _ _ h n))
  · exact .inl (.inr ⟨o, e _ _ h n⟩)
  · exact .inr h

/-! ### built-ins by name -/
section
variable {X : Cx} {K : PySem.W.Frag} {H : Hp} {Q : VK} {v : V}
def rLn (K : PySem.W.Frag) : List V → Hp → VK → Prop := fun xs H Q => ∃ p ys, xs = [.ref p] ∧ (SqL K H p ys ∨ SqT K H p ys) ∧ Q (.int ys.length) H
theorem call_ln : CallR X (.builtin "len") (rLn X.K) := call_len_seq
theorem c_ln {p : Addr} {ys : List V} (h : SqL K H p ys) (q : Q (.int ys.length) H) : rLn K [.ref p] H Q := ⟨p, ys, rfl, .inl h, q⟩
theorem c_lnT {p : Addr} {ys : List V} (h : SqT K H p ys) (q : Q (.int ys.length) H) : rLn K [.ref p] H Q := ⟨p, ys, rfl, .inr h, q⟩
def rAb : List V → Hp → VK → Prop := fun xs H Q => ∃ i, xs = [.int i] ∧ Q (.int (if i < 0 then -i else i)) H
theorem call_ab : CallR X (.builtin "abs") rAb := call_abs
theorem c_ab {i : Int} (q : Q (.int (if i < 0 then -i else i)) H) : rAb [.int i] H Q := ⟨i, rfl, q⟩
def rIn1 : List V → Hp → VK → Prop := fun xs H Q => ∃ i, xs = [.int i] ∧ Q (.int i) H
theorem call_in : CallR X (.type "int") rIn1 := fun pins s σ H xs us Q I r ⟨i, e, q⟩ => call_int1 pins s σ H xs us Q I r (.inl ⟨i, e, q⟩)
theorem c_in {i : Int} (q : Q (.int i) H) : rIn1 [.int i] H Q := ⟨i, rfl, q⟩
def rMx : List V → Hp → VK → Prop := fun xs H Q => ∃ i j, xs = [.int i, .int j] ∧ Q (.int (if j > i then j else i)) H
theorem call_mx (hc : X.calm = true) : CallR X (.builtin "max") rMx := call_max2 hc
theorem c_mx {i j : Int} (q : Q (.int (if j > i then j else i)) H) : rMx [.int i, .int j] H Q := ⟨i, j, rfl, q⟩
def rMn : List V → Hp → VK → Prop := fun xs H Q => ∃ i j, xs = [.int i, .int j] ∧ Q (.int (if j < i then j else i)) H
theorem call_mn (hc : X.calm = true) : CallR X (.builtin "min") rMn := call_min2 hc
theorem c_mn {i j : Int} (q : Q (.int (if j < i then j else i)) H) : rMn [.int i, .int j] H Q := ⟨i, j, rfl, q⟩
def rLs (K : PySem.W.Frag) : List V → Hp → VK → Prop := fun xs H Q => ∃ p ys, xs = [.ref p] ∧ (SqL K H p ys ∨ SqT K H p ys) ∧ ∀ l, H l = none → Q (.ref l) (upd H l (.lst ys))
theorem call_ls : CallR X (.type "list") (rLs X.K) := call_list_of
theorem c_ls {p : Addr} {ys : List V} (h : SqL K H p ys) (q : ∀ l, H l = none → Q (.ref l) (upd H l (.lst ys))) : rLs K [.ref p] H Q := ⟨p, ys, rfl, .inl h, q⟩
theorem c_app {l : Addr} {xs : List V} (h : H l = some (.lst xs)) (z : xs.length < sizeLine) (q : Q .non (upd H l (.lst (xs ++ [v])))) : rAppend (.ref l) [v] H Q := ⟨l, xs, v, rfl, rfl, h, z, q⟩
theorem c_pop0 {l : Addr} {x : V} {xs : List V} (h : H l = some (.lst (x :: xs))) (z : xs.length < 100000) (q : Q x (upd H l (.lst xs))) : rPopAt (.ref l) [.int 0] H Q :=
  ⟨l, x :: xs, 0, 0, x, rfl, rfl, h, by decide, by decide, by
    unfold seqIndex?
    first | rfl | simp, rfl, q⟩
theorem c_setL {p : Addr} {xs : List V} {n : Int} {j : Nat} {R : Hp → Prop} (h : H p = some (.lst xs)) (e : n = (j : Int)) (hj : j < xs.length) (q : R (upd H p (.lst (xs.set j v)))) : rSetL (.ref p) (.int n) v H R := by
  subst e
  exact ⟨p, xs, _, j, rfl, rfl, h, Evl.ixN_nat hj, q⟩
theorem g_sub {to ti : TE} {ts : TSet} {σ : L2.St} {R : L2.St → Hp → Prop} (h : to σ H fun o H1 => ti σ H1 fun i H2 => ts o i v H2 fun H3 => R σ H3) : gSub to ti ts v σ H R := h
theorem o_cat {l b : Addr} {xs zs : List V} (h : H l = some (.lst xs)) (h' : H b = some (.lst zs)) (z : xs.length + zs.length ≤ sizeLine) (q : ∀ p, H p = none → Q (.ref p) (upd H p (.lst (xs ++ zs)))) : rCat (.ref l) (.ref b) H Q := ⟨l, b, xs, zs, rfl, rfl, h, h', z, q⟩
theorem o_slL {a : Addr} {xs : List V} {lo hi : Option Int} (h : SqL K H a xs) (q : ∀ p, H p = none → Q (.ref p) (upd H p (.lst (cutV xs lo hi)))) : rSlL K (.ref a) lo hi H Q := ⟨a, xs, rfl, h, q⟩
/-- data of one level, as PyData -/
def toD : V → PyData
  | .bl b => .bool b
  | .int i => .int i
  | .str x => .str x
  | _ => .none
def flat : V → Bool
  | .non => true | .bl _ => true | .int _ => true | .str x => PyData.strOk x | _ => false
theorem dp_flat {x : V} (h : flat x = true) : Dp K H x (toD x) := by
  cases x with
  | non => exact .non
  | bl b => exact .bl b
  | int i => exact .int i
  | str z => exact .str z
  | byt _ => cases h
  | flt _ => cases h
  | ref _ => cases h
  | ty _ => cases h
theorem dp_flats : ∀ {xs : List V}, (∀ x ∈ xs, flat x = true) → DpAll K H xs (xs.map toD)
  | [], _ => .nil
  | x :: xs, h => .cons (dp_flat (h x List.mem_cons_self)) (dp_flats fun y hy => h y (List.mem_cons_of_mem _ hy))
theorem lay_flat {x : V} (h : flat x = true) : (toD x).canLay0 = true := by
  cases x with
  | str z => show PyData.strOk z = true; exact h
  | non => rfl
  | bl b => rfl
  | int i => rfl
  | byt _ => cases h
  | flt _ => cases h
  | ref _ => cases h
  | ty _ => cases h
theorem lay_flats : ∀ {xs : List V}, (∀ x ∈ xs, flat x = true) → PyData.canLayAll0 (xs.map toD) = true
  | [], _ => rfl
  | x :: xs, h => by
    show ((toD x).canLay0 && PyData.canLayAll0 (xs.map toD)) = true
    rw [lay_flat (h x List.mem_cons_self), lay_flats fun y hy => h y (List.mem_cons_of_mem _ hy)]
    rfl
theorem depth_flat (x : V) : (toD x).depth ≤ 1 := by
  cases x <;> first | decide | (simp [toD, PyData.depth])
theorem depth_flats : ∀ xs : List V, PyData.depthAll (xs.map toD) ≤ 1
  | [] => by simp [PyData.depthAll]
  | x :: xs => by
    have h1 := depth_flat x
    have h2 := depth_flats xs
    show PyData.depthAll (toD x :: xs.map toD) ≤ 1
    simp only [PyData.depthAll]
    omega
theorem shaped_flat {x : V} (h : flat x = true) : SeqAt.shaped (toD x) = true := by
  show ((toD x).canLay0 && decide ((toD x).depth ≤ 64)) = true
  rw [lay_flat h, decide_eq_true (Nat.le_trans (depth_flat x) (by decide))]
  rfl
theorem shaped_flats {xs : List V} (h : ∀ x ∈ xs, flat x = true) : SeqAt.shaped (.list (xs.map toD)) = true := by
  have d1 := depth_flats xs
  show (PyData.canLay0 (.list (xs.map toD)) && decide (PyData.depth (.list (xs.map toD)) ≤ 64)) = true
  have e1 : PyData.canLay0 (.list (xs.map toD)) = PyData.canLayAll0 (xs.map toD) := by simp only [PyData.canLay0]
  have e2 : PyData.depth (.list (xs.map toD)) ≤ 64 := by simp only [PyData.depth]; omega
  rw [e1, lay_flats h, decide_eq_true e2]
  rfl
theorem shaped_flatT {xs : List V} (h : ∀ x ∈ xs, flat x = true) : SeqAt.shaped (.tuple (xs.map toD)) = true := by
  have d1 := depth_flats xs
  show (PyData.canLay0 (.tuple (xs.map toD)) && decide (PyData.depth (.tuple (xs.map toD)) ≤ 64)) = true
  have e1 : PyData.canLay0 (.tuple (xs.map toD)) = PyData.canLayAll0 (xs.map toD) := by simp only [PyData.canLay0]
  have e2 : PyData.depth (.tuple (xs.map toD)) ≤ 64 := by simp only [PyData.depth]; omega
  rw [e1, lay_flats h, decide_eq_true e2]
  rfl
/-- the same data on both sides -/
theorem eqv_self {d : PyData} (h : SeqAt.shaped d = true) : PyData.eqv d d = true := by
  have h1 : d.canLay0 = true := SeqAt.canLay_of_shaped h
  first | exact SeqAt.eqv_refl d h1 | exact P3.eqv_refl d h1 | exact eqv_refl d h1
theorem o_eqD {x y : V} {d : PyData} (h1 : Dp K H x d) (h2 : Dp K H y d) (s : SeqAt.shaped d = true) (q : Q (.bl true) H) : rEqD K x y H Q := ⟨d, d, h1, h2, s, s, by rw [eqv_self s]; exact q⟩
theorem o_neD {x y : V} {d : PyData} (h1 : Dp K H x d) (h2 : Dp K H y d) (s : SeqAt.shaped d = true) (q : Q (.bl false) H) : rNeD K x y H Q := ⟨d, d, h1, h2, s, s, by rw [eqv_self s]; exact q⟩
/-- two lists of plain values that are one list -/
theorem o_neL {a b : Addr} {xs : List V} (h1 : SqL K H a xs) (h2 : SqL K H b xs) (f : ∀ x ∈ xs, flat x = true) (q : Q (.bl false) H) : rNeD K (.ref a) (.ref b) H Q :=
  o_neD (.lst h1 (dp_flats f)) (.lst h2 (dp_flats f)) (shaped_flats f) q
theorem o_eqL {a b : Addr} {xs : List V} (h1 : SqL K H a xs) (h2 : SqL K H b xs) (f : ∀ x ∈ xs, flat x = true) (q : Q (.bl true) H) : rEqD K (.ref a) (.ref b) H Q :=
  o_eqD (.lst h1 (dp_flats f)) (.lst h2 (dp_flats f)) (shaped_flats f) q
theorem o_neT {a b : Addr} {xs : List V} (h1 : SqT K H a xs) (h2 : SqT K H b xs) (f : ∀ x ∈ xs, flat x = true) (q : Q (.bl false) H) : rNeD K (.ref a) (.ref b) H Q :=
  o_neD (.tup h1 (dp_flats f)) (.tup h2 (dp_flats f)) (shaped_flatT f) q
theorem flat_ints (ns : List Int) : ∀ x ∈ ns.map V.int, flat x = true := fun x hx => by
  obtain ⟨n, _, rfl⟩ := List.mem_map.mp hx
  rfl
end

/-! ### loops and comprehensions -/
section
variable {K : PySem.W.Frag} {D : Ends} {σ : L2.St} {H : Hp} {tb : TS} {te tl : TE} {tt tc : TT} {g : TG} {Q : VK} {j : Nat} {b : Addr} {xs ys : List V} {vs : List Nat}
theorem f_list (Pv : Nat → L2.St → Hp → Prop) (hv : σ[j]? = some (some (.ref b))) (hS : SqL K H b xs) (h0 : Pv 0 σ H) (hl : ∀ i σ' H', i ≤ xs.length → Pv i σ' H' → SqL K H' b xs)
    (hs : ∀ i x σ' H', xs[i]? = some x → Pv i σ' H' → g x σ' H' fun σ2 H2 => tb { D with nx := Pv (i + 1), ct := Pv (i + 1), bk := D.nx } σ2 H2) (hd : ∀ σ' H', Pv xs.length σ' H' → D.nx σ' H') : tFor (iList K (tVar j)) g tb D σ H :=
  ⟨_, hv, b, rfl, ⟨_, hS⟩, for_list Pv h0 hl hs hd⟩
/-- over a list that an expression hands back -/
theorem f_listE (h : tl σ H fun x H1 => ∃ (p : Addr) (xs : List V) (Pv : Nat → L2.St → Hp → Prop), x = .ref p ∧ SqL K H1 p xs ∧ Pv 0 σ H1 ∧ (∀ i σ' H', i ≤ xs.length → Pv i σ' H' → SqL K H' p xs) ∧
    (∀ i x σ' H', xs[i]? = some x → Pv i σ' H' → g x σ' H' fun σ2 H2 => tb { D with nx := Pv (i + 1), ct := Pv (i + 1), bk := D.nx } σ2 H2) ∧ ∀ σ' H', Pv xs.length σ' H' → D.nx σ' H') (up : ∀ R R' : VK, (∀ x H1, R x H1 → R' x H1) → tl σ H R → tl σ H R') : tFor (iList K tl) g tb D σ H :=
  up _ _ (fun _ _ ⟨p, xs, Pv, e, hS, h0, hl, hs, hd⟩ => ⟨p, e, ⟨xs, hS⟩, for_list Pv h0 hl hs hd⟩) h
/-- for i in range(n) -/
def kRng (g : TG) (tb : TS) (D : Ends) (σ : L2.St) (x : V) (H1 : Hp) : Prop := iRng1 (fun _ _ R => R [x] H1) σ H1 fun J H1 => ∃ W : Nat → Nat → L2.St → Hp → Prop, (∃ m, W 0 m σ H1) ∧ ∀ i m σ H, W i m σ H →
  (J.stop i H ∧ D.nx σ H) ∨ (J.go i H ∧ ∃ N : L2.St → Hp → Prop, (∀ σ' H', N σ' H' → ∃ m', m' < m ∧ W (i + 1) m' σ' H') ∧ ∀ x H', J.yld i H x H' → g x σ H' fun σ2 H2 => tb { D with nx := N, ct := N, bk := D.nx } σ2 H2)
theorem f_rng1 (h : te σ H fun x H1 => kRng g tb D σ x H1) : tFor (iRng1 (tCons te tNil)) g tb D σ H := h
theorem k_rng (Pv : Nat → L2.St → Hp → Prop) {n : Int} (h1 : -(2 ^ 62) ≤ n) (h2 : n < 2 ^ 62) (h0 : Pv 0 σ H)
    (hs : ∀ i σ' H', i < n.toNat → Pv i σ' H' → g (.int (i : Nat)) σ' H' fun σ2 H2 => tb { D with nx := Pv (i + 1), ct := Pv (i + 1), bk := D.nx } σ2 H2) (hd : ∀ σ' H', Pv n.toNat σ' H' → D.nx σ' H') : kRng g tb D σ (.int n) H :=
  ⟨n, rfl, h1, h2, for_range (lo := 0) (n := n.toNat) Pv h0 (fun i σ' H' hi p => by
    have e0 : (0 : Int) + (i : Int) = (i : Int) := Int.zero_add _
    rw [e0]
    exact hs i σ' H' hi p) hd⟩
theorem w_by (W : Nat → L2.St → Hp → Prop) (m0 : Nat) (h0 : W m0 σ H) (hs : ∀ m σ' H', W m σ' H' → tc σ' H' fun k H1 => if k = true then ∃ N : L2.St → Hp → Prop, (∀ σ2 H2, N σ2 H2 → ∃ m', m' < m ∧ W m' σ2 H2) ∧ tb { D with nx := N, ct := N, bk := D.nx } σ' H1 else D.nx σ' H1) :
    tWhile tc tb D σ H := ⟨W, ⟨m0, h0⟩, hs⟩
theorem take_snoc {α : Type} {l : List α} {i : Nat} {x : α} (h : l[i]? = some x) : l.take (i + 1) = l.take i ++ [x] := by
  obtain ⟨hi, rfl⟩ := List.getElem?_eq_some_iff.mp h
  rw [List.take_succ, List.getElem?_eq_getElem hi]
  rfl
/-- [e for x in xs], e without a trace in the heap -/
theorem lc_pure (hv : σ[j]? = some (some (.ref b))) (hS : SqL K H b xs) (hlen : ys.length = xs.length) (hz : xs.length < 100000)
    (hs : ∀ (E : Addr) (i : Nat) (x y : V) (H' : Hp) (R : VK), H E = none → xs[i]? = some x → ys[i]? = some y → H' = upd H E (.lst (ys.take i)) → R y H' → g x (wipe σ vs) H' fun σ2 H2 => wipe σ2 vs = wipe σ vs ∧ te σ2 H2 R)
    (q : ∀ E, H E = none → Q (.ref E) (upd H E (.lst ys))) : tLc (iList K (tVar j)) g tYes te vs σ H Q := by
  refine ⟨_, hv, b, rfl, ⟨_, hS⟩, fun E hE => ?_⟩
  refine lc_list (K := K) (a := b) (xs := xs) (fun i H' => H' = upd H E (.lst (ys.take i))) (by rw [List.take_zero]) (fun i H' hi e => ?_) (fun i x H' hx e => ?_) fun H' e => ?_
  · subst e; exact (Fp.new (fp := []) hE).seq (by simp) hS
  · have hi : i < xs.length := (List.getElem?_eq_some_iff.mp hx).1
    have hy : ys[i]? = some ys[i] := List.getElem?_eq_getElem (by omega)
    have z := hs E i x _ H' (fun y H4 => ∃ acc, H4 E = some (.lst acc) ∧ acc.length < sizeLine ∧ upd H4 E (.lst (acc ++ [y])) = upd H E (.lst (ys.take (i + 1)))) hE hx hy e
      ⟨ys.take i, by rw [e]; exact upd_same, szl (by rw [List.length_take]; omega), by rw [e, upd_upd, take_snoc hy]⟩
    exact z
  · rw [e, ← hlen, List.take_length]
    exact q E hE
theorem lc_pureR {n : Int} (h1 : 0 ≤ n) (h2 : n < 100000) (hlen : (ys.length : Int) = n)
    (hs : ∀ (E : Addr) (i : Nat) (y : V) (H' : Hp) (R : VK), H E = none → (i : Int) < n → ys[i]? = some y → H' = upd H E (.lst (ys.take i)) → R y H' → g (.int (i : Nat)) (wipe σ vs) H' fun σ2 H2 => wipe σ2 vs = wipe σ vs ∧ te σ2 H2 R)
    (q : ∀ E, H E = none → Q (.ref E) (upd H E (.lst ys))) : (iRng1 (fun _ _ R => R [V.int n] H)) σ H fun J H1 => ∀ E, H1 E = none → ∃ W : Nat → Nat → Hp → Prop, (∃ m, W 0 m (upd H1 E (.lst []))) ∧ ∀ i m H, W i m H →
    (J.stop i H ∧ Q (.ref E) H) ∨ (J.go i H ∧ ∃ Nx : Hp → Prop, (∀ H', Nx H' → ∃ m', m' < m ∧ W (i + 1) m' H') ∧ ∀ x H', J.yld i H x H' → g x (wipe σ vs) H' fun σ2 H2 => wipe σ2 vs = wipe σ vs ∧ tYes σ2 H2 fun b H3 =>
      if b = true then te σ2 H3 fun y H4 => ∃ acc, H4 E = some (.lst acc) ∧ acc.length < sizeLine ∧ Nx (upd H4 E (.lst (acc ++ [y]))) else Nx H3) := by
  refine ⟨n, rfl, by omega, by omega, fun E hE => ?_⟩
  refine lc_range (lo := 0) (n := n.toNat) (fun i H' => H' = upd H E (.lst (ys.take i))) (by rw [List.take_zero]) (fun i H' hi e => ?_) fun H' e => ?_
  · have hy : ys[i]? = some ys[i] := List.getElem?_eq_getElem (by omega)
    have e0 : (0 : Int) + (i : Int) = (i : Int) := Int.zero_add _
    rw [e0]
    exact hs E i _ H' (fun y H4 => ∃ acc, H4 E = some (.lst acc) ∧ acc.length < sizeLine ∧ upd H4 E (.lst (acc ++ [y])) = upd H E (.lst (ys.take (i + 1)))) hE (by omega) hy e
      ⟨ys.take i, by rw [e]; exact upd_same, szl (by rw [List.length_take]; omega), by rw [e, upd_upd, take_snoc hy]⟩
  · have : n.toNat = ys.length := by omega
    rw [e, this, List.take_length]
    exact q E hE
def kLcR (g : TG) (te : TE) (vs : List Nat) (σ : L2.St) (Q : VK) (x : V) (H : Hp) : Prop := (iRng1 (fun _ _ R => R [x] H)) σ H fun J H1 => ∀ E, H1 E = none → ∃ W : Nat → Nat → Hp → Prop, (∃ m, W 0 m (upd H1 E (.lst []))) ∧ ∀ i m H, W i m H →
    (J.stop i H ∧ Q (.ref E) H) ∨ (J.go i H ∧ ∃ Nx : Hp → Prop, (∀ H', Nx H' → ∃ m', m' < m ∧ W (i + 1) m' H') ∧ ∀ x H', J.yld i H x H' → g x (wipe σ vs) H' fun σ2 H2 => wipe σ2 vs = wipe σ vs ∧ tYes σ2 H2 fun b H3 =>
      if b = true then te σ2 H3 fun y H4 => ∃ acc, H4 E = some (.lst acc) ∧ acc.length < sizeLine ∧ Nx (upd H4 E (.lst (acc ++ [y]))) else Nx H3)
theorem e_lcR (h : tl σ H fun x H1 => kLcR g te vs σ Q x H1) : tLc (iRng1 (tCons tl tNil)) g tYes te vs σ H Q := h
theorem k_lcR {n : Int} (h1 : 0 ≤ n) (h2 : n < 100000) (hlen : (ys.length : Int) = n)
    (hs : ∀ (E : Addr) (i : Nat) (y : V) (H' : Hp) (R : VK), H E = none → (i : Int) < n → ys[i]? = some y → H' = upd H E (.lst (ys.take i)) → R y H' → g (.int (i : Nat)) (wipe σ vs) H' fun σ2 H2 => wipe σ2 vs = wipe σ vs ∧ te σ2 H2 R)
    (q : ∀ E, H E = none → Q (.ref E) (upd H E (.lst ys))) : kLcR g te vs σ Q (.int n) H := lc_pureR h1 h2 hlen hs q
end

theorem atI_zero {α : Type} (x : α) (xs : List α) : atI (x :: xs) 0 = some x := by
  have h : (x :: xs)[0]? = some x := rfl
  exact atI_nat (j := 0) h
theorem int_inj {i j : Int} (h : V.int i = V.int j) : i = j := V.int.inj h
theorem int_ne {i j : Int} (h : ¬ V.int i = V.int j) : i ≠ j := fun z => h (by rw [z])

theorem k_ty {K : PySem.W.Frag} {H : Hp} {p : Addr} {xs : List V} {R : Prop} (h : SqL K H p xs) (q : R) : tyV K "list" (.ref p) H ∧ R := ⟨Or.inl ⟨rfl, xs, h⟩, q⟩

theorem o_rep {K : PySem.W.Frag} {H : Hp} {Q : VK} {l : Addr} {n : Int} {xs : List V} (h : H l = some (.lst xs)) (h1 : 0 ≤ n) (h2 : xs.length * n.toNat ≤ 100000) (h3 : n < 2 ^ 63) (q : ∀ p, H p = none → Q (.ref p) (upd H p (.lst (List.replicate n.toNat xs).flatten))) : rRep (.ref l) (.int n) H Q :=
  ⟨l, n, xs, rfl, rfl, h, by omega, h3, sz h2, q⟩

theorem c_isBool {K : PySem.W.Frag} {H : Hp} {Q : VK} {b : Bool} (q : Q (.bl true) H) : rIsi K [.bl b, .ty "bool"] H Q := ⟨.bl b, .ty "bool", .type "bool", .type "bool", true, rfl, .ty _, .base (.bl b), kit_ty (by decide +kernel), q⟩
theorem c_isInt {K : PySem.W.Frag} {H : Hp} {Q : VK} {n : Int} (q : Q (.bl true) H) : rIsi K [.int n, .ty "int"] H Q := ⟨.int n, .ty "int", .type "int", .type "int", true, rfl, .ty _, .base (.int n), kit_ty (by decide +kernel), q⟩
theorem c_isBoolN {K : PySem.W.Frag} {H : Hp} {Q : VK} {n : Int} (q : Q (.bl false) H) : rIsi K [.int n, .ty "bool"] H Q := ⟨.int n, .ty "bool", .type "int", .type "bool", false, rfl, .ty _, .base (.int n), kit_ty (by decide +kernel), q⟩

section
variable {K : PySem.W.Frag} {H : Hp} {Q : VK} {σ : L2.St} {te : TE} {C D ae dd CT : Addr} {f : Str} {fs : List (Str × V)} {v : V} {cls : Value} {de : Option Addr}
def kXf (a : Addr) (cls : Value) (d : Option Addr) (C : Addr) (f : Str) (x : V) (H1 : Hp) (Q : VK) : Prop := x = .ref a ∧ cls = .ref C ∧ ∃ (dd : Addr) (fs : List (Str × V)) (v : V), d = some dd ∧ H1 dd = some (.xd fs) ∧ fs.lookup f = some v ∧ Q v H1
theorem e_xf (h : te σ H fun x H1 => kXf ae cls de C f x H1 Q) : tXf ae cls de C f te σ H Q := h
theorem k_xf (h : H dd = some (.xd fs)) (l : fs.lookup f = some v) (q : Q v H) : kXf ae (.ref C) (some dd) C f (.ref ae) H Q := ⟨rfl, rfl, dd, fs, v, rfl, h, l, q⟩
theorem c_isED (h : H dd = some (.xd fs)) (k : PySem.W.kitOne K (.ref D) (.ref CT) = some true) (q : Q (.bl true) H) : rIsED K D ae (.ref D) (some dd) [.ref ae, .ref CT] H Q :=
  ⟨.ref CT, .ref CT, true, dd, fs, rfl, rfl, rfl, h, fun u r => r, k, q⟩
theorem c_isEDty {n : String} (h : H dd = some (.xd fs)) (k : PySem.W.kitOne K (.ref D) (.type n) = some true) (q : Q (.bl true) H) : rIsED K D ae (.ref D) (some dd) [.ref ae, .ty n] H Q :=
  ⟨.ty n, .type n, true, dd, fs, rfl, rfl, rfl, h, fun u r => r, k, q⟩
theorem w_as {c : Value} {i : Nat} {ts : Addr → Value → Option Addr → TS} {Wout : WX} {D : Ends} (e : PySem.W.exmOne K cls c = some true)
    (h : ∀ a, H a = none → ts a cls de { nx := fun σ' H' => D.nx (σ'.set i none) H', rt := D.rt, bk := fun σ' H' => D.bk (σ'.set i none) H', ct := fun σ' H' => D.ct (σ'.set i none) H' } (σ.set i (some (.ref a))) H) : WE (wAs K c i ts Wout D) σ cls de H :=
  ⟨true, e, fun _ => h, fun z => Bool.noConfusion z⟩
end

theorem s_cut {D : Ends} {σ : L2.St} {H : Hp} {t u : TS} (Mid : L2.St → Hp → Prop) (h1 : t { D with nx := Mid } σ H) (h2 : ∀ σ' H', Mid σ' H' → u D σ' H') : Evl.tCut t u D σ H := ⟨Mid, h1, h2⟩

/-- a test whose outcomes are told once -/
def tUpT (t : TT) : TT := fun σ H Q => ∃ P : Bool → Hp → Prop, t σ H P ∧ ∀ b H1, P b H1 → Q b H1
theorem pt_up {X : Cx} {e : Expr} {t : TT} (h : PT X e t) : PT X e (tUpT t) := ⟨fun pins s σ H Q I ⟨P, q, m⟩ => thn (h.run pins s σ H P I q) fun _ _ ⟨H1, J, z⟩ => ⟨H1, J, m _ _ z⟩⟩
theorem t_up {t : TT} {σ : L2.St} {H : Hp} {Q : Bool → Hp → Prop} (P : Bool → Hp → Prop) (h : t σ H P) (k : ∀ b H1, P b H1 → Q b H1) : tUpT t σ H Q := ⟨P, h, k⟩
theorem cut1 {x : V} {xs : List V} : cutV (x :: xs) (some 1) none = xs := by
  unfold cutV
  simp [HT.sIx]

/-! ### dicts by texts -/
section
variable {K : PySem.W.Frag} {D : Ends} {σ : L2.St} {H : Hp} {Q : VK} {td ty tv te : TE} {a : Addr} {kvs : List (Key × V)} {s : Str} {v : V} {x y c : Int} {i : Nat}
theorem val_hit (k : Key) (v : V) (r : List (Key × V)) : valV ((k, v) :: r) k = some v := by simp [valV]
theorem val_miss {k k' : Key} (h : ¬ k = k') (v : V) (r : List (Key × V)) : valV ((k, v) :: r) k' = valV r k' := by simp [valV, h]
theorem val_nil (k : Key) : valV ([] : List (Key × V)) k = none := rfl
def kDGet (x y : V) (H : Hp) (Q : VK) : Prop := ∃ a v, x = .ref a ∧ DGet H a y (some v) ∧ Q v H
theorem e_dget (h : td σ H fun x H1 => ty σ H1 fun y H2 => kDGet x y H2 Q) : tDGet td ty σ H Q := h
theorem k_dget (h : H a = some (.dK kvs)) (l : valV kvs (Sum.inr s) = some v) (q : Q v H) : kDGet (.ref a) (.str s) H Q := ⟨a, v, rfl, .inl ⟨kvs, Sum.inr s, .inl h, rfl, l.symm⟩, q⟩
def kDPut (v x y : V) (H : Hp) (R : Hp → Prop) : Prop := ∃ a H4, x = .ref a ∧ DPut H a y v H4 ∧ R H4
theorem s_dput (h : tv σ H fun v H1 => td σ H1 fun x H2 => ty σ H2 fun y H3 => kDPut v x y H3 (D.nx σ)) : sDPut td ty tv D σ H := h
theorem k_dput {R : Hp → Prop} (h : H a = some (.dK kvs)) (hl : kvs.length < 100000) (q : R (upd H a (.dK (putK kvs (Sum.inr s) v)))) : kDPut v (.ref a) (.str s) H R := ⟨a, _, rfl, DPut.k (k := Sum.inr s) h (szl hl), q⟩
theorem c_sum {ns : List Int} (h : SqL K H a (ns.map V.int)) (q : Q (.int ns.sum) H) : rSum K [.ref a] H Q := ⟨a, ns, rfl, h, q⟩
/-! ### x ≤ y ≤ c -/
theorem o_chC (q : Q (.bl (decide (x ≤ y ∧ y ≤ c))) H) :
    rI0 (fun i j => V.bl (decide (i ≤ j))) (.int x) (.int y) H fun z H3 => kT z H3 fun k H4 => if k = true then tC (.int c) σ H4 fun w' H5 => rI0 (fun i j => V.bl (decide (i ≤ j))) (.int y) w' H5 Q else Q (.bl false) H4 := by
  refine o_I0 (k_t ?_)
  refine if_d (fun h => e_c (o_I0 ?_)) (fun h => ?_)
  · rw [show decide (y ≤ c) = decide (x ≤ y ∧ y ≤ c) from decide_eq_decide.mpr ⟨fun z => ⟨h, z⟩, fun z => z.2⟩]; exact q
  · rw [show false = decide (x ≤ y ∧ y ≤ c) from (decide_eq_false fun z => h z.1).symm]; exact q
theorem o_chV (hv : σ[i]? = some (some (.int c))) (q : Q (.bl (decide (x ≤ y ∧ y ≤ c))) H) :
    rI0 (fun i j => V.bl (decide (i ≤ j))) (.int x) (.int y) H fun z H3 => kT z H3 fun k H4 => if k = true then tVar i σ H4 fun w' H5 => rI0 (fun i j => V.bl (decide (i ≤ j))) (.int y) w' H5 Q else Q (.bl false) H4 := by
  refine o_I0 (k_t ?_)
  refine if_d (fun h => e_var hv (o_I0 ?_)) (fun h => ?_)
  · rw [show decide (y ≤ c) = decide (x ≤ y ∧ y ≤ c) from decide_eq_decide.mpr ⟨fun z => ⟨h, z⟩, fun z => z.2⟩]; exact q
  · rw [show false = decide (x ≤ y ∧ y ≤ c) from (decide_eq_false fun z => h z.1).symm]; exact q
theorem e_makeK {C : Addr} {m : Nat} {sp : Sp} {gV : List V → List V → List V} {ES : L2.St → XK} {tk : TA} (h : tk σ H fun zs H2 => zs.length = m ∧ ∀ x dx, H2 x = none → H2 dx = none → dx ≠ x →
  sp (gV [.ref x] zs) (upd (upd H2 dx (.own x)) x (.ins C dx [])) (fun v H3 => v = .non ∧ Q (.ref x) H3) (ES σ)) : tMakeKS C m sp gV ES tk σ H Q := h
def kTup (K : PySem.W.Frag) (n : Nat) (t : TGs) (v : V) (σ : L2.St) (H : Hp) (R : L2.St → Hp → Prop) : Prop := ∃ a xs, v = .ref a ∧ SqT K H a xs ∧ xs.length = n ∧ t xs σ H R
theorem g_tup {n : Nat} {t : TGs} {R : L2.St → Hp → Prop} {xs : List V} (h : SqT K H a xs) (hn : xs.length = n) (q : t xs σ H R) : gTup K n t (.ref a) σ H R := ⟨a, xs, rfl, h, hn, q⟩
theorem g_cons {t : TG} {u : TGs} {R : L2.St → Hp → Prop} {r : List V} (q : t v σ H fun σ' H' => u r σ' H' R) : gCons t u (v :: r) σ H R := ⟨v, r, rfl, q⟩
theorem g_nil {R : L2.St → Hp → Prop} (q : R σ H) : gNil [] σ H R := ⟨rfl, q⟩
end

def PL (fs : List (Str × V)) (n : Nat) : Prop := fs.length ≤ n
theorem PL.nil {n : Nat} : PL [] n := Nat.zero_le _
theorem putF_length (f : Str) (v : V) : ∀ fs : List (Str × V), (putF f v fs).length ≤ fs.length + 1
  | [] => Nat.le_refl _
  | (g, y) :: r => by
    by_cases h : g = f
    · rw [show putF f v ((g, y) :: r) = (g, v) :: r from if_pos h]
      exact Nat.le_succ _
    · rw [putF_miss h]
      exact Nat.succ_le_succ (putF_length f v r)
theorem PL.put {f : Str} {v : V} {fs : List (Str × V)} {n : Nat} (h : PL fs n) : PL (putF f v fs) (n + 1) := Nat.le_trans (putF_length f v fs) (Nat.succ_le_succ h)
theorem PL.lt {fs : List (Str × V)} {n : Nat} (h : PL fs n) (hn : n < 1000) : fs.length < 1000 := Nat.lt_of_le_of_lt h hn

/-- objects that stand -/
def Obs (H : Hp) (l : List (Addr × HO)) : Prop := ∀ p ∈ l, H p.1 = some p.2
theorem Obs.nil {H : Hp} : Obs H [] := fun p hp => by cases hp
theorem Obs.fp {H H1 : Hp} {l : List (Addr × HO)} {fp : List Addr} (u : Obs H l) (f : Fp fp H H1) (n : ∀ p ∈ l, p.1 ∉ fp) : Obs H1 l := fun p hp => f _ _ (u p hp) (n p hp)
theorem Obs.fp0 {H H1 : Hp} {l : List (Addr × HO)} (u : Obs H l) (f : Fp [] H H1) : Obs H1 l := u.fp f fun _ _ => by simp
theorem Obs.add {H : Hp} {l : List (Addr × HO)} {t : Addr} {o : HO} (u : Obs H l) (h : H t = none) : Obs (upd H t o) ((t, o) :: l) := fun p hp => by
  rcases List.mem_cons.mp hp with rfl | hp
  · exact upd_same
  · exact Fp.new (fp := []) h _ _ (u p hp) (by simp)
theorem Obs.cons {H : Hp} {l : List (Addr × HO)} {t : Addr} {o : HO} (u : Obs H l) (h : H t = some o) : Obs H ((t, o) :: l) := fun p hp => by
  rcases List.mem_cons.mp hp with rfl | hp
  · exact h
  · exact u p hp
end Rd
set_option Elab.async false
set_option maxRecDepth 100000
set_option maxHeartbeats 100000000
set_option linter.all false
namespace My
open PySem L2 Sx Rd
def top (i : Nat) : Stmt := PySem.Challenge.pw_tickrings_k01_configurations.main.body.getD i (.Pass ⟨0, 0, 0, 0⟩)
abbrev s_ConfigError_init : Stmt := inClass (top 2) 0
abbrev s_require : Stmt := top 4
abbrev s_budget_sum : Stmt := top 5
abbrev s_Settings_init : Stmt := inClass (top 6) 0
abbrev s_Config_init : Stmt := inClass (top 7) 0
abbrev s_law_state : Stmt := top 9
abbrev s_law_draw : Stmt := top 10
abbrev s_law_value : Stmt := top 11
abbrev s_law_settings_due : Stmt := top 12
abbrev s_law_fields : Stmt := top 13
abbrev s_law_settings : Stmt := top 14
abbrev s_law_config_outcome : Stmt := top 15
abbrev s_law_config_due : Stmt := top 16
abbrev s_law : Stmt := top 17
theorem sc_ConfigError_init : NdefX.NScope ["self", "setting", "__class__"] ["self", "setting"] ["__class__"] (defScope s_ConfigError_init) := NdefX.nscope_by (by decide +kernel)
theorem sc_require : FnScope ["setting", "in_range"] ["setting", "in_range"] (defScope s_require) := ⟨rfl, rfl, rfl, by decide +kernel, rfl, by decide +kernel, by decide +kernel⟩
theorem sc_budget_sum : FnScope ["devices", "jobs", "device"] ["devices", "jobs"] (defScope s_budget_sum) := ⟨rfl, rfl, rfl, by decide +kernel, rfl, by decide +kernel, by decide +kernel⟩
theorem sc_Settings_init : FnScope ["self", "queue", "sending", "slots", "pace", "count", "wait", "idle", "room", "receive", "transmit"] ["self", "queue", "sending", "slots", "pace", "count", "wait", "idle", "room", "receive", "transmit"] (defScope s_Settings_init) := ⟨rfl, rfl, rfl, by decide +kernel, rfl, by decide +kernel, by decide +kernel⟩
theorem sc_Config_init : FnScope ["self", "devices", "buffers", "size", "period", "jobs"] ["self", "devices", "buffers", "size", "period", "jobs"] (defScope s_Config_init) := ⟨rfl, rfl, rfl, by decide +kernel, rfl, by decide +kernel, by decide +kernel⟩
theorem sc_law_state : FnScope ["script", "seed", "cell"] ["script"] (defScope s_law_state) := ⟨rfl, rfl, rfl, by decide +kernel, rfl, by decide +kernel, by decide +kernel⟩
theorem sc_law_draw : FnScope ["state", "many", "cells", "value", "mixed"] ["state", "many"] (defScope s_law_draw) := ⟨rfl, rfl, rfl, by decide +kernel, rfl, by decide +kernel, by decide +kernel⟩
theorem sc_law_value : FnScope ["state", "least", "greatest", "kind"] ["state", "least", "greatest"] (defScope s_law_value) := ⟨rfl, rfl, rfl, by decide +kernel, rfl, by decide +kernel, by decide +kernel⟩
theorem sc_law_settings_due : FnScope ["v", "ranges", "name", "least", "greatest"] ["v"] (defScope s_law_settings_due) := ⟨rfl, rfl, rfl, by decide +kernel, rfl, by decide +kernel, by decide +kernel⟩
theorem sc_law_fields : FnScope ["one", "fields"] ["one"] (defScope s_law_fields) := ⟨rfl, rfl, rfl, by decide +kernel, rfl, by decide +kernel, by decide +kernel⟩
theorem sc_law_settings : FnScope ["v", "made", "e", "fields", "names", "name"] ["v"] (defScope s_law_settings) := ⟨rfl, rfl, rfl, by decide +kernel, rfl, by decide +kernel, by decide +kernel⟩
theorem sc_law_config_outcome : FnScope ["devices", "buffers", "size", "period", "jobs", "given", "made", "e", "k"] ["devices", "buffers", "size", "period", "jobs"] (defScope s_law_config_outcome) := ⟨rfl, rfl, rfl, by decide +kernel, rfl, by decide +kernel, by decide +kernel⟩
theorem sc_law_config_due : FnScope ["devices", "buffers", "size", "period", "jobs", "device"] ["devices", "buffers", "size", "period", "jobs"] (defScope s_law_config_due) := ⟨rfl, rfl, rfl, by decide +kernel, rfl, by decide +kernel, by decide +kernel⟩
theorem sc_law : FnScope ["script", "state", "v", "ranges", "name", "least", "greatest", "devices", "k", "queue", "buffers", "size", "jobs", "total", "device", "period", "due", "plain", "whole"] ["script"] (defScope s_law) := ⟨rfl, rfl, rfl, by decide +kernel, rfl, by decide +kernel, by decide +kernel⟩
/-- where things stand -/
structure Ads where
  (C_TickringsError C_ConfigError C_Settings C_Config : Addr)
  (f_ConfigError_init f_require f_budget_sum f_Settings_init f_Config_init f_law_state f_law_draw f_law_value f_law_settings_due f_law_fields f_law_settings f_law_config_outcome f_law_config_due f_law : Addr)
  (fd_ConfigError_init fd_require fd_budget_sum fd_Settings_init fd_Config_init fd_law_state fd_law_draw fd_law_value fd_law_settings_due fd_law_fields fd_law_settings fd_law_config_outcome fd_law_config_due fd_law : FuncData)
def F_Settings (x0 x1 x2 x3 x4 x5 x6 x7 x8 x9 : V) : List (Str × V) := [("queue", x0), ("sending", x1), ("slots", x2), ("pace", x3), ("count_limit", x4), ("wait", x5), ("idle", x6), ("room", x7), ("receive", x8), ("transmit", x9)]
section
variable {x0 x1 x2 x3 x4 x5 x6 x7 x8 x9 v : V}
theorem F_Settings_queue_l : (F_Settings x0 x1 x2 x3 x4 x5 x6 x7 x8 x9).lookup ("queue" : Str) = some x0 := by unfold F_Settings; rw [look_hit]
theorem F_Settings_queue_p : putF "queue" v (F_Settings x0 x1 x2 x3 x4 x5 x6 x7 x8 x9) = F_Settings v x1 x2 x3 x4 x5 x6 x7 x8 x9 := by unfold F_Settings; rw [putF_hit]; try rfl
theorem F_Settings_sending_l : (F_Settings x0 x1 x2 x3 x4 x5 x6 x7 x8 x9).lookup ("sending" : Str) = some x1 := by unfold F_Settings; rw [look_miss (by decide +kernel), look_hit]
theorem F_Settings_sending_p : putF "sending" v (F_Settings x0 x1 x2 x3 x4 x5 x6 x7 x8 x9) = F_Settings x0 v x2 x3 x4 x5 x6 x7 x8 x9 := by unfold F_Settings; rw [putF_miss (by decide +kernel), putF_hit]; try rfl
theorem F_Settings_slots_l : (F_Settings x0 x1 x2 x3 x4 x5 x6 x7 x8 x9).lookup ("slots" : Str) = some x2 := by unfold F_Settings; rw [look_miss (by decide +kernel), look_miss (by decide +kernel), look_hit]
theorem F_Settings_slots_p : putF "slots" v (F_Settings x0 x1 x2 x3 x4 x5 x6 x7 x8 x9) = F_Settings x0 x1 v x3 x4 x5 x6 x7 x8 x9 := by unfold F_Settings; rw [putF_miss (by decide +kernel), putF_miss (by decide +kernel), putF_hit]; try rfl
theorem F_Settings_pace_l : (F_Settings x0 x1 x2 x3 x4 x5 x6 x7 x8 x9).lookup ("pace" : Str) = some x3 := by unfold F_Settings; rw [look_miss (by decide +kernel), look_miss (by decide +kernel), look_miss (by decide +kernel), look_hit]
theorem F_Settings_pace_p : putF "pace" v (F_Settings x0 x1 x2 x3 x4 x5 x6 x7 x8 x9) = F_Settings x0 x1 x2 v x4 x5 x6 x7 x8 x9 := by unfold F_Settings; rw [putF_miss (by decide +kernel), putF_miss (by decide +kernel), putF_miss (by decide +kernel), putF_hit]; try rfl
theorem F_Settings_count_limit_l : (F_Settings x0 x1 x2 x3 x4 x5 x6 x7 x8 x9).lookup ("count_limit" : Str) = some x4 := by unfold F_Settings; rw [look_miss (by decide +kernel), look_miss (by decide +kernel), look_miss (by decide +kernel), look_miss (by decide +kernel), look_hit]
theorem F_Settings_count_limit_p : putF "count_limit" v (F_Settings x0 x1 x2 x3 x4 x5 x6 x7 x8 x9) = F_Settings x0 x1 x2 x3 v x5 x6 x7 x8 x9 := by unfold F_Settings; rw [putF_miss (by decide +kernel), putF_miss (by decide +kernel), putF_miss (by decide +kernel), putF_miss (by decide +kernel), putF_hit]; try rfl
theorem F_Settings_wait_l : (F_Settings x0 x1 x2 x3 x4 x5 x6 x7 x8 x9).lookup ("wait" : Str) = some x5 := by unfold F_Settings; rw [look_miss (by decide +kernel), look_miss (by decide +kernel), look_miss (by decide +kernel), look_miss (by decide +kernel), look_miss (by decide +kernel), look_hit]
theorem F_Settings_wait_p : putF "wait" v (F_Settings x0 x1 x2 x3 x4 x5 x6 x7 x8 x9) = F_Settings x0 x1 x2 x3 x4 v x6 x7 x8 x9 := by unfold F_Settings; rw [putF_miss (by decide +kernel), putF_miss (by decide +kernel), putF_miss (by decide +kernel), putF_miss (by decide +kernel), putF_miss (by decide +kernel), putF_hit]; try rfl
theorem F_Settings_idle_l : (F_Settings x0 x1 x2 x3 x4 x5 x6 x7 x8 x9).lookup ("idle" : Str) = some x6 := by unfold F_Settings; rw [look_miss (by decide +kernel), look_miss (by decide +kernel), look_miss (by decide +kernel), look_miss (by decide +kernel), look_miss (by decide +kernel), look_miss (by decide +kernel), look_hit]
theorem F_Settings_idle_p : putF "idle" v (F_Settings x0 x1 x2 x3 x4 x5 x6 x7 x8 x9) = F_Settings x0 x1 x2 x3 x4 x5 v x7 x8 x9 := by unfold F_Settings; rw [putF_miss (by decide +kernel), putF_miss (by decide +kernel), putF_miss (by decide +kernel), putF_miss (by decide +kernel), putF_miss (by decide +kernel), putF_miss (by decide +kernel), putF_hit]; try rfl
theorem F_Settings_room_l : (F_Settings x0 x1 x2 x3 x4 x5 x6 x7 x8 x9).lookup ("room" : Str) = some x7 := by unfold F_Settings; rw [look_miss (by decide +kernel), look_miss (by decide +kernel), look_miss (by decide +kernel), look_miss (by decide +kernel), look_miss (by decide +kernel), look_miss (by decide +kernel), look_miss (by decide +kernel), look_hit]
theorem F_Settings_room_p : putF "room" v (F_Settings x0 x1 x2 x3 x4 x5 x6 x7 x8 x9) = F_Settings x0 x1 x2 x3 x4 x5 x6 v x8 x9 := by unfold F_Settings; rw [putF_miss (by decide +kernel), putF_miss (by decide +kernel), putF_miss (by decide +kernel), putF_miss (by decide +kernel), putF_miss (by decide +kernel), putF_miss (by decide +kernel), putF_miss (by decide +kernel), putF_hit]; try rfl
theorem F_Settings_receive_l : (F_Settings x0 x1 x2 x3 x4 x5 x6 x7 x8 x9).lookup ("receive" : Str) = some x8 := by unfold F_Settings; rw [look_miss (by decide +kernel), look_miss (by decide +kernel), look_miss (by decide +kernel), look_miss (by decide +kernel), look_miss (by decide +kernel), look_miss (by decide +kernel), look_miss (by decide +kernel), look_miss (by decide +kernel), look_hit]
theorem F_Settings_receive_p : putF "receive" v (F_Settings x0 x1 x2 x3 x4 x5 x6 x7 x8 x9) = F_Settings x0 x1 x2 x3 x4 x5 x6 x7 v x9 := by unfold F_Settings; rw [putF_miss (by decide +kernel), putF_miss (by decide +kernel), putF_miss (by decide +kernel), putF_miss (by decide +kernel), putF_miss (by decide +kernel), putF_miss (by decide +kernel), putF_miss (by decide +kernel), putF_miss (by decide +kernel), putF_hit]; try rfl
theorem F_Settings_transmit_l : (F_Settings x0 x1 x2 x3 x4 x5 x6 x7 x8 x9).lookup ("transmit" : Str) = some x9 := by unfold F_Settings; rw [look_miss (by decide +kernel), look_miss (by decide +kernel), look_miss (by decide +kernel), look_miss (by decide +kernel), look_miss (by decide +kernel), look_miss (by decide +kernel), look_miss (by decide +kernel), look_miss (by decide +kernel), look_miss (by decide +kernel), look_hit]
theorem F_Settings_transmit_p : putF "transmit" v (F_Settings x0 x1 x2 x3 x4 x5 x6 x7 x8 x9) = F_Settings x0 x1 x2 x3 x4 x5 x6 x7 x8 v := by unfold F_Settings; rw [putF_miss (by decide +kernel), putF_miss (by decide +kernel), putF_miss (by decide +kernel), putF_miss (by decide +kernel), putF_miss (by decide +kernel), putF_miss (by decide +kernel), putF_miss (by decide +kernel), putF_miss (by decide +kernel), putF_miss (by decide +kernel), putF_hit]; try rfl
theorem F_Settings_len : (F_Settings x0 x1 x2 x3 x4 x5 x6 x7 x8 x9).length < 1000 := by show 10 < 1000; decide
theorem F_Settings_i1 : putF "sending" x1 ([(("queue" : Str), x0)] : List (Str × V)) = [(("queue" : Str), x0), (("sending" : Str), x1)] := by rw [putF_miss (by decide +kernel)]; rfl
theorem F_Settings_i2 : putF "slots" x2 ([(("queue" : Str), x0), (("sending" : Str), x1)] : List (Str × V)) = [(("queue" : Str), x0), (("sending" : Str), x1), (("slots" : Str), x2)] := by rw [putF_miss (by decide +kernel), putF_miss (by decide +kernel)]; rfl
theorem F_Settings_i3 : putF "pace" x3 ([(("queue" : Str), x0), (("sending" : Str), x1), (("slots" : Str), x2)] : List (Str × V)) = [(("queue" : Str), x0), (("sending" : Str), x1), (("slots" : Str), x2), (("pace" : Str), x3)] := by rw [putF_miss (by decide +kernel), putF_miss (by decide +kernel), putF_miss (by decide +kernel)]; rfl
theorem F_Settings_i4 : putF "count_limit" x4 ([(("queue" : Str), x0), (("sending" : Str), x1), (("slots" : Str), x2), (("pace" : Str), x3)] : List (Str × V)) = [(("queue" : Str), x0), (("sending" : Str), x1), (("slots" : Str), x2), (("pace" : Str), x3), (("count_limit" : Str), x4)] := by rw [putF_miss (by decide +kernel), putF_miss (by decide +kernel), putF_miss (by decide +kernel), putF_miss (by decide +kernel)]; rfl
theorem F_Settings_i5 : putF "wait" x5 ([(("queue" : Str), x0), (("sending" : Str), x1), (("slots" : Str), x2), (("pace" : Str), x3), (("count_limit" : Str), x4)] : List (Str × V)) = [(("queue" : Str), x0), (("sending" : Str), x1), (("slots" : Str), x2), (("pace" : Str), x3), (("count_limit" : Str), x4), (("wait" : Str), x5)] := by rw [putF_miss (by decide +kernel), putF_miss (by decide +kernel), putF_miss (by decide +kernel), putF_miss (by decide +kernel), putF_miss (by decide +kernel)]; rfl
theorem F_Settings_i6 : putF "idle" x6 ([(("queue" : Str), x0), (("sending" : Str), x1), (("slots" : Str), x2), (("pace" : Str), x3), (("count_limit" : Str), x4), (("wait" : Str), x5)] : List (Str × V)) = [(("queue" : Str), x0), (("sending" : Str), x1), (("slots" : Str), x2), (("pace" : Str), x3), (("count_limit" : Str), x4), (("wait" : Str), x5), (("idle" : Str), x6)] := by rw [putF_miss (by decide +kernel), putF_miss (by decide +kernel), putF_miss (by decide +kernel), putF_miss (by decide +kernel), putF_miss (by decide +kernel), putF_miss (by decide +kernel)]; rfl
theorem F_Settings_i7 : putF "room" x7 ([(("queue" : Str), x0), (("sending" : Str), x1), (("slots" : Str), x2), (("pace" : Str), x3), (("count_limit" : Str), x4), (("wait" : Str), x5), (("idle" : Str), x6)] : List (Str × V)) = [(("queue" : Str), x0), (("sending" : Str), x1), (("slots" : Str), x2), (("pace" : Str), x3), (("count_limit" : Str), x4), (("wait" : Str), x5), (("idle" : Str), x6), (("room" : Str), x7)] := by rw [putF_miss (by decide +kernel), putF_miss (by decide +kernel), putF_miss (by decide +kernel), putF_miss (by decide +kernel), putF_miss (by decide +kernel), putF_miss (by decide +kernel), putF_miss (by decide +kernel)]; rfl
theorem F_Settings_i8 : putF "receive" x8 ([(("queue" : Str), x0), (("sending" : Str), x1), (("slots" : Str), x2), (("pace" : Str), x3), (("count_limit" : Str), x4), (("wait" : Str), x5), (("idle" : Str), x6), (("room" : Str), x7)] : List (Str × V)) = [(("queue" : Str), x0), (("sending" : Str), x1), (("slots" : Str), x2), (("pace" : Str), x3), (("count_limit" : Str), x4), (("wait" : Str), x5), (("idle" : Str), x6), (("room" : Str), x7), (("receive" : Str), x8)] := by rw [putF_miss (by decide +kernel), putF_miss (by decide +kernel), putF_miss (by decide +kernel), putF_miss (by decide +kernel), putF_miss (by decide +kernel), putF_miss (by decide +kernel), putF_miss (by decide +kernel), putF_miss (by decide +kernel)]; rfl
theorem F_Settings_i9 : putF "transmit" x9 ([(("queue" : Str), x0), (("sending" : Str), x1), (("slots" : Str), x2), (("pace" : Str), x3), (("count_limit" : Str), x4), (("wait" : Str), x5), (("idle" : Str), x6), (("room" : Str), x7), (("receive" : Str), x8)] : List (Str × V)) = [(("queue" : Str), x0), (("sending" : Str), x1), (("slots" : Str), x2), (("pace" : Str), x3), (("count_limit" : Str), x4), (("wait" : Str), x5), (("idle" : Str), x6), (("room" : Str), x7), (("receive" : Str), x8), (("transmit" : Str), x9)] := by rw [putF_miss (by decide +kernel), putF_miss (by decide +kernel), putF_miss (by decide +kernel), putF_miss (by decide +kernel), putF_miss (by decide +kernel), putF_miss (by decide +kernel), putF_miss (by decide +kernel), putF_miss (by decide +kernel), putF_miss (by decide +kernel)]; rfl
theorem F_Settings_init : putF "transmit" x9 (putF "receive" x8 (putF "room" x7 (putF "idle" x6 (putF "wait" x5 (putF "count_limit" x4 (putF "pace" x3 (putF "slots" x2 (putF "sending" x1 (putF "queue" x0 []))))))))) = F_Settings x0 x1 x2 x3 x4 x5 x6 x7 x8 x9 := by unfold F_Settings; rw [putF_nil, F_Settings_i1, F_Settings_i2, F_Settings_i3, F_Settings_i4, F_Settings_i5, F_Settings_i6, F_Settings_i7, F_Settings_i8, F_Settings_i9]
end
def F_Config (x0 x1 x2 x3 x4 : V) : List (Str × V) := [("devices", x0), ("buffers", x1), ("size", x2), ("period", x3), ("jobs", x4)]
section
variable {x0 x1 x2 x3 x4 v : V}
theorem F_Config_devices_l : (F_Config x0 x1 x2 x3 x4).lookup ("devices" : Str) = some x0 := by unfold F_Config; rw [look_hit]
theorem F_Config_devices_p : putF "devices" v (F_Config x0 x1 x2 x3 x4) = F_Config v x1 x2 x3 x4 := by unfold F_Config; rw [putF_hit]; try rfl
theorem F_Config_buffers_l : (F_Config x0 x1 x2 x3 x4).lookup ("buffers" : Str) = some x1 := by unfold F_Config; rw [look_miss (by decide +kernel), look_hit]
theorem F_Config_buffers_p : putF "buffers" v (F_Config x0 x1 x2 x3 x4) = F_Config x0 v x2 x3 x4 := by unfold F_Config; rw [putF_miss (by decide +kernel), putF_hit]; try rfl
theorem F_Config_size_l : (F_Config x0 x1 x2 x3 x4).lookup ("size" : Str) = some x2 := by unfold F_Config; rw [look_miss (by decide +kernel), look_miss (by decide +kernel), look_hit]
theorem F_Config_size_p : putF "size" v (F_Config x0 x1 x2 x3 x4) = F_Config x0 x1 v x3 x4 := by unfold F_Config; rw [putF_miss (by decide +kernel), putF_miss (by decide +kernel), putF_hit]; try rfl
theorem F_Config_period_l : (F_Config x0 x1 x2 x3 x4).lookup ("period" : Str) = some x3 := by unfold F_Config; rw [look_miss (by decide +kernel), look_miss (by decide +kernel), look_miss (by decide +kernel), look_hit]
theorem F_Config_period_p : putF "period" v (F_Config x0 x1 x2 x3 x4) = F_Config x0 x1 x2 v x4 := by unfold F_Config; rw [putF_miss (by decide +kernel), putF_miss (by decide +kernel), putF_miss (by decide +kernel), putF_hit]; try rfl
theorem F_Config_jobs_l : (F_Config x0 x1 x2 x3 x4).lookup ("jobs" : Str) = some x4 := by unfold F_Config; rw [look_miss (by decide +kernel), look_miss (by decide +kernel), look_miss (by decide +kernel), look_miss (by decide +kernel), look_hit]
theorem F_Config_jobs_p : putF "jobs" v (F_Config x0 x1 x2 x3 x4) = F_Config x0 x1 x2 x3 v := by unfold F_Config; rw [putF_miss (by decide +kernel), putF_miss (by decide +kernel), putF_miss (by decide +kernel), putF_miss (by decide +kernel), putF_hit]; try rfl
theorem F_Config_len : (F_Config x0 x1 x2 x3 x4).length < 1000 := by show 5 < 1000; decide
theorem F_Config_i1 : putF "buffers" x1 ([(("devices" : Str), x0)] : List (Str × V)) = [(("devices" : Str), x0), (("buffers" : Str), x1)] := by rw [putF_miss (by decide +kernel)]; rfl
theorem F_Config_i2 : putF "size" x2 ([(("devices" : Str), x0), (("buffers" : Str), x1)] : List (Str × V)) = [(("devices" : Str), x0), (("buffers" : Str), x1), (("size" : Str), x2)] := by rw [putF_miss (by decide +kernel), putF_miss (by decide +kernel)]; rfl
theorem F_Config_i3 : putF "period" x3 ([(("devices" : Str), x0), (("buffers" : Str), x1), (("size" : Str), x2)] : List (Str × V)) = [(("devices" : Str), x0), (("buffers" : Str), x1), (("size" : Str), x2), (("period" : Str), x3)] := by rw [putF_miss (by decide +kernel), putF_miss (by decide +kernel), putF_miss (by decide +kernel)]; rfl
theorem F_Config_i4 : putF "jobs" x4 ([(("devices" : Str), x0), (("buffers" : Str), x1), (("size" : Str), x2), (("period" : Str), x3)] : List (Str × V)) = [(("devices" : Str), x0), (("buffers" : Str), x1), (("size" : Str), x2), (("period" : Str), x3), (("jobs" : Str), x4)] := by rw [putF_miss (by decide +kernel), putF_miss (by decide +kernel), putF_miss (by decide +kernel), putF_miss (by decide +kernel)]; rfl
theorem F_Config_init : putF "jobs" x4 (putF "period" x3 (putF "size" x2 (putF "buffers" x1 (putF "devices" x0 [])))) = F_Config x0 x1 x2 x3 x4 := by unfold F_Config; rw [putF_nil, F_Config_i1, F_Config_i2, F_Config_i3, F_Config_i4]
end
def g_Settings_init_0 {α : Type} (us mv ws : List α) : List α := us ++ ws
def ms_Settings_init_0 : List (Str × V) := []
def gv_Settings_init_0 : List V → List V → List V := fun us ws => g_Settings_init_0 us ((ms_Settings_init_0).map (·.2)) ws
def g_Config_init_1 {α : Type} (us mv ws : List α) : List α := us ++ ws
def ms_Config_init_1 : List (Str × V) := []
def gv_Config_init_1 : List V → List V → List V := fun us ws => g_Config_init_1 us ((ms_Config_init_1).map (·.2)) ws
def g_Settings_init_2 {α : Type} (us mv ws : List α) : List α := us ++ mv
def ms_Settings_init_2 : List (Str × V) := [("queue", V.int 4), ("sending", V.int 4), ("slots", V.int 2), ("pace", V.int 1), ("count", V.int 1), ("wait", V.int 1), ("idle", V.int 4), ("room", V.int 16), ("receive", V.int 1), ("transmit", V.int 1)]
def gv_Settings_init_2 : List V → List V → List V := fun us ws => g_Settings_init_2 us ((ms_Settings_init_2).map (·.2)) ws
def g_Config_init_3 {α : Type} (us mv ws : List α) : List α := us ++ (((ws).drop 0).take 1 ++ (((mv).drop 0).take 1 ++ (((mv).drop 1).take 1 ++ (((mv).drop 2).take 1 ++ (((mv).drop 3).take 1)))))
def ms_Config_init_3 : List (Str × V) := [("buffers", V.int 8), ("size", V.int 4), ("period", V.int 16), ("jobs", V.int 4)]
def gv_Config_init_3 : List V → List V → List V := fun us ws => g_Config_init_3 us ((ms_Config_init_3).map (·.2)) ws
def kd_Settings_init : List (Str × V) := [("queue", V.int 4), ("sending", V.int 4), ("slots", V.int 2), ("pace", V.int 1), ("count", V.int 1), ("wait", V.int 1), ("idle", V.int 4), ("room", V.int 16), ("receive", V.int 1), ("transmit", V.int 1)]
def kd_Config_init : List (Str × V) := [("buffers", V.int 8), ("size", V.int 4), ("period", V.int 16), ("jobs", V.int 4)]
def sp_law0 (K : PySem.W.Frag) : Sp := A1 fun v H Q _ => ∃ (b : Addr) (ns : List Int), v = .ref b ∧ SqL K H b (ns.map V.int) ∧ ns.length ≤ 63 ∧ ∀ H1, Q (.bl true) H1
abbrev sp_law (K : PySem.W.Frag) (a : Ads) : Sp := sp_law0 K
/-- what the top has written -/
structure Txt (P : Program) (w : World) (K : PySem.W.Frag) (mg : Str → Option Value) (base : Heap) (a : Ads) : Prop where
  g_ValueError : mg "ValueError" = none
  g_abs : mg "abs" = none
  g_int : mg "int" = none
  g_isinstance : mg "isinstance" = none
  g_len : mg "len" = none
  g_list : mg "list" = none
  g_max : mg "max" = none
  g_range : mg "range" = none
  g_sum : mg "sum" = none
  F_require : Fun K "_require" "_require" s_require a.f_require a.fd_require
  b_require : Binds K a.fd_require ["setting", "in_range"] []
  g_require : mg "_require" = some (.ref a.f_require)
  F_budget_sum : Fun K "_budget_sum" "_budget_sum" s_budget_sum a.f_budget_sum a.fd_budget_sum
  b_budget_sum : Binds K a.fd_budget_sum ["devices", "jobs"] []
  g_budget_sum : mg "_budget_sum" = some (.ref a.f_budget_sum)
  F_Settings_init : FunD K "__init__" "Settings.__init__" (defArgs s_Settings_init) (defBody s_Settings_init) (defScope s_Settings_init) [] kd_Settings_init a.f_Settings_init a.fd_Settings_init
  kb_Settings_init_0 : ∃ gg, KBn K a.fd_Settings_init ["self", "queue", "sending", "slots", "pace", "count", "wait", "idle", "room", "receive", "transmit"] 1 ["queue", "sending", "slots", "pace", "count", "wait", "idle", "room", "receive", "transmit"] gg gv_Settings_init_0
  kb_Settings_init_2 : ∃ gg, KBn K a.fd_Settings_init ["self", "queue", "sending", "slots", "pace", "count", "wait", "idle", "room", "receive", "transmit"] 1 [] gg gv_Settings_init_2
  mk_Settings : Mk K a.C_Settings a.f_Settings_init
  F_Config_init : FunD K "__init__" "Config.__init__" (defArgs s_Config_init) (defBody s_Config_init) (defScope s_Config_init) [] kd_Config_init a.f_Config_init a.fd_Config_init
  kb_Config_init_1 : ∃ gg, KBn K a.fd_Config_init ["self", "devices", "buffers", "size", "period", "jobs"] 1 ["devices", "buffers", "size", "period", "jobs"] gg gv_Config_init_1
  kb_Config_init_3 : ∃ gg, KBn K a.fd_Config_init ["self", "devices", "buffers", "size", "period", "jobs"] 1 ["devices"] gg gv_Config_init_3
  mk_Config : Mk K a.C_Config a.f_Config_init
  F_law_state : Fun K "_law_state" "_law_state" s_law_state a.f_law_state a.fd_law_state
  b_law_state : Binds K a.fd_law_state ["script"] []
  g_law_state : mg "_law_state" = some (.ref a.f_law_state)
  F_law_draw : Fun K "_law_draw" "_law_draw" s_law_draw a.f_law_draw a.fd_law_draw
  b_law_draw : Binds K a.fd_law_draw ["state", "many"] []
  g_law_draw : mg "_law_draw" = some (.ref a.f_law_draw)
  F_law_value : Fun K "_law_value" "_law_value" s_law_value a.f_law_value a.fd_law_value
  b_law_value : Binds K a.fd_law_value ["state", "least", "greatest"] []
  g_law_value : mg "_law_value" = some (.ref a.f_law_value)
  F_law_settings_due : Fun K "_law_settings_due" "_law_settings_due" s_law_settings_due a.f_law_settings_due a.fd_law_settings_due
  b_law_settings_due : Binds K a.fd_law_settings_due ["v"] []
  g_law_settings_due : mg "_law_settings_due" = some (.ref a.f_law_settings_due)
  F_law_fields : Fun K "_law_fields" "_law_fields" s_law_fields a.f_law_fields a.fd_law_fields
  b_law_fields : Binds K a.fd_law_fields ["one"] []
  g_law_fields : mg "_law_fields" = some (.ref a.f_law_fields)
  F_law_settings : Fun K "_law_settings" "_law_settings" s_law_settings a.f_law_settings a.fd_law_settings
  b_law_settings : Binds K a.fd_law_settings ["v"] []
  g_law_settings : mg "_law_settings" = some (.ref a.f_law_settings)
  F_law_config_outcome : Fun K "_law_config_outcome" "_law_config_outcome" s_law_config_outcome a.f_law_config_outcome a.fd_law_config_outcome
  b_law_config_outcome : Binds K a.fd_law_config_outcome ["devices", "buffers", "size", "period", "jobs"] []
  g_law_config_outcome : mg "_law_config_outcome" = some (.ref a.f_law_config_outcome)
  F_law_config_due : Fun K "_law_config_due" "_law_config_due" s_law_config_due a.f_law_config_due a.fd_law_config_due
  b_law_config_due : Binds K a.fd_law_config_due ["devices", "buffers", "size", "period", "jobs"] []
  g_law_config_due : mg "_law_config_due" = some (.ref a.f_law_config_due)
  F_law : Fun K "law" "law" s_law a.f_law a.fd_law
  b_law : Binds K a.fd_law ["script"] []
  g_law : mg "law" = some (.ref a.f_law)
  g_TickringsError : mg "TickringsError" = some (.ref a.C_TickringsError)
  g_ConfigError : mg "ConfigError" = some (.ref a.C_ConfigError)
  g_Settings : mg "Settings" = some (.ref a.C_Settings)
  g_Config : mg "Config" = some (.ref a.C_Config)
  cl_Settings : Cls K a.C_Settings
  n_Settings_queue : NoAttr K a.C_Settings "queue"
  n_Settings_sending : NoAttr K a.C_Settings "sending"
  n_Settings_slots : NoAttr K a.C_Settings "slots"
  n_Settings_pace : NoAttr K a.C_Settings "pace"
  n_Settings_count_limit : NoAttr K a.C_Settings "count_limit"
  n_Settings_wait : NoAttr K a.C_Settings "wait"
  n_Settings_idle : NoAttr K a.C_Settings "idle"
  n_Settings_room : NoAttr K a.C_Settings "room"
  n_Settings_receive : NoAttr K a.C_Settings "receive"
  n_Settings_transmit : NoAttr K a.C_Settings "transmit"
  cl_Config : Cls K a.C_Config
  n_Config_devices : NoAttr K a.C_Config "devices"
  n_Config_buffers : NoAttr K a.C_Config "buffers"
  n_Config_size : NoAttr K a.C_Config "size"
  n_Config_period : NoAttr K a.C_Config "period"
  n_Config_jobs : NoAttr K a.C_Config "jobs"
  e_ConfigError : EK P w K mg base "ConfigError" "setting" a.C_ConfigError a.f_ConfigError_init a.fd_ConfigError_init ["self", "setting"]
  is_ConfigError_TickringsError : PySem.W.kitOne K (.ref a.C_ConfigError) (.ref a.C_TickringsError) = some true
  is_ConfigError_ValueError : PySem.W.kitOne K (.ref a.C_ConfigError) (Value.type "ValueError") = some true
local macro_rules | `(tactic| walk_at "ne") => `(tactic| (first | assumption | exact Ne.symm (by assumption)))
local macro_rules | `(tactic| walk_at "hl") => `(tactic| (first | (with_reducible assumption) | exact upd_same | ((with_reducible refine' (upd_ne ?hne).trans ?hgo); (case hne => walk_at "ne"); (case hgo => walk_at "hl"))))
local macro_rules | `(tactic| walk_at "sq") => `(tactic| (first | (with_reducible assumption) | exact Or.inl (Or.inl (by walk_at "hl"))))
local macro_rules | `(tactic| walk_at "ar") => `(tactic| (first | omega | exact ⟨by omega, by omega⟩ | exact Or.inl ⟨by omega, by omega⟩ | exact Or.inr ⟨by omega, by omega⟩ | (show (0 : Int) < _; omega) | (show (0 : Int) < _ ∧ _ < (1073741824 : Int); omega)))
local macro_rules | `(tactic| walk_at "cls") => `(tactic| (first | exact Txt.cl_Settings (by assumption) | exact Txt.cl_Config (by assumption)))
local macro_rules | `(tactic| walk_at "noa") => `(tactic| (first | exact Txt.n_Settings_queue (by assumption) | exact Txt.n_Settings_sending (by assumption) | exact Txt.n_Settings_slots (by assumption) | exact Txt.n_Settings_pace (by assumption) | exact Txt.n_Settings_count_limit (by assumption) | exact Txt.n_Settings_wait (by assumption) | exact Txt.n_Settings_idle (by assumption) | exact Txt.n_Settings_room (by assumption) | exact Txt.n_Settings_receive (by assumption) | exact Txt.n_Settings_transmit (by assumption) | exact Txt.n_Config_devices (by assumption) | exact Txt.n_Config_buffers (by assumption) | exact Txt.n_Config_size (by assumption) | exact Txt.n_Config_period (by assumption) | exact Txt.n_Config_jobs (by assumption)))
local macro_rules | `(tactic| walk_at "lkp") => `(tactic| (first | (with_reducible exact F_Settings_queue_l) | (with_reducible exact F_Settings_sending_l) | (with_reducible exact F_Settings_slots_l) | (with_reducible exact F_Settings_pace_l) | (with_reducible exact F_Settings_count_limit_l) | (with_reducible exact F_Settings_wait_l) | (with_reducible exact F_Settings_idle_l) | (with_reducible exact F_Settings_room_l) | (with_reducible exact F_Settings_receive_l) | (with_reducible exact F_Settings_transmit_l) | (with_reducible exact F_Config_devices_l) | (with_reducible exact F_Config_buffers_l) | (with_reducible exact F_Config_size_l) | (with_reducible exact F_Config_period_l) | (with_reducible exact F_Config_jobs_l)))
local macro_rules | `(tactic| walk_at "ptf") => `(tactic| (first | (with_reducible exact F_Settings_queue_p) | (with_reducible exact F_Settings_sending_p) | (with_reducible exact F_Settings_slots_p) | (with_reducible exact F_Settings_pace_p) | (with_reducible exact F_Settings_count_limit_p) | (with_reducible exact F_Settings_wait_p) | (with_reducible exact F_Settings_idle_p) | (with_reducible exact F_Settings_room_p) | (with_reducible exact F_Settings_receive_p) | (with_reducible exact F_Settings_transmit_p) | (with_reducible exact F_Config_devices_p) | (with_reducible exact F_Config_buffers_p) | (with_reducible exact F_Config_size_p) | (with_reducible exact F_Config_period_p) | (with_reducible exact F_Config_jobs_p) | exact rfl))
local macro_rules | `(tactic| walk_at "lnF") => `(tactic| (first | (with_reducible exact F_Settings_len) | (with_reducible exact F_Config_len) | (refine PL.lt (n := 60) ?_ (by decide); (repeat refine PL.put ?_); exact PL.nil) | decide))
local macro_rules | `(tactic| walk_at "nol") => `(tactic| (first | fail))
local macro_rules | `(tactic| walk_at "r1") => `(tactic| (first
  | with_reducible refine s_seq ?_ | with_reducible refine s_asg ?_ | with_reducible refine g_name ?_ | with_reducible refine s_ret ?_ | with_reducible refine s_if ?_ | with_reducible refine s_drop ?_
  | with_reducible refine d_nx ?_ | with_reducible refine d_rt ?_ | with_reducible refine d_bk ?_ | with_reducible refine d_ct ?_ | with_reducible refine s_next ?_ | with_reducible refine s_retN ?_ | with_reducible refine s_cont ?_ | with_reducible refine s_break ?_
  | ((with_reducible refine' e_var ?hv ?_); (case hv => exact rfl))
  | with_reducible refine o_chC ?_ | ((with_reducible refine' o_chV ?hv ?_); (case hv => exact rfl))
  | with_reducible refine e_c ?_ | with_reducible refine e_op ?_ | with_reducible refine e_un ?_ | with_reducible refine o_I0 ?_ | with_reducible refine o_U ?_
  | ((with_reducible refine' o_I ?hc ?_); (case hc => walk_at "ar"))
  | ((with_reducible refine' o_eq ?hs ?_); (case hs => exact rfl))
  | ((with_reducible refine' o_ne ?hs ?_); (case hs => exact rfl))
  | ((with_reducible refine' o_ixL ?h1 ?h2 ?_); (case h1 => walk_at "sq"); (case h2 => first | exact rfl | exact atI_zero _ _))
  | with_reducible refine e_fld ?_ | with_reducible refine s_fld ?_ | with_reducible refine e_meth ?_ | with_reducible refine e_call ?_ | with_reducible refine e_make ?_
  | ((with_reducible refine' k_fld ?h1 ?h2 ?h3 ?h4 ?_); (case h1 => walk_at "hl"); (case h2 => walk_at "cls"); (case h3 => walk_at "noa"); (case h4 => walk_at "lkp"))
  | ((with_reducible refine' k_set ?h1 ?h2 ?h3 ?h4 ?h5 ?_); (case h1 => walk_at "hl"); (case h2 => walk_at "cls"); (case h3 => walk_at "noa"); (case h4 => walk_at "ptf"); (case h5 => walk_at "lnF"))
  | ((with_reducible refine' k_meth ?h1 ?h2 ?_); (case h1 => walk_at "hl"); (case h2 => walk_at "nol"))
  | with_reducible refine e_cb ?_ | with_reducible refine l_cons ?_ | with_reducible refine l_nil ?_ | with_reducible refine e_lst ?_ | with_reducible refine e_tup ?_
  | with_reducible refine e_bm ?_ | with_reducible refine e_bm0 ?_ | with_reducible refine e_not ?_ | with_reducible refine e_if ?_
  | with_reducible refine t_test ?_ | with_reducible refine t_B ?_ | with_reducible refine k_t ?_ | with_reducible refine t_and ?_ | with_reducible refine t_or ?_ | with_reducible refine t_not ?_
  | with_reducible refine e_chain ?_ | with_reducible refine s_raise ?_ | with_reducible refine e_sl ?_ | with_reducible refine p_no ?_ | with_reducible refine p_some ?_ | with_reducible refine g_sub ?_
  | ((with_reducible refine' c_ln ?h1 ?_); (case h1 => walk_at "sq"))
  | ((with_reducible refine' c_pop0 ?h1 ?h2 ?_); (case h1 => walk_at "hl"); (case h2 => omega))
  | ((with_reducible refine' k_ty ?h1 ?_); (case h1 => walk_at "sq"))
  | with_reducible refine c_isBool ?_ | with_reducible refine c_isInt ?_ | with_reducible refine c_isBoolN ?_
  | with_reducible refine e_xf ?_
  | ((with_reducible refine' k_xf ?h1 ?h2 ?_); (case h1 => walk_at "hl"); (case h2 => exact look_hit _ _ _))
  | with_reducible refine k_i ?_
  | ((with_reducible refine' o_slL ?h1 ?_); (case h1 => walk_at "sq"))
  | ((with_reducible refine' k_dget ?h1 ?h2 ?_); (case h1 => walk_at "hl"); (case h2 => with_reducible assumption))
  | with_reducible refine e_dget ?_ | with_reducible refine s_dput ?_ | with_reducible refine e_makeK ?_ | with_reducible refine g_cons ?_ | with_reducible refine g_nil ?_
  | with_reducible refine c_ab ?_ | with_reducible refine c_in ?_ | with_reducible refine c_mx ?_ | with_reducible refine c_mn ?_
  | with_reducible refine a1 ?_ | with_reducible refine a2 ?_ | with_reducible refine a3 ?_ | with_reducible refine a4 ?_ | with_reducible refine a5 ?_ | with_reducible refine a6 ?_ | with_reducible refine a0 ?_))
local macro_rules | `(tactic| walk_at "r") => `(tactic| (repeat walk_at "r1"))
section
variable {P : Program} {w : World} {K : PySem.W.Frag} {mg : Str → Option Value} {base : Heap} {a : Ads}
/-! ### the script's numbers, drawn -/
def StAt (H : Hp) (st sl : Addr) : Prop := ∃ (ns : List Int) (m : Int), H st = some (.lst [.ref sl, .int m]) ∧ H sl = some (.lst (ns.map V.int)) ∧ ns.length ≤ 63 ∧ (∀ z ∈ ns, 0 ≤ z) ∧ 0 ≤ m ∧ m ≤ 2147483647
theorem StAt.ne {H : Hp} {st sl : Addr} (s : StAt H st sl) : st ≠ sl := by
  obtain ⟨ns, m, h1, h2, _⟩ := s
  refine ne_of h1 h2 fun z => ?_
  have z2 := HO.lst.inj z
  cases ns with
  | nil => cases z2
  | cons y ys => cases (List.cons.inj z2).1
theorem StAt.fp {H H1 : Hp} {st sl : Addr} {fp : List Addr} (s : StAt H st sl) (f : Fp fp H H1) (n1 : st ∉ fp) (n2 : sl ∉ fp) : StAt H1 st sl := by
  obtain ⟨ns, m, h1, h2, r⟩ := s
  exact ⟨ns, m, f _ _ h1 n1, f _ _ h2 n2, r⟩
def sp_law_state (K : PySem.W.Frag) (a : Ads) : Sp := A1 fun v H Q _ => ∃ (b : Addr) (ns : List Int), v = .ref b ∧ SqL K H b (ns.map V.int) ∧ ns.length ≤ 63 ∧
  ∀ st sl H1, H st = none → H sl = none → StAt H1 st sl → Fp [] H H1 → Q (.ref st) H1
def sp_law_draw (K : PySem.W.Frag) (a : Ads) : Sp := A2 fun s m H Q _ => ∃ (st sl : Addr) (k : Int), s = .ref st ∧ m = .int k ∧ StAt H st sl ∧ 1 ≤ k ∧ k < 1073741824 ∧
  ∀ r H1, 0 ≤ r → r < k → StAt H1 st sl → Fp [st, sl] H H1 → Q (.int r) H1
theorem ok_law_state (T : Txt P w K mg base a) : FnOk P w K mg base (L2.CX P w) 1 a.f_law_state a.fd_law_state ["script"] (sp_law_state K a) := by
  refine T.F_law_state.okX sc_law_state (fun vs H Q E h => A1.len h) (fun cdv A outer s H vs Q E hr h => ?_)
  have hu := hu_of hr
  obtain ⟨v_script, rfl, h⟩ := h
  refine ⟨_, (pss_cons (ps_set (i := 1) sc_law_state.nd rfl (by first | exact Or.inl rfl | exact Or.inr rfl) pe_int)
    (pss_cons (ps_for (passes_of rfl) rfl (pi_list (pv 0)) (pg_name (i := 2) sc_law_state.nd rfl (by first | exact Or.inl rfl | exact Or.inr rfl)) (pss_one (ps_set (i := 1) sc_law_state.nd rfl (by first | exact Or.inl rfl | exact Or.inr rfl) (pe_op op_mod (pe_callTy call_in (by rfl) T.g_int (by decide +kernel) (pa_cons (pe_op op_add (pe_op op_mul (pv 1) pe_int) (pv 2)) pa_nil)) pe_int))))
    (pss_one (ps_ret (pe_lst (pa_cons (pe_lc (own := [("cell", 2)]) (g := (gName 2)) (tt := tYes) (te := (tCB rAb (tCons (tVar 2) tNil))) rfl sc_law_state.nd (pi_list (pv 0)) (blkOk_by (N := ["script", "seed", "cell"]) (sc := defScope s_law_state) (own := [("cell", 2)]) (by decide +kernel)) (fun _ _ _ _ _ => by exact (pg_name (i := 2) sc_law_state.nd rfl (by first | exact Or.inl rfl | exact Or.inr rfl))) (fun _ _ _ _ _ => by exact pts_nil) (fun _ _ _ _ _ => by exact (pe_callB call_ab (by rfl) T.g_abs (by decide +kernel) (pa_cons (pv 2) pa_nil)))) (pa_cons (pe_op op_add (pv 1) pe_int) pa_nil))))))), ?_⟩
  obtain ⟨b, ns, rfl, hS, hn, k⟩ := h
  walk_at "r"
  refine f_list (xs := ns.map V.int) (fun i σ H1 => ∃ (sd : Int) (u : Option V), σ = [some (.ref b), some (.int sd), u] ∧ H1 = H ∧ 0 ≤ sd ∧ sd < 1000003) rfl hS ⟨7, none, rfl, rfl, by omega, by omega⟩ (fun i σ H1 _ ⟨_, _, _, e, _⟩ => e ▸ hS) ?_ ?_
  · rintro i x σ H1 hx ⟨sd, u, rfl, rfl, h0, h1⟩
    obtain ⟨z, rfl⟩ : ∃ z, x = V.int z := by
      obtain ⟨z, _, e⟩ := List.mem_map.mp (List.mem_of_getElem? hx)
      exact ⟨z, e.symm⟩
    walk_at "r"
    exact ⟨_, _, rfl, rfl, Int.emod_nonneg _ (by omega), Int.emod_lt_of_pos _ (by omega)⟩
  · rintro σ H1 ⟨sd, u, rfl, rfl, h0, h1⟩
    walk_at "r"
    refine lc_pure (xs := ns.map V.int) (ys := (ns.map fun z => if z < 0 then -z else z).map V.int) rfl hS (by simp) (by simp <;> omega) (fun E i x y H2 R hE hx hy e hR => ?_) fun E hE => ?_
    · obtain ⟨z, hz, rfl⟩ : ∃ z, ns[i]? = some z ∧ V.int z = x := by rw [List.getElem?_map] at hx; simpa using hx
      have hy' : V.int (if z < 0 then -z else z) = y := by simpa [List.getElem?_map, hz] using hy
      refine ⟨rfl, ?_⟩
      walk_at "r"
      rw [hy']
      exact hR
    · walk_at "r"
      refine ⟨sz (by simp), fun st hst => ?_⟩
      have nE : st ≠ E := ne_of_none upd_same hst |>.symm
      have nst : H1 st = none := by rw [upd_ne nE] at hst; exact hst
      refine k st E _ nst hE ⟨_, _, upd_same, by rw [upd_ne nE.symm, upd_same], by simpa using hn, fun z hz => ?_, by omega, by omega⟩ ((Fp.new hE).trans (Fp.new hst))
      obtain ⟨y, _, rfl⟩ := List.mem_map.mp hz
      split <;> omega
theorem ok_law_draw (T : Txt P w K mg base a) : FnOk P w K mg base (L2.CX P w) 1 a.f_law_draw a.fd_law_draw ["state", "many"] (sp_law_draw K a) := by
  refine T.F_law_draw.okX sc_law_draw (fun vs H Q E h => A2.len h) (fun cdv A outer s H vs Q E hr h => ?_)
  have hu := hu_of hr
  obtain ⟨v_state, v_many, rfl, h⟩ := h
  refine ⟨_, (pss_cons (ps_set (i := 2) sc_law_draw.nd rfl (by first | exact Or.inl rfl | exact Or.inr rfl) (pe_ix ix_list (pv 0) pe_int (fun _ _ => rfl)))
    (pss_cons (ps_while (passes_of rfl) (PW.pt (pw_and (pt_cmpR op_gt (pe_callB call_ln (by rfl) T.g_len (by decide +kernel) (pa_cons (pv 2) pa_nil)) pe_int (nomark _)) (pw_and1 (pt_cmpR op_eq (pe_ix ix_list (pv 2) pe_int (fun _ _ => rfl)) pe_int (nomark _))))) (pss_one (ps_expr (pe_bm PySem.F.plainAttrs_list PySem.F.slot_list_pop PySem.F.type_list_pop mt_popAt (pv 2) (pa_cons pe_int pa_nil)))))
    (pss_cons (ps_if (pt_cmpR op_gt (pe_callB call_ln (by rfl) T.g_len (by decide +kernel) (pa_cons (pv 2) pa_nil)) pe_int (nomark _)) (pss_cons (ps_set (i := 3) sc_law_draw.nd rfl (by first | exact Or.inl rfl | exact Or.inr rfl) (pe_ix ix_list (pv 2) pe_int (fun _ _ => rfl)))
    (pss_cons (ps_asg (pe_op op_fdiv (pv 3) (pv 1)) (pg_sub (pv 2) pe_int set_list))
    (pss_one (ps_ret (pe_op op_mod (pe_callTy call_in (by rfl) T.g_int (by decide +kernel) (pa_cons (pv 3) pa_nil)) (pv 1)))))) pss_nil)
    (pss_cons (ps_set (i := 4) sc_law_draw.nd rfl (by first | exact Or.inl rfl | exact Or.inr rfl) (pe_op op_mod (pe_callTy call_in (by rfl) T.g_int (by decide +kernel) (pa_cons (pe_op op_add (pe_op op_mul (pe_ix ix_list (pv 0) pe_int (fun _ _ => rfl)) pe_int) pe_int) pa_nil)) pe_int))
    (pss_cons (ps_asg (pv 4) (pg_sub (pv 0) pe_int set_list))
    (pss_one (ps_ret (pe_op op_mod (pe_callTy call_in (by rfl) T.g_int (by decide +kernel) (pa_cons (pe_op op_fdiv (pv 4) pe_int) pa_nil)) (pv 1))))))))), ?_⟩
  obtain ⟨st, sl, kk, rfl, rfl, S, k1, k2, k⟩ := h
  obtain ⟨ns, m, hst, hsl, hn, hpos, m0, m1⟩ := id S
  have nss := S.ne
  walk_at "r"
  refine w_by (fun q σ H1 => ∃ (ns1 : List Int), σ = [some (.ref st), some (.int kk), some (.ref sl), none, none] ∧ q = ns1.length ∧ H1 st = some (.lst [.ref sl, .int m]) ∧ H1 sl = some (.lst (ns1.map V.int)) ∧ ns1.length ≤ 63 ∧ (∀ z ∈ ns1, 0 ≤ z) ∧ Fp [st, sl] H H1) ns.length ⟨ns, rfl, rfl, hst, hsl, hn, hpos, Fp.refl _ _⟩ ?_
  rintro q σ H1 ⟨ns1, rfl, rfl, g1, g2, gn, gp, gf⟩
  walk_at "r"
  rw [List.length_map]
  cases ns1 with
  | nil =>
    refine if_dF (by simp) ?_
    refine iteF ?_
    walk_at "r"
    refine if_dF (by simp) ?_
    walk_at "r"
    refine c_setL (j := 1) g1 rfl (by simp) ?_
    walk_at "r"
    exact k _ _ (Int.emod_nonneg _ (by omega)) (Int.emod_lt_of_pos _ (by omega)) ⟨[], _, upd_same, by rw [upd_ne nss.symm]; exact g2, gn, gp, Int.emod_nonneg _ (by omega), by have := Int.emod_lt_of_pos (m * 48271 + 12345) (show (0 : Int) < 2147483647 by omega); omega⟩ (gf.trans (Fp.at_ (by simp)))
  | cons z zs =>
    rw [List.map_cons] at g2
    have gz : zs.length ≤ 62 := by simpa using gn
    have gl : ((zs.map V.int).length) < 100000 := by rw [List.length_map]; omega
    refine if_dT (by simp <;> omega) ?_
    walk_at "r"
    refine if_d (fun e => ?_) (fun e => ?_)
    · refine ⟨_, fun _ _ h => h, ?_⟩
      walk_at "r"
      exact ⟨zs.length, by simp, zs, rfl, rfl, by rw [upd_ne nss]; exact g1, upd_same, by omega, fun y hy => gp y (List.mem_cons_of_mem _ hy), gf.trans (Fp.at_ (by simp))⟩
    · walk_at "r"
      refine if_dT (by simp <;> omega) ?_
      walk_at "r"
      refine c_setL (j := 0) g2 rfl (by simp) ?_
      walk_at "r"
      have hz := gp z List.mem_cons_self
      exact k _ _ (Int.emod_nonneg _ (by omega)) (Int.emod_lt_of_pos _ (by omega)) ⟨z / kk :: zs, m, by rw [upd_ne nss]; exact g1, upd_same, gn, fun y hy => by
        rcases List.mem_cons.mp hy with rfl | hy
        · exact Int.ediv_nonneg hz (by omega)
        · exact gp y (List.mem_cons_of_mem _ hy), m0, m1⟩ (gf.trans (Fp.at_ (by simp)))
/-! ### settings and configurations -/
def firstFail : List (Str × Bool) → Option Str
  | [] => none
  | (n, b) :: r => if b = true then firstFail r else some n
theorem ff_T {n : Str} {b : Bool} {r : List (Str × Bool)} (h : b = true) : firstFail ((n, b) :: r) = firstFail r := if_pos h
theorem ff_F {n : Str} {b : Bool} {r : List (Str × Bool)} (h : b = false) : firstFail ((n, b) :: r) = some n := by rw [h]; rfl
/-- what Settings asks, in its order -/
def chkS (q se sl pa co wa id ro re tr : Int) : List (Str × Bool) := [("queue", decide (1 ≤ q ∧ q ≤ 16)), ("sending", decide (1 ≤ se ∧ se ≤ 16)), ("slots", decide (1 ≤ sl ∧ sl ≤ 32)), ("pace", decide (1 ≤ pa ∧ pa ≤ 16)), ("count", decide (1 ≤ co ∧ co ≤ q)),
  ("wait", decide (1 ≤ wa ∧ wa ≤ 32)), ("idle", decide (1 ≤ id ∧ id ≤ 32)), ("room", decide (16 ≤ ro ∧ ro ≤ 64)), ("receive", decide (1 ≤ re)), ("transmit", decide (1 ≤ tr))]
def SetAt (C : Addr) (H : Hp) (p : Addr) (q se sl pa co wa id ro re tr : Int) : Prop := ∃ dx, H p = some (.ins C dx (F_Settings (.int q) (.int se) (.int sl) (.int pa) (.int co) (.int wa) (.int id) (.int ro) (.int re) (.int tr)))
theorem SetAt.fp {C p : Addr} {H H1 : Hp} {fp : List Addr} {q se sl pa co wa id ro re tr : Int} (s : SetAt C H p q se sl pa co wa id ro re tr) (f : Fp fp H H1) (n : p ∉ fp) : SetAt C H1 p q se sl pa co wa id ro re tr := by
  obtain ⟨dx, h⟩ := s
  exact ⟨dx, f _ _ h n⟩
def sp_require (K : PySem.W.Frag) (a : Ads) : Sp := A2 fun s r H Q E => ∃ (z : Str) (b : Bool), s = .str z ∧ r = .bl b ∧ z.length ≤ 1000 ∧
  (b = false → ∀ d, H d = none → E (.ref a.C_ConfigError) (some d) (upd H d (.xd [("setting", .str z)]))) ∧ (b = true → Q .non H)
def sp_Settings_init (K : PySem.W.Frag) (a : Ads) : Sp := A11 fun s xq xse xsl xpa xco xwa xid xro xre xtr H Q E => ∃ (p dx : Addr) (q se sl pa co wa id ro re tr : Int), s = .ref p ∧ xq = .int q ∧ xse = .int se ∧ xsl = .int sl ∧ xpa = .int pa ∧ xco = .int co ∧ xwa = .int wa ∧ xid = .int id ∧ xro = .int ro ∧ xre = .int re ∧ xtr = .int tr ∧
  H p = some (.ins a.C_Settings dx []) ∧
  (∀ z, firstFail (chkS q se sl pa co wa id ro re tr) = some z → ∀ d, H d = none → E (.ref a.C_ConfigError) (some d) (upd H d (.xd [("setting", .str z)]))) ∧
  (firstFail (chkS q se sl pa co wa id ro re tr) = none → ∀ H1, SetAt a.C_Settings H1 p q se sl pa co wa id ro re tr → Fp [p] H H1 → Q .non H1)
theorem ok_require (T : Txt P w K mg base a) : FnOk P w K mg base (L2.CX P w) 3 a.f_require a.fd_require ["setting", "in_range"] (sp_require K a) := by
  refine T.F_require.okX sc_require (fun vs H Q E h => A2.len h) (fun cdv A outer s H vs Q E hr h => ?_)
  have hu := hu_of hr
  obtain ⟨v_setting, v_in_range, rfl, h⟩ := h
  refine ⟨_, (pss_one (ps_if (pt_not (pt_val (pv 1))) (pss_one (ps_raiseE rfl T.e_ConfigError (hr.mono (by decide)) (takes_of rfl rfl rfl rfl) rfl (pv 0))) pss_nil)), ?_⟩
  obtain ⟨z, b, rfl, rfl, hz, kf, kt⟩ := h
  walk_at "r"
  cases b with
  | false =>
    refine iteT ?_
    walk_at "r"
    exact ⟨.inl ⟨z, rfl, hz⟩, fun d hd => kf rfl d hd⟩
  | true =>
    refine iteF ?_
    walk_at "r"
    exact kt rfl
theorem ok_Settings_init (T : Txt P w K mg base a) : FnOk P w K mg base (L2.CX P w) 4 a.f_Settings_init a.fd_Settings_init ["self", "queue", "sending", "slots", "pace", "count", "wait", "idle", "room", "receive", "transmit"] (sp_Settings_init K a) := by
  have G_require := ok_require T
  refine T.F_Settings_init.ok (CX := L2.CX P w) sc_Settings_init (fun vs H Q E h => A11.len h) (fun cdv A outer s H vs Q E hr h => ?_)
  have hu := hu_of hr
  obtain ⟨v_self, v_queue, v_sending, v_slots, v_pace, v_count, v_wait, v_idle, v_room, v_receive, v_transmit, rfl, h⟩ := h
  refine ⟨_, (pss_cons (ps_expr (pe_callS G_require (hr.mono (by decide)) rfl T.g_require T.F_require.kp T.b_require (fun σ => passAt (takes_of rfl rfl rfl rfl) σ) (pa_cons pe_str (pa_cons (pe_chain op_le op_le pe_int (pv 1) pe_int) pa_nil))))
    (pss_cons (ps_expr (pe_callS G_require (hr.mono (by decide)) rfl T.g_require T.F_require.kp T.b_require (fun σ => passAt (takes_of rfl rfl rfl rfl) σ) (pa_cons pe_str (pa_cons (pe_chain op_le op_le pe_int (pv 2) pe_int) pa_nil))))
    (pss_cons (ps_expr (pe_callS G_require (hr.mono (by decide)) rfl T.g_require T.F_require.kp T.b_require (fun σ => passAt (takes_of rfl rfl rfl rfl) σ) (pa_cons pe_str (pa_cons (pe_chain op_le op_le pe_int (pv 3) pe_int) pa_nil))))
    (pss_cons (ps_expr (pe_callS G_require (hr.mono (by decide)) rfl T.g_require T.F_require.kp T.b_require (fun σ => passAt (takes_of rfl rfl rfl rfl) σ) (pa_cons pe_str (pa_cons (pe_chain op_le op_le pe_int (pv 4) pe_int) pa_nil))))
    (pss_cons (ps_expr (pe_callS G_require (hr.mono (by decide)) rfl T.g_require T.F_require.kp T.b_require (fun σ => passAt (takes_of rfl rfl rfl rfl) σ) (pa_cons pe_str (pa_cons (pe_chain op_le op_le pe_int (pv 5) (pv 1)) pa_nil))))
    (pss_cons (ps_expr (pe_callS G_require (hr.mono (by decide)) rfl T.g_require T.F_require.kp T.b_require (fun σ => passAt (takes_of rfl rfl rfl rfl) σ) (pa_cons pe_str (pa_cons (pe_chain op_le op_le pe_int (pv 6) pe_int) pa_nil))))
    (pss_cons (ps_expr (pe_callS G_require (hr.mono (by decide)) rfl T.g_require T.F_require.kp T.b_require (fun σ => passAt (takes_of rfl rfl rfl rfl) σ) (pa_cons pe_str (pa_cons (pe_chain op_le op_le pe_int (pv 7) pe_int) pa_nil))))
    (pss_cons (ps_expr (pe_callS G_require (hr.mono (by decide)) rfl T.g_require T.F_require.kp T.b_require (fun σ => passAt (takes_of rfl rfl rfl rfl) σ) (pa_cons pe_str (pa_cons (pe_chain op_le op_le pe_int (pv 8) pe_int) pa_nil))))
    (pss_cons (ps_expr (pe_callS G_require (hr.mono (by decide)) rfl T.g_require T.F_require.kp T.b_require (fun σ => passAt (takes_of rfl rfl rfl rfl) σ) (pa_cons pe_str (pa_cons (pe_cmpR op_ge (pv 9) pe_int (nomark _)) pa_nil))))
    (pss_cons (ps_expr (pe_callS G_require (hr.mono (by decide)) rfl T.g_require T.F_require.kp T.b_require (fun σ => passAt (takes_of rfl rfl rfl rfl) σ) (pa_cons pe_str (pa_cons (pe_cmpR op_ge (pv 10) pe_int (nomark _)) pa_nil))))
    (pss_cons (ps_fld (pv 0) (pv 1) rfl)
    (pss_cons (ps_fld (pv 0) (pv 2) rfl)
    (pss_cons (ps_fld (pv 0) (pv 3) rfl)
    (pss_cons (ps_fld (pv 0) (pv 4) rfl)
    (pss_cons (ps_fld (pv 0) (pv 5) rfl)
    (pss_cons (ps_fld (pv 0) (pv 6) rfl)
    (pss_cons (ps_fld (pv 0) (pv 7) rfl)
    (pss_cons (ps_fld (pv 0) (pv 8) rfl)
    (pss_cons (ps_fld (pv 0) (pv 9) rfl)
    (pss_one (ps_fld (pv 0) (pv 10) rfl))))))))))))))))))))), ?_⟩
  obtain ⟨p, dx, q, se, sl, pa, co, wa, id, ro, re, tr, rfl, rfl, rfl, rfl, rfl, rfl, rfl, rfl, rfl, rfl, rfl, hp, kf, k⟩ := h
  unfold chkS at kf k
  walk_at "r"
  refine a2 ⟨_, _, rfl, rfl, by decide, fun e => ?_, fun e1 => ?_⟩
  · exact kf _ (ff_F e)
  rw [ff_T e1] at kf k
  walk_at "r"
  refine a2 ⟨_, _, rfl, rfl, by decide, fun e => ?_, fun e2 => ?_⟩
  · exact kf _ (ff_F e)
  rw [ff_T e2] at kf k
  walk_at "r"
  refine a2 ⟨_, _, rfl, rfl, by decide, fun e => ?_, fun e3 => ?_⟩
  · exact kf _ (ff_F e)
  rw [ff_T e3] at kf k
  walk_at "r"
  refine a2 ⟨_, _, rfl, rfl, by decide, fun e => ?_, fun e4 => ?_⟩
  · exact kf _ (ff_F e)
  rw [ff_T e4] at kf k
  walk_at "r"
  refine a2 ⟨_, _, rfl, rfl, by decide, fun e => ?_, fun e5 => ?_⟩
  · exact kf _ (ff_F e)
  rw [ff_T e5] at kf k
  walk_at "r"
  refine a2 ⟨_, _, rfl, rfl, by decide, fun e => ?_, fun e6 => ?_⟩
  · exact kf _ (ff_F e)
  rw [ff_T e6] at kf k
  walk_at "r"
  refine a2 ⟨_, _, rfl, rfl, by decide, fun e => ?_, fun e7 => ?_⟩
  · exact kf _ (ff_F e)
  rw [ff_T e7] at kf k
  walk_at "r"
  refine a2 ⟨_, _, rfl, rfl, by decide, fun e => ?_, fun e8 => ?_⟩
  · exact kf _ (ff_F e)
  rw [ff_T e8] at kf k
  walk_at "r"
  refine a2 ⟨_, _, rfl, rfl, by decide, fun e => ?_, fun e9 => ?_⟩
  · exact kf _ (ff_F e)
  rw [ff_T e9] at kf k
  walk_at "r"
  refine a2 ⟨_, _, rfl, rfl, by decide, fun e => ?_, fun e10 => ?_⟩
  · exact kf _ (ff_F e)
  rw [ff_T e10] at kf k
  walk_at "r"
  refine k rfl _ ?_ ?_
  · exact ⟨dx, by rw [upd_same, F_Settings_init]⟩
  exact (((((((((Fp.at_ (by simp)).trans (Fp.at_ (by simp))).trans (Fp.at_ (by simp))).trans (Fp.at_ (by simp))).trans (Fp.at_ (by simp))).trans (Fp.at_ (by simp))).trans (Fp.at_ (by simp))).trans (Fp.at_ (by simp))).trans (Fp.at_ (by simp))).trans (Fp.at_ (by simp))
/-! ### lists of settings -/
/-- the values of one Settings, as a list -/
structure SetV where
  (q se sl pa co wa id ro re tr : Int)
def SetV.chk (x : SetV) : List (Str × Bool) := chkS x.q x.se x.sl x.pa x.co x.wa x.id x.ro x.re x.tr
def SetIs (C : Addr) (H : Hp) (p : Addr) (x : SetV) : Prop := SetAt C H p x.q x.se x.sl x.pa x.co x.wa x.id x.ro x.re x.tr
def SetsAt (C : Addr) (H : Hp) (ps : List Addr) (xs : List SetV) : Prop := ps.length = xs.length ∧ ∀ (i : Nat) p x, ps[i]? = some p → xs[i]? = some x → SetIs C H p x
theorem SetsAt.fp {C : Addr} {H H1 : Hp} {fp : List Addr} {ps : List Addr} {xs : List SetV} (s : SetsAt C H ps xs) (f : Fp fp H H1) (n : ∀ p ∈ ps, p ∉ fp) : SetsAt C H1 ps xs :=
  ⟨s.1, fun i p x h1 h2 => (s.2 i p x h1 h2).fp f (n p (List.mem_of_getElem? h1))⟩
theorem SetsAt.snoc {C : Addr} {H : Hp} {ps : List Addr} {xs : List SetV} {p : Addr} {x : SetV} (s : SetsAt C H ps xs) (h : SetIs C H p x) : SetsAt C H (ps ++ [p]) (xs ++ [x]) := by
  refine ⟨by rw [List.length_append, List.length_append, s.1]; rfl, fun i p1 x1 h1 h2 => ?_⟩
  by_cases hi : i < ps.length
  · rw [List.getElem?_append_left hi] at h1
    rw [List.getElem?_append_left (by rw [← s.1]; exact hi)] at h2
    exact s.2 i p1 x1 h1 h2
  · rw [List.getElem?_append_right (by omega)] at h1
    rw [List.getElem?_append_right (by rw [← s.1]; omega)] at h2
    have e1 := (List.getElem?_eq_some_iff.mp h1).1
    rw [List.length_singleton] at e1
    have e2 : i - ps.length = 0 := by omega
    rw [e2] at h1
    rw [← s.1, e2] at h2
    have z1 : p = p1 := by simpa using h1
    have z2 : x = x1 := by simpa using h2
    subst z1 z2
    exact h
def sumB (xs : List SetV) : Int := (xs.map fun x => x.re + x.tr).sum
def sp_budget_sum (K : PySem.W.Frag) (a : Ads) : Sp := A2 fun d j H Q _ => ∃ (dl : Addr) (ps : List Addr) (xs : List SetV) (jb : Int), d = .ref dl ∧ j = .int jb ∧ H dl = some (.lst (ps.map V.ref)) ∧ SetsAt a.C_Settings H ps xs ∧ ps.length ≤ 1000 ∧
  ∀ H1, Fp [] H H1 → Q (.int (sumB xs + jb)) H1
/-- what Config asks, in its order -/
def chkC (xs : List SetV) (bu sz pe jb : Int) : List (Str × Bool) := [("devices", decide (1 ≤ (xs.length : Int) ∧ (xs.length : Int) ≤ 4)), ("buffers", decide (2 * (xs.length : Int) ≤ bu ∧ bu ≤ 256)), ("size", decide (1 ≤ sz ∧ sz ≤ 16)), ("period", decide (1 ≤ pe ∧ pe ≤ 64)), ("jobs", decide (1 ≤ jb)), ("budgets", decide (sumB xs + jb ≤ pe))]
def ConfAt (C : Addr) (H : Hp) (p dl : Addr) (ps : List Addr) (bu sz pe jb : Int) : Prop := (∃ dx, H p = some (.ins C dx (F_Config (.ref dl) (.int bu) (.int sz) (.int pe) (.int jb)))) ∧ H dl = some (.lst (ps.map V.ref))
def sp_Config_init (K : PySem.W.Frag) (a : Ads) : Sp := A6 fun s d xb xs_ xp xj H Q E => ∃ (p dx dl : Addr) (ps : List Addr) (xs : List SetV) (bu sz pe jb : Int), s = .ref p ∧ d = .ref dl ∧ xb = .int bu ∧ xs_ = .int sz ∧ xp = .int pe ∧ xj = .int jb ∧
  H p = some (.ins a.C_Config dx []) ∧ H dl = some (.lst (ps.map V.ref)) ∧ SetsAt a.C_Settings H ps xs ∧ ps.length ≤ 1000 ∧
  (∀ z, firstFail (chkC xs bu sz pe jb) = some z → ∀ d H1, Fp [] H H1 → H1 d = some (.xd [("setting", .str z)]) → E (.ref a.C_ConfigError) (some d) H1) ∧
  (firstFail (chkC xs bu sz pe jb) = none → ∀ dl2 H1, H dl2 = none → ConfAt a.C_Config H1 p dl2 ps bu sz pe jb → Fp [p] H H1 → Q .non H1)
theorem ok_budget_sum (T : Txt P w K mg base a) : FnOk P w K mg base (L2.CX P w) 1 a.f_budget_sum a.fd_budget_sum ["devices", "jobs"] (sp_budget_sum K a) := by
  refine T.F_budget_sum.okX sc_budget_sum (fun vs H Q E h => A2.len h) (fun cdv A outer s H vs Q E hr h => ?_)
  have hu := hu_of hr
  obtain ⟨v_devices, v_jobs, rfl, h⟩ := h
  refine ⟨_, (pss_one (ps_ret (pe_op op_add (pe_callB (cr_sum rfl) (by rfl) T.g_sum (by decide +kernel) (pa_cons (pe_lc (own := [("device", 2)]) (g := (gName 2)) (tt := tYes) (te := (tOp (rI0 fun i j => .int (i + j)) (tFld K (tVar 2) "receive") (tFld K (tVar 2) "transmit"))) rfl sc_budget_sum.nd (pi_list (pv 0)) (blkOk_by (N := ["devices", "jobs", "device"]) (sc := defScope s_budget_sum) (own := [("device", 2)]) (by decide +kernel)) (fun _ _ _ _ _ => by exact (pg_name (i := 2) sc_budget_sum.nd rfl (by first | exact Or.inl rfl | exact Or.inr rfl))) (fun _ _ _ _ _ => by exact pts_nil) (fun _ _ _ _ _ => by exact (pe_op op_add (pe_fld (pv 2) rfl) (pe_fld (pv 2) rfl)))) pa_nil)) (pv 1)))), ?_⟩
  obtain ⟨dl, ps, xs, jb, rfl, rfl, hd, hs, hz, k⟩ := h
  walk_at "r"
  refine lc_pure (xs := ps.map V.ref) (ys := (xs.map fun x => x.re + x.tr).map V.int) rfl (Or.inl (Or.inl hd)) (by simp [hs.1]) (by simp; omega) (fun E2 i x y H2 R hE hx hy e hR => ?_) fun E2 hE => ?_
  · obtain ⟨p, hp, rfl⟩ : ∃ p, ps[i]? = some p ∧ V.ref p = x := by rw [List.getElem?_map] at hx; simpa using hx
    obtain ⟨sv, hsv, rfl⟩ : ∃ sv, xs[i]? = some sv ∧ V.int (sv.re + sv.tr) = y := by rw [List.map_map, List.getElem?_map] at hy; simpa using hy
    obtain ⟨dx, ho⟩ := hs.2 i p sv hp hsv
    have npE : p ≠ E2 := ne_of_none ho hE
    refine ⟨rfl, ?_⟩
    subst e
    walk_at "r"
    exact hR
  · walk_at "r"
    refine c_sum (Or.inl (Or.inl upd_same)) ?_
    walk_at "r"
    exact k _ (Fp.new hE)
theorem ok_Config_init (T : Txt P w K mg base a) : FnOk P w K mg base (L2.CX P w) 4 a.f_Config_init a.fd_Config_init ["self", "devices", "buffers", "size", "period", "jobs"] (sp_Config_init K a) := by
  have G_require := ok_require T
  have G_budget_sum := ok_budget_sum T
  refine T.F_Config_init.ok (CX := L2.CX P w) sc_Config_init (fun vs H Q E h => A6.len h) (fun cdv A outer s H vs Q E hr h => ?_)
  have hu := hu_of hr
  obtain ⟨v_self, v_devices, v_buffers, v_size, v_period, v_jobs, rfl, h⟩ := h
  refine ⟨_, (pss_cons (ps_expr (pe_callS G_require (hr.mono (by decide)) rfl T.g_require T.F_require.kp T.b_require (fun σ => passAt (takes_of rfl rfl rfl rfl) σ) (pa_cons pe_str (pa_cons (pe_chain op_le op_le pe_int (pe_callB call_ln (by rfl) T.g_len (by decide +kernel) (pa_cons (pv 1) pa_nil)) pe_int) pa_nil))))
    (pss_cons (ps_expr (pe_callS G_require (hr.mono (by decide)) rfl T.g_require T.F_require.kp T.b_require (fun σ => passAt (takes_of rfl rfl rfl rfl) σ) (pa_cons pe_str (pa_cons (pe_chain op_le op_le (pe_op op_mul pe_int (pe_callB call_ln (by rfl) T.g_len (by decide +kernel) (pa_cons (pv 1) pa_nil))) (pv 2) pe_int) pa_nil))))
    (pss_cons (ps_expr (pe_callS G_require (hr.mono (by decide)) rfl T.g_require T.F_require.kp T.b_require (fun σ => passAt (takes_of rfl rfl rfl rfl) σ) (pa_cons pe_str (pa_cons (pe_chain op_le op_le pe_int (pv 3) pe_int) pa_nil))))
    (pss_cons (ps_expr (pe_callS G_require (hr.mono (by decide)) rfl T.g_require T.F_require.kp T.b_require (fun σ => passAt (takes_of rfl rfl rfl rfl) σ) (pa_cons pe_str (pa_cons (pe_chain op_le op_le pe_int (pv 4) pe_int) pa_nil))))
    (pss_cons (ps_expr (pe_callS G_require (hr.mono (by decide)) rfl T.g_require T.F_require.kp T.b_require (fun σ => passAt (takes_of rfl rfl rfl rfl) σ) (pa_cons pe_str (pa_cons (pe_cmpR op_ge (pv 5) pe_int (nomark _)) pa_nil))))
    (pss_cons (ps_expr (pe_callS G_require (hr.mono (by decide)) rfl T.g_require T.F_require.kp T.b_require (fun σ => passAt (takes_of rfl rfl rfl rfl) σ) (pa_cons pe_str (pa_cons (pe_cmpR op_le (pe_callS G_budget_sum (hr.mono (by decide)) rfl T.g_budget_sum T.F_budget_sum.kp T.b_budget_sum (fun σ => passAt (takes_of rfl rfl rfl rfl) σ) (pa_cons (pv 1) (pa_cons (pv 5) pa_nil))) (pv 4) (nomark _)) pa_nil))))
    (pss_cons (ps_fld (pv 0) (pe_callTy call_ls (by rfl) T.g_list (by decide +kernel) (pa_cons (pv 1) pa_nil)) rfl)
    (pss_cons (ps_fld (pv 0) (pv 2) rfl)
    (pss_cons (ps_fld (pv 0) (pv 3) rfl)
    (pss_cons (ps_fld (pv 0) (pv 4) rfl)
    (pss_one (ps_fld (pv 0) (pv 5) rfl)))))))))))), ?_⟩
  obtain ⟨p, dx, dl, ps, xs, bu, sz, pe, jb, rfl, rfl, rfl, rfl, rfl, rfl, hp, hd, hs, hz, kf, k⟩ := h
  unfold chkC at kf k
  have ln : ((ps.map V.ref).length : Int) = (xs.length : Int) := by rw [List.length_map, hs.1]
  walk_at "r"
  rw [ln]
  walk_at "r"
  refine a2 ⟨_, _, rfl, rfl, by decide, fun e d hd => ?_, fun e1 => ?_⟩
  · exact kf _ (ff_F e) d _ (Fp.new hd) upd_same
  rw [ff_T e1] at kf k
  walk_at "r"
  rw [ln]
  walk_at "r"
  refine a2 ⟨_, _, rfl, rfl, by decide, fun e d hd => ?_, fun e2 => ?_⟩
  · exact kf _ (ff_F e) d _ (Fp.new hd) upd_same
  rw [ff_T e2] at kf k
  walk_at "r"
  refine a2 ⟨_, _, rfl, rfl, by decide, fun e d hd => ?_, fun e3 => ?_⟩
  · exact kf _ (ff_F e) d _ (Fp.new hd) upd_same
  rw [ff_T e3] at kf k
  walk_at "r"
  refine a2 ⟨_, _, rfl, rfl, by decide, fun e d hd => ?_, fun e4 => ?_⟩
  · exact kf _ (ff_F e) d _ (Fp.new hd) upd_same
  rw [ff_T e4] at kf k
  walk_at "r"
  refine a2 ⟨_, _, rfl, rfl, by decide, fun e d hd => ?_, fun e5 => ?_⟩
  · exact kf _ (ff_F e) d _ (Fp.new hd) upd_same
  rw [ff_T e5] at kf k
  walk_at "r"
  refine a2 ⟨dl, ps, xs, jb, rfl, rfl, hd, hs, hz, fun H2 f2 => ?_⟩
  walk_at "r"
  refine a2 ⟨_, _, rfl, rfl, by decide, fun e d hd2 => ?_, fun e6 => ?_⟩
  · exact kf _ (ff_F e) d _ (f2.trans (Fp.new hd2)) upd_same
  rw [ff_T e6] at kf k
  have hd2 := f2 _ _ hd (by simp)
  have hp2 := f2 _ _ hp (by simp)
  walk_at "r"
  refine c_ls (Or.inl (Or.inl hd2)) fun dl2 hdl2 => ?_
  have nd : p ≠ dl2 := ne_of_none hp2 hdl2
  walk_at "r"
  refine k rfl dl2 _ (f2.free (by simp) hdl2) ⟨?_, ?_⟩ ?_
  · exact ⟨dx, by rw [upd_same, F_Config_init]⟩
  · rw [upd_ne nd.symm, upd_ne nd.symm, upd_ne nd.symm, upd_ne nd.symm, upd_ne nd.symm, upd_same]
  exact ((((((f2.mono (by simp)).trans (Fp.new hdl2)).trans (Fp.at_ (by simp))).trans (Fp.at_ (by simp))).trans (Fp.at_ (by simp))).trans (Fp.at_ (by simp))).trans (Fp.at_ (by simp))
end
end My
set_option Elab.async false
set_option maxRecDepth 100000
set_option maxHeartbeats 100000000
set_option linter.all false
namespace My
open PySem L2 Sx Rd
local macro_rules | `(tactic| walk_at "ne") => `(tactic| (first | assumption | exact Ne.symm (by assumption)))
local macro_rules | `(tactic| walk_at "hl") => `(tactic| (first | (with_reducible assumption) | exact upd_same | ((with_reducible refine' (upd_ne ?hne).trans ?hgo); (case hne => walk_at "ne"); (case hgo => walk_at "hl"))))
local macro_rules | `(tactic| walk_at "sq") => `(tactic| (first | (with_reducible assumption) | exact Or.inl (Or.inl (by walk_at "hl"))))
local macro_rules | `(tactic| walk_at "ar") => `(tactic| (first | omega | exact ⟨by omega, by omega⟩ | exact Or.inl ⟨by omega, by omega⟩ | exact Or.inr ⟨by omega, by omega⟩ | (show (0 : Int) < _; omega) | (show (0 : Int) < _ ∧ _ < (1073741824 : Int); omega)))
local macro_rules | `(tactic| walk_at "cls") => `(tactic| (first | exact Txt.cl_Settings (by assumption) | exact Txt.cl_Config (by assumption)))
local macro_rules | `(tactic| walk_at "noa") => `(tactic| (first | exact Txt.n_Settings_queue (by assumption) | exact Txt.n_Settings_sending (by assumption) | exact Txt.n_Settings_slots (by assumption) | exact Txt.n_Settings_pace (by assumption) | exact Txt.n_Settings_count_limit (by assumption) | exact Txt.n_Settings_wait (by assumption) | exact Txt.n_Settings_idle (by assumption) | exact Txt.n_Settings_room (by assumption) | exact Txt.n_Settings_receive (by assumption) | exact Txt.n_Settings_transmit (by assumption) | exact Txt.n_Config_devices (by assumption) | exact Txt.n_Config_buffers (by assumption) | exact Txt.n_Config_size (by assumption) | exact Txt.n_Config_period (by assumption) | exact Txt.n_Config_jobs (by assumption)))
local macro_rules | `(tactic| walk_at "lkp") => `(tactic| (first | (with_reducible exact F_Settings_queue_l) | (with_reducible exact F_Settings_sending_l) | (with_reducible exact F_Settings_slots_l) | (with_reducible exact F_Settings_pace_l) | (with_reducible exact F_Settings_count_limit_l) | (with_reducible exact F_Settings_wait_l) | (with_reducible exact F_Settings_idle_l) | (with_reducible exact F_Settings_room_l) | (with_reducible exact F_Settings_receive_l) | (with_reducible exact F_Settings_transmit_l) | (with_reducible exact F_Config_devices_l) | (with_reducible exact F_Config_buffers_l) | (with_reducible exact F_Config_size_l) | (with_reducible exact F_Config_period_l) | (with_reducible exact F_Config_jobs_l)))
local macro_rules | `(tactic| walk_at "ptf") => `(tactic| (first | (with_reducible exact F_Settings_queue_p) | (with_reducible exact F_Settings_sending_p) | (with_reducible exact F_Settings_slots_p) | (with_reducible exact F_Settings_pace_p) | (with_reducible exact F_Settings_count_limit_p) | (with_reducible exact F_Settings_wait_p) | (with_reducible exact F_Settings_idle_p) | (with_reducible exact F_Settings_room_p) | (with_reducible exact F_Settings_receive_p) | (with_reducible exact F_Settings_transmit_p) | (with_reducible exact F_Config_devices_p) | (with_reducible exact F_Config_buffers_p) | (with_reducible exact F_Config_size_p) | (with_reducible exact F_Config_period_p) | (with_reducible exact F_Config_jobs_p) | exact rfl))
local macro_rules | `(tactic| walk_at "lnF") => `(tactic| (first | (with_reducible exact F_Settings_len) | (with_reducible exact F_Config_len) | (refine PL.lt (n := 60) ?_ (by decide); (repeat refine PL.put ?_); exact PL.nil) | decide))
local macro_rules | `(tactic| walk_at "nol") => `(tactic| (first | fail))
local macro_rules | `(tactic| walk_at "r1") => `(tactic| (first
  | with_reducible refine s_seq ?_ | with_reducible refine s_asg ?_ | with_reducible refine g_name ?_ | with_reducible refine s_ret ?_ | with_reducible refine s_if ?_ | with_reducible refine s_drop ?_
  | with_reducible refine d_nx ?_ | with_reducible refine d_rt ?_ | with_reducible refine d_bk ?_ | with_reducible refine d_ct ?_ | with_reducible refine s_next ?_ | with_reducible refine s_retN ?_ | with_reducible refine s_cont ?_ | with_reducible refine s_break ?_
  | ((with_reducible refine' e_var ?hv ?_); (case hv => exact rfl))
  | with_reducible refine o_chC ?_ | ((with_reducible refine' o_chV ?hv ?_); (case hv => exact rfl))
  | with_reducible refine e_c ?_ | with_reducible refine e_op ?_ | with_reducible refine e_un ?_ | with_reducible refine o_I0 ?_ | with_reducible refine o_U ?_
  | ((with_reducible refine' o_I ?hc ?_); (case hc => walk_at "ar"))
  | ((with_reducible refine' o_eq ?hs ?_); (case hs => exact rfl))
  | ((with_reducible refine' o_ne ?hs ?_); (case hs => exact rfl))
  | ((with_reducible refine' o_ixL ?h1 ?h2 ?_); (case h1 => walk_at "sq"); (case h2 => first | exact rfl | exact atI_zero _ _))
  | with_reducible refine e_fld ?_ | with_reducible refine s_fld ?_ | with_reducible refine e_meth ?_ | with_reducible refine e_call ?_ | with_reducible refine e_make ?_
  | ((with_reducible refine' k_fld ?h1 ?h2 ?h3 ?h4 ?_); (case h1 => walk_at "hl"); (case h2 => walk_at "cls"); (case h3 => walk_at "noa"); (case h4 => walk_at "lkp"))
  | ((with_reducible refine' k_set ?h1 ?h2 ?h3 ?h4 ?h5 ?_); (case h1 => walk_at "hl"); (case h2 => walk_at "cls"); (case h3 => walk_at "noa"); (case h4 => walk_at "ptf"); (case h5 => walk_at "lnF"))
  | ((with_reducible refine' k_meth ?h1 ?h2 ?_); (case h1 => walk_at "hl"); (case h2 => walk_at "nol"))
  | with_reducible refine e_cb ?_ | with_reducible refine l_cons ?_ | with_reducible refine l_nil ?_ | with_reducible refine e_lst ?_ | with_reducible refine e_tup ?_
  | with_reducible refine e_bm ?_ | with_reducible refine e_bm0 ?_ | with_reducible refine e_not ?_ | with_reducible refine e_if ?_
  | with_reducible refine t_test ?_ | with_reducible refine t_B ?_ | with_reducible refine k_t ?_ | with_reducible refine t_and ?_ | with_reducible refine t_or ?_ | with_reducible refine t_not ?_
  | with_reducible refine e_chain ?_ | with_reducible refine s_raise ?_ | with_reducible refine e_sl ?_ | with_reducible refine p_no ?_ | with_reducible refine p_some ?_ | with_reducible refine g_sub ?_
  | ((with_reducible refine' c_ln ?h1 ?_); (case h1 => walk_at "sq"))
  | ((with_reducible refine' c_pop0 ?h1 ?h2 ?_); (case h1 => walk_at "hl"); (case h2 => omega))
  | ((with_reducible refine' k_ty ?h1 ?_); (case h1 => walk_at "sq"))
  | with_reducible refine c_isBool ?_ | with_reducible refine c_isInt ?_ | with_reducible refine c_isBoolN ?_
  | with_reducible refine e_xf ?_
  | ((with_reducible refine' k_xf ?h1 ?h2 ?_); (case h1 => walk_at "hl"); (case h2 => exact look_hit _ _ _))
  | with_reducible refine k_i ?_
  | ((with_reducible refine' o_slL ?h1 ?_); (case h1 => walk_at "sq"))
  | ((with_reducible refine' k_dget ?h1 ?h2 ?_); (case h1 => walk_at "hl"); (case h2 => with_reducible assumption))
  | with_reducible refine e_dget ?_ | with_reducible refine s_dput ?_ | with_reducible refine e_makeK ?_ | with_reducible refine g_cons ?_ | with_reducible refine g_nil ?_
  | with_reducible refine c_ab ?_ | with_reducible refine c_in ?_ | with_reducible refine c_mx ?_ | with_reducible refine c_mn ?_
  | with_reducible refine a1 ?_ | with_reducible refine a2 ?_ | with_reducible refine a3 ?_ | with_reducible refine a4 ?_ | with_reducible refine a5 ?_ | with_reducible refine a6 ?_ | with_reducible refine a0 ?_))
local macro_rules | `(tactic| walk_at "r") => `(tactic| (repeat walk_at "r1"))
section
variable {P : Program} {w : World} {K : PySem.W.Frag} {mg : Str → Option Value} {base : Heap} {a : Ads}
/-! ### the law's helpers -/
def namesL : List Str := ["queue", "sending", "slots", "pace", "count", "wait", "idle", "room", "receive", "transmit"]
def fldsI (x : SetV) : List Int := [x.q, x.se, x.sl, x.pa, x.co, x.wa, x.id, x.ro, x.re, x.tr]
def rngs (x : SetV) : List (Str × Int × Int × Int) := [("queue", x.q, 1, 16), ("sending", x.se, 1, 16), ("slots", x.sl, 1, 32), ("pace", x.pa, 1, 16), ("count", x.co, 1, x.q), ("wait", x.wa, 1, 32), ("idle", x.id, 1, 32), ("room", x.ro, 16, 64), ("receive", x.re, 1, 64), ("transmit", x.tr, 1, 64)]
def badE (e : Str × Int × Int × Int) : Bool := decide (e.2.1 < e.2.2.1) || decide (e.2.2.2 < e.2.1)
def firstDue : List (Str × Int × Int × Int) → Str
  | [] => ""
  | e :: r => if badE e = true then e.1 else firstDue r
theorem due_ff : ∀ l : List (Str × Int × Int × Int), firstDue l = (firstFail (l.map fun e => (e.1, decide (e.2.2.1 ≤ e.2.1 ∧ e.2.1 ≤ e.2.2.2)))).getD ""
  | [] => rfl
  | e :: r => by
    show (if badE e = true then e.1 else firstDue r) = (if decide (e.2.2.1 ≤ e.2.1 ∧ e.2.1 ≤ e.2.2.2) = true then firstFail (r.map _) else some e.1).getD ""
    by_cases h : e.2.2.1 ≤ e.2.1 ∧ e.2.1 ≤ e.2.2.2
    · have hb : ¬ badE e = true := by simp only [badE, Bool.or_eq_true, decide_eq_true_eq]; omega
      rw [if_neg hb, if_pos (decide_eq_true h)]
      exact due_ff r
    · have hb : badE e = true := by simp only [badE, Bool.or_eq_true, decide_eq_true_eq]; omega
      rw [if_pos hb, decide_eq_false h, if_neg Bool.false_ne_true]
      rfl
theorem due_chk {x : SetV} (h1 : x.re ≤ 64) (h2 : x.tr ≤ 64) : firstDue (rngs x) = (firstFail x.chk).getD "" := by
  rw [due_ff]
  have e1 : decide (1 ≤ x.re ∧ x.re ≤ 64) = decide (1 ≤ x.re) := decide_eq_decide.mpr ⟨fun z => z.1, fun z => ⟨z, h1⟩⟩
  have e2 : decide (1 ≤ x.tr ∧ x.tr ≤ 64) = decide (1 ≤ x.tr) := decide_eq_decide.mpr ⟨fun z => z.1, fun z => ⟨z, h2⟩⟩
  show (firstFail [("queue", decide (1 ≤ x.q ∧ x.q ≤ 16)), ("sending", decide (1 ≤ x.se ∧ x.se ≤ 16)), ("slots", decide (1 ≤ x.sl ∧ x.sl ≤ 32)), ("pace", decide (1 ≤ x.pa ∧ x.pa ≤ 16)), ("count", decide (1 ≤ x.co ∧ x.co ≤ x.q)), ("wait", decide (1 ≤ x.wa ∧ x.wa ≤ 32)), ("idle", decide (1 ≤ x.id ∧ x.id ≤ 32)), ("room", decide (16 ≤ x.ro ∧ x.ro ≤ 64)), ("receive", decide (1 ≤ x.re ∧ x.re ≤ 64)), ("transmit", decide (1 ≤ x.tr ∧ x.tr ≤ 64))]).getD "" = _
  rw [e1, e2]
  rfl
def VAt (H : Hp) (va : Addr) (x : SetV) : Prop := ∃ kvs : List (Key × V), H va = some (.dK kvs) ∧ ∀ (i : Nat) n y, namesL[i]? = some n → (fldsI x)[i]? = some y → valV kvs (Sum.inr n) = some (.int y)
theorem VAt.fp {H H1 : Hp} {va : Addr} {x : SetV} {fp : List Addr} (s : VAt H va x) (f : Fp fp H H1) (n : va ∉ fp) : VAt H1 va x := by
  obtain ⟨kvs, h, l⟩ := s
  exact ⟨kvs, f _ _ h n, l⟩
def sp_law_value (K : PySem.W.Frag) (a : Ads) : Sp := A3 fun s x y H Q _ => ∃ (st sl : Addr) (lo hi : Int), s = .ref st ∧ x = .int lo ∧ y = .int hi ∧ StAt H st sl ∧ lo ≤ hi ∧ hi - lo < 1000000 ∧
  ∀ r H1, lo - 1 ≤ r → r ≤ hi + 1 → StAt H1 st sl → Fp [st, sl] H H1 → Q (.int r) H1
def sp_law_settings_due (K : PySem.W.Frag) (a : Ads) : Sp := A1 fun v H Q _ => ∃ (va : Addr) (x : SetV), v = .ref va ∧ VAt H va x ∧ ∀ H1, Fp [] H H1 → Q (.str (firstDue (rngs x))) H1
def sp_law_fields (K : PySem.W.Frag) (a : Ads) : Sp := A1 fun v H Q _ => ∃ (p : Addr) (x : SetV), v = .ref p ∧ SetIs a.C_Settings H p x ∧ ∀ l H1, H l = none → H1 l = some (.lst ((fldsI x).map V.int)) → Fp [] H H1 → Q (.ref l) H1
def sp_law_settings (K : PySem.W.Frag) (a : Ads) : Sp := A1 fun v H Q _ => ∃ (va : Addr) (x : SetV), v = .ref va ∧ VAt H va x ∧ ∀ H1, Fp [] H H1 → Q (.str ((firstFail x.chk).getD "")) H1
theorem ok_law_value (T : Txt P w K mg base a) : FnOk P w K mg base (L2.CX P w) 2 a.f_law_value a.fd_law_value ["state", "least", "greatest"] (sp_law_value K a) := by
  have G_law_draw := ok_law_draw T
  refine T.F_law_value.okX sc_law_value (fun vs H Q E h => A3.len h) (fun cdv A outer s H vs Q E hr h => ?_)
  have hu := hu_of hr
  obtain ⟨v_state, v_least, v_greatest, rfl, h⟩ := h
  refine ⟨_, (pss_cons (ps_set (i := 3) sc_law_value.nd rfl (by first | exact Or.inl rfl | exact Or.inr rfl) (pe_callS G_law_draw (hr.mono (by decide)) rfl T.g_law_draw T.F_law_draw.kp T.b_law_draw (fun σ => passAt (takes_of rfl rfl rfl rfl) σ) (pa_cons (pv 0) (pa_cons pe_int pa_nil))))
    (pss_cons (ps_if (pt_cmpR op_eq (pv 3) pe_int (nomark _)) (pss_one (ps_ret (pv 1))) pss_nil)
    (pss_cons (ps_if (pt_cmpR op_eq (pv 3) pe_int (nomark _)) (pss_one (ps_ret (pv 2))) pss_nil)
    (pss_cons (ps_if (pt_up (PW.pt (pw_and (pt_cmpR op_eq (pv 3) pe_int (nomark _)) (pw_and1 (pt_cmpR op_eq (pe_callS G_law_draw (hr.mono (by decide)) rfl T.g_law_draw T.F_law_draw.kp T.b_law_draw (fun σ => passAt (takes_of rfl rfl rfl rfl) σ) (pa_cons (pv 0) (pa_cons pe_int pa_nil))) pe_int (nomark _)))))) (pss_one (ps_ret (pe_op op_sub (pv 1) pe_int))) pss_nil)
    (pss_cons (ps_if (pt_up (PW.pt (pw_and (pt_cmpR op_eq (pv 3) pe_int (nomark _)) (pw_and1 (pt_cmpR op_eq (pe_callS G_law_draw (hr.mono (by decide)) rfl T.g_law_draw T.F_law_draw.kp T.b_law_draw (fun σ => passAt (takes_of rfl rfl rfl rfl) σ) (pa_cons (pv 0) (pa_cons pe_int pa_nil))) pe_int (nomark _)))))) (pss_one (ps_ret (pe_op op_add (pv 2) pe_int))) pss_nil)
    (pss_one (ps_ret (pe_op op_add (pv 1) (pe_callS G_law_draw (hr.mono (by decide)) rfl T.g_law_draw T.F_law_draw.kp T.b_law_draw (fun σ => passAt (takes_of rfl rfl rfl rfl) σ) (pa_cons (pv 0) (pa_cons (pe_op op_add (pe_op op_sub (pv 2) (pv 1)) pe_int) pa_nil))))))))))), ?_⟩
  obtain ⟨st, sl, lo, hi, rfl, rfl, rfl, S, h1, h2, k⟩ := h
  walk_at "r"
  refine a2 ⟨st, sl, 12, rfl, rfl, S, by omega, by omega, fun r1 H1 q0 q1 S1 f1 => ?_⟩
  walk_at "r"
  refine if_d (fun c => ?_) (fun c => ?_)
  · walk_at "r"
    exact k _ _ (by omega) (by omega) S1 f1
  walk_at "r"
  refine if_d (fun c => ?_) (fun c => ?_)
  · walk_at "r"
    exact k _ _ (by omega) (by omega) S1 f1
  walk_at "r"
  refine t_up (fun _ H7 => StAt H7 st sl ∧ Fp [st, sl] H H7) ?_ fun c H2 ⟨S2, f2⟩ => ?_
  · walk_at "r"
    refine if_d (fun _ => ?_) (fun _ => ?_)
    · walk_at "r"
      refine a2 ⟨st, sl, 3, rfl, rfl, S1, by omega, by omega, fun r1 H2 q0 q1 S2 f2 => ?_⟩
      walk_at "r"
      exact ⟨S2, f1.trans f2⟩
    · exact ⟨S1, f1⟩
  refine if_b (fun _ => ?_) (fun _ => ?_)
  · walk_at "r"
    exact k _ _ (by omega) (by omega) S2 f2
  walk_at "r"
  refine t_up (fun _ H7 => StAt H7 st sl ∧ Fp [st, sl] H H7) ?_ fun c H3 ⟨S3, f3⟩ => ?_
  · walk_at "r"
    refine if_d (fun _ => ?_) (fun _ => ?_)
    · walk_at "r"
      refine a2 ⟨st, sl, 3, rfl, rfl, S2, by omega, by omega, fun r1 H3 q0 q1 S3 f3 => ?_⟩
      walk_at "r"
      exact ⟨S3, f2.trans f3⟩
    · exact ⟨S2, f2⟩
  refine if_b (fun _ => ?_) (fun _ => ?_)
  · walk_at "r"
    exact k _ _ (by omega) (by omega) S3 f3
  walk_at "r"
  refine a2 ⟨st, sl, _, rfl, rfl, S3, by omega, by omega, fun r1 H4 q0 q1 S4 f4 => ?_⟩
  walk_at "r"
  exact k _ _ (by omega) (by omega) S4 (f3.trans f4)
theorem ok_law_settings_due (T : Txt P w K mg base a) : FnOk P w K mg base (L2.CX P w) 1 a.f_law_settings_due a.fd_law_settings_due ["v"] (sp_law_settings_due K a) := by
  refine T.F_law_settings_due.okX sc_law_settings_due (fun vs H Q E h => A1.len h) (fun cdv A outer s H vs Q E hr h => ?_)
  have hu := hu_of hr
  obtain ⟨v_v, rfl, h⟩ := h
  refine ⟨_, (pss_cons (ps_set (i := 1) sc_law_settings_due.nd rfl (by first | exact Or.inl rfl | exact Or.inr rfl) (pe_lst (pa_cons (pe_tup (pa_cons pe_str (pa_cons pe_int (pa_cons pe_int pa_nil)))) (pa_cons (pe_tup (pa_cons pe_str (pa_cons pe_int (pa_cons pe_int pa_nil)))) (pa_cons (pe_tup (pa_cons pe_str (pa_cons pe_int (pa_cons pe_int pa_nil)))) (pa_cons (pe_tup (pa_cons pe_str (pa_cons pe_int (pa_cons pe_int pa_nil)))) (pa_cons (pe_tup (pa_cons pe_str (pa_cons pe_int (pa_cons (pe_dget hu (pv 0) pe_str (fun _ _ => rfl)) pa_nil)))) pa_nil)))))))
    (pss_cons (ps_set (i := 1) sc_law_settings_due.nd rfl (by first | exact Or.inl rfl | exact Or.inr rfl) (pe_op op_cat (pv 1) (pe_lst (pa_cons (pe_tup (pa_cons pe_str (pa_cons pe_int (pa_cons pe_int pa_nil)))) (pa_cons (pe_tup (pa_cons pe_str (pa_cons pe_int (pa_cons pe_int pa_nil)))) (pa_cons (pe_tup (pa_cons pe_str (pa_cons pe_int (pa_cons pe_int pa_nil)))) (pa_cons (pe_tup (pa_cons pe_str (pa_cons pe_int (pa_cons pe_int pa_nil)))) (pa_cons (pe_tup (pa_cons pe_str (pa_cons pe_int (pa_cons pe_int pa_nil)))) pa_nil))))))))
    (pss_cons (ps_for (passes_of rfl) rfl (pi_list (pv 1)) (pg_tup rfl (pgs_cons (pg_name (i := 2) sc_law_settings_due.nd rfl (by first | exact Or.inl rfl | exact Or.inr rfl)) (pgs_cons (pg_name (i := 3) sc_law_settings_due.nd rfl (by first | exact Or.inl rfl | exact Or.inr rfl)) (pgs_cons (pg_name (i := 4) sc_law_settings_due.nd rfl (by first | exact Or.inl rfl | exact Or.inr rfl)) pgs_nil)))) (pss_one (ps_if (PW.pt (pw_or (pt_cmpR op_lt (pe_dget hu (pv 0) (pv 2) (fun _ _ => rfl)) (pv 3) (nomark _)) (pw_or1 (pt_cmpR op_gt (pe_dget hu (pv 0) (pv 2) (fun _ _ => rfl)) (pv 4) (nomark _))))) (pss_one (ps_ret (pv 2))) pss_nil)))
    (pss_one (ps_ret pe_str))))), ?_⟩
  obtain ⟨va, x, rfl, V0, k⟩ := h
  have U0 : Obs H [] := Obs.nil
  have F0 : Fp [] H H := Fp.refl _ _
  obtain ⟨kvs, hk, hv⟩ := V0
  have hq : valV kvs (Sum.inr "queue") = some (.int x.q) := hv 0 _ _ rfl rfl
  walk_at "r"
  refine ⟨sz (by simp), fun t0 g0 => ?_⟩
  have U1 := U0.add (o := .tup [.str "queue", .int 1, .int 16]) g0
  have F1 := F0.trans (Fp.new (o := .tup [.str "queue", .int 1, .int 16]) g0)
  generalize upd _ t0 _ = H1 at U1 F1 ⊢
  walk_at "r"
  refine ⟨sz (by simp), fun t1 g1 => ?_⟩
  have U2 := U1.add (o := .tup [.str "sending", .int 1, .int 16]) g1
  have F2 := F1.trans (Fp.new (o := .tup [.str "sending", .int 1, .int 16]) g1)
  generalize upd _ t1 _ = H2 at U2 F2 ⊢
  walk_at "r"
  refine ⟨sz (by simp), fun t2 g2 => ?_⟩
  have U3 := U2.add (o := .tup [.str "slots", .int 1, .int 32]) g2
  have F3 := F2.trans (Fp.new (o := .tup [.str "slots", .int 1, .int 32]) g2)
  generalize upd _ t2 _ = H3 at U3 F3 ⊢
  walk_at "r"
  refine ⟨sz (by simp), fun t3 g3 => ?_⟩
  have U4 := U3.add (o := .tup [.str "pace", .int 1, .int 16]) g3
  have F4 := F3.trans (Fp.new (o := .tup [.str "pace", .int 1, .int 16]) g3)
  generalize upd _ t3 _ = H4 at U4 F4 ⊢
  walk_at "r"
  refine k_dget (F4 _ _ hk (by simp)) hq ?_
  walk_at "r"
  refine ⟨sz (by simp), fun t4 g4 => ?_⟩
  have U5 := U4.add (o := .tup [.str "count", .int 1, .int x.q]) g4
  have F5 := F4.trans (Fp.new (o := .tup [.str "count", .int 1, .int x.q]) g4)
  generalize upd _ t4 _ = H5 at U5 F5 ⊢
  walk_at "r"
  refine ⟨sz (by simp), fun l1 g5 => ?_⟩
  have U6 := U5.add (o := .lst [.ref t0, .ref t1, .ref t2, .ref t3, .ref t4]) g5
  have F6 := F5.trans (Fp.new (o := .lst [.ref t0, .ref t1, .ref t2, .ref t3, .ref t4]) g5)
  generalize upd _ l1 _ = H6 at U6 F6 ⊢
  walk_at "r"
  refine ⟨sz (by simp), fun t5 g6 => ?_⟩
  have U7 := U6.add (o := .tup [.str "wait", .int 1, .int 32]) g6
  have F7 := F6.trans (Fp.new (o := .tup [.str "wait", .int 1, .int 32]) g6)
  generalize upd _ t5 _ = H7 at U7 F7 ⊢
  walk_at "r"
  refine ⟨sz (by simp), fun t6 g7 => ?_⟩
  have U8 := U7.add (o := .tup [.str "idle", .int 1, .int 32]) g7
  have F8 := F7.trans (Fp.new (o := .tup [.str "idle", .int 1, .int 32]) g7)
  generalize upd _ t6 _ = H8 at U8 F8 ⊢
  walk_at "r"
  refine ⟨sz (by simp), fun t7 g8 => ?_⟩
  have U9 := U8.add (o := .tup [.str "room", .int 16, .int 64]) g8
  have F9 := F8.trans (Fp.new (o := .tup [.str "room", .int 16, .int 64]) g8)
  generalize upd _ t7 _ = H9 at U9 F9 ⊢
  walk_at "r"
  refine ⟨sz (by simp), fun t8 g9 => ?_⟩
  have U10 := U9.add (o := .tup [.str "receive", .int 1, .int 64]) g9
  have F10 := F9.trans (Fp.new (o := .tup [.str "receive", .int 1, .int 64]) g9)
  generalize upd _ t8 _ = H10 at U10 F10 ⊢
  walk_at "r"
  refine ⟨sz (by simp), fun t9 g10 => ?_⟩
  have U11 := U10.add (o := .tup [.str "transmit", .int 1, .int 64]) g10
  have F11 := F10.trans (Fp.new (o := .tup [.str "transmit", .int 1, .int 64]) g10)
  generalize upd _ t9 _ = H11 at U11 F11 ⊢
  walk_at "r"
  refine ⟨sz (by simp), fun l2 g11 => ?_⟩
  have U12 := U11.add (o := .lst [.ref t5, .ref t6, .ref t7, .ref t8, .ref t9]) g11
  have F12 := F11.trans (Fp.new (o := .lst [.ref t5, .ref t6, .ref t7, .ref t8, .ref t9]) g11)
  generalize upd _ l2 _ = H12 at U12 F12 ⊢
  refine o_cat (U12 (l1, .lst [.ref t0, .ref t1, .ref t2, .ref t3, .ref t4]) (by simp)) (U12 (l2, .lst [.ref t5, .ref t6, .ref t7, .ref t8, .ref t9]) (by simp)) (sz (by simp)) fun l3 g12 => ?_
  have e3 : upd H12 l3 (.lst ([.ref t0, .ref t1, .ref t2, .ref t3, .ref t4] ++ [.ref t5, .ref t6, .ref t7, .ref t8, .ref t9])) l3 = some (.lst ([t0, t1, t2, t3, t4, t5, t6, t7, t8, t9].map V.ref)) := upd_same
  have F13 := F12.trans (Fp.new (o := .lst ([.ref t0, .ref t1, .ref t2, .ref t3, .ref t4] ++ [.ref t5, .ref t6, .ref t7, .ref t8, .ref t9])) g12)
  have U13 := U12.fp0 (Fp.new (o := .lst ([.ref t0, .ref t1, .ref t2, .ref t3, .ref t4] ++ [.ref t5, .ref t6, .ref t7, .ref t8, .ref t9])) g12)
  generalize upd _ l3 _ = HH at U13 F13 e3 ⊢
  have tt : ∀ (i : Nat) t e, [t0, t1, t2, t3, t4, t5, t6, t7, t8, t9][i]? = some t → (rngs x)[i]? = some e → HH t = some (.tup [.str e.1, .int e.2.2.1, .int e.2.2.2]) := by
    intro i t e h1 h2
    match i, h1, h2 with
    | 0, h1, h2 => cases h1; cases h2; exact U13 (t0, .tup [.str "queue", .int 1, .int 16]) (by simp)
    | 1, h1, h2 => cases h1; cases h2; exact U13 (t1, .tup [.str "sending", .int 1, .int 16]) (by simp)
    | 2, h1, h2 => cases h1; cases h2; exact U13 (t2, .tup [.str "slots", .int 1, .int 32]) (by simp)
    | 3, h1, h2 => cases h1; cases h2; exact U13 (t3, .tup [.str "pace", .int 1, .int 16]) (by simp)
    | 4, h1, h2 => cases h1; cases h2; exact U13 (t4, .tup [.str "count", .int 1, .int x.q]) (by simp)
    | 5, h1, h2 => cases h1; cases h2; exact U13 (t5, .tup [.str "wait", .int 1, .int 32]) (by simp)
    | 6, h1, h2 => cases h1; cases h2; exact U13 (t6, .tup [.str "idle", .int 1, .int 32]) (by simp)
    | 7, h1, h2 => cases h1; cases h2; exact U13 (t7, .tup [.str "room", .int 16, .int 64]) (by simp)
    | 8, h1, h2 => cases h1; cases h2; exact U13 (t8, .tup [.str "receive", .int 1, .int 64]) (by simp)
    | 9, h1, h2 => cases h1; cases h2; exact U13 (t9, .tup [.str "transmit", .int 1, .int 64]) (by simp)
    | i + 10, h1, h2 => simp at h1
  have vv : ∀ (i : Nat) e, (rngs x)[i]? = some e → valV kvs (Sum.inr e.1) = some (.int e.2.1) := by
    intro i e h2
    match i, h2 with
    | 0, h2 => cases h2; exact hv 0 _ _ rfl rfl
    | 1, h2 => cases h2; exact hv 1 _ _ rfl rfl
    | 2, h2 => cases h2; exact hv 2 _ _ rfl rfl
    | 3, h2 => cases h2; exact hv 3 _ _ rfl rfl
    | 4, h2 => cases h2; exact hv 4 _ _ rfl rfl
    | 5, h2 => cases h2; exact hv 5 _ _ rfl rfl
    | 6, h2 => cases h2; exact hv 6 _ _ rfl rfl
    | 7, h2 => cases h2; exact hv 7 _ _ rfl rfl
    | 8, h2 => cases h2; exact hv 8 _ _ rfl rfl
    | 9, h2 => cases h2; exact hv 9 _ _ rfl rfl
    | i + 10, h2 => simp [rngs] at h2
  have hkH := F13 _ _ hk (by simp)
  clear U0 U1 U2 U3 U4 U5 U6 U7 U8 U9 U10 U11 U12 U13 F0 F1 F2 F3 F4 F5 F6 F7 F8 F9 F10 F11 F12
  walk_at "r"
  refine f_list (xs := [t0, t1, t2, t3, t4, t5, t6, t7, t8, t9].map V.ref) (fun i σ H1 => H1 = HH ∧ firstDue (rngs x) = firstDue ((rngs x).drop i) ∧ ∃ u1 u2 u3, σ = [some (.ref va), some (.ref l3), u1, u2, u3]) rfl (Or.inl (Or.inl e3)) ⟨rfl, rfl, _, _, _, rfl⟩ (fun i σ H1 _ ⟨e, _⟩ => e ▸ Or.inl (Or.inl e3)) ?_ ?_
  · rintro i y σ H1 hy ⟨rfl, hd, u1, u2, u3, rfl⟩
    obtain ⟨t, ht, rfl⟩ : ∃ t, [t0, t1, t2, t3, t4, t5, t6, t7, t8, t9][i]? = some t ∧ V.ref t = y := by rw [List.getElem?_map] at hy; simpa using hy
    have hi : i < (rngs x).length := (List.getElem?_eq_some_iff.mp ht).1
    have he : (rngs x)[i]? = some (rngs x)[i] := List.getElem?_eq_getElem hi
    have h1 := tt i t _ ht he
    have h2 := vv i _ he
    rw [List.drop_eq_getElem_cons hi] at hd
    generalize (rngs x)[i] = e at he h1 h2 hd
    refine g_tup (Or.inl (Or.inl h1)) rfl ?_
    walk_at "r"
    refine if_d (fun c => ?_) (fun c => ?_)
    · refine iteT ?_
      walk_at "r"
      rw [hd, show firstDue (e :: (rngs x).drop (i + 1)) = e.1 from if_pos (by simp [badE, c])] at k
      exact k _ F13
    · walk_at "r"
      refine if_d (fun c2 => ?_) (fun c2 => ?_)
      · walk_at "r"
        rw [hd, show firstDue (e :: (rngs x).drop (i + 1)) = e.1 from if_pos (by simp [badE, c2])] at k
        exact k _ F13
      · walk_at "r"
        exact ⟨rfl, hd.trans (if_neg (by simp [badE, c, c2])), _, _, _, rfl⟩
  · rintro σ H1 ⟨rfl, hd, u1, u2, u3, rfl⟩
    walk_at "r"
    rw [hd] at k
    exact k _ F13
theorem ok_law_fields (T : Txt P w K mg base a) : FnOk P w K mg base (L2.CX P w) 1 a.f_law_fields a.fd_law_fields ["one"] (sp_law_fields K a) := by
  refine T.F_law_fields.okX sc_law_fields (fun vs H Q E h => A1.len h) (fun cdv A outer s H vs Q E hr h => ?_)
  have hu := hu_of hr
  obtain ⟨v_one, rfl, h⟩ := h
  refine ⟨_, (pss_cons (ps_set (i := 1) sc_law_fields.nd rfl (by first | exact Or.inl rfl | exact Or.inr rfl) (pe_lst (pa_cons (pe_fld (pv 0) rfl) (pa_cons (pe_fld (pv 0) rfl) (pa_cons (pe_fld (pv 0) rfl) (pa_cons (pe_fld (pv 0) rfl) (pa_cons (pe_fld (pv 0) rfl) (pa_cons (pe_fld (pv 0) rfl) (pa_cons (pe_fld (pv 0) rfl) (pa_cons (pe_fld (pv 0) rfl) pa_nil))))))))))
    (pss_one (ps_ret (pe_op op_cat (pv 1) (pe_lst (pa_cons (pe_fld (pv 0) rfl) (pa_cons (pe_fld (pv 0) rfl) pa_nil))))))), ?_⟩
  obtain ⟨p, x, rfl, ⟨dx, ho⟩, k⟩ := h
  walk_at "r"
  refine ⟨sz (by simp), fun l1 g1 => ?_⟩
  have n1 := ne_of_none ho g1
  walk_at "r"
  refine ⟨sz (by simp), fun l2 g2 => ?_⟩
  have n2 : l1 ≠ l2 := ne_of_none upd_same g2
  refine o_cat (by rw [upd_ne n2, upd_same]) upd_same (sz (by simp)) fun l3 g3 => ?_
  walk_at "r"
  have f : Fp [] H _ := ((Fp.new g1).trans (Fp.new g2)).trans (Fp.new (o := .lst ([.int x.q, .int x.se, .int x.sl, .int x.pa, .int x.co, .int x.wa, .int x.id, .int x.ro] ++ [.int x.re, .int x.tr])) g3)
  exact k l3 _ ((Fp.new (fp := []) g1).free (by simp) ((Fp.new (fp := []) g2).free (by simp) g3)) upd_same f
end
end My
set_option Elab.async false
set_option maxRecDepth 100000
set_option maxHeartbeats 100000000
set_option linter.all false
namespace My
open PySem L2 Sx Rd
local macro_rules | `(tactic| walk_at "ne") => `(tactic| (first | assumption | exact Ne.symm (by assumption)))
local macro_rules | `(tactic| walk_at "hl") => `(tactic| (first | (with_reducible assumption) | exact upd_same | ((with_reducible refine' (upd_ne ?hne).trans ?hgo); (case hne => walk_at "ne"); (case hgo => walk_at "hl"))))
local macro_rules | `(tactic| walk_at "sq") => `(tactic| (first | (with_reducible assumption) | exact Or.inl (Or.inl (by walk_at "hl"))))
local macro_rules | `(tactic| walk_at "ar") => `(tactic| (first | omega | exact ⟨by omega, by omega⟩ | exact Or.inl ⟨by omega, by omega⟩ | exact Or.inr ⟨by omega, by omega⟩ | (show (0 : Int) < _; omega) | (show (0 : Int) < _ ∧ _ < (1073741824 : Int); omega)))
local macro_rules | `(tactic| walk_at "cls") => `(tactic| (first | exact Txt.cl_Settings (by assumption) | exact Txt.cl_Config (by assumption)))
local macro_rules | `(tactic| walk_at "noa") => `(tactic| (first | exact Txt.n_Settings_queue (by assumption) | exact Txt.n_Settings_sending (by assumption) | exact Txt.n_Settings_slots (by assumption) | exact Txt.n_Settings_pace (by assumption) | exact Txt.n_Settings_count_limit (by assumption) | exact Txt.n_Settings_wait (by assumption) | exact Txt.n_Settings_idle (by assumption) | exact Txt.n_Settings_room (by assumption) | exact Txt.n_Settings_receive (by assumption) | exact Txt.n_Settings_transmit (by assumption) | exact Txt.n_Config_devices (by assumption) | exact Txt.n_Config_buffers (by assumption) | exact Txt.n_Config_size (by assumption) | exact Txt.n_Config_period (by assumption) | exact Txt.n_Config_jobs (by assumption)))
local macro_rules | `(tactic| walk_at "lkp") => `(tactic| (first | (with_reducible exact F_Settings_queue_l) | (with_reducible exact F_Settings_sending_l) | (with_reducible exact F_Settings_slots_l) | (with_reducible exact F_Settings_pace_l) | (with_reducible exact F_Settings_count_limit_l) | (with_reducible exact F_Settings_wait_l) | (with_reducible exact F_Settings_idle_l) | (with_reducible exact F_Settings_room_l) | (with_reducible exact F_Settings_receive_l) | (with_reducible exact F_Settings_transmit_l) | (with_reducible exact F_Config_devices_l) | (with_reducible exact F_Config_buffers_l) | (with_reducible exact F_Config_size_l) | (with_reducible exact F_Config_period_l) | (with_reducible exact F_Config_jobs_l)))
local macro_rules | `(tactic| walk_at "ptf") => `(tactic| (first | (with_reducible exact F_Settings_queue_p) | (with_reducible exact F_Settings_sending_p) | (with_reducible exact F_Settings_slots_p) | (with_reducible exact F_Settings_pace_p) | (with_reducible exact F_Settings_count_limit_p) | (with_reducible exact F_Settings_wait_p) | (with_reducible exact F_Settings_idle_p) | (with_reducible exact F_Settings_room_p) | (with_reducible exact F_Settings_receive_p) | (with_reducible exact F_Settings_transmit_p) | (with_reducible exact F_Config_devices_p) | (with_reducible exact F_Config_buffers_p) | (with_reducible exact F_Config_size_p) | (with_reducible exact F_Config_period_p) | (with_reducible exact F_Config_jobs_p) | exact rfl))
local macro_rules | `(tactic| walk_at "lnF") => `(tactic| (first | (with_reducible exact F_Settings_len) | (with_reducible exact F_Config_len) | (refine PL.lt (n := 60) ?_ (by decide); (repeat refine PL.put ?_); exact PL.nil) | decide))
local macro_rules | `(tactic| walk_at "nol") => `(tactic| (first | fail))
local macro_rules | `(tactic| walk_at "r1") => `(tactic| (first
  | with_reducible refine s_seq ?_ | with_reducible refine s_asg ?_ | with_reducible refine g_name ?_ | with_reducible refine s_ret ?_ | with_reducible refine s_if ?_ | with_reducible refine s_drop ?_
  | with_reducible refine d_nx ?_ | with_reducible refine d_rt ?_ | with_reducible refine d_bk ?_ | with_reducible refine d_ct ?_ | with_reducible refine s_next ?_ | with_reducible refine s_retN ?_ | with_reducible refine s_cont ?_ | with_reducible refine s_break ?_
  | ((with_reducible refine' e_var ?hv ?_); (case hv => exact rfl))
  | with_reducible refine o_chC ?_ | ((with_reducible refine' o_chV ?hv ?_); (case hv => exact rfl))
  | with_reducible refine e_c ?_ | with_reducible refine e_op ?_ | with_reducible refine e_un ?_ | with_reducible refine o_I0 ?_ | with_reducible refine o_U ?_
  | ((with_reducible refine' o_I ?hc ?_); (case hc => walk_at "ar"))
  | ((with_reducible refine' o_eq ?hs ?_); (case hs => exact rfl))
  | ((with_reducible refine' o_ne ?hs ?_); (case hs => exact rfl))
  | ((with_reducible refine' o_ixL ?h1 ?h2 ?_); (case h1 => walk_at "sq"); (case h2 => first | exact rfl | exact atI_zero _ _))
  | with_reducible refine e_fld ?_ | with_reducible refine s_fld ?_ | with_reducible refine e_meth ?_ | with_reducible refine e_call ?_ | with_reducible refine e_make ?_
  | ((with_reducible refine' k_fld ?h1 ?h2 ?h3 ?h4 ?_); (case h1 => walk_at "hl"); (case h2 => walk_at "cls"); (case h3 => walk_at "noa"); (case h4 => walk_at "lkp"))
  | ((with_reducible refine' k_set ?h1 ?h2 ?h3 ?h4 ?h5 ?_); (case h1 => walk_at "hl"); (case h2 => walk_at "cls"); (case h3 => walk_at "noa"); (case h4 => walk_at "ptf"); (case h5 => walk_at "lnF"))
  | ((with_reducible refine' k_meth ?h1 ?h2 ?_); (case h1 => walk_at "hl"); (case h2 => walk_at "nol"))
  | with_reducible refine e_cb ?_ | with_reducible refine l_cons ?_ | with_reducible refine l_nil ?_ | with_reducible refine e_lst ?_ | with_reducible refine e_tup ?_
  | with_reducible refine e_bm ?_ | with_reducible refine e_bm0 ?_ | with_reducible refine e_not ?_ | with_reducible refine e_if ?_
  | with_reducible refine t_test ?_ | with_reducible refine t_B ?_ | with_reducible refine k_t ?_ | with_reducible refine t_and ?_ | with_reducible refine t_or ?_ | with_reducible refine t_not ?_
  | with_reducible refine e_chain ?_ | with_reducible refine s_raise ?_ | with_reducible refine e_sl ?_ | with_reducible refine p_no ?_ | with_reducible refine p_some ?_ | with_reducible refine g_sub ?_
  | ((with_reducible refine' c_ln ?h1 ?_); (case h1 => walk_at "sq"))
  | ((with_reducible refine' c_pop0 ?h1 ?h2 ?_); (case h1 => walk_at "hl"); (case h2 => omega))
  | ((with_reducible refine' k_ty ?h1 ?_); (case h1 => walk_at "sq"))
  | with_reducible refine c_isBool ?_ | with_reducible refine c_isInt ?_ | with_reducible refine c_isBoolN ?_
  | with_reducible refine e_xf ?_
  | ((with_reducible refine' k_xf ?h1 ?h2 ?_); (case h1 => walk_at "hl"); (case h2 => exact look_hit _ _ _))
  | with_reducible refine k_i ?_
  | ((with_reducible refine' o_slL ?h1 ?_); (case h1 => walk_at "sq"))
  | ((with_reducible refine' k_dget ?h1 ?h2 ?_); (case h1 => walk_at "hl"); (case h2 => with_reducible assumption))
  | with_reducible refine e_dget ?_ | with_reducible refine s_dput ?_ | with_reducible refine e_makeK ?_ | with_reducible refine g_cons ?_ | with_reducible refine g_nil ?_
  | with_reducible refine c_ab ?_ | with_reducible refine c_in ?_ | with_reducible refine c_mx ?_ | with_reducible refine c_mn ?_
  | with_reducible refine a1 ?_ | with_reducible refine a2 ?_ | with_reducible refine a3 ?_ | with_reducible refine a4 ?_ | with_reducible refine a5 ?_ | with_reducible refine a6 ?_ | with_reducible refine a0 ?_))
local macro_rules | `(tactic| walk_at "r") => `(tactic| (repeat walk_at "r1"))
section
variable {P : Program} {w : World} {K : PySem.W.Frag} {mg : Str → Option Value} {base : Heap} {a : Ads}
theorem ok_law_settings (T : Txt P w K mg base a) : FnOk P w K mg base (L2.CX P w) 6 a.f_law_settings a.fd_law_settings ["v"] (sp_law_settings K a) := by
  have G_Settings_init := ok_Settings_init T
  have G_law_fields := ok_law_fields T
  refine T.F_law_settings.okX sc_law_settings (fun vs H Q E h => A1.len h) (fun cdv A outer s H vs Q E hr h => ?_)
  have hu := hu_of hr
  obtain ⟨v_v, rfl, h⟩ := h
  refine ⟨_, (pss_cons (ps_try_as (i := 2) (tb := fun W1 => (tAsg (tMakeKS a.C_Settings 10 (sp_Settings_init K a) (gv_Settings_init_0) (WE W1) (tCons (tDGet (tVar 0) (tC (.str "queue"))) (tCons (tDGet (tVar 0) (tC (.str "sending"))) (tCons (tDGet (tVar 0) (tC (.str "slots"))) (tCons (tDGet (tVar 0) (tC (.str "pace"))) (tCons (tDGet (tVar 0) (tC (.str "count"))) (tCons (tDGet (tVar 0) (tC (.str "wait"))) (tCons (tDGet (tVar 0) (tC (.str "idle"))) (tCons (tDGet (tVar 0) (tC (.str "room"))) (tCons (tDGet (tVar 0) (tC (.str "receive"))) (tCons (tDGet (tVar 0) (tC (.str "transmit"))) tNil))))))))))) (gName 1))) (ts := fun ae cls de => (tSeq (tIfS (tOr (tNot (tB (tCB (rIsED K a.C_ConfigError ae cls de) (tCons (tVar 2) (tCons (tC (.ref a.C_TickringsError)) tNil))))) (tNot (tB (tCB (rIsED K a.C_ConfigError ae cls de) (tCons (tVar 2) (tCons (tC (.ty "ValueError")) tNil)))))) (tRet (tC (.str "wrong"))) tNext) (tRet (tXf ae cls de a.C_ConfigError "setting" (tVar 2))))) (Wout := (fun cls d _ H1 => E cls d H1)) rfl rfl sc_law_settings.nd rfl rfl ⟨rfl, by decide, Or.inl T.e_ConfigError.g⟩ (takes_of rfl rfl rfl rfl)
      (fun W1 pn xe tk1 po1 => by exact (pss_one (ps_set (i := 1) sc_law_settings.nd rfl (by first | exact Or.inl rfl | exact Or.inr rfl) (pe_makeKS (ks := ["queue", "sending", "slots", "pace", "count", "wait", "idle", "room", "receive", "transmit"]) T.mk_Settings G_Settings_init (hr.mono (by decide)) rfl T.g_Settings T.kb_Settings_init_0 (fun σ => passAt tk1 σ) (pk_cons (pe_dget hu (pv 0) pe_str (fun _ _ => rfl)) (pk_cons (pe_dget hu (pv 0) pe_str (fun _ _ => rfl)) (pk_cons (pe_dget hu (pv 0) pe_str (fun _ _ => rfl)) (pk_cons (pe_dget hu (pv 0) pe_str (fun _ _ => rfl)) (pk_cons (pe_dget hu (pv 0) pe_str (fun _ _ => rfl)) (pk_cons (pe_dget hu (pv 0) pe_str (fun _ _ => rfl)) (pk_cons (pe_dget hu (pv 0) pe_str (fun _ _ => rfl)) (pk_cons (pe_dget hu (pv 0) pe_str (fun _ _ => rfl)) (pk_cons (pe_dget hu (pv 0) pe_str (fun _ _ => rfl)) (pk_cons (pe_dget hu (pv 0) pe_str (fun _ _ => rfl)) pk_nil))))))))))))))
      (fun ae oe cls de pn hz hf => by exact (pss_cons (ps_if (PW.pt (pw_or (pt_not (pt_val (pe_callB (call_isED T.e_ConfigError.isc hz hf) (by rfl) T.g_isinstance (by decide +kernel) (pa_cons (pv 2) (pa_cons (pe_glob (v := .ref a.C_TickringsError) rfl T.g_TickringsError rfl) pa_nil))))) (pw_or1 (pt_not (pt_val (pe_callB (call_isED T.e_ConfigError.isc hz hf) (by rfl) T.g_isinstance (by decide +kernel) (pa_cons (pv 2) (pa_cons (pe_bltn (v := .ty "ValueError") rfl T.g_ValueError (by decide +kernel) rfl) pa_nil)))))))) (pss_one (ps_ret pe_str)) pss_nil)
    (pss_one (ps_ret (pe_xf T.e_ConfigError.xf T.e_ConfigError.nof hz hf (pv 2)))))))
    (pss_cons (ps_set (i := 3) sc_law_settings.nd rfl (by first | exact Or.inl rfl | exact Or.inr rfl) (pe_callS G_law_fields (hr.mono (by decide)) rfl T.g_law_fields T.F_law_fields.kp T.b_law_fields (fun σ => passAt (takes_of rfl rfl rfl rfl) σ) (pa_cons (pv 1) pa_nil)))
    (pss_cons (ps_set (i := 4) sc_law_settings.nd rfl (by first | exact Or.inl rfl | exact Or.inr rfl) (pe_lst (pa_cons pe_str (pa_cons pe_str (pa_cons pe_str (pa_cons pe_str (pa_cons pe_str (pa_cons pe_str (pa_cons pe_str (pa_cons pe_str (pa_cons pe_str (pa_cons pe_str pa_nil))))))))))))
    (pss_cons (ps_if (pt_cmpR (op_neD hr.units) (pv 3) (pe_lc (own := [("name", 5)]) (g := (gName 5)) (tt := tYes) (te := (tDGet (tVar 0) (tVar 5))) rfl sc_law_settings.nd (pi_list (pv 4)) (blkOk_by (N := ["v", "made", "e", "fields", "names", "name"]) (sc := defScope s_law_settings) (own := [("name", 5)]) (by decide +kernel)) (fun _ _ _ _ _ => by exact (pg_name (i := 5) sc_law_settings.nd rfl (by first | exact Or.inl rfl | exact Or.inr rfl))) (fun _ _ _ _ _ => by exact pts_nil) (fun _ _ _ _ _ => by exact (pe_dget hu (pv 0) (pv 5) (fun _ _ => rfl)))) (nomark _)) (pss_one (ps_ret pe_str)) pss_nil)
    (pss_one (ps_ret pe_str)))))), ?_⟩
  obtain ⟨va, x, rfl, ⟨kvs, hk, hv⟩, k⟩ := h
  have h0 : valV kvs (Sum.inr "queue") = some (.int x.q) := hv 0 _ _ rfl rfl
  have h1 : valV kvs (Sum.inr "sending") = some (.int x.se) := hv 1 _ _ rfl rfl
  have h2 : valV kvs (Sum.inr "slots") = some (.int x.sl) := hv 2 _ _ rfl rfl
  have h3 : valV kvs (Sum.inr "pace") = some (.int x.pa) := hv 3 _ _ rfl rfl
  have h4 : valV kvs (Sum.inr "count") = some (.int x.co) := hv 4 _ _ rfl rfl
  have h5 : valV kvs (Sum.inr "wait") = some (.int x.wa) := hv 5 _ _ rfl rfl
  have h6 : valV kvs (Sum.inr "idle") = some (.int x.id) := hv 6 _ _ rfl rfl
  have h7 : valV kvs (Sum.inr "room") = some (.int x.ro) := hv 7 _ _ rfl rfl
  have h8 : valV kvs (Sum.inr "receive") = some (.int x.re) := hv 8 _ _ rfl rfl
  have h9 : valV kvs (Sum.inr "transmit") = some (.int x.tr) := hv 9 _ _ rfl rfl
  refine s_seq ?_
  walk_at "r"
  refine ⟨rfl, fun p dx np ndx nedx => ?_⟩
  have g1 : upd (upd H dx (.own p)) p (.ins a.C_Settings dx []) p = some (.ins a.C_Settings dx []) := upd_same
  have f1 : Fp [] H (upd (upd H dx (.own p)) p (.ins a.C_Settings dx [])) := (Fp.new ndx).trans (Fp.new (by rw [upd_ne nedx.symm]; exact np))
  generalize upd (upd H dx (.own p)) p (.ins a.C_Settings dx []) = H1 at g1 f1 ⊢
  refine a11 ⟨p, dx, _, _, _, _, _, _, _, _, _, _, rfl, rfl, rfl, rfl, rfl, rfl, rfl, rfl, rfl, rfl, rfl, g1, fun z hz d hd => ?_, fun hz H2 S2 f2 => ⟨rfl, ?_⟩⟩
  · refine w_as T.e_ConfigError.exm fun ae hae => ?_
    walk_at "r"
    refine c_isED upd_same T.is_ConfigError_TickringsError ?_
    walk_at "r"
    refine iteF ?_
    walk_at "r"
    refine c_isEDty upd_same T.is_ConfigError_ValueError ?_
    walk_at "r"
    refine iteF ?_
    walk_at "r"
    have e : (firstFail x.chk).getD "" = z := by rw [show firstFail x.chk = some z from hz]; rfl
    rw [e] at k
    exact k _ (f1.trans (Fp.new hd))
  · have f12 : Fp [] H H2 := Fp.drop (fp := [p]) ((f1.mono (by simp)).trans f2) fun z hz => by
      rcases List.mem_singleton.mp hz with rfl
      exact .inr np
    walk_at "r"
    refine a1 ⟨p, x, rfl, S2, fun l H3 hl gl f3 => ?_⟩
    walk_at "r"
    refine ⟨sz (by simp), fun nl hnl => ?_⟩
    have f4 : Fp [] H3 (upd H3 nl (.lst (namesL.map V.str))) := Fp.new hnl
    have gnl : upd H3 nl (.lst (namesL.map V.str)) nl = some (.lst (namesL.map V.str)) := upd_same
    have gl4 := f4 _ _ gl (by simp)
    have f5 := (f12.trans f3).trans f4
    have hk4 := f5 _ _ hk (by simp)
    show gName _ _ _ (upd H3 nl (.lst (namesL.map V.str))) _
    generalize upd H3 nl (.lst (namesL.map V.str)) = H4 at gnl gl4 f5 hk4 ⊢
    walk_at "r"
    refine lc_pure (xs := namesL.map V.str) (ys := (fldsI x).map V.int) rfl (Or.inl (Or.inl gnl)) rfl (by decide) (fun E2 i u y H5 R hE hx hy e hR => ?_) fun E2 hE => ?_
    · obtain ⟨n, hn, rfl⟩ : ∃ n, namesL[i]? = some n ∧ V.str n = u := by rw [List.getElem?_map] at hx; simpa using hx
      obtain ⟨w', hw, rfl⟩ : ∃ w', (fldsI x)[i]? = some w' ∧ V.int w' = y := by rw [List.getElem?_map] at hy; simpa using hy
      have hl := hv i n w' hn hw
      have nv : va ≠ E2 := ne_of_none hk4 hE
      refine ⟨rfl, ?_⟩
      subst e
      walk_at "r"
      exact hR
    · have ne : l ≠ E2 := ne_of_none gl4 hE
      refine o_neL (xs := (fldsI x).map V.int) (Or.inl (Or.inl (by rw [upd_ne ne]; exact gl4))) (Or.inl (Or.inl upd_same)) (flat_ints _) ?_
      walk_at "r"
      refine iteF ?_
      walk_at "r"
      have e : (firstFail x.chk).getD "" = "" := by rw [show firstFail x.chk = none from hz]; rfl
      rw [e] at k
      exact k _ (f5.trans (Fp.new hE))
end
end My
set_option Elab.async false
set_option maxRecDepth 100000
set_option maxHeartbeats 100000000
set_option linter.all false
namespace My
open PySem L2 Sx Rd
local macro_rules | `(tactic| walk_at "ne") => `(tactic| (first | assumption | exact Ne.symm (by assumption)))
local macro_rules | `(tactic| walk_at "hl") => `(tactic| (first | (with_reducible assumption) | exact upd_same | ((with_reducible refine' (upd_ne ?hne).trans ?hgo); (case hne => walk_at "ne"); (case hgo => walk_at "hl"))))
local macro_rules | `(tactic| walk_at "sq") => `(tactic| (first | (with_reducible assumption) | exact Or.inl (Or.inl (by walk_at "hl"))))
local macro_rules | `(tactic| walk_at "ar") => `(tactic| (first | omega | exact ⟨by omega, by omega⟩ | exact Or.inl ⟨by omega, by omega⟩ | exact Or.inr ⟨by omega, by omega⟩ | (show (0 : Int) < _; omega) | (show (0 : Int) < _ ∧ _ < (1073741824 : Int); omega)))
local macro_rules | `(tactic| walk_at "cls") => `(tactic| (first | exact Txt.cl_Settings (by assumption) | exact Txt.cl_Config (by assumption)))
local macro_rules | `(tactic| walk_at "noa") => `(tactic| (first | exact Txt.n_Settings_queue (by assumption) | exact Txt.n_Settings_sending (by assumption) | exact Txt.n_Settings_slots (by assumption) | exact Txt.n_Settings_pace (by assumption) | exact Txt.n_Settings_count_limit (by assumption) | exact Txt.n_Settings_wait (by assumption) | exact Txt.n_Settings_idle (by assumption) | exact Txt.n_Settings_room (by assumption) | exact Txt.n_Settings_receive (by assumption) | exact Txt.n_Settings_transmit (by assumption) | exact Txt.n_Config_devices (by assumption) | exact Txt.n_Config_buffers (by assumption) | exact Txt.n_Config_size (by assumption) | exact Txt.n_Config_period (by assumption) | exact Txt.n_Config_jobs (by assumption)))
local macro_rules | `(tactic| walk_at "lkp") => `(tactic| (first | (with_reducible exact F_Settings_queue_l) | (with_reducible exact F_Settings_sending_l) | (with_reducible exact F_Settings_slots_l) | (with_reducible exact F_Settings_pace_l) | (with_reducible exact F_Settings_count_limit_l) | (with_reducible exact F_Settings_wait_l) | (with_reducible exact F_Settings_idle_l) | (with_reducible exact F_Settings_room_l) | (with_reducible exact F_Settings_receive_l) | (with_reducible exact F_Settings_transmit_l) | (with_reducible exact F_Config_devices_l) | (with_reducible exact F_Config_buffers_l) | (with_reducible exact F_Config_size_l) | (with_reducible exact F_Config_period_l) | (with_reducible exact F_Config_jobs_l)))
local macro_rules | `(tactic| walk_at "ptf") => `(tactic| (first | (with_reducible exact F_Settings_queue_p) | (with_reducible exact F_Settings_sending_p) | (with_reducible exact F_Settings_slots_p) | (with_reducible exact F_Settings_pace_p) | (with_reducible exact F_Settings_count_limit_p) | (with_reducible exact F_Settings_wait_p) | (with_reducible exact F_Settings_idle_p) | (with_reducible exact F_Settings_room_p) | (with_reducible exact F_Settings_receive_p) | (with_reducible exact F_Settings_transmit_p) | (with_reducible exact F_Config_devices_p) | (with_reducible exact F_Config_buffers_p) | (with_reducible exact F_Config_size_p) | (with_reducible exact F_Config_period_p) | (with_reducible exact F_Config_jobs_p) | exact rfl))
local macro_rules | `(tactic| walk_at "lnF") => `(tactic| (first | (with_reducible exact F_Settings_len) | (with_reducible exact F_Config_len) | (refine PL.lt (n := 60) ?_ (by decide); (repeat refine PL.put ?_); exact PL.nil) | decide))
local macro_rules | `(tactic| walk_at "nol") => `(tactic| (first | fail))
local macro_rules | `(tactic| walk_at "r1") => `(tactic| (first
  | with_reducible refine s_seq ?_ | with_reducible refine s_asg ?_ | with_reducible refine g_name ?_ | with_reducible refine s_ret ?_ | with_reducible refine s_if ?_ | with_reducible refine s_drop ?_
  | with_reducible refine d_nx ?_ | with_reducible refine d_rt ?_ | with_reducible refine d_bk ?_ | with_reducible refine d_ct ?_ | with_reducible refine s_next ?_ | with_reducible refine s_retN ?_ | with_reducible refine s_cont ?_ | with_reducible refine s_break ?_
  | ((with_reducible refine' e_var ?hv ?_); (case hv => exact rfl))
  | with_reducible refine o_chC ?_ | ((with_reducible refine' o_chV ?hv ?_); (case hv => exact rfl))
  | with_reducible refine e_c ?_ | with_reducible refine e_op ?_ | with_reducible refine e_un ?_ | with_reducible refine o_I0 ?_ | with_reducible refine o_U ?_
  | ((with_reducible refine' o_I ?hc ?_); (case hc => walk_at "ar"))
  | ((with_reducible refine' o_eq ?hs ?_); (case hs => exact rfl))
  | ((with_reducible refine' o_ne ?hs ?_); (case hs => exact rfl))
  | ((with_reducible refine' o_ixL ?h1 ?h2 ?_); (case h1 => walk_at "sq"); (case h2 => first | exact rfl | exact atI_zero _ _))
  | with_reducible refine e_fld ?_ | with_reducible refine s_fld ?_ | with_reducible refine e_meth ?_ | with_reducible refine e_call ?_ | with_reducible refine e_make ?_
  | ((with_reducible refine' k_fld ?h1 ?h2 ?h3 ?h4 ?_); (case h1 => walk_at "hl"); (case h2 => walk_at "cls"); (case h3 => walk_at "noa"); (case h4 => walk_at "lkp"))
  | ((with_reducible refine' k_set ?h1 ?h2 ?h3 ?h4 ?h5 ?_); (case h1 => walk_at "hl"); (case h2 => walk_at "cls"); (case h3 => walk_at "noa"); (case h4 => walk_at "ptf"); (case h5 => walk_at "lnF"))
  | ((with_reducible refine' k_meth ?h1 ?h2 ?_); (case h1 => walk_at "hl"); (case h2 => walk_at "nol"))
  | with_reducible refine e_cb ?_ | with_reducible refine l_cons ?_ | with_reducible refine l_nil ?_ | with_reducible refine e_lst ?_ | with_reducible refine e_tup ?_
  | with_reducible refine e_bm ?_ | with_reducible refine e_bm0 ?_ | with_reducible refine e_not ?_ | with_reducible refine e_if ?_
  | with_reducible refine t_test ?_ | with_reducible refine t_B ?_ | with_reducible refine k_t ?_ | with_reducible refine t_and ?_ | with_reducible refine t_or ?_ | with_reducible refine t_not ?_
  | with_reducible refine e_chain ?_ | with_reducible refine s_raise ?_ | with_reducible refine e_sl ?_ | with_reducible refine p_no ?_ | with_reducible refine p_some ?_ | with_reducible refine g_sub ?_
  | ((with_reducible refine' c_ln ?h1 ?_); (case h1 => walk_at "sq"))
  | ((with_reducible refine' c_pop0 ?h1 ?h2 ?_); (case h1 => walk_at "hl"); (case h2 => omega))
  | ((with_reducible refine' k_ty ?h1 ?_); (case h1 => walk_at "sq"))
  | with_reducible refine c_isBool ?_ | with_reducible refine c_isInt ?_ | with_reducible refine c_isBoolN ?_
  | with_reducible refine e_xf ?_
  | ((with_reducible refine' k_xf ?h1 ?h2 ?_); (case h1 => walk_at "hl"); (case h2 => exact look_hit _ _ _))
  | with_reducible refine k_i ?_
  | ((with_reducible refine' o_slL ?h1 ?_); (case h1 => walk_at "sq"))
  | ((with_reducible refine' k_dget ?h1 ?h2 ?_); (case h1 => walk_at "hl"); (case h2 => with_reducible assumption))
  | with_reducible refine e_dget ?_ | with_reducible refine s_dput ?_ | with_reducible refine e_makeK ?_ | with_reducible refine g_cons ?_ | with_reducible refine g_nil ?_
  | with_reducible refine c_ab ?_ | with_reducible refine c_in ?_ | with_reducible refine c_mx ?_ | with_reducible refine c_mn ?_
  | with_reducible refine a1 ?_ | with_reducible refine a2 ?_ | with_reducible refine a3 ?_ | with_reducible refine a4 ?_ | with_reducible refine a5 ?_ | with_reducible refine a6 ?_ | with_reducible refine a0 ?_))
local macro_rules | `(tactic| walk_at "r") => `(tactic| (repeat walk_at "r1"))
section
variable {P : Program} {w : World} {K : PySem.W.Frag} {mg : Str → Option Value} {base : Heap} {a : Ads}
def sp_law_config_due (K : PySem.W.Frag) (a : Ads) : Sp := A5 fun d b z p j H Q _ => ∃ (dl : Addr) (ps : List Addr) (xs : List SetV) (bu sz pe jb : Int), d = .ref dl ∧ b = .int bu ∧ z = .int sz ∧ p = .int pe ∧ j = .int jb ∧ H dl = some (.lst (ps.map V.ref)) ∧ SetsAt a.C_Settings H ps xs ∧ ps.length ≤ 1000 ∧
  ∀ H1, Fp [] H H1 → Q (.str ((firstFail (chkC xs bu sz pe jb)).getD "")) H1
def sp_law_config_outcome (K : PySem.W.Frag) (a : Ads) : Sp := A5 fun d b z p j H Q _ => ∃ (dl : Addr) (ps : List Addr) (xs : List SetV) (bu sz pe jb : Int), d = .ref dl ∧ b = .int bu ∧ z = .int sz ∧ p = .int pe ∧ j = .int jb ∧ H dl = some (.lst (ps.map V.ref)) ∧ SetsAt a.C_Settings H ps xs ∧ ps.length ≤ 1000 ∧
  ∀ H1, Fp [] H H1 → Q (.str ((firstFail (chkC xs bu sz pe jb)).getD "")) H1
theorem ok_law_config_due (T : Txt P w K mg base a) : FnOk P w K mg base (L2.CX P w) 1 a.f_law_config_due a.fd_law_config_due ["devices", "buffers", "size", "period", "jobs"] (sp_law_config_due K a) := by
  refine T.F_law_config_due.okX sc_law_config_due (fun vs H Q E h => A5.len h) (fun cdv A outer s H vs Q E hr h => ?_)
  have hu := hu_of hr
  obtain ⟨v_devices, v_buffers, v_size, v_period, v_jobs, rfl, h⟩ := h
  refine ⟨_, (pss_cons (ps_if (PW.pt (pw_or (pt_cmpR op_lt (pe_callB call_ln (by rfl) T.g_len (by decide +kernel) (pa_cons (pv 0) pa_nil)) pe_int (nomark _)) (pw_or1 (pt_cmpR op_gt (pe_callB call_ln (by rfl) T.g_len (by decide +kernel) (pa_cons (pv 0) pa_nil)) pe_int (nomark _))))) (pss_one (ps_ret pe_str)) pss_nil)
    (pss_cons (ps_if (PW.pt (pw_or (pt_cmpR op_lt (pv 1) (pe_op op_mul pe_int (pe_callB call_ln (by rfl) T.g_len (by decide +kernel) (pa_cons (pv 0) pa_nil))) (nomark _)) (pw_or1 (pt_cmpR op_gt (pv 1) pe_int (nomark _))))) (pss_one (ps_ret pe_str)) pss_nil)
    (pss_cons (ps_if (PW.pt (pw_or (pt_cmpR op_lt (pv 2) pe_int (nomark _)) (pw_or1 (pt_cmpR op_gt (pv 2) pe_int (nomark _))))) (pss_one (ps_ret pe_str)) pss_nil)
    (pss_cons (ps_if (PW.pt (pw_or (pt_cmpR op_lt (pv 3) pe_int (nomark _)) (pw_or1 (pt_cmpR op_gt (pv 3) pe_int (nomark _))))) (pss_one (ps_ret pe_str)) pss_nil)
    (pss_cons (ps_if (pt_cmpR op_lt (pv 4) pe_int (nomark _)) (pss_one (ps_ret pe_str)) pss_nil)
    (pss_cons (ps_if (pt_cmpR op_gt (pe_op op_add (pv 4) (pe_callB (cr_sum rfl) (by rfl) T.g_sum (by decide +kernel) (pa_cons (pe_lc (own := [("device", 5)]) (g := (gName 5)) (tt := tYes) (te := (tOp (rI0 fun i j => .int (i + j)) (tFld K (tVar 5) "receive") (tFld K (tVar 5) "transmit"))) rfl sc_law_config_due.nd (pi_list (pv 0)) (blkOk_by (N := ["devices", "buffers", "size", "period", "jobs", "device"]) (sc := defScope s_law_config_due) (own := [("device", 5)]) (by decide +kernel)) (fun _ _ _ _ _ => by exact (pg_name (i := 5) sc_law_config_due.nd rfl (by first | exact Or.inl rfl | exact Or.inr rfl))) (fun _ _ _ _ _ => by exact pts_nil) (fun _ _ _ _ _ => by exact (pe_op op_add (pe_fld (pv 5) rfl) (pe_fld (pv 5) rfl)))) pa_nil))) (pv 3) (nomark _)) (pss_one (ps_ret pe_str)) pss_nil)
    (pss_one (ps_ret pe_str)))))))), ?_⟩
  obtain ⟨dl, ps, xs, bu, sz_, pe, jb, rfl, rfl, rfl, rfl, rfl, hd, hs, hz, k⟩ := h
  have ln : ((ps.map V.ref).length : Int) = (xs.length : Int) := by rw [List.length_map, hs.1]
  unfold chkC at k
  walk_at "r"
  rw [ln]
  refine if_d (fun c => ?_) (fun c => ?_)
  · refine iteT ?_
    walk_at "r"
    rw [ff_F (decide_eq_false (by omega))] at k
    exact k _ (Fp.refl _ _)
  walk_at "r"
  rw [ln]
  refine if_d (fun c2 => ?_) (fun c2 => ?_)
  · walk_at "r"
    rw [ff_F (decide_eq_false (by omega))] at k
    exact k _ (Fp.refl _ _)
  rw [ff_T (decide_eq_true (by omega))] at k
  walk_at "r"
  rw [ln]
  walk_at "r"
  refine if_d (fun c => ?_) (fun c => ?_)
  · refine iteT ?_
    walk_at "r"
    rw [ff_F (decide_eq_false (by omega))] at k
    exact k _ (Fp.refl _ _)
  walk_at "r"
  refine if_d (fun c2 => ?_) (fun c2 => ?_)
  · walk_at "r"
    rw [ff_F (decide_eq_false (by omega))] at k
    exact k _ (Fp.refl _ _)
  rw [ff_T (decide_eq_true (by omega))] at k
  walk_at "r"
  refine if_d (fun c => ?_) (fun c => ?_)
  · refine iteT ?_
    walk_at "r"
    rw [ff_F (decide_eq_false (by omega))] at k
    exact k _ (Fp.refl _ _)
  walk_at "r"
  refine if_d (fun c2 => ?_) (fun c2 => ?_)
  · walk_at "r"
    rw [ff_F (decide_eq_false (by omega))] at k
    exact k _ (Fp.refl _ _)
  rw [ff_T (decide_eq_true (by omega))] at k
  walk_at "r"
  refine if_d (fun c => ?_) (fun c => ?_)
  · refine iteT ?_
    walk_at "r"
    rw [ff_F (decide_eq_false (by omega))] at k
    exact k _ (Fp.refl _ _)
  walk_at "r"
  refine if_d (fun c2 => ?_) (fun c2 => ?_)
  · walk_at "r"
    rw [ff_F (decide_eq_false (by omega))] at k
    exact k _ (Fp.refl _ _)
  rw [ff_T (decide_eq_true (by omega))] at k
  walk_at "r"
  refine if_d (fun c => ?_) (fun c => ?_)
  · walk_at "r"
    rw [ff_F (decide_eq_false (by omega))] at k
    exact k _ (Fp.refl _ _)
  rw [ff_T (decide_eq_true (by omega))] at k
  walk_at "r"
  refine lc_pure (xs := ps.map V.ref) (ys := (xs.map fun x => x.re + x.tr).map V.int) rfl (Or.inl (Or.inl hd)) (by simp [hs.1]) (by simp; omega) (fun E2 i x y H2 R hE hx hy e hR => ?_) fun E2 hE => ?_
  · obtain ⟨p, hp, rfl⟩ : ∃ p, ps[i]? = some p ∧ V.ref p = x := by rw [List.getElem?_map] at hx; simpa using hx
    obtain ⟨sv, hsv, rfl⟩ : ∃ sv, xs[i]? = some sv ∧ V.int (sv.re + sv.tr) = y := by rw [List.map_map, List.getElem?_map] at hy; simpa using hy
    obtain ⟨dx, ho⟩ := hs.2 i p sv hp hsv
    have npE : p ≠ E2 := ne_of_none ho hE
    refine ⟨rfl, ?_⟩
    subst e
    walk_at "r"
    exact hR
  · walk_at "r"
    refine c_sum (Or.inl (Or.inl upd_same)) ?_
    walk_at "r"
    have es : (xs.map fun x => x.re + x.tr).sum = sumB xs := rfl
    rw [es]
    refine if_d (fun c => ?_) (fun c => ?_)
    · walk_at "r"
      rw [ff_F (decide_eq_false (by omega))] at k
      exact k _ (Fp.new hE)
    · walk_at "r"
      rw [ff_T (decide_eq_true (by omega))] at k
      exact k _ (Fp.new hE)
end
end My
set_option Elab.async false
set_option maxRecDepth 100000
set_option maxHeartbeats 100000000
set_option linter.all false
namespace My
open PySem L2 Sx Rd
local macro_rules | `(tactic| walk_at "ne") => `(tactic| (first | assumption | exact Ne.symm (by assumption)))
local macro_rules | `(tactic| walk_at "hl") => `(tactic| (first | (with_reducible assumption) | exact upd_same | ((with_reducible refine' (upd_ne ?hne).trans ?hgo); (case hne => walk_at "ne"); (case hgo => walk_at "hl"))))
local macro_rules | `(tactic| walk_at "sq") => `(tactic| (first | (with_reducible assumption) | exact Or.inl (Or.inl (by walk_at "hl"))))
local macro_rules | `(tactic| walk_at "ar") => `(tactic| (first | omega | exact ⟨by omega, by omega⟩ | exact Or.inl ⟨by omega, by omega⟩ | exact Or.inr ⟨by omega, by omega⟩ | (show (0 : Int) < _; omega) | (show (0 : Int) < _ ∧ _ < (1073741824 : Int); omega)))
local macro_rules | `(tactic| walk_at "cls") => `(tactic| (first | exact Txt.cl_Settings (by assumption) | exact Txt.cl_Config (by assumption)))
local macro_rules | `(tactic| walk_at "noa") => `(tactic| (first | exact Txt.n_Settings_queue (by assumption) | exact Txt.n_Settings_sending (by assumption) | exact Txt.n_Settings_slots (by assumption) | exact Txt.n_Settings_pace (by assumption) | exact Txt.n_Settings_count_limit (by assumption) | exact Txt.n_Settings_wait (by assumption) | exact Txt.n_Settings_idle (by assumption) | exact Txt.n_Settings_room (by assumption) | exact Txt.n_Settings_receive (by assumption) | exact Txt.n_Settings_transmit (by assumption) | exact Txt.n_Config_devices (by assumption) | exact Txt.n_Config_buffers (by assumption) | exact Txt.n_Config_size (by assumption) | exact Txt.n_Config_period (by assumption) | exact Txt.n_Config_jobs (by assumption)))
local macro_rules | `(tactic| walk_at "lkp") => `(tactic| (first | (with_reducible exact F_Settings_queue_l) | (with_reducible exact F_Settings_sending_l) | (with_reducible exact F_Settings_slots_l) | (with_reducible exact F_Settings_pace_l) | (with_reducible exact F_Settings_count_limit_l) | (with_reducible exact F_Settings_wait_l) | (with_reducible exact F_Settings_idle_l) | (with_reducible exact F_Settings_room_l) | (with_reducible exact F_Settings_receive_l) | (with_reducible exact F_Settings_transmit_l) | (with_reducible exact F_Config_devices_l) | (with_reducible exact F_Config_buffers_l) | (with_reducible exact F_Config_size_l) | (with_reducible exact F_Config_period_l) | (with_reducible exact F_Config_jobs_l)))
local macro_rules | `(tactic| walk_at "ptf") => `(tactic| (first | (with_reducible exact F_Settings_queue_p) | (with_reducible exact F_Settings_sending_p) | (with_reducible exact F_Settings_slots_p) | (with_reducible exact F_Settings_pace_p) | (with_reducible exact F_Settings_count_limit_p) | (with_reducible exact F_Settings_wait_p) | (with_reducible exact F_Settings_idle_p) | (with_reducible exact F_Settings_room_p) | (with_reducible exact F_Settings_receive_p) | (with_reducible exact F_Settings_transmit_p) | (with_reducible exact F_Config_devices_p) | (with_reducible exact F_Config_buffers_p) | (with_reducible exact F_Config_size_p) | (with_reducible exact F_Config_period_p) | (with_reducible exact F_Config_jobs_p) | exact rfl))
local macro_rules | `(tactic| walk_at "lnF") => `(tactic| (first | (with_reducible exact F_Settings_len) | (with_reducible exact F_Config_len) | (refine PL.lt (n := 60) ?_ (by decide); (repeat refine PL.put ?_); exact PL.nil) | decide))
local macro_rules | `(tactic| walk_at "nol") => `(tactic| (first | fail))
local macro_rules | `(tactic| walk_at "r1") => `(tactic| (first
  | with_reducible refine s_seq ?_ | with_reducible refine s_asg ?_ | with_reducible refine g_name ?_ | with_reducible refine s_ret ?_ | with_reducible refine s_if ?_ | with_reducible refine s_drop ?_
  | with_reducible refine d_nx ?_ | with_reducible refine d_rt ?_ | with_reducible refine d_bk ?_ | with_reducible refine d_ct ?_ | with_reducible refine s_next ?_ | with_reducible refine s_retN ?_ | with_reducible refine s_cont ?_ | with_reducible refine s_break ?_
  | ((with_reducible refine' e_var ?hv ?_); (case hv => exact rfl))
  | with_reducible refine o_chC ?_ | ((with_reducible refine' o_chV ?hv ?_); (case hv => exact rfl))
  | with_reducible refine e_c ?_ | with_reducible refine e_op ?_ | with_reducible refine e_un ?_ | with_reducible refine o_I0 ?_ | with_reducible refine o_U ?_
  | ((with_reducible refine' o_I ?hc ?_); (case hc => walk_at "ar"))
  | ((with_reducible refine' o_eq ?hs ?_); (case hs => exact rfl))
  | ((with_reducible refine' o_ne ?hs ?_); (case hs => exact rfl))
  | ((with_reducible refine' o_ixL ?h1 ?h2 ?_); (case h1 => walk_at "sq"); (case h2 => first | exact rfl | exact atI_zero _ _))
  | with_reducible refine e_fld ?_ | with_reducible refine s_fld ?_ | with_reducible refine e_meth ?_ | with_reducible refine e_call ?_ | with_reducible refine e_make ?_
  | ((with_reducible refine' k_fld ?h1 ?h2 ?h3 ?h4 ?_); (case h1 => walk_at "hl"); (case h2 => walk_at "cls"); (case h3 => walk_at "noa"); (case h4 => walk_at "lkp"))
  | ((with_reducible refine' k_set ?h1 ?h2 ?h3 ?h4 ?h5 ?_); (case h1 => walk_at "hl"); (case h2 => walk_at "cls"); (case h3 => walk_at "noa"); (case h4 => walk_at "ptf"); (case h5 => walk_at "lnF"))
  | ((with_reducible refine' k_meth ?h1 ?h2 ?_); (case h1 => walk_at "hl"); (case h2 => walk_at "nol"))
  | with_reducible refine e_cb ?_ | with_reducible refine l_cons ?_ | with_reducible refine l_nil ?_ | with_reducible refine e_lst ?_ | with_reducible refine e_tup ?_
  | with_reducible refine e_bm ?_ | with_reducible refine e_bm0 ?_ | with_reducible refine e_not ?_ | with_reducible refine e_if ?_
  | with_reducible refine t_test ?_ | with_reducible refine t_B ?_ | with_reducible refine k_t ?_ | with_reducible refine t_and ?_ | with_reducible refine t_or ?_ | with_reducible refine t_not ?_
  | with_reducible refine e_chain ?_ | with_reducible refine s_raise ?_ | with_reducible refine e_sl ?_ | with_reducible refine p_no ?_ | with_reducible refine p_some ?_ | with_reducible refine g_sub ?_
  | ((with_reducible refine' c_ln ?h1 ?_); (case h1 => walk_at "sq"))
  | ((with_reducible refine' c_pop0 ?h1 ?h2 ?_); (case h1 => walk_at "hl"); (case h2 => omega))
  | ((with_reducible refine' k_ty ?h1 ?_); (case h1 => walk_at "sq"))
  | with_reducible refine c_isBool ?_ | with_reducible refine c_isInt ?_ | with_reducible refine c_isBoolN ?_
  | with_reducible refine e_xf ?_
  | ((with_reducible refine' k_xf ?h1 ?h2 ?_); (case h1 => walk_at "hl"); (case h2 => exact look_hit _ _ _))
  | with_reducible refine k_i ?_
  | ((with_reducible refine' o_slL ?h1 ?_); (case h1 => walk_at "sq"))
  | ((with_reducible refine' k_dget ?h1 ?h2 ?_); (case h1 => walk_at "hl"); (case h2 => with_reducible assumption))
  | with_reducible refine e_dget ?_ | with_reducible refine s_dput ?_ | with_reducible refine e_makeK ?_ | with_reducible refine g_cons ?_ | with_reducible refine g_nil ?_
  | with_reducible refine c_ab ?_ | with_reducible refine c_in ?_ | with_reducible refine c_mx ?_ | with_reducible refine c_mn ?_
  | with_reducible refine a1 ?_ | with_reducible refine a2 ?_ | with_reducible refine a3 ?_ | with_reducible refine a4 ?_ | with_reducible refine a5 ?_ | with_reducible refine a6 ?_ | with_reducible refine a0 ?_))
local macro_rules | `(tactic| walk_at "r") => `(tactic| (repeat walk_at "r1"))
section
variable {P : Program} {w : World} {K : PySem.W.Frag} {mg : Str → Option Value} {base : Heap} {a : Ads}
theorem ff_def : firstFail (chkS 4 4 2 1 1 1 4 16 1 1) = none := by decide
theorem ok_law_config_outcome (T : Txt P w K mg base a) : FnOk P w K mg base (L2.CX P w) 6 a.f_law_config_outcome a.fd_law_config_outcome ["devices", "buffers", "size", "period", "jobs"] (sp_law_config_outcome K a) := by
  have G_Config_init := ok_Config_init T
  have G_Settings_init := ok_Settings_init T
  have G_law_fields := ok_law_fields T
  refine T.F_law_config_outcome.okX sc_law_config_outcome (fun vs H Q E h => A5.len h) (fun cdv A outer s H vs Q E hr h => ?_)
  have hu := hu_of hr
  obtain ⟨v_devices, v_buffers, v_size, v_period, v_jobs, rfl, h⟩ := h
  refine ⟨_, (pss_cons (ps_try_as (i := 7) (tb := fun W1 => (tSeq (tAsg (tCB (rLs K) (tCons (tVar 0) tNil)) (gName 5)) (tSeq (tAsg (tMakeKS a.C_Config 5 (sp_Config_init K a) (gv_Config_init_1) (WE W1) (tCons (tVar 5) (tCons (tVar 1) (tCons (tVar 2) (tCons (tVar 3) (tCons (tVar 4) tNil)))))) (gName 6)) (tDrop (tBM K "list" rAppend (tVar 5) (tCons (tMakeKS a.C_Settings 0 (sp_Settings_init K a) (gv_Settings_init_2) (WE W1) tNil) tNil)))))) (ts := fun ae cls de => (tRet (tXf ae cls de a.C_ConfigError "setting" (tVar 7)))) (Wout := (fun cls d _ H1 => E cls d H1)) rfl rfl sc_law_config_outcome.nd rfl rfl ⟨rfl, by decide, Or.inl T.e_ConfigError.g⟩ (takes_of rfl rfl rfl rfl)
      (fun W1 pn xe tk1 po1 => by exact (pss_cons (ps_set (i := 5) sc_law_config_outcome.nd rfl (by first | exact Or.inl rfl | exact Or.inr rfl) (pe_callTy call_ls (by rfl) T.g_list (by decide +kernel) (pa_cons (pv 0) pa_nil)))
    (pss_cons (ps_set (i := 6) sc_law_config_outcome.nd rfl (by first | exact Or.inl rfl | exact Or.inr rfl) (pe_makeKS (ks := ["devices", "buffers", "size", "period", "jobs"]) T.mk_Config G_Config_init (hr.mono (by decide)) rfl T.g_Config T.kb_Config_init_1 (fun σ => passAt tk1 σ) (pk_cons (pv 5) (pk_cons (pv 1) (pk_cons (pv 2) (pk_cons (pv 3) (pk_cons (pv 4) pk_nil)))))))
    (pss_one (ps_expr (pe_bm PySem.F.plainAttrs_list PySem.F.slot_list_append PySem.F.type_list_append mt_append (pv 5) (pa_cons (pe_makeKS (ks := []) T.mk_Settings G_Settings_init (hr.mono (by decide)) rfl T.g_Settings T.kb_Settings_init_2 (fun σ => passAt tk1 σ) pk_nil) pa_nil)))))))
      (fun ae oe cls de pn hz hf => by exact (pss_one (ps_ret (pe_xf T.e_ConfigError.xf T.e_ConfigError.nof hz hf (pv 7))))))
    (pss_cons (ps_if (pt_cmpR (op_neD hr.units) (pe_lst (pa_cons (pe_fld (pv 6) rfl) (pa_cons (pe_fld (pv 6) rfl) (pa_cons (pe_fld (pv 6) rfl) (pa_cons (pe_fld (pv 6) rfl) pa_nil))))) (pe_lst (pa_cons (pv 1) (pa_cons (pv 2) (pa_cons (pv 3) (pa_cons (pv 4) pa_nil))))) (nomark _)) (pss_one (ps_ret pe_str)) pss_nil)
    (pss_cons (ps_if (pt_cmpR op_ne (pe_callB call_ln (by rfl) T.g_len (by decide +kernel) (pa_cons (pe_fld (pv 6) rfl) pa_nil)) (pe_callB call_ln (by rfl) T.g_len (by decide +kernel) (pa_cons (pv 0) pa_nil)) (nomark _)) (pss_one (ps_ret pe_str)) pss_nil)
    (pss_cons (ps_for (passes_of rfl) rfl (pi_range1 rfl T.g_range (pa_cons (pe_callB call_ln (by rfl) T.g_len (by decide +kernel) (pa_cons (pv 0) pa_nil)) pa_nil)) (pg_name (i := 8) sc_law_config_outcome.nd rfl (by first | exact Or.inl rfl | exact Or.inr rfl)) (pss_one (ps_if (pt_cmpR (op_neD hr.units) (pe_callS G_law_fields (hr.mono (by decide)) rfl T.g_law_fields T.F_law_fields.kp T.b_law_fields (fun σ => passAt (takes_of rfl rfl rfl rfl) σ) (pa_cons (pe_ix ix_list (pe_fld (pv 6) rfl) (pv 8) (fun _ _ => rfl)) pa_nil)) (pe_callS G_law_fields (hr.mono (by decide)) rfl T.g_law_fields T.F_law_fields.kp T.b_law_fields (fun σ => passAt (takes_of rfl rfl rfl rfl) σ) (pa_cons (pe_ix ix_list (pv 0) (pv 8) (fun _ _ => rfl)) pa_nil)) (nomark _)) (pss_one (ps_ret pe_str)) pss_nil)))
    (pss_one (ps_ret pe_str)))))), ?_⟩
  obtain ⟨dl, ps, xs, bu, sz_, pe, jb, rfl, rfl, rfl, rfl, rfl, hd, hs, hz, k⟩ := h
  refine s_seq ?_
  walk_at "r"
  refine c_ls (Or.inl (Or.inl hd)) fun gl hg => ?_
  have F1 : Fp [] H _ := Fp.new (o := .lst (ps.map V.ref)) hg
  have hs1 := hs.fp F1 (by simp)
  have gg : upd H gl (.lst (ps.map V.ref)) gl = some (.lst (ps.map V.ref)) := upd_same
  generalize upd H gl _ = H1 at F1 hs1 gg ⊢
  walk_at "r"
  refine ⟨rfl, fun p dx np ndx nedx => ?_⟩
  have g1 : upd (upd H1 dx (.own p)) p (.ins a.C_Config dx []) p = some (.ins a.C_Config dx []) := upd_same
  have f1 : Fp [] H1 (upd (upd H1 dx (.own p)) p (.ins a.C_Config dx [])) := (Fp.new ndx).trans (Fp.new (by rw [upd_ne nedx.symm]; exact np))
  generalize upd (upd H1 dx (.own p)) p (.ins a.C_Config dx []) = H2 at g1 f1 ⊢
  have gg2 := f1 _ _ gg (by simp)
  refine a6 ⟨p, dx, gl, ps, xs, _, _, _, _, rfl, rfl, rfl, rfl, rfl, rfl, g1, gg2, hs1.fp f1 (by simp), hz, fun z hz d H3 f3 hd3 => ?_, fun hz3 dl2 H3 ndl2 cf f3 => ⟨rfl, ?_⟩⟩
  · refine w_as T.e_ConfigError.exm fun ae hae => ?_
    walk_at "r"
    have e : (firstFail (chkC xs bu sz_ pe jb)).getD "" = z := by rw [show firstFail _ = some z from hz]; rfl
    rw [e] at k
    exact k _ ((F1.trans f1).trans f3)
  · have npg : gl ≠ p := ne_of_none gg np
    have gg3 := f3 _ _ gg2 (by simp [npg])
    obtain ⟨⟨dxp, hp3⟩, hdl3⟩ := cf
    have ndg : gl ≠ dl2 := ne_of_none gg2 ndl2
    have F3 : Fp [] H H3 := Fp.drop (fp := [p]) (((F1.trans f1).mono (by simp)).trans f3) fun z hz => by
      rcases List.mem_singleton.mp hz with rfl
      exact .inr (F1.free (by simp) np)
    walk_at "r"
    refine ⟨rfl, fun q dy nq ndy nedy => ?_⟩
    have g4 : upd (upd H3 dy (.own q)) q (.ins a.C_Settings dy []) q = some (.ins a.C_Settings dy []) := upd_same
    have f4 : Fp [] H3 (upd (upd H3 dy (.own q)) q (.ins a.C_Settings dy [])) := (Fp.new ndy).trans (Fp.new (by rw [upd_ne nedy.symm]; exact nq))
    generalize upd (upd H3 dy (.own q)) q (.ins a.C_Settings dy []) = H4 at g4 f4 ⊢
    refine a11 ⟨q, dy, 4, 4, 2, 1, 1, 1, 4, 16, 1, 1, rfl, rfl, rfl, rfl, rfl, rfl, rfl, rfl, rfl, rfl, rfl, g4, fun z hz => (by rw [ff_def] at hz; cases hz), fun _ H5 S5 f5 => ⟨rfl, ?_⟩⟩
    have F35 : Fp [] H3 H5 := Fp.drop (fp := [q]) ((f4.mono (by simp)).trans f5) fun z hz => by
      rcases List.mem_singleton.mp hz with rfl
      exact .inr nq
    walk_at "r"
    have gg5 := F35 _ _ gg3 (by simp)
    have hp5 := F35 _ _ hp3 (by simp)
    have hd5 := F35 _ _ hdl3 (by simp)
    refine c_app gg5 (sz (by rw [List.length_map]; omega)) ?_
    have F6 : Fp [] H (upd H5 gl (.lst (ps.map V.ref ++ [V.ref q]))) := Fp.drop (fp := [gl]) (((F3.trans F35).mono (by simp)).trans (Fp.at_ (by simp))) fun z hz => by
      rcases List.mem_singleton.mp hz with rfl
      exact .inr hg
    have hp6 : upd H5 gl (.lst (ps.map V.ref ++ [V.ref q])) p = _ := (upd_ne npg.symm).trans hp5
    have hd6 : upd H5 gl (.lst (ps.map V.ref ++ [V.ref q])) dl2 = _ := (upd_ne ndg.symm).trans hd5
    generalize upd H5 gl _ = H6 at F6 hp6 hd6 ⊢
    have hs6 := hs.fp F6 (by simp)
    have hdl6 := F6 _ _ hd (by simp)
    walk_at "r"
    refine ⟨sz (by simp), fun u1 hu1 => ?_⟩
    have m1 : p ≠ u1 := ne_of_none hp6 hu1
    walk_at "r"
    refine ⟨sz (by simp), fun u2 hu2 => ?_⟩
    have n12 : u1 ≠ u2 := ne_of_none upd_same hu2
    refine o_neL (xs := [bu, sz_, pe, jb].map V.int) (Or.inl (Or.inl (by rw [upd_ne n12]; exact upd_same))) (Or.inl (Or.inl upd_same)) (flat_ints _) ?_
    have F68 : Fp [] H6 _ := (Fp.new (o := .lst [.int bu, .int sz_, .int pe, .int jb]) hu1).trans (Fp.new (o := .lst [.int bu, .int sz_, .int pe, .int jb]) hu2)
    have F8 := F6.trans F68
    have hp8 := F68 _ _ hp6 (by simp)
    have hd8 := F68 _ _ hd6 (by simp)
    have hdl8 := F68 _ _ hdl6 (by simp)
    walk_at "r"
    refine iteF ?_
    generalize upd (upd H6 u1 _) u2 _ = H8 at F8 hp8 hd8 hdl8 ⊢
    clear F68
    walk_at "r"
    refine if_ndF rfl ?_
    walk_at "r"
    refine f_rng1 ?_
    walk_at "r"
    refine k_rng (fun i σ H' => ∃ kv, σ = [some (.ref dl), some (.int bu), some (.int sz_), some (.int pe), some (.int jb), some (.ref gl), some (.ref p), none, kv] ∧ Fp [] H8 H') (by omega) (by rw [List.length_map]; omega) ?_ ?_ ?_
    · exact ⟨none, rfl, Fp.refl _ _⟩
    · rintro i σ H' hi ⟨kv, rfl, F⟩
      have hi' : i < ps.length := by simpa using hi
      obtain ⟨pa, hpa⟩ : ∃ pa, ps[i]? = some pa := ⟨_, List.getElem?_eq_getElem hi'⟩
      obtain ⟨xa, hxa⟩ : ∃ xa, xs[i]? = some xa := ⟨_, List.getElem?_eq_getElem (by rw [← hs.1]; exact hi')⟩
      have hp' := F _ _ hp8 (by simp)
      have hd' := F _ _ hd8 (by simp)
      have hdl' := F _ _ hdl8 (by simp)
      have hsa := (hs.2 i pa xa hpa hxa)
      have hat : atI (ps.map V.ref) (i : Int) = some (.ref pa) := atI_nat (by rw [List.getElem?_map, hpa]; rfl)
      walk_at "r"
      refine o_ixL (Or.inl (Or.inl hd')) hat ?_
      walk_at "r"
      refine a1 ⟨pa, xa, rfl, hsa.fp (F8.trans F) (by simp), fun l1 H9 hl1 gl1 f9 => ?_⟩
      walk_at "r"
      refine o_ixL (Or.inl (Or.inl (f9 _ _ hdl' (by simp)))) hat ?_
      walk_at "r"
      refine a1 ⟨pa, xa, rfl, hsa.fp ((F8.trans F).trans f9) (by simp), fun l2 H10 hl2 gl2 f10 => ?_⟩
      refine o_neL (xs := (fldsI xa).map V.int) (Or.inl (Or.inl (f10 _ _ gl1 (by simp)))) (Or.inl (Or.inl gl2)) (flat_ints _) ?_
      walk_at "r"
      refine iteF ?_
      walk_at "r"
      exact ⟨_, rfl, (F.trans f9).trans f10⟩
    · rintro σ H' ⟨kv, rfl, F⟩
      walk_at "r"
      have e : (firstFail (chkC xs bu sz_ pe jb)).getD "" = "" := by rw [show firstFail _ = none from hz3]; rfl
      rw [e] at k
      exact k _ (F8.trans F)
end
end My
set_option Elab.async false
set_option maxRecDepth 100000
set_option maxHeartbeats 100000000
set_option linter.all false
namespace My
open PySem L2 Sx Rd
local macro_rules | `(tactic| walk_at "ne") => `(tactic| (first | assumption | exact Ne.symm (by assumption)))
local macro_rules | `(tactic| walk_at "hl") => `(tactic| (first | (with_reducible assumption) | exact upd_same | ((with_reducible refine' (upd_ne ?hne).trans ?hgo); (case hne => walk_at "ne"); (case hgo => walk_at "hl"))))
local macro_rules | `(tactic| walk_at "sq") => `(tactic| (first | (with_reducible assumption) | exact Or.inl (Or.inl (by walk_at "hl"))))
local macro_rules | `(tactic| walk_at "ar") => `(tactic| (first | omega | exact ⟨by omega, by omega⟩ | exact Or.inl ⟨by omega, by omega⟩ | exact Or.inr ⟨by omega, by omega⟩ | (show (0 : Int) < _; omega) | (show (0 : Int) < _ ∧ _ < (1073741824 : Int); omega)))
local macro_rules | `(tactic| walk_at "cls") => `(tactic| (first | exact Txt.cl_Settings (by assumption) | exact Txt.cl_Config (by assumption)))
local macro_rules | `(tactic| walk_at "noa") => `(tactic| (first | exact Txt.n_Settings_queue (by assumption) | exact Txt.n_Settings_sending (by assumption) | exact Txt.n_Settings_slots (by assumption) | exact Txt.n_Settings_pace (by assumption) | exact Txt.n_Settings_count_limit (by assumption) | exact Txt.n_Settings_wait (by assumption) | exact Txt.n_Settings_idle (by assumption) | exact Txt.n_Settings_room (by assumption) | exact Txt.n_Settings_receive (by assumption) | exact Txt.n_Settings_transmit (by assumption) | exact Txt.n_Config_devices (by assumption) | exact Txt.n_Config_buffers (by assumption) | exact Txt.n_Config_size (by assumption) | exact Txt.n_Config_period (by assumption) | exact Txt.n_Config_jobs (by assumption)))
local macro_rules | `(tactic| walk_at "lkp") => `(tactic| (first | (with_reducible exact F_Settings_queue_l) | (with_reducible exact F_Settings_sending_l) | (with_reducible exact F_Settings_slots_l) | (with_reducible exact F_Settings_pace_l) | (with_reducible exact F_Settings_count_limit_l) | (with_reducible exact F_Settings_wait_l) | (with_reducible exact F_Settings_idle_l) | (with_reducible exact F_Settings_room_l) | (with_reducible exact F_Settings_receive_l) | (with_reducible exact F_Settings_transmit_l) | (with_reducible exact F_Config_devices_l) | (with_reducible exact F_Config_buffers_l) | (with_reducible exact F_Config_size_l) | (with_reducible exact F_Config_period_l) | (with_reducible exact F_Config_jobs_l)))
local macro_rules | `(tactic| walk_at "ptf") => `(tactic| (first | (with_reducible exact F_Settings_queue_p) | (with_reducible exact F_Settings_sending_p) | (with_reducible exact F_Settings_slots_p) | (with_reducible exact F_Settings_pace_p) | (with_reducible exact F_Settings_count_limit_p) | (with_reducible exact F_Settings_wait_p) | (with_reducible exact F_Settings_idle_p) | (with_reducible exact F_Settings_room_p) | (with_reducible exact F_Settings_receive_p) | (with_reducible exact F_Settings_transmit_p) | (with_reducible exact F_Config_devices_p) | (with_reducible exact F_Config_buffers_p) | (with_reducible exact F_Config_size_p) | (with_reducible exact F_Config_period_p) | (with_reducible exact F_Config_jobs_p) | exact rfl))
local macro_rules | `(tactic| walk_at "lnF") => `(tactic| (first | (with_reducible exact F_Settings_len) | (with_reducible exact F_Config_len) | (refine PL.lt (n := 60) ?_ (by decide); (repeat refine PL.put ?_); exact PL.nil) | decide))
local macro_rules | `(tactic| walk_at "nol") => `(tactic| (first | fail))
local macro_rules | `(tactic| walk_at "r1") => `(tactic| (first
  | with_reducible refine s_seq ?_ | with_reducible refine s_asg ?_ | with_reducible refine g_name ?_ | with_reducible refine s_ret ?_ | with_reducible refine s_if ?_ | with_reducible refine s_drop ?_
  | with_reducible refine d_nx ?_ | with_reducible refine d_rt ?_ | with_reducible refine d_bk ?_ | with_reducible refine d_ct ?_ | with_reducible refine s_next ?_ | with_reducible refine s_retN ?_ | with_reducible refine s_cont ?_ | with_reducible refine s_break ?_
  | ((with_reducible refine' e_var ?hv ?_); (case hv => exact rfl))
  | with_reducible refine o_chC ?_ | ((with_reducible refine' o_chV ?hv ?_); (case hv => exact rfl))
  | with_reducible refine e_c ?_ | with_reducible refine e_op ?_ | with_reducible refine e_un ?_ | with_reducible refine o_I0 ?_ | with_reducible refine o_U ?_
  | ((with_reducible refine' o_I ?hc ?_); (case hc => walk_at "ar"))
  | ((with_reducible refine' o_eq ?hs ?_); (case hs => exact rfl))
  | ((with_reducible refine' o_ne ?hs ?_); (case hs => exact rfl))
  | ((with_reducible refine' o_ixL ?h1 ?h2 ?_); (case h1 => walk_at "sq"); (case h2 => first | exact rfl | exact atI_zero _ _))
  | with_reducible refine e_fld ?_ | with_reducible refine s_fld ?_ | with_reducible refine e_meth ?_ | with_reducible refine e_call ?_ | with_reducible refine e_make ?_
  | ((with_reducible refine' k_fld ?h1 ?h2 ?h3 ?h4 ?_); (case h1 => walk_at "hl"); (case h2 => walk_at "cls"); (case h3 => walk_at "noa"); (case h4 => walk_at "lkp"))
  | ((with_reducible refine' k_set ?h1 ?h2 ?h3 ?h4 ?h5 ?_); (case h1 => walk_at "hl"); (case h2 => walk_at "cls"); (case h3 => walk_at "noa"); (case h4 => walk_at "ptf"); (case h5 => walk_at "lnF"))
  | ((with_reducible refine' k_meth ?h1 ?h2 ?_); (case h1 => walk_at "hl"); (case h2 => walk_at "nol"))
  | with_reducible refine e_cb ?_ | with_reducible refine l_cons ?_ | with_reducible refine l_nil ?_ | with_reducible refine e_lst ?_ | with_reducible refine e_tup ?_
  | with_reducible refine e_bm ?_ | with_reducible refine e_bm0 ?_ | with_reducible refine e_not ?_ | with_reducible refine e_if ?_
  | with_reducible refine t_test ?_ | with_reducible refine t_B ?_ | with_reducible refine k_t ?_ | with_reducible refine t_and ?_ | with_reducible refine t_or ?_ | with_reducible refine t_not ?_
  | with_reducible refine e_chain ?_ | with_reducible refine s_raise ?_ | with_reducible refine e_sl ?_ | with_reducible refine p_no ?_ | with_reducible refine p_some ?_ | with_reducible refine g_sub ?_
  | ((with_reducible refine' c_ln ?h1 ?_); (case h1 => walk_at "sq"))
  | ((with_reducible refine' c_pop0 ?h1 ?h2 ?_); (case h1 => walk_at "hl"); (case h2 => omega))
  | ((with_reducible refine' k_ty ?h1 ?_); (case h1 => walk_at "sq"))
  | with_reducible refine c_isBool ?_ | with_reducible refine c_isInt ?_ | with_reducible refine c_isBoolN ?_
  | with_reducible refine e_xf ?_
  | ((with_reducible refine' k_xf ?h1 ?h2 ?_); (case h1 => walk_at "hl"); (case h2 => exact look_hit _ _ _))
  | with_reducible refine k_i ?_
  | ((with_reducible refine' o_slL ?h1 ?_); (case h1 => walk_at "sq"))
  | ((with_reducible refine' k_dget ?h1 ?h2 ?_); (case h1 => walk_at "hl"); (case h2 => with_reducible assumption))
  | with_reducible refine e_dget ?_ | with_reducible refine s_dput ?_ | with_reducible refine e_makeK ?_ | with_reducible refine g_cons ?_ | with_reducible refine g_nil ?_
  | with_reducible refine c_ab ?_ | with_reducible refine c_in ?_ | with_reducible refine c_mx ?_ | with_reducible refine c_mn ?_
  | with_reducible refine a1 ?_ | with_reducible refine a2 ?_ | with_reducible refine a3 ?_ | with_reducible refine a4 ?_ | with_reducible refine a5 ?_ | with_reducible refine a6 ?_ | with_reducible refine a0 ?_))
local macro_rules | `(tactic| walk_at "r") => `(tactic| (repeat walk_at "r1"))
section
variable {P : Program} {w : World} {K : PySem.W.Frag} {mg : Str → Option Value} {base : Heap} {a : Ads}
/-! ### the law -/
theorem nm_nil {k : Str} : ∀ p ∈ ([] : List (Str × Int)), p.1 ≠ k := fun p hp => by cases hp
theorem nm_cons {k n : Str} {x : Int} {f : List (Str × Int)} (h : n ≠ k) (r : ∀ p ∈ f, p.1 ≠ k) : ∀ p ∈ (n, x) :: f, p.1 ≠ k := fun p hp => by
  rcases List.mem_cons.mp hp with rfl | hp
  · exact h
  · exact r p hp
def DV (H : Hp) (va : Addr) (m : Nat) (f : List (Str × Int)) : Prop := ∃ kvs : List (Key × V), H va = some (.dK kvs) ∧ kvs.length ≤ m ∧ ∀ p ∈ f, valV kvs (Sum.inr p.1) = some (.int p.2)
theorem DV.fp {H H1 : Hp} {va : Addr} {m : Nat} {f : List (Str × Int)} {fp : List Addr} (s : DV H va m f) (g : Fp fp H H1) (n : va ∉ fp) : DV H1 va m f := by
  obtain ⟨kvs, h, l⟩ := s
  exact ⟨kvs, g _ _ h n, l⟩
theorem DV.sub {H : Hp} {va : Addr} {m : Nat} {f g : List (Str × Int)} (s : DV H va m f) (h : ∀ p ∈ g, p ∈ f) : DV H va m g := by
  obtain ⟨kvs, h1, h2, l⟩ := s
  exact ⟨kvs, h1, h2, fun p hp => l p (h p hp)⟩
theorem DV.put {H : Hp} {va : Addr} {m : Nat} {f : List (Str × Int)} {key : Str} {x : Int} {R : Hp → Prop} (s : DV H va m f) (hk : ∀ p ∈ f, p.1 ≠ key) (hm : m < 1000) (q : ∀ H1, DV H1 va (m + 1) ((key, x) :: f) → Fp [va] H H1 → R H1) : kDPut (.int x) (.ref va) (.str key) H R := by
  obtain ⟨kvs, h1, h2, l⟩ := s
  refine k_dput h1 (by omega) (q _ ⟨_, upd_same, Nat.le_trans (length_putK _ _ _) (by omega), fun p hp => ?_⟩ (Fp.at_ (by simp)))
  rw [valV_put]
  rcases List.mem_cons.mp hp with rfl | hp
  · rw [if_pos rfl]
  · rw [if_neg fun z => hk p hp (Sum.inr.inj z)]
    exact l p hp
theorem DV.get {H : Hp} {va : Addr} {m : Nat} {f : List (Str × Int)} {key : Str} {x : Int} {Q : VK} (s : DV H va m f) (h : (key, x) ∈ f) (q : Q (.int x) H) : kDGet (.ref va) (.str key) H Q := by
  obtain ⟨kvs, h1, h2, l⟩ := s
  exact k_dget h1 (l _ h) q
theorem DV.vat {H : Hp} {va : Addr} {m : Nat} {f : List (Str × Int)} {x : SetV} (s : DV H va m f) (h : ∀ p ∈ namesL.zip (fldsI x), p ∈ f) : VAt H va x := by
  obtain ⟨kvs, h1, h2, l⟩ := s
  refine ⟨kvs, h1, fun i n y hn hy => l (n, y) (h _ (List.mem_of_getElem? (i := i) ?_))⟩
  rw [List.getElem?_zip_eq_some]
  exact ⟨hn, hy⟩
def nm5 : List (Str × Int × Int) := [("sending", 1, 16), ("slots", 1, 32), ("pace", 1, 16), ("wait", 1, 32), ("idle", 1, 32)]
def F5 (q y0 y1 y2 y3 y4 : Int) (i : Nat) : List (Str × Int) := ("queue", q) :: ([("sending", y0), ("slots", y1), ("pace", y2), ("wait", y3), ("idle", y4)] : List (Str × Int)).take i
theorem step5 {i : Nat} {e : Str × Int × Int} (h : nm5[i]? = some e) (q y0 y1 y2 y3 y4 x : Int) : (∀ p ∈ F5 q y0 y1 y2 y3 y4 i, p.1 ≠ e.1) ∧ ∃ z0 z1 z2 z3 z4, ∀ p ∈ F5 q z0 z1 z2 z3 z4 (i + 1), p ∈ (e.1, x) :: F5 q y0 y1 y2 y3 y4 i := by
  match i, h with
  | 0, h => cases h; exact ⟨by simp [F5] <;> decide +kernel, x, y1, y2, y3, y4, by simp [F5] <;> omega⟩
  | 1, h => cases h; exact ⟨by simp [F5] <;> decide +kernel, y0, x, y2, y3, y4, by simp [F5] <;> omega⟩
  | 2, h => cases h; exact ⟨by simp [F5] <;> decide +kernel, y0, y1, x, y3, y4, by simp [F5] <;> omega⟩
  | 3, h => cases h; exact ⟨by simp [F5] <;> decide +kernel, y0, y1, y2, x, y4, by simp [F5] <;> omega⟩
  | 4, h => cases h; exact ⟨by simp [F5] <;> decide +kernel, y0, y1, y2, y3, x, by simp [F5] <;> omega⟩
  | i + 5, h => simp [nm5] at h
def TupAt (H : Hp) (ts : List Addr) (es : List (Str × Int × Int)) : Prop := ts.length = es.length ∧ ∀ (i : Nat) t e, ts[i]? = some t → es[i]? = some e → H t = some (.tup [.str e.1, .int e.2.1, .int e.2.2])
theorem TupAt.keep {H H1 : Hp} {ts : List Addr} {es : List (Str × Int × Int)} {st sl : Addr} (u : TupAt H ts es) (S : StAt H st sl) (f : Fp [st, sl] H H1) : TupAt H1 ts es := by
  obtain ⟨_, _, z1, z2, _⟩ := S
  refine ⟨u.1, fun i t e h1 h2 => f _ _ (u.2 i t e h1 h2) ?_⟩
  simp only [List.mem_cons, List.not_mem_nil, or_false, not_or]
  exact ⟨ne_of (u.2 i t e h1 h2) z1 (fun z => by cases z), ne_of (u.2 i t e h1 h2) z2 (fun z => by cases z)⟩
theorem TupAt.keepD {H H1 : Hp} {ts : List Addr} {es : List (Str × Int × Int)} {va : Addr} {m : Nat} {g : List (Str × Int)} (u : TupAt H ts es) (S : DV H va m g) (f : Fp [va] H H1) : TupAt H1 ts es := by
  obtain ⟨_, z1, _⟩ := S
  refine ⟨u.1, fun i t e h1 h2 => f _ _ (u.2 i t e h1 h2) ?_⟩
  simp only [List.mem_singleton]
  exact ne_of (u.2 i t e h1 h2) z1 fun z => by cases z
theorem SetsAt.keep {C : Addr} {H H1 : Hp} {ps : List Addr} {xs : List SetV} {st sl : Addr} (s : SetsAt C H ps xs) (S : StAt H st sl) (f : Fp [st, sl] H H1) : SetsAt C H1 ps xs := by
  obtain ⟨_, _, z1, z2, _⟩ := S
  refine ⟨s.1, fun i p x h1 h2 => (s.2 i p x h1 h2).fp f ?_⟩
  obtain ⟨_, z⟩ := s.2 i p x h1 h2
  simp only [List.mem_cons, List.not_mem_nil, or_false, not_or]
  exact ⟨ne_of z z1 (fun z => by cases z), ne_of z z2 (fun z => by cases z)⟩
theorem SetsAt.keepL {C : Addr} {H H1 : Hp} {ps : List Addr} {xs : List SetV} {l : Addr} {vs : List V} (s : SetsAt C H ps xs) (hl : H l = some (.lst vs)) (f : Fp [l] H H1) : SetsAt C H1 ps xs := by
  refine ⟨s.1, fun i p x h1 h2 => (s.2 i p x h1 h2).fp f ?_⟩
  obtain ⟨_, z⟩ := s.2 i p x h1 h2
  simp only [List.mem_singleton]
  exact ne_of z hl (fun z => by cases z)
def x0 : SetV := ⟨4, 4, 2, 1, 1, 1, 4, 16, 1, 1⟩
theorem ff_defC : firstFail (chkC [x0] 8 4 16 4) = none := by decide
theorem ok_law (T : Txt P w K mg base a) : FnOk P w K mg base (L2.CX P w) 7 a.f_law a.fd_law ["script"] (sp_law K a) := by
  have G_law_state := ok_law_state T
  have G_law_value := ok_law_value T
  have G_law_draw := ok_law_draw T
  have G_law_settings := ok_law_settings T
  have G_law_settings_due := ok_law_settings_due T
  have G_Settings_init := ok_Settings_init T
  have G_law_config_due := ok_law_config_due T
  have G_law_config_outcome := ok_law_config_outcome T
  have G_Config_init := ok_Config_init T
  refine T.F_law.okX sc_law (fun vs H Q E h => A1.len h) (fun cdv A outer s H vs Q E hr h => ?_)
  have hu := hu_of hr
  obtain ⟨v_script, rfl, h⟩ := h
  refine ⟨_, (pss_cons (ps_set (i := 1) sc_law.nd rfl (by first | exact Or.inl rfl | exact Or.inr rfl) (pe_callS G_law_state (hr.mono (by decide)) rfl T.g_law_state T.F_law_state.kp T.b_law_state (fun σ => passAt (takes_of rfl rfl rfl rfl) σ) (pa_cons (pv 0) pa_nil)))
    (pss_cons (ps_set (i := 2) sc_law.nd rfl (by first | exact Or.inl rfl | exact Or.inr rfl) pe_dnewK)
    (pss_cons (ps_dput hu (pv 2) pe_str (pe_callS G_law_value (hr.mono (by decide)) rfl T.g_law_value T.F_law_value.kp T.b_law_value (fun σ => passAt (takes_of rfl rfl rfl rfl) σ) (pa_cons (pv 1) (pa_cons pe_int (pa_cons pe_int pa_nil)))) rfl)
    (pss_cons (ps_set (i := 3) sc_law.nd rfl (by first | exact Or.inl rfl | exact Or.inr rfl) (pe_lst (pa_cons (pe_tup (pa_cons pe_str (pa_cons pe_int (pa_cons pe_int pa_nil)))) (pa_cons (pe_tup (pa_cons pe_str (pa_cons pe_int (pa_cons pe_int pa_nil)))) (pa_cons (pe_tup (pa_cons pe_str (pa_cons pe_int (pa_cons pe_int pa_nil)))) (pa_cons (pe_tup (pa_cons pe_str (pa_cons pe_int (pa_cons pe_int pa_nil)))) (pa_cons (pe_tup (pa_cons pe_str (pa_cons pe_int (pa_cons pe_int pa_nil)))) pa_nil)))))))
    (pss_cons (ps_for (passes_of rfl) rfl (pi_list (pv 3)) (pg_tup rfl (pgs_cons (pg_name (i := 4) sc_law.nd rfl (by first | exact Or.inl rfl | exact Or.inr rfl)) (pgs_cons (pg_name (i := 5) sc_law.nd rfl (by first | exact Or.inl rfl | exact Or.inr rfl)) (pgs_cons (pg_name (i := 6) sc_law.nd rfl (by first | exact Or.inl rfl | exact Or.inr rfl)) pgs_nil)))) (pss_one (ps_dput hu (pv 2) (pv 4) (pe_callS G_law_value (hr.mono (by decide)) rfl T.g_law_value T.F_law_value.kp T.b_law_value (fun σ => passAt (takes_of rfl rfl rfl rfl) σ) (pa_cons (pv 1) (pa_cons (pv 5) (pa_cons (pv 6) pa_nil)))) rfl)))
    (pss_cons (ps_dput hu (pv 2) pe_str (pe_callS G_law_value (hr.mono (by decide)) rfl T.g_law_value T.F_law_value.kp T.b_law_value (fun σ => passAt (takes_of rfl rfl rfl rfl) σ) (pa_cons (pv 1) (pa_cons pe_int (pa_cons (pe_callB (call_mx rfl) (by rfl) T.g_max (by decide +kernel) (pa_cons pe_int (pa_cons (pe_dget hu (pv 2) pe_str (fun _ _ => rfl)) pa_nil))) pa_nil)))) rfl)
    (pss_cons (ps_dput hu (pv 2) pe_str (pe_callS G_law_value (hr.mono (by decide)) rfl T.g_law_value T.F_law_value.kp T.b_law_value (fun σ => passAt (takes_of rfl rfl rfl rfl) σ) (pa_cons (pv 1) (pa_cons pe_int (pa_cons pe_int pa_nil)))) rfl)
    (pss_cons (ps_dput hu (pv 2) pe_str (pe_callS G_law_draw (hr.mono (by decide)) rfl T.g_law_draw T.F_law_draw.kp T.b_law_draw (fun σ => passAt (takes_of rfl rfl rfl rfl) σ) (pa_cons (pv 1) (pa_cons pe_int pa_nil))) rfl)
    (pss_cons (ps_dput hu (pv 2) pe_str (pe_callS G_law_draw (hr.mono (by decide)) rfl T.g_law_draw T.F_law_draw.kp T.b_law_draw (fun σ => passAt (takes_of rfl rfl rfl rfl) σ) (pa_cons (pv 1) (pa_cons pe_int pa_nil))) rfl)
    (pss_cons (ps_if (pt_cmpR op_ne (pe_callS G_law_settings (hr.mono (by decide)) rfl T.g_law_settings T.F_law_settings.kp T.b_law_settings (fun σ => passAt (takes_of rfl rfl rfl rfl) σ) (pa_cons (pv 2) pa_nil)) (pe_callS G_law_settings_due (hr.mono (by decide)) rfl T.g_law_settings_due T.F_law_settings_due.kp T.b_law_settings_due (fun σ => passAt (takes_of rfl rfl rfl rfl) σ) (pa_cons (pv 2) pa_nil)) (nomark _)) (pss_one (ps_ret pe_bl)) pss_nil)
    (pss_cons (ps_set (i := 7) sc_law.nd rfl (by first | exact Or.inl rfl | exact Or.inr rfl) (pe_lst pa_nil))
    (pss_cons (ps_for (passes_of rfl) rfl (pi_range1 rfl T.g_range (pa_cons (pe_callS G_law_draw (hr.mono (by decide)) rfl T.g_law_draw T.F_law_draw.kp T.b_law_draw (fun σ => passAt (takes_of rfl rfl rfl rfl) σ) (pa_cons (pv 1) (pa_cons pe_int pa_nil))) pa_nil)) (pg_name (i := 8) sc_law.nd rfl (by first | exact Or.inl rfl | exact Or.inr rfl)) (pss_cons (ps_set (i := 9) sc_law.nd rfl (by first | exact Or.inl rfl | exact Or.inr rfl) (pe_op op_add pe_int (pe_callS G_law_draw (hr.mono (by decide)) rfl T.g_law_draw T.F_law_draw.kp T.b_law_draw (fun σ => passAt (takes_of rfl rfl rfl rfl) σ) (pa_cons (pv 1) (pa_cons pe_int pa_nil)))))
    (pss_one (ps_expr (pe_bm PySem.F.plainAttrs_list PySem.F.slot_list_append PySem.F.type_list_append mt_append (pv 7) (pa_cons (pe_makeKS (ks := ["queue", "sending", "slots", "pace", "count", "wait", "idle", "room", "receive", "transmit"]) T.mk_Settings G_Settings_init (hr.mono (by decide)) rfl T.g_Settings T.kb_Settings_init_0 (fun σ => passAt (takes_of rfl rfl rfl rfl) σ) (pk_cons (pv 9) (pk_cons (pe_op op_add pe_int (pe_callS G_law_draw (hr.mono (by decide)) rfl T.g_law_draw T.F_law_draw.kp T.b_law_draw (fun σ => passAt (takes_of rfl rfl rfl rfl) σ) (pa_cons (pv 1) (pa_cons pe_int pa_nil)))) (pk_cons (pe_op op_add pe_int (pe_callS G_law_draw (hr.mono (by decide)) rfl T.g_law_draw T.F_law_draw.kp T.b_law_draw (fun σ => passAt (takes_of rfl rfl rfl rfl) σ) (pa_cons (pv 1) (pa_cons pe_int pa_nil)))) (pk_cons (pe_op op_add pe_int (pe_callS G_law_draw (hr.mono (by decide)) rfl T.g_law_draw T.F_law_draw.kp T.b_law_draw (fun σ => passAt (takes_of rfl rfl rfl rfl) σ) (pa_cons (pv 1) (pa_cons pe_int pa_nil)))) (pk_cons (pe_op op_add pe_int (pe_callS G_law_draw (hr.mono (by decide)) rfl T.g_law_draw T.F_law_draw.kp T.b_law_draw (fun σ => passAt (takes_of rfl rfl rfl rfl) σ) (pa_cons (pv 1) (pa_cons (pv 9) pa_nil)))) (pk_cons (pe_op op_add pe_int (pe_callS G_law_draw (hr.mono (by decide)) rfl T.g_law_draw T.F_law_draw.kp T.b_law_draw (fun σ => passAt (takes_of rfl rfl rfl rfl) σ) (pa_cons (pv 1) (pa_cons pe_int pa_nil)))) (pk_cons (pe_op op_add pe_int (pe_callS G_law_draw (hr.mono (by decide)) rfl T.g_law_draw T.F_law_draw.kp T.b_law_draw (fun σ => passAt (takes_of rfl rfl rfl rfl) σ) (pa_cons (pv 1) (pa_cons pe_int pa_nil)))) (pk_cons (pe_op op_add pe_int (pe_callS G_law_draw (hr.mono (by decide)) rfl T.g_law_draw T.F_law_draw.kp T.b_law_draw (fun σ => passAt (takes_of rfl rfl rfl rfl) σ) (pa_cons (pv 1) (pa_cons pe_int pa_nil)))) (pk_cons (pe_op op_add pe_int (pe_callS G_law_draw (hr.mono (by decide)) rfl T.g_law_draw T.F_law_draw.kp T.b_law_draw (fun σ => passAt (takes_of rfl rfl rfl rfl) σ) (pa_cons (pv 1) (pa_cons pe_int pa_nil)))) (pk_cons (pe_op op_add pe_int (pe_callS G_law_draw (hr.mono (by decide)) rfl T.g_law_draw T.F_law_draw.kp T.b_law_draw (fun σ => passAt (takes_of rfl rfl rfl rfl) σ) (pa_cons (pv 1) (pa_cons pe_int pa_nil)))) pk_nil))))))))))) pa_nil))))))
    (pss_cons (ps_set (i := 10) sc_law.nd rfl (by first | exact Or.inl rfl | exact Or.inr rfl) (pe_callS G_law_value (hr.mono (by decide)) rfl T.g_law_value T.F_law_value.kp T.b_law_value (fun σ => passAt (takes_of rfl rfl rfl rfl) σ) (pa_cons (pv 1) (pa_cons (pe_op op_mul pe_int (pe_callB call_ln (by rfl) T.g_len (by decide +kernel) (pa_cons (pv 7) pa_nil))) (pa_cons pe_int pa_nil)))))
    (pss_cons (ps_set (i := 11) sc_law.nd rfl (by first | exact Or.inl rfl | exact Or.inr rfl) (pe_callS G_law_value (hr.mono (by decide)) rfl T.g_law_value T.F_law_value.kp T.b_law_value (fun σ => passAt (takes_of rfl rfl rfl rfl) σ) (pa_cons (pv 1) (pa_cons pe_int (pa_cons pe_int pa_nil)))))
    (pss_cons (ps_set (i := 12) sc_law.nd rfl (by first | exact Or.inl rfl | exact Or.inr rfl) (pe_callS G_law_value (hr.mono (by decide)) rfl T.g_law_value T.F_law_value.kp T.b_law_value (fun σ => passAt (takes_of rfl rfl rfl rfl) σ) (pa_cons (pv 1) (pa_cons pe_int (pa_cons pe_int pa_nil)))))
    (pss_cons (ps_set (i := 13) sc_law.nd rfl (by first | exact Or.inl rfl | exact Or.inr rfl) (pe_op op_add (pv 12) (pe_callB (cr_sum rfl) (by rfl) T.g_sum (by decide +kernel) (pa_cons (pe_lc (own := [("device", 14)]) (g := (gName 14)) (tt := tYes) (te := (tOp (rI0 fun i j => .int (i + j)) (tFld K (tVar 14) "receive") (tFld K (tVar 14) "transmit"))) rfl sc_law.nd (pi_list (pv 7)) (blkOk_by (N := ["script", "state", "v", "ranges", "name", "least", "greatest", "devices", "k", "queue", "buffers", "size", "jobs", "total", "device", "period", "due", "plain", "whole"]) (sc := defScope s_law) (own := [("device", 14)]) (by decide +kernel)) (fun _ _ _ _ _ => by exact (pg_name (i := 14) sc_law.nd rfl (by first | exact Or.inl rfl | exact Or.inr rfl))) (fun _ _ _ _ _ => by exact pts_nil) (fun _ _ _ _ _ => by exact (pe_op op_add (pe_fld (pv 14) rfl) (pe_fld (pv 14) rfl)))) pa_nil))))
    (pss_cons (ps_set (i := 15) sc_law.nd rfl (by first | exact Or.inl rfl | exact Or.inr rfl) (pe_ix ix_list (pe_lst (pa_cons (pe_callS G_law_value (hr.mono (by decide)) rfl T.g_law_value T.F_law_value.kp T.b_law_value (fun σ => passAt (takes_of rfl rfl rfl rfl) σ) (pa_cons (pv 1) (pa_cons pe_int (pa_cons pe_int pa_nil)))) (pa_cons (pv 13) (pa_cons (pe_op op_sub (pv 13) pe_int) pa_nil)))) (pe_callS G_law_draw (hr.mono (by decide)) rfl T.g_law_draw T.F_law_draw.kp T.b_law_draw (fun σ => passAt (takes_of rfl rfl rfl rfl) σ) (pa_cons (pv 1) (pa_cons pe_int pa_nil))) (fun _ _ => rfl)))
    (pss_cons (ps_set (i := 16) sc_law.nd rfl (by first | exact Or.inl rfl | exact Or.inr rfl) (pe_callS G_law_config_due (hr.mono (by decide)) rfl T.g_law_config_due T.F_law_config_due.kp T.b_law_config_due (fun σ => passAt (takes_of rfl rfl rfl rfl) σ) (pa_cons (pv 7) (pa_cons (pv 10) (pa_cons (pv 11) (pa_cons (pv 15) (pa_cons (pv 12) pa_nil)))))))
    (pss_cons (ps_if (pt_cmpR op_ne (pe_callS G_law_config_outcome (hr.mono (by decide)) rfl T.g_law_config_outcome T.F_law_config_outcome.kp T.b_law_config_outcome (fun σ => passAt (takes_of rfl rfl rfl rfl) σ) (pa_cons (pv 7) (pa_cons (pv 10) (pa_cons (pv 11) (pa_cons (pv 15) (pa_cons (pv 12) pa_nil)))))) (pv 16) (nomark _)) (pss_one (ps_ret pe_bl)) pss_nil)
    (pss_cons (ps_set (i := 17) sc_law.nd rfl (by first | exact Or.inl rfl | exact Or.inr rfl) (pe_makeKS (ks := []) T.mk_Settings G_Settings_init (hr.mono (by decide)) rfl T.g_Settings T.kb_Settings_init_2 (fun σ => passAt (takes_of rfl rfl rfl rfl) σ) pk_nil))
    (pss_cons (ps_if (pt_cmpR (op_neD hr.units) (pe_lst (pa_cons (pe_fld (pv 17) rfl) (pa_cons (pe_fld (pv 17) rfl) (pa_cons (pe_fld (pv 17) rfl) (pa_cons (pe_fld (pv 17) rfl) (pa_cons (pe_fld (pv 17) rfl) pa_nil)))))) (pe_lst (pa_cons pe_int (pa_cons pe_int (pa_cons pe_int (pa_cons pe_int (pa_cons pe_int pa_nil)))))) (nomark _)) (pss_one (ps_ret pe_bl)) pss_nil)
    (pss_cons (ps_if (pt_cmpR (op_neD hr.units) (pe_lst (pa_cons (pe_fld (pv 17) rfl) (pa_cons (pe_fld (pv 17) rfl) (pa_cons (pe_fld (pv 17) rfl) (pa_cons (pe_fld (pv 17) rfl) (pa_cons (pe_fld (pv 17) rfl) pa_nil)))))) (pe_lst (pa_cons pe_int (pa_cons pe_int (pa_cons pe_int (pa_cons pe_int (pa_cons pe_int pa_nil)))))) (nomark _)) (pss_one (ps_ret pe_bl)) pss_nil)
    (pss_cons (ps_set (i := 18) sc_law.nd rfl (by first | exact Or.inl rfl | exact Or.inr rfl) (pe_makeKS (ks := ["devices"]) T.mk_Config G_Config_init (hr.mono (by decide)) rfl T.g_Config T.kb_Config_init_3 (fun σ => passAt (takes_of rfl rfl rfl rfl) σ) (pk_cons (pe_lst (pa_cons (pv 17) pa_nil)) pk_nil)))
    (pss_one (ps_ret (pe_cmpR (op_eqD hr.units) (pe_lst (pa_cons (pe_fld (pv 18) rfl) (pa_cons (pe_fld (pv 18) rfl) (pa_cons (pe_fld (pv 18) rfl) (pa_cons (pe_fld (pv 18) rfl) pa_nil))))) (pe_lst (pa_cons pe_int (pa_cons pe_int (pa_cons pe_int (pa_cons pe_int pa_nil))))) (nomark _))))))))))))))))))))))))))), ?_⟩
  obtain ⟨b, ns, rfl, hS, hn, k⟩ := h
  walk_at "r"
  refine a1 ⟨b, ns, rfl, hS, hn, fun st sl H1 hst hsl S1 f1 => ?_⟩
  walk_at "r"
  intro va hva
  have D2 : DV (upd H1 va (.dK [])) va 0 [] := ⟨[], upd_same, by simp, by simp⟩
  have nst : st ≠ va := by obtain ⟨_, _, z, _⟩ := S1; exact ne_of_none z hva
  have nsl : sl ≠ va := by obtain ⟨_, _, _, z, _⟩ := S1; exact ne_of_none z hva
  have S2 := S1.fp (Fp.new (fp := []) (o := .dK []) hva) (by simp) (by simp)
  generalize upd H1 va _ = H2 at D2 S2 ⊢
  walk_at "r"
  refine a3 ⟨st, sl, 1, 16, rfl, rfl, rfl, S2, by omega, by omega, fun q H3 q0 q1 S3 f3 => ?_⟩
  walk_at "r"
  refine (D2.fp f3 (by simp [nst.symm, nsl.symm])).put (by simp) (by omega) fun H4 D4 f4 => ?_
  have S4 := S3.fp f4 (by simp [nst]) (by simp [nsl])
  walk_at "r"
  refine ⟨sz (by simp), fun t0 g0 => ?_⟩
  have U1 := (Obs.nil (H := H4)).add (o := .tup [.str "sending", .int 1, .int 16]) g0
  have S5 := S4.fp (Fp.new (fp := []) (o := .tup [.str "sending", .int 1, .int 16]) g0) (by simp) (by simp)
  have D5 := D4.fp (Fp.new (fp := []) (o := .tup [.str "sending", .int 1, .int 16]) g0) (by simp)
  generalize upd _ t0 _ = H5 at U1 S5 D5 ⊢
  walk_at "r"
  refine ⟨sz (by simp), fun t1 g1 => ?_⟩
  have U2 := U1.add (o := .tup [.str "slots", .int 1, .int 32]) g1
  have S6 := S5.fp (Fp.new (fp := []) (o := .tup [.str "slots", .int 1, .int 32]) g1) (by simp) (by simp)
  have D6 := D5.fp (Fp.new (fp := []) (o := .tup [.str "slots", .int 1, .int 32]) g1) (by simp)
  generalize upd _ t1 _ = H6 at U2 S6 D6 ⊢
  walk_at "r"
  refine ⟨sz (by simp), fun t2 g2 => ?_⟩
  have U3 := U2.add (o := .tup [.str "pace", .int 1, .int 16]) g2
  have S7 := S6.fp (Fp.new (fp := []) (o := .tup [.str "pace", .int 1, .int 16]) g2) (by simp) (by simp)
  have D7 := D6.fp (Fp.new (fp := []) (o := .tup [.str "pace", .int 1, .int 16]) g2) (by simp)
  generalize upd _ t2 _ = H7 at U3 S7 D7 ⊢
  walk_at "r"
  refine ⟨sz (by simp), fun t3 g3 => ?_⟩
  have U4 := U3.add (o := .tup [.str "wait", .int 1, .int 32]) g3
  have S8 := S7.fp (Fp.new (fp := []) (o := .tup [.str "wait", .int 1, .int 32]) g3) (by simp) (by simp)
  have D8 := D7.fp (Fp.new (fp := []) (o := .tup [.str "wait", .int 1, .int 32]) g3) (by simp)
  generalize upd _ t3 _ = H8 at U4 S8 D8 ⊢
  walk_at "r"
  refine ⟨sz (by simp), fun t4 g4 => ?_⟩
  have U5 := U4.add (o := .tup [.str "idle", .int 1, .int 32]) g4
  have S9 := S8.fp (Fp.new (fp := []) (o := .tup [.str "idle", .int 1, .int 32]) g4) (by simp) (by simp)
  have D9 := D8.fp (Fp.new (fp := []) (o := .tup [.str "idle", .int 1, .int 32]) g4) (by simp)
  generalize upd _ t4 _ = H9 at U5 S9 D9 ⊢
  walk_at "r"
  refine ⟨sz (by simp), fun l1 g5 => ?_⟩
  have nl1 : st ≠ l1 := by obtain ⟨_, _, z, _⟩ := S9; exact ne_of_none z g5
  have nl2 : sl ≠ l1 := by obtain ⟨_, _, _, z, _⟩ := S9; exact ne_of_none z g5
  have nl3 : va ≠ l1 := by obtain ⟨_, z, _⟩ := D9; exact ne_of_none z g5
  have U6 := U5.fp0 (Fp.new (fp := []) (o := .lst [.ref t0, .ref t1, .ref t2, .ref t3, .ref t4]) g5)
  have S10 := S9.fp (Fp.new (fp := []) (o := .lst [.ref t0, .ref t1, .ref t2, .ref t3, .ref t4]) g5) (by simp) (by simp)
  have D10 := D9.fp (Fp.new (fp := []) (o := .lst [.ref t0, .ref t1, .ref t2, .ref t3, .ref t4]) g5) (by simp)
  have L0 : upd H9 l1 (.lst [.ref t0, .ref t1, .ref t2, .ref t3, .ref t4]) l1 = some (.lst ([t0, t1, t2, t3, t4].map V.ref)) := upd_same
  have TU : TupAt (upd H9 l1 (.lst [.ref t0, .ref t1, .ref t2, .ref t3, .ref t4])) [t0, t1, t2, t3, t4] nm5 := by
    refine ⟨rfl, fun i t e h1 h2 => ?_⟩
    match i, h1, h2 with
    | 0, h1, h2 => cases h1; cases h2; exact U6 (t0, .tup [.str "sending", .int 1, .int 16]) (by simp)
    | 1, h1, h2 => cases h1; cases h2; exact U6 (t1, .tup [.str "slots", .int 1, .int 32]) (by simp)
    | 2, h1, h2 => cases h1; cases h2; exact U6 (t2, .tup [.str "pace", .int 1, .int 16]) (by simp)
    | 3, h1, h2 => cases h1; cases h2; exact U6 (t3, .tup [.str "wait", .int 1, .int 32]) (by simp)
    | 4, h1, h2 => cases h1; cases h2; exact U6 (t4, .tup [.str "idle", .int 1, .int 32]) (by simp)
    | i + 5, h1, h2 => simp at h1
  generalize upd H9 l1 _ = H10 at S10 D10 L0 TU ⊢
  clear U1 U2 U3 U4 U5 U6 S1 S2 S3 S4 S5 S6 S7 S8 S9 D2 D4 D5 D6 D7 D8 D9
  walk_at "r"
  refine f_list (xs := [t0, t1, t2, t3, t4].map V.ref) (fun i σ H' => StAt H' st sl ∧ H' l1 = some (.lst ([t0, t1, t2, t3, t4].map V.ref)) ∧ TupAt H' [t0, t1, t2, t3, t4] nm5 ∧ (∃ y0 y1 y2 y3 y4, DV H' va (1 + i) (F5 q y0 y1 y2 y3 y4 i)) ∧
    ∃ u1 u2 u3, σ = [some (.ref b), some (.ref st), some (.ref va), some (.ref l1), u1, u2, u3, none, none, none, none, none, none, none, none, none, none, none, none]) rfl (Or.inl (Or.inl L0)) ⟨S10, L0, TU, ⟨0, 0, 0, 0, 0, D10⟩, _, _, _, rfl⟩ (fun i σ H1 _ ⟨_, e, _⟩ => Or.inl (Or.inl e)) ?_ ?_
  · rintro i x σ H' hx ⟨S, L, TU', ⟨y0, y1, y2, y3, y4, D⟩, u1, u2, u3, rfl⟩
    obtain ⟨t, ht, rfl⟩ : ∃ t, [t0, t1, t2, t3, t4][i]? = some t ∧ V.ref t = x := by rw [List.getElem?_map] at hx; simpa using hx
    have hi5 : i < 5 := (List.getElem?_eq_some_iff.mp ht).1
    obtain ⟨e, he⟩ : ∃ e, nm5[i]? = some e := ⟨_, List.getElem?_eq_getElem hi5⟩
    have hbd : e.2.1 ≤ e.2.2 ∧ e.2.2 - e.2.1 < 1000000 := by
      have : ∀ e ∈ nm5, e.2.1 ≤ e.2.2 ∧ e.2.2 - e.2.1 < 1000000 := by decide
      exact this e (List.mem_of_getElem? he)
    have htt := TU'.2 i t e ht he
    refine g_tup (Or.inl (Or.inl htt)) rfl ?_
    walk_at "r"
    refine a3 ⟨st, sl, e.2.1, e.2.2, rfl, rfl, rfl, S, hbd.1, hbd.2, fun r H5 q0 q1 S5 f5 => ?_⟩
    walk_at "r"
    obtain ⟨hk, z0, z1, z2, z3, z4, hz⟩ := step5 he q y0 y1 y2 y3 y4 r
    have D5 := D.fp f5 (by simp [nst.symm, nsl.symm])
    refine D5.put hk (by omega) fun H6 D6 f6 => ?_
    walk_at "r"
    exact ⟨S5.fp f6 (by simp [nst]) (by simp [nsl]), f6 _ _ (f5 _ _ L (by simp [nl1.symm, nl2.symm])) (by simp [nl3.symm]), (TU'.keep S f5).keepD D5 f6, ⟨z0, z1, z2, z3, z4, D6.sub hz⟩, _, _, _, rfl⟩
  · clear S10 D10 L0 TU
    rintro σ H' ⟨S, -, -, ⟨y0, y1, y2, y3, y4, D⟩, u1, u2, u3, rfl⟩
    walk_at "r"
    refine D.get (x := q) (by simp [F5]) ?_
    walk_at "r"
    refine a3 ⟨st, sl, 1, _, rfl, rfl, rfl, S, by split <;> omega, by split <;> omega, fun co H5 _ _ S5 f5 => ?_⟩
    walk_at "r"
    have D5 := (D.fp f5 (by simp [nst.symm, nsl.symm])).sub (g := [("queue", q), ("sending", y0), ("slots", y1), ("pace", y2), ("wait", y3), ("idle", y4)]) (fun p hp => hp)
    refine D5.put (by (repeat refine nm_cons (by decide +kernel) ?_); exact nm_nil) (by simp) fun H6 D6 f6 => ?_
    have S6 := S5.fp f6 (by simp [nst]) (by simp [nsl])
    walk_at "r"
    refine a3 ⟨st, sl, 16, 64, rfl, rfl, rfl, S6, by omega, by omega, fun ro H7 _ _ S7 f7 => ?_⟩
    walk_at "r"
    refine (D6.fp f7 (by simp [nst.symm, nsl.symm])).put (by (repeat refine nm_cons (by decide +kernel) ?_); exact nm_nil) (by simp) fun H8 D8 f8 => ?_
    have S8 := S7.fp f8 (by simp [nst]) (by simp [nsl])
    walk_at "r"
    refine a2 ⟨st, sl, 65, rfl, rfl, S8, by omega, by omega, fun re H9 _ re1 S9 f9 => ?_⟩
    walk_at "r"
    refine (D8.fp f9 (by simp [nst.symm, nsl.symm])).put (by (repeat refine nm_cons (by decide +kernel) ?_); exact nm_nil) (by simp) fun H10 D10 f10 => ?_
    have S10 := S9.fp f10 (by simp [nst]) (by simp [nsl])
    walk_at "r"
    refine a2 ⟨st, sl, 65, rfl, rfl, S10, by omega, by omega, fun tr H11 _ tr1 S11 f11 => ?_⟩
    walk_at "r"
    refine (D10.fp f11 (by simp [nst.symm, nsl.symm])).put (by (repeat refine nm_cons (by decide +kernel) ?_); exact nm_nil) (by simp) fun H12 D12 f12 => ?_
    have S12 := S11.fp f12 (by simp [nst]) (by simp [nsl])
    clear D D5 D6 D8 D10 S S5 S6 S7 S8 S9 S10 S11 f5 f6 f7 f8 f9 f10 f11 f12
    have V12 : VAt H12 va ⟨q, y0, y1, y2, co, y3, y4, ro, re, tr⟩ := D12.vat (by simp [namesL, fldsI])
    walk_at "r"
    refine a1 ⟨va, _, rfl, V12, fun H13 f13 => ?_⟩
    walk_at "r"
    refine a1 ⟨va, _, rfl, V12.fp f13 (by simp), fun H14 f14 => ?_⟩
    walk_at "r"
    rw [due_chk (x := ⟨q, y0, y1, y2, co, y3, y4, ro, re, tr⟩) (by show re ≤ 64; omega) (by show tr ≤ 64; omega)]
    refine if_ndF rfl ?_
    have S14 := S12.fp (f13.trans f14) (by simp) (by simp)
    walk_at "r"
    refine ⟨sz (by simp), fun dv hdv => ?_⟩
    have nd1 : st ≠ dv := by obtain ⟨_, _, z, _⟩ := S14; exact ne_of_none z hdv
    have nd2 : sl ≠ dv := by obtain ⟨_, _, _, z, _⟩ := S14; exact ne_of_none z hdv
    have L15 : upd H14 dv (.lst []) dv = some (.lst []) := upd_same
    have S15 := S14.fp (Fp.new (fp := []) (o := .lst []) hdv) (by simp) (by simp)
    generalize upd H14 dv _ = H15 at L15 S15 ⊢
    clear S14 S12 V12 D12
    walk_at "r"
    refine f_rng1 ?_
    walk_at "r"
    refine a2 ⟨st, sl, 6, rfl, rfl, S15, by omega, by omega, fun nd H16 nd0 nd6 S16 f16 => ?_⟩
    walk_at "r"
    refine k_rng (fun i σ H' => ∃ ps xs kv qv, σ = [some (.ref b), some (.ref st), some (.ref va), some (.ref l1), u1, u2, u3, some (.ref dv), kv, qv, none, none, none, none, none, none, none, none, none] ∧
      StAt H' st sl ∧ H' dv = some (.lst (ps.map V.ref)) ∧ SetsAt a.C_Settings H' ps xs ∧ ps.length = i) (by omega) (by omega) ?_ ?_ ?_
    · exact ⟨[], [], none, none, rfl, S16, f16 _ _ L15 (by simp [nd1.symm, nd2.symm]), ⟨rfl, fun i p x h1 h2 => by cases h1⟩, rfl⟩
    · rintro i σ H0 hi ⟨ps, xs, kv, qv, rfl, S, L, hs, hl⟩
      walk_at "r"
      refine a2 ⟨st, sl, 16, rfl, rfl, S, by omega, by omega, fun r0 H1 a0 b0 S1 f1 => ?_⟩
      have LL := f1 _ _ L (by simp [nd1.symm, nd2.symm])
      walk_at "r"
      refine a2 ⟨st, sl, 16, rfl, rfl, S1, by omega, by omega, fun r1 H2 a1 b1 S2 f2 => ?_⟩
      walk_at "r"
      refine a2 ⟨st, sl, 32, rfl, rfl, S2, by omega, by omega, fun r2 H3 a2 b2 S3 f3 => ?_⟩
      walk_at "r"
      refine Rd.a2 ⟨st, sl, 16, rfl, rfl, S3, by omega, by omega, fun r3 H4 a3 b3 S4 f4 => ?_⟩
      walk_at "r"
      refine Rd.a2 ⟨st, sl, _, rfl, rfl, S4, by omega, by omega, fun r4 H5 a4 b4 S5 f5 => ?_⟩
      walk_at "r"
      refine Rd.a2 ⟨st, sl, 32, rfl, rfl, S5, by omega, by omega, fun r5 H6 a5 b5 S6 f6 => ?_⟩
      walk_at "r"
      refine Rd.a2 ⟨st, sl, 32, rfl, rfl, S6, by omega, by omega, fun r6 H7 a6 b6 S7 f7 => ?_⟩
      walk_at "r"
      refine Rd.a2 ⟨st, sl, 49, rfl, rfl, S7, by omega, by omega, fun r7 H8 a7 b7 S8 f8 => ?_⟩
      walk_at "r"
      refine Rd.a2 ⟨st, sl, 8, rfl, rfl, S8, by omega, by omega, fun r8 H9 a8 b8 S9 f9 => ?_⟩
      walk_at "r"
      refine Rd.a2 ⟨st, sl, 8, rfl, rfl, S9, by omega, by omega, fun r9 H10 a9 b9 S10 f10 => ?_⟩
      have F := ((((((((f1.trans f2).trans f3).trans f4).trans f5).trans f6).trans f7).trans f8).trans f9).trans f10
      have L10 := F _ _ L (by simp [nd1.symm, nd2.symm])
      have hs10 := hs.keep S F
      clear f1 f2 f3 f4 f5 f6 f7 f8 f9 f10 S1 S2 S3 S4 S5 S6 S7 S8 S9 F
      walk_at "r"
      refine ⟨rfl, fun p dx np ndx nedx => ?_⟩
      have g1 : upd (upd H10 dx (.own p)) p (.ins a.C_Settings dx []) p = some (.ins a.C_Settings dx []) := upd_same
      have f1 : Fp [] H10 (upd (upd H10 dx (.own p)) p (.ins a.C_Settings dx [])) := (Fp.new ndx).trans (Fp.new (by rw [upd_ne nedx.symm]; exact np))
      generalize upd (upd H10 dx (.own p)) p (.ins a.C_Settings dx []) = H11 at g1 f1 ⊢
      have ok : firstFail (chkS (1 + r0) (1 + r1) (1 + r2) (1 + r3) (1 + r4) (1 + r5) (1 + r6) (16 + r7) (1 + r8) (1 + r9)) = none := by
        unfold chkS
        rw [ff_T (decide_eq_true (by omega)), ff_T (decide_eq_true (by omega)), ff_T (decide_eq_true (by omega)), ff_T (decide_eq_true (by omega)), ff_T (decide_eq_true (by omega)), ff_T (decide_eq_true (by omega)), ff_T (decide_eq_true (by omega)), ff_T (decide_eq_true (by omega)), ff_T (decide_eq_true (by omega)), ff_T (decide_eq_true (by omega))]
        rfl
      refine Rd.a11 ⟨p, dx, _, _, _, _, _, _, _, _, _, _, rfl, rfl, rfl, rfl, rfl, rfl, rfl, rfl, rfl, rfl, rfl, g1, fun z hz => (by rw [ok] at hz; cases hz), fun _ H12 T12 f12 => ⟨rfl, ?_⟩⟩
      have F12 : Fp [] H10 H12 := Fp.drop (fp := [p]) ((f1.mono (by simp)).trans f12) fun z hz => by
        rcases List.mem_singleton.mp hz with rfl
        exact .inr np
      have L12 := F12 _ _ L10 (by simp)
      have hs12 := hs10.fp F12 (by simp)
      have S12 := S10.fp F12 (by simp) (by simp)
      walk_at "r"
      refine c_app L12 (sz (by rw [List.length_map]; omega)) ?_
      have f13 : Fp [dv] H12 (upd H12 dv (.lst (ps.map V.ref ++ [.ref p]))) := Fp.at_ (by simp)
      walk_at "r"
      have T12' : SetIs a.C_Settings H12 p ⟨1 + r0, 1 + r1, 1 + r2, 1 + r3, 1 + r4, 1 + r5, 1 + r6, 16 + r7, 1 + r8, 1 + r9⟩ := T12
      exact ⟨ps ++ [p], xs ++ [⟨1 + r0, 1 + r1, 1 + r2, 1 + r3, 1 + r4, 1 + r5, 1 + r6, 16 + r7, 1 + r8, 1 + r9⟩], _, _, rfl, S12.fp f13 (by simp [nd1]) (by simp [nd2]), by rw [upd_same, List.map_append]; rfl, (hs12.snoc T12').keepL L12 f13, by simp [hl]⟩
    · clear L15 S15 S16 f16
      rintro σ H0 ⟨ps, xs, kv, qv, rfl, S, L, hs, hl⟩
      have hl6 : ps.length ≤ 6 := by omega
      clear hl
      walk_at "r"
      refine Rd.a3 ⟨st, sl, _, 256, rfl, rfl, rfl, S, by rw [List.length_map]; omega, by rw [List.length_map]; omega, fun bu H1 _ _ S1 f1 => ?_⟩
      walk_at "r"
      refine Rd.a3 ⟨st, sl, 1, 16, rfl, rfl, rfl, S1, by omega, by omega, fun sz_ H2 _ _ S2 f2 => ?_⟩
      walk_at "r"
      refine Rd.a3 ⟨st, sl, 1, 12, rfl, rfl, rfl, S2, by omega, by omega, fun jb H3 _ _ S3 f3 => ?_⟩
      have F3 := (f1.trans f2).trans f3
      have L3 := F3 _ _ L (by simp [nd1.symm, nd2.symm])
      have hs3 := hs.keep S F3
      clear hs L S S1 S2 f1 f2 f3 F3
      walk_at "r"
      refine lc_pure (xs := ps.map V.ref) (ys := (xs.map fun x => x.re + x.tr).map V.int) rfl (Or.inl (Or.inl L3)) (by simp [hs3.1]) (by simp; omega) (fun E2 i x y H2 R hE hx hy e hR => ?_) fun E2 hE => ?_
      · obtain ⟨p, hp, rfl⟩ : ∃ p, ps[i]? = some p ∧ V.ref p = x := by rw [List.getElem?_map] at hx; simpa using hx
        obtain ⟨sv, hsv, rfl⟩ : ∃ sv, xs[i]? = some sv ∧ V.int (sv.re + sv.tr) = y := by rw [List.map_map, List.getElem?_map] at hy; simpa using hy
        obtain ⟨dx, ho⟩ := hs3.2 i p sv hp hsv
        have npE : p ≠ E2 := ne_of_none ho hE
        refine ⟨rfl, ?_⟩
        subst e
        walk_at "r"
        exact hR
      walk_at "r"
      refine c_sum (Or.inl (Or.inl upd_same)) ?_
      have es : (xs.map fun x => x.re + x.tr).sum = sumB xs := rfl
      rw [es]
      have F4 : Fp [] H3 (upd H3 E2 (.lst ((xs.map fun x => x.re + x.tr).map V.int))) := Fp.new hE
      have S4 := S3.fp F4 (by simp) (by simp)
      have L4 := F4 _ _ L3 (by simp)
      have hs4 := hs3.fp F4 (by simp)
      generalize upd H3 E2 _ = H4 at F4 S4 L4 hs4 ⊢
      clear S3 L3 hs3 F4
      walk_at "r"
      refine Rd.a3 ⟨st, sl, 1, 64, rfl, rfl, rfl, S4, by omega, by omega, fun pv H5 _ _ S5 f5 => ?_⟩
      walk_at "r"
      refine ⟨sz (by simp), fun pl hpl => ?_⟩
      have F6 := Fp.new (fp := []) (o := .lst [.int pv, .int (jb + sumB xs), .int (jb + sumB xs - 1)]) hpl
      have S6 := S5.fp F6 (by simp) (by simp)
      have np1 : st ≠ pl := by obtain ⟨_, _, z, _⟩ := S5; exact ne_of_none z hpl
      have np2 : sl ≠ pl := by obtain ⟨_, _, _, z, _⟩ := S5; exact ne_of_none z hpl
      have L5 := f5 _ _ L4 (by simp [nd1.symm, nd2.symm])
      have L6 := F6 _ _ L5 (by simp)
      have hs6 := (hs4.keep S4 f5).fp F6 (by simp)
      have P6 : upd H5 pl (.lst [.int pv, .int (jb + sumB xs), .int (jb + sumB xs - 1)]) pl = some (.lst [.int pv, .int (jb + sumB xs), .int (jb + sumB xs - 1)]) := upd_same
      generalize upd H5 pl _ = H6 at S6 L6 hs6 P6 ⊢
      clear S4 S5 L4 L5 hs4 F6 f5
      walk_at "r"
      refine Rd.a2 ⟨st, sl, 3, rfl, rfl, S6, by omega, by omega, fun r H7 r0 r3 S7 f7 => ?_⟩
      obtain ⟨pe, hpe⟩ : ∃ pe : Int, atI [V.int pv, V.int (jb + sumB xs), V.int (jb + sumB xs - 1)] r = some (V.int pe) := by
        have h3 : r = (0 : Nat) ∨ r = (1 : Nat) ∨ r = (2 : Nat) := by omega
        rcases h3 with rfl | rfl | rfl
        · exact ⟨_, atI_nat rfl⟩
        · exact ⟨_, atI_nat rfl⟩
        · exact ⟨_, atI_nat rfl⟩
      refine o_ixL (Or.inl (Or.inl (f7 _ _ P6 (by simp [np1.symm, np2.symm])))) hpe ?_
      have L7 := f7 _ _ L6 (by simp [nd1.symm, nd2.symm])
      have hs7 := hs6.keep S6 f7
      clear L6 hs6 P6 S6 f7 S7
      walk_at "r"
      refine Rd.a5 ⟨dv, ps, xs, bu, sz_, pe, jb, rfl, rfl, rfl, rfl, rfl, L7, hs7, by omega, fun H8 f8 => ?_⟩
      walk_at "r"
      refine Rd.a5 ⟨dv, ps, xs, bu, sz_, pe, jb, rfl, rfl, rfl, rfl, rfl, f8 _ _ L7 (by simp), hs7.fp f8 (by simp), by omega, fun H9 f9 => ?_⟩
      walk_at "r"
      refine if_ndF rfl ?_
      clear L7 hs7 f8 f9
      walk_at "r"
      refine ⟨rfl, fun q0 dx np ndx nedx => ?_⟩
      have g1 : upd (upd H9 dx (.own q0)) q0 (.ins a.C_Settings dx []) q0 = some (.ins a.C_Settings dx []) := upd_same
      generalize upd (upd H9 dx (.own q0)) q0 (.ins a.C_Settings dx []) = H10 at g1 ⊢
      refine Rd.a11 ⟨q0, dx, 4, 4, 2, 1, 1, 1, 4, 16, 1, 1, rfl, rfl, rfl, rfl, rfl, rfl, rfl, rfl, rfl, rfl, rfl, g1, fun z hz => (by rw [ff_def] at hz; cases hz), fun _ H11 T11 f11 => ⟨rfl, ?_⟩⟩
      obtain ⟨dx2, ho⟩ := T11
      walk_at "r"
      refine ⟨sz (by simp), fun w1 hw1 => ?_⟩
      have m1 : q0 ≠ w1 := ne_of_none ho hw1
      walk_at "r"
      refine ⟨sz (by simp), fun v1 hv1 => ?_⟩
      have n1 : w1 ≠ v1 := ne_of_none upd_same hv1
      refine o_neL (xs := [4, 4, 2, 1, 1].map V.int) (Or.inl (Or.inl (by rw [upd_ne n1]; exact upd_same))) (Or.inl (Or.inl upd_same)) (flat_ints _) ?_
      have F12 : Fp [] H11 _ := (Fp.new (o := .lst [.int 4, .int 4, .int 2, .int 1, .int 1]) hw1).trans (Fp.new (o := .lst [.int 4, .int 4, .int 2, .int 1, .int 1]) hv1)
      have h12 := F12 _ _ ho (by simp)
      walk_at "r"
      refine iteF ?_
      generalize upd (upd H11 w1 _) v1 _ = H12 at h12 ⊢
      clear F12
      walk_at "r"
      refine ⟨sz (by simp), fun w2 hw2 => ?_⟩
      have m2 : q0 ≠ w2 := ne_of_none h12 hw2
      walk_at "r"
      refine ⟨sz (by simp), fun v2 hv2 => ?_⟩
      have n2 : w2 ≠ v2 := ne_of_none upd_same hv2
      refine o_neL (xs := [1, 4, 16, 1, 1].map V.int) (Or.inl (Or.inl (by rw [upd_ne n2]; exact upd_same))) (Or.inl (Or.inl upd_same)) (flat_ints _) ?_
      have F13 : Fp [] H12 _ := (Fp.new (o := .lst [.int 1, .int 4, .int 16, .int 1, .int 1]) hw2).trans (Fp.new (o := .lst [.int 1, .int 4, .int 16, .int 1, .int 1]) hv2)
      have h13 := F13 _ _ h12 (by simp)
      walk_at "r"
      refine iteF ?_
      generalize upd (upd H12 w2 _) v2 _ = H13 at h13 ⊢
      clear F13
      walk_at "r"
      refine ⟨sz (by simp), fun dl hdl => ?_⟩
      have f14 := Fp.new (fp := []) (o := .lst [.ref q0]) hdl
      have h14 := f14 _ _ h13 (by simp)
      have L14 : upd H13 dl (.lst [.ref q0]) dl = some (.lst ([q0].map V.ref)) := upd_same
      generalize upd H13 dl _ = H14 at h14 L14 ⊢
      walk_at "r"
      refine ⟨rfl, fun p dy np ndy nedy => ?_⟩
      have g2 : upd (upd H14 dy (.own p)) p (.ins a.C_Config dy []) p = some (.ins a.C_Config dy []) := upd_same
      have f15 : Fp [] H14 (upd (upd H14 dy (.own p)) p (.ins a.C_Config dy [])) := (Fp.new ndy).trans (Fp.new (by rw [upd_ne nedy.symm]; exact np))
      have h15 := f15 _ _ h14 (by simp)
      have L15 := f15 _ _ L14 (by simp)
      generalize upd (upd H14 dy (.own p)) p (.ins a.C_Config dy []) = H15 at g2 h15 L15 ⊢
      have hsx : SetsAt a.C_Settings H15 [q0] [x0] := ⟨rfl, fun i p x h1 h2 => by
        match i, h1, h2 with
        | 0, h1, h2 => cases h1; cases h2; exact ⟨dx2, h15⟩
        | i + 1, h1, h2 => simp at h1⟩
      refine Rd.a6 ⟨p, dy, dl, [q0], [x0], 8, 4, 16, 4, rfl, rfl, rfl, rfl, rfl, rfl, g2, L15, hsx, by simp, fun z hz => (by rw [ff_defC] at hz; cases hz), fun _ dl2 H16 _ cf f16 => ⟨rfl, ?_⟩⟩
      obtain ⟨⟨dz, hp16⟩, _⟩ := cf
      walk_at "r"
      refine ⟨sz (by simp), fun w3 hw3 => ?_⟩
      walk_at "r"
      refine ⟨sz (by simp), fun v3 hv3 => ?_⟩
      have n3 : w3 ≠ v3 := ne_of_none upd_same hv3
      refine o_eqL (xs := [8, 4, 16, 4].map V.int) (Or.inl (Or.inl (by rw [upd_ne n3]; exact upd_same))) (Or.inl (Or.inl upd_same)) (flat_ints _) ?_
      walk_at "r"
      exact k _
end
end My
set_option Elab.async false
set_option maxRecDepth 100000
set_option maxHeartbeats 100000000
set_option linter.all false
namespace My
open PySem L2 Sx Rd
local macro_rules | `(tactic| walk_at "ne") => `(tactic| (first | assumption | exact Ne.symm (by assumption)))
local macro_rules | `(tactic| walk_at "hl") => `(tactic| (first | (with_reducible assumption) | exact upd_same | ((with_reducible refine' (upd_ne ?hne).trans ?hgo); (case hne => walk_at "ne"); (case hgo => walk_at "hl"))))
local macro_rules | `(tactic| walk_at "sq") => `(tactic| (first | (with_reducible assumption) | exact Or.inl (Or.inl (by walk_at "hl"))))
local macro_rules | `(tactic| walk_at "ar") => `(tactic| (first | omega | exact ⟨by omega, by omega⟩ | exact Or.inl ⟨by omega, by omega⟩ | exact Or.inr ⟨by omega, by omega⟩ | (show (0 : Int) < _; omega) | (show (0 : Int) < _ ∧ _ < (1073741824 : Int); omega)))
local macro_rules | `(tactic| walk_at "cls") => `(tactic| (first | exact Txt.cl_Settings (by assumption) | exact Txt.cl_Config (by assumption)))
local macro_rules | `(tactic| walk_at "noa") => `(tactic| (first | exact Txt.n_Settings_queue (by assumption) | exact Txt.n_Settings_sending (by assumption) | exact Txt.n_Settings_slots (by assumption) | exact Txt.n_Settings_pace (by assumption) | exact Txt.n_Settings_count_limit (by assumption) | exact Txt.n_Settings_wait (by assumption) | exact Txt.n_Settings_idle (by assumption) | exact Txt.n_Settings_room (by assumption) | exact Txt.n_Settings_receive (by assumption) | exact Txt.n_Settings_transmit (by assumption) | exact Txt.n_Config_devices (by assumption) | exact Txt.n_Config_buffers (by assumption) | exact Txt.n_Config_size (by assumption) | exact Txt.n_Config_period (by assumption) | exact Txt.n_Config_jobs (by assumption)))
local macro_rules | `(tactic| walk_at "lkp") => `(tactic| (first | (with_reducible exact F_Settings_queue_l) | (with_reducible exact F_Settings_sending_l) | (with_reducible exact F_Settings_slots_l) | (with_reducible exact F_Settings_pace_l) | (with_reducible exact F_Settings_count_limit_l) | (with_reducible exact F_Settings_wait_l) | (with_reducible exact F_Settings_idle_l) | (with_reducible exact F_Settings_room_l) | (with_reducible exact F_Settings_receive_l) | (with_reducible exact F_Settings_transmit_l) | (with_reducible exact F_Config_devices_l) | (with_reducible exact F_Config_buffers_l) | (with_reducible exact F_Config_size_l) | (with_reducible exact F_Config_period_l) | (with_reducible exact F_Config_jobs_l)))
local macro_rules | `(tactic| walk_at "ptf") => `(tactic| (first | (with_reducible exact F_Settings_queue_p) | (with_reducible exact F_Settings_sending_p) | (with_reducible exact F_Settings_slots_p) | (with_reducible exact F_Settings_pace_p) | (with_reducible exact F_Settings_count_limit_p) | (with_reducible exact F_Settings_wait_p) | (with_reducible exact F_Settings_idle_p) | (with_reducible exact F_Settings_room_p) | (with_reducible exact F_Settings_receive_p) | (with_reducible exact F_Settings_transmit_p) | (with_reducible exact F_Config_devices_p) | (with_reducible exact F_Config_buffers_p) | (with_reducible exact F_Config_size_p) | (with_reducible exact F_Config_period_p) | (with_reducible exact F_Config_jobs_p) | exact rfl))
local macro_rules | `(tactic| walk_at "lnF") => `(tactic| (first | (with_reducible exact F_Settings_len) | (with_reducible exact F_Config_len) | (refine PL.lt (n := 60) ?_ (by decide); (repeat refine PL.put ?_); exact PL.nil) | decide))
local macro_rules | `(tactic| walk_at "nol") => `(tactic| (first | fail))
local macro_rules | `(tactic| walk_at "r1") => `(tactic| (first
  | with_reducible refine s_seq ?_ | with_reducible refine s_asg ?_ | with_reducible refine g_name ?_ | with_reducible refine s_ret ?_ | with_reducible refine s_if ?_ | with_reducible refine s_drop ?_
  | with_reducible refine d_nx ?_ | with_reducible refine d_rt ?_ | with_reducible refine d_bk ?_ | with_reducible refine d_ct ?_ | with_reducible refine s_next ?_ | with_reducible refine s_retN ?_ | with_reducible refine s_cont ?_ | with_reducible refine s_break ?_
  | ((with_reducible refine' e_var ?hv ?_); (case hv => exact rfl))
  | with_reducible refine o_chC ?_ | ((with_reducible refine' o_chV ?hv ?_); (case hv => exact rfl))
  | with_reducible refine e_c ?_ | with_reducible refine e_op ?_ | with_reducible refine e_un ?_ | with_reducible refine o_I0 ?_ | with_reducible refine o_U ?_
  | ((with_reducible refine' o_I ?hc ?_); (case hc => walk_at "ar"))
  | ((with_reducible refine' o_eq ?hs ?_); (case hs => exact rfl))
  | ((with_reducible refine' o_ne ?hs ?_); (case hs => exact rfl))
  | ((with_reducible refine' o_ixL ?h1 ?h2 ?_); (case h1 => walk_at "sq"); (case h2 => first | exact rfl | exact atI_zero _ _))
  | with_reducible refine e_fld ?_ | with_reducible refine s_fld ?_ | with_reducible refine e_meth ?_ | with_reducible refine e_call ?_ | with_reducible refine e_make ?_
  | ((with_reducible refine' k_fld ?h1 ?h2 ?h3 ?h4 ?_); (case h1 => walk_at "hl"); (case h2 => walk_at "cls"); (case h3 => walk_at "noa"); (case h4 => walk_at "lkp"))
  | ((with_reducible refine' k_set ?h1 ?h2 ?h3 ?h4 ?h5 ?_); (case h1 => walk_at "hl"); (case h2 => walk_at "cls"); (case h3 => walk_at "noa"); (case h4 => walk_at "ptf"); (case h5 => walk_at "lnF"))
  | ((with_reducible refine' k_meth ?h1 ?h2 ?_); (case h1 => walk_at "hl"); (case h2 => walk_at "nol"))
  | with_reducible refine e_cb ?_ | with_reducible refine l_cons ?_ | with_reducible refine l_nil ?_ | with_reducible refine e_lst ?_ | with_reducible refine e_tup ?_
  | with_reducible refine e_bm ?_ | with_reducible refine e_bm0 ?_ | with_reducible refine e_not ?_ | with_reducible refine e_if ?_
  | with_reducible refine t_test ?_ | with_reducible refine t_B ?_ | with_reducible refine k_t ?_ | with_reducible refine t_and ?_ | with_reducible refine t_or ?_ | with_reducible refine t_not ?_
  | with_reducible refine e_chain ?_ | with_reducible refine s_raise ?_ | with_reducible refine e_sl ?_ | with_reducible refine p_no ?_ | with_reducible refine p_some ?_ | with_reducible refine g_sub ?_
  | ((with_reducible refine' c_ln ?h1 ?_); (case h1 => walk_at "sq"))
  | ((with_reducible refine' c_pop0 ?h1 ?h2 ?_); (case h1 => walk_at "hl"); (case h2 => omega))
  | ((with_reducible refine' k_ty ?h1 ?_); (case h1 => walk_at "sq"))
  | with_reducible refine c_isBool ?_ | with_reducible refine c_isInt ?_ | with_reducible refine c_isBoolN ?_
  | with_reducible refine e_xf ?_
  | ((with_reducible refine' k_xf ?h1 ?h2 ?_); (case h1 => walk_at "hl"); (case h2 => exact look_hit _ _ _))
  | with_reducible refine k_i ?_
  | ((with_reducible refine' o_slL ?h1 ?_); (case h1 => walk_at "sq"))
  | ((with_reducible refine' k_dget ?h1 ?h2 ?_); (case h1 => walk_at "hl"); (case h2 => with_reducible assumption))
  | with_reducible refine e_dget ?_ | with_reducible refine s_dput ?_ | with_reducible refine e_makeK ?_ | with_reducible refine g_cons ?_ | with_reducible refine g_nil ?_
  | with_reducible refine c_ab ?_ | with_reducible refine c_in ?_ | with_reducible refine c_mx ?_ | with_reducible refine c_mn ?_
  | with_reducible refine a1 ?_ | with_reducible refine a2 ?_ | with_reducible refine a3 ?_ | with_reducible refine a4 ?_ | with_reducible refine a5 ?_ | with_reducible refine a6 ?_ | with_reducible refine a0 ?_))
local macro_rules | `(tactic| walk_at "r") => `(tactic| (repeat walk_at "r1"))
section
variable {P : Program} {w : World} {K : PySem.W.Frag} {mg : Str → Option Value} {base : Heap} {a : Ads}
end
/-- the top's facts -/
theorem all_mk {l : PySem.W.OpenLaw} {w : World} {K : PySem.W.Frag} {h : Heap} {mg : Str → Option Value} {fa : Addr} (hl : l.prog = PySem.Challenge.pw_tickrings_k01_configurations) (X : K.In h) (G : h.Ns mainGlobals mg) (hfa : mg "law" = some (.ref fa))
    {C_TickringsError C_ConfigError C_Settings C_Config : Addr} {f_ConfigError_init f_require f_budget_sum f_Settings_init f_Config_init f_law_state f_law_draw f_law_value f_law_settings_due f_law_fields f_law_settings f_law_config_outcome f_law_config_due f_law : Addr}
    {oc_ConfigError_init : Value} {dc_ConfigError_init : Value} {pm_ConfigError_init : Value} {ct_ConfigError_init : Value} {kV_ConfigError_init : Value} {od_ConfigError_init : Option Addr} {an_ConfigError_init : Option Addr} {sl_ConfigError_init : Array (Option Value)} {nm_ConfigError : Str} {qn_ConfigError : Str} {N_ConfigError : Addr} {bs_ConfigError : List Value} {bm_ConfigError : List Value} {sub_ConfigError : List Value} {sn_ConfigError : List Str} {ab_ConfigError : Bool} {col_ConfigError : Option Bool} {dd_ConfigError : Option Addr} {k0_ConfigError k1_ConfigError k2_ConfigError k3_ConfigError k5_ConfigError : Option Value} {cda_ConfigError cc_ConfigError : Addr} {cl_ConfigError ccl_ConfigError : Value} {cld_ConfigError cdd_ConfigError : Option Addr} {csl_ConfigError ccs_ConfigError : Array (Option Value)} {vs_ConfigError : Array Value} {file_ConfigError : Str} {tf_ConfigError : Tok} {oc_require : Value} {dc_require : Value} {pm_require : Value} {cd_require : Value} {ct_require : Value} {kV_require : Value} {od_require : Option Addr} {an_require : Option Addr} {sl_require : Array (Option Value)} {oc_budget_sum : Value} {dc_budget_sum : Value} {pm_budget_sum : Value} {cd_budget_sum : Value} {ct_budget_sum : Value} {kV_budget_sum : Value} {od_budget_sum : Option Addr} {an_budget_sum : Option Addr} {sl_budget_sum : Array (Option Value)} {oc_Settings_init : Value} {dc_Settings_init : Value} {pm_Settings_init : Value} {cd_Settings_init : Value} {ct_Settings_init : Value} {od_Settings_init : Option Addr} {an_Settings_init : Option Addr} {sl_Settings_init : Array (Option Value)} {D_Settings_init : Addr} {t_Settings_init_queue : Tok} {t_Settings_init_sending : Tok} {t_Settings_init_slots : Tok} {t_Settings_init_pace : Tok} {t_Settings_init_count : Tok} {t_Settings_init_wait : Tok} {t_Settings_init_idle : Tok} {t_Settings_init_room : Tok} {t_Settings_init_receive : Tok} {t_Settings_init_transmit : Tok} {oc_Config_init : Value} {dc_Config_init : Value} {pm_Config_init : Value} {cd_Config_init : Value} {ct_Config_init : Value} {od_Config_init : Option Addr} {an_Config_init : Option Addr} {sl_Config_init : Array (Option Value)} {D_Config_init : Addr} {t_Config_init_buffers : Tok} {t_Config_init_size : Tok} {t_Config_init_period : Tok} {t_Config_init_jobs : Tok} {oc_law_state : Value} {dc_law_state : Value} {pm_law_state : Value} {cd_law_state : Value} {ct_law_state : Value} {kV_law_state : Value} {od_law_state : Option Addr} {an_law_state : Option Addr} {sl_law_state : Array (Option Value)} {oc_law_draw : Value} {dc_law_draw : Value} {pm_law_draw : Value} {cd_law_draw : Value} {ct_law_draw : Value} {kV_law_draw : Value} {od_law_draw : Option Addr} {an_law_draw : Option Addr} {sl_law_draw : Array (Option Value)} {oc_law_value : Value} {dc_law_value : Value} {pm_law_value : Value} {cd_law_value : Value} {ct_law_value : Value} {kV_law_value : Value} {od_law_value : Option Addr} {an_law_value : Option Addr} {sl_law_value : Array (Option Value)} {oc_law_settings_due : Value} {dc_law_settings_due : Value} {pm_law_settings_due : Value} {cd_law_settings_due : Value} {ct_law_settings_due : Value} {kV_law_settings_due : Value} {od_law_settings_due : Option Addr} {an_law_settings_due : Option Addr} {sl_law_settings_due : Array (Option Value)} {oc_law_fields : Value} {dc_law_fields : Value} {pm_law_fields : Value} {cd_law_fields : Value} {ct_law_fields : Value} {kV_law_fields : Value} {od_law_fields : Option Addr} {an_law_fields : Option Addr} {sl_law_fields : Array (Option Value)} {oc_law_settings : Value} {dc_law_settings : Value} {pm_law_settings : Value} {cd_law_settings : Value} {ct_law_settings : Value} {kV_law_settings : Value} {od_law_settings : Option Addr} {an_law_settings : Option Addr} {sl_law_settings : Array (Option Value)} {oc_law_config_outcome : Value} {dc_law_config_outcome : Value} {pm_law_config_outcome : Value} {cd_law_config_outcome : Value} {ct_law_config_outcome : Value} {kV_law_config_outcome : Value} {od_law_config_outcome : Option Addr} {an_law_config_outcome : Option Addr} {sl_law_config_outcome : Array (Option Value)} {oc_law_config_due : Value} {dc_law_config_due : Value} {pm_law_config_due : Value} {cd_law_config_due : Value} {ct_law_config_due : Value} {kV_law_config_due : Value} {od_law_config_due : Option Addr} {an_law_config_due : Option Addr} {sl_law_config_due : Array (Option Value)} {oc_law : Value} {dc_law : Value} {pm_law : Value} {cd_law : Value} {ct_law : Value} {kV_law : Value} {od_law : Option Addr} {an_law : Option Addr} {sl_law : Array (Option Value)}
    (gC_TickringsError : PySem.W.nsIn K mainGlobals "TickringsError" = some (some (.ref C_TickringsError)))
    (gC_ConfigError : PySem.W.nsIn K mainGlobals "ConfigError" = some (some (.ref C_ConfigError)))
    (gC_Settings : PySem.W.nsIn K mainGlobals "Settings" = some (some (.ref C_Settings)))
    (gC_Config : PySem.W.nsIn K mainGlobals "Config" = some (some (.ref C_Config)))
    (x_ConfigError : K.lookup C_ConfigError = some (excClassObj nm_ConfigError qn_ConfigError C_ConfigError N_ConfigError bs_ConfigError bm_ConfigError true sn_ConfigError sub_ConfigError ab_ConfigError col_ConfigError dd_ConfigError k0_ConfigError k1_ConfigError k2_ConfigError k3_ConfigError k5_ConfigError "ValueError.__new__"))
    (hbm_ConfigError : PySem.HandSPX.refsVE bm_ConfigError = true)
    (sa_ConfigError : PySem.W.findIn K (.ref C_ConfigError) "__setattr__" = some (some (.builtin "object.__setattr__")))
    (ex_ConfigError : PySem.W.subIn K (.ref C_ConfigError) (.type "BaseException") = some true)
    (ty_ConfigError : PySem.W.typeIn K (.ref C_ConfigError) = some (.type "type"))
    (kp_ConfigError : PySem.W.keepIn K (.ref C_ConfigError) = true)
    (su_ConfigError : PySem.W.ks_superIn K C_ConfigError C_ConfigError "__init__" = some (some (.builtin "ValueError.__init__")))
    (ve_ConfigError : PySem.W.subIn K (.ref C_ConfigError) (.type "ValueError") = some true)
    (op_ConfigError : PySem.W.nsIn K cStatics "thirdparty.any" = some none)
    (sm_ConfigError : PySem.W.mroIn K C_ConfigError (.ref C_ConfigError) = some true)
    (ic_ConfigError : PySem.W.findIn K (.ref C_ConfigError) "__init__" = some (some (.ref f_ConfigError_init)))
    (ti_ConfigError : PySem.W.typeIn K (.ref f_ConfigError_init) = some (.type "function"))
    (l_ConfigError_init : K.lookup f_ConfigError_init = some ⟨oc_ConfigError_init, od_ConfigError_init, .func (PySem.W.fnX "__init__" "ConfigError.__init__" (defArgs s_ConfigError_init) (defBody s_ConfigError_init) (defScope s_ConfigError_init) [("__class__", cc_ConfigError)] .none kV_ConfigError_init dc_ConfigError_init pm_ConfigError_init an_ConfigError_init (.ref cda_ConfigError) ct_ConfigError_init), sl_ConfigError_init⟩)
    (c_ConfigError_init : PySem.W.codeIn K (.ref cda_ConfigError) "ConfigError.__init__" = true)
    (ce_ConfigError : K.lookup cc_ConfigError = some ⟨cl_ConfigError, cld_ConfigError, .cell (some (.ref C_ConfigError)), csl_ConfigError⟩)
    (co_ConfigError : K.lookup cda_ConfigError = some ⟨ccl_ConfigError, cdd_ConfigError, .fields vs_ConfigError, ccs_ConfigError⟩)
    (cv_ConfigError : vs_ConfigError[2]? = some (.str file_ConfigError tf_ConfigError))
    (cf_ConfigError : ((PySem.Challenge.pw_tickrings_k01_configurations.main.file : Str) == file_ConfigError) = true)
    (no_ConfigError : PySem.W.findIn K (.ref C_ConfigError) "setting" = some none)
    (ga_ConfigError : PySem.W.findIn K (.ref C_ConfigError) "__getattribute__" = some (some (.builtin "BaseException.__getattribute__")))
    (gg_ConfigError : PySem.W.findIn K (.ref C_ConfigError) "__getattr__" = some none)
    (hd_ConfigError : PySem.W.hasDictIn K C_ConfigError = true)
    (ha_ConfigError : PySem.W.findIn K (.ref C_ConfigError) "__class__" = some (some (.builtin "object.__class__")))
    (hn_ConfigError : PySem.W.specialIn K (.builtin "object.__class__") "__get__" = some (some (.builtin "getset_descriptor.__get__")))
    (ht_ConfigError : PySem.W.takesIn K (.builtin "object.__class__") = some true)
    (hm_ConfigError : PySem.W.mroIn K C_ConfigError (.type "object") = some true)
    (ow_ConfigError : PySem.W.subIn K (.ref C_ConfigError) (.ref C_ConfigError) = some true)
    (a_require : PySem.W.nsIn K mainGlobals "_require" = some (some (.ref f_require)))
    (l_require : K.lookup f_require = some ⟨oc_require, od_require, .func (PySem.W.fnOf "_require" "_require" (defArgs s_require) (defBody s_require) (defScope s_require) .none kV_require dc_require pm_require an_require cd_require ct_require), sl_require⟩)
    (c_require : PySem.W.codeIn K cd_require "_require" = true)
    (k_require : PySem.W.keepIn K (.ref f_require) = true)
    (a_budget_sum : PySem.W.nsIn K mainGlobals "_budget_sum" = some (some (.ref f_budget_sum)))
    (l_budget_sum : K.lookup f_budget_sum = some ⟨oc_budget_sum, od_budget_sum, .func (PySem.W.fnOf "_budget_sum" "_budget_sum" (defArgs s_budget_sum) (defBody s_budget_sum) (defScope s_budget_sum) .none kV_budget_sum dc_budget_sum pm_budget_sum an_budget_sum cd_budget_sum ct_budget_sum), sl_budget_sum⟩)
    (c_budget_sum : PySem.W.codeIn K cd_budget_sum "_budget_sum" = true)
    (k_budget_sum : PySem.W.keepIn K (.ref f_budget_sum) = true)
    (a_Settings_init : PySem.W.findIn K (.ref C_Settings) "__init__" = some (some (.ref f_Settings_init)))
    (i_Settings_init : PySem.W.isFn K (.ref f_Settings_init) = true)
    (l_Settings_init : K.lookup f_Settings_init = some ⟨oc_Settings_init, od_Settings_init, .func (PySem.W.fnOf "__init__" "Settings.__init__" (defArgs s_Settings_init) (defBody s_Settings_init) (defScope s_Settings_init) .none (.ref D_Settings_init) dc_Settings_init pm_Settings_init an_Settings_init cd_Settings_init ct_Settings_init), sl_Settings_init⟩)
    (d_Settings_init_queue : PySem.W.nsIn K D_Settings_init "queue" = some (some (.int 4 t_Settings_init_queue)))
    (d_Settings_init_sending : PySem.W.nsIn K D_Settings_init "sending" = some (some (.int 4 t_Settings_init_sending)))
    (d_Settings_init_slots : PySem.W.nsIn K D_Settings_init "slots" = some (some (.int 2 t_Settings_init_slots)))
    (d_Settings_init_pace : PySem.W.nsIn K D_Settings_init "pace" = some (some (.int 1 t_Settings_init_pace)))
    (d_Settings_init_count : PySem.W.nsIn K D_Settings_init "count" = some (some (.int 1 t_Settings_init_count)))
    (d_Settings_init_wait : PySem.W.nsIn K D_Settings_init "wait" = some (some (.int 1 t_Settings_init_wait)))
    (d_Settings_init_idle : PySem.W.nsIn K D_Settings_init "idle" = some (some (.int 4 t_Settings_init_idle)))
    (d_Settings_init_room : PySem.W.nsIn K D_Settings_init "room" = some (some (.int 16 t_Settings_init_room)))
    (d_Settings_init_receive : PySem.W.nsIn K D_Settings_init "receive" = some (some (.int 1 t_Settings_init_receive)))
    (d_Settings_init_transmit : PySem.W.nsIn K D_Settings_init "transmit" = some (some (.int 1 t_Settings_init_transmit)))
    (c_Settings_init : PySem.W.codeIn K cd_Settings_init "Settings.__init__" = true)
    (k_Settings_init : PySem.W.keepIn K (.ref f_Settings_init) = true)
    (a_Config_init : PySem.W.findIn K (.ref C_Config) "__init__" = some (some (.ref f_Config_init)))
    (i_Config_init : PySem.W.isFn K (.ref f_Config_init) = true)
    (l_Config_init : K.lookup f_Config_init = some ⟨oc_Config_init, od_Config_init, .func (PySem.W.fnOf "__init__" "Config.__init__" (defArgs s_Config_init) (defBody s_Config_init) (defScope s_Config_init) .none (.ref D_Config_init) dc_Config_init pm_Config_init an_Config_init cd_Config_init ct_Config_init), sl_Config_init⟩)
    (d_Config_init_buffers : PySem.W.nsIn K D_Config_init "buffers" = some (some (.int 8 t_Config_init_buffers)))
    (d_Config_init_size : PySem.W.nsIn K D_Config_init "size" = some (some (.int 4 t_Config_init_size)))
    (d_Config_init_period : PySem.W.nsIn K D_Config_init "period" = some (some (.int 16 t_Config_init_period)))
    (d_Config_init_jobs : PySem.W.nsIn K D_Config_init "jobs" = some (some (.int 4 t_Config_init_jobs)))
    (c_Config_init : PySem.W.codeIn K cd_Config_init "Config.__init__" = true)
    (k_Config_init : PySem.W.keepIn K (.ref f_Config_init) = true)
    (a_law_state : PySem.W.nsIn K mainGlobals "_law_state" = some (some (.ref f_law_state)))
    (l_law_state : K.lookup f_law_state = some ⟨oc_law_state, od_law_state, .func (PySem.W.fnOf "_law_state" "_law_state" (defArgs s_law_state) (defBody s_law_state) (defScope s_law_state) .none kV_law_state dc_law_state pm_law_state an_law_state cd_law_state ct_law_state), sl_law_state⟩)
    (c_law_state : PySem.W.codeIn K cd_law_state "_law_state" = true)
    (k_law_state : PySem.W.keepIn K (.ref f_law_state) = true)
    (a_law_draw : PySem.W.nsIn K mainGlobals "_law_draw" = some (some (.ref f_law_draw)))
    (l_law_draw : K.lookup f_law_draw = some ⟨oc_law_draw, od_law_draw, .func (PySem.W.fnOf "_law_draw" "_law_draw" (defArgs s_law_draw) (defBody s_law_draw) (defScope s_law_draw) .none kV_law_draw dc_law_draw pm_law_draw an_law_draw cd_law_draw ct_law_draw), sl_law_draw⟩)
    (c_law_draw : PySem.W.codeIn K cd_law_draw "_law_draw" = true)
    (k_law_draw : PySem.W.keepIn K (.ref f_law_draw) = true)
    (a_law_value : PySem.W.nsIn K mainGlobals "_law_value" = some (some (.ref f_law_value)))
    (l_law_value : K.lookup f_law_value = some ⟨oc_law_value, od_law_value, .func (PySem.W.fnOf "_law_value" "_law_value" (defArgs s_law_value) (defBody s_law_value) (defScope s_law_value) .none kV_law_value dc_law_value pm_law_value an_law_value cd_law_value ct_law_value), sl_law_value⟩)
    (c_law_value : PySem.W.codeIn K cd_law_value "_law_value" = true)
    (k_law_value : PySem.W.keepIn K (.ref f_law_value) = true)
    (a_law_settings_due : PySem.W.nsIn K mainGlobals "_law_settings_due" = some (some (.ref f_law_settings_due)))
    (l_law_settings_due : K.lookup f_law_settings_due = some ⟨oc_law_settings_due, od_law_settings_due, .func (PySem.W.fnOf "_law_settings_due" "_law_settings_due" (defArgs s_law_settings_due) (defBody s_law_settings_due) (defScope s_law_settings_due) .none kV_law_settings_due dc_law_settings_due pm_law_settings_due an_law_settings_due cd_law_settings_due ct_law_settings_due), sl_law_settings_due⟩)
    (c_law_settings_due : PySem.W.codeIn K cd_law_settings_due "_law_settings_due" = true)
    (k_law_settings_due : PySem.W.keepIn K (.ref f_law_settings_due) = true)
    (a_law_fields : PySem.W.nsIn K mainGlobals "_law_fields" = some (some (.ref f_law_fields)))
    (l_law_fields : K.lookup f_law_fields = some ⟨oc_law_fields, od_law_fields, .func (PySem.W.fnOf "_law_fields" "_law_fields" (defArgs s_law_fields) (defBody s_law_fields) (defScope s_law_fields) .none kV_law_fields dc_law_fields pm_law_fields an_law_fields cd_law_fields ct_law_fields), sl_law_fields⟩)
    (c_law_fields : PySem.W.codeIn K cd_law_fields "_law_fields" = true)
    (k_law_fields : PySem.W.keepIn K (.ref f_law_fields) = true)
    (a_law_settings : PySem.W.nsIn K mainGlobals "_law_settings" = some (some (.ref f_law_settings)))
    (l_law_settings : K.lookup f_law_settings = some ⟨oc_law_settings, od_law_settings, .func (PySem.W.fnOf "_law_settings" "_law_settings" (defArgs s_law_settings) (defBody s_law_settings) (defScope s_law_settings) .none kV_law_settings dc_law_settings pm_law_settings an_law_settings cd_law_settings ct_law_settings), sl_law_settings⟩)
    (c_law_settings : PySem.W.codeIn K cd_law_settings "_law_settings" = true)
    (k_law_settings : PySem.W.keepIn K (.ref f_law_settings) = true)
    (a_law_config_outcome : PySem.W.nsIn K mainGlobals "_law_config_outcome" = some (some (.ref f_law_config_outcome)))
    (l_law_config_outcome : K.lookup f_law_config_outcome = some ⟨oc_law_config_outcome, od_law_config_outcome, .func (PySem.W.fnOf "_law_config_outcome" "_law_config_outcome" (defArgs s_law_config_outcome) (defBody s_law_config_outcome) (defScope s_law_config_outcome) .none kV_law_config_outcome dc_law_config_outcome pm_law_config_outcome an_law_config_outcome cd_law_config_outcome ct_law_config_outcome), sl_law_config_outcome⟩)
    (c_law_config_outcome : PySem.W.codeIn K cd_law_config_outcome "_law_config_outcome" = true)
    (k_law_config_outcome : PySem.W.keepIn K (.ref f_law_config_outcome) = true)
    (a_law_config_due : PySem.W.nsIn K mainGlobals "_law_config_due" = some (some (.ref f_law_config_due)))
    (l_law_config_due : K.lookup f_law_config_due = some ⟨oc_law_config_due, od_law_config_due, .func (PySem.W.fnOf "_law_config_due" "_law_config_due" (defArgs s_law_config_due) (defBody s_law_config_due) (defScope s_law_config_due) .none kV_law_config_due dc_law_config_due pm_law_config_due an_law_config_due cd_law_config_due ct_law_config_due), sl_law_config_due⟩)
    (c_law_config_due : PySem.W.codeIn K cd_law_config_due "_law_config_due" = true)
    (k_law_config_due : PySem.W.keepIn K (.ref f_law_config_due) = true)
    (a_law : PySem.W.nsIn K mainGlobals "law" = some (some (.ref f_law)))
    (l_law : K.lookup f_law = some ⟨oc_law, od_law, .func (PySem.W.fnOf "law" "law" (defArgs s_law) (defBody s_law) (defScope s_law) .none kV_law dc_law pm_law an_law cd_law ct_law), sl_law⟩)
    (c_law : PySem.W.codeIn K cd_law "law" = true)
    (k_law : PySem.W.keepIn K (.ref f_law) = true)
    (pg_Settings : PySem.W.plainGet K C_Settings Str.empty = true)
    (hd_Settings : PySem.W.hasDictIn K C_Settings = true)
    (po_Settings : PySem.W.plainOver K C_Settings = true)
    (sa_Settings : PySem.W.findIn K (.ref C_Settings) "__setattr__" = some (some (.builtin "object.__setattr__")))
    (mk_Settings : PySem.W.makesIn K C_Settings = true)
    (kc_Settings : PySem.W.keepIn K (.ref C_Settings) = true)
    (n_Settings_queue : PySem.W.findIn K (.ref C_Settings) "queue" = some none)
    (n_Settings_sending : PySem.W.findIn K (.ref C_Settings) "sending" = some none)
    (n_Settings_slots : PySem.W.findIn K (.ref C_Settings) "slots" = some none)
    (n_Settings_pace : PySem.W.findIn K (.ref C_Settings) "pace" = some none)
    (n_Settings_count_limit : PySem.W.findIn K (.ref C_Settings) "count_limit" = some none)
    (n_Settings_wait : PySem.W.findIn K (.ref C_Settings) "wait" = some none)
    (n_Settings_idle : PySem.W.findIn K (.ref C_Settings) "idle" = some none)
    (n_Settings_room : PySem.W.findIn K (.ref C_Settings) "room" = some none)
    (n_Settings_receive : PySem.W.findIn K (.ref C_Settings) "receive" = some none)
    (n_Settings_transmit : PySem.W.findIn K (.ref C_Settings) "transmit" = some none)
    (pg_Config : PySem.W.plainGet K C_Config Str.empty = true)
    (hd_Config : PySem.W.hasDictIn K C_Config = true)
    (po_Config : PySem.W.plainOver K C_Config = true)
    (sa_Config : PySem.W.findIn K (.ref C_Config) "__setattr__" = some (some (.builtin "object.__setattr__")))
    (mk_Config : PySem.W.makesIn K C_Config = true)
    (kc_Config : PySem.W.keepIn K (.ref C_Config) = true)
    (n_Config_devices : PySem.W.findIn K (.ref C_Config) "devices" = some none)
    (n_Config_buffers : PySem.W.findIn K (.ref C_Config) "buffers" = some none)
    (n_Config_size : PySem.W.findIn K (.ref C_Config) "size" = some none)
    (n_Config_period : PySem.W.findIn K (.ref C_Config) "period" = some none)
    (n_Config_jobs : PySem.W.findIn K (.ref C_Config) "jobs" = some none)
    (z_ValueError : PySem.W.nsIn K mainGlobals "ValueError" = some none)
    (z_abs : PySem.W.nsIn K mainGlobals "abs" = some none)
    (z_int : PySem.W.nsIn K mainGlobals "int" = some none)
    (z_isinstance : PySem.W.nsIn K mainGlobals "isinstance" = some none)
    (z_len : PySem.W.nsIn K mainGlobals "len" = some none)
    (z_list : PySem.W.nsIn K mainGlobals "list" = some none)
    (z_max : PySem.W.nsIn K mainGlobals "max" = some none)
    (z_range : PySem.W.nsIn K mainGlobals "range" = some none)
    (z_sum : PySem.W.nsIn K mainGlobals "sum" = some none)
    (z_super : PySem.W.nsIn K mainGlobals "super" = some none)
    (is_ConfigError_TickringsError : PySem.W.kitOne K (.ref C_ConfigError) (.ref C_TickringsError) = some true)
    (is_ConfigError_ValueError : PySem.W.kitOne K (.ref C_ConfigError) (Value.type "ValueError") = some true)
    : ∃ fd : FuncData, (∀ (s : Shared) (v : Value), BindsTo s fd ⟨[v], []⟩ [("script", v)]) ∧ ∀ base : Heap, K.In base → base.Ns mainGlobals mg → FnOk l.prog w K mg base (L2.CX l.prog w) 7 fa fd ["script"] (sp_law0 K) := by
  have e : f_law = fa := by
    have z := hfa.symm.trans (PySem.W.mg_of X G a_law)
    cases z
    rfl
  subst e
  have F_require := fun_mk (st := s_require) l_require c_require k_require
  have b_require := F_require.binds (ps := ["setting", "in_range"]) fun _ _ _ _ _ _ us hl => match us, hl with | [_, _], _ => rfl
  have F_budget_sum := fun_mk (st := s_budget_sum) l_budget_sum c_budget_sum k_budget_sum
  have b_budget_sum := F_budget_sum.binds (ps := ["devices", "jobs"]) fun _ _ _ _ _ _ us hl => match us, hl with | [_, _], _ => rfl
  have F_Settings_init : FunD K "__init__" "Settings.__init__" (defArgs s_Settings_init) (defBody s_Settings_init) (defScope s_Settings_init) [] kd_Settings_init f_Settings_init (PySem.W.fnOf "__init__" "Settings.__init__" (defArgs s_Settings_init) (defBody s_Settings_init) (defScope s_Settings_init) .none (.ref D_Settings_init) dc_Settings_init pm_Settings_init an_Settings_init cd_Settings_init ct_Settings_init) := ⟨⟨_, _, _, _, _, _, _, _, _, _, rfl, l_Settings_init, c_Settings_init, .inl ⟨rfl, rfl⟩, .inr ⟨D_Settings_init, rfl, fun z hz => by
    simp only [kd_Settings_init, List.mem_cons, List.not_mem_nil, or_false] at hz
    rcases hz with rfl | rfl | rfl | rfl | rfl | rfl | rfl | rfl | rfl | rfl
    · exact ⟨_, d_Settings_init_queue, _, rfl⟩
    · exact ⟨_, d_Settings_init_sending, _, rfl⟩
    · exact ⟨_, d_Settings_init_slots, _, rfl⟩
    · exact ⟨_, d_Settings_init_pace, _, rfl⟩
    · exact ⟨_, d_Settings_init_count, _, rfl⟩
    · exact ⟨_, d_Settings_init_wait, _, rfl⟩
    · exact ⟨_, d_Settings_init_idle, _, rfl⟩
    · exact ⟨_, d_Settings_init_room, _, rfl⟩
    · exact ⟨_, d_Settings_init_receive, _, rfl⟩
    · exact ⟨_, d_Settings_init_transmit, _, rfl⟩
    ⟩⟩, k_Settings_init⟩
  have kb_Settings_init_0 : ∃ gg, KBn K (PySem.W.fnOf "__init__" "Settings.__init__" (defArgs s_Settings_init) (defBody s_Settings_init) (defScope s_Settings_init) .none (.ref D_Settings_init) dc_Settings_init pm_Settings_init an_Settings_init cd_Settings_init ct_Settings_init) ["self", "queue", "sending", "slots", "pace", "count", "wait", "idle", "room", "receive", "transmit"] 1 ["queue", "sending", "slots", "pace", "count", "wait", "idle", "room", "receive", "transmit"] gg gv_Settings_init_0 := by
    obtain ⟨mv, z⟩ := F_Settings_init.kbinds0 (ps := ["self", "queue", "sending", "slots", "pace", "count", "wait", "idle", "room", "receive", "transmit"]) 1 ["queue", "sending", "slots", "pace", "count", "wait", "idle", "room", "receive", "transmit"] ms_Settings_init_0 (fun us mv ws => g_Settings_init_0 us mv ws) (by decide) (fun z hz => by revert z hz; decide +kernel) (fun r1 r2 r3 => r1.append r3)
      (fun D doc pm an cdv ct us mv ws h1 h2 h3 => match us, mv, ws, h1, h2, h3 with | [_], [], [_, _, _, _, _, _, _, _, _, _], _, _, _ => rfl)
    exact ⟨_, z⟩
  have kb_Settings_init_2 : ∃ gg, KBn K (PySem.W.fnOf "__init__" "Settings.__init__" (defArgs s_Settings_init) (defBody s_Settings_init) (defScope s_Settings_init) .none (.ref D_Settings_init) dc_Settings_init pm_Settings_init an_Settings_init cd_Settings_init ct_Settings_init) ["self", "queue", "sending", "slots", "pace", "count", "wait", "idle", "room", "receive", "transmit"] 1 [] gg gv_Settings_init_2 := by
    obtain ⟨mv, z⟩ := F_Settings_init.kbinds0 (ps := ["self", "queue", "sending", "slots", "pace", "count", "wait", "idle", "room", "receive", "transmit"]) 1 [] ms_Settings_init_2 (fun us mv ws => g_Settings_init_2 us mv ws) (by decide) (fun z hz => by revert z hz; decide +kernel) (fun r1 r2 r3 => r1.append r2)
      (fun D doc pm an cdv ct us mv ws h1 h2 h3 => match us, mv, ws, h1, h2, h3 with | [_], [_, _, _, _, _, _, _, _, _, _], [], _, _, _ => ⟨_, _, _, _, _, _, rfl, rfl, ⟨_, _, _, _, _, _, rfl, rfl, ⟨_, _, _, _, _, _, rfl, rfl, ⟨_, _, _, _, _, _, rfl, rfl, ⟨_, _, _, _, _, _, rfl, rfl, ⟨_, _, _, _, _, _, rfl, rfl, ⟨_, _, _, _, _, _, rfl, rfl, ⟨_, _, _, _, _, _, rfl, rfl, ⟨_, _, _, _, _, _, rfl, rfl, ⟨_, _, _, _, _, _, rfl, rfl, rfl⟩⟩⟩⟩⟩⟩⟩⟩⟩⟩)
    exact ⟨_, z⟩
  have F_Config_init : FunD K "__init__" "Config.__init__" (defArgs s_Config_init) (defBody s_Config_init) (defScope s_Config_init) [] kd_Config_init f_Config_init (PySem.W.fnOf "__init__" "Config.__init__" (defArgs s_Config_init) (defBody s_Config_init) (defScope s_Config_init) .none (.ref D_Config_init) dc_Config_init pm_Config_init an_Config_init cd_Config_init ct_Config_init) := ⟨⟨_, _, _, _, _, _, _, _, _, _, rfl, l_Config_init, c_Config_init, .inl ⟨rfl, rfl⟩, .inr ⟨D_Config_init, rfl, fun z hz => by
    simp only [kd_Config_init, List.mem_cons, List.not_mem_nil, or_false] at hz
    rcases hz with rfl | rfl | rfl | rfl
    · exact ⟨_, d_Config_init_buffers, _, rfl⟩
    · exact ⟨_, d_Config_init_size, _, rfl⟩
    · exact ⟨_, d_Config_init_period, _, rfl⟩
    · exact ⟨_, d_Config_init_jobs, _, rfl⟩
    ⟩⟩, k_Config_init⟩
  have kb_Config_init_1 : ∃ gg, KBn K (PySem.W.fnOf "__init__" "Config.__init__" (defArgs s_Config_init) (defBody s_Config_init) (defScope s_Config_init) .none (.ref D_Config_init) dc_Config_init pm_Config_init an_Config_init cd_Config_init ct_Config_init) ["self", "devices", "buffers", "size", "period", "jobs"] 1 ["devices", "buffers", "size", "period", "jobs"] gg gv_Config_init_1 := by
    obtain ⟨mv, z⟩ := F_Config_init.kbinds0 (ps := ["self", "devices", "buffers", "size", "period", "jobs"]) 1 ["devices", "buffers", "size", "period", "jobs"] ms_Config_init_1 (fun us mv ws => g_Config_init_1 us mv ws) (by decide) (fun z hz => by revert z hz; decide +kernel) (fun r1 r2 r3 => r1.append r3)
      (fun D doc pm an cdv ct us mv ws h1 h2 h3 => match us, mv, ws, h1, h2, h3 with | [_], [], [_, _, _, _, _], _, _, _ => rfl)
    exact ⟨_, z⟩
  have kb_Config_init_3 : ∃ gg, KBn K (PySem.W.fnOf "__init__" "Config.__init__" (defArgs s_Config_init) (defBody s_Config_init) (defScope s_Config_init) .none (.ref D_Config_init) dc_Config_init pm_Config_init an_Config_init cd_Config_init ct_Config_init) ["self", "devices", "buffers", "size", "period", "jobs"] 1 ["devices"] gg gv_Config_init_3 := by
    obtain ⟨mv, z⟩ := F_Config_init.kbinds0 (ps := ["self", "devices", "buffers", "size", "period", "jobs"]) 1 ["devices"] ms_Config_init_3 (fun us mv ws => g_Config_init_3 us mv ws) (by decide) (fun z hz => by revert z hz; decide +kernel) (fun r1 r2 r3 => r1.append (Vals.append (Vals.take 1 (Vals.drop 0 r3)) (Vals.append (Vals.take 1 (Vals.drop 0 r2)) (Vals.append (Vals.take 1 (Vals.drop 1 r2)) (Vals.append (Vals.take 1 (Vals.drop 2 r2)) (Vals.take 1 (Vals.drop 3 r2)))))))
      (fun D doc pm an cdv ct us mv ws h1 h2 h3 => match us, mv, ws, h1, h2, h3 with | [_], [_, _, _, _], [_], _, _, _ => ⟨_, _, _, _, _, _, rfl, rfl, ⟨_, _, _, _, _, _, rfl, rfl, ⟨_, _, _, _, _, _, rfl, rfl, ⟨_, _, _, _, _, _, rfl, rfl, rfl⟩⟩⟩⟩)
    exact ⟨_, z⟩
  have F_law_state := fun_mk (st := s_law_state) l_law_state c_law_state k_law_state
  have b_law_state := F_law_state.binds (ps := ["script"]) fun _ _ _ _ _ _ us hl => match us, hl with | [_], _ => rfl
  have F_law_draw := fun_mk (st := s_law_draw) l_law_draw c_law_draw k_law_draw
  have b_law_draw := F_law_draw.binds (ps := ["state", "many"]) fun _ _ _ _ _ _ us hl => match us, hl with | [_, _], _ => rfl
  have F_law_value := fun_mk (st := s_law_value) l_law_value c_law_value k_law_value
  have b_law_value := F_law_value.binds (ps := ["state", "least", "greatest"]) fun _ _ _ _ _ _ us hl => match us, hl with | [_, _, _], _ => rfl
  have F_law_settings_due := fun_mk (st := s_law_settings_due) l_law_settings_due c_law_settings_due k_law_settings_due
  have b_law_settings_due := F_law_settings_due.binds (ps := ["v"]) fun _ _ _ _ _ _ us hl => match us, hl with | [_], _ => rfl
  have F_law_fields := fun_mk (st := s_law_fields) l_law_fields c_law_fields k_law_fields
  have b_law_fields := F_law_fields.binds (ps := ["one"]) fun _ _ _ _ _ _ us hl => match us, hl with | [_], _ => rfl
  have F_law_settings := fun_mk (st := s_law_settings) l_law_settings c_law_settings k_law_settings
  have b_law_settings := F_law_settings.binds (ps := ["v"]) fun _ _ _ _ _ _ us hl => match us, hl with | [_], _ => rfl
  have F_law_config_outcome := fun_mk (st := s_law_config_outcome) l_law_config_outcome c_law_config_outcome k_law_config_outcome
  have b_law_config_outcome := F_law_config_outcome.binds (ps := ["devices", "buffers", "size", "period", "jobs"]) fun _ _ _ _ _ _ us hl => match us, hl with | [_, _, _, _, _], _ => rfl
  have F_law_config_due := fun_mk (st := s_law_config_due) l_law_config_due c_law_config_due k_law_config_due
  have b_law_config_due := F_law_config_due.binds (ps := ["devices", "buffers", "size", "period", "jobs"]) fun _ _ _ _ _ _ us hl => match us, hl with | [_, _, _, _, _], _ => rfl
  have F_law := fun_mk (st := s_law) l_law c_law k_law
  have b_law := F_law.binds (ps := ["script"]) fun _ _ _ _ _ _ us hl => match us, hl with | [_], _ => rfl
  let a : Ads := { C_TickringsError := C_TickringsError, C_ConfigError := C_ConfigError, C_Settings := C_Settings, C_Config := C_Config, f_ConfigError_init := f_ConfigError_init, f_require := f_require, f_budget_sum := f_budget_sum, f_Settings_init := f_Settings_init, f_Config_init := f_Config_init, f_law_state := f_law_state, f_law_draw := f_law_draw, f_law_value := f_law_value, f_law_settings_due := f_law_settings_due, f_law_fields := f_law_fields, f_law_settings := f_law_settings, f_law_config_outcome := f_law_config_outcome, f_law_config_due := f_law_config_due, f_law := f_law, fd_ConfigError_init := (PySem.W.fnX "__init__" "ConfigError.__init__" (defArgs s_ConfigError_init) (defBody s_ConfigError_init) (defScope s_ConfigError_init) [("__class__", cc_ConfigError)] .none kV_ConfigError_init dc_ConfigError_init pm_ConfigError_init an_ConfigError_init (.ref cda_ConfigError) ct_ConfigError_init), fd_require := (PySem.W.fnOf "_require" "_require" (defArgs s_require) (defBody s_require) (defScope s_require) .none kV_require dc_require pm_require an_require cd_require ct_require), fd_budget_sum := (PySem.W.fnOf "_budget_sum" "_budget_sum" (defArgs s_budget_sum) (defBody s_budget_sum) (defScope s_budget_sum) .none kV_budget_sum dc_budget_sum pm_budget_sum an_budget_sum cd_budget_sum ct_budget_sum), fd_Settings_init := (PySem.W.fnOf "__init__" "Settings.__init__" (defArgs s_Settings_init) (defBody s_Settings_init) (defScope s_Settings_init) .none (.ref D_Settings_init) dc_Settings_init pm_Settings_init an_Settings_init cd_Settings_init ct_Settings_init), fd_Config_init := (PySem.W.fnOf "__init__" "Config.__init__" (defArgs s_Config_init) (defBody s_Config_init) (defScope s_Config_init) .none (.ref D_Config_init) dc_Config_init pm_Config_init an_Config_init cd_Config_init ct_Config_init), fd_law_state := (PySem.W.fnOf "_law_state" "_law_state" (defArgs s_law_state) (defBody s_law_state) (defScope s_law_state) .none kV_law_state dc_law_state pm_law_state an_law_state cd_law_state ct_law_state), fd_law_draw := (PySem.W.fnOf "_law_draw" "_law_draw" (defArgs s_law_draw) (defBody s_law_draw) (defScope s_law_draw) .none kV_law_draw dc_law_draw pm_law_draw an_law_draw cd_law_draw ct_law_draw), fd_law_value := (PySem.W.fnOf "_law_value" "_law_value" (defArgs s_law_value) (defBody s_law_value) (defScope s_law_value) .none kV_law_value dc_law_value pm_law_value an_law_value cd_law_value ct_law_value), fd_law_settings_due := (PySem.W.fnOf "_law_settings_due" "_law_settings_due" (defArgs s_law_settings_due) (defBody s_law_settings_due) (defScope s_law_settings_due) .none kV_law_settings_due dc_law_settings_due pm_law_settings_due an_law_settings_due cd_law_settings_due ct_law_settings_due), fd_law_fields := (PySem.W.fnOf "_law_fields" "_law_fields" (defArgs s_law_fields) (defBody s_law_fields) (defScope s_law_fields) .none kV_law_fields dc_law_fields pm_law_fields an_law_fields cd_law_fields ct_law_fields), fd_law_settings := (PySem.W.fnOf "_law_settings" "_law_settings" (defArgs s_law_settings) (defBody s_law_settings) (defScope s_law_settings) .none kV_law_settings dc_law_settings pm_law_settings an_law_settings cd_law_settings ct_law_settings), fd_law_config_outcome := (PySem.W.fnOf "_law_config_outcome" "_law_config_outcome" (defArgs s_law_config_outcome) (defBody s_law_config_outcome) (defScope s_law_config_outcome) .none kV_law_config_outcome dc_law_config_outcome pm_law_config_outcome an_law_config_outcome cd_law_config_outcome ct_law_config_outcome), fd_law_config_due := (PySem.W.fnOf "_law_config_due" "_law_config_due" (defArgs s_law_config_due) (defBody s_law_config_due) (defScope s_law_config_due) .none kV_law_config_due dc_law_config_due pm_law_config_due an_law_config_due cd_law_config_due ct_law_config_due), fd_law := (PySem.W.fnOf "law" "law" (defArgs s_law) (defBody s_law) (defScope s_law) .none kV_law dc_law pm_law an_law cd_law ct_law) }
  refine ⟨a.fd_law, fun s v => .of_eq rfl, fun base hKb hGb => ?_⟩
  have E_ConfigError : ErrC l.prog K mg C_ConfigError := ⟨⟨⟨nm_ConfigError, qn_ConfigError, N_ConfigError, bs_ConfigError, bm_ConfigError, sn_ConfigError, sub_ConfigError, ab_ConfigError, col_ConfigError, dd_ConfigError, k0_ConfigError, k1_ConfigError, k2_ConfigError, k3_ConfigError, k5_ConfigError, x_ConfigError, hbm_ConfigError⟩, sa_ConfigError, ex_ConfigError, ty_ConfigError, kp_ConfigError⟩, su_ConfigError, ve_ConfigError, op_ConfigError, sm_ConfigError, PySem.W.mg_none_of X G z_super, by rw [hl]; decide +kernel⟩
  have J_ConfigError : ErrI l.prog K C_ConfigError cc_ConfigError cda_ConfigError f_ConfigError_init "__init__" "ConfigError.__init__" (defArgs s_ConfigError_init) (defBody s_ConfigError_init) (defScope s_ConfigError_init) a.fd_ConfigError_init := ⟨⟨_, _, _, _, _, _, _, _, _, rfl, l_ConfigError_init⟩, c_ConfigError_init, ⟨_, _, _, ce_ConfigError⟩, ⟨_, _, _, _, _, _, co_ConfigError, cv_ConfigError, by rw [hl]; exact cf_ConfigError⟩⟩
  have O_ConfigError : FnOk l.prog w K mg base CX0 1 f_ConfigError_init a.fd_ConfigError_init ["self", "setting"] (spErr C_ConfigError "setting") :=
    okErr E_ConfigError no_ConfigError J_ConfigError sc_ConfigError_init rfl rfl (by decide +kernel) (by decide +kernel) (by decide +kernel) (fun _ => rfl) (fun _ => rfl) (fun _ => rfl) (fun _ => rfl) (fun X hN hv => (pe_joined (.cons pe_str (.cons (pe_fmt (pv 1 hN hv)) .nil)))) (te2 (by decide +kernel))
  have B_ConfigError : Binds K a.fd_ConfigError_init ["self", "setting"] [] := .all fun us hl => match us, hl with | [_, _], _ => rfl
  have K_ConfigError : EK l.prog w K mg base "ConfigError" "setting" C_ConfigError f_ConfigError_init a.fd_ConfigError_init ["self", "setting"] := ⟨E_ConfigError, PySem.W.mg_of X G gC_ConfigError, ic_ConfigError, ti_ConfigError, O_ConfigError, B_ConfigError, no_ConfigError, ⟨ga_ConfigError, gg_ConfigError, ex_ConfigError, hd_ConfigError⟩, ⟨ga_ConfigError, gg_ConfigError, ex_ConfigError, hd_ConfigError, ha_ConfigError, hn_ConfigError, ht_ConfigError, hm_ConfigError⟩, ow_ConfigError⟩
  have T : Txt l.prog w K mg base a := {
    g_ValueError := PySem.W.mg_none_of X G z_ValueError,
    g_abs := PySem.W.mg_none_of X G z_abs,
    g_int := PySem.W.mg_none_of X G z_int,
    g_isinstance := PySem.W.mg_none_of X G z_isinstance,
    g_len := PySem.W.mg_none_of X G z_len,
    g_list := PySem.W.mg_none_of X G z_list,
    g_max := PySem.W.mg_none_of X G z_max,
    g_range := PySem.W.mg_none_of X G z_range,
    g_sum := PySem.W.mg_none_of X G z_sum,
    F_require := F_require,
    b_require := b_require,
    g_require := PySem.W.mg_of X G a_require,
    F_budget_sum := F_budget_sum,
    b_budget_sum := b_budget_sum,
    g_budget_sum := PySem.W.mg_of X G a_budget_sum,
    F_Settings_init := F_Settings_init,
    kb_Settings_init_0 := kb_Settings_init_0,
    kb_Settings_init_2 := kb_Settings_init_2,
    mk_Settings := ⟨mk_Settings, a_Settings_init, i_Settings_init, kc_Settings⟩,
    F_Config_init := F_Config_init,
    kb_Config_init_1 := kb_Config_init_1,
    kb_Config_init_3 := kb_Config_init_3,
    mk_Config := ⟨mk_Config, a_Config_init, i_Config_init, kc_Config⟩,
    F_law_state := F_law_state,
    b_law_state := b_law_state,
    g_law_state := PySem.W.mg_of X G a_law_state,
    F_law_draw := F_law_draw,
    b_law_draw := b_law_draw,
    g_law_draw := PySem.W.mg_of X G a_law_draw,
    F_law_value := F_law_value,
    b_law_value := b_law_value,
    g_law_value := PySem.W.mg_of X G a_law_value,
    F_law_settings_due := F_law_settings_due,
    b_law_settings_due := b_law_settings_due,
    g_law_settings_due := PySem.W.mg_of X G a_law_settings_due,
    F_law_fields := F_law_fields,
    b_law_fields := b_law_fields,
    g_law_fields := PySem.W.mg_of X G a_law_fields,
    F_law_settings := F_law_settings,
    b_law_settings := b_law_settings,
    g_law_settings := PySem.W.mg_of X G a_law_settings,
    F_law_config_outcome := F_law_config_outcome,
    b_law_config_outcome := b_law_config_outcome,
    g_law_config_outcome := PySem.W.mg_of X G a_law_config_outcome,
    F_law_config_due := F_law_config_due,
    b_law_config_due := b_law_config_due,
    g_law_config_due := PySem.W.mg_of X G a_law_config_due,
    F_law := F_law,
    b_law := b_law,
    g_law := PySem.W.mg_of X G a_law,
    g_TickringsError := PySem.W.mg_of X G gC_TickringsError,
    g_ConfigError := PySem.W.mg_of X G gC_ConfigError,
    g_Settings := PySem.W.mg_of X G gC_Settings,
    g_Config := PySem.W.mg_of X G gC_Config,
    cl_Settings := ⟨pg_Settings, hd_Settings, po_Settings, sa_Settings⟩,
    n_Settings_queue := n_Settings_queue,
    n_Settings_sending := n_Settings_sending,
    n_Settings_slots := n_Settings_slots,
    n_Settings_pace := n_Settings_pace,
    n_Settings_count_limit := n_Settings_count_limit,
    n_Settings_wait := n_Settings_wait,
    n_Settings_idle := n_Settings_idle,
    n_Settings_room := n_Settings_room,
    n_Settings_receive := n_Settings_receive,
    n_Settings_transmit := n_Settings_transmit,
    cl_Config := ⟨pg_Config, hd_Config, po_Config, sa_Config⟩,
    n_Config_devices := n_Config_devices,
    n_Config_buffers := n_Config_buffers,
    n_Config_size := n_Config_size,
    n_Config_period := n_Config_period,
    n_Config_jobs := n_Config_jobs,
    e_ConfigError := K_ConfigError,
    is_ConfigError_TickringsError := is_ConfigError_TickringsError,
    is_ConfigError_ValueError := is_ConfigError_ValueError }
  exact FnOk.imp (ok_law T) fun vs H Q E h => h
theorem walk {l : PySem.W.OpenLaw} {q : Program} {loose : List Str} {XP : (Str → Option Value) → Heap → Prop} {YP : World → Heap → Prop} {d : DefRec} {K : Params → PySem.W.Frag} (hn : l.most = some 63) (hdf : d.params.defaults = [])
    (hY : ∀ (w : World) (h : Heap), YP w h → (K w.params).In h)
    (F : ∀ (w : World) (mg : Str → Option Value) (fa : Addr) (h : Heap), (K w.params).In h → h.Ns mainGlobals mg → mg d.name = some (.ref fa) → ∃ fd : FuncData, (∀ (s : Shared) (u : Value), BindsTo s fd ⟨[u], []⟩ [("script", u)]) ∧
      ∀ base : Heap, (K w.params).In base → base.Ns mainGlobals mg → FnOk l.prog w (K w.params) mg base (L2.CX l.prog w) 7 fa fd ["script"] (sp_law0 (K w.params))) :
    PySem.W.WalkO q loose XP YP l.row.toRowW d [] (fun f vs => PySem.call f vs) :=
  L2.walk_of (n := 63) (k := 7) (x := "script") (CX := fun w => L2.CX l.prog w) (sp := fun w => sp_law0 (K w.params)) hn (by decide) hdf ⟨rfl, by decide, by decide⟩ hY F (fun _ _ b ns hl _ hS => a1 ⟨b, ns, rfl, hS, hl, fun _ => rfl⟩) fun _ _ _ _ _ ⟨_, _, _, _, _, _, _, _, _, _, _, _, z⟩ => z
end My
open PySem PySem.W PyProof.Rows
set_option maxRecDepth 100000 in
set_option maxHeartbeats 0 in
theorem PySem.Challenge.cw_tickrings_k01_configurations_holds : PySem.Challenge.rw_tickrings_k01_configurations.Holds := by
  w_on; o_law; k_head; (case hw => w_witness2)
  k_fill
  refine My.walk (l := PySem.Challenge.rw_tickrings_k01_configurations) rfl rfl (fun w h Y => PySem.W.kIn_of Y) ?F
  case F =>
    intro w mg fa h KX G hmg
    refine' My.all_mk rfl KX G hmg ?hgC_TickringsError ?hgC_ConfigError ?hgC_Settings ?hgC_Config ?hx_ConfigError ?hhbm_ConfigError ?hsa_ConfigError ?hex_ConfigError ?hty_ConfigError ?hkp_ConfigError ?hsu_ConfigError ?hve_ConfigError ?hop_ConfigError ?hsm_ConfigError ?hic_ConfigError ?hti_ConfigError ?hl_ConfigError_init ?hc_ConfigError_init ?hce_ConfigError ?hco_ConfigError ?hcv_ConfigError ?hcf_ConfigError ?hno_ConfigError ?hga_ConfigError ?hgg_ConfigError ?hhd_ConfigError ?hha_ConfigError ?hhn_ConfigError ?hht_ConfigError ?hhm_ConfigError ?how_ConfigError ?ha_require ?hl_require ?hc_require ?hk_require ?ha_budget_sum ?hl_budget_sum ?hc_budget_sum ?hk_budget_sum ?ha_Settings_init ?hi_Settings_init ?hl_Settings_init ?hd_Settings_init_queue ?hd_Settings_init_sending ?hd_Settings_init_slots ?hd_Settings_init_pace ?hd_Settings_init_count ?hd_Settings_init_wait ?hd_Settings_init_idle ?hd_Settings_init_room ?hd_Settings_init_receive ?hd_Settings_init_transmit ?hc_Settings_init ?hk_Settings_init ?ha_Config_init ?hi_Config_init ?hl_Config_init ?hd_Config_init_buffers ?hd_Config_init_size ?hd_Config_init_period ?hd_Config_init_jobs ?hc_Config_init ?hk_Config_init ?ha_law_state ?hl_law_state ?hc_law_state ?hk_law_state ?ha_law_draw ?hl_law_draw ?hc_law_draw ?hk_law_draw ?ha_law_value ?hl_law_value ?hc_law_value ?hk_law_value ?ha_law_settings_due ?hl_law_settings_due ?hc_law_settings_due ?hk_law_settings_due ?ha_law_fields ?hl_law_fields ?hc_law_fields ?hk_law_fields ?ha_law_settings ?hl_law_settings ?hc_law_settings ?hk_law_settings ?ha_law_config_outcome ?hl_law_config_outcome ?hc_law_config_outcome ?hk_law_config_outcome ?ha_law_config_due ?hl_law_config_due ?hc_law_config_due ?hk_law_config_due ?ha_law ?hl_law ?hc_law ?hk_law ?hpg_Settings ?hhd_Settings ?hpo_Settings ?hsa_Settings ?hmk_Settings ?hkc_Settings ?hn_Settings_queue ?hn_Settings_sending ?hn_Settings_slots ?hn_Settings_pace ?hn_Settings_count_limit ?hn_Settings_wait ?hn_Settings_idle ?hn_Settings_room ?hn_Settings_receive ?hn_Settings_transmit ?hpg_Config ?hhd_Config ?hpo_Config ?hsa_Config ?hmk_Config ?hkc_Config ?hn_Config_devices ?hn_Config_buffers ?hn_Config_size ?hn_Config_period ?hn_Config_jobs ?hz_ValueError ?hz_abs ?hz_int ?hz_isinstance ?hz_len ?hz_list ?hz_max ?hz_range ?hz_sum ?hz_super ?his_ConfigError_TickringsError ?his_ConfigError_ValueError
    (case hgC_TickringsError => k_is)
    (case hgC_ConfigError => k_is)
    (case hgC_Settings => k_is)
    (case hgC_Config => k_is)
    (case hx_ConfigError => k_is)
    (case hhbm_ConfigError => first | rfl | decide +kernel)
    (case hsa_ConfigError => k_is)
    (case hex_ConfigError => k_is)
    (case hty_ConfigError => k_is)
    (case hkp_ConfigError => k_is)
    (case hsu_ConfigError => ks_is)
    (case hve_ConfigError => k_is)
    (case hop_ConfigError => k_is)
    (case hsm_ConfigError => k_is)
    (case hic_ConfigError => k_is)
    (case hti_ConfigError => k_is)
    (case hl_ConfigError_init => k_is)
    (case hc_ConfigError_init => k_is)
    (case hce_ConfigError => k_is)
    (case hco_ConfigError => k_is)
    (case hcv_ConfigError => exact rfl)
    (case hcf_ConfigError => first | rfl | decide +kernel)
    (case hno_ConfigError => k_is)
    (case hga_ConfigError => k_is)
    (case hgg_ConfigError => k_is)
    (case hhd_ConfigError => k_is)
    (case hha_ConfigError => k_is)
    (case hhn_ConfigError => k_is)
    (case hht_ConfigError => k_is)
    (case hhm_ConfigError => k_is)
    (case how_ConfigError => first | k_is | rfl)
    (case ha_require => k_is)
    (case hl_require => k_is)
    (case hc_require => k_is)
    (case hk_require => k_is)
    (case ha_budget_sum => k_is)
    (case hl_budget_sum => k_is)
    (case hc_budget_sum => k_is)
    (case hk_budget_sum => k_is)
    (case ha_Settings_init => k_is)
    (case hi_Settings_init => k_is)
    (case hl_Settings_init => k_is)
    (case hd_Settings_init_queue => k_is)
    (case hd_Settings_init_sending => k_is)
    (case hd_Settings_init_slots => k_is)
    (case hd_Settings_init_pace => k_is)
    (case hd_Settings_init_count => k_is)
    (case hd_Settings_init_wait => k_is)
    (case hd_Settings_init_idle => k_is)
    (case hd_Settings_init_room => k_is)
    (case hd_Settings_init_receive => k_is)
    (case hd_Settings_init_transmit => k_is)
    (case hc_Settings_init => k_is)
    (case hk_Settings_init => k_is)
    (case ha_Config_init => k_is)
    (case hi_Config_init => k_is)
    (case hl_Config_init => k_is)
    (case hd_Config_init_buffers => k_is)
    (case hd_Config_init_size => k_is)
    (case hd_Config_init_period => k_is)
    (case hd_Config_init_jobs => k_is)
    (case hc_Config_init => k_is)
    (case hk_Config_init => k_is)
    (case ha_law_state => k_is)
    (case hl_law_state => k_is)
    (case hc_law_state => k_is)
    (case hk_law_state => k_is)
    (case ha_law_draw => k_is)
    (case hl_law_draw => k_is)
    (case hc_law_draw => k_is)
    (case hk_law_draw => k_is)
    (case ha_law_value => k_is)
    (case hl_law_value => k_is)
    (case hc_law_value => k_is)
    (case hk_law_value => k_is)
    (case ha_law_settings_due => k_is)
    (case hl_law_settings_due => k_is)
    (case hc_law_settings_due => k_is)
    (case hk_law_settings_due => k_is)
    (case ha_law_fields => k_is)
    (case hl_law_fields => k_is)
    (case hc_law_fields => k_is)
    (case hk_law_fields => k_is)
    (case ha_law_settings => k_is)
    (case hl_law_settings => k_is)
    (case hc_law_settings => k_is)
    (case hk_law_settings => k_is)
    (case ha_law_config_outcome => k_is)
    (case hl_law_config_outcome => k_is)
    (case hc_law_config_outcome => k_is)
    (case hk_law_config_outcome => k_is)
    (case ha_law_config_due => k_is)
    (case hl_law_config_due => k_is)
    (case hc_law_config_due => k_is)
    (case hk_law_config_due => k_is)
    (case ha_law => k_is)
    (case hl_law => k_is)
    (case hc_law => k_is)
    (case hk_law => k_is)
    (case hpg_Settings => k_is)
    (case hhd_Settings => k_is)
    (case hpo_Settings => k_is)
    (case hsa_Settings => k_is)
    (case hmk_Settings => k_is)
    (case hkc_Settings => k_is)
    (case hn_Settings_queue => k_is)
    (case hn_Settings_sending => k_is)
    (case hn_Settings_slots => k_is)
    (case hn_Settings_pace => k_is)
    (case hn_Settings_count_limit => k_is)
    (case hn_Settings_wait => k_is)
    (case hn_Settings_idle => k_is)
    (case hn_Settings_room => k_is)
    (case hn_Settings_receive => k_is)
    (case hn_Settings_transmit => k_is)
    (case hpg_Config => k_is)
    (case hhd_Config => k_is)
    (case hpo_Config => k_is)
    (case hsa_Config => k_is)
    (case hmk_Config => k_is)
    (case hkc_Config => k_is)
    (case hn_Config_devices => k_is)
    (case hn_Config_buffers => k_is)
    (case hn_Config_size => k_is)
    (case hn_Config_period => k_is)
    (case hn_Config_jobs => k_is)
    (case hz_ValueError => k_is)
    (case hz_abs => k_is)
    (case hz_int => k_is)
    (case hz_isinstance => k_is)
    (case hz_len => k_is)
    (case hz_list => k_is)
    (case hz_max => k_is)
    (case hz_range => k_is)
    (case hz_sum => k_is)
    (case hz_super => k_is)
    (case his_ConfigError_TickringsError => first | k_is | decide +kernel | rfl)
    (case his_ConfigError_ValueError => first | k_is | decide +kernel | rfl)
#print axioms PySem.Challenge.cw_tickrings_k01_configurations_holds
