import PyProof.Rows.All
import Wide.All
import OpenK.AllK
import Wide.FinOn
import HandS.ForExc
import HandS.Nested
import HandS.ExcInit
import HandS.ExcField
import HandS.FStr
import HandS.MakeKwOnly
import HandS.IsInst
import HandS.ExcIs
import KE.KExcSuper
import KE.KExcIs
import HandS.ForMost
import HandS.Evl
import PySem.Challenge.RW_tickrings_k08_receive_queues
set_option Elab.async false
set_option maxRecDepth 100000
set_option maxHeartbeats 4000000
set_option linter.all false
set_option autoImplicit false
/-! An own error class over another own class over ValueError, whose __init__ says super().__init__(..) and stores one field. -/
namespace Sx
open PySem PySem.Spec PyProof.Rows L2 PySem.W PySem.Calls NdefX
section
variable {prog : Program} {w : World} {A : Around} {E : Value → Shared → Prop} {h : Heap} {g : Array GenState} {d : Drawn} {t : Nat} {os : OsState}
/-- ValueError.__init__ bound to an exception, called -/
theorem call_mw {nm q : Str} {C N u e t0 : Addr} {bs bm : List Value} {hdct : Bool} {sn : List Str} {sub : List Value} {ab : Bool} {col : Option Bool} {dd : Option Addr} {k0 k1 k2 k3 k5 : Option Value} {rest : List Value} {Q : Value → Shared → Prop}
    (hC : h.get? C = some (excClassObj nm q C N bs bm hdct sn sub ab col dd k0 k1 k2 k3 k5 "ValueError.__new__")) (he : h.get? e = some (HandSPX.excO C t0)) (hu : h.get? u = some (kxs_mw "ValueError.__init__" e)) (hrest : rest.length ≤ sizeLine)
    (hq : ∀ h' t1, (∀ b o, b ≠ e → h.get? b = some o → h'.get? b = some o) → h'.get? e = some (HandSPX.excO C t1) → Q .none ⟨h', g, d, t, os⟩) :
    wpAny (model prog w) A (call (.ref u) rest) Q E ⟨h, g, d, t, os⟩ := by
  refine wpAny_call (codeAny_of_tree ?_)
  show wpAny _ A.in1 (callAny (.ref u) ⟨rest, []⟩) _ _ _
  simp only [callAny]
  refine wpAny_bind (wpAny_load hu ?_)
  simp only [kxs_mw, show (Value.type "method-wrapper" == Value.type "method" || Value.type "method-wrapper" == Value.type "builtin_function_or_method" || Value.type "method-wrapper" == Value.type "method-wrapper") = true by decide, if_true]
  refine W.KFB.if_so (by decide) ?_
  refine wpAny_bind (check_bound_init F.excBase_ValueError.toExcCallFacts hC he rfl ?_)
  refine wpAny_bind (wpAny_pure (wpAny_pure ?_))
  refine ⟨plainId_quiet F.excBase_ValueError.init.plain _, codeAny_builtin F.excBase_ValueError.initEntry ?_⟩
  exact exc_init_tree (cls := .ref C) (t0 := t0) (dv := none) (c2 := .none) (c3 := .none) (b4 := .bool false) he hrest fun h' k hx _ => hq h' _ k hx
end
/-- what the top has written of such a class -/
structure ErrC (P : Program) (K : PySem.W.Frag) (mg : Str → Option Value) (C : Addr) : Prop where
  ox : OexC K C
  sup : ks_superIn K C C "__init__" = some (some (.builtin "ValueError.__init__"))
  ve : PySem.W.subIn K (.ref C) (.type "ValueError") = some true
  op : PySem.W.nsIn K cStatics "thirdparty.any" = some none
  selfM : PySem.W.mroIn K C (.ref C) = some true
  sm : mg "super" = none
  top : (P.main.scope.names.lookup ("super" : Str)).isSome = false
/-- its __init__ -/
structure ErrI (P : Program) (K : PySem.W.Frag) (C cc cda fI : Addr) (name qual : Str) (params : Arguments) (body : List Stmt) (scope : Scope) (fd : FuncData) : Prop where
  fn : ∃ oc od osl dV kV doc pm an ct, fd = PySem.W.fnX name qual params body scope [("__class__", cc)] dV kV doc pm an (.ref cda) ct ∧ K.lookup fI = some ⟨oc, od, .func fd, osl⟩
  cd : PySem.W.codeIn K (.ref cda) qual = true
  cell : ∃ cl cld csl, K.lookup cc = some ⟨cl, cld, .cell (some (.ref C)), csl⟩
  code : ∃ ccl cdd vs ccs file tf, K.lookup cda = some ⟨ccl, cdd, .fields vs, ccs⟩ ∧ vs[2]? = some (.str file tf) ∧ ((P.main.file : Str) == file) = true
section
variable {P : Program} {w : World} {K : PySem.W.Frag} {mg : Str → Option Value} {base : Heap} {CX : CXT}
theorem fn_of_err {C cc cda f : Addr} {name qual : Str} {params : Arguments} {scope : Scope} {fd : FuncData} {ar : Arg} {N ps : List Str} {k : Nat} {sp : Sp} {p0 p1 p2 pos pos' : Pos} {e : Expr} {es : List Expr} {rest : List Stmt}
    (T : ErrC P K mg C) (I0 : ErrI P K C cc cda f name qual params (.Expr (.Call (.Attribute (.Call (.Name "super" p0) [] [] p1) "__init__" p2) (e :: es) [] pos) pos' :: rest) scope fd)
    (S : NScope N ps ["__class__"] scope) (hp : (params.posonlyargs ++ params.args).head? = some ar) (hp0 : ps[0]? = some ar.arg) (hsup : scope.names.lookup ("super" : Str) = some .globalImplicit)
    (len : ∀ vs H Q E, sp vs H Q E → vs.length = ps.length)
    (he : ∀ env, starEach (e :: es) env = (false, eval e env) :: starEach es env) (hpl : ∀ env, (backTo pos (starEach es env)).any (·.1) = false)
    {pl : Env → Sem Bool} (hmc : ∀ env : Env, eval (.Call (.Attribute (.Call (.Name "super" p0) [] [] p1) "__init__" p2) (e :: es) [] pos) env = (do
      let ov ← attributeBase (.Call (.Name "super" p0) [] [] p1) "__init__" env (eval (.Call (.Name "super" p0) [] [] p1) env)
      standAt p2.atName
      let (f, first) ← holding [ov] (getMethod ov "__init__" (pl env))
      callWith pos f first (backTo pos (starEach (e :: es) env)) []))
    (hsw : ∀ env, swapsWith (.Call (.Attribute (.Call (.Name "super" p0) [] [] p1) "__init__" p2) (e :: es) [] pos) none pos'.line env = pure false)
    (hbody : ∀ (A : Around) (outer : List Env) (s : Shared) (H : Hp) (vs : List V) (Q : VK) (E : XK), sp vs H Q E →
      ∃ ta t, PA (ncx CX P w K mg base N ⟨name, qual, params, .Expr (.Call (.Attribute (.Call (.Name "super" p0) [] [] p1) "__init__" p2) (e :: es) [] pos) pos' :: rest, scope, [("__class__", cc)], cda⟩ f A outer s H E) (e :: es) ta ∧
        PSs (ncx CX P w K mg base N ⟨name, qual, params, .Expr (.Call (.Attribute (.Call (.Name "super" p0) [] [] p1) "__init__" p2) (e :: es) [] pos) pos' :: rest, scope, [("__class__", cc)], cda⟩ f A outer s H E) rest t ∧
        ∃ a, vs[0]? = some (.ref a) ∧ H a = some (exo a C none) ∧
          ta (startF N vs [some (.ref C)]) H fun ws H1 => ws.length ≤ 1000 ∧ H1 a = some (exo a C none) ∧ t { nx := fun _ H' => Q .non H', rt := Q } (startF N vs [some (.ref C)]) H1) :
    FnOk P w K mg base CX (k + 1) f fd ps sp := by
  obtain ⟨⟨oc, od, osl, dV, kV, doc, pm, an, ct, rfl, lk⟩, hcd, ⟨cl, cld, csl, hcell⟩, ⟨ccl, cdd, vsC, ccs, file, tf, hcode, hvs, hfile⟩⟩ := I0
  refine ⟨len, fun A outer s H args us vs Q E hr e0 hb r hsp => ?_⟩
  have hl := len _ _ _ _ hsp
  have KX : K.In s.heap := e0.mod.kin.keeps fun b o e => (e0.bs b o e).1
  have lim : s.heap.NoLimit := e0.mod.nolimit.keeps fun b o e => (e0.bs b o e).1
  have C0 : CellsAt [(("__class__" : Str), cc)] ["__class__"] [some (V.ref C)] s.heap H := by
    refine ⟨rfl, fun y c q => ?_, fun x y c q1 q2 => ?_, fun i y q => ?_⟩
    · have hy : c = cc := by
        by_cases hyy : y = ("__class__" : Str)
        · subst hyy
          simpa [List.lookup] using q.symm
        · have : (y == ("__class__" : Str)) = false := by simpa using hyy
          simp [List.lookup, this] at q
      subst hy
      exact ⟨(e0.bs c _ (e0.mod.kin _ _ hcell)).2, _, ⟨_, KX _ _ hcell, rfl⟩⟩
    · have hx : x = ("__class__" : Str) := by
        by_cases hyy : x = ("__class__" : Str)
        · exact hyy
        · have : (x == ("__class__" : Str)) = false := by simpa using hyy
          simp [List.lookup, this] at q1
      have hy : y = ("__class__" : Str) := by
        by_cases hyy : y = ("__class__" : Str)
        · exact hyy
        · have : (y == ("__class__" : Str)) = false := by simpa using hyy
          simp [List.lookup, this] at q2
      rw [hx, hy]
    · match i, q with
      | 0, q =>
        have hy : ("__class__" : Str) = y := Option.some.inj q
        subst hy
        refine ⟨cc, by simp [List.lookup], fun v hv => ⟨.ref C, ?_, _, KX _ _ hcell, rfl⟩⟩
        have hv' : V.ref C = v := by simpa using hv
        subst hv'
        rfl
      | i + 1, q => simp at q
  let F : NF := ⟨name, qual, params, .Expr (.Call (.Attribute (.Call (.Name "super" p0) [] [] p1) "__init__" p2) (e :: es) [] pos) pos' :: rest, scope, [("__class__", cc)], cda⟩
  have hS : NScope N ps ["__class__"] F.scope := S
  refine ks_codeAny_call_defAt (body := F.body) (binds := ps.zip us) hr.depth (KX _ _ lk) rfl lim (codeRec_of KX hcd) rfl (hb) S.nocell (fun ⟨n, _⟩ hy => S.par n (List.of_mem_zip hy).1) (fun h₁ hns kp => ?_) S.co S.gen S.kind
  obtain ⟨ta, tb, hta, htb, a, hv0, hea, hq⟩ := hbody A outer s H vs Q E hsp
  have I : Inv (ncx CX P w K mg base N F f A outer s H E) [] (startF N vs [some (.ref C)]) H { s with heap := h₁, toks := s.toks + (ps.zip us).length } := inv_startN hS hr.hd e0 hl r C0 hns kp
  show PySem.wpAt _ (A.deeper (envF F f s.heap.objs.size)) (.func F.body (envF F f s.heap.objs.size)) (execs F.body (envF F f s.heap.objs.size)) _ _ _
  refine ks_wpAt_mono (Q := SP (ncx CX P w K mg base N F f A outer s H E) [] { nx := fun _ H' => Q .non H', rt := Q }) (ks_wpAt_execs_cons (ks_wpAt_Expr_any (ks_wpAt_MethodCall (pl := pl _) ?_ (hmc _)) (by show (scope.kind == ScopeKind.module && _) = false; rw [S.kind]; rfl) (hsw _))) (fun fl s' hs => ?_) fun e s' hs => hs
  · -- super()
    have KX1 : K.In h₁ := KX.keeps kp
    obtain ⟨nm, q, N', bs, bm, sn, sub, ab, col, dd, k0, k1, k2, k3, k5, hC, hbm⟩ := T.ox.cls
    have hcl : PySem.W.clsIn K C = some { name := nm, bases := bs, mro := .ref C :: bm, ns := N', qualname := q, hasDict := true, slotNames := sn, subclasses := sub, abstract := ab, collection := col, hasDel := false } := by unfold PySem.W.clsIn; rw [hC] <;> rfl
    obtain ⟨t1, ho⟩ := exo_at I.hok hea
    have hu0 : us[0]? = some (.ref a) := by
      obtain ⟨u, hu, ru⟩ := r.get hv0
      have : u = Value.ref a := ru
      rw [hu, this]
    have hself : (ps.zip us).reverse.lookup ar.arg = some (.ref a) := by
      have ndP : ps.Nodup := by
        have q := S.nd.sublist (List.take_sublist (ps.length + 1) N)
        have q2 := S.pre
        simp only [List.length_cons, List.length_nil, Nat.zero_add] at q2
        rw [q2] at q
        exact (List.nodup_append.mp q).1
      exact zip_look ndP hp0 hu0
    have gl : h₁.Ns mainGlobals mg := e0.mod.glob.keeps fun b o z => kp b o (e0.bs b o z).1
    obtain ⟨mb, hmb, hmbE⟩ := e0.mod.blt
    have bl : h₁.Ns builtinsNs mb := hmb.keeps fun b o z => kp b o (e0.bs b o z).1
    refine ks_wpAt_super_base (env := envF F f s.heap.objs.size) hsup (S.frk _ List.mem_cons_self) (by decide) rfl (KX1 _ _ lk) rfl hp rfl (KX1 _ _ hcode) rfl hvs hfile T.top ?_
    refine ks_loadName_global S.kind hsup (loadGlobal_builtin (env := envF F f s.heap.objs.size) gl T.sm bl ((hmbE _ (by decide +kernel)).trans (by decide +kernel : bootBuiltins "super" = some (.type "super"))) ⟨rfl, ?_⟩)
    refine wpAny_loadName_free S.kind (S.frk _ List.mem_cons_self) (by first | rfl | simp [List.lookup]) ⟨_, KX1 _ _ hcell, rfl⟩ ?_
    refine wpAny_loadName_local S.kind (S.par _ (List.mem_of_getElem? hp0)) hns hself ?_
    refine ks_wpAny_isType_cls (KX1 _ _ hC) rfl ⟨rfl, ?_⟩
    refine ks_wpAny_call_super (KX1 _ _ hC) rfl ho rfl (fun c e => by cases e) (PySem.W.looks_mroIn KX1 T.selfM) (fun h2 eso k2 => ?_)
    have I1 := I.kept (t' := s.toks + (ps.zip us).length) k2
    have KX2 : K.In h2 := KX1.keeps k2
    have hax : a ≠ C := by
      intro z
      have z1 := KX1 _ _ hC
      rw [← z, ho] at z1
      cases z1
    have ho2 : h2.get? a = some ({ cls := .ref C, dict := none, data := .fields #[.ref t1, .none, .none, .none, .bool false, .none] } : Obj) := k2 _ _ ho
    have J : PySem.W.InstAt h2 a ({ cls := .ref C, dict := none, data := .fields #[.ref t1, .none, .none, .none, .bool false, .none] } : Obj) C none := ⟨ho2, rfl, rfl, trivial⟩
    have hsupX := T.sup
    unfold ks_superIn at hsupX
    rw [hcl] at hsupX
    have hI : PySem.W.Looks (model P w) h2 (isInstance (.ref a) (.type "ValueError")) true := J.type.andThen (PySem.W.looks_subIn KX2 T.ve)
    refine kxs_getMethod kxs_ValueError eso (PySem.W.looks_opaque KX2 T.op) (l₀ := .ref C :: bm) ?_ rfl KX2 hsupX hI hax (by decide) ?_
    · exact fun A Q E s k q => wpAny_bind ((PySem.W.looks_clsIn KX2 hcl) A _ E s k (wpAny_pure q))
    · have k3 : ∀ b o, h2.get? b = some o → (h2.push (kxs_mw "ValueError.__init__" a)).get? b = some o := fun b o e => Heap.get?_push_of_some _ e
      have I2 := I1.kept (t' := s.toks + (ps.zip us).length + 1) k3
      have nu : H h2.objs.size = none := I1.hok.fresh (Nat.le_refl _)
      have hmw : (h2.push (kxs_mw "ValueError.__init__" a)).get? h2.objs.size = some (kxs_mw "ValueError.__init__" a) := Heap.get?_push_at rfl rfl
      have I3 := I2.pins_of (pins' := [(h2.objs.size, kxs_mw "ValueError.__init__" a)]) fun p hp => by
        have hp' : p = (h2.objs.size, kxs_mw "ValueError.__init__" a) := by simpa [ncx] using hp
        subst hp'
        exact ⟨hmw, nu, fun z => absurd I1.lt (by rw [← z]; exact Nat.lt_irrefl _), I1.nofs (Nat.le_refl _), fun v z => by cases z⟩
      refine kxs_callWith (i := "ValueError.__init__") (x := a) (by rw [he]; show (false || (backTo pos (starEach es _)).any (·.1)) = false; rw [hpl]; rfl) ?_
      rw [he]
      refine evalArgs_plain ?_
      show wpAny _ _ (spliced (backTo pos ((false, eval e (envF F f s.heap.objs.size)) :: starEach es (envF F f s.heap.objs.size)))) _ _ _
      rw [← he]
      refine thn (hta.run pos _ _ _ H _ I3 hq) fun us1 s1 hAP => ?_
      obtain ⟨ws, H1, I4, r4, hz, hea1, q4⟩ := hAP
      have hpin := (I4.pin (h2.objs.size, kxs_mw "ValueError.__init__" a) (by simp [ncx])).1
      refine ⟨hpin, ?_⟩
      obtain ⟨t2, ho4⟩ := exo_at I4.hok hea1
      have I5 := I4.pins_of (pins' := []) fun p hp => by simp [ncx] at hp
      obtain ⟨hp4, g4, d4, t4, os4⟩ := s1
      refine call_mw (I4.kIn _ _ hC) ho4 hpin (by show us1.length ≤ sizeLine; rw [← r4.length, sizeLine_eq]; omega) fun h' t5 k5 hx5 => ?_
      have I6 := I5.write (t' := t4) (x := a) (e := a) (o := exo a C none) (by rw [hea1]; exact True.intro) (.inl rfl) k5 ⟨_, hx5⟩ (exo_ok hx5)
      have eu : upd H1 a (exo a C none) = H1 := by
        funext b
        by_cases hb : b = a
        · rw [hb, upd_same, hea1]
        · rw [upd_ne hb]
      rw [eu] at I6
      exact wpAt_of_wpAny (htb.run [] _ _ H1 _ I6 q4)
  · have fin : ∀ {σ' : L2.St} {H' : Hp} {v : V} {u : Value}, Inv (ncx CX P w K mg base N F f A outer s H E) [] σ' H' s' → L2.RelV v u → Q v H' → CE outer P w H s Q u s' :=
      fun {σ' H' v u} J rv q => ⟨v, H', J.os, J.bare, J.base, J.hok, rv, q⟩
    cases fl with
    | ret u =>
      obtain ⟨v, σ', H', J, rv, q⟩ := hs
      exact fin J rv q
    | next =>
      obtain ⟨σ', H', J, q⟩ := hs
      exact fin (v := V.non) (u := Value.none) J rfl q
    | brk =>
      obtain ⟨_, _, _, q⟩ := hs
      exact False.elim q
    | cont =>
      obtain ⟨_, _, _, q⟩ := hs
      exact False.elim q
end

/-! ### the promise of such an __init__, its body, the raise -/
def okV (x : V) : Prop := (∃ y : Str, x = .str y ∧ y.length ≤ 1000) ∨ ∃ i : Int, x = .int i ∧ i.natAbs.log2 < 1920
theorem okV_int {i : Int} (h : -(2 ^ 64) < i ∧ i < 2 ^ 64) : okV (.int i) := by
  refine .inr ⟨i, rfl, ?_⟩
  have h1 : i.natAbs < 2 ^ 64 := by omega
  by_cases h0 : i.natAbs = 0
  · rw [h0]; decide
  · exact Nat.lt_of_lt_of_le ((Nat.log2_lt h0).mpr h1) (by decide)
def spErr (C : Addr) (fld : Str) : Sp := fun vs H Q _ => ∃ a x, vs = [.ref a, x] ∧ okV x ∧ H a = some (exo a C none) ∧ ∀ d, H d = none → d ≠ a → Q .non (upd (upd H d (exd d [(fld, x)])) a (exo a C (some d)))
section
variable {P : Program} {w : World} {K : PySem.W.Frag} {mg : Str → Option Value} {base : Heap} {CX : CXT}
theorem okErr {C cc cda f : Addr} {name qual fld : Str} {params : Arguments} {scope : Scope} {fd : FuncData} {ar : Arg} {prm : Str} {p0 p1 p2 pos pos' q0 q1 q2 q3 : Pos} {e : Expr} {te : TE}
    (T : ErrC P K mg C) (hno : PySem.W.findIn K (.ref C) fld = some none)
    (I0 : ErrI P K C cc cda f name qual params [.Expr (.Call (.Attribute (.Call (.Name "super" p0) [] [] p1) "__init__" p2) [e] [] pos) pos', .Assign [.Attribute (.Name "self" q0) fld q1] (.Name prm q2) q3] scope fd)
    (S : NScope ["self", prm, "__class__"] ["self", prm] ["__class__"] scope) (hp : (params.posonlyargs ++ params.args).head? = some ar) (hp0 : ar.arg = "self") (hsup : scope.names.lookup ("super" : Str) = some .globalImplicit)
    (hd : (prm == ("__debug__" : Str)) = false) (hcd : (prm == ("__classdict__" : Str)) = false)
    (he : ∀ env, starEach [e] env = (false, eval e env) :: starEach [] env)
    {pl : Env → Sem Bool} (hmc : ∀ env : Env, eval (.Call (.Attribute (.Call (.Name "super" p0) [] [] p1) "__init__" p2) [e] [] pos) env = (do
      let ov ← attributeBase (.Call (.Name "super" p0) [] [] p1) "__init__" env (eval (.Call (.Name "super" p0) [] [] p1) env)
      standAt p2.atName
      let (f, first) ← holding [ov] (getMethod ov "__init__" (pl env))
      callWith pos f first (backTo pos (starEach [e] env)) []))
    (hsw : ∀ env, swapsWith (.Call (.Attribute (.Call (.Name "super" p0) [] [] p1) "__init__" p2) [e] [] pos) none pos'.line env = pure false)
    (hsw2 : ∀ env, swapsWith (.Name prm q2) (some (.Attribute (.Name "self" q0) fld q1)) q3.line env = pure false)
    (hPE : ∀ X : Cx, X.N[1]? = some prm → Vis X.env.scope prm → PE X e te)
    (hte : ∀ (σ : L2.St) (H : Hp) (Q : VK) (x : V), σ[1]? = some (some x) → okV x → (∀ z, Q (.str z) H) → te σ H Q) :
    FnOk P w K mg base CX 1 f fd ["self", prm] (spErr C fld) := by
  refine fn_of_err T I0 S hp (by rw [hp0]; rfl) hsup (fun vs H Q E h => ?_) he (fun env => rfl) hmc hsw fun A outer s H vs Q E h => ?_
  · obtain ⟨a, x, rfl, _⟩ := h
    rfl
  · obtain ⟨a, x, rfl, hok, hea, k⟩ := h
    refine ⟨tCons te tNil, tOst K fld (tVar 0) (tVar 1), pa_cons (hPE _ rfl (Or.inl (S.par _ (by simp)))) pa_nil (he _), pss_one (ps_ost (pv 0 rfl (Or.inl (S.par _ (by simp)))) (pv 1 rfl (Or.inl (S.par _ (by simp))) hd hcd) (hsw2 _)), a, rfl, hea, ?_⟩
    refine hte _ _ _ x rfl hok fun z => ?_
    refine ⟨by show 1 ≤ 1000; decide, hea, ?_⟩
    exact ⟨x, rfl, _, rfl, a, C, rfl, T.ox, hno, .inl ⟨hea, fun d hd hda => k d hd hda⟩⟩
/-- f"pre{x}" and f"pre{x}suf" -/
theorem te2 {pre : Str} {i : Nat} (hpre : pre.length ≤ 1000) (σ : L2.St) (H : Hp) (Q : VK) (x : V) (hx : σ[i]? = some (some x)) (ho : okV x) (q : ∀ z, Q (.str z) H) :
    tJs [tC (.str pre), tFmt (tVar i)] Str.empty σ H (fun out H1 => Q (.str out) H1) := by
  have hs : ∀ n : Nat, n ≤ 10000 → n ≤ sizeLine := fun n h => by rw [sizeLine_eq]; omega
  have l0 : (Str.empty ++ pre).length ≤ 1000 := by rw [Str.length_append]; show 0 + _ ≤ _; omega
  refine ⟨pre, rfl, hs _ (by omega), x, hx, ?_⟩
  rcases ho with ⟨y, rfl, hy⟩ | ⟨j, rfl, hj⟩
  · exact .inl ⟨y, rfl, hs _ (by omega), y, rfl, hs _ (by rw [Str.length_append]; omega), q _⟩
  · have l1 := int_text_len_1921 hj
    exact .inr ⟨j, rfl, hj, _, rfl, hs _ (by rw [Str.length_append]; exact Nat.le_trans (Nat.add_le_add l0 l1) (by decide)), q _⟩
theorem te3 {pre suf : Str} {i : Nat} (hpre : pre.length ≤ 1000) (hsuf : suf.length ≤ 1000) (σ : L2.St) (H : Hp) (Q : VK) (x : V) (hx : σ[i]? = some (some x)) (ho : okV x) (q : ∀ z, Q (.str z) H) :
    tJs [tC (.str pre), tFmt (tVar i), tC (.str suf)] Str.empty σ H (fun out H1 => Q (.str out) H1) := by
  have hs : ∀ n : Nat, n ≤ 10000 → n ≤ sizeLine := fun n h => by rw [sizeLine_eq]; omega
  have l0 : (Str.empty ++ pre).length ≤ 1000 := by rw [Str.length_append]; show 0 + _ ≤ _; omega
  refine ⟨pre, rfl, hs _ (by omega), x, hx, ?_⟩
  rcases ho with ⟨y, rfl, hy⟩ | ⟨j, rfl, hj⟩
  · have l2 : (Str.empty ++ pre ++ y).length ≤ 2000 := by rw [Str.length_append]; omega
    exact .inl ⟨y, rfl, hs _ (by omega), y, rfl, hs _ (by omega), suf, rfl, hs _ (by rw [Str.length_append]; omega), q _⟩
  · have l1 := int_text_len_1921 hj
    have l2 : (Str.empty ++ pre ++ Str.ofString (toString j)).length ≤ 2921 := by rw [Str.length_append]; omega
    exact .inr ⟨j, rfl, hj, _, rfl, hs _ (Nat.le_trans l2 (by decide)), suf, rfl, hs _ (by rw [Str.length_append]; exact Nat.le_trans (Nat.add_le_add l2 hsuf) (by decide)), q _⟩
end
/-- an own error class, ready to be raised and caught -/
structure EK (P : Program) (w : World) (K : PySem.W.Frag) (mg : Str → Option Value) (base : Heap) (x fld : Str) (C fI : Addr) (fd : FuncData) (ps : List Str) : Prop where
  T : ErrC P K mg C
  g : mg x = some (.ref C)
  iC : PySem.W.findIn K (.ref C) "__init__" = some (some (.ref fI))
  tI : PySem.W.typeIn K (.ref fI) = some (.type "function")
  F1 : FnOk P w K mg base CX0 1 fI fd ps (spErr C fld)
  b : Binds K fd ps []
  nof : PySem.W.findIn K (.ref C) fld = some none
  xf : XfC K C
  isc : ExcC K C
  own : PySem.W.subIn K (.ref C) (.ref C) = some true
theorem EK.exm {P : Program} {w : World} {K : PySem.W.Frag} {mg : Str → Option Value} {base : Heap} {x fld : Str} {C fI : Addr} {fd : FuncData} {ps : List Str} (E : EK P w K mg base x fld C fI fd ps) : PySem.W.exmOne K (.ref C) (.ref C) = some true :=
  PySem.W.exm_ref E.T.ox.exC E.xf.hdC E.T.ox.tyC E.own
section
variable {X : Cx} {W : WX} {x fld : Str} {C fI : Addr} {fd : FuncData} {ps : List Str} {e o : Expr} {te ta : TE} {p pos pos' apos : Pos}
theorem upd_del {fs : List (Str × V)} {H : Hp} {a d : Addr} {o u v : HO} (ha : H a = none) (hda : d ≠ a) : upd (del (upd (upd (upd H a o) d u) a v) a) d (.xd fs) = upd H d (.xd fs) := by
  funext b
  by_cases hb : b = d
  · subst hb; rw [upd_same, upd_same]
  · rw [upd_ne hb, upd_ne hb]
    by_cases hba : b = a
    · subst hba; rw [del_same, ha]
    · rw [del_ne hba, upd_ne hba, upd_ne hb, upd_ne hba]
/-- a reading made to bear a weaker wish -/
def tUp (te : TE) : TE := fun σ H Q => ∃ Q0 : VK, te σ H Q0 ∧ ∀ v H1, Q0 v H1 → Q v H1
theorem pe_up (h : PE X e te) : PE X e (tUp te) := ⟨fun pins s σ H Q I ⟨Q0, q, m⟩ => thn (h.run pins s σ H Q0 I q) fun _ _ ⟨v, H1, J, r, z⟩ => ⟨v, H1, J, r, m _ _ z⟩⟩
/-- raise X(e) -/
def tRaiseE (W : WX) (C : Addr) (fld : Str) (te : TE) : TS := fun _ σ H => te σ H fun v H1 => okV v ∧ ∀ d, H1 d = none → W (.ref C) (some d) σ (upd H1 d (.xd [(fld, v)]))
theorem ps_raiseE (hc : X.calm = true) (E : EK X.prog X.w X.K X.mg X.base x fld C fI fd ps) (hr : Room 2 X.A) (tk : Takes X W) (hg : Gl X x) (he : PE X e te) (hdb : (x == ("__debug__" : Str)) = false := by decide)
    (hst : starEach [e] X.env = (false, eval e X.env) :: starEach [] X.env := by rfl) :
    PS X (.Raise (some (.Call (.Name x p) [e] [] pos)) none pos') (tRaiseE W C fld te) := by
  refine ⟨fun pins s σ H D I h => ?_⟩
  refine (ps_raise hc tk (pmk_oex E.T.ox E.iC E.tI E.F1 hr E.b .nil pass0 hg E.g (pa_cons (pe_up he) pa_nil hst) hdb hst rfl)).run pins s σ H D I ?_
  refine ⟨_, h, fun v H1 ⟨hok, k⟩ => ⟨by show 1 ≤ 1000; decide, fun a ha => ⟨a, v, rfl, hok, upd_same, fun d hd hda => ⟨rfl, d, [(fld, v)], upd_same, by rw [upd_ne hda, upd_same], ?_, ?_⟩⟩⟩⟩
  · rw [upd_ne hda] at hd
    exact hd
  · rw [upd_ne hda] at hd
    rw [upd_del ha hda]
    exact k d hd
/-! ### calls of what may raise, the wish at the slots -/
variable {CX : CXT} {k : Nat} {f : Addr} {sp : Sp} {m : Str} {es : List Expr} {t : TA} {ES : L2.St → XK}
def tMethS (C : Addr) (m : Str) (sp : Sp) (ES : L2.St → XK) (ta : TE) (t : TA) : TE := fun σ H Q => ta σ H fun x H1 => ∃ a dx fs, x = .ref a ∧ H1 a = some (.ins C dx fs) ∧ fs.lookup m = none ∧ t σ H1 fun vs H2 => sp (x :: vs) H2 Q (ES σ)
theorem pe_methS {pl : Sem Bool} (he : PE X o ta) (c : Cls X.K C) (hm : Meth X.K C m f) (F : FnOk X.prog X.w X.K X.mg X.base CX k f fd ps sp) (hr : Room k X.A) (hb : Binds X.K fd ps []) (hx : ∀ σ, PassesAt CX X σ (ES σ)) (ha : PA X (e :: es) t)
    (hst : starEach (e :: es) X.env = (false, eval e X.env) :: starEach es X.env := by rfl) (hpl : (backTo pos (starEach es X.env)).any (·.1) = false := by rfl)
    (ht : eval (.Call (.Attribute o m apos) (e :: es) [] pos) X.env = (do
      let ov ← eval o X.env
      standAt apos.atName
      let (f, first) ← holding [ov] (getMethod ov m pl)
      callWith pos f first (backTo pos (starEach (e :: es) X.env)) (backToKw pos (keywordEach [] X.env))) := by rfl) :
    PE X (.Call (.Attribute o m apos) (e :: es) [] pos) (tMethS C m sp ES ta t) := by
  refine ⟨fun pins s σ H Q I h => ?_⟩
  refine PySem.W.methodCall_KW (pl := pl) (thn (he.run pins s σ H _ I h) fun u s1 ⟨x, H1, I1, rx, a, dx, fs, ex, ea, l, q⟩ => ?_) ht
  subst ex
  obtain rfl : u = Value.ref a := rx
  refine getmeth_ok I1 ea c hm l ?_
  refine PySem.W.callWith_K (first := [.ref a]) (h₀ := X.base) I.ok.mod.kin hm.kp (thn (ha.run pos pins s1 σ H1 _ I1 q) fun us s2 ⟨vs, H2, I2, r, q2⟩ => ⟨I2.kIn, ?_⟩) hst hpl
  exact run_fnS (us := .ref a :: us) (vs := .ref a :: vs) F hr hb (hx σ) I2 (.cons rfl r) q2
theorem pe_meth0S {pl : Sem Bool} (he : PE X o ta) (c : Cls X.K C) (hm : Meth X.K C m f) (F : FnOk X.prog X.w X.K X.mg X.base CX k f fd ps sp) (hr : Room k X.A) (hb : Binds X.K fd ps []) (hx : ∀ σ, PassesAt CX X σ (ES σ))
    (ht : eval (.Call (.Attribute o m apos) [] [] pos) X.env = (do
      let ov ← eval o X.env
      standAt apos.atName
      let (f, first) ← holding [ov] (getMethod ov m pl)
      callWith pos f first (backTo pos (starEach [] X.env)) (backToKw pos (keywordEach [] X.env))) := by rfl) :
    PE X (.Call (.Attribute o m apos) [] [] pos) (tMethS C m sp ES ta tNil) := by
  refine ⟨fun pins s σ H Q I h => ?_⟩
  refine PySem.W.methodCall_KW (pl := pl) (thn (he.run pins s σ H _ I h) fun u s1 ⟨x, H1, I1, rx, a, dx, fs, ex, ea, l, q⟩ => ?_) ht
  subst ex
  obtain rfl : u = Value.ref a := rx
  refine getmeth_ok I1 ea c hm l ?_
  exact PySem.W.callWith_K0 (first := [.ref a]) I1.kIn hm.kp (run_fnS (us := [.ref a]) (vs := [.ref a]) F hr hb (hx σ) I1 (.cons rfl .nil) q)
theorem pe_call0S (F : FnOk X.prog X.w X.K X.mg X.base CX k f fd ps sp) (hr : Room k X.A) (hg : Gl X x) (hm : X.mg x = some (.ref f)) (hk : PySem.W.keepIn X.K (.ref f) = true) (hb : Binds X.K fd ps []) (hx : ∀ σ, PassesAt CX X σ (ES σ))
    (hdb : (x == ("__debug__" : Str)) = false := by decide) : PE X (.Call (.Name x p) [] [] pos) (tCallS sp ES tNil) := by
  refine ⟨fun pins s σ H Q I h => ?_⟩
  refine wpAny_Call_Name_kw (ld_glob I hg hm ?_ hdb)
  exact PySem.W.callWith_K0 I.kIn hk (run_fnS (us := []) (vs := []) F hr hb (hx σ) I .nil h)
theorem run_makeS {pins : List (Addr × Obj)} {σ : L2.St} {H : Hp} {s : Shared} {Q : VK} {us : List Value} {vs : List V} (M : Mk X.K C f) (F : FnOk X.prog X.w X.K X.mg X.base CX k f fd ps sp) (hr : Room (k + 1) X.A) (hb : Binds X.K fd ps []) (hp : ∀ (σ : L2.St), PassesAt CX X σ (ES σ))
    (I : Inv X pins σ H s) (r : Vals vs us) (h : ∀ x dx, H x = none → H dx = none → dx ≠ x → sp (.ref x :: vs) (upd (upd H dx (.own x)) x (.ins C dx [])) (fun v H2 => v = .non ∧ Q (.ref x) H2) (ES σ)) :
    wpAny (model X.prog X.w) X.A (call (.ref C) us) (EP X pins σ Q) X.xe s := by
  have hq := h (s.heap.objs.size + 1) s.heap.objs.size (I.hok.fresh (Nat.le_succ _)) (I.hok.fresh (Nat.le_refl _)) (Nat.ne_of_lt (Nat.lt_succ_self _))
  have I2 := Inv.made (C := C) I
  have r2 : Vals (V.ref (s.heap.objs.size + 1) :: vs) (Value.ref (s.heap.objs.size + 1) :: us) := .cons rfl r
  have hl : (Value.ref (s.heap.objs.size + 1) :: us).length = ps.length := by rw [← r2.length]; exact F.len _ _ _ _ hq
  have b := hb _ (Value.ref (s.heap.objs.size + 1) :: us) I2.kIn (by rw [List.append_nil]; exact hl)
  rw [List.append_nil] at b
  refine wpAny_call (make_map (f := f) I.kIn M.makes M.init (beq_iff_eq.mp M.fn) (codeAny_mono (F.run _ X.stack _ _ ⟨Value.ref (s.heap.objs.size + 1) :: us, []⟩ (Value.ref (s.heap.objs.size + 1) :: us) _ _ (ES σ) (hr.make C us [])
    (I2.env0.make C us []) b r2 hq) fun r s' hq' => ?_))
  cases r with
  | error e => exact hp σ pins _ _ e s' I2 hq'
  | ok fl =>
    cases fl with
    | ret u =>
      obtain ⟨v, H', I3, rv, ev, q3⟩ := I2.after hq'
      subst ev
      exact ⟨rv, ⟨V.ref (s.heap.objs.size + 1), H', I3, rfl, q3⟩⟩
    | next => exact False.elim hq'
    | brk => exact False.elim hq'
    | cont => exact False.elim hq'
def tMakeS (C : Addr) (sp : Sp) (ES : L2.St → XK) (t : TA) : TE := fun σ H Q => t σ H fun vs H1 => ∀ x dx, H1 x = none → H1 dx = none → dx ≠ x → sp (.ref x :: vs) (upd (upd H1 dx (.own x)) x (.ins C dx [])) (fun v H2 => v = .non ∧ Q (.ref x) H2) (ES σ)
theorem pe_makeS (M : Mk X.K C f) (F : FnOk X.prog X.w X.K X.mg X.base CX k f fd ps sp) (hr : Room (k + 1) X.A) (hg : Gl X x) (hm : X.mg x = some (.ref C)) (hb : Binds X.K fd ps []) (hx : ∀ σ, PassesAt CX X σ (ES σ))
    (ha : PA X (e :: es) t) (hdb : (x == ("__debug__" : Str)) = false := by decide) (he : starEach (e :: es) X.env = (false, eval e X.env) :: starEach es X.env := by rfl) (hpl : (backTo pos (starEach es X.env)).any (·.1) = false := by rfl) :
    PE X (.Call (.Name x p) (e :: es) [] pos) (tMakeS C sp ES t) := by
  refine ⟨fun pins s σ H Q I h => ?_⟩
  refine wpAny_Call_Name_kw (ld_glob I hg hm ?_ hdb)
  refine PySem.W.callWith_K (h₀ := X.base) I.ok.mod.kin M.kp (thn (ha.run pos pins s σ H _ I h) fun us s1 ⟨vs, H1, I1, r, q⟩ => ⟨I1.kIn, ?_⟩) he hpl
  exact run_makeS M F hr hb hx I1 r q
theorem pe_make0S (M : Mk X.K C f) (F : FnOk X.prog X.w X.K X.mg X.base CX k f fd ps sp) (hr : Room (k + 1) X.A) (hg : Gl X x) (hm : X.mg x = some (.ref C)) (hb : Binds X.K fd ps []) (hx : ∀ σ, PassesAt CX X σ (ES σ))
    (hdb : (x == ("__debug__" : Str)) = false := by decide) : PE X (.Call (.Name x p) [] [] pos) (tMakeS C sp ES tNil) := by
  refine ⟨fun pins s σ H Q I h => ?_⟩
  refine wpAny_Call_Name_kw (ld_glob I hg hm ?_ hdb)
  exact PySem.W.callWith_K0 I.kIn M.kp (run_makeS (us := []) (vs := []) M F hr hb hx I .nil h)
/-! ### isinstance(e, T), e a caught error that has its dict -/
def rIsED (K : PySem.W.Frag) (D a : Addr) (cls : Value) (d : Option Addr) : List V → Hp → VK → Prop := fun xs H Q => ∃ (c : V) (cv : Value) (b : Bool) (dd : Addr) (fs : List (Str × V)), xs = [.ref a, c] ∧ cls = .ref D ∧ d = some dd ∧ H dd = some (.xd fs) ∧ (∀ u, RelV c u → u = cv) ∧ PySem.W.kitOne K (.ref D) cv = some b ∧ Q (.bl b) H
theorem call_isED {a D : Addr} {oe : Obj} {cls : Value} {d : Option Addr} {pn : List (Addr × Obj)} (C : ExcC X.K D) (hz : Zc cls d oe) (hf : ∃ vs, oe.data = .fields vs) : CallR (X.suite a ((a, oe) :: pn)) (.builtin "isinstance") (rIsED X.K D a cls d) := by
  intro pins s σ H xs us Q I r h
  obtain ⟨c, cv, b, dd, fs, rfl, rfl, rfl, hdd, hcv, e, q⟩ := h
  cases r with
  | cons rx rr =>
    cases rr with
    | cons rt rr =>
      cases rr
      cases rx
      have ec := hcv _ rt
      subst ec
      obtain ⟨hget, _⟩ := I.pin (a, oe) (List.mem_append.mpr (.inl List.mem_cons_self))
      obtain ⟨vs, hv⟩ := hf
      have hx : ObjOk X.prog X.w H s.heap dd (.xd fs) := I.hok dd _ hdd
      obtain ⟨mA, hns, hr⟩ := hx
      obtain ⟨od, ho, hl⟩ := lookIn_ns hns
      have J : PySem.W.InstAt s.heap a oe D (some od) := by
        obtain ⟨oc, od', oda, osl⟩ := oe
        obtain ⟨h1, h2⟩ := hz
        dsimp only at h1 h2 hv
        subst h1 h2 hv
        exact ⟨hget, rfl, rfl, ho⟩
      exact PySem.W.kia_one (PySem.W.kitx_exc (by obtain ⟨cd, hc, _⟩ := PySem.W.any_some C.hd; rw [hc]; rfl) C.hg C.hk C.hs C.ha C.hn C.ht C.hm) I.kIn J e (fun z => nomatch z) fun tk => ⟨.bl b, H, I.kept (t' := tk) fun _ _ z => z, rfl, q⟩
end

/-! ### C(k = v, ..), the parameters keyword-only -/
section
variable {X : Cx} {CX : CXT} {k : Nat} {f C : Addr} {fd : FuncData} {ps ks : List Str} {sp : Sp} {ES : L2.St → XK} {x : Str} {p pos : Pos} {kws : List Keyword} {tk : TA} {gV : List V → List V → List V}
def tMakeKS (C : Addr) (m : Nat) (sp : Sp) (gV : List V → List V → List V) (ES : L2.St → XK) (tk : TA) : TE := fun σ H Q => tk σ H fun zs H2 => zs.length = m ∧ ∀ x dx, H2 x = none → H2 dx = none → dx ≠ x →
  sp (gV [.ref x] zs) (upd (upd H2 dx (.own x)) x (.ins C dx [])) (fun v H3 => v = .non ∧ Q (.ref x) H3) (ES σ)
theorem pe_makeKS (M : Mk X.K C f) (F : FnOk X.prog X.w X.K X.mg X.base CX k f fd ps sp) (hr : Room (k + 1) X.A) (hg : Gl X x) (hm : X.mg x = some (.ref C)) (hbn : ∃ g, KBn X.K fd ps 1 ks g gV) (hx : ∀ σ, PassesAt CX X σ (ES σ)) (hkw : PK X kws tk)
    (hall : (backToKw pos (keywordEach kws X.env)).all (·.1.isSome) = true := by rfl) (hks : (backToKw pos (keywordEach kws X.env)).filterMap (·.1) = ks := by rfl) (hdb : (x == ("__debug__" : Str)) = false := by decide)
    (hpl : ((backTo pos (starEach [] X.env)).any (·.1) || (backToKw pos (keywordEach kws X.env)).any (·.1.isNone)) = false := by rfl) :
    PE X (.Call (.Name x p) [] kws pos) (tMakeKS C ks.length sp gV ES tk) := by
  obtain ⟨g, hb⟩ := hbn
  refine ⟨fun pins s σ H Q I h => ?_⟩
  refine wpAny_Call_Name_kw (ld_glob I hg hm ?_ hdb)
  refine PySem.W.callWith_KW0 (h₀ := X.base) I.ok.mod.kin M.kp hall ?_ hpl
  refine thn (hkw.run pos pins s σ H _ I h) fun ws s2 ⟨zs, H2, I2, rz, l2, q2⟩ => ⟨I2.kIn, ?_⟩
  rw [hks]
  have hq := q2 (s2.heap.objs.size + 1) s2.heap.objs.size (I2.hok.fresh (Nat.le_succ _)) (I2.hok.fresh (Nat.le_refl _)) (Nat.ne_of_lt (Nat.lt_succ_self _))
  have I3 := Inv.made (C := C) I2
  have r1 : Vals [V.ref (s2.heap.objs.size + 1)] [Value.ref (s2.heap.objs.size + 1)] := .cons rfl .nil
  have r2 := hb.rel r1 rz
  refine wpAny_call (make_map (f := f) I2.kIn M.makes M.init (beq_iff_eq.mp M.fn) (codeAny_mono (F.run _ X.stack _ _ ⟨[Value.ref (s2.heap.objs.size + 1)], ks.zip ws⟩ (g [Value.ref (s2.heap.objs.size + 1)] ws) _ _ (ES σ) (hr.make C [] (ks.zip ws))
    (I3.env0.make C [] (ks.zip ws)) (hb.to _ [Value.ref (s2.heap.objs.size + 1)] ws I3.kIn rfl (rz.length.symm.trans l2)) r2 hq) fun r s' hq' => ?_))
  cases r with
  | error e => exact hx σ pins _ _ e s' I3 hq'
  | ok fl =>
    cases fl with
    | ret u =>
      obtain ⟨v, H', I4, rv, ev, q3⟩ := I3.after hq'
      subst ev
      exact ⟨rv, ⟨V.ref (s2.heap.objs.size + 1), H', I4, rfl, q3⟩⟩
    | next => exact False.elim hq'
    | brk => exact False.elim hq'
    | cont => exact False.elim hq'
end
theorem passNo {X : Cx} {σ : L2.St} : PassesAt (L2.CX X.prog X.w) X σ (WE (fun _ _ _ _ => False) σ) := by
  intro pins H s e s' I c
  obtain ⟨_, _, _, _, _, _, _, _, _, _, _, _, z⟩ := c
  exact z.elim
end Sx
set_option Elab.async false
set_option maxRecDepth 100000
set_option maxHeartbeats 4000000
set_option linter.all false
set_option autoImplicit false
/-! Readings, one step a lemma; heaps by footprints. -/
namespace Rd
open PySem PySem.Spec PyProof.Rows L2 Sx
/-! ### promises by the number of arguments -/
def A0 (φ : Hp → VK → XK → Prop) : Sp := fun vs H Q E => vs = [] ∧ φ H Q E
def A1 (φ : V → Hp → VK → XK → Prop) : Sp := fun vs H Q E => ∃ x, vs = [x] ∧ φ x H Q E
def A2 (φ : V → V → Hp → VK → XK → Prop) : Sp := fun vs H Q E => ∃ x y, vs = [x, y] ∧ φ x y H Q E
def A3 (φ : V → V → V → Hp → VK → XK → Prop) : Sp := fun vs H Q E => ∃ x y z, vs = [x, y, z] ∧ φ x y z H Q E
def A4 (φ : V → V → V → V → Hp → VK → XK → Prop) : Sp := fun vs H Q E => ∃ x y z u, vs = [x, y, z, u] ∧ φ x y z u H Q E
def A5 (φ : V → V → V → V → V → Hp → VK → XK → Prop) : Sp := fun vs H Q E => ∃ x y z u w, vs = [x, y, z, u, w] ∧ φ x y z u w H Q E
def A6 (φ : V → V → V → V → V → V → Hp → VK → XK → Prop) : Sp := fun vs H Q E => ∃ x y z u w o, vs = [x, y, z, u, w, o] ∧ φ x y z u w o H Q E
theorem A0.len {φ : Hp → VK → XK → Prop} {vs : List V} {H : Hp} {Q : VK} {E : XK} (h : A0 φ vs H Q E) : vs.length = 0 := by obtain ⟨rfl, _⟩ := h; rfl
theorem A1.len {φ : V → Hp → VK → XK → Prop} {vs : List V} {H : Hp} {Q : VK} {E : XK} (h : A1 φ vs H Q E) : vs.length = 1 := by obtain ⟨_, rfl, _⟩ := h; rfl
theorem A2.len {φ : V → V → Hp → VK → XK → Prop} {vs : List V} {H : Hp} {Q : VK} {E : XK} (h : A2 φ vs H Q E) : vs.length = 2 := by obtain ⟨_, _, rfl, _⟩ := h; rfl
theorem A3.len {φ : V → V → V → Hp → VK → XK → Prop} {vs : List V} {H : Hp} {Q : VK} {E : XK} (h : A3 φ vs H Q E) : vs.length = 3 := by obtain ⟨_, _, _, rfl, _⟩ := h; rfl
theorem A4.len {φ : V → V → V → V → Hp → VK → XK → Prop} {vs : List V} {H : Hp} {Q : VK} {E : XK} (h : A4 φ vs H Q E) : vs.length = 4 := by obtain ⟨_, _, _, _, rfl, _⟩ := h; rfl
theorem A5.len {φ : V → V → V → V → V → Hp → VK → XK → Prop} {vs : List V} {H : Hp} {Q : VK} {E : XK} (h : A5 φ vs H Q E) : vs.length = 5 := by obtain ⟨_, _, _, _, _, rfl, _⟩ := h; rfl
theorem A6.len {φ : V → V → V → V → V → V → Hp → VK → XK → Prop} {vs : List V} {H : Hp} {Q : VK} {E : XK} (h : A6 φ vs H Q E) : vs.length = 6 := by obtain ⟨_, _, _, _, _, _, rfl, _⟩ := h; rfl
theorem a0 {φ : Hp → VK → XK → Prop} {H : Hp} {Q : VK} {E : XK} (h : φ H Q E) : A0 φ [] H Q E := ⟨rfl, h⟩
theorem a1 {φ : V → Hp → VK → XK → Prop} {x : V} {H : Hp} {Q : VK} {E : XK} (h : φ x H Q E) : A1 φ [x] H Q E := ⟨x, rfl, h⟩
theorem a2 {φ : V → V → Hp → VK → XK → Prop} {x y : V} {H : Hp} {Q : VK} {E : XK} (h : φ x y H Q E) : A2 φ [x, y] H Q E := ⟨x, y, rfl, h⟩
theorem a3 {φ : V → V → V → Hp → VK → XK → Prop} {x y z : V} {H : Hp} {Q : VK} {E : XK} (h : φ x y z H Q E) : A3 φ [x, y, z] H Q E := ⟨x, y, z, rfl, h⟩
theorem a4 {φ : V → V → V → V → Hp → VK → XK → Prop} {x y z u : V} {H : Hp} {Q : VK} {E : XK} (h : φ x y z u H Q E) : A4 φ [x, y, z, u] H Q E := ⟨x, y, z, u, rfl, h⟩
theorem a5 {φ : V → V → V → V → V → Hp → VK → XK → Prop} {x y z u w : V} {H : Hp} {Q : VK} {E : XK} (h : φ x y z u w H Q E) : A5 φ [x, y, z, u, w] H Q E := ⟨x, y, z, u, w, rfl, h⟩
theorem a6 {φ : V → V → V → V → V → V → Hp → VK → XK → Prop} {x y z u w o : V} {H : Hp} {Q : VK} {E : XK} (h : φ x y z u w o H Q E) : A6 φ [x, y, z, u, w, o] H Q E := ⟨x, y, z, u, w, o, rfl, h⟩
def A7 (φ : V → V → V → V → V → V → V → Hp → VK → XK → Prop) : Sp := fun vs H Q E => ∃ x0 x1 x2 x3 x4 x5 x6, vs = [x0, x1, x2, x3, x4, x5, x6] ∧ φ x0 x1 x2 x3 x4 x5 x6 H Q E
theorem A7.len {φ : V → V → V → V → V → V → V → Hp → VK → XK → Prop} {vs : List V} {H : Hp} {Q : VK} {E : XK} (h : A7 φ vs H Q E) : vs.length = 7 := by obtain ⟨_, _, _, _, _, _, _, rfl, _⟩ := h; rfl
theorem a7 {φ : V → V → V → V → V → V → V → Hp → VK → XK → Prop} {x0 x1 x2 x3 x4 x5 x6 : V} {H : Hp} {Q : VK} {E : XK} (h : φ x0 x1 x2 x3 x4 x5 x6 H Q E) : A7 φ [x0, x1, x2, x3, x4, x5, x6] H Q E := ⟨x0, x1, x2, x3, x4, x5, x6, rfl, h⟩
def A8 (φ : V → V → V → V → V → V → V → V → Hp → VK → XK → Prop) : Sp := fun vs H Q E => ∃ x0 x1 x2 x3 x4 x5 x6 x7, vs = [x0, x1, x2, x3, x4, x5, x6, x7] ∧ φ x0 x1 x2 x3 x4 x5 x6 x7 H Q E
theorem A8.len {φ : V → V → V → V → V → V → V → V → Hp → VK → XK → Prop} {vs : List V} {H : Hp} {Q : VK} {E : XK} (h : A8 φ vs H Q E) : vs.length = 8 := by obtain ⟨_, _, _, _, _, _, _, _, rfl, _⟩ := h; rfl
theorem a8 {φ : V → V → V → V → V → V → V → V → Hp → VK → XK → Prop} {x0 x1 x2 x3 x4 x5 x6 x7 : V} {H : Hp} {Q : VK} {E : XK} (h : φ x0 x1 x2 x3 x4 x5 x6 x7 H Q E) : A8 φ [x0, x1, x2, x3, x4, x5, x6, x7] H Q E := ⟨x0, x1, x2, x3, x4, x5, x6, x7, rfl, h⟩
def A9 (φ : V → V → V → V → V → V → V → V → V → Hp → VK → XK → Prop) : Sp := fun vs H Q E => ∃ x0 x1 x2 x3 x4 x5 x6 x7 x8, vs = [x0, x1, x2, x3, x4, x5, x6, x7, x8] ∧ φ x0 x1 x2 x3 x4 x5 x6 x7 x8 H Q E
theorem A9.len {φ : V → V → V → V → V → V → V → V → V → Hp → VK → XK → Prop} {vs : List V} {H : Hp} {Q : VK} {E : XK} (h : A9 φ vs H Q E) : vs.length = 9 := by obtain ⟨_, _, _, _, _, _, _, _, _, rfl, _⟩ := h; rfl
theorem a9 {φ : V → V → V → V → V → V → V → V → V → Hp → VK → XK → Prop} {x0 x1 x2 x3 x4 x5 x6 x7 x8 : V} {H : Hp} {Q : VK} {E : XK} (h : φ x0 x1 x2 x3 x4 x5 x6 x7 x8 H Q E) : A9 φ [x0, x1, x2, x3, x4, x5, x6, x7, x8] H Q E := ⟨x0, x1, x2, x3, x4, x5, x6, x7, x8, rfl, h⟩
def A10 (φ : V → V → V → V → V → V → V → V → V → V → Hp → VK → XK → Prop) : Sp := fun vs H Q E => ∃ x0 x1 x2 x3 x4 x5 x6 x7 x8 x9, vs = [x0, x1, x2, x3, x4, x5, x6, x7, x8, x9] ∧ φ x0 x1 x2 x3 x4 x5 x6 x7 x8 x9 H Q E
theorem A10.len {φ : V → V → V → V → V → V → V → V → V → V → Hp → VK → XK → Prop} {vs : List V} {H : Hp} {Q : VK} {E : XK} (h : A10 φ vs H Q E) : vs.length = 10 := by obtain ⟨_, _, _, _, _, _, _, _, _, _, rfl, _⟩ := h; rfl
theorem a10 {φ : V → V → V → V → V → V → V → V → V → V → Hp → VK → XK → Prop} {x0 x1 x2 x3 x4 x5 x6 x7 x8 x9 : V} {H : Hp} {Q : VK} {E : XK} (h : φ x0 x1 x2 x3 x4 x5 x6 x7 x8 x9 H Q E) : A10 φ [x0, x1, x2, x3, x4, x5, x6, x7, x8, x9] H Q E := ⟨x0, x1, x2, x3, x4, x5, x6, x7, x8, x9, rfl, h⟩
def A11 (φ : V → V → V → V → V → V → V → V → V → V → V → Hp → VK → XK → Prop) : Sp := fun vs H Q E => ∃ x0 x1 x2 x3 x4 x5 x6 x7 x8 x9 x10, vs = [x0, x1, x2, x3, x4, x5, x6, x7, x8, x9, x10] ∧ φ x0 x1 x2 x3 x4 x5 x6 x7 x8 x9 x10 H Q E
theorem A11.len {φ : V → V → V → V → V → V → V → V → V → V → V → Hp → VK → XK → Prop} {vs : List V} {H : Hp} {Q : VK} {E : XK} (h : A11 φ vs H Q E) : vs.length = 11 := by obtain ⟨_, _, _, _, _, _, _, _, _, _, _, rfl, _⟩ := h; rfl
theorem a11 {φ : V → V → V → V → V → V → V → V → V → V → V → Hp → VK → XK → Prop} {x0 x1 x2 x3 x4 x5 x6 x7 x8 x9 x10 : V} {H : Hp} {Q : VK} {E : XK} (h : φ x0 x1 x2 x3 x4 x5 x6 x7 x8 x9 x10 H Q E) : A11 φ [x0, x1, x2, x3, x4, x5, x6, x7, x8, x9, x10] H Q E := ⟨x0, x1, x2, x3, x4, x5, x6, x7, x8, x9, x10, rfl, h⟩
def A12 (φ : V → V → V → V → V → V → V → V → V → V → V → V → Hp → VK → XK → Prop) : Sp := fun vs H Q E => ∃ x0 x1 x2 x3 x4 x5 x6 x7 x8 x9 x10 x11, vs = [x0, x1, x2, x3, x4, x5, x6, x7, x8, x9, x10, x11] ∧ φ x0 x1 x2 x3 x4 x5 x6 x7 x8 x9 x10 x11 H Q E
theorem A12.len {φ : V → V → V → V → V → V → V → V → V → V → V → V → Hp → VK → XK → Prop} {vs : List V} {H : Hp} {Q : VK} {E : XK} (h : A12 φ vs H Q E) : vs.length = 12 := by obtain ⟨_, _, _, _, _, _, _, _, _, _, _, _, rfl, _⟩ := h; rfl
theorem a12 {φ : V → V → V → V → V → V → V → V → V → V → V → V → Hp → VK → XK → Prop} {x0 x1 x2 x3 x4 x5 x6 x7 x8 x9 x10 x11 : V} {H : Hp} {Q : VK} {E : XK} (h : φ x0 x1 x2 x3 x4 x5 x6 x7 x8 x9 x10 x11 H Q E) : A12 φ [x0, x1, x2, x3, x4, x5, x6, x7, x8, x9, x10, x11] H Q E := ⟨x0, x1, x2, x3, x4, x5, x6, x7, x8, x9, x10, x11, rfl, h⟩
/-! ### attribute lists -/
theorem putF_hit (f : Str) (v y : V) (r : List (Str × V)) : putF f v ((f, y) :: r) = (f, v) :: r := if_pos rfl
theorem putF_miss {f g : Str} (h : ¬ g = f) (v y : V) (r : List (Str × V)) : putF f v ((g, y) :: r) = (g, y) :: putF f v r := if_neg h
theorem putF_nil (f : Str) (v : V) : putF f v [] = [(f, v)] := rfl
theorem look_hit (f : Str) (y : V) (r : List (Str × V)) : ((f, y) :: r).lookup f = some y := by rw [lookup_put, if_pos rfl]
theorem look_miss {f g : Str} (h : ¬ g = f) (y : V) (r : List (Str × V)) : ((f, y) :: r).lookup g = r.lookup g := by rw [lookup_put, if_neg h]
/-! ### steps -/
section
variable {K : PySem.W.Frag} {D : Ends} {σ : L2.St} {H : Hp} {t u : TS} {te ta tb tc : TE} {tt tu : TT} {g : TG} {Q : VK} {QT : Bool → Hp → Prop} {v x y : V} {i : Nat} {r : R2} {tl tr : TA} {QA : List V → Hp → Prop}
theorem s_seq (h : t { D with nx := u D } σ H) : tSeq t u D σ H := h
theorem s_asg (h : te σ H fun x H1 => g x σ H1 D.nx) : tAsg te g D σ H := h
theorem g_name {R : L2.St → Hp → Prop} (h : R (σ.set i (some v)) H) : gName i v σ H R := h
theorem s_ret (h : te σ H D.rt) : tRet te D σ H := h
theorem s_retN (h : D.rt .non H) : tRetN D σ H := h
theorem s_drop (h : te σ H fun _ H1 => D.nx σ H1) : tDrop te D σ H := h
theorem s_if (h : tt σ H fun b H1 => if b = true then t D σ H1 else u D σ H1) : tIfS tt t u D σ H := h
theorem s_next (h : D.nx σ H) : tNext D σ H := h
theorem s_cont (h : D.ct σ H) : tCont D σ H := h
theorem s_break (h : D.bk σ H) : tBreak D σ H := h
theorem d_nx {a c d : L2.St → Hp → Prop} {b : V → Hp → Prop} (h : a σ H) : (Ends.mk a b c d).nx σ H := h
theorem d_rt {a c d : L2.St → Hp → Prop} {b : V → Hp → Prop} (h : b v H) : (Ends.mk a b c d).rt v H := h
theorem d_bk {a c d : L2.St → Hp → Prop} {b : V → Hp → Prop} (h : c σ H) : (Ends.mk a b c d).bk σ H := h
theorem d_ct {a c d : L2.St → Hp → Prop} {b : V → Hp → Prop} (h : d σ H) : (Ends.mk a b c d).ct σ H := h
def kSet (K : PySem.W.Frag) (f : Str) (y x : V) (H : Hp) (R : Hp → Prop) : Prop := ∃ a C dx fs, x = .ref a ∧ H a = some (.ins C dx fs) ∧ Cls K C ∧ NoAttr K C f ∧ fs.length < 1000 ∧ R (upd H a (.ins C dx (putF f y fs)))
theorem s_fld {f : Str} (h : tb σ H fun y H1 => ta σ H1 fun x H2 => kSet K f y x H2 (D.nx σ)) : sFld K ta tb f D σ H := h
theorem k_set {f : Str} {R : Hp → Prop} {a C dx : Addr} {fs fs' : List (Str × V)} (h : H a = some (.ins C dx fs)) (c : Cls K C) (n : NoAttr K C f) (hp : putF f y fs = fs') (l : fs.length < 1000) (q : R (upd H a (.ins C dx fs'))) : kSet K f y (.ref a) H R := ⟨a, C, dx, fs, rfl, h, c, n, l, hp ▸ q⟩
theorem e_var (h : σ[i]? = some (some v)) (q : Q v H) : tVar i σ H Q := ⟨v, h, q⟩
theorem e_c (q : Q v H) : tC v σ H Q := q
theorem e_op (h : ta σ H fun x H1 => tb σ H1 fun y H2 => r x y H2 Q) : tOp r ta tb σ H Q := h
theorem e_un {ru : V → Hp → VK → Prop} (h : ta σ H fun x H1 => ru x H1 Q) : tUn ru ta σ H Q := h
theorem o_I0 {gg : Int → Int → V} {m n : Int} (q : Q (gg m n) H) : rI0 gg (.int m) (.int n) H Q := ⟨m, n, rfl, rfl, q⟩
theorem o_I {Cc : Int → Int → Prop} {gg : Int → Int → V} {m n : Int} (c : Cc m n) (q : Q (gg m n) H) : rI Cc gg (.int m) (.int n) H Q := ⟨m, n, rfl, rfl, c, q⟩
theorem o_U {gg : Int → V} {m : Int} (q : Q (gg m) H) : rU gg (.int m) H Q := ⟨m, rfl, q⟩
theorem o_eq (s : scal x y = true) (q : Q (.bl (decide (x = y))) H) : rEq x y H Q := ⟨s, q⟩
theorem o_ne (s : scal x y = true) (q : Q (.bl (!decide (x = y))) H) : rNe x y H Q := ⟨s, q⟩
theorem o_ixL {p : Addr} {xs : List V} {n : Int} (h : SqL K H p xs) (a : atI xs n = some v) (q : Q v H) : rIxL K (.ref p) (.int n) H Q := ⟨p, xs, n, v, rfl, rfl, h, a, q⟩
theorem o_ixT {p : Addr} {xs : List V} {n : Int} (h : SqT K H p xs) (a : atI xs n = some v) (q : Q v H) : rIxT K (.ref p) (.int n) H Q := ⟨p, xs, n, v, rfl, rfl, h, a, q⟩
def kFld (K : PySem.W.Frag) (f : Str) (x : V) (H : Hp) (Q : VK) : Prop := ∃ a C dx fs v, x = .ref a ∧ H a = some (.ins C dx fs) ∧ Cls K C ∧ NoAttr K C f ∧ fs.lookup f = some v ∧ Q v H
theorem e_fld {f : Str} (h : ta σ H fun x H1 => kFld K f x H1 Q) : tFld K ta f σ H Q := h
theorem k_fld {f : Str} {a C dx : Addr} {fs : List (Str × V)} (h : H a = some (.ins C dx fs)) (c : Cls K C) (n : NoAttr K C f) (l : fs.lookup f = some v) (q : Q v H) : kFld K f (.ref a) H Q := ⟨a, C, dx, fs, v, rfl, h, c, n, l, q⟩
def kMeth (C : Addr) (m : Str) (sp : Sp) (E : XK) (t : TA) (σ : L2.St) (x : V) (H : Hp) (Q : VK) : Prop := ∃ a dx fs, x = .ref a ∧ H a = some (.ins C dx fs) ∧ fs.lookup m = none ∧ t σ H fun vs H2 => sp (x :: vs) H2 Q E
theorem e_meth {C : Addr} {m : Str} {sp : Sp} {ES : L2.St → XK} (h : ta σ H fun x H1 => kMeth C m sp (ES σ) tl σ x H1 Q) : tMethS C m sp ES ta tl σ H Q := h
theorem k_meth {C a dx : Addr} {m : Str} {sp : Sp} {E : XK} {fs : List (Str × V)} (h : H a = some (.ins C dx fs)) (l : fs.lookup m = none) (q : tl σ H fun vs H2 => sp (.ref a :: vs) H2 Q E) : kMeth C m sp E tl σ (.ref a) H Q := ⟨a, dx, fs, rfl, h, l, q⟩
theorem e_call {sp : Sp} {ES : L2.St → XK} (h : tl σ H fun vs H1 => sp vs H1 Q (ES σ)) : tCallS sp ES tl σ H Q := h
theorem e_make {C : Addr} {sp : Sp} {ES : L2.St → XK} (h : tl σ H fun vs H1 => ∀ x dx, H1 x = none → H1 dx = none → dx ≠ x → sp (.ref x :: vs) (upd (upd H1 dx (.own x)) x (.ins C dx [])) (fun v H2 => v = .non ∧ Q (.ref x) H2) (ES σ)) : tMakeS C sp ES tl σ H Q := h
theorem e_cb {rc : List V → Hp → VK → Prop} (h : tl σ H fun vs H1 => rc vs H1 Q) : tCB rc tl σ H Q := h
theorem l_nil (h : QA [] H) : tNil σ H QA := h
theorem l_cons (h : ta σ H fun x H1 => tl σ H1 fun xs H2 => QA (x :: xs) H2) : tCons ta tl σ H QA := h
theorem e_lst (h : tl σ H fun xs H1 => xs.length ≤ sizeLine ∧ ∀ p, H1 p = none → Q (.ref p) (upd H1 p (.lst xs))) : tLst tl σ H Q := h
theorem e_tup (h : tl σ H fun xs H1 => xs.length ≤ sizeLine ∧ ∀ p, H1 p = none → Q (.ref p) (upd H1 p (.tup xs))) : tTup tl σ H Q := h
theorem e_bm {T : String} {rm : V → List V → Hp → VK → Prop} (h : ta σ H fun x H1 => tyV K T x H1 ∧ tl σ H1 fun xs H2 => rm x xs H2 Q) : tBM K T rm ta tl σ H Q := h
theorem e_bm0 {T : String} {rm : V → List V → Hp → VK → Prop} (h : ta σ H fun x H1 => tyV K T x H1 ∧ rm x [] H1 Q) : tBM0 K T rm ta σ H Q := h
theorem e_not (h : ta σ H fun x H1 => ∃ c, x = .bl c ∧ Q (.bl (!c)) H1) : tNotV ta σ H Q := h
theorem e_if (h : tt σ H fun c H1 => if c = true then ta σ H1 Q else tb σ H1 Q) : tIf tt ta tb σ H Q := h
def kT (x : V) (H : Hp) (QT : Bool → Hp → Prop) : Prop := ∃ k, x = .bl k ∧ QT k H
theorem k_t {b : Bool} (q : QT b H) : kT (.bl b) H QT := ⟨b, rfl, q⟩
theorem t_test (h : te σ H fun x H1 => kT x H1 QT) : tTest te σ H QT := h
theorem t_B (h : te σ H fun x H1 => kT x H1 QT) : tB te σ H QT := h
theorem t_and (h : tt σ H fun c H1 => if c = true then tu σ H1 QT else QT false H1) : tAnd tt tu σ H QT := h
theorem t_or (h : tt σ H fun c H1 => if c = true then QT true H1 else tu σ H1 QT) : tOr tt tu σ H QT := h
theorem t_not (h : tt σ H fun c H1 => QT (!c) H1) : tNot tt σ H QT := h
theorem e_and (h : ta σ H fun x H1 => ∃ c, x = .bl c ∧ if c = true then tb σ H1 Q else Q (.bl false) H1) : tAndV ta tb σ H Q := h
theorem e_or (h : ta σ H fun x H1 => ∃ c, x = .bl c ∧ if c = true then Q (.bl true) H1 else tb σ H1 Q) : tOrV ta tb σ H Q := h
theorem e_chain {r' : R2} (h : ta σ H fun x H1 => tb σ H1 fun y H2 => r x y H2 fun z H3 => kT z H3 fun k H4 => if k = true then tc σ H4 fun w' H5 => r' y w' H5 Q else Q (.bl false) H4) : tChain r r' ta tb tc σ H Q := by
  refine h
theorem s_raise {W : WX} {C : Addr} {fld : Str} (h : te σ H fun v H1 => okV v ∧ ∀ d, H1 d = none → W (.ref C) (some d) σ (upd H1 d (.xd [(fld, v)]))) : tRaiseE W C fld te D σ H := h
theorem e_sl {rs : V → Option Int → Option Int → Hp → VK → Prop} {to th : TO} (h : te σ H fun x H1 => to σ H1 fun l H2 => th σ H2 fun u H3 => rs x l u H3 Q) : tSl rs te to th σ H Q := h
theorem p_no {QO : Option Int → Hp → Prop} (h : QO none H) : tNoPart σ H QO := h
def kI (x : V) (H : Hp) (QO : Option Int → Hp → Prop) : Prop := ∃ n, x = .int n ∧ QO (some n) H
theorem k_i {QO : Option Int → Hp → Prop} {n : Int} (q : QO (some n) H) : kI (.int n) H QO := ⟨n, rfl, q⟩
theorem p_some {QO : Option Int → Hp → Prop} (h : te σ H fun x H1 => kI x H1 QO) : tPart te σ H QO := h
/-! ### ifs -/
theorem if_d {c A B : Prop} [Decidable c] (h1 : c → A) (h2 : ¬ c → B) : if decide c = true then A else B := by
  by_cases h : c
  · rw [if_pos (decide_eq_true h)]; exact h1 h
  · rw [if_neg (by rw [decide_eq_false h]; exact Bool.false_ne_true)]; exact h2 h
theorem if_nd {c A B : Prop} [Decidable c] (h1 : ¬ c → A) (h2 : c → B) : if (!decide c) = true then A else B := by
  by_cases h : c
  · rw [decide_eq_true h]; exact iteF (h2 h)
  · rw [decide_eq_false h]; exact iteT (h1 h)
theorem if_dT {c A B : Prop} [Decidable c] (h : c) (q : A) : if decide c = true then A else B := by rw [if_pos (decide_eq_true h)]; exact q
theorem if_dF {c A B : Prop} [Decidable c] (h : ¬ c) (q : B) : if decide c = true then A else B := if_d (fun z => absurd z h) fun _ => q
theorem if_ndT {c A B : Prop} [Decidable c] (h : ¬ c) (q : A) : if (!decide c) = true then A else B := if_nd (fun _ => q) fun z => absurd z h
theorem if_ndF {c A B : Prop} [Decidable c] (h : c) (q : B) : if (!decide c) = true then A else B := if_nd (fun z => absurd h z) fun _ => q
theorem if_b {b : Bool} {A B : Prop} (h1 : b = true → A) (h2 : b = false → B) : if b = true then A else B := by
  cases b with
  | true => exact iteT (h1 rfl)
  | false => exact iteF (h2 rfl)
end
/-! ### lists of values -/
theorem upd_rw {H : Hp} {a : Addr} {o : HO} (h : H a = some o) : upd H a o = H := by
  funext b
  by_cases hb : b = a
  · rw [hb, upd_same, h]
  · rw [upd_ne hb]
theorem sz {n : Nat} (h : n ≤ 100000) : n ≤ sizeLine := by rw [sizeLine_eq]; omega
theorem szl {n : Nat} (h : n < 100000) : n < sizeLine := by rw [sizeLine_eq]; omega
/-! ### what a step may touch -/
/-- all that was tracked, but at fp, is as it was -/
def Fp (fp : List Addr) (H H' : Hp) : Prop := ∀ b o, H b = some o → b ∉ fp → H' b = some o
theorem Fp.refl (fp : List Addr) (H : Hp) : Fp fp H H := fun _ _ h _ => h
theorem Fp.trans {fp : List Addr} {H H1 H2 : Hp} (a : Fp fp H H1) (b : Fp fp H1 H2) : Fp fp H H2 := fun c o h n => b c o (a c o h n) n
theorem Fp.mono {fp fq : List Addr} {H H' : Hp} (a : Fp fp H H') (s : ∀ x, x ∈ fp → x ∈ fq) : Fp fq H H' := fun c o h n => a c o h fun z => n (s c z)
theorem Fp.new {fp : List Addr} {H : Hp} {a : Addr} {o : HO} (h : H a = none) : Fp fp H (upd H a o) := fun c u e _ => by rw [upd_ne (ne_of_none e h)]; exact e
theorem Fp.at_ {fp : List Addr} {H : Hp} {a : Addr} {o : HO} (h : a ∈ fp) : Fp fp H (upd H a o) := fun c u e n => by
  rw [upd_ne (fun z => n (by rw [z]; exact h))]
  exact e
/-- what was new in H does not count -/
theorem Fp.drop {fp fq : List Addr} {H H' : Hp} (a : Fp fp H H') (s : ∀ x, x ∈ fp → x ∈ fq ∨ H x = none) : Fp fq H H' := fun c o h n => a c o h fun z => by
  rcases s c z with q | q
  · exact n q
  · rw [q] at h; cases h
theorem Fp.free {fp : List Addr} {H H' : Hp} (e : Fp fp H H') {l : Addr} (n : l ∉ fp) (h : H' l = none) : H l = none := by
  cases q : H l with
  | none => rfl
  | some o => rw [e l o q n] at h; cases h
theorem Fp.seq {K : PySem.W.Frag} {fp : List Addr} {H H' : Hp} {a : Addr} {xs : List V} (e : Fp fp H H') (n : a ∉ fp) (h : SqL K H a xs) : SqL K H' a xs := by
  rcases h with (h | ⟨o, h⟩) | h
  · exact .inl (.inl (e _ _ h n))
  · exact .inl (.inr ⟨o, e _ _ h n⟩)
  · exact .inr h
theorem Fp.tup {K : PySem.W.Frag} {fp : List Addr} {H H' : Hp} {a : Addr} {xs : List V} (e : Fp fp H H') (n : a ∉ fp) (h : SqT K H a xs) : SqT K H' a xs := by
  rcases h with (h | ⟨o, h⟩) | h
  · exact .inl (.inl (e _ _ h n))
  · exact .inl (.inr ⟨o, e _ _ h n⟩)
  · exact .inr h

/-! ### built-ins by name -/
section
variable {X : Cx} {K : PySem.W.Frag} {H : Hp} {Q : VK} {v : V}
def rLn (K : PySem.W.Frag) : List V → Hp → VK → Prop := fun xs H Q => ∃ p ys, xs = [.ref p] ∧ (SqL K H p ys ∨ SqT K H p ys) ∧ Q (.int ys.length) H
theorem call_ln : CallR X (.builtin "len") (rLn X.K) := call_len_seq
theorem c_ln {p : Addr} {ys : List V} (h : SqL K H p ys) (q : Q (.int ys.length) H) : rLn K [.ref p] H Q := ⟨p, ys, rfl, .inl h, q⟩
theorem c_lnT {p : Addr} {ys : List V} (h : SqT K H p ys) (q : Q (.int ys.length) H) : rLn K [.ref p] H Q := ⟨p, ys, rfl, .inr h, q⟩
def rAb : List V → Hp → VK → Prop := fun xs H Q => ∃ i, xs = [.int i] ∧ Q (.int (if i < 0 then -i else i)) H
theorem call_ab : CallR X (.builtin "abs") rAb := call_abs
theorem c_ab {i : Int} (q : Q (.int (if i < 0 then -i else i)) H) : rAb [.int i] H Q := ⟨i, rfl, q⟩
def rIn1 : List V → Hp → VK → Prop := fun xs H Q => ∃ i, xs = [.int i] ∧ Q (.int i) H
theorem call_in : CallR X (.type "int") rIn1 := fun pins s σ H xs us Q I r ⟨i, e, q⟩ => call_int1 pins s σ H xs us Q I r (.inl ⟨i, e, q⟩)
theorem c_in {i : Int} (q : Q (.int i) H) : rIn1 [.int i] H Q := ⟨i, rfl, q⟩
def rMx : List V → Hp → VK → Prop := fun xs H Q => ∃ i j, xs = [.int i, .int j] ∧ Q (.int (if j > i then j else i)) H
theorem call_mx (hc : X.calm = true) : CallR X (.builtin "max") rMx := call_max2 hc
theorem c_mx {i j : Int} (q : Q (.int (if j > i then j else i)) H) : rMx [.int i, .int j] H Q := ⟨i, j, rfl, q⟩
def rMn : List V → Hp → VK → Prop := fun xs H Q => ∃ i j, xs = [.int i, .int j] ∧ Q (.int (if j < i then j else i)) H
theorem call_mn (hc : X.calm = true) : CallR X (.builtin "min") rMn := call_min2 hc
theorem c_mn {i j : Int} (q : Q (.int (if j < i then j else i)) H) : rMn [.int i, .int j] H Q := ⟨i, j, rfl, q⟩
def rLs (K : PySem.W.Frag) : List V → Hp → VK → Prop := fun xs H Q => ∃ p ys, xs = [.ref p] ∧ (SqL K H p ys ∨ SqT K H p ys) ∧ ∀ l, H l = none → Q (.ref l) (upd H l (.lst ys))
theorem call_ls : CallR X (.type "list") (rLs X.K) := call_list_of
theorem c_ls {p : Addr} {ys : List V} (h : SqL K H p ys) (q : ∀ l, H l = none → Q (.ref l) (upd H l (.lst ys))) : rLs K [.ref p] H Q := ⟨p, ys, rfl, .inl h, q⟩
theorem c_app {l : Addr} {xs : List V} (h : H l = some (.lst xs)) (z : xs.length < sizeLine) (q : Q .non (upd H l (.lst (xs ++ [v])))) : rAppend (.ref l) [v] H Q := ⟨l, xs, v, rfl, rfl, h, z, q⟩
theorem c_pop0 {l : Addr} {x : V} {xs : List V} (h : H l = some (.lst (x :: xs))) (z : xs.length < 100000) (q : Q x (upd H l (.lst xs))) : rPopAt (.ref l) [.int 0] H Q :=
  ⟨l, x :: xs, 0, 0, x, rfl, rfl, h, by decide, by decide, by
    unfold seqIndex?
    first | rfl | simp, rfl, q⟩
theorem c_setL {p : Addr} {xs : List V} {n : Int} {j : Nat} {R : Hp → Prop} (h : H p = some (.lst xs)) (e : n = (j : Int)) (hj : j < xs.length) (q : R (upd H p (.lst (xs.set j v)))) : rSetL (.ref p) (.int n) v H R := by
  subst e
  exact ⟨p, xs, _, j, rfl, rfl, h, Evl.ixN_nat hj, q⟩
theorem g_sub {to ti : TE} {ts : TSet} {σ : L2.St} {R : L2.St → Hp → Prop} (h : to σ H fun o H1 => ti σ H1 fun i H2 => ts o i v H2 fun H3 => R σ H3) : gSub to ti ts v σ H R := h
theorem o_cat {l b : Addr} {xs zs : List V} (h : H l = some (.lst xs)) (h' : H b = some (.lst zs)) (z : xs.length + zs.length ≤ sizeLine) (q : ∀ p, H p = none → Q (.ref p) (upd H p (.lst (xs ++ zs)))) : rCat (.ref l) (.ref b) H Q := ⟨l, b, xs, zs, rfl, rfl, h, h', z, q⟩
theorem o_slL {a : Addr} {xs : List V} {lo hi : Option Int} (h : SqL K H a xs) (q : ∀ p, H p = none → Q (.ref p) (upd H p (.lst (cutV xs lo hi)))) : rSlL K (.ref a) lo hi H Q := ⟨a, xs, rfl, h, q⟩
/-- data of one level, as PyData -/
def toD : V → PyData
  | .bl b => .bool b
  | .int i => .int i
  | .str x => .str x
  | _ => .none
def flat : V → Bool
  | .non => true | .bl _ => true | .int _ => true | .str x => PyData.strOk x | _ => false
theorem dp_flat {x : V} (h : flat x = true) : Dp K H x (toD x) := by
  cases x with
  | non => exact .non
  | bl b => exact .bl b
  | int i => exact .int i
  | str z => exact .str z
  | byt _ => cases h
  | flt _ => cases h
  | ref _ => cases h
  | ty _ => cases h
theorem dp_flats : ∀ {xs : List V}, (∀ x ∈ xs, flat x = true) → DpAll K H xs (xs.map toD)
  | [], _ => .nil
  | x :: xs, h => .cons (dp_flat (h x List.mem_cons_self)) (dp_flats fun y hy => h y (List.mem_cons_of_mem _ hy))
theorem lay_flat {x : V} (h : flat x = true) : (toD x).canLay0 = true := by
  cases x with
  | str z => show PyData.strOk z = true; exact h
  | non => rfl
  | bl b => rfl
  | int i => rfl
  | byt _ => cases h
  | flt _ => cases h
  | ref _ => cases h
  | ty _ => cases h
theorem lay_flats : ∀ {xs : List V}, (∀ x ∈ xs, flat x = true) → PyData.canLayAll0 (xs.map toD) = true
  | [], _ => rfl
  | x :: xs, h => by
    show ((toD x).canLay0 && PyData.canLayAll0 (xs.map toD)) = true
    rw [lay_flat (h x List.mem_cons_self), lay_flats fun y hy => h y (List.mem_cons_of_mem _ hy)]
    rfl
theorem depth_flat (x : V) : (toD x).depth ≤ 1 := by
  cases x <;> first | decide | (simp [toD, PyData.depth])
theorem depth_flats : ∀ xs : List V, PyData.depthAll (xs.map toD) ≤ 1
  | [] => by simp [PyData.depthAll]
  | x :: xs => by
    have h1 := depth_flat x
    have h2 := depth_flats xs
    show PyData.depthAll (toD x :: xs.map toD) ≤ 1
    simp only [PyData.depthAll]
    omega
theorem shaped_flat {x : V} (h : flat x = true) : SeqAt.shaped (toD x) = true := by
  show ((toD x).canLay0 && decide ((toD x).depth ≤ 64)) = true
  rw [lay_flat h, decide_eq_true (Nat.le_trans (depth_flat x) (by decide))]
  rfl
theorem shaped_flats {xs : List V} (h : ∀ x ∈ xs, flat x = true) : SeqAt.shaped (.list (xs.map toD)) = true := by
  have d1 := depth_flats xs
  show (PyData.canLay0 (.list (xs.map toD)) && decide (PyData.depth (.list (xs.map toD)) ≤ 64)) = true
  have e1 : PyData.canLay0 (.list (xs.map toD)) = PyData.canLayAll0 (xs.map toD) := by simp only [PyData.canLay0]
  have e2 : PyData.depth (.list (xs.map toD)) ≤ 64 := by simp only [PyData.depth]; omega
  rw [e1, lay_flats h, decide_eq_true e2]
  rfl
theorem shaped_flatT {xs : List V} (h : ∀ x ∈ xs, flat x = true) : SeqAt.shaped (.tuple (xs.map toD)) = true := by
  have d1 := depth_flats xs
  show (PyData.canLay0 (.tuple (xs.map toD)) && decide (PyData.depth (.tuple (xs.map toD)) ≤ 64)) = true
  have e1 : PyData.canLay0 (.tuple (xs.map toD)) = PyData.canLayAll0 (xs.map toD) := by simp only [PyData.canLay0]
  have e2 : PyData.depth (.tuple (xs.map toD)) ≤ 64 := by simp only [PyData.depth]; omega
  rw [e1, lay_flats h, decide_eq_true e2]
  rfl
/-- the same data on both sides -/
theorem eqv_self {d : PyData} (h : SeqAt.shaped d = true) : PyData.eqv d d = true := by
  have h1 : d.canLay0 = true := SeqAt.canLay_of_shaped h
  first | exact SeqAt.eqv_refl d h1 | exact P3.eqv_refl d h1 | exact eqv_refl d h1
theorem o_eqD {x y : V} {d : PyData} (h1 : Dp K H x d) (h2 : Dp K H y d) (s : SeqAt.shaped d = true) (q : Q (.bl true) H) : rEqD K x y H Q := ⟨d, d, h1, h2, s, s, by rw [eqv_self s]; exact q⟩
theorem o_neD {x y : V} {d : PyData} (h1 : Dp K H x d) (h2 : Dp K H y d) (s : SeqAt.shaped d = true) (q : Q (.bl false) H) : rNeD K x y H Q := ⟨d, d, h1, h2, s, s, by rw [eqv_self s]; exact q⟩
/-- two lists of plain values that are one list -/
theorem o_neL {a b : Addr} {xs : List V} (h1 : SqL K H a xs) (h2 : SqL K H b xs) (f : ∀ x ∈ xs, flat x = true) (q : Q (.bl false) H) : rNeD K (.ref a) (.ref b) H Q :=
  o_neD (.lst h1 (dp_flats f)) (.lst h2 (dp_flats f)) (shaped_flats f) q
theorem o_eqL {a b : Addr} {xs : List V} (h1 : SqL K H a xs) (h2 : SqL K H b xs) (f : ∀ x ∈ xs, flat x = true) (q : Q (.bl true) H) : rEqD K (.ref a) (.ref b) H Q :=
  o_eqD (.lst h1 (dp_flats f)) (.lst h2 (dp_flats f)) (shaped_flats f) q
theorem o_neT {a b : Addr} {xs : List V} (h1 : SqT K H a xs) (h2 : SqT K H b xs) (f : ∀ x ∈ xs, flat x = true) (q : Q (.bl false) H) : rNeD K (.ref a) (.ref b) H Q :=
  o_neD (.tup h1 (dp_flats f)) (.tup h2 (dp_flats f)) (shaped_flatT f) q
theorem flat_ints (ns : List Int) : ∀ x ∈ ns.map V.int, flat x = true := fun x hx => by
  obtain ⟨n, _, rfl⟩ := List.mem_map.mp hx
  rfl
end

/-! ### loops and comprehensions -/
section
variable {K : PySem.W.Frag} {D : Ends} {σ : L2.St} {H : Hp} {tb : TS} {te tl : TE} {tt tc : TT} {g : TG} {Q : VK} {j : Nat} {b : Addr} {xs ys : List V} {vs : List Nat}
theorem f_list (Pv : Nat → L2.St → Hp → Prop) (hv : σ[j]? = some (some (.ref b))) (hS : SqL K H b xs) (h0 : Pv 0 σ H) (hl : ∀ i σ' H', i ≤ xs.length → Pv i σ' H' → SqL K H' b xs)
    (hs : ∀ i x σ' H', xs[i]? = some x → Pv i σ' H' → g x σ' H' fun σ2 H2 => tb { D with nx := Pv (i + 1), ct := Pv (i + 1), bk := D.nx } σ2 H2) (hd : ∀ σ' H', Pv xs.length σ' H' → D.nx σ' H') : tFor (iList K (tVar j)) g tb D σ H :=
  ⟨_, hv, b, rfl, ⟨_, hS⟩, for_list Pv h0 hl hs hd⟩
/-- over a list that an expression hands back -/
theorem f_listE (h : tl σ H fun x H1 => ∃ (p : Addr) (xs : List V) (Pv : Nat → L2.St → Hp → Prop), x = .ref p ∧ SqL K H1 p xs ∧ Pv 0 σ H1 ∧ (∀ i σ' H', i ≤ xs.length → Pv i σ' H' → SqL K H' p xs) ∧
    (∀ i x σ' H', xs[i]? = some x → Pv i σ' H' → g x σ' H' fun σ2 H2 => tb { D with nx := Pv (i + 1), ct := Pv (i + 1), bk := D.nx } σ2 H2) ∧ ∀ σ' H', Pv xs.length σ' H' → D.nx σ' H') (up : ∀ R R' : VK, (∀ x H1, R x H1 → R' x H1) → tl σ H R → tl σ H R') : tFor (iList K tl) g tb D σ H :=
  up _ _ (fun _ _ ⟨p, xs, Pv, e, hS, h0, hl, hs, hd⟩ => ⟨p, e, ⟨xs, hS⟩, for_list Pv h0 hl hs hd⟩) h
/-- over the first n of a list -/
theorem f_listS {n : Int} (hv : σ[j]? = some (some (.ref b))) (hS : SqL K H b xs)
    (h : ∀ c, H c = none → ∃ Pv : Nat → L2.St → Hp → Prop, Pv 0 σ (upd H c (.lst (cutV xs none (some n)))) ∧ (∀ i σ' H', i ≤ (cutV xs none (some n)).length → Pv i σ' H' → SqL K H' c (cutV xs none (some n))) ∧
      (∀ i x σ' H', (cutV xs none (some n))[i]? = some x → Pv i σ' H' → g x σ' H' fun σ2 H2 => tb { D with nx := Pv (i + 1), ct := Pv (i + 1), bk := D.nx } σ2 H2) ∧ ∀ σ' H', Pv (cutV xs none (some n)).length σ' H' → D.nx σ' H') :
    tFor (iList K (tSl (rSlL K) (tVar j) tNoPart (tPart (tC (.int n))))) g tb D σ H := by
  show tSl (rSlL K) (tVar j) tNoPart (tPart (tC (.int n))) σ H _
  refine e_sl (e_var hv (p_no (p_some (e_c (k_i (o_slL hS fun c hc => ?_))))))
  obtain ⟨Pv, h0, hl, hs, hd⟩ := h c hc
  exact ⟨c, rfl, ⟨_, Or.inl (Or.inl upd_same)⟩, for_list Pv h0 hl hs hd⟩
theorem Fp.add {fp : List Addr} {H H1 H2 : Hp} (F : Fp [] H H1) (f : Fp fp H1 H2) (n : ∀ z ∈ fp, H z = none) : Fp [] H H2 := fun c o h m => f c o (F c o h (by simp)) fun z => by rw [n c z] at h; cases h
/-- for i in range(n) -/
def kRng (g : TG) (tb : TS) (D : Ends) (σ : L2.St) (x : V) (H1 : Hp) : Prop := iRng1 (fun _ _ R => R [x] H1) σ H1 fun J H1 => ∃ W : Nat → Nat → L2.St → Hp → Prop, (∃ m, W 0 m σ H1) ∧ ∀ i m σ H, W i m σ H →
  (J.stop i H ∧ D.nx σ H) ∨ (J.go i H ∧ ∃ N : L2.St → Hp → Prop, (∀ σ' H', N σ' H' → ∃ m', m' < m ∧ W (i + 1) m' σ' H') ∧ ∀ x H', J.yld i H x H' → g x σ H' fun σ2 H2 => tb { D with nx := N, ct := N, bk := D.nx } σ2 H2)
theorem f_rng1 (h : te σ H fun x H1 => kRng g tb D σ x H1) : tFor (iRng1 (tCons te tNil)) g tb D σ H := h
theorem k_rng (Pv : Nat → L2.St → Hp → Prop) {n : Int} (h1 : -(2 ^ 62) ≤ n) (h2 : n < 2 ^ 62) (h0 : Pv 0 σ H)
    (hs : ∀ i σ' H', i < n.toNat → Pv i σ' H' → g (.int (i : Nat)) σ' H' fun σ2 H2 => tb { D with nx := Pv (i + 1), ct := Pv (i + 1), bk := D.nx } σ2 H2) (hd : ∀ σ' H', Pv n.toNat σ' H' → D.nx σ' H') : kRng g tb D σ (.int n) H :=
  ⟨n, rfl, h1, h2, for_range (lo := 0) (n := n.toNat) Pv h0 (fun i σ' H' hi p => by
    have e0 : (0 : Int) + (i : Int) = (i : Int) := Int.zero_add _
    rw [e0]
    exact hs i σ' H' hi p) hd⟩
theorem w_by (W : Nat → L2.St → Hp → Prop) (m0 : Nat) (h0 : W m0 σ H) (hs : ∀ m σ' H', W m σ' H' → tc σ' H' fun k H1 => if k = true then ∃ N : L2.St → Hp → Prop, (∀ σ2 H2, N σ2 H2 → ∃ m', m' < m ∧ W m' σ2 H2) ∧ tb { D with nx := N, ct := N, bk := D.nx } σ' H1 else D.nx σ' H1) :
    tWhile tc tb D σ H := ⟨W, ⟨m0, h0⟩, hs⟩
theorem take_snoc {α : Type} {l : List α} {i : Nat} {x : α} (h : l[i]? = some x) : l.take (i + 1) = l.take i ++ [x] := by
  obtain ⟨hi, rfl⟩ := List.getElem?_eq_some_iff.mp h
  rw [List.take_succ, List.getElem?_eq_getElem hi]
  rfl
/-- [e for x in xs], e without a trace in the heap -/
theorem lc_pure (hv : σ[j]? = some (some (.ref b))) (hS : SqL K H b xs) (hlen : ys.length = xs.length) (hz : xs.length < 100000)
    (hs : ∀ (E : Addr) (i : Nat) (x y : V) (H' : Hp) (R : VK), H E = none → xs[i]? = some x → ys[i]? = some y → H' = upd H E (.lst (ys.take i)) → R y H' → g x (wipe σ vs) H' fun σ2 H2 => wipe σ2 vs = wipe σ vs ∧ te σ2 H2 R)
    (q : ∀ E, H E = none → Q (.ref E) (upd H E (.lst ys))) : tLc (iList K (tVar j)) g tYes te vs σ H Q := by
  refine ⟨_, hv, b, rfl, ⟨_, hS⟩, fun E hE => ?_⟩
  refine lc_list (K := K) (a := b) (xs := xs) (fun i H' => H' = upd H E (.lst (ys.take i))) (by rw [List.take_zero]) (fun i H' hi e => ?_) (fun i x H' hx e => ?_) fun H' e => ?_
  · subst e; exact (Fp.new (fp := []) hE).seq (by simp) hS
  · have hi : i < xs.length := (List.getElem?_eq_some_iff.mp hx).1
    have hy : ys[i]? = some ys[i] := List.getElem?_eq_getElem (by omega)
    have z := hs E i x _ H' (fun y H4 => ∃ acc, H4 E = some (.lst acc) ∧ acc.length < sizeLine ∧ upd H4 E (.lst (acc ++ [y])) = upd H E (.lst (ys.take (i + 1)))) hE hx hy e
      ⟨ys.take i, by rw [e]; exact upd_same, szl (by rw [List.length_take]; omega), by rw [e, upd_upd, take_snoc hy]⟩
    exact z
  · rw [e, ← hlen, List.take_length]
    exact q E hE
theorem lc_pureR {n : Int} (h1 : 0 ≤ n) (h2 : n < 100000) (hlen : (ys.length : Int) = n)
    (hs : ∀ (E : Addr) (i : Nat) (y : V) (H' : Hp) (R : VK), H E = none → (i : Int) < n → ys[i]? = some y → H' = upd H E (.lst (ys.take i)) → R y H' → g (.int (i : Nat)) (wipe σ vs) H' fun σ2 H2 => wipe σ2 vs = wipe σ vs ∧ te σ2 H2 R)
    (q : ∀ E, H E = none → Q (.ref E) (upd H E (.lst ys))) : (iRng1 (fun _ _ R => R [V.int n] H)) σ H fun J H1 => ∀ E, H1 E = none → ∃ W : Nat → Nat → Hp → Prop, (∃ m, W 0 m (upd H1 E (.lst []))) ∧ ∀ i m H, W i m H →
    (J.stop i H ∧ Q (.ref E) H) ∨ (J.go i H ∧ ∃ Nx : Hp → Prop, (∀ H', Nx H' → ∃ m', m' < m ∧ W (i + 1) m' H') ∧ ∀ x H', J.yld i H x H' → g x (wipe σ vs) H' fun σ2 H2 => wipe σ2 vs = wipe σ vs ∧ tYes σ2 H2 fun b H3 =>
      if b = true then te σ2 H3 fun y H4 => ∃ acc, H4 E = some (.lst acc) ∧ acc.length < sizeLine ∧ Nx (upd H4 E (.lst (acc ++ [y]))) else Nx H3) := by
  refine ⟨n, rfl, by omega, by omega, fun E hE => ?_⟩
  refine lc_range (lo := 0) (n := n.toNat) (fun i H' => H' = upd H E (.lst (ys.take i))) (by rw [List.take_zero]) (fun i H' hi e => ?_) fun H' e => ?_
  · have hy : ys[i]? = some ys[i] := List.getElem?_eq_getElem (by omega)
    have e0 : (0 : Int) + (i : Int) = (i : Int) := Int.zero_add _
    rw [e0]
    exact hs E i _ H' (fun y H4 => ∃ acc, H4 E = some (.lst acc) ∧ acc.length < sizeLine ∧ upd H4 E (.lst (acc ++ [y])) = upd H E (.lst (ys.take (i + 1)))) hE (by omega) hy e
      ⟨ys.take i, by rw [e]; exact upd_same, szl (by rw [List.length_take]; omega), by rw [e, upd_upd, take_snoc hy]⟩
  · have : n.toNat = ys.length := by omega
    rw [e, this, List.take_length]
    exact q E hE
def kLcR (g : TG) (te : TE) (vs : List Nat) (σ : L2.St) (Q : VK) (x : V) (H : Hp) : Prop := (iRng1 (fun _ _ R => R [x] H)) σ H fun J H1 => ∀ E, H1 E = none → ∃ W : Nat → Nat → Hp → Prop, (∃ m, W 0 m (upd H1 E (.lst []))) ∧ ∀ i m H, W i m H →
    (J.stop i H ∧ Q (.ref E) H) ∨ (J.go i H ∧ ∃ Nx : Hp → Prop, (∀ H', Nx H' → ∃ m', m' < m ∧ W (i + 1) m' H') ∧ ∀ x H', J.yld i H x H' → g x (wipe σ vs) H' fun σ2 H2 => wipe σ2 vs = wipe σ vs ∧ tYes σ2 H2 fun b H3 =>
      if b = true then te σ2 H3 fun y H4 => ∃ acc, H4 E = some (.lst acc) ∧ acc.length < sizeLine ∧ Nx (upd H4 E (.lst (acc ++ [y]))) else Nx H3)
theorem fm_snoc {α : Type} {f : α → Option V} {l : List α} {i : Nat} {x : α} (h : l[i]? = some x) : (l.take (i + 1)).filterMap f = (l.take i).filterMap f ++ (f x).toList := by
  rw [take_snoc h, List.filterMap_append]
  cases e : f x <;> simp [e]
/-- [e for x in xs if t], where t and e may make new objects -/
theorem lc_filt (f : V → Option V) (hv : σ[j]? = some (some (.ref b))) (hS : SqL K H b xs) (hz : xs.length < 100000)
    (hs : ∀ (E : Addr) (i : Nat) (x : V) (H' : Hp) (R : VK) (N : Hp → Prop), H E = none → xs[i]? = some x → H' E = some (.lst ((xs.take i).filterMap f)) → Fp [] H H' → (∀ y H4, f x = some y → Fp [] H' H4 → R y H4) → (f x = none → ∀ H4, Fp [] H' H4 → N H4) →
      g x (wipe σ vs) H' fun σ2 H2 => wipe σ2 vs = wipe σ vs ∧ tt σ2 H2 fun k H3 => if k = true then te σ2 H3 R else N H3)
    (q : ∀ E H', H E = none → H' E = some (.lst (xs.filterMap f)) → Fp [] H H' → Q (.ref E) H') : tLc (iList K (tVar j)) g tt te vs σ H Q := by
  refine ⟨_, hv, b, rfl, ⟨_, hS⟩, fun E hE => ?_⟩
  refine lc_list (K := K) (a := b) (xs := xs) (fun i H' => H' E = some (.lst ((xs.take i).filterMap f)) ∧ Fp [] H H') ⟨by rw [List.take_zero]; exact upd_same, Fp.new hE⟩ (fun i H' hi e => ?_) (fun i x H' hx e => ?_) fun H' e => ?_
  · exact e.2.seq (by simp) hS
  · have hi : i < xs.length := (List.getElem?_eq_some_iff.mp hx).1
    exact hs E i x H' (fun y H4 => ∃ acc, H4 E = some (.lst acc) ∧ acc.length < sizeLine ∧ (upd H4 E (.lst (acc ++ [y]))) E = some (.lst ((xs.take (i + 1)).filterMap f)) ∧ Fp [] H (upd H4 E (.lst (acc ++ [y])))) (fun H4 => H4 E = some (.lst ((xs.take (i + 1)).filterMap f)) ∧ Fp [] H H4) hE hx e.1 e.2
      (fun y H4 ey f4 => ⟨_, f4 _ _ e.1 (by simp), szl (Nat.lt_of_le_of_lt (List.length_filterMap_le _ _) (by rw [List.length_take]; omega)), by rw [upd_same, fm_snoc hx, ey]; rfl, Fp.drop (fp := [E]) (((e.2.trans f4).mono (by simp)).trans (Fp.at_ (by simp))) fun z hz => by rcases List.mem_singleton.mp hz with rfl; exact .inr hE⟩)
      (fun ey H4 f4 => ⟨by rw [fm_snoc hx, ey]; simpa using f4 _ _ e.1 (by simp), e.2.trans f4⟩)
  · rw [List.take_length] at e
    exact q E H' hE e.1 e.2
def kLcF (g : TG) (tt : TT) (te : TE) (vs : List Nat) (σ : L2.St) (Q : VK) (x : V) (H : Hp) : Prop := (iRng1 (fun _ _ R => R [x] H)) σ H fun J H1 => ∀ E, H1 E = none → ∃ W : Nat → Nat → Hp → Prop, (∃ m, W 0 m (upd H1 E (.lst []))) ∧ ∀ i m H, W i m H →
    (J.stop i H ∧ Q (.ref E) H) ∨ (J.go i H ∧ ∃ Nx : Hp → Prop, (∀ H', Nx H' → ∃ m', m' < m ∧ W (i + 1) m' H') ∧ ∀ x H', J.yld i H x H' → g x (wipe σ vs) H' fun σ2 H2 => wipe σ2 vs = wipe σ vs ∧ tt σ2 H2 fun b H3 =>
      if b = true then te σ2 H3 fun y H4 => ∃ acc, H4 E = some (.lst acc) ∧ acc.length < sizeLine ∧ Nx (upd H4 E (.lst (acc ++ [y]))) else Nx H3)
theorem e_lcF (h : tl σ H fun x H1 => kLcF g tt te vs σ Q x H1) : tLc (iRng1 (tCons tl tNil)) g tt te vs σ H Q := h
theorem fm_range {f : Nat → Option V} {i : Nat} : (List.range (i + 1)).filterMap f = (List.range i).filterMap f ++ (f i).toList := by
  rw [List.range_succ, List.filterMap_append]
  cases e : f i <;> simp [e]
/-- [e for i in range(n) if t] -/
theorem k_lcF {n : Int} (f : Nat → Option V) (h1 : 0 ≤ n) (h2 : n < 100000)
    (hs : ∀ (E : Addr) (i : Nat) (H' : Hp) (R : VK) (N : Hp → Prop), H E = none → (i : Int) < n → H' E = some (.lst ((List.range i).filterMap f)) → Fp [] H H' → (∀ y H4, f i = some y → Fp [] H' H4 → R y H4) → (f i = none → ∀ H4, Fp [] H' H4 → N H4) →
      g (.int (i : Nat)) (wipe σ vs) H' fun σ2 H2 => wipe σ2 vs = wipe σ vs ∧ tt σ2 H2 fun k H3 => if k = true then te σ2 H3 R else N H3)
    (q : ∀ E H', H E = none → H' E = some (.lst ((List.range n.toNat).filterMap f)) → Fp [] H H' → Q (.ref E) H') : kLcF g tt te vs σ Q (.int n) H := by
  refine ⟨n, rfl, by omega, by omega, fun E hE => ?_⟩
  refine lc_range (lo := 0) (n := n.toNat) (fun i H' => H' E = some (.lst ((List.range i).filterMap f)) ∧ Fp [] H H') ⟨upd_same, Fp.new hE⟩ (fun i H' hi e => ?_) fun H' e => q E H' hE e.1 e.2
  have e0 : (0 : Int) + (i : Int) = (i : Int) := Int.zero_add _
  rw [e0]
  exact hs E i H' (fun y H4 => ∃ acc, H4 E = some (.lst acc) ∧ acc.length < sizeLine ∧ (upd H4 E (.lst (acc ++ [y]))) E = some (.lst ((List.range (i + 1)).filterMap f)) ∧ Fp [] H (upd H4 E (.lst (acc ++ [y])))) (fun H4 => H4 E = some (.lst ((List.range (i + 1)).filterMap f)) ∧ Fp [] H H4) hE (by omega) e.1 e.2
    (fun y H4 ey f4 => ⟨_, f4 _ _ e.1 (by simp), szl (Nat.lt_of_le_of_lt (List.length_filterMap_le _ _) (by rw [List.length_range]; omega)), by rw [upd_same, fm_range, ey]; rfl, Fp.drop (fp := [E]) (((e.2.trans f4).mono (by simp)).trans (Fp.at_ (by simp))) fun z hz => by rcases List.mem_singleton.mp hz with rfl; exact .inr hE⟩)
    (fun ey H4 f4 => ⟨by rw [fm_range, ey]; simpa using f4 _ _ e.1 (by simp), e.2.trans f4⟩)
theorem e_lcR (h : tl σ H fun x H1 => kLcR g te vs σ Q x H1) : tLc (iRng1 (tCons tl tNil)) g tYes te vs σ H Q := h
theorem k_lcR {n : Int} (h1 : 0 ≤ n) (h2 : n < 100000) (hlen : (ys.length : Int) = n)
    (hs : ∀ (E : Addr) (i : Nat) (y : V) (H' : Hp) (R : VK), H E = none → (i : Int) < n → ys[i]? = some y → H' = upd H E (.lst (ys.take i)) → R y H' → g (.int (i : Nat)) (wipe σ vs) H' fun σ2 H2 => wipe σ2 vs = wipe σ vs ∧ te σ2 H2 R)
    (q : ∀ E, H E = none → Q (.ref E) (upd H E (.lst ys))) : kLcR g te vs σ Q (.int n) H := lc_pureR h1 h2 hlen hs q
end

theorem atI_zero {α : Type} (x : α) (xs : List α) : atI (x :: xs) 0 = some x := by
  have h : (x :: xs)[0]? = some x := rfl
  exact atI_nat (j := 0) h
theorem int_inj {i j : Int} (h : V.int i = V.int j) : i = j := V.int.inj h
theorem int_ne {i j : Int} (h : ¬ V.int i = V.int j) : i ≠ j := fun z => h (by rw [z])

theorem k_ty {K : PySem.W.Frag} {H : Hp} {p : Addr} {xs : List V} {R : Prop} (h : SqL K H p xs) (q : R) : tyV K "list" (.ref p) H ∧ R := ⟨Or.inl ⟨rfl, xs, h⟩, q⟩

theorem o_rep {K : PySem.W.Frag} {H : Hp} {Q : VK} {l : Addr} {n : Int} {xs : List V} (h : H l = some (.lst xs)) (h1 : 0 ≤ n) (h2 : xs.length * n.toNat ≤ 100000) (h3 : n < 2 ^ 63) (q : ∀ p, H p = none → Q (.ref p) (upd H p (.lst (List.replicate n.toNat xs).flatten))) : rRep (.ref l) (.int n) H Q :=
  ⟨l, n, xs, rfl, rfl, h, by omega, h3, sz h2, q⟩

theorem c_isBool {K : PySem.W.Frag} {H : Hp} {Q : VK} {b : Bool} (q : Q (.bl true) H) : rIsi K [.bl b, .ty "bool"] H Q := ⟨.bl b, .ty "bool", .type "bool", .type "bool", true, rfl, .ty _, .base (.bl b), kit_ty (by decide +kernel), q⟩
theorem c_isInt {K : PySem.W.Frag} {H : Hp} {Q : VK} {n : Int} (q : Q (.bl true) H) : rIsi K [.int n, .ty "int"] H Q := ⟨.int n, .ty "int", .type "int", .type "int", true, rfl, .ty _, .base (.int n), kit_ty (by decide +kernel), q⟩
theorem c_isBoolN {K : PySem.W.Frag} {H : Hp} {Q : VK} {n : Int} (q : Q (.bl false) H) : rIsi K [.int n, .ty "bool"] H Q := ⟨.int n, .ty "bool", .type "int", .type "bool", false, rfl, .ty _, .base (.int n), kit_ty (by decide +kernel), q⟩
theorem c_isList {K : PySem.W.Frag} {H : Hp} {Q : VK} {a : Addr} {xs : List V} (h : H a = some (.lst xs)) (q : Q (.bl true) H) : rIsi K [.ref a, .ty "list"] H Q := ⟨.ref a, .ty "list", .type "list", .type "list", true, rfl, .ty _, .base (.lst h), kit_ty (by decide +kernel), q⟩
theorem c_isTup {K : PySem.W.Frag} {H : Hp} {Q : VK} {a : Addr} {xs : List V} (h : H a = some (.tup xs)) (q : Q (.bl true) H) : rIsi K [.ref a, .ty "tuple"] H Q := ⟨.ref a, .ty "tuple", .type "tuple", .type "tuple", true, rfl, .ty _, .base (.tup h), kit_ty (by decide +kernel), q⟩
theorem c_isTupB {K : PySem.W.Frag} {H : Hp} {Q : VK} {a : Addr} {xs : List V} (h : H a = some (.tup xs)) (q : Q (.bl false) H) : rIsi K [.ref a, .ty "bool"] H Q := ⟨.ref a, .ty "bool", .type "tuple", .type "bool", false, rfl, .ty _, .base (.tup h), kit_ty (by decide +kernel), q⟩
/-- is True, is False -/
def rIsB : V → V → Hp → VK → Prop := fun x y H Q => ∃ a b, x = .bl a ∧ y = .bl b ∧ Q (.bl (decide (a = b))) H
def rNotB : V → V → Hp → VK → Prop := fun x y H Q => ∃ a b, x = .bl a ∧ y = .bl b ∧ Q (.bl (!decide (a = b))) H
theorem bo_beq (a b : Bool) : (Value.bool a == Value.bool b) = decide (a = b) := by cases a <;> cases b <;> decide +kernel
theorem op_isB {X : Cx} : OpR X (compareOp .Is) rIsB := by
  intro pins s σ H x y v u Q I rx ry h
  obtain ⟨a, b, rfl, rfl, q⟩ := h
  cases (show v = Value.bool a from rx)
  cases (show u = Value.bool b from ry)
  exact wpAny_is_plain rfl (fin_bl I q (bo_beq a b).symm)
theorem op_notB {X : Cx} : OpR X (compareOp .IsNot) rNotB := by
  intro pins s σ H x y v u Q I rx ry h
  obtain ⟨a, b, rfl, rfl, q⟩ := h
  cases (show v = Value.bool a from rx)
  cases (show u = Value.bool b from ry)
  exact wpAny_isNot_plain rfl (fin_bl I q (congrArg not (bo_beq a b).symm))
theorem o_isB {H : Hp} {Q : VK} {a b : Bool} (q : Q (.bl (decide (a = b))) H) : rIsB (.bl a) (.bl b) H Q := ⟨a, b, rfl, rfl, q⟩
theorem o_notB {H : Hp} {Q : VK} {a b : Bool} (q : Q (.bl (!decide (a = b))) H) : rNotB (.bl a) (.bl b) H Q := ⟨a, b, rfl, rfl, q⟩
theorem c_isTupI {K : PySem.W.Frag} {H : Hp} {Q : VK} {n : Int} (q : Q (.bl false) H) : rIsi K [.int n, .ty "tuple"] H Q := ⟨.int n, .ty "tuple", .type "int", .type "tuple", false, rfl, .ty _, .base (.int n), kit_ty (by decide +kernel), q⟩
theorem c_isNonB {K : PySem.W.Frag} {H : Hp} {Q : VK} (q : Q (.bl false) H) : rIsi K [.non, .ty "bool"] H Q := ⟨.non, .ty "bool", .type "NoneType", .type "bool", false, rfl, .ty _, .base .non, kit_ty (by decide +kernel), q⟩
theorem c_isNonT {K : PySem.W.Frag} {H : Hp} {Q : VK} (q : Q (.bl false) H) : rIsi K [.non, .ty "tuple"] H Q := ⟨.non, .ty "tuple", .type "NoneType", .type "tuple", false, rfl, .ty _, .base .non, kit_ty (by decide +kernel), q⟩
theorem k_bl {c : Bool} {P : Bool → Prop} (h : P c) : ∃ c', V.bl c = V.bl c' ∧ P c' := ⟨c, rfl, h⟩

section
variable {K : PySem.W.Frag} {H : Hp} {Q : VK} {σ : L2.St} {te : TE} {C D ae dd CT : Addr} {f : Str} {fs : List (Str × V)} {v : V} {cls : Value} {de : Option Addr}
def kXf (a : Addr) (cls : Value) (d : Option Addr) (C : Addr) (f : Str) (x : V) (H1 : Hp) (Q : VK) : Prop := x = .ref a ∧ cls = .ref C ∧ ∃ (dd : Addr) (fs : List (Str × V)) (v : V), d = some dd ∧ H1 dd = some (.xd fs) ∧ fs.lookup f = some v ∧ Q v H1
theorem e_xf (h : te σ H fun x H1 => kXf ae cls de C f x H1 Q) : tXf ae cls de C f te σ H Q := h
theorem k_xf (h : H dd = some (.xd fs)) (l : fs.lookup f = some v) (q : Q v H) : kXf ae (.ref C) (some dd) C f (.ref ae) H Q := ⟨rfl, rfl, dd, fs, v, rfl, h, l, q⟩
theorem c_isED (h : H dd = some (.xd fs)) (k : PySem.W.kitOne K (.ref D) (.ref CT) = some true) (q : Q (.bl true) H) : rIsED K D ae (.ref D) (some dd) [.ref ae, .ref CT] H Q :=
  ⟨.ref CT, .ref CT, true, dd, fs, rfl, rfl, rfl, h, fun u r => r, k, q⟩
theorem c_isEDty {n : String} (h : H dd = some (.xd fs)) (k : PySem.W.kitOne K (.ref D) (.type n) = some true) (q : Q (.bl true) H) : rIsED K D ae (.ref D) (some dd) [.ref ae, .ty n] H Q :=
  ⟨.ty n, .type n, true, dd, fs, rfl, rfl, rfl, h, fun u r => r, k, q⟩
theorem w_as {c : Value} {i : Nat} {ts : Addr → Value → Option Addr → TS} {Wout : WX} {D : Ends} (e : PySem.W.exmOne K cls c = some true)
    (h : ∀ a, H a = none → ts a cls de { nx := fun σ' H' => D.nx (σ'.set i none) H', rt := D.rt, bk := fun σ' H' => D.bk (σ'.set i none) H', ct := fun σ' H' => D.ct (σ'.set i none) H' } (σ.set i (some (.ref a))) H) : WE (wAs K c i ts Wout D) σ cls de H :=
  ⟨true, e, fun _ => h, fun z => Bool.noConfusion z⟩
end

theorem s_cut {D : Ends} {σ : L2.St} {H : Hp} {t u : TS} (Mid : L2.St → Hp → Prop) (h1 : t { D with nx := Mid } σ H) (h2 : ∀ σ' H', Mid σ' H' → u D σ' H') : Evl.tCut t u D σ H := ⟨Mid, h1, h2⟩

/-- a test whose outcomes are told once -/
def tUpT (t : TT) : TT := fun σ H Q => ∃ P : Bool → Hp → Prop, t σ H P ∧ ∀ b H1, P b H1 → Q b H1
theorem pt_up {X : Cx} {e : Expr} {t : TT} (h : PT X e t) : PT X e (tUpT t) := ⟨fun pins s σ H Q I ⟨P, q, m⟩ => thn (h.run pins s σ H P I q) fun _ _ ⟨H1, J, z⟩ => ⟨H1, J, m _ _ z⟩⟩
theorem t_up {t : TT} {σ : L2.St} {H : Hp} {Q : Bool → Hp → Prop} (P : Bool → Hp → Prop) (h : t σ H P) (k : ∀ b H1, P b H1 → Q b H1) : tUpT t σ H Q := ⟨P, h, k⟩
theorem cut1 {x : V} {xs : List V} : cutV (x :: xs) (some 1) none = xs := by
  unfold cutV
  simp [HT.sIx]

/-! ### dicts by texts -/
section
variable {K : PySem.W.Frag} {D : Ends} {σ : L2.St} {H : Hp} {Q : VK} {td ty tv te : TE} {a : Addr} {kvs : List (Key × V)} {s : Str} {v : V} {x y c : Int} {i : Nat}
theorem val_hit (k : Key) (v : V) (r : List (Key × V)) : valV ((k, v) :: r) k = some v := by simp [valV]
theorem val_miss {k k' : Key} (h : ¬ k = k') (v : V) (r : List (Key × V)) : valV ((k, v) :: r) k' = valV r k' := by simp [valV, h]
theorem val_nil (k : Key) : valV ([] : List (Key × V)) k = none := rfl
def kDGet (x y : V) (H : Hp) (Q : VK) : Prop := ∃ a v, x = .ref a ∧ DGet H a y (some v) ∧ Q v H
theorem e_dget (h : td σ H fun x H1 => ty σ H1 fun y H2 => kDGet x y H2 Q) : tDGet td ty σ H Q := h
theorem k_dget (h : H a = some (.dK kvs)) (l : valV kvs (Sum.inr s) = some v) (q : Q v H) : kDGet (.ref a) (.str s) H Q := ⟨a, v, rfl, .inl ⟨kvs, Sum.inr s, .inl h, rfl, l.symm⟩, q⟩
def kDPut (v x y : V) (H : Hp) (R : Hp → Prop) : Prop := ∃ a H4, x = .ref a ∧ DPut H a y v H4 ∧ R H4
theorem s_dput (h : tv σ H fun v H1 => td σ H1 fun x H2 => ty σ H2 fun y H3 => kDPut v x y H3 (D.nx σ)) : sDPut td ty tv D σ H := h
theorem k_dput {R : Hp → Prop} (h : H a = some (.dK kvs)) (hl : kvs.length < 100000) (q : R (upd H a (.dK (putK kvs (Sum.inr s) v)))) : kDPut v (.ref a) (.str s) H R := ⟨a, _, rfl, DPut.k (k := Sum.inr s) h (szl hl), q⟩
theorem c_sum {ns : List Int} (h : SqL K H a (ns.map V.int)) (q : Q (.int ns.sum) H) : rSum K [.ref a] H Q := ⟨a, ns, rfl, h, q⟩
/-! ### x ≤ y ≤ c -/
theorem o_chC (q : Q (.bl (decide (x ≤ y ∧ y ≤ c))) H) :
    rI0 (fun i j => V.bl (decide (i ≤ j))) (.int x) (.int y) H fun z H3 => kT z H3 fun k H4 => if k = true then tC (.int c) σ H4 fun w' H5 => rI0 (fun i j => V.bl (decide (i ≤ j))) (.int y) w' H5 Q else Q (.bl false) H4 := by
  refine o_I0 (k_t ?_)
  refine if_d (fun h => e_c (o_I0 ?_)) (fun h => ?_)
  · rw [show decide (y ≤ c) = decide (x ≤ y ∧ y ≤ c) from decide_eq_decide.mpr ⟨fun z => ⟨h, z⟩, fun z => z.2⟩]; exact q
  · rw [show false = decide (x ≤ y ∧ y ≤ c) from (decide_eq_false fun z => h z.1).symm]; exact q
theorem o_chV (hv : σ[i]? = some (some (.int c))) (q : Q (.bl (decide (x ≤ y ∧ y ≤ c))) H) :
    rI0 (fun i j => V.bl (decide (i ≤ j))) (.int x) (.int y) H fun z H3 => kT z H3 fun k H4 => if k = true then tVar i σ H4 fun w' H5 => rI0 (fun i j => V.bl (decide (i ≤ j))) (.int y) w' H5 Q else Q (.bl false) H4 := by
  refine o_I0 (k_t ?_)
  refine if_d (fun h => e_var hv (o_I0 ?_)) (fun h => ?_)
  · rw [show decide (y ≤ c) = decide (x ≤ y ∧ y ≤ c) from decide_eq_decide.mpr ⟨fun z => ⟨h, z⟩, fun z => z.2⟩]; exact q
  · rw [show false = decide (x ≤ y ∧ y ≤ c) from (decide_eq_false fun z => h z.1).symm]; exact q
theorem e_makeK {C : Addr} {m : Nat} {sp : Sp} {gV : List V → List V → List V} {ES : L2.St → XK} {tk : TA} (h : tk σ H fun zs H2 => zs.length = m ∧ ∀ x dx, H2 x = none → H2 dx = none → dx ≠ x →
  sp (gV [.ref x] zs) (upd (upd H2 dx (.own x)) x (.ins C dx [])) (fun v H3 => v = .non ∧ Q (.ref x) H3) (ES σ)) : tMakeKS C m sp gV ES tk σ H Q := h
def kTup (K : PySem.W.Frag) (n : Nat) (t : TGs) (v : V) (σ : L2.St) (H : Hp) (R : L2.St → Hp → Prop) : Prop := ∃ a xs, v = .ref a ∧ SqT K H a xs ∧ xs.length = n ∧ t xs σ H R
theorem g_tup {n : Nat} {t : TGs} {R : L2.St → Hp → Prop} {xs : List V} (h : SqT K H a xs) (hn : xs.length = n) (q : t xs σ H R) : gTup K n t (.ref a) σ H R := ⟨a, xs, rfl, h, hn, q⟩
theorem g_cons {t : TG} {u : TGs} {R : L2.St → Hp → Prop} {r : List V} (q : t v σ H fun σ' H' => u r σ' H' R) : gCons t u (v :: r) σ H R := ⟨v, r, rfl, q⟩
theorem g_nil {R : L2.St → Hp → Prop} (q : R σ H) : gNil [] σ H R := ⟨rfl, q⟩
end

def PL (fs : List (Str × V)) (n : Nat) : Prop := fs.length ≤ n
theorem PL.nil {n : Nat} : PL [] n := Nat.zero_le _
theorem putF_length (f : Str) (v : V) : ∀ fs : List (Str × V), (putF f v fs).length ≤ fs.length + 1
  | [] => Nat.le_refl _
  | (g, y) :: r => by
    by_cases h : g = f
    · rw [show putF f v ((g, y) :: r) = (g, v) :: r from if_pos h]
      exact Nat.le_succ _
    · rw [putF_miss h]
      exact Nat.succ_le_succ (putF_length f v r)
theorem PL.put {f : Str} {v : V} {fs : List (Str × V)} {n : Nat} (h : PL fs n) : PL (putF f v fs) (n + 1) := Nat.le_trans (putF_length f v fs) (Nat.succ_le_succ h)
theorem PL.lt {fs : List (Str × V)} {n : Nat} (h : PL fs n) (hn : n < 1000) : fs.length < 1000 := Nat.lt_of_le_of_lt h hn

/-- objects that stand -/
def Obs (H : Hp) (l : List (Addr × HO)) : Prop := ∀ p ∈ l, H p.1 = some p.2
theorem Obs.nil {H : Hp} : Obs H [] := fun p hp => by cases hp
theorem Obs.fp {H H1 : Hp} {l : List (Addr × HO)} {fp : List Addr} (u : Obs H l) (f : Fp fp H H1) (n : ∀ p ∈ l, p.1 ∉ fp) : Obs H1 l := fun p hp => f _ _ (u p hp) (n p hp)
theorem Obs.fp0 {H H1 : Hp} {l : List (Addr × HO)} (u : Obs H l) (f : Fp [] H H1) : Obs H1 l := u.fp f fun _ _ => by simp
theorem Obs.add {H : Hp} {l : List (Addr × HO)} {t : Addr} {o : HO} (u : Obs H l) (h : H t = none) : Obs (upd H t o) ((t, o) :: l) := fun p hp => by
  rcases List.mem_cons.mp hp with rfl | hp
  · exact upd_same
  · exact Fp.new (fp := []) h _ _ (u p hp) (by simp)
theorem Obs.cons {H : Hp} {l : List (Addr × HO)} {t : Addr} {o : HO} (u : Obs H l) (h : H t = some o) : Obs H ((t, o) :: l) := fun p hp => by
  rcases List.mem_cons.mp hp with rfl | hp
  · exact h
  · exact u p hp
/-- xs[i], read for an augmented assignment -/
theorem get_list {X : Cx} : PGet X (rIxL X.K) := by
  intro pins s σ H o i ov iv Q I rx ry h
  obtain ⟨p, xs, n, z, rfl, rfl, hq, he, q⟩ := h
  cases rx
  obtain ⟨t, rfl⟩ := ry
  obtain ⟨its, r, pl, hz⟩ := I.list hq
  obtain ⟨j, h1, h2, h3, h4, h5⟩ := atI_get he
  obtain ⟨w, ew, rw'⟩ := r.get h2
  have hl := r.length
  have hn := line63
  have fin : EP X pins σ Q w s := ⟨z, H, I, rw', q⟩
  by_cases h0 : 0 ≤ n
  · have hj : n.toNat = j := by
      rw [seqIndex_of h0 h5] at h1
      exact Option.some.inj h1
    refine L2.thn (wpAny_getItem_list (x := w) (Q := fun r s' => r = w ∧ EP X pins σ Q r s') pl.isList h0 (by omega) (by rw [hj]; simpa using ew) ⟨rfl, fin⟩) fun _ _ e => e.2
  · have hj : (n + (its.toArray.size : Int)).toNat = j := by
      rw [seqIndex_neg (by omega) h4] at h1
      rw [List.size_toArray, ← hl]
      exact Option.some.inj h1
    refine L2.thn (wpAny_getItem_list_neg (x := w) (Q := fun r s' => r = w ∧ EP X pins σ Q r s') pl.isList (by omega) (by rw [List.size_toArray] <;> omega) (by omega) (by rw [hj]; simpa using ew) ⟨rfl, fin⟩) fun _ _ e => e.2
theorem s_augS {D : Ends} {σ : L2.St} {H : Hp} {to ti te : TE} {tget : V → V → Hp → VK → Prop} {tip : TIp} {tset : TSet} (h : to σ H fun o H1 => ti σ H1 fun i H2 => tget o i H2 fun x H3 => te σ H3 fun y H4 => tip x y H4 fun z H5 => tset o i z H5 fun H6 => D.nx σ H6) : tAugS to ti te tget tip tset D σ H := h
theorem ip_I {f : Int → Int → Int} {m n : Int} {H : Hp} {Q : VK} (q : Q (.int (f m n)) H) : ipI f (.int m) (.int n) H Q := ⟨m, n, rfl, rfl, q⟩
def kAug (i : Nat) (te : TE) (tip : TIp) (σ : L2.St) (x : V) (H : Hp) (N : L2.St → Hp → Prop) : Prop := te σ H fun y H1 => tip x y H1 fun z H2 => N (σ.set i (some z)) H2
theorem s_augV {D : Ends} {σ : L2.St} {H : Hp} {te : TE} {tip : TIp} {i : Nat} {x : V} (hx : σ[i]? = some (some x)) (h : te σ H fun y H1 => tip x y H1 fun z H2 => D.nx (σ.set i (some z)) H2) : tAug i te tip D σ H := ⟨x, hx, h⟩

/-! ### comprehensions over enumerate(list), over a list that is made -/
section
variable {K : PySem.W.Frag} {σ : L2.St} {H : Hp} {Q : VK} {g : TG} {tt : TT} {te ta : TE} {vs : List Nat} {tl : TA} {a : Addr} {xs : List V}
def lcT (J : It) (g : TG) (tt : TT) (te : TE) (vs : List Nat) (σ : L2.St) (Q : VK) (H1 : Hp) : Prop := ∀ E, H1 E = none → ∃ W : Nat → Nat → Hp → Prop, (∃ m, W 0 m (upd H1 E (.lst []))) ∧ ∀ i m H, W i m H →
    (J.stop i H ∧ Q (.ref E) H) ∨ (J.go i H ∧ ∃ Nx : Hp → Prop, (∀ H', Nx H' → ∃ m', m' < m ∧ W (i + 1) m' H') ∧ ∀ x H', J.yld i H x H' → g x (wipe σ vs) H' fun σ2 H2 => wipe σ2 vs = wipe σ vs ∧ tt σ2 H2 fun b H3 =>
      if b = true then te σ2 H3 fun y H4 => ∃ acc, H4 E = some (.lst acc) ∧ acc.length < sizeLine ∧ Nx (upd H4 E (.lst (acc ++ [y]))) else Nx H3)
def kLcE (K : PySem.W.Frag) (g : TG) (tt : TT) (te : TE) (vs : List Nat) (σ : L2.St) (Q : VK) (ys : List V) (H1 : Hp) : Prop := ∃ a xs, ys = [.ref a] ∧ SqL K H1 a xs ∧ lcT (Ite K a) g tt te vs σ Q H1
theorem e_lcE (h : tl σ H fun ys H1 => kLcE K g tt te vs σ Q ys H1) : tLc (iEnum K tl) g tt te vs σ H Q := h
theorem k_lcE (F : Nat → Option V) (hS : SqL K H a xs) (hz : xs.length < 100000)
    (hs : ∀ (E T : Addr) (i : Nat) (x : V) (H' : Hp) (R : VK) (N : Hp → Prop), H E = none → xs[i]? = some x → H' T = some (.tup [.int (i : Nat), x]) → H' E = some (.lst ((List.range i).filterMap F)) → Fp [] H H' → (∀ y H4, F i = some y → Fp [] H' H4 → R y H4) → (F i = none → ∀ H4, Fp [] H' H4 → N H4) →
      g (.ref T) (wipe σ vs) H' fun σ2 H2 => wipe σ2 vs = wipe σ vs ∧ tt σ2 H2 fun k H3 => if k = true then te σ2 H3 R else N H3)
    (q : ∀ E H', H E = none → H' E = some (.lst ((List.range xs.length).filterMap F)) → Fp [] H H' → Q (.ref E) H') : kLcE K g tt te vs σ Q [.ref a] H := by
  refine ⟨a, xs, rfl, hS, fun E hE => ?_⟩
  refine ⟨fun i m H' => m = xs.length - i ∧ i ≤ xs.length ∧ H' E = some (.lst ((List.range i).filterMap F)) ∧ Fp [] H H', ⟨_, rfl, Nat.zero_le _, upd_same, Fp.new hE⟩, ?_⟩
  rintro i m H' ⟨rfl, hi, e1, e2⟩
  have hq : SqL K H' a xs := e2.seq (by simp) hS
  by_cases hlt : i < xs.length
  · refine .inr ⟨⟨xs, xs[i], hq, List.getElem?_eq_getElem hlt⟩, fun H4 => H4 E = some (.lst ((List.range (i + 1)).filterMap F)) ∧ Fp [] H H4, fun H4 z => ⟨_, by omega, rfl, by omega, z.1, z.2⟩, ?_⟩
    rintro v H2 ⟨T, x, rfl, hT, rfl, hx⟩
    have hx2 := hx xs hq
    have fT : Fp [] H' (upd H' T (.tup [.int (i : Nat), x])) := Fp.new hT
    have f2 := e2.trans fT
    have E2 := fT _ _ e1 (by simp)
    exact hs E T i x _ (fun y H4 => ∃ acc, H4 E = some (.lst acc) ∧ acc.length < sizeLine ∧ (upd H4 E (.lst (acc ++ [y]))) E = some (.lst ((List.range (i + 1)).filterMap F)) ∧ Fp [] H (upd H4 E (.lst (acc ++ [y])))) (fun H4 => H4 E = some (.lst ((List.range (i + 1)).filterMap F)) ∧ Fp [] H H4) hE hx2 upd_same E2 f2
      (fun y H4 ey f4 => ⟨_, f4 _ _ E2 (by simp), szl (Nat.lt_of_le_of_lt (List.length_filterMap_le _ _) (by rw [List.length_range]; omega)), by rw [upd_same, fm_range, ey]; rfl, Fp.drop (fp := [E]) (((f2.trans f4).mono (by simp)).trans (Fp.at_ (by simp))) fun z hz => by rcases List.mem_singleton.mp hz with rfl; exact .inr hE⟩)
      (fun ey H4 f4 => ⟨by rw [fm_range, ey]; simpa using f4 _ _ E2 (by simp), f2.trans f4⟩)
  · have hi2 : i = xs.length := by omega
    subst hi2
    exact .inl ⟨⟨xs, hq, Nat.le_refl _⟩, q E H' hE e1 e2⟩
def kLcL (K : PySem.W.Frag) (g : TG) (tt : TT) (te : TE) (vs : List Nat) (σ : L2.St) (Q : VK) (x : V) (H : Hp) : Prop := (iList K fun _ _ R => R x H) σ H fun J H1 => lcT J g tt te vs σ Q H1
theorem e_lcL (h : ta σ H fun x H1 => kLcL K g tt te vs σ Q x H1) : tLc (iList K ta) g tt te vs σ H Q := h
theorem k_lcL (f : V → Option V) (hS : SqL K H a xs) (hz : xs.length < 100000)
    (hs : ∀ (E : Addr) (i : Nat) (x : V) (H' : Hp) (R : VK) (N : Hp → Prop), H E = none → xs[i]? = some x → H' E = some (.lst ((xs.take i).filterMap f)) → Fp [] H H' → (∀ y H4, f x = some y → Fp [] H' H4 → R y H4) → (f x = none → ∀ H4, Fp [] H' H4 → N H4) →
      g x (wipe σ vs) H' fun σ2 H2 => wipe σ2 vs = wipe σ vs ∧ tt σ2 H2 fun k H3 => if k = true then te σ2 H3 R else N H3)
    (q : ∀ E H', H E = none → H' E = some (.lst (xs.filterMap f)) → Fp [] H H' → Q (.ref E) H') : kLcL K g tt te vs σ Q (.ref a) H := by
  refine ⟨a, rfl, ⟨_, hS⟩, fun E hE => ?_⟩
  refine lc_list (K := K) (a := a) (xs := xs) (fun i H' => H' E = some (.lst ((xs.take i).filterMap f)) ∧ Fp [] H H') ⟨by rw [List.take_zero]; exact upd_same, Fp.new hE⟩ (fun i H' hi e => ?_) (fun i x H' hx e => ?_) fun H' e => ?_
  · exact e.2.seq (by simp) hS
  · have hi : i < xs.length := (List.getElem?_eq_some_iff.mp hx).1
    exact hs E i x H' (fun y H4 => ∃ acc, H4 E = some (.lst acc) ∧ acc.length < sizeLine ∧ (upd H4 E (.lst (acc ++ [y]))) E = some (.lst ((xs.take (i + 1)).filterMap f)) ∧ Fp [] H (upd H4 E (.lst (acc ++ [y])))) (fun H4 => H4 E = some (.lst ((xs.take (i + 1)).filterMap f)) ∧ Fp [] H H4) hE hx e.1 e.2
      (fun y H4 ey f4 => ⟨_, f4 _ _ e.1 (by simp), szl (Nat.lt_of_le_of_lt (List.length_filterMap_le _ _) (by rw [List.length_take]; omega)), by rw [upd_same, fm_snoc hx, ey]; rfl, Fp.drop (fp := [E]) (((e.2.trans f4).mono (by simp)).trans (Fp.at_ (by simp))) fun z hz => by rcases List.mem_singleton.mp hz with rfl; exact .inr hE⟩)
      (fun ey H4 f4 => ⟨by rw [fm_snoc hx, ey]; simpa using f4 _ _ e.1 (by simp), e.2.trans f4⟩)
  · rw [List.take_length] at e
    exact q E H' hE e.1 e.2
end
theorem cut_take {xs : List V} {n : Nat} : cutV xs none (some (n : Int)) = xs.take n := by
  unfold cutV
  rw [HT.sIx_nat, HT.sIx_none, List.drop_zero, Nat.sub_zero, List.take_eq_take_iff]
  omega
theorem cut_drop {xs : List V} {n : Nat} : cutV xs (some (n : Int)) none = xs.drop n := by
  unfold cutV
  rw [HT.sIx_nat, HT.sIx_none]
  by_cases h : n ≤ xs.length
  · rw [Nat.min_eq_left h, List.take_of_length_le (by rw [List.length_drop]; exact Nat.le_refl _)]
  · rw [Nat.min_eq_right (by omega), List.drop_of_length_le (Nat.le_refl _), List.drop_of_length_le (by omega), List.take_nil]
theorem c_ext {l b : Addr} {xs zs : List V} {H : Hp} {Q : VK} (h : H l = some (.lst xs)) (h' : H b = some (.lst zs)) (z : xs.length + zs.length ≤ 100000) (q : Q .non (upd H l (.lst (xs ++ zs)))) : rExtend (.ref l) [.ref b] H Q := ⟨l, b, xs, zs, rfl, rfl, h, h', sz z, q⟩
/-- [e for k in range(n)], e with its own doing -/
theorem k_lcS {σ : L2.St} {H : Hp} {Q : VK} {g : TG} {te : TE} {vs : List Nat} {n : Int} (J : Addr → Nat → List V → Hp → Prop) (h1 : 0 ≤ n) (h2 : n < 100000) (h0 : ∀ E, H E = none → J E 0 [] (upd H E (.lst [])))
    (hs : ∀ (E : Addr) (i : Nat) (acc : List V) (H' : Hp) (R : VK), H E = none → (i : Int) < n → acc.length = i → H' E = some (.lst acc) → J E i acc H' → (∀ y H4, H4 E = some (.lst acc) → J E (i + 1) (acc ++ [y]) (upd H4 E (.lst (acc ++ [y]))) → R y H4) →
      g (.int (i : Nat)) (wipe σ vs) H' fun σ2 H2 => wipe σ2 vs = wipe σ vs ∧ te σ2 H2 R)
    (q : ∀ E acc H', H E = none → acc.length = n.toNat → H' E = some (.lst acc) → J E n.toNat acc H' → Q (.ref E) H') : kLcR g te vs σ Q (.int n) H := by
  refine ⟨n, rfl, by omega, by omega, fun E hE => ?_⟩
  refine lc_range (lo := 0) (n := n.toNat) (fun i H' => ∃ acc, acc.length = i ∧ H' E = some (.lst acc) ∧ J E i acc H') ⟨[], rfl, upd_same, h0 E hE⟩ (fun i H' hi ⟨acc, ha, e, j⟩ => ?_) fun H' ⟨acc, ha, e, j⟩ => q E acc H' hE ha e j
  have e0 : (0 : Int) + (i : Int) = (i : Int) := Int.zero_add _
  rw [e0]
  exact hs E i acc H' (fun y H4 => ∃ acc, H4 E = some (.lst acc) ∧ acc.length < sizeLine ∧ ∃ acc2, acc2.length = i + 1 ∧ (upd H4 E (.lst (acc ++ [y]))) E = some (.lst acc2) ∧ J E (i + 1) acc2 (upd H4 E (.lst (acc ++ [y])))) hE (by omega) ha e j
    fun y H4 e4 j4 => ⟨acc, e4, szl (by omega), _, by rw [List.length_append, ha]; rfl, upd_same, j4⟩
theorem ints_of : ∀ {acc : List V}, (∀ y ∈ acc, ∃ z, y = V.int z) → ∃ ys : List Int, acc = ys.map V.int
  | [], _ => ⟨[], rfl⟩
  | y :: r, h => by
    obtain ⟨z, rfl⟩ := h y List.mem_cons_self
    obtain ⟨ys, rfl⟩ := ints_of fun x hx => h x (List.mem_cons_of_mem _ hx)
    exact ⟨z :: ys, rfl⟩
/-! ### what stands -/
def Inn (H : Hp) (L : List Addr) : Prop := ∀ y ∈ L, ∃ o, H y = some o
theorem Inn.nil {H : Hp} : Inn H [] := fun _ h => by cases h
theorem Inn.cons {H : Hp} {L : List Addr} {x : Addr} {o : HO} (h : H x = some o) (I : Inn H L) : Inn H (x :: L) := fun y hy => by
  rcases List.mem_cons.mp hy with rfl | hy
  · exact ⟨_, h⟩
  · exact I y hy
theorem Inn.app {H : Hp} {L M : List Addr} (I : Inn H L) (J : Inn H M) : Inn H (L ++ M) := fun y hy => (List.mem_append.mp hy).elim (I y) (J y)
theorem Inn.fresh {H : Hp} {L : List Addr} {x : Addr} (I : Inn H L) (h : H x = none) : x ∉ L := fun z => by
  obtain ⟨o, e⟩ := I x z
  rw [h] at e
  cases e
theorem Inn.ne {H : Hp} {L : List Addr} {x y : Addr} (I : Inn H L) (hy : y ∈ L) (h : H x = none) : x ≠ y := fun z => I.fresh h (z ▸ hy)
theorem Inn.fp {H H1 : Hp} {L : List Addr} (I : Inn H L) (f : Fp [] H H1) : Inn H1 L := fun y hy => by
  obtain ⟨o, e⟩ := I y hy
  exact ⟨o, f _ _ e (by simp)⟩
theorem Inn.mono {H : Hp} {L M : List Addr} (I : Inn H L) (h : ∀ x ∈ M, x ∈ L) : Inn H M := fun y hy => I y (h y hy)
theorem nd_new {L : List Addr} {x : Addr} (n : L.Nodup) (h : x ∉ L) : (x :: L).Nodup := List.nodup_cons.mpr ⟨h, n⟩
theorem nin_c {L : List Addr} {x y : Addr} (n : x ≠ y) (h : x ∉ L) : x ∉ y :: L := fun z => (List.mem_cons.mp z).elim n h
def kTru (K : PySem.W.Frag) (x : V) (H : Hp) (QT : Bool → Hp → Prop) : Prop := ∃ k, TruV K x H k ∧ QT k H
def tTr (K : PySem.W.Frag) (ta : TE) : TT := fun σ H Q => ta σ H fun x H' => kTru K x H' Q
theorem pt_tr {X : Cx} {a : Expr} {ta : TE} (ha : PE X a ta) (he : ∀ whole, isTrue a X.env whole = (do let v ← whole; standAt a.pos; holding [v] (truthy v))) : PT X a (tTr X.K ta) := pt_truth ha he
theorem t_tru {K : PySem.W.Frag} {σ : L2.St} {te : TE} {H : Hp} {QT : Bool → Hp → Prop} (h : te σ H fun x H1 => kTru K x H1 QT) : tTr K te σ H QT := h
theorem k_truL {K : PySem.W.Frag} {H : Hp} {QT : Bool → Hp → Prop} {p : Addr} {xs : List V} (h : SqL K H p xs) (q : QT (!xs.isEmpty) H) : kTru K (.ref p) H QT := ⟨_, Or.inl ⟨xs, h, rfl⟩, q⟩
/-- [e for k in range(n) if t], t and e with their own doing -/
theorem k_lcSF {σ : L2.St} {H : Hp} {Q : VK} {g : TG} {tt : TT} {te : TE} {vs : List Nat} {n : Int} (J : Addr → Nat → List V → Hp → Prop) (h1 : 0 ≤ n) (h2 : n < 100000) (h0 : ∀ E, H E = none → J E 0 [] (upd H E (.lst [])))
    (hs : ∀ (E : Addr) (i : Nat) (acc : List V) (H' : Hp) (R : VK) (N : Hp → Prop), H E = none → (i : Int) < n → acc.length ≤ i → H' E = some (.lst acc) → J E i acc H' → (∀ y H4, H4 E = some (.lst acc) → J E (i + 1) (acc ++ [y]) (upd H4 E (.lst (acc ++ [y]))) → R y H4) → (∀ H4, H4 E = some (.lst acc) → J E (i + 1) acc H4 → N H4) →
      g (.int (i : Nat)) (wipe σ vs) H' fun σ2 H2 => wipe σ2 vs = wipe σ vs ∧ tt σ2 H2 fun k H3 => if k = true then te σ2 H3 R else N H3)
    (q : ∀ E acc H', H E = none → acc.length ≤ n.toNat → H' E = some (.lst acc) → J E n.toNat acc H' → Q (.ref E) H') : kLcF g tt te vs σ Q (.int n) H := by
  refine ⟨n, rfl, by omega, by omega, fun E hE => ?_⟩
  refine lc_range (lo := 0) (n := n.toNat) (fun i H' => ∃ acc, acc.length ≤ i ∧ H' E = some (.lst acc) ∧ J E i acc H') ⟨[], Nat.le_refl _, upd_same, h0 E hE⟩ (fun i H' hi ⟨acc, ha, e, j⟩ => ?_) fun H' ⟨acc, ha, e, j⟩ => q E acc H' hE ha e j
  have e0 : (0 : Int) + (i : Int) = (i : Int) := Int.zero_add _
  rw [e0]
  exact hs E i acc H' (fun y H4 => ∃ acc, H4 E = some (.lst acc) ∧ acc.length < sizeLine ∧ ∃ acc2, acc2.length ≤ i + 1 ∧ (upd H4 E (.lst (acc ++ [y]))) E = some (.lst acc2) ∧ J E (i + 1) acc2 (upd H4 E (.lst (acc ++ [y])))) (fun H4 => ∃ acc2, acc2.length ≤ i + 1 ∧ H4 E = some (.lst acc2) ∧ J E (i + 1) acc2 H4) hE (by omega) ha e j
    (fun y H4 e4 j4 => ⟨acc, e4, szl (by omega), _, by rw [List.length_append]; simp; omega, upd_same, j4⟩) fun H4 e4 j4 => ⟨acc, by omega, e4, j4⟩
/-- for x in a list that an expression hands back -/
def kForL (K : PySem.W.Frag) (g : TG) (tb : TS) (D : Ends) (σ : L2.St) (x : V) (H1 : Hp) : Prop := (iList K fun _ _ R => R x H1) σ H1 fun J H1 => ∃ W : Nat → Nat → L2.St → Hp → Prop, (∃ m, W 0 m σ H1) ∧ ∀ i m σ H, W i m σ H →
  (J.stop i H ∧ D.nx σ H) ∨ (J.go i H ∧ ∃ N : L2.St → Hp → Prop, (∀ σ' H', N σ' H' → ∃ m', m' < m ∧ W (i + 1) m' σ' H') ∧ ∀ x H', J.yld i H x H' → g x σ H' fun σ2 H2 => tb { D with nx := N, ct := N, bk := D.nx } σ2 H2)
theorem f_lst {K : PySem.W.Frag} {g : TG} {tb : TS} {D : Ends} {σ : L2.St} {H : Hp} {te : TE} (h : te σ H fun x H1 => kForL K g tb D σ x H1) : tFor (iList K te) g tb D σ H := h
theorem k_forL {K : PySem.W.Frag} {g : TG} {tb : TS} {D : Ends} {σ : L2.St} {H : Hp} {p : Addr} {xs : List V} (Pv : Nat → L2.St → Hp → Prop) (hS : SqL K H p xs) (h0 : Pv 0 σ H) (hl : ∀ i σ' H', i ≤ xs.length → Pv i σ' H' → SqL K H' p xs)
    (hs : ∀ i x σ' H', xs[i]? = some x → Pv i σ' H' → g x σ' H' fun σ2 H2 => tb { D with nx := Pv (i + 1), ct := Pv (i + 1), bk := D.nx } σ2 H2) (hd : ∀ σ' H', Pv xs.length σ' H' → D.nx σ' H') : kForL K g tb D σ (.ref p) H :=
  ⟨p, rfl, ⟨xs, hS⟩, for_list Pv h0 hl hs hd⟩
theorem t_yes {σ : L2.St} {H : Hp} {QT : Bool → Hp → Prop} (h : QT true H) : tYes σ H QT := h
theorem ixN_last {n : Nat} (h : 0 < n) : ixN n (-1) = some (n - 1) := by
  unfold ixN
  rw [if_neg (by decide), if_pos (by omega)]
  congr 1
  omega
/-- xs[-1] = v -/
theorem c_setE {p : Addr} {xs : List V} {x v : V} {H : Hp} {R : Hp → Prop} (h : H p = some (.lst (xs ++ [x]))) (q : R (upd H p (.lst (xs ++ [v])))) : rSetL (.ref p) (.int (-1)) v H R := by
  refine ⟨p, xs ++ [x], -1, xs.length, rfl, rfl, h, by rw [ixN_last (by simp)]; simp, ?_⟩
  rw [List.set_append_right _ _ (Nat.le_refl _), Nat.sub_self]
  exact q
/-- [e for x in xs if t] by places, xs in a name -/
theorem lc_filtN {K : PySem.W.Frag} {σ : L2.St} {H : Hp} {Q : VK} {g : TG} {tt : TT} {te : TE} {vs : List Nat} {j : Nat} {b : Addr} {xs : List V} (F : Nat → Option V) (hv : σ[j]? = some (some (.ref b))) (hS : SqL K H b xs) (hz : xs.length < 100000)
    (hs : ∀ (E : Addr) (i : Nat) (x : V) (H' : Hp) (R : VK) (N : Hp → Prop), H E = none → xs[i]? = some x → H' E = some (.lst ((List.range i).filterMap F)) → Fp [] H H' → (∀ y H4, F i = some y → Fp [] H' H4 → R y H4) → (F i = none → ∀ H4, Fp [] H' H4 → N H4) →
      g x (wipe σ vs) H' fun σ2 H2 => wipe σ2 vs = wipe σ vs ∧ tt σ2 H2 fun k H3 => if k = true then te σ2 H3 R else N H3)
    (q : ∀ E H', H E = none → H' E = some (.lst ((List.range xs.length).filterMap F)) → Fp [] H H' → Q (.ref E) H') : tLc (iList K (tVar j)) g tt te vs σ H Q := by
  refine ⟨_, hv, b, rfl, ⟨_, hS⟩, fun E hE => ?_⟩
  refine lc_list (K := K) (a := b) (xs := xs) (fun i H' => H' E = some (.lst ((List.range i).filterMap F)) ∧ Fp [] H H') ⟨upd_same, Fp.new hE⟩ (fun i H' hi e => ?_) (fun i x H' hx e => ?_) fun H' e => q E H' hE e.1 e.2
  · exact e.2.seq (by simp) hS
  · have hi : i < xs.length := (List.getElem?_eq_some_iff.mp hx).1
    exact hs E i x H' (fun y H4 => ∃ acc, H4 E = some (.lst acc) ∧ acc.length < sizeLine ∧ (upd H4 E (.lst (acc ++ [y]))) E = some (.lst ((List.range (i + 1)).filterMap F)) ∧ Fp [] H (upd H4 E (.lst (acc ++ [y])))) (fun H4 => H4 E = some (.lst ((List.range (i + 1)).filterMap F)) ∧ Fp [] H H4) hE hx e.1 e.2
      (fun y H4 ey f4 => ⟨_, f4 _ _ e.1 (by simp), szl (Nat.lt_of_le_of_lt (List.length_filterMap_le _ _) (by rw [List.length_range]; omega)), by rw [upd_same, fm_range, ey]; rfl, Fp.drop (fp := [E]) (((e.2.trans f4).mono (by simp)).trans (Fp.at_ (by simp))) fun z hz => by rcases List.mem_singleton.mp hz with rfl; exact .inr hE⟩)
      (fun ey H4 f4 => ⟨by rw [fm_range, ey]; simpa using f4 _ _ e.1 (by simp), e.2.trans f4⟩)
theorem fm_len {F : Nat → Option V} {p : Nat → Bool} : ∀ {l : List Nat}, (∀ i ∈ l, (F i).isSome = p i) → (l.filterMap F).length = (l.filter p).length
  | [], _ => rfl
  | i :: r, h => by
    have h1 := h i List.mem_cons_self
    have ih := fm_len (F := F) (p := p) (l := r) fun x hx => h x (List.mem_cons_of_mem _ hx)
    cases e : F i with
    | none =>
      rw [e] at h1
      rw [List.filterMap_cons_none e, List.filter_cons_of_neg (by rw [← h1]; exact Bool.false_ne_true), ih]
    | some y =>
      rw [e] at h1
      rw [List.filterMap_cons_some e, List.filter_cons_of_pos h1.symm, List.length_cons, List.length_cons, ih]
end Rd
set_option Elab.async false
set_option maxRecDepth 100000
set_option maxHeartbeats 100000000
set_option linter.all false
namespace My
open PySem L2 Sx Rd
def top (i : Nat) : Stmt := PySem.Challenge.pw_tickrings_k08_receive_queues.main.body.getD i (.Pass ⟨0, 0, 0, 0⟩)
abbrev s_lost_mark : Stmt := top 1
abbrev s_is_mark : Stmt := top 2
abbrev s_lost_by : Stmt := top 3
abbrev s_joined : Stmt := top 4
abbrev s_bytes_among : Stmt := top 5
abbrev s_ReceiveQueue_init : Stmt := inClass (top 7) 0
abbrev s_ReceiveQueue_arrive : Stmt := inClass (top 7) 1
abbrev s_ReceiveQueue_first : Stmt := inClass (top 7) 2
abbrev s_ReceiveQueue_take : Stmt := inClass (top 7) 3
abbrev s_ReceiveQueue_oldest_tick : Stmt := inClass (top 7) 4
abbrev s_ReceiveQueue_bytes_held : Stmt := inClass (top 7) 5
abbrev s_ReceiveQueue_contents : Stmt := inClass (top 7) 6
abbrev s_ReceiveQueue_append : Stmt := inClass (top 7) 7
abbrev s_ReceiveQueue_lose : Stmt := inClass (top 7) 8
abbrev s_law_state : Stmt := top 9
abbrev s_law_draw : Stmt := top 10
abbrev s_law_pick : Stmt := top 11
abbrev s_law_is_integer : Stmt := top 12
abbrev s_law_same : Stmt := top 13
abbrev s_law_held : Stmt := top 14
abbrev s_law_agrees : Stmt := top 15
abbrev s_law_arrives : Stmt := top 16
abbrev s_law_takes : Stmt := top 17
abbrev s_law : Stmt := top 18
theorem sc_lost_mark : FnScope ["many"] ["many"] (defScope s_lost_mark) := ⟨rfl, rfl, rfl, by decide +kernel, rfl, by decide +kernel, by decide +kernel⟩
theorem sc_is_mark : FnScope ["item"] ["item"] (defScope s_is_mark) := ⟨rfl, rfl, rfl, by decide +kernel, rfl, by decide +kernel, by decide +kernel⟩
theorem sc_lost_by : FnScope ["mark"] ["mark"] (defScope s_lost_by) := ⟨rfl, rfl, rfl, by decide +kernel, rfl, by decide +kernel, by decide +kernel⟩
theorem sc_joined : FnScope ["mark", "other"] ["mark", "other"] (defScope s_joined) := ⟨rfl, rfl, rfl, by decide +kernel, rfl, by decide +kernel, by decide +kernel⟩
theorem sc_bytes_among : FnScope ["items", "item"] ["items"] (defScope s_bytes_among) := ⟨rfl, rfl, rfl, by decide +kernel, rfl, by decide +kernel, by decide +kernel⟩
theorem sc_ReceiveQueue_init : FnScope ["self", "capacity"] ["self", "capacity"] (defScope s_ReceiveQueue_init) := ⟨rfl, rfl, rfl, by decide +kernel, rfl, by decide +kernel, by decide +kernel⟩
theorem sc_ReceiveQueue_arrive : FnScope ["self", "byte", "tick"] ["self", "byte", "tick"] (defScope s_ReceiveQueue_arrive) := ⟨rfl, rfl, rfl, by decide +kernel, rfl, by decide +kernel, by decide +kernel⟩
theorem sc_ReceiveQueue_first : FnScope ["self"] ["self"] (defScope s_ReceiveQueue_first) := ⟨rfl, rfl, rfl, by decide +kernel, rfl, by decide +kernel, by decide +kernel⟩
theorem sc_ReceiveQueue_take : FnScope ["self"] ["self"] (defScope s_ReceiveQueue_take) := ⟨rfl, rfl, rfl, by decide +kernel, rfl, by decide +kernel, by decide +kernel⟩
theorem sc_ReceiveQueue_oldest_tick : FnScope ["self"] ["self"] (defScope s_ReceiveQueue_oldest_tick) := ⟨rfl, rfl, rfl, by decide +kernel, rfl, by decide +kernel, by decide +kernel⟩
theorem sc_ReceiveQueue_bytes_held : FnScope ["self"] ["self"] (defScope s_ReceiveQueue_bytes_held) := ⟨rfl, rfl, rfl, by decide +kernel, rfl, by decide +kernel, by decide +kernel⟩
theorem sc_ReceiveQueue_contents : FnScope ["self"] ["self"] (defScope s_ReceiveQueue_contents) := ⟨rfl, rfl, rfl, by decide +kernel, rfl, by decide +kernel, by decide +kernel⟩
theorem sc_ReceiveQueue_append : FnScope ["self", "item", "tick"] ["self", "item", "tick"] (defScope s_ReceiveQueue_append) := ⟨rfl, rfl, rfl, by decide +kernel, rfl, by decide +kernel, by decide +kernel⟩
theorem sc_ReceiveQueue_lose : FnScope ["self", "tick"] ["self", "tick"] (defScope s_ReceiveQueue_lose) := ⟨rfl, rfl, rfl, by decide +kernel, rfl, by decide +kernel, by decide +kernel⟩
theorem sc_law_state : FnScope ["script", "seed", "cell"] ["script"] (defScope s_law_state) := ⟨rfl, rfl, rfl, by decide +kernel, rfl, by decide +kernel, by decide +kernel⟩
theorem sc_law_draw : FnScope ["state", "many", "cells", "value", "mixed"] ["state", "many"] (defScope s_law_draw) := ⟨rfl, rfl, rfl, by decide +kernel, rfl, by decide +kernel, by decide +kernel⟩
theorem sc_law_pick : FnScope ["state", "row"] ["state", "row"] (defScope s_law_pick) := ⟨rfl, rfl, rfl, by decide +kernel, rfl, by decide +kernel, by decide +kernel⟩
theorem sc_law_is_integer : FnScope ["actual"] ["actual"] (defScope s_law_is_integer) := ⟨rfl, rfl, rfl, by decide +kernel, rfl, by decide +kernel, by decide +kernel⟩
theorem sc_law_same : FnScope ["told", "due"] ["told", "due"] (defScope s_law_same) := ⟨rfl, rfl, rfl, by decide +kernel, rfl, by decide +kernel, by decide +kernel⟩
theorem sc_law_held : FnScope ["rows", "row"] ["rows"] (defScope s_law_held) := ⟨rfl, rfl, rfl, by decide +kernel, rfl, by decide +kernel, by decide +kernel⟩
theorem sc_law_agrees : FnScope ["queue", "rows", "capacity", "contents", "k", "first", "tick"] ["queue", "rows", "capacity"] (defScope s_law_agrees) := ⟨rfl, rfl, rfl, by decide +kernel, rfl, by decide +kernel, by decide +kernel⟩
theorem sc_law_arrives : FnScope ["queue", "rows", "capacity", "byte", "tick", "told", "newest"] ["queue", "rows", "capacity", "byte", "tick"] (defScope s_law_arrives) := ⟨rfl, rfl, rfl, by decide +kernel, rfl, by decide +kernel, by decide +kernel⟩
theorem sc_law_takes : FnScope ["queue", "rows", "due"] ["queue", "rows"] (defScope s_law_takes) := ⟨rfl, rfl, rfl, by decide +kernel, rfl, by decide +kernel, by decide +kernel⟩
theorem sc_law : FnScope ["script", "state", "capacity", "queue", "other", "rows", "tick", "cell", "many", "takes", "k"] ["script"] (defScope s_law) := ⟨rfl, rfl, rfl, by decide +kernel, rfl, by decide +kernel, by decide +kernel⟩
/-- where things stand -/
structure Ads where
  (C_ReceiveQueue : Addr)
  (f_lost_mark f_is_mark f_lost_by f_joined f_bytes_among f_ReceiveQueue_init f_ReceiveQueue_arrive f_ReceiveQueue_first f_ReceiveQueue_take f_ReceiveQueue_oldest_tick f_ReceiveQueue_bytes_held f_ReceiveQueue_contents f_ReceiveQueue_append f_ReceiveQueue_lose f_law_state f_law_draw f_law_pick f_law_is_integer f_law_same f_law_held f_law_agrees f_law_arrives f_law_takes f_law : Addr)
  (fd_lost_mark fd_is_mark fd_lost_by fd_joined fd_bytes_among fd_ReceiveQueue_init fd_ReceiveQueue_arrive fd_ReceiveQueue_first fd_ReceiveQueue_take fd_ReceiveQueue_oldest_tick fd_ReceiveQueue_bytes_held fd_ReceiveQueue_contents fd_ReceiveQueue_append fd_ReceiveQueue_lose fd_law_state fd_law_draw fd_law_pick fd_law_is_integer fd_law_same fd_law_held fd_law_agrees fd_law_arrives fd_law_takes fd_law : FuncData)
def F_ReceiveQueue (x0 x1 x2 : V) : List (Str × V) := [("capacity", x0), ("_items", x1), ("_ticks", x2)]
section
variable {x0 x1 x2 v : V}
theorem F_ReceiveQueue_capacity_l : (F_ReceiveQueue x0 x1 x2).lookup ("capacity" : Str) = some x0 := by unfold F_ReceiveQueue; rw [look_hit]
theorem F_ReceiveQueue_capacity_p : putF "capacity" v (F_ReceiveQueue x0 x1 x2) = F_ReceiveQueue v x1 x2 := by unfold F_ReceiveQueue; rw [putF_hit]; try rfl
theorem F_ReceiveQueue_items_l : (F_ReceiveQueue x0 x1 x2).lookup ("_items" : Str) = some x1 := by unfold F_ReceiveQueue; rw [look_miss (by decide +kernel), look_hit]
theorem F_ReceiveQueue_items_p : putF "_items" v (F_ReceiveQueue x0 x1 x2) = F_ReceiveQueue x0 v x2 := by unfold F_ReceiveQueue; rw [putF_miss (by decide +kernel), putF_hit]; try rfl
theorem F_ReceiveQueue_ticks_l : (F_ReceiveQueue x0 x1 x2).lookup ("_ticks" : Str) = some x2 := by unfold F_ReceiveQueue; rw [look_miss (by decide +kernel), look_miss (by decide +kernel), look_hit]
theorem F_ReceiveQueue_ticks_p : putF "_ticks" v (F_ReceiveQueue x0 x1 x2) = F_ReceiveQueue x0 x1 v := by unfold F_ReceiveQueue; rw [putF_miss (by decide +kernel), putF_miss (by decide +kernel), putF_hit]; try rfl
theorem F_ReceiveQueue_m_arrive : (F_ReceiveQueue x0 x1 x2).lookup ("arrive" : Str) = none := by unfold F_ReceiveQueue; rw [look_miss (by decide +kernel), look_miss (by decide +kernel), look_miss (by decide +kernel)]; try rfl
theorem F_ReceiveQueue_m_first : (F_ReceiveQueue x0 x1 x2).lookup ("first" : Str) = none := by unfold F_ReceiveQueue; rw [look_miss (by decide +kernel), look_miss (by decide +kernel), look_miss (by decide +kernel)]; try rfl
theorem F_ReceiveQueue_m_take : (F_ReceiveQueue x0 x1 x2).lookup ("take" : Str) = none := by unfold F_ReceiveQueue; rw [look_miss (by decide +kernel), look_miss (by decide +kernel), look_miss (by decide +kernel)]; try rfl
theorem F_ReceiveQueue_m_oldest_tick : (F_ReceiveQueue x0 x1 x2).lookup ("oldest_tick" : Str) = none := by unfold F_ReceiveQueue; rw [look_miss (by decide +kernel), look_miss (by decide +kernel), look_miss (by decide +kernel)]; try rfl
theorem F_ReceiveQueue_m_bytes_held : (F_ReceiveQueue x0 x1 x2).lookup ("bytes_held" : Str) = none := by unfold F_ReceiveQueue; rw [look_miss (by decide +kernel), look_miss (by decide +kernel), look_miss (by decide +kernel)]; try rfl
theorem F_ReceiveQueue_m_contents : (F_ReceiveQueue x0 x1 x2).lookup ("contents" : Str) = none := by unfold F_ReceiveQueue; rw [look_miss (by decide +kernel), look_miss (by decide +kernel), look_miss (by decide +kernel)]; try rfl
theorem F_ReceiveQueue_m_append : (F_ReceiveQueue x0 x1 x2).lookup ("_append" : Str) = none := by unfold F_ReceiveQueue; rw [look_miss (by decide +kernel), look_miss (by decide +kernel), look_miss (by decide +kernel)]; try rfl
theorem F_ReceiveQueue_m_lose : (F_ReceiveQueue x0 x1 x2).lookup ("_lose" : Str) = none := by unfold F_ReceiveQueue; rw [look_miss (by decide +kernel), look_miss (by decide +kernel), look_miss (by decide +kernel)]; try rfl
theorem F_ReceiveQueue_len : (F_ReceiveQueue x0 x1 x2).length < 1000 := by show 3 < 1000; decide
theorem F_ReceiveQueue_i1 : putF "_items" x1 ([(("capacity" : Str), x0)] : List (Str × V)) = [(("capacity" : Str), x0), (("_items" : Str), x1)] := by rw [putF_miss (by decide +kernel)]; rfl
theorem F_ReceiveQueue_i2 : putF "_ticks" x2 ([(("capacity" : Str), x0), (("_items" : Str), x1)] : List (Str × V)) = [(("capacity" : Str), x0), (("_items" : Str), x1), (("_ticks" : Str), x2)] := by rw [putF_miss (by decide +kernel), putF_miss (by decide +kernel)]; rfl
theorem F_ReceiveQueue_init : putF "_ticks" x2 (putF "_items" x1 (putF "capacity" x0 [])) = F_ReceiveQueue x0 x1 x2 := by unfold F_ReceiveQueue; rw [putF_nil, F_ReceiveQueue_i1, F_ReceiveQueue_i2]
end
def sp_law0 (K : PySem.W.Frag) : Sp := A1 fun v H Q _ => ∃ (b : Addr) (ns : List Int), v = .ref b ∧ SqL K H b (ns.map V.int) ∧ ns.length ≤ 63 ∧ ∀ H1, Q (.bl true) H1
abbrev sp_law (K : PySem.W.Frag) (a : Ads) : Sp := sp_law0 K
/-- what the top has written -/
structure Txt (P : Program) (w : World) (K : PySem.W.Frag) (mg : Str → Option Value) (base : Heap) (a : Ads) : Prop where
  g_abs : mg "abs" = none
  g_bool : mg "bool" = none
  g_int : mg "int" = none
  g_isinstance : mg "isinstance" = none
  g_len : mg "len" = none
  g_list : mg "list" = none
  g_range : mg "range" = none
  g_tuple : mg "tuple" = none
  F_lost_mark : Fun K "lost_mark" "lost_mark" s_lost_mark a.f_lost_mark a.fd_lost_mark
  b_lost_mark : Binds K a.fd_lost_mark ["many"] []
  g_lost_mark : mg "lost_mark" = some (.ref a.f_lost_mark)
  F_is_mark : Fun K "is_mark" "is_mark" s_is_mark a.f_is_mark a.fd_is_mark
  b_is_mark : Binds K a.fd_is_mark ["item"] []
  g_is_mark : mg "is_mark" = some (.ref a.f_is_mark)
  F_lost_by : Fun K "lost_by" "lost_by" s_lost_by a.f_lost_by a.fd_lost_by
  b_lost_by : Binds K a.fd_lost_by ["mark"] []
  g_lost_by : mg "lost_by" = some (.ref a.f_lost_by)
  F_joined : Fun K "joined" "joined" s_joined a.f_joined a.fd_joined
  b_joined : Binds K a.fd_joined ["mark", "other"] []
  g_joined : mg "joined" = some (.ref a.f_joined)
  F_bytes_among : Fun K "bytes_among" "bytes_among" s_bytes_among a.f_bytes_among a.fd_bytes_among
  b_bytes_among : Binds K a.fd_bytes_among ["items"] []
  g_bytes_among : mg "bytes_among" = some (.ref a.f_bytes_among)
  F_ReceiveQueue_init : Fun K "__init__" "ReceiveQueue.__init__" s_ReceiveQueue_init a.f_ReceiveQueue_init a.fd_ReceiveQueue_init
  b_ReceiveQueue_init : Binds K a.fd_ReceiveQueue_init ["self", "capacity"] []
  mk_ReceiveQueue : Mk K a.C_ReceiveQueue a.f_ReceiveQueue_init
  F_ReceiveQueue_arrive : Fun K "arrive" "ReceiveQueue.arrive" s_ReceiveQueue_arrive a.f_ReceiveQueue_arrive a.fd_ReceiveQueue_arrive
  b_ReceiveQueue_arrive : Binds K a.fd_ReceiveQueue_arrive ["self", "byte", "tick"] []
  m_ReceiveQueue_arrive : Meth K a.C_ReceiveQueue "arrive" a.f_ReceiveQueue_arrive
  F_ReceiveQueue_first : Fun K "first" "ReceiveQueue.first" s_ReceiveQueue_first a.f_ReceiveQueue_first a.fd_ReceiveQueue_first
  b_ReceiveQueue_first : Binds K a.fd_ReceiveQueue_first ["self"] []
  m_ReceiveQueue_first : Meth K a.C_ReceiveQueue "first" a.f_ReceiveQueue_first
  F_ReceiveQueue_take : Fun K "take" "ReceiveQueue.take" s_ReceiveQueue_take a.f_ReceiveQueue_take a.fd_ReceiveQueue_take
  b_ReceiveQueue_take : Binds K a.fd_ReceiveQueue_take ["self"] []
  m_ReceiveQueue_take : Meth K a.C_ReceiveQueue "take" a.f_ReceiveQueue_take
  F_ReceiveQueue_oldest_tick : Fun K "oldest_tick" "ReceiveQueue.oldest_tick" s_ReceiveQueue_oldest_tick a.f_ReceiveQueue_oldest_tick a.fd_ReceiveQueue_oldest_tick
  b_ReceiveQueue_oldest_tick : Binds K a.fd_ReceiveQueue_oldest_tick ["self"] []
  m_ReceiveQueue_oldest_tick : Meth K a.C_ReceiveQueue "oldest_tick" a.f_ReceiveQueue_oldest_tick
  F_ReceiveQueue_bytes_held : Fun K "bytes_held" "ReceiveQueue.bytes_held" s_ReceiveQueue_bytes_held a.f_ReceiveQueue_bytes_held a.fd_ReceiveQueue_bytes_held
  b_ReceiveQueue_bytes_held : Binds K a.fd_ReceiveQueue_bytes_held ["self"] []
  m_ReceiveQueue_bytes_held : Meth K a.C_ReceiveQueue "bytes_held" a.f_ReceiveQueue_bytes_held
  F_ReceiveQueue_contents : Fun K "contents" "ReceiveQueue.contents" s_ReceiveQueue_contents a.f_ReceiveQueue_contents a.fd_ReceiveQueue_contents
  b_ReceiveQueue_contents : Binds K a.fd_ReceiveQueue_contents ["self"] []
  m_ReceiveQueue_contents : Meth K a.C_ReceiveQueue "contents" a.f_ReceiveQueue_contents
  F_ReceiveQueue_append : Fun K "_append" "ReceiveQueue._append" s_ReceiveQueue_append a.f_ReceiveQueue_append a.fd_ReceiveQueue_append
  b_ReceiveQueue_append : Binds K a.fd_ReceiveQueue_append ["self", "item", "tick"] []
  m_ReceiveQueue_append : Meth K a.C_ReceiveQueue "_append" a.f_ReceiveQueue_append
  F_ReceiveQueue_lose : Fun K "_lose" "ReceiveQueue._lose" s_ReceiveQueue_lose a.f_ReceiveQueue_lose a.fd_ReceiveQueue_lose
  b_ReceiveQueue_lose : Binds K a.fd_ReceiveQueue_lose ["self", "tick"] []
  m_ReceiveQueue_lose : Meth K a.C_ReceiveQueue "_lose" a.f_ReceiveQueue_lose
  F_law_state : Fun K "_law_state" "_law_state" s_law_state a.f_law_state a.fd_law_state
  b_law_state : Binds K a.fd_law_state ["script"] []
  g_law_state : mg "_law_state" = some (.ref a.f_law_state)
  F_law_draw : Fun K "_law_draw" "_law_draw" s_law_draw a.f_law_draw a.fd_law_draw
  b_law_draw : Binds K a.fd_law_draw ["state", "many"] []
  g_law_draw : mg "_law_draw" = some (.ref a.f_law_draw)
  F_law_pick : Fun K "_law_pick" "_law_pick" s_law_pick a.f_law_pick a.fd_law_pick
  b_law_pick : Binds K a.fd_law_pick ["state", "row"] []
  g_law_pick : mg "_law_pick" = some (.ref a.f_law_pick)
  F_law_is_integer : Fun K "_law_is_integer" "_law_is_integer" s_law_is_integer a.f_law_is_integer a.fd_law_is_integer
  b_law_is_integer : Binds K a.fd_law_is_integer ["actual"] []
  g_law_is_integer : mg "_law_is_integer" = some (.ref a.f_law_is_integer)
  F_law_same : Fun K "_law_same" "_law_same" s_law_same a.f_law_same a.fd_law_same
  b_law_same : Binds K a.fd_law_same ["told", "due"] []
  g_law_same : mg "_law_same" = some (.ref a.f_law_same)
  F_law_held : Fun K "_law_held" "_law_held" s_law_held a.f_law_held a.fd_law_held
  b_law_held : Binds K a.fd_law_held ["rows"] []
  g_law_held : mg "_law_held" = some (.ref a.f_law_held)
  F_law_agrees : Fun K "_law_agrees" "_law_agrees" s_law_agrees a.f_law_agrees a.fd_law_agrees
  b_law_agrees : Binds K a.fd_law_agrees ["queue", "rows", "capacity"] []
  g_law_agrees : mg "_law_agrees" = some (.ref a.f_law_agrees)
  F_law_arrives : Fun K "_law_arrives" "_law_arrives" s_law_arrives a.f_law_arrives a.fd_law_arrives
  b_law_arrives : Binds K a.fd_law_arrives ["queue", "rows", "capacity", "byte", "tick"] []
  g_law_arrives : mg "_law_arrives" = some (.ref a.f_law_arrives)
  F_law_takes : Fun K "_law_takes" "_law_takes" s_law_takes a.f_law_takes a.fd_law_takes
  b_law_takes : Binds K a.fd_law_takes ["queue", "rows"] []
  g_law_takes : mg "_law_takes" = some (.ref a.f_law_takes)
  F_law : Fun K "law" "law" s_law a.f_law a.fd_law
  b_law : Binds K a.fd_law ["script"] []
  g_law : mg "law" = some (.ref a.f_law)
  g_ReceiveQueue : mg "ReceiveQueue" = some (.ref a.C_ReceiveQueue)
  cl_ReceiveQueue : Cls K a.C_ReceiveQueue
  n_ReceiveQueue_capacity : NoAttr K a.C_ReceiveQueue "capacity"
  n_ReceiveQueue_items : NoAttr K a.C_ReceiveQueue "_items"
  n_ReceiveQueue_ticks : NoAttr K a.C_ReceiveQueue "_ticks"
local macro_rules | `(tactic| walk_at "ne") => `(tactic| (first | with_reducible assumption | with_reducible exact Ne.symm (by with_reducible assumption)))
local macro_rules | `(tactic| walk_at "nin") => `(tactic| (simp only [List.mem_cons, List.not_mem_nil, or_false, not_or, not_false_eq_true]; (repeat' refine And.intro ?_ ?_); (all_goals walk_at "ne")))
local macro_rules | `(tactic| walk_at "hl") => `(tactic| (first | (with_reducible assumption) | exact upd_same | ((with_reducible refine' (upd_ne ?hne).trans ?hgo); (case hne => walk_at "ne"); (case hgo => walk_at "hl"))))
local macro_rules | `(tactic| walk_at "sq") => `(tactic| (first | (with_reducible assumption) | exact Or.inl (Or.inl (by walk_at "hl"))))
local macro_rules | `(tactic| walk_at "ar") => `(tactic| (first | omega | exact ⟨by omega, by omega⟩ | exact Or.inl ⟨by omega, by omega⟩ | exact Or.inr ⟨by omega, by omega⟩ | (show (0 : Int) < _; omega) | (show (0 : Int) < _ ∧ _ < (1073741824 : Int); omega)))
local macro_rules | `(tactic| walk_at "cls") => `(tactic| (first | exact Txt.cl_ReceiveQueue (by assumption)))
local macro_rules | `(tactic| walk_at "noa") => `(tactic| (first | exact Txt.n_ReceiveQueue_capacity (by assumption) | exact Txt.n_ReceiveQueue_items (by assumption) | exact Txt.n_ReceiveQueue_ticks (by assumption)))
local macro_rules | `(tactic| walk_at "lkp") => `(tactic| (first | (with_reducible exact F_ReceiveQueue_capacity_l) | (with_reducible exact F_ReceiveQueue_items_l) | (with_reducible exact F_ReceiveQueue_ticks_l)))
local macro_rules | `(tactic| walk_at "ptf") => `(tactic| (first | (with_reducible exact F_ReceiveQueue_capacity_p) | (with_reducible exact F_ReceiveQueue_items_p) | (with_reducible exact F_ReceiveQueue_ticks_p) | exact rfl))
local macro_rules | `(tactic| walk_at "lnF") => `(tactic| (first | (with_reducible exact F_ReceiveQueue_len) | (refine PL.lt (n := 60) ?_ (by decide); (repeat refine PL.put ?_); exact PL.nil) | decide))
local macro_rules | `(tactic| walk_at "nol") => `(tactic| (first | (with_reducible exact F_ReceiveQueue_m_arrive) | (with_reducible exact F_ReceiveQueue_m_first) | (with_reducible exact F_ReceiveQueue_m_take) | (with_reducible exact F_ReceiveQueue_m_oldest_tick) | (with_reducible exact F_ReceiveQueue_m_bytes_held) | (with_reducible exact F_ReceiveQueue_m_contents) | (with_reducible exact F_ReceiveQueue_m_append) | (with_reducible exact F_ReceiveQueue_m_lose)))
local macro_rules | `(tactic| walk_at "r1") => `(tactic| (first
  | with_reducible apply l_cons | ((with_reducible apply e_var); (case h => exact rfl)) | with_reducible apply l_nil | with_reducible apply s_seq | with_reducible apply e_c | with_reducible apply g_name
  | with_reducible apply s_asg | with_reducible apply e_call | with_reducible apply k_t | with_reducible apply e_op | with_reducible apply e_cb | with_reducible apply t_test
  | with_reducible apply s_if | with_reducible apply t_or | with_reducible apply t_and | with_reducible apply t_B | with_reducible apply s_next | with_reducible apply p_some
  | with_reducible apply p_no | with_reducible apply e_sl | with_reducible apply k_i | with_reducible apply e_lst | with_reducible apply t_not | with_reducible apply o_I0
  | ((with_reducible refine' o_I ?hc ?_); (case hc => walk_at "ar")) | with_reducible apply e_meth | ((with_reducible refine' k_meth ?h1 ?h2 ?_); (case h1 => walk_at "hl"); (case h2 => walk_at "nol")) | with_reducible apply e_fld | ((with_reducible refine' k_fld ?h1 ?h2 ?h3 ?h4 ?_); (case h1 => walk_at "hl"); (case h2 => walk_at "cls"); (case h3 => walk_at "noa"); (case h4 => walk_at "lkp")) | with_reducible apply e_not
  | with_reducible apply s_ret | ((with_reducible refine' k_ty ?h1 ?_); (case h1 => walk_at "sq")) | with_reducible apply s_drop | with_reducible apply s_retN | with_reducible apply s_cont | with_reducible apply s_break
  | with_reducible apply o_chC | ((with_reducible refine' o_chV ?hv ?_); (case hv => exact rfl)) | with_reducible apply e_un | with_reducible apply o_U | ((with_reducible refine' o_eq ?hs ?_); (case hs => exact rfl)) | ((with_reducible refine' o_ne ?hs ?_); (case hs => exact rfl))
  | ((with_reducible refine' o_ixL ?h1 ?h2 ?_); (case h1 => walk_at "sq"); (case h2 => first | exact rfl | exact atI_zero _ _)) | with_reducible apply s_fld | with_reducible apply e_make | ((with_reducible refine' k_set ?h1 ?h2 ?h3 ?h4 ?h5 ?_); (case h1 => walk_at "hl"); (case h2 => walk_at "cls"); (case h3 => walk_at "noa"); (case h4 => walk_at "ptf"); (case h5 => walk_at "lnF")) | with_reducible apply e_tup | with_reducible apply e_bm
  | with_reducible apply e_bm0 | with_reducible apply e_if | with_reducible apply e_chain | with_reducible apply s_raise | with_reducible apply g_sub | ((with_reducible refine' c_ln ?h1 ?_); (case h1 => walk_at "sq"))
  | ((with_reducible refine' c_pop0 ?h1 ?h2 ?_); (case h1 => walk_at "hl"); (case h2 => omega)) | with_reducible apply c_isBool | with_reducible apply c_isInt | with_reducible apply c_isBoolN | with_reducible apply c_isTupI | with_reducible apply c_isNonB
  | with_reducible apply c_isNonT | ((with_reducible refine' c_isList ?h1 ?_); (case h1 => walk_at "hl")) | ((with_reducible refine' c_isTup ?h1 ?_); (case h1 => walk_at "hl")) | ((with_reducible refine' c_isTupB ?h1 ?_); (case h1 => walk_at "hl")) | with_reducible apply o_isB | with_reducible apply o_notB
  | with_reducible apply e_and | with_reducible apply e_or | with_reducible apply k_bl | with_reducible apply e_xf | with_reducible apply s_augS | ((with_reducible refine' s_augV ?hv ?_); (case hv => exact rfl))
  | with_reducible apply ip_I | with_reducible apply e_lcE | ((with_reducible refine' k_xf ?h1 ?h2 ?_); (case h1 => walk_at "hl"); (case h2 => exact look_hit _ _ _)) | ((with_reducible refine' o_slL ?h1 ?_); (case h1 => walk_at "sq")) | ((with_reducible refine' k_dget ?h1 ?h2 ?_); (case h1 => walk_at "hl"); (case h2 => with_reducible assumption)) | with_reducible apply e_dget
  | with_reducible apply s_dput | with_reducible apply e_makeK | with_reducible apply g_cons | with_reducible apply g_nil | with_reducible apply c_ab | with_reducible apply c_in
  | with_reducible apply c_mx | with_reducible apply c_mn | with_reducible apply a1 | with_reducible apply a2 | with_reducible apply a3 | with_reducible apply a4
  | with_reducible apply a5 | with_reducible apply a6 | with_reducible apply a0 | with_reducible apply t_tru | with_reducible apply t_yes | ((with_reducible refine' k_truL ?h1 ?_); (case h1 => walk_at "sq")) | with_reducible refine d_nx ?_ | with_reducible refine d_rt ?_ | with_reducible refine d_bk ?_
  | with_reducible refine d_ct ?_))
local macro_rules | `(tactic| walk_at "r") => `(tactic| (repeat walk_at "r1"))
section
variable {P : Program} {w : World} {K : PySem.W.Frag} {mg : Str → Option Value} {base : Heap} {a : Ads}
/-! ### the script's numbers, drawn -/
def StAt (H : Hp) (st sl : Addr) : Prop := ∃ (ns : List Int) (m : Int), H st = some (.lst [.ref sl, .int m]) ∧ H sl = some (.lst (ns.map V.int)) ∧ ns.length ≤ 63 ∧ (∀ z ∈ ns, 0 ≤ z) ∧ 0 ≤ m ∧ m ≤ 2147483647
theorem StAt.ne {H : Hp} {st sl : Addr} (s : StAt H st sl) : st ≠ sl := by
  obtain ⟨ns, m, h1, h2, _⟩ := s
  refine ne_of h1 h2 fun z => ?_
  have z2 := HO.lst.inj z
  cases ns with
  | nil => cases z2
  | cons y ys => cases (List.cons.inj z2).1
theorem StAt.fp {H H1 : Hp} {st sl : Addr} {fp : List Addr} (s : StAt H st sl) (f : Fp fp H H1) (n1 : st ∉ fp) (n2 : sl ∉ fp) : StAt H1 st sl := by
  obtain ⟨ns, m, h1, h2, r⟩ := s
  exact ⟨ns, m, f _ _ h1 n1, f _ _ h2 n2, r⟩
theorem StAt.inn {H : Hp} {st sl : Addr} (s : StAt H st sl) : Inn H [st, sl] := by
  obtain ⟨ns, m, h1, h2, r⟩ := s
  exact .cons h1 (.cons h2 .nil)
theorem StAt.nd {H : Hp} {st sl : Addr} (s : StAt H st sl) : [st, sl].Nodup := by simp [s.ne]
/-- [draw for k in range(n)] -/
theorem k_lcD {σ : L2.St} {H : Hp} {Q : VK} {g : TG} {te : TE} {vs : List Nat} {n : Int} {st sl : Addr} (P : V → Prop) (h1 : 0 ≤ n) (h2 : n < 100000) (S : StAt H st sl)
    (hs : ∀ (i : Nat) (H' : Hp) (R : VK), (i : Int) < n → StAt H' st sl → Fp [st, sl] H H' → (∀ y H4, P y → StAt H4 st sl → Fp [st, sl] H' H4 → R y H4) →
      g (.int (i : Nat)) (wipe σ vs) H' fun σ2 H2 => wipe σ2 vs = wipe σ vs ∧ te σ2 H2 R)
    (q : ∀ E acc H', H E = none → acc.length = n.toNat → H' E = some (.lst acc) → (∀ y ∈ acc, P y) → StAt H' st sl → Fp [st, sl] H H' → st ≠ E → sl ≠ E → Q (.ref E) H') : kLcR g te vs σ Q (.int n) H := by
  obtain ⟨_, _, z1, z2, _⟩ := id S
  refine k_lcS (fun E i acc H' => (∀ y ∈ acc, P y) ∧ StAt H' st sl ∧ Fp [st, sl] H H') h1 h2 (fun E hE => ⟨by simp, S.fp (Fp.new (fp := []) hE) (by simp) (by simp), Fp.new hE⟩) (fun E i acc H' R hE hi hl e ⟨j1, j2, j3⟩ k => hs i H' R hi j2 j3 fun y H4 py S4 f4 => ?_) fun E acc H' hE hl e ⟨j1, j2, j3⟩ => q E acc H' hE hl e j1 j2 j3 (ne_of_none z1 hE) (ne_of_none z2 hE)
  have n1 := ne_of_none z1 hE
  have n2 := ne_of_none z2 hE
  refine k y H4 (f4 _ _ e (by simp [n1.symm, n2.symm])) ⟨fun x hx => ?_, S4.fp (Fp.at_ (fp := [E]) (by simp)) (by simp [n1]) (by simp [n2]), Fp.drop (fp := [E, st, sl]) (((j3.trans f4).mono (fun z hz => List.mem_cons_of_mem _ hz)).trans (Fp.at_ (by simp))) fun z hz => ?_⟩
  · rcases List.mem_append.mp hx with hx | hx
    · exact j1 x hx
    · rw [List.mem_singleton.mp hx]; exact py
  · rcases List.mem_cons.mp hz with rfl | hz
    · exact .inr hE
    · exact .inl hz
/-- [e for k in range(n) if draw] -/
theorem k_lcDF {σ : L2.St} {H : Hp} {Q : VK} {g : TG} {tt : TT} {te : TE} {vs : List Nat} {n : Int} {st sl : Addr} (P : V → Prop) (h1 : 0 ≤ n) (h2 : n < 100000) (S : StAt H st sl)
    (hs : ∀ (i : Nat) (H' : Hp) (R : VK) (N : Hp → Prop), (i : Int) < n → StAt H' st sl → Fp [st, sl] H H' → (∀ y H4, P y → StAt H4 st sl → Fp [st, sl] H' H4 → R y H4) → (∀ H4, StAt H4 st sl → Fp [st, sl] H' H4 → N H4) →
      g (.int (i : Nat)) (wipe σ vs) H' fun σ2 H2 => wipe σ2 vs = wipe σ vs ∧ tt σ2 H2 fun k H3 => if k = true then te σ2 H3 R else N H3)
    (q : ∀ E acc H', H E = none → acc.length ≤ n.toNat → H' E = some (.lst acc) → (∀ y ∈ acc, P y) → StAt H' st sl → Fp [st, sl] H H' → st ≠ E → sl ≠ E → Q (.ref E) H') : kLcF g tt te vs σ Q (.int n) H := by
  obtain ⟨_, _, z1, z2, _⟩ := id S
  refine k_lcSF (fun E i acc H' => (∀ y ∈ acc, P y) ∧ StAt H' st sl ∧ Fp [st, sl] H H') h1 h2 (fun E hE => ⟨by simp, S.fp (Fp.new (fp := []) hE) (by simp) (by simp), Fp.new hE⟩) (fun E i acc H' R N hE hi hl e ⟨j1, j2, j3⟩ k kn => ?_) fun E acc H' hE hl e ⟨j1, j2, j3⟩ => q E acc H' hE hl e j1 j2 j3 (ne_of_none z1 hE) (ne_of_none z2 hE)
  have n1 := ne_of_none z1 hE
  have n2 := ne_of_none z2 hE
  refine hs i H' R N hi j2 j3 (fun y H4 py S4 f4 => ?_) fun H4 S4 f4 => kn H4 (f4 _ _ e (by simp [n1.symm, n2.symm])) ⟨j1, S4, j3.trans f4⟩
  refine k y H4 (f4 _ _ e (by simp [n1.symm, n2.symm])) ⟨fun x hx => ?_, S4.fp (Fp.at_ (fp := [E]) (by simp)) (by simp [n1]) (by simp [n2]), Fp.drop (fp := [E, st, sl]) (((j3.trans f4).mono (fun z hz => List.mem_cons_of_mem _ hz)).trans (Fp.at_ (by simp))) fun z hz => ?_⟩
  · rcases List.mem_append.mp hx with hx | hx
    · exact j1 x hx
    · rw [List.mem_singleton.mp hx]; exact py
  · rcases List.mem_cons.mp hz with rfl | hz
    · exact .inr hE
    · exact .inl hz
def sp_law_state (K : PySem.W.Frag) (a : Ads) : Sp := A1 fun v H Q _ => ∃ (b : Addr) (ns : List Int), v = .ref b ∧ SqL K H b (ns.map V.int) ∧ ns.length ≤ 63 ∧
  ∀ st sl H1, H st = none → H sl = none → StAt H1 st sl → Fp [] H H1 → Q (.ref st) H1
def sp_law_draw (K : PySem.W.Frag) (a : Ads) : Sp := A2 fun s m H Q _ => ∃ (st sl : Addr) (k : Int), s = .ref st ∧ m = .int k ∧ StAt H st sl ∧ 1 ≤ k ∧ k < 1073741824 ∧
  ∀ r H1, 0 ≤ r → r < k → StAt H1 st sl → Fp [st, sl] H H1 → Q (.int r) H1
theorem ok_law_state (T : Txt P w K mg base a) : FnOk P w K mg base (L2.CX P w) 1 a.f_law_state a.fd_law_state ["script"] (sp_law_state K a) := by
  refine T.F_law_state.okX sc_law_state (fun vs H Q E h => A1.len h) (fun cdv A outer s H vs Q E hr h => ?_)
  have hu := hu_of hr
  obtain ⟨v_script, rfl, h⟩ := h
  refine ⟨_, (pss_cons (ps_set (i := 1) sc_law_state.nd rfl (by first | exact Or.inl rfl | exact Or.inr rfl) pe_int)
    (pss_cons (ps_for (passes_of rfl) rfl (pi_list (pv 0)) (pg_name (i := 2) sc_law_state.nd rfl (by first | exact Or.inl rfl | exact Or.inr rfl)) (pss_one (ps_set (i := 1) sc_law_state.nd rfl (by first | exact Or.inl rfl | exact Or.inr rfl) (pe_op op_mod (pe_callTy call_in (by rfl) T.g_int (by decide +kernel) (pa_cons (pe_op op_add (pe_op op_mul (pv 1) pe_int) (pv 2)) pa_nil)) pe_int))))
    (pss_one (ps_ret (pe_lst (pa_cons (pe_lc (own := [("cell", 2)]) (g := (gName 2)) (tt := tYes) (te := (tCB rAb (tCons (tVar 2) tNil))) rfl sc_law_state.nd (pi_list (pv 0)) (blkOk_by (N := ["script", "seed", "cell"]) (sc := defScope s_law_state) (own := [("cell", 2)]) (by decide +kernel)) (fun _ _ _ _ _ => by exact (pg_name (i := 2) sc_law_state.nd rfl (by first | exact Or.inl rfl | exact Or.inr rfl))) (fun _ _ _ _ _ => by exact pts_nil) (fun _ _ _ _ _ => by exact (pe_callB call_ab (by rfl) T.g_abs (by decide +kernel) (pa_cons (pv 2) pa_nil)))) (pa_cons (pe_op op_add (pv 1) pe_int) pa_nil))))))), ?_⟩
  obtain ⟨b, ns, rfl, hS, hn, k⟩ := h
  walk_at "r"
  refine f_list (xs := ns.map V.int) (fun i σ H1 => ∃ (sd : Int) (u : Option V), σ = [some (.ref b), some (.int sd), u] ∧ H1 = H ∧ 0 ≤ sd ∧ sd < 1000003) rfl hS ⟨7, none, rfl, rfl, by omega, by omega⟩ (fun i σ H1 _ ⟨_, _, _, e, _⟩ => e ▸ hS) ?_ ?_
  · rintro i x σ H1 hx ⟨sd, u, rfl, rfl, h0, h1⟩
    obtain ⟨z, rfl⟩ : ∃ z, x = V.int z := by
      obtain ⟨z, _, e⟩ := List.mem_map.mp (List.mem_of_getElem? hx)
      exact ⟨z, e.symm⟩
    walk_at "r"
    exact ⟨_, _, rfl, rfl, Int.emod_nonneg _ (by omega), Int.emod_lt_of_pos _ (by omega)⟩
  · rintro σ H1 ⟨sd, u, rfl, rfl, h0, h1⟩
    walk_at "r"
    refine lc_pure (xs := ns.map V.int) (ys := (ns.map fun z => if z < 0 then -z else z).map V.int) rfl hS (by simp) (by simp <;> omega) (fun E i x y H2 R hE hx hy e hR => ?_) fun E hE => ?_
    · obtain ⟨z, hz, rfl⟩ : ∃ z, ns[i]? = some z ∧ V.int z = x := by rw [List.getElem?_map] at hx; simpa using hx
      have hy' : V.int (if z < 0 then -z else z) = y := by simpa [List.getElem?_map, hz] using hy
      refine ⟨rfl, ?_⟩
      walk_at "r"
      rw [hy']
      exact hR
    · walk_at "r"
      refine ⟨sz (by simp), fun st hst => ?_⟩
      have nE : st ≠ E := ne_of_none upd_same hst |>.symm
      have nst : H1 st = none := by rw [upd_ne nE] at hst; exact hst
      refine k st E _ nst hE ⟨_, _, upd_same, by rw [upd_ne nE.symm, upd_same], by simpa using hn, fun z hz => ?_, by omega, by omega⟩ ((Fp.new hE).trans (Fp.new hst))
      obtain ⟨y, _, rfl⟩ := List.mem_map.mp hz
      split <;> omega
theorem ok_law_draw (T : Txt P w K mg base a) : FnOk P w K mg base (L2.CX P w) 1 a.f_law_draw a.fd_law_draw ["state", "many"] (sp_law_draw K a) := by
  refine T.F_law_draw.okX sc_law_draw (fun vs H Q E h => A2.len h) (fun cdv A outer s H vs Q E hr h => ?_)
  have hu := hu_of hr
  obtain ⟨v_state, v_many, rfl, h⟩ := h
  refine ⟨_, (pss_cons (ps_set (i := 2) sc_law_draw.nd rfl (by first | exact Or.inl rfl | exact Or.inr rfl) (pe_ix ix_list (pv 0) pe_int (fun _ _ => rfl)))
    (pss_cons (ps_while (passes_of rfl) (PW.pt (pw_and (pt_cmpR op_gt (pe_callB call_ln (by rfl) T.g_len (by decide +kernel) (pa_cons (pv 2) pa_nil)) pe_int (nomark _)) (pw_and1 (pt_cmpR op_eq (pe_ix ix_list (pv 2) pe_int (fun _ _ => rfl)) pe_int (nomark _))))) (pss_one (ps_expr (pe_bm PySem.F.plainAttrs_list PySem.F.slot_list_pop PySem.F.type_list_pop mt_popAt (pv 2) (pa_cons pe_int pa_nil)))))
    (pss_cons (ps_if (pt_cmpR op_gt (pe_callB call_ln (by rfl) T.g_len (by decide +kernel) (pa_cons (pv 2) pa_nil)) pe_int (nomark _)) (pss_cons (ps_set (i := 3) sc_law_draw.nd rfl (by first | exact Or.inl rfl | exact Or.inr rfl) (pe_ix ix_list (pv 2) pe_int (fun _ _ => rfl)))
    (pss_cons (ps_asg (pe_op op_fdiv (pv 3) (pv 1)) (pg_sub (pv 2) pe_int set_list))
    (pss_one (ps_ret (pe_op op_mod (pe_callTy call_in (by rfl) T.g_int (by decide +kernel) (pa_cons (pv 3) pa_nil)) (pv 1)))))) pss_nil)
    (pss_cons (ps_set (i := 4) sc_law_draw.nd rfl (by first | exact Or.inl rfl | exact Or.inr rfl) (pe_op op_mod (pe_callTy call_in (by rfl) T.g_int (by decide +kernel) (pa_cons (pe_op op_add (pe_op op_mul (pe_ix ix_list (pv 0) pe_int (fun _ _ => rfl)) pe_int) pe_int) pa_nil)) pe_int))
    (pss_cons (ps_asg (pv 4) (pg_sub (pv 0) pe_int set_list))
    (pss_one (ps_ret (pe_op op_mod (pe_callTy call_in (by rfl) T.g_int (by decide +kernel) (pa_cons (pe_op op_fdiv (pv 4) pe_int) pa_nil)) (pv 1))))))))), ?_⟩
  obtain ⟨st, sl, kk, rfl, rfl, S, k1, k2, k⟩ := h
  obtain ⟨ns, m, hst, hsl, hn, hpos, m0, m1⟩ := id S
  have nss := S.ne
  walk_at "r"
  refine w_by (fun q σ H1 => ∃ (ns1 : List Int), σ = [some (.ref st), some (.int kk), some (.ref sl), none, none] ∧ q = ns1.length ∧ H1 st = some (.lst [.ref sl, .int m]) ∧ H1 sl = some (.lst (ns1.map V.int)) ∧ ns1.length ≤ 63 ∧ (∀ z ∈ ns1, 0 ≤ z) ∧ Fp [st, sl] H H1) ns.length ⟨ns, rfl, rfl, hst, hsl, hn, hpos, Fp.refl _ _⟩ ?_
  rintro q σ H1 ⟨ns1, rfl, rfl, g1, g2, gn, gp, gf⟩
  walk_at "r"
  rw [List.length_map]
  cases ns1 with
  | nil =>
    refine if_dF (by simp) ?_
    refine iteF ?_
    walk_at "r"
    refine if_dF (by simp) ?_
    walk_at "r"
    refine c_setL (j := 1) g1 rfl (by simp) ?_
    walk_at "r"
    exact k _ _ (Int.emod_nonneg _ (by omega)) (Int.emod_lt_of_pos _ (by omega)) ⟨[], _, upd_same, by rw [upd_ne nss.symm]; exact g2, gn, gp, Int.emod_nonneg _ (by omega), by have := Int.emod_lt_of_pos (m * 48271 + 12345) (show (0 : Int) < 2147483647 by omega); omega⟩ (gf.trans (Fp.at_ (by simp)))
  | cons z zs =>
    rw [List.map_cons] at g2
    have gz : zs.length ≤ 62 := by simpa using gn
    have gl : ((zs.map V.int).length) < 100000 := by rw [List.length_map]; omega
    refine if_dT (by simp <;> omega) ?_
    walk_at "r"
    refine if_d (fun e => ?_) (fun e => ?_)
    · refine ⟨_, fun _ _ h => h, ?_⟩
      walk_at "r"
      exact ⟨zs.length, by simp, zs, rfl, rfl, by rw [upd_ne nss]; exact g1, upd_same, by omega, fun y hy => gp y (List.mem_cons_of_mem _ hy), gf.trans (Fp.at_ (by simp))⟩
    · walk_at "r"
      refine if_dT (by simp <;> omega) ?_
      walk_at "r"
      refine c_setL (j := 0) g2 rfl (by simp) ?_
      walk_at "r"
      have hz := gp z List.mem_cons_self
      exact k _ _ (Int.emod_nonneg _ (by omega)) (Int.emod_lt_of_pos _ (by omega)) ⟨z / kk :: zs, m, by rw [upd_ne nss]; exact g1, upd_same, gn, fun y hy => by
        rcases List.mem_cons.mp hy with rfl | hy
        · exact Int.ediv_nonneg hz (by omega)
        · exact gp y (List.mem_cons_of_mem _ hy), m0, m1⟩ (gf.trans (Fp.at_ (by simp)))
/-! ### one of a row of numbers, drawn -/
def sp_law_pick (K : PySem.W.Frag) (a : Ads) : Sp := A2 fun s r H Q _ => ∃ (st sl l : Addr) (xs : List Int), s = .ref st ∧ r = .ref l ∧ StAt H st sl ∧ H l = some (.lst (xs.map V.int)) ∧ st ≠ l ∧ sl ≠ l ∧ 1 ≤ xs.length ∧ xs.length ≤ 1000 ∧
  ∀ x H1, x ∈ xs → StAt H1 st sl → Fp [st, sl] H H1 → Q (.int x) H1
theorem ok_law_pick (T : Txt P w K mg base a) : FnOk P w K mg base (L2.CX P w) 2 a.f_law_pick a.fd_law_pick ["state", "row"] (sp_law_pick K a) := by
  have G_law_draw := ok_law_draw T
  refine T.F_law_pick.okX sc_law_pick (fun vs H Q E h => A2.len h) (fun cdv A outer s H vs Q E hr h => ?_)
  have hu := hu_of hr
  obtain ⟨v_state, v_row, rfl, h⟩ := h
  refine ⟨_, (pss_one (ps_ret (pe_ix ix_list (pv 1) (pe_callS G_law_draw (hr.mono (by decide)) rfl T.g_law_draw T.F_law_draw.kp T.b_law_draw (fun σ => passAt (takes_of rfl rfl rfl rfl) σ) (pa_cons (pv 0) (pa_cons (pe_callB call_ln (by rfl) T.g_len (by decide +kernel) (pa_cons (pv 1) pa_nil)) pa_nil))) (fun _ _ => rfl)))), ?_⟩
  obtain ⟨st, sl, l, xs, rfl, rfl, S, hl, n1, n2, h1, h2, k⟩ := h
  walk_at "r"
  refine a2 ⟨st, sl, _, rfl, rfl, S, by rw [List.length_map]; omega, by rw [List.length_map]; omega, fun r H1 r0 r1 S1 f1 => ?_⟩
  rw [List.length_map] at r1
  obtain ⟨n, rfl⟩ : ∃ n : Nat, r = n := ⟨r.toNat, by omega⟩
  have hn : n < xs.length := by omega
  have e1 : xs[n]? = some xs[n] := List.getElem?_eq_getElem hn
  refine o_ixL (Or.inl (Or.inl (f1 _ _ hl (by simp [n1.symm, n2.symm])))) (atI_nat (by rw [List.getElem?_map, e1]; rfl)) ?_
  walk_at "r"
  exact k _ H1 (List.mem_of_getElem? e1) S1 f1
/-! ### items: bytes and marks -/
inductive It where
  | b (z : Int)
  | m (n : Int)
def isB : It → Bool
  | .b _ => true
  | .m _ => false
def ItV (H : Hp) (v : V) : It → Prop
  | .b z => v = .int z
  | .m n => ∃ t, v = .ref t ∧ H t = some (.tup [.str "lost", .int n])
/-- no tuple stands there -/
def NoT (H : Hp) (fp : List Addr) : Prop := ∀ a ∈ fp, ∀ xs, H a ≠ some (.tup xs)
theorem NoT.nil {H : Hp} : NoT H [] := fun _ h => by cases h
theorem NoT.cons {H : Hp} {a : Addr} {fp : List Addr} {xs : List V} (h : H a = some (.lst xs)) (n : NoT H fp) : NoT H (a :: fp) := fun y hy zs e => by
  rcases List.mem_cons.mp hy with rfl | hy
  · rw [h] at e; cases e
  · exact n y hy zs e
theorem NoT.free {H : Hp} {a : Addr} {fp : List Addr} (h : H a = none) (n : NoT H fp) : NoT H (a :: fp) := fun y hy zs e => by
  rcases List.mem_cons.mp hy with rfl | hy
  · rw [h] at e; cases e
  · exact n y hy zs e
theorem NoT.ins {H : Hp} {a C d : Addr} {fp : List Addr} {fs : List (Str × V)} (h : H a = some (.ins C d fs)) (n : NoT H fp) : NoT H (a :: fp) := fun y hy zs e => by
  rcases List.mem_cons.mp hy with rfl | hy
  · rw [h] at e; cases e
  · exact n y hy zs e
theorem NoT.app {H : Hp} {fp fq : List Addr} (n : NoT H fp) (m : NoT H fq) : NoT H (fp ++ fq) := fun y hy => (List.mem_append.mp hy).elim (n y) (m y)
theorem ItV.fp {H H1 : Hp} {fp : List Addr} {v : V} {x : It} (h : ItV H v x) (f : Fp fp H H1) (n : NoT H fp) : ItV H1 v x := by
  cases x with
  | b z => exact h
  | m k =>
    obtain ⟨t, e, g⟩ := h
    exact ⟨t, e, f _ _ g fun z => n t z _ g⟩
/-- a row of items -/
def Its (H : Hp) (vs : List V) (xs : List It) : Prop := vs.length = xs.length ∧ ∀ (i : Nat) (v : V) (x : It), vs[i]? = some v → xs[i]? = some x → ItV H v x
theorem Its.nil {H : Hp} : Its H [] [] := ⟨rfl, fun i v x h => by simp at h⟩
theorem Its.fp {H H1 : Hp} {fp : List Addr} {vs : List V} {xs : List It} (h : Its H vs xs) (f : Fp fp H H1) (n : NoT H fp) : Its H1 vs xs := ⟨h.1, fun i v x hv hx => (h.2 i v x hv hx).fp f n⟩
theorem Its.app {H : Hp} {vs : List V} {xs : List It} {v : V} {x : It} (h : Its H vs xs) (hx : ItV H v x) : Its H (vs ++ [v]) (xs ++ [x]) := by
  refine ⟨by rw [List.length_append, List.length_append, h.1]; rfl, fun i w y hw hy => ?_⟩
  by_cases c : i < vs.length
  · rw [List.getElem?_append_left c] at hw
    rw [List.getElem?_append_left (by rw [← h.1]; exact c)] at hy
    exact h.2 i w y hw hy
  · have e : i = vs.length := by
      have := (List.getElem?_eq_some_iff.mp hw).1
      rw [List.length_append, List.length_singleton] at this
      omega
    subst e
    rw [List.getElem?_concat_length] at hw
    rw [h.1, List.getElem?_concat_length] at hy
    rw [← Option.some.inj hw, ← Option.some.inj hy]
    exact hx
theorem Its.snoc {H : Hp} {vs : List V} {xs : List It} {x : It} (h : Its H vs (xs ++ [x])) : ∃ ws v, vs = ws ++ [v] ∧ Its H ws xs ∧ ItV H v x := by
  have hl := h.1
  rw [List.length_append, List.length_singleton] at hl
  have hne : vs ≠ [] := fun e => by rw [e] at hl; simp at hl
  obtain ⟨ws, v, rfl⟩ : ∃ ws v, vs = ws ++ [v] := ⟨vs.dropLast, vs.getLast hne, (List.dropLast_concat_getLast hne).symm⟩
  rw [List.length_append, List.length_singleton] at hl
  have hl2 : ws.length = xs.length := by omega
  refine ⟨ws, v, rfl, ⟨hl2, fun i w y hw hy => ?_⟩, ?_⟩
  · have hi := (List.getElem?_eq_some_iff.mp hw).1
    exact h.2 i w y (by rw [List.getElem?_append_left hi]; exact hw) (by rw [List.getElem?_append_left (by omega)]; exact hy)
  · exact h.2 ws.length v x (by rw [List.getElem?_concat_length]) (by rw [hl2, List.getElem?_concat_length])
theorem Its.cons {H : Hp} {vs : List V} {xs : List It} {x : It} (h : Its H vs (x :: xs)) : ∃ v ws, vs = v :: ws ∧ Its H ws xs ∧ ItV H v x := by
  cases vs with
  | nil => cases h.1
  | cons v ws => exact ⟨v, ws, rfl, ⟨by simpa using h.1, fun i w y hw hy => h.2 (i + 1) w y hw hy⟩, h.2 0 v x rfl rfl⟩
/-- the number of the bytes among them -/
def bys (xs : List It) : Nat := ((List.range xs.length).filter fun i => (xs[i]?).elim false isB).length
def byF (vs : List V) (xs : List It) (i : Nat) : Option V := if (xs[i]?).elim false isB = true then vs[i]? else none
theorem byF_len {vs : List V} {xs : List It} (h : vs.length = xs.length) : ((List.range vs.length).filterMap (byF vs xs)).length = bys xs := by
  unfold bys
  rw [h]
  refine fm_len fun i hi => ?_
  have hi2 : i < vs.length := by rw [h]; exact List.mem_range.mp hi
  unfold byF
  cases (xs[i]?).elim false isB with
  | true => rw [if_pos rfl, List.getElem?_eq_getElem hi2]; rfl
  | false => rfl
def sp_lost_mark (K : PySem.W.Frag) (a : Ads) : Sp := A1 fun v H Q _ => ∃ n : Int, v = .int n ∧ ∀ t H1, H t = none → H1 t = some (.tup [.str "lost", .int n]) → Fp [] H H1 → Q (.ref t) H1
def sp_is_mark (K : PySem.W.Frag) (a : Ads) : Sp := A1 fun v H Q _ => ∃ x : It, ItV H v x ∧ Q (.bl (!isB x)) H
def sp_lost_by (K : PySem.W.Frag) (a : Ads) : Sp := A1 fun v H Q _ => ∃ n : Int, ItV H v (.m n) ∧ Q (.int n) H
def sp_joined (K : PySem.W.Frag) (a : Ads) : Sp := A2 fun v u H Q _ => ∃ n k : Int, ItV H v (.m n) ∧ ItV H u (.m k) ∧ ∀ t H1, H t = none → H1 t = some (.tup [.str "lost", .int (n + k)]) → Fp [] H H1 → Q (.ref t) H1
def sp_bytes_among (K : PySem.W.Frag) (a : Ads) : Sp := A1 fun v H Q _ => ∃ (p : Addr) (vs : List V) (xs : List It), v = .ref p ∧ H p = some (.lst vs) ∧ Its H vs xs ∧ xs.length < 100000 ∧ ∀ H1, Fp [] H H1 → Q (.int (bys xs)) H1
theorem ok_lost_mark (T : Txt P w K mg base a) : FnOk P w K mg base (L2.CX P w) 1 a.f_lost_mark a.fd_lost_mark ["many"] (sp_lost_mark K a) := by
  refine T.F_lost_mark.okX sc_lost_mark (fun vs H Q E h => A1.len h) (fun cdv A outer s H vs Q E hr h => ?_)
  have hu := hu_of hr
  obtain ⟨v_many, rfl, h⟩ := h
  refine ⟨_, (pss_one (ps_ret (pe_tup (pa_cons pe_str (pa_cons (pv 0) pa_nil))))), ?_⟩
  obtain ⟨n, rfl, k⟩ := h
  walk_at "r"
  refine ⟨sz (by simp), fun t ht => ?_⟩
  walk_at "r"
  exact k t _ ht upd_same (Fp.new ht)
theorem ok_is_mark (T : Txt P w K mg base a) : FnOk P w K mg base (L2.CX P w) 1 a.f_is_mark a.fd_is_mark ["item"] (sp_is_mark K a) := by
  refine T.F_is_mark.okX sc_is_mark (fun vs H Q E h => A1.len h) (fun cdv A outer s H vs Q E hr h => ?_)
  have hu := hu_of hr
  obtain ⟨v_item, rfl, h⟩ := h
  refine ⟨_, (pss_one (ps_ret (pe_callB call_isi (by rfl) T.g_isinstance (by decide +kernel) (pa_cons (pv 0) (pa_cons (pe_bltn (v := .ty "tuple") rfl T.g_tuple (by decide +kernel) rfl) pa_nil))))), ?_⟩
  obtain ⟨x, hx, k⟩ := h
  walk_at "r"
  cases x with
  | b z =>
    obtain rfl : v_item = .int z := hx
    walk_at "r"
    exact k
  | m n =>
    obtain ⟨t, rfl, g⟩ := hx
    walk_at "r"
    exact k
theorem ok_lost_by (T : Txt P w K mg base a) : FnOk P w K mg base (L2.CX P w) 1 a.f_lost_by a.fd_lost_by ["mark"] (sp_lost_by K a) := by
  refine T.F_lost_by.okX sc_lost_by (fun vs H Q E h => A1.len h) (fun cdv A outer s H vs Q E hr h => ?_)
  have hu := hu_of hr
  obtain ⟨v_mark, rfl, h⟩ := h
  refine ⟨_, (pss_one (ps_ret (pe_ix ix_tup (pv 0) pe_int (fun _ _ => rfl)))), ?_⟩
  obtain ⟨n, ⟨t, rfl, g⟩, k⟩ := h
  walk_at "r"
  refine o_ixT (Or.inl (Or.inl g)) (show atI [V.str "lost", V.int n] ((1 : Nat) : Int) = some (.int n) from atI_nat rfl) ?_
  walk_at "r"
  exact k
theorem ok_joined (T : Txt P w K mg base a) : FnOk P w K mg base (L2.CX P w) 2 a.f_joined a.fd_joined ["mark", "other"] (sp_joined K a) := by
  have G_lost_mark := ok_lost_mark T
  have G_lost_by := ok_lost_by T
  refine T.F_joined.okX sc_joined (fun vs H Q E h => A2.len h) (fun cdv A outer s H vs Q E hr h => ?_)
  have hu := hu_of hr
  obtain ⟨v_mark, v_other, rfl, h⟩ := h
  refine ⟨_, (pss_one (ps_ret (pe_callS G_lost_mark (hr.mono (by decide)) rfl T.g_lost_mark T.F_lost_mark.kp T.b_lost_mark (fun σ => passAt (takes_of rfl rfl rfl rfl) σ) (pa_cons (pe_op op_add (pe_callS G_lost_by (hr.mono (by decide)) rfl T.g_lost_by T.F_lost_by.kp T.b_lost_by (fun σ => passAt (takes_of rfl rfl rfl rfl) σ) (pa_cons (pv 0) pa_nil)) (pe_callS G_lost_by (hr.mono (by decide)) rfl T.g_lost_by T.F_lost_by.kp T.b_lost_by (fun σ => passAt (takes_of rfl rfl rfl rfl) σ) (pa_cons (pv 1) pa_nil))) pa_nil)))), ?_⟩
  obtain ⟨n, k2, h1, h2, k⟩ := h
  walk_at "r"
  refine a1 ⟨n, h1, ?_⟩
  walk_at "r"
  refine a1 ⟨k2, h2, ?_⟩
  walk_at "r"
  exact a1 ⟨n + k2, rfl, fun t H1 ht g f => k t H1 ht g f⟩
theorem ok_bytes_among (T : Txt P w K mg base a) : FnOk P w K mg base (L2.CX P w) 2 a.f_bytes_among a.fd_bytes_among ["items"] (sp_bytes_among K a) := by
  have G_is_mark := ok_is_mark T
  refine T.F_bytes_among.okX sc_bytes_among (fun vs H Q E h => A1.len h) (fun cdv A outer s H vs Q E hr h => ?_)
  have hu := hu_of hr
  obtain ⟨v_items, rfl, h⟩ := h
  refine ⟨_, (pss_one (ps_ret (pe_callB call_ln (by rfl) T.g_len (by decide +kernel) (pa_cons (pe_lc (own := [("item", 1)]) (g := (gName 1)) (tt := (tNot (tB (tCallS (sp_is_mark K a) (WE (fun _ _ _ _ => False)) (tCons (tVar 1) tNil))))) (te := (tVar 1)) rfl sc_bytes_among.nd (pi_list (pv 0)) (blkOk_by (N := ["items", "item"]) (sc := defScope s_bytes_among) (own := [("item", 1)]) (by decide +kernel)) (fun _ _ _ _ _ => by exact (pg_name (i := 1) sc_bytes_among.nd rfl (by first | exact Or.inl rfl | exact Or.inr rfl))) (fun _ _ _ _ _ => by exact (pts_one (pt_not (pt_val (pe_callS G_is_mark (hr.mono (by decide)) rfl T.g_is_mark T.F_is_mark.kp T.b_is_mark (fun σ => passNo) (pa_cons (pv 1) pa_nil)))))) (fun _ _ _ _ _ => by exact (pv 1))) pa_nil)))), ?_⟩
  obtain ⟨p, vs, xs, rfl, hp, hi, hl, k⟩ := h
  have hlen := hi.1
  walk_at "r"
  refine lc_filtN (xs := vs) (byF vs xs) rfl (Or.inl (Or.inl hp)) (by omega) (fun E2 i x H' R N hE hx hacc F kR kN => ?_) fun E2 H2 hE hacc F => ?_
  · have hi2 : i < vs.length := (List.getElem?_eq_some_iff.mp hx).1
    have ex : xs[i]? = some xs[i] := List.getElem?_eq_getElem (by omega)
    have hv := (hi.2 i x _ hx ex).fp F NoT.nil
    refine ⟨rfl, ?_⟩
    walk_at "r"
    refine a1 ⟨_, hv, ?_⟩
    walk_at "r"
    cases hb : isB xs[i] with
    | true =>
      refine iteT ?_
      walk_at "r"
      exact kR _ _ (by unfold byF; rw [ex, Option.elim, hb, if_pos rfl, hx]) (Fp.refl _ _)
    | false =>
      refine iteF ?_
      exact kN (by unfold byF; rw [ex, Option.elim, hb, if_neg Bool.false_ne_true]) _ (Fp.refl _ _)
  · walk_at "r"
    rw [byF_len hlen]
    exact k _ F
/-! ### receive queues -/
def its (R : List (It × Int)) : List It := R.map (·.1)
def tks (R : List (It × Int)) : List Int := R.map (·.2)
structure RqAt (C : Addr) (H : Hp) (p il tl : Addr) (cap : Int) (R : List (It × Int)) : Prop where
  ob : ∃ dx, H p = some (.ins C dx (F_ReceiveQueue (.int cap) (.ref il) (.ref tl)))
  is : ∃ vs, H il = some (.lst vs) ∧ Its H vs (its R)
  ts : H tl = some (.lst ((tks R).map V.int))
  ne : il ≠ tl
theorem RqAt.np {C : Addr} {H : Hp} {p il tl l : Addr} {cap : Int} {R : List (It × Int)} {vs : List V} (s : RqAt C H p il tl cap R) (h : H l = some (.lst vs)) : p ≠ l := by
  obtain ⟨_, z⟩ := s.ob
  exact ne_of z h (fun z => by cases z)
theorem RqAt.inn {C : Addr} {H : Hp} {p il tl : Addr} {cap : Int} {R : List (It × Int)} (s : RqAt C H p il tl cap R) : Inn H [p, il, tl] := by
  obtain ⟨_, z⟩ := s.ob
  obtain ⟨_, z1, _⟩ := s.is
  exact .cons z (.cons z1 (.cons s.ts .nil))
theorem RqAt.fp {C : Addr} {H H1 : Hp} {p il tl : Addr} {cap : Int} {R : List (It × Int)} {ft : List Addr} (s : RqAt C H p il tl cap R) (f : Fp ft H H1) (n : NoT H ft) (n0 : p ∉ ft) (n1 : il ∉ ft) (n2 : tl ∉ ft) : RqAt C H1 p il tl cap R := by
  obtain ⟨⟨dx, z⟩, ⟨vs, z1, z2⟩, z3, z4⟩ := s
  exact ⟨⟨dx, f _ _ z n0⟩, ⟨vs, f _ _ z1 n1, z2.fp f n⟩, f _ _ z3 n2, z4⟩
theorem RqAt.fp0 {C : Addr} {H H1 : Hp} {p il tl : Addr} {cap : Int} {R : List (It × Int)} (s : RqAt C H p il tl cap R) (f : Fp [] H H1) : RqAt C H1 p il tl cap R := s.fp f NoT.nil (by simp) (by simp) (by simp)
theorem RqAt.not {C : Addr} {H : Hp} {p il tl : Addr} {cap : Int} {R : List (It × Int)} (s : RqAt C H p il tl cap R) : NoT H [il, tl] := by
  obtain ⟨_, z1, _⟩ := s.is
  exact .cons z1 (.cons s.ts .nil)
/-- the row after one more byte is lost -/
def losT (R : List (It × Int)) (t : Int) : List (It × Int) := match R.getLast? with
  | some (.m n, t0) => R.dropLast ++ [(.m (n + 1), t0)]
  | _ => R ++ [(.m 1, t)]
def arrT (R : List (It × Int)) (cap z t : Int) : List (It × Int) := if (bys (its R) : Int) < cap then R ++ [(.b z, t)] else losT R t
theorem losT_m {S : List (It × Int)} {n t0 t : Int} : losT (S ++ [(.m n, t0)]) t = S ++ [(.m (n + 1), t0)] := by
  unfold losT; rw [List.getLast?_concat, List.dropLast_concat]
theorem losT_b {S : List (It × Int)} {z t0 t : Int} : losT (S ++ [(.b z, t0)]) t = S ++ [(.b z, t0)] ++ [(.m 1, t)] := by
  unfold losT; rw [List.getLast?_concat]
theorem losT_n {t : Int} : losT [] t = [(.m 1, t)] := rfl
theorem snoc_cases {α : Type} (l : List α) : l = [] ∨ ∃ r x, l = r ++ [x] := by
  by_cases h : l = []
  · exact .inl h
  · exact .inr ⟨l.dropLast, l.getLast h, (List.dropLast_concat_getLast h).symm⟩
def fstK (H : Hp) (R : List (It × Int)) (Q : VK) : Prop := (R = [] → Q .non H) ∧ (∀ (x : It) (t : Int) (S : List (It × Int)) (v : V), R = (x, t) :: S → ItV H v x → Q v H)
def tckK (H : Hp) (R : List (It × Int)) (Q : VK) : Prop := (R = [] → Q .non H) ∧ (∀ (x : It) (t : Int) (S : List (It × Int)), R = (x, t) :: S → Q (.int t) H)
def sp_ReceiveQueue_init (K : PySem.W.Frag) (a : Ads) : Sp := A2 fun s v H Q E => ∃ (p dx : Addr) (cap : Int), s = .ref p ∧ v = .int cap ∧ H p = some (.ins a.C_ReceiveQueue dx []) ∧
  ∀ il tl H1, H il = none → H tl = none → il ≠ tl → RqAt a.C_ReceiveQueue H1 p il tl cap [] → Fp [p] H H1 → Q .non H1
def sp_ReceiveQueue_append (K : PySem.W.Frag) (a : Ads) : Sp := A3 fun s v u H Q E => ∃ (p il tl : Addr) (cap t : Int) (x : It) (R : List (It × Int)), s = .ref p ∧ ItV H v x ∧ u = .int t ∧ RqAt a.C_ReceiveQueue H p il tl cap R ∧ R.length < 90000 ∧
  ∀ H1, RqAt a.C_ReceiveQueue H1 p il tl cap (R ++ [(x, t)]) → Fp [il, tl] H H1 → Q .non H1
def sp_ReceiveQueue_lose (K : PySem.W.Frag) (a : Ads) : Sp := A2 fun s u H Q E => ∃ (p il tl : Addr) (cap t : Int) (R : List (It × Int)), s = .ref p ∧ u = .int t ∧ RqAt a.C_ReceiveQueue H p il tl cap R ∧ R.length < 90000 ∧
  ∀ H1, RqAt a.C_ReceiveQueue H1 p il tl cap (losT R t) → Fp [il, tl] H H1 → Q .non H1
def sp_ReceiveQueue_arrive (K : PySem.W.Frag) (a : Ads) : Sp := A3 fun s v u H Q E => ∃ (p il tl : Addr) (cap z t : Int) (R : List (It × Int)), s = .ref p ∧ v = .int z ∧ u = .int t ∧ RqAt a.C_ReceiveQueue H p il tl cap R ∧ R.length < 90000 ∧
  ∀ H1, RqAt a.C_ReceiveQueue H1 p il tl cap (arrT R cap z t) → Fp [il, tl] H H1 → Q (.bl (decide ((bys (its R) : Int) < cap))) H1
def sp_ReceiveQueue_first (K : PySem.W.Frag) (a : Ads) : Sp := A1 fun s H Q E => ∃ (p il tl : Addr) (cap : Int) (R : List (It × Int)), s = .ref p ∧ RqAt a.C_ReceiveQueue H p il tl cap R ∧ fstK H R Q
def sp_ReceiveQueue_take (K : PySem.W.Frag) (a : Ads) : Sp := A1 fun s H Q E => ∃ (p il tl : Addr) (cap : Int) (R : List (It × Int)), s = .ref p ∧ RqAt a.C_ReceiveQueue H p il tl cap R ∧ R.length < 90000 ∧
  (R = [] → Q .non H) ∧ (∀ x t S v H1, R = (x, t) :: S → ItV H1 v x → RqAt a.C_ReceiveQueue H1 p il tl cap S → Fp [il, tl] H H1 → Q v H1)
def sp_ReceiveQueue_oldest_tick (K : PySem.W.Frag) (a : Ads) : Sp := A1 fun s H Q E => ∃ (p il tl : Addr) (cap : Int) (R : List (It × Int)), s = .ref p ∧ RqAt a.C_ReceiveQueue H p il tl cap R ∧ tckK H R Q
def sp_ReceiveQueue_bytes_held (K : PySem.W.Frag) (a : Ads) : Sp := A1 fun s H Q E => ∃ (p il tl : Addr) (cap : Int) (R : List (It × Int)), s = .ref p ∧ RqAt a.C_ReceiveQueue H p il tl cap R ∧ R.length < 90000 ∧ ∀ H1, Fp [] H H1 → Q (.int (bys (its R))) H1
def sp_ReceiveQueue_contents (K : PySem.W.Frag) (a : Ads) : Sp := A1 fun s H Q E => ∃ (p il tl : Addr) (cap : Int) (R : List (It × Int)), s = .ref p ∧ RqAt a.C_ReceiveQueue H p il tl cap R ∧ ∀ l vs H1, H l = none → H1 l = some (.lst vs) → Its H1 vs (its R) → Fp [] H H1 → Q (.ref l) H1
theorem ok_ReceiveQueue_init (T : Txt P w K mg base a) : FnOk P w K mg base (L2.CX P w) 1 a.f_ReceiveQueue_init a.fd_ReceiveQueue_init ["self", "capacity"] (sp_ReceiveQueue_init K a) := by
  refine T.F_ReceiveQueue_init.okX sc_ReceiveQueue_init (fun vs H Q E h => A2.len h) (fun cdv A outer s H vs Q E hr h => ?_)
  have hu := hu_of hr
  obtain ⟨v_self, v_capacity, rfl, h⟩ := h
  refine ⟨_, (pss_cons (ps_fld (pv 0) (pv 1) rfl)
    (pss_cons (ps_fld (pv 0) (pe_lst pa_nil) rfl)
    (pss_one (ps_fld (pv 0) (pe_lst pa_nil) rfl)))), ?_⟩
  obtain ⟨p, dx, cap, rfl, rfl, hp, k⟩ := h
  walk_at "r"
  refine ⟨sz (by simp), fun il hil => ?_⟩
  have np : il ≠ p := fun z => by rw [z, upd_same] at hil; cases hil
  have hil0 : H il = none := by rw [upd_ne np] at hil; exact hil
  walk_at "r"
  refine ⟨sz (by simp), fun tl htl => ?_⟩
  have nt : tl ≠ p := fun z => by rw [z, upd_same] at htl; cases htl
  have ni : tl ≠ il := fun z => by rw [z, upd_ne np, upd_same] at htl; cases htl
  have htl0 : H tl = none := by rw [upd_ne nt, upd_ne ni, upd_ne nt] at htl; exact htl
  walk_at "r"
  refine k il tl _ hil0 htl0 ni.symm ⟨⟨dx, by rw [upd_same, F_ReceiveQueue_init]⟩, ⟨[], by rw [upd_ne np, upd_ne ni.symm, upd_ne np, upd_same], .nil⟩, by rw [upd_ne nt, upd_same]; rfl, ni.symm⟩ ?_
  exact ((((Fp.at_ (by simp)).trans (Fp.new hil)).trans (Fp.at_ (by simp))).trans (Fp.new htl)).trans (Fp.at_ (by simp))
theorem ok_ReceiveQueue_append (T : Txt P w K mg base a) : FnOk P w K mg base (L2.CX P w) 1 a.f_ReceiveQueue_append a.fd_ReceiveQueue_append ["self", "item", "tick"] (sp_ReceiveQueue_append K a) := by
  refine T.F_ReceiveQueue_append.okX sc_ReceiveQueue_append (fun vs H Q E h => A3.len h) (fun cdv A outer s H vs Q E hr h => ?_)
  have hu := hu_of hr
  obtain ⟨v_self, v_item, v_tick, rfl, h⟩ := h
  refine ⟨_, (pss_cons (ps_expr (pe_bm PySem.F.plainAttrs_list PySem.F.slot_list_append PySem.F.type_list_append mt_append (pe_fld (pv 0) rfl) (pa_cons (pv 1) pa_nil)))
    (pss_one (ps_expr (pe_bm PySem.F.plainAttrs_list PySem.F.slot_list_append PySem.F.type_list_append mt_append (pe_fld (pv 0) rfl) (pa_cons (pv 2) pa_nil))))), ?_⟩
  obtain ⟨p, il, tl, cap, t, x, R, rfl, hx, rfl, B, hl, k⟩ := h
  obtain ⟨⟨dx, hp⟩, ⟨vs, hi, hv⟩, ht, ne⟩ := id B
  have npi := B.np hi
  have npt := B.np ht
  have hlv := hv.1
  unfold its at hlv
  rw [List.length_map] at hlv
  walk_at "r"
  refine c_app hi (sz (by omega)) ?_
  have f1 : Fp [il] H (upd H il (.lst (vs ++ [v_item]))) := Fp.at_ (by simp)
  have i1 : upd H il (.lst (vs ++ [v_item])) il = some (.lst (vs ++ [v_item])) := upd_same
  have hv1 := (hv.app hx).fp f1 (.cons hi .nil)
  have p1 := f1 _ _ hp (by simp [npi])
  have t1 := f1 _ _ ht (by simp [ne.symm])
  generalize upd H il _ = H1 at f1 i1 hv1 p1 t1 ⊢
  walk_at "r"
  refine c_app t1 (sz (by simp [tks]; omega)) ?_
  have f2 : Fp [tl] H1 (upd H1 tl (.lst ((tks R).map V.int ++ [.int t]))) := Fp.at_ (by simp)
  walk_at "r"
  refine k _ ⟨⟨dx, f2 _ _ p1 (by simp [npt])⟩, ⟨_, f2 _ _ i1 (by simp [ne]), ?_⟩, by rw [upd_same]; simp [tks], ne⟩ ((f1.mono (by simp)).trans (f2.mono (by simp)))
  have e : its (R ++ [(x, t)]) = its R ++ [x] := by simp [its]
  rw [e]
  exact hv1.fp f2 (.cons t1 .nil)
theorem ok_ReceiveQueue_lose (T : Txt P w K mg base a) : FnOk P w K mg base (L2.CX P w) 3 a.f_ReceiveQueue_lose a.fd_ReceiveQueue_lose ["self", "tick"] (sp_ReceiveQueue_lose K a) := by
  have G_is_mark := ok_is_mark T
  have G_joined := ok_joined T
  have G_lost_mark := ok_lost_mark T
  have G_ReceiveQueue_append := ok_ReceiveQueue_append T
  refine T.F_ReceiveQueue_lose.okX sc_ReceiveQueue_lose (fun vs H Q E h => A2.len h) (fun cdv A outer s H vs Q E hr h => ?_)
  have hu := hu_of hr
  obtain ⟨v_self, v_tick, rfl, h⟩ := h
  refine ⟨_, (pss_one (ps_if (pt_up (PW.pt (pw_and (pt_tr (pe_fld (pv 0) rfl) (by intro _; rfl)) (pw_and1 (pt_val (pe_callS G_is_mark (hr.mono (by decide)) rfl T.g_is_mark T.F_is_mark.kp T.b_is_mark (fun σ => passAt (takes_of rfl rfl rfl rfl) σ) (pa_cons (pe_ix ix_list (pe_fld (pv 0) rfl) (pe_un un_neg pe_int) (fun _ _ => rfl)) pa_nil))))))) (pss_one (ps_asg (pe_callS G_joined (hr.mono (by decide)) rfl T.g_joined T.F_joined.kp T.b_joined (fun σ => passAt (takes_of rfl rfl rfl rfl) σ) (pa_cons (pe_ix ix_list (pe_fld (pv 0) rfl) (pe_un un_neg pe_int) (fun _ _ => rfl)) (pa_cons (pe_callS G_lost_mark (hr.mono (by decide)) rfl T.g_lost_mark T.F_lost_mark.kp T.b_lost_mark (fun σ => passAt (takes_of rfl rfl rfl rfl) σ) (pa_cons pe_int pa_nil)) pa_nil))) (pg_sub (pe_fld (pv 0) rfl) (pe_un un_neg pe_int) set_list))) (pss_one (ps_expr (pe_methS (pv 0) T.cl_ReceiveQueue T.m_ReceiveQueue_append G_ReceiveQueue_append (hr.mono (by decide)) T.b_ReceiveQueue_append (fun σ => passAt (takes_of rfl rfl rfl rfl) σ) (pa_cons (pe_callS G_lost_mark (hr.mono (by decide)) rfl T.g_lost_mark T.F_lost_mark.kp T.b_lost_mark (fun σ => passAt (takes_of rfl rfl rfl rfl) σ) (pa_cons pe_int pa_nil)) (pa_cons (pv 1) pa_nil))))))), ?_⟩
  obtain ⟨p, il, tl, cap, t, R, rfl, rfl, B, hl, k⟩ := h
  obtain ⟨⟨dx, hp⟩, ⟨vs, hi, hv⟩, ht, ne⟩ := id B
  have npi := B.np hi
  walk_at "r"
  rcases snoc_cases R with rfl | ⟨S, ⟨x, t0⟩, rfl⟩
  · have e : vs = [] := List.eq_nil_of_length_eq_zero hv.1
    subst e
    refine t_up (fun b H1 => b = false ∧ H1 = H) ?_ ?_
    · walk_at "r"
      exact ⟨rfl, rfl⟩
    · rintro _ _ ⟨rfl, rfl⟩
      refine iteF ?_
      walk_at "r"
      refine a1 ⟨1, rfl, fun q H2 hq g2 f2 => ?_⟩
      walk_at "r"
      refine a3 ⟨p, il, tl, cap, t, .m 1, [], rfl, ⟨q, rfl, g2⟩, rfl, B.fp0 f2, hl, fun H3 B3 f3 => ?_⟩
      walk_at "r"
      exact k H3 B3 ((f2.mono (by simp)).trans f3)
  · have e : its (S ++ [(x, t0)]) = its S ++ [x] := by simp [its]
    rw [e] at hv
    obtain ⟨ws, v, rfl, hw, hx⟩ := hv.snoc
    cases x with
    | b z =>
      refine t_up (fun b H1 => b = false ∧ H1 = H) ?_ ?_
      · walk_at "r"
        refine if_b (fun _ => ?_) (fun _ => ⟨rfl, rfl⟩)
        walk_at "r"
        refine o_ixL (Or.inl (Or.inl hi)) (atI_last ws v) ?_
        walk_at "r"
        refine a1 ⟨.b z, hx, ?_⟩
        walk_at "r"
        exact ⟨rfl, rfl⟩
      · rintro _ _ ⟨rfl, rfl⟩
        refine iteF ?_
        walk_at "r"
        refine a1 ⟨1, rfl, fun q H2 hq g2 f2 => ?_⟩
        walk_at "r"
        refine a3 ⟨p, il, tl, cap, t, .m 1, _, rfl, ⟨q, rfl, g2⟩, rfl, B.fp0 f2, hl, fun H3 B3 f3 => ?_⟩
        rw [← losT_b] at B3
        walk_at "r"
        exact k H3 B3 ((f2.mono (by simp)).trans f3)
    | m n =>
      refine t_up (fun b H1 => b = true ∧ H1 = H) ?_ ?_
      · walk_at "r"
        rw [show (ws ++ [v]).isEmpty = false by cases ws <;> rfl]
        refine iteT ?_
        walk_at "r"
        refine o_ixL (Or.inl (Or.inl hi)) (atI_last ws v) ?_
        walk_at "r"
        refine a1 ⟨.m n, hx, ?_⟩
        walk_at "r"
        exact ⟨rfl, rfl⟩
      · rintro _ _ ⟨rfl, rfl⟩
        refine iteT ?_
        walk_at "r"
        refine o_ixL (Or.inl (Or.inl hi)) (atI_last ws v) ?_
        walk_at "r"
        refine a1 ⟨1, rfl, fun q H2 hq g2 f2 => ?_⟩
        have hx2 := hx.fp f2 .nil
        walk_at "r"
        refine a2 ⟨n, 1, hx2, ⟨q, rfl, g2⟩, fun q3 H3 hq3 g3 f3 => ?_⟩
        have f4 := f2.trans f3
        have p4 := f4 _ _ hp (by simp)
        have i4 := f4 _ _ hi (by simp)
        have t4 := f4 _ _ ht (by simp)
        have w4 := hw.fp f4 .nil
        walk_at "r"
        refine c_setE i4 ?_
        have f5 : Fp [il] H3 (upd H3 il (.lst (ws ++ [.ref q3]))) := Fp.at_ (by simp)
        walk_at "r"
        rw [losT_m] at k
        refine k _ ⟨⟨dx, f5 _ _ p4 (by simp [npi])⟩, ⟨_, upd_same, ?_⟩, by rw [f5 _ _ t4 (by simp [ne.symm])]; simp [tks], ne⟩ ((f4.mono (by simp)).trans (f5.mono (by simp)))
        have e2 : its (S ++ [(.m (n + 1), t0)]) = its S ++ [.m (n + 1)] := by simp [its]
        rw [e2]
        have n4 : NoT H3 [il] := .cons i4 .nil
        exact (w4.fp f5 n4).app (ItV.fp (x := .m (n + 1)) ⟨q3, rfl, g3⟩ f5 n4)
theorem ok_ReceiveQueue_bytes_held (T : Txt P w K mg base a) : FnOk P w K mg base (L2.CX P w) 3 a.f_ReceiveQueue_bytes_held a.fd_ReceiveQueue_bytes_held ["self"] (sp_ReceiveQueue_bytes_held K a) := by
  have G_bytes_among := ok_bytes_among T
  refine T.F_ReceiveQueue_bytes_held.okX sc_ReceiveQueue_bytes_held (fun vs H Q E h => A1.len h) (fun cdv A outer s H vs Q E hr h => ?_)
  have hu := hu_of hr
  obtain ⟨v_self, rfl, h⟩ := h
  refine ⟨_, (pss_one (ps_ret (pe_callS G_bytes_among (hr.mono (by decide)) rfl T.g_bytes_among T.F_bytes_among.kp T.b_bytes_among (fun σ => passAt (takes_of rfl rfl rfl rfl) σ) (pa_cons (pe_fld (pv 0) rfl) pa_nil)))), ?_⟩
  obtain ⟨p, il, tl, cap, R, rfl, B, hl, k⟩ := h
  obtain ⟨⟨dx, hp⟩, ⟨vs, hi, hv⟩, ht, ne⟩ := id B
  walk_at "r"
  exact a1 ⟨il, vs, its R, rfl, hi, hv, by simp [its]; omega, k⟩
theorem ok_ReceiveQueue_arrive (T : Txt P w K mg base a) : FnOk P w K mg base (L2.CX P w) 4 a.f_ReceiveQueue_arrive a.fd_ReceiveQueue_arrive ["self", "byte", "tick"] (sp_ReceiveQueue_arrive K a) := by
  have G_ReceiveQueue_bytes_held := ok_ReceiveQueue_bytes_held T
  have G_ReceiveQueue_lose := ok_ReceiveQueue_lose T
  have G_ReceiveQueue_append := ok_ReceiveQueue_append T
  refine T.F_ReceiveQueue_arrive.okX sc_ReceiveQueue_arrive (fun vs H Q E h => A3.len h) (fun cdv A outer s H vs Q E hr h => ?_)
  have hu := hu_of hr
  obtain ⟨v_self, v_byte, v_tick, rfl, h⟩ := h
  refine ⟨_, (pss_cons (ps_if (pt_cmpR op_ge (pe_meth0S (pv 0) T.cl_ReceiveQueue T.m_ReceiveQueue_bytes_held G_ReceiveQueue_bytes_held (hr.mono (by decide)) T.b_ReceiveQueue_bytes_held (fun σ => passAt (takes_of rfl rfl rfl rfl) σ)) (pe_fld (pv 0) rfl) (nomark _)) (pss_cons (ps_expr (pe_methS (pv 0) T.cl_ReceiveQueue T.m_ReceiveQueue_lose G_ReceiveQueue_lose (hr.mono (by decide)) T.b_ReceiveQueue_lose (fun σ => passAt (takes_of rfl rfl rfl rfl) σ) (pa_cons (pv 2) pa_nil)))
    (pss_one (ps_ret pe_bl))) pss_nil)
    (pss_cons (ps_expr (pe_methS (pv 0) T.cl_ReceiveQueue T.m_ReceiveQueue_append G_ReceiveQueue_append (hr.mono (by decide)) T.b_ReceiveQueue_append (fun σ => passAt (takes_of rfl rfl rfl rfl) σ) (pa_cons (pv 1) (pa_cons (pv 2) pa_nil))))
    (pss_one (ps_ret pe_bl)))), ?_⟩
  obtain ⟨p, il, tl, cap, z, t, R, rfl, rfl, rfl, B, hl, k⟩ := h
  obtain ⟨⟨dx, hp⟩, _⟩ := id B
  walk_at "r"
  refine a1 ⟨p, il, tl, cap, R, rfl, B, hl, fun H1 f1 => ?_⟩
  have B1 := B.fp0 f1
  obtain ⟨⟨dx1, hp1⟩, _⟩ := id B1
  walk_at "r"
  refine if_d (fun c => ?_) (fun c => ?_)
  · walk_at "r"
    refine a2 ⟨p, il, tl, cap, t, R, rfl, rfl, B1, hl, fun H2 B2 f2 => ?_⟩
    walk_at "r"
    have e : arrT R cap z t = losT R t := if_neg (by omega)
    have e2 : decide ((bys (its R) : Int) < cap) = false := decide_eq_false (by omega)
    rw [e, e2] at k
    exact k _ B2 ((f1.mono (by simp)).trans f2)
  · walk_at "r"
    refine a3 ⟨p, il, tl, cap, t, .b z, R, rfl, rfl, rfl, B1, hl, fun H2 B2 f2 => ?_⟩
    walk_at "r"
    have e : arrT R cap z t = R ++ [(.b z, t)] := if_pos (by omega)
    have e2 : decide ((bys (its R) : Int) < cap) = true := decide_eq_true (by omega)
    rw [e, e2] at k
    exact k _ B2 ((f1.mono (by simp)).trans f2)
theorem ok_ReceiveQueue_contents (T : Txt P w K mg base a) : FnOk P w K mg base (L2.CX P w) 1 a.f_ReceiveQueue_contents a.fd_ReceiveQueue_contents ["self"] (sp_ReceiveQueue_contents K a) := by
  refine T.F_ReceiveQueue_contents.okX sc_ReceiveQueue_contents (fun vs H Q E h => A1.len h) (fun cdv A outer s H vs Q E hr h => ?_)
  have hu := hu_of hr
  obtain ⟨v_self, rfl, h⟩ := h
  refine ⟨_, (pss_one (ps_ret (pe_callTy call_ls (by rfl) T.g_list (by decide +kernel) (pa_cons (pe_fld (pv 0) rfl) pa_nil)))), ?_⟩
  obtain ⟨p, il, tl, cap, R, rfl, B, k⟩ := h
  obtain ⟨⟨dx, hp⟩, ⟨vs, hi, hv⟩, ht, ne⟩ := id B
  walk_at "r"
  refine c_ls (Or.inl (Or.inl hi)) fun l hl2 => ?_
  walk_at "r"
  have f : Fp [] H (upd H l (.lst vs)) := Fp.new hl2
  exact k l vs _ hl2 upd_same (hv.fp f .nil) f
theorem ok_ReceiveQueue_first (T : Txt P w K mg base a) : FnOk P w K mg base (L2.CX P w) 1 a.f_ReceiveQueue_first a.fd_ReceiveQueue_first ["self"] (sp_ReceiveQueue_first K a) := by
  refine T.F_ReceiveQueue_first.okX sc_ReceiveQueue_first (fun vs H Q E h => A1.len h) (fun cdv A outer s H vs Q E hr h => ?_)
  have hu := hu_of hr
  obtain ⟨v_self, rfl, h⟩ := h
  refine ⟨_, (pss_cons (ps_if (pt_not (pt_tr (pe_fld (pv 0) rfl) (by intro _; rfl))) (pss_one (ps_ret pe_non)) pss_nil)
    (pss_one (ps_ret (pe_ix ix_list (pe_fld (pv 0) rfl) pe_int (fun _ _ => rfl))))), ?_⟩
  obtain ⟨p, il, tl, cap, R, rfl, B, k0, k1⟩ := h
  obtain ⟨⟨dx, hp⟩, ⟨vs, hi, hv⟩, ht, ne⟩ := id B
  walk_at "r"
  cases R with
  | nil =>
    have e : vs = [] := List.eq_nil_of_length_eq_zero hv.1
    subst e
    refine iteT ?_
    walk_at "r"
    exact k0 rfl
  | cons xt S =>
    obtain ⟨v, ws, rfl, hw, hx⟩ := Its.cons (xs := its S) (x := xt.1) hv
    refine iteF ?_
    walk_at "r"
    exact k1 _ _ S v rfl hx
theorem ok_ReceiveQueue_oldest_tick (T : Txt P w K mg base a) : FnOk P w K mg base (L2.CX P w) 1 a.f_ReceiveQueue_oldest_tick a.fd_ReceiveQueue_oldest_tick ["self"] (sp_ReceiveQueue_oldest_tick K a) := by
  refine T.F_ReceiveQueue_oldest_tick.okX sc_ReceiveQueue_oldest_tick (fun vs H Q E h => A1.len h) (fun cdv A outer s H vs Q E hr h => ?_)
  have hu := hu_of hr
  obtain ⟨v_self, rfl, h⟩ := h
  refine ⟨_, (pss_cons (ps_if (pt_not (pt_tr (pe_fld (pv 0) rfl) (by intro _; rfl))) (pss_one (ps_ret pe_non)) pss_nil)
    (pss_one (ps_ret (pe_ix ix_list (pe_fld (pv 0) rfl) pe_int (fun _ _ => rfl))))), ?_⟩
  obtain ⟨p, il, tl, cap, R, rfl, B, k0, k1⟩ := h
  obtain ⟨⟨dx, hp⟩, ⟨vs, hi, hv⟩, ht, ne⟩ := id B
  walk_at "r"
  cases R with
  | nil =>
    refine iteT ?_
    walk_at "r"
    exact k0 rfl
  | cons xt S =>
    refine iteF ?_
    have ht2 : H tl = some (.lst (.int xt.2 :: (tks S).map V.int)) := ht
    walk_at "r"
    exact k1 _ _ S rfl
theorem ok_ReceiveQueue_take (T : Txt P w K mg base a) : FnOk P w K mg base (L2.CX P w) 1 a.f_ReceiveQueue_take a.fd_ReceiveQueue_take ["self"] (sp_ReceiveQueue_take K a) := by
  refine T.F_ReceiveQueue_take.okX sc_ReceiveQueue_take (fun vs H Q E h => A1.len h) (fun cdv A outer s H vs Q E hr h => ?_)
  have hu := hu_of hr
  obtain ⟨v_self, rfl, h⟩ := h
  refine ⟨_, (pss_cons (ps_if (pt_not (pt_tr (pe_fld (pv 0) rfl) (by intro _; rfl))) (pss_one (ps_ret pe_non)) pss_nil)
    (pss_cons (ps_expr (pe_bm PySem.F.plainAttrs_list PySem.F.slot_list_pop PySem.F.type_list_pop mt_popAt (pe_fld (pv 0) rfl) (pa_cons pe_int pa_nil)))
    (pss_one (ps_ret (pe_bm PySem.F.plainAttrs_list PySem.F.slot_list_pop PySem.F.type_list_pop mt_popAt (pe_fld (pv 0) rfl) (pa_cons pe_int pa_nil)))))), ?_⟩
  obtain ⟨p, il, tl, cap, R, rfl, B, hl, k0, k1⟩ := h
  obtain ⟨⟨dx, hp⟩, ⟨vs, hi, hv⟩, ht, ne⟩ := id B
  have npi := B.np hi
  have npt := B.np ht
  walk_at "r"
  cases R with
  | nil =>
    have e : vs = [] := List.eq_nil_of_length_eq_zero hv.1
    subst e
    refine iteT ?_
    walk_at "r"
    exact k0 rfl
  | cons xt S =>
    obtain ⟨v, ws, rfl, hw, hx⟩ := Its.cons (xs := its S) (x := xt.1) hv
    rw [List.length_cons] at hl
    have hwl := hw.1
    unfold its at hwl
    rw [List.length_map] at hwl
    refine iteF ?_
    have ht2 : H tl = some (.lst (.int xt.2 :: (tks S).map V.int)) := ht
    walk_at "r"
    refine c_pop0 ht2 (by simp [tks]; omega) ?_
    have f1 : Fp [tl] H (upd H tl (.lst ((tks S).map V.int))) := Fp.at_ (by simp)
    have i1 := f1 _ _ hi (by simp [ne])
    have p1 := f1 _ _ hp (by simp [npt])
    have t1 : upd H tl (.lst ((tks S).map V.int)) tl = some (.lst ((tks S).map V.int)) := upd_same
    have n1 : NoT H [tl] := .cons ht .nil
    have hw1 := hw.fp f1 n1
    have hx1 := hx.fp f1 n1
    generalize upd H tl _ = H1 at f1 i1 p1 t1 hw1 hx1 ⊢
    walk_at "r"
    have f2 : Fp [il] H1 (upd H1 il (.lst ws)) := Fp.at_ (by simp)
    have n2 : NoT H1 [il] := .cons i1 .nil
    walk_at "r"
    exact k1 _ _ S v _ rfl (hx1.fp f2 n2) ⟨⟨dx, f2 _ _ p1 (by simp [npi])⟩, ⟨ws, upd_same, hw1.fp f2 n2⟩, f2 _ _ t1 (by simp [ne.symm]), ne⟩ ((f1.mono (by simp)).trans (f2.mono (by simp)))
end
end My
set_option Elab.async false
set_option maxRecDepth 100000
set_option maxHeartbeats 100000000
set_option linter.all false
namespace My
open PySem L2 Sx Rd
local macro_rules | `(tactic| walk_at "ne") => `(tactic| (first | with_reducible assumption | with_reducible exact Ne.symm (by with_reducible assumption)))
local macro_rules | `(tactic| walk_at "nin") => `(tactic| (simp only [List.mem_cons, List.not_mem_nil, or_false, not_or, not_false_eq_true]; (repeat' refine And.intro ?_ ?_); (all_goals walk_at "ne")))
local macro_rules | `(tactic| walk_at "hl") => `(tactic| (first | (with_reducible assumption) | exact upd_same | ((with_reducible refine' (upd_ne ?hne).trans ?hgo); (case hne => walk_at "ne"); (case hgo => walk_at "hl"))))
local macro_rules | `(tactic| walk_at "sq") => `(tactic| (first | (with_reducible assumption) | exact Or.inl (Or.inl (by walk_at "hl"))))
local macro_rules | `(tactic| walk_at "ar") => `(tactic| (first | omega | exact ⟨by omega, by omega⟩ | exact Or.inl ⟨by omega, by omega⟩ | exact Or.inr ⟨by omega, by omega⟩ | (show (0 : Int) < _; omega) | (show (0 : Int) < _ ∧ _ < (1073741824 : Int); omega)))
local macro_rules | `(tactic| walk_at "cls") => `(tactic| (first | exact Txt.cl_ReceiveQueue (by assumption)))
local macro_rules | `(tactic| walk_at "noa") => `(tactic| (first | exact Txt.n_ReceiveQueue_capacity (by assumption) | exact Txt.n_ReceiveQueue_items (by assumption) | exact Txt.n_ReceiveQueue_ticks (by assumption)))
local macro_rules | `(tactic| walk_at "lkp") => `(tactic| (first | (with_reducible exact F_ReceiveQueue_capacity_l) | (with_reducible exact F_ReceiveQueue_items_l) | (with_reducible exact F_ReceiveQueue_ticks_l)))
local macro_rules | `(tactic| walk_at "ptf") => `(tactic| (first | (with_reducible exact F_ReceiveQueue_capacity_p) | (with_reducible exact F_ReceiveQueue_items_p) | (with_reducible exact F_ReceiveQueue_ticks_p) | exact rfl))
local macro_rules | `(tactic| walk_at "lnF") => `(tactic| (first | (with_reducible exact F_ReceiveQueue_len) | (refine PL.lt (n := 60) ?_ (by decide); (repeat refine PL.put ?_); exact PL.nil) | decide))
local macro_rules | `(tactic| walk_at "nol") => `(tactic| (first | (with_reducible exact F_ReceiveQueue_m_arrive) | (with_reducible exact F_ReceiveQueue_m_first) | (with_reducible exact F_ReceiveQueue_m_take) | (with_reducible exact F_ReceiveQueue_m_oldest_tick) | (with_reducible exact F_ReceiveQueue_m_bytes_held) | (with_reducible exact F_ReceiveQueue_m_contents) | (with_reducible exact F_ReceiveQueue_m_append) | (with_reducible exact F_ReceiveQueue_m_lose)))
local macro_rules | `(tactic| walk_at "r1") => `(tactic| (first
  | with_reducible apply l_cons | ((with_reducible apply e_var); (case h => exact rfl)) | with_reducible apply l_nil | with_reducible apply s_seq | with_reducible apply e_c | with_reducible apply g_name
  | with_reducible apply s_asg | with_reducible apply e_call | with_reducible apply k_t | with_reducible apply e_op | with_reducible apply e_cb | with_reducible apply t_test
  | with_reducible apply s_if | with_reducible apply t_or | with_reducible apply t_and | with_reducible apply t_B | with_reducible apply s_next | with_reducible apply p_some
  | with_reducible apply p_no | with_reducible apply e_sl | with_reducible apply k_i | with_reducible apply e_lst | with_reducible apply t_not | with_reducible apply o_I0
  | ((with_reducible refine' o_I ?hc ?_); (case hc => walk_at "ar")) | with_reducible apply e_meth | ((with_reducible refine' k_meth ?h1 ?h2 ?_); (case h1 => walk_at "hl"); (case h2 => walk_at "nol")) | with_reducible apply e_fld | ((with_reducible refine' k_fld ?h1 ?h2 ?h3 ?h4 ?_); (case h1 => walk_at "hl"); (case h2 => walk_at "cls"); (case h3 => walk_at "noa"); (case h4 => walk_at "lkp")) | with_reducible apply e_not
  | with_reducible apply s_ret | ((with_reducible refine' k_ty ?h1 ?_); (case h1 => walk_at "sq")) | with_reducible apply s_drop | with_reducible apply s_retN | with_reducible apply s_cont | with_reducible apply s_break
  | with_reducible apply o_chC | ((with_reducible refine' o_chV ?hv ?_); (case hv => exact rfl)) | with_reducible apply e_un | with_reducible apply o_U | ((with_reducible refine' o_eq ?hs ?_); (case hs => exact rfl)) | ((with_reducible refine' o_ne ?hs ?_); (case hs => exact rfl))
  | ((with_reducible refine' o_ixL ?h1 ?h2 ?_); (case h1 => walk_at "sq"); (case h2 => first | exact rfl | exact atI_zero _ _)) | with_reducible apply s_fld | with_reducible apply e_make | ((with_reducible refine' k_set ?h1 ?h2 ?h3 ?h4 ?h5 ?_); (case h1 => walk_at "hl"); (case h2 => walk_at "cls"); (case h3 => walk_at "noa"); (case h4 => walk_at "ptf"); (case h5 => walk_at "lnF")) | with_reducible apply e_tup | with_reducible apply e_bm
  | with_reducible apply e_bm0 | with_reducible apply e_if | with_reducible apply e_chain | with_reducible apply s_raise | with_reducible apply g_sub | ((with_reducible refine' c_ln ?h1 ?_); (case h1 => walk_at "sq"))
  | ((with_reducible refine' c_pop0 ?h1 ?h2 ?_); (case h1 => walk_at "hl"); (case h2 => omega)) | with_reducible apply c_isBool | with_reducible apply c_isInt | with_reducible apply c_isBoolN | with_reducible apply c_isTupI | with_reducible apply c_isNonB
  | with_reducible apply c_isNonT | ((with_reducible refine' c_isList ?h1 ?_); (case h1 => walk_at "hl")) | ((with_reducible refine' c_isTup ?h1 ?_); (case h1 => walk_at "hl")) | ((with_reducible refine' c_isTupB ?h1 ?_); (case h1 => walk_at "hl")) | with_reducible apply o_isB | with_reducible apply o_notB
  | with_reducible apply e_and | with_reducible apply e_or | with_reducible apply k_bl | with_reducible apply e_xf | with_reducible apply s_augS | ((with_reducible refine' s_augV ?hv ?_); (case hv => exact rfl))
  | with_reducible apply ip_I | with_reducible apply e_lcE | ((with_reducible refine' k_xf ?h1 ?h2 ?_); (case h1 => walk_at "hl"); (case h2 => exact look_hit _ _ _)) | ((with_reducible refine' o_slL ?h1 ?_); (case h1 => walk_at "sq")) | ((with_reducible refine' k_dget ?h1 ?h2 ?_); (case h1 => walk_at "hl"); (case h2 => with_reducible assumption)) | with_reducible apply e_dget
  | with_reducible apply s_dput | with_reducible apply e_makeK | with_reducible apply g_cons | with_reducible apply g_nil | with_reducible apply c_ab | with_reducible apply c_in
  | with_reducible apply c_mx | with_reducible apply c_mn | with_reducible apply a1 | with_reducible apply a2 | with_reducible apply a3 | with_reducible apply a4
  | with_reducible apply a5 | with_reducible apply a6 | with_reducible apply a0 | with_reducible apply t_tru | with_reducible apply t_yes | ((with_reducible refine' k_truL ?h1 ?_); (case h1 => walk_at "sq")) | with_reducible refine d_nx ?_ | with_reducible refine d_rt ?_ | with_reducible refine d_bk ?_
  | with_reducible refine d_ct ?_))
local macro_rules | `(tactic| walk_at "r") => `(tactic| (repeat walk_at "r1"))
section
variable {P : Program} {w : World} {K : PySem.W.Frag} {mg : Str → Option Value} {base : Heap} {a : Ads}
/-! ### the law's rows -/
structure RwAt (H : Hp) (rl : Addr) (cs : List Addr) (R : List (It × Int)) : Prop where
  ol : H rl = some (.lst (cs.map V.ref))
  ln : cs.length = R.length
  at_ : ∀ (i : Nat) (c : Addr) (x : It) (t : Int), cs[i]? = some c → R[i]? = some (x, t) → ∃ v, H c = some (.lst [v, .int t]) ∧ ItV H v x
  nd : cs.Nodup
  nr : rl ∉ cs
theorem RwAt.get {H : Hp} {rl : Addr} {cs : List Addr} {R : List (It × Int)} (s : RwAt H rl cs R) {c : Addr} (h : c ∈ cs) : ∃ xs, H c = some (.lst xs) := by
  obtain ⟨i, hi, e⟩ := List.getElem_of_mem h
  obtain ⟨v, g, _⟩ := s.at_ i c (R[i]'(by have := s.ln; omega)).1 (R[i]'(by have := s.ln; omega)).2 (by rw [List.getElem?_eq_getElem hi, e]) (List.getElem?_eq_getElem _)
  exact ⟨_, g⟩
theorem RwAt.not {H : Hp} {rl : Addr} {cs : List Addr} {R : List (It × Int)} (s : RwAt H rl cs R) : NoT H (rl :: cs) := fun y hy xs e => by
  rcases List.mem_cons.mp hy with rfl | hy
  · rw [s.ol] at e; cases e
  · obtain ⟨_, g⟩ := s.get hy
    rw [g] at e; cases e
theorem RwAt.inn {H : Hp} {rl : Addr} {cs : List Addr} {R : List (It × Int)} (s : RwAt H rl cs R) : Inn H (rl :: cs) := .cons s.ol fun c hc => by
  obtain ⟨_, g⟩ := s.get hc
  exact ⟨_, g⟩
theorem RwAt.fp {H H1 : Hp} {rl : Addr} {cs ft : List Addr} {R : List (It × Int)} (s : RwAt H rl cs R) (f : Fp ft H H1) (n : NoT H ft) (n0 : rl ∉ ft) (n1 : ∀ c ∈ cs, c ∉ ft) : RwAt H1 rl cs R :=
  ⟨f _ _ s.ol n0, s.ln, fun i c x t hc hx => by
    obtain ⟨v, g, hv⟩ := s.at_ i c x t hc hx
    exact ⟨v, f _ _ g (n1 c (List.mem_of_getElem? hc)), hv.fp f n⟩, s.nd, s.nr⟩
theorem RwAt.fp0 {H H1 : Hp} {rl : Addr} {cs : List Addr} {R : List (It × Int)} (s : RwAt H rl cs R) (f : Fp [] H H1) : RwAt H1 rl cs R := s.fp f .nil (by simp) (fun _ _ => by simp)
theorem RwAt.app {H : Hp} {rl c : Addr} {cs : List Addr} {R : List (It × Int)} {v : V} {x : It} {t : Int} (s : RwAt H rl cs R) (hc : H c = some (.lst [v, .int t])) (hx : ItV H v x) (nc : c ∉ cs) (nr : rl ≠ c) :
    RwAt (upd H rl (.lst (cs.map V.ref ++ [.ref c]))) rl (cs ++ [c]) (R ++ [(x, t)]) := by
  have f : Fp [rl] H (upd H rl (.lst (cs.map V.ref ++ [.ref c]))) := Fp.at_ (by simp)
  have n : NoT H [rl] := .cons s.ol .nil
  refine ⟨by rw [upd_same, List.map_append]; rfl, by rw [List.length_append, List.length_append, s.ln]; rfl, fun i d y u hd hy => ?_, ?_, ?_⟩
  · by_cases h : i < cs.length
    · rw [List.getElem?_append_left h] at hd
      rw [List.getElem?_append_left (by rw [← s.ln]; exact h)] at hy
      obtain ⟨w, g, hw⟩ := s.at_ i d y u hd hy
      have hm := List.mem_of_getElem? hd
      exact ⟨w, f _ _ g (by simp; exact fun e => s.nr (e ▸ hm)), hw.fp f n⟩
    · have e : i = cs.length := by
        have := (List.getElem?_eq_some_iff.mp hd).1
        rw [List.length_append, List.length_singleton] at this
        omega
      subst e
      rw [List.getElem?_concat_length] at hd
      rw [s.ln, List.getElem?_concat_length] at hy
      cases hd
      cases hy
      exact ⟨v, f _ _ hc (by simp; exact fun e => nr e.symm), hx.fp f n⟩
  · rw [List.nodup_append]
    exact ⟨s.nd, by simp, fun a ha b hb e => nc (by rw [List.mem_singleton.mp hb] at e; exact e ▸ ha)⟩
  · simp only [List.mem_append, List.mem_singleton, not_or]
    exact ⟨s.nr, nr⟩
/-- the last row's item is another one -/
theorem RwAt.last {H : Hp} {rl d : Addr} {ds : List Addr} {S : List (It × Int)} {v : V} {x y : It} {t : Int} (s : RwAt H rl (ds ++ [d]) (S ++ [(x, t)])) (hy : ItV H v y) :
    RwAt (upd H d (.lst [v, .int t])) rl (ds ++ [d]) (S ++ [(y, t)]) := by
  have hl := s.ln
  rw [List.length_append, List.length_append, List.length_singleton, List.length_singleton] at hl
  have hd : d ∈ ds ++ [d] := by simp
  obtain ⟨_, g⟩ := s.get hd
  have f : Fp [d] H (upd H d (.lst [v, .int t])) := Fp.at_ (by simp)
  have n : NoT H [d] := .cons g .nil
  have nd := s.nd
  rw [List.nodup_append] at nd
  refine ⟨f _ _ s.ol (by simp; exact fun e => s.nr (e ▸ hd)), by rw [List.length_append, List.length_append]; simp; omega, fun i c z u hc hz => ?_, s.nd, s.nr⟩
  by_cases h : i < ds.length
  · rw [List.getElem?_append_left (by omega)] at hz
    have hc0 := hc
    rw [List.getElem?_append_left h] at hc
    obtain ⟨w, gw, hw⟩ := s.at_ i c z u hc0 (by rw [List.getElem?_append_left (by omega)]; exact hz)
    exact ⟨w, f _ _ gw (by simp; exact fun e => nd.2.2 c (List.mem_of_getElem? hc) d (by simp) e), hw.fp f n⟩
  · have e : i = ds.length := by
      have := (List.getElem?_eq_some_iff.mp hc).1
      rw [List.length_append, List.length_singleton] at this
      omega
    subst e
    rw [List.getElem?_concat_length] at hc
    rw [show ds.length = S.length by omega, List.getElem?_concat_length] at hz
    cases hc
    cases hz
    exact ⟨v, upd_same, hy.fp f n⟩
theorem RwAt.tail {H : Hp} {rl c : Addr} {ds : List Addr} {S : List (It × Int)} {x : It} {t : Int} (s : RwAt H rl (c :: ds) ((x, t) :: S)) : RwAt (upd H rl (.lst (ds.map V.ref))) rl ds S := by
  have f : Fp [rl] H (upd H rl (.lst (ds.map V.ref))) := Fp.at_ (by simp)
  have n : NoT H [rl] := .cons s.ol .nil
  refine ⟨upd_same, by have := s.ln; simpa using this, fun i d y u hd hy => ?_, (List.nodup_cons.mp s.nd).2, fun h => s.nr (List.mem_cons_of_mem _ h)⟩
  obtain ⟨w, g, hw⟩ := s.at_ (i + 1) d y u hd hy
  have hm := List.mem_of_getElem? hd
  exact ⟨w, f _ _ g (by simp; exact fun e => s.nr (List.mem_cons_of_mem _ (e ▸ hm))), hw.fp f n⟩
theorem RwAt.nil {H : Hp} {rl : Addr} (h : H rl = some (.lst [])) : RwAt H rl [] [] := ⟨h, rfl, fun i c x t hc => by simp at hc, List.nodup_nil, by simp⟩
theorem losT_len (R : List (It × Int)) (t : Int) : (losT R t).length ≤ R.length + 1 := by
  rcases snoc_cases R with rfl | ⟨S, ⟨x, t0⟩, rfl⟩
  · simp [losT_n]
  · cases x with
    | b z => rw [losT_b]; simp
    | m n => rw [losT_m]; simp
theorem arrT_len (R : List (It × Int)) (cap z t : Int) : (arrT R cap z t).length ≤ R.length + 1 := by
  unfold arrT
  split
  · simp
  · exact losT_len R t
def sp_law_is_integer (K : PySem.W.Frag) (a : Ads) : Sp := A1 fun v H Q _ => ∃ z : Int, v = .int z ∧ Q (.bl true) H
def sp_law_same1 (K : PySem.W.Frag) (a : Ads) : Sp := A2 fun u v H Q _ => ∃ z : Int, u = .int z ∧ v = .int z ∧ Q (.bl true) H
def sp_law_same (K : PySem.W.Frag) (a : Ads) : Sp := A2 fun u v H Q _ => ((u = .non ∧ v = .non) ∨ ∃ x : It, ItV H u x ∧ ItV H v x) ∧ Q (.bl true) H
def sp_law_held (K : PySem.W.Frag) (a : Ads) : Sp := A1 fun v H Q _ => ∃ (rl : Addr) (cs : List Addr) (R : List (It × Int)), v = .ref rl ∧ RwAt H rl cs R ∧ R.length < 90000 ∧ ∀ H1, Fp [] H H1 → Q (.int (bys (its R))) H1
def sp_law_agrees (K : PySem.W.Frag) (a : Ads) : Sp := A3 fun s x y H Q _ => ∃ (p il tl rl : Addr) (cs : List Addr) (cap : Int) (R : List (It × Int)), s = .ref p ∧ x = .ref rl ∧ y = .int cap ∧ RqAt a.C_ReceiveQueue H p il tl cap R ∧ RwAt H rl cs R ∧ R.length < 90000 ∧ ∀ H1, Fp [] H H1 → Q (.bl true) H1
def sp_law_arrives (K : PySem.W.Frag) (a : Ads) : Sp := A5 fun s x y u v H Q _ => ∃ (p il tl rl : Addr) (cs : List Addr) (cap z t : Int) (R : List (It × Int)), s = .ref p ∧ x = .ref rl ∧ y = .int cap ∧ u = .int z ∧ v = .int t ∧ RqAt a.C_ReceiveQueue H p il tl cap R ∧ RwAt H rl cs R ∧ R.length < 80000 ∧ 1 ≤ cap ∧ il ∉ rl :: cs ∧ tl ∉ rl :: cs ∧
  ∀ cs' H1, RqAt a.C_ReceiveQueue H1 p il tl cap (arrT R cap z t) → RwAt H1 rl cs' (arrT R cap z t) → (∀ c ∈ cs', c ∈ cs ∨ H c = none) → Fp (rl :: il :: tl :: cs) H H1 → Q (.bl true) H1
def sp_law_takes (K : PySem.W.Frag) (a : Ads) : Sp := A2 fun s x H Q _ => ∃ (p il tl rl : Addr) (cs : List Addr) (cap : Int) (R : List (It × Int)), s = .ref p ∧ x = .ref rl ∧ RqAt a.C_ReceiveQueue H p il tl cap R ∧ RwAt H rl cs R ∧ R.length < 80000 ∧ il ∉ rl :: cs ∧ tl ∉ rl :: cs ∧
  ∀ cs' H1, RqAt a.C_ReceiveQueue H1 p il tl cap R.tail → RwAt H1 rl cs' R.tail → (∀ c ∈ cs', c ∈ cs) → Fp (rl :: il :: tl :: cs) H H1 → Q (.bl true) H1
theorem ok_law_is_integer (T : Txt P w K mg base a) : FnOk P w K mg base (L2.CX P w) 1 a.f_law_is_integer a.fd_law_is_integer ["actual"] (sp_law_is_integer K a) := by
  refine T.F_law_is_integer.okX sc_law_is_integer (fun vs H Q E h => A1.len h) (fun cdv A outer s H vs Q E hr h => ?_)
  have hu := hu_of hr
  obtain ⟨v_actual, rfl, h⟩ := h
  refine ⟨_, (pss_one (ps_ret (pe_and (pe_callB call_isi (by rfl) T.g_isinstance (by decide +kernel) (pa_cons (pv 0) (pa_cons (pe_bltn (v := .ty "int") rfl T.g_int (by decide +kernel) rfl) pa_nil))) (pe_one (pe_not (pe_callB call_isi (by rfl) T.g_isinstance (by decide +kernel) (pa_cons (pv 0) (pa_cons (pe_bltn (v := .ty "bool") rfl T.g_bool (by decide +kernel) rfl) pa_nil)))))))), ?_⟩
  obtain ⟨z, rfl, k⟩ := h
  walk_at "r"
  refine iteT ?_
  walk_at "r"
  exact k
def sp_law_same0 (K : PySem.W.Frag) (a : Ads) : Sp := fun _ _ _ _ => False
theorem ok_law_same0 (T : Txt P w K mg base a) : FnOk P w K mg base (L2.CX P w) 1 a.f_law_same a.fd_law_same ["told", "due"] (sp_law_same0 K a) := ⟨fun _ _ _ _ h => h.elim, fun _ _ _ _ _ _ _ _ _ _ _ _ _ h => h.elim⟩
theorem ok_law_same1 (T : Txt P w K mg base a) : FnOk P w K mg base (L2.CX P w) 2 a.f_law_same a.fd_law_same ["told", "due"] (sp_law_same1 K a) := by
  have G_self := ok_law_same0 T
  have G_law_is_integer := ok_law_is_integer T
  refine T.F_law_same.okX sc_law_same (fun vs H Q E h => A2.len h) (fun cdv A outer s H vs Q E hr h => ?_)
  have hu := hu_of hr
  obtain ⟨v_told, v_due, rfl, h⟩ := h
  refine ⟨_, (pss_cons (ps_if (pt_val (pe_callB call_isi (by rfl) T.g_isinstance (by decide +kernel) (pa_cons (pv 1) (pa_cons (pe_bltn (v := .ty "tuple") rfl T.g_tuple (by decide +kernel) rfl) pa_nil)))) (pss_one (ps_ret (pe_and (pe_callB call_isi (by rfl) T.g_isinstance (by decide +kernel) (pa_cons (pv 0) (pa_cons (pe_bltn (v := .ty "tuple") rfl T.g_tuple (by decide +kernel) rfl) pa_nil))) (pe_and (pe_cmpR op_eq (pe_callB call_ln (by rfl) T.g_len (by decide +kernel) (pa_cons (pv 0) pa_nil)) pe_int (nomark _)) (pe_and (pe_cmpR op_eq (pe_ix ix_tup (pv 0) pe_int (fun _ _ => rfl)) pe_str (nomark _)) (pe_one (pe_callS G_self (hr.mono (by decide)) rfl T.g_law_same T.F_law_same.kp T.b_law_same (fun σ => passAt (takes_of rfl rfl rfl rfl) σ) (pa_cons (pe_ix ix_tup (pv 0) pe_int (fun _ _ => rfl)) (pa_cons (pe_ix ix_tup (pv 1) pe_int (fun _ _ => rfl)) pa_nil))))))))) pss_nil)
    (pss_cons (ps_if (pt_cmpR op_isN (pv 1) pe_non (nomark _)) (pss_one (ps_ret (pe_cmpR op_isN (pv 0) pe_non (nomark _)))) pss_nil)
    (pss_one (ps_ret (pe_and (pe_callS G_law_is_integer (hr.mono (by decide)) rfl T.g_law_is_integer T.F_law_is_integer.kp T.b_law_is_integer (fun σ => passAt (takes_of rfl rfl rfl rfl) σ) (pa_cons (pv 0) pa_nil)) (pe_one (pe_cmpR (op_eqD hr.units) (pv 0) (pv 1) (nomark _)))))))), ?_⟩
  obtain ⟨z, rfl, rfl, k⟩ := h
  walk_at "r"
  refine iteF ?_
  walk_at "r"
  refine ⟨rfl, ?_⟩
  walk_at "r"
  refine iteF ?_
  walk_at "r"
  refine a1 ⟨z, rfl, ?_⟩
  walk_at "r"
  refine iteT ?_
  walk_at "r"
  exact o_eqD (d := .int z) (.int z) (.int z) rfl k
theorem ok_law_same (T : Txt P w K mg base a) : FnOk P w K mg base (L2.CX P w) 3 a.f_law_same a.fd_law_same ["told", "due"] (sp_law_same K a) := by
  have G_self := ok_law_same1 T
  have G_law_is_integer := ok_law_is_integer T
  refine T.F_law_same.okX sc_law_same (fun vs H Q E h => A2.len h) (fun cdv A outer s H vs Q E hr h => ?_)
  have hu := hu_of hr
  obtain ⟨v_told, v_due, rfl, h⟩ := h
  refine ⟨_, (pss_cons (ps_if (pt_val (pe_callB call_isi (by rfl) T.g_isinstance (by decide +kernel) (pa_cons (pv 1) (pa_cons (pe_bltn (v := .ty "tuple") rfl T.g_tuple (by decide +kernel) rfl) pa_nil)))) (pss_one (ps_ret (pe_and (pe_callB call_isi (by rfl) T.g_isinstance (by decide +kernel) (pa_cons (pv 0) (pa_cons (pe_bltn (v := .ty "tuple") rfl T.g_tuple (by decide +kernel) rfl) pa_nil))) (pe_and (pe_cmpR op_eq (pe_callB call_ln (by rfl) T.g_len (by decide +kernel) (pa_cons (pv 0) pa_nil)) pe_int (nomark _)) (pe_and (pe_cmpR op_eq (pe_ix ix_tup (pv 0) pe_int (fun _ _ => rfl)) pe_str (nomark _)) (pe_one (pe_callS G_self (hr.mono (by decide)) rfl T.g_law_same T.F_law_same.kp T.b_law_same (fun σ => passAt (takes_of rfl rfl rfl rfl) σ) (pa_cons (pe_ix ix_tup (pv 0) pe_int (fun _ _ => rfl)) (pa_cons (pe_ix ix_tup (pv 1) pe_int (fun _ _ => rfl)) pa_nil))))))))) pss_nil)
    (pss_cons (ps_if (pt_cmpR op_isN (pv 1) pe_non (nomark _)) (pss_one (ps_ret (pe_cmpR op_isN (pv 0) pe_non (nomark _)))) pss_nil)
    (pss_one (ps_ret (pe_and (pe_callS G_law_is_integer (hr.mono (by decide)) rfl T.g_law_is_integer T.F_law_is_integer.kp T.b_law_is_integer (fun σ => passAt (takes_of rfl rfl rfl rfl) σ) (pa_cons (pv 0) pa_nil)) (pe_one (pe_cmpR (op_eqD hr.units) (pv 0) (pv 1) (nomark _)))))))), ?_⟩
  obtain ⟨h, k⟩ := h
  rcases h with ⟨rfl, rfl⟩ | ⟨x, hu, hv⟩
  · walk_at "r"
    refine iteF ?_
    walk_at "r"
    refine ⟨rfl, ?_⟩
    walk_at "r"
    refine iteT ?_
    walk_at "r"
    refine ⟨rfl, ?_⟩
    walk_at "r"
    exact k
  · cases x with
    | b z =>
      obtain rfl : v_told = .int z := hu
      obtain rfl : v_due = .int z := hv
      walk_at "r"
      refine iteF ?_
      walk_at "r"
      refine ⟨rfl, ?_⟩
      walk_at "r"
      refine iteF ?_
      walk_at "r"
      refine a1 ⟨z, rfl, ?_⟩
      walk_at "r"
      refine iteT ?_
      walk_at "r"
      exact o_eqD (d := .int z) (.int z) (.int z) rfl k
    | m n =>
      obtain ⟨t1, rfl, g1⟩ := hu
      obtain ⟨t2, rfl, g2⟩ := hv
      walk_at "r"
      refine iteT ?_
      walk_at "r"
      refine iteT ?_
      walk_at "r"
      refine c_lnT (Or.inl (Or.inl g1)) ?_
      walk_at "r"
      refine if_dT rfl ?_
      walk_at "r"
      refine o_ixT (Or.inl (Or.inl g1)) (show atI [V.str "lost", V.int n] ((0 : Nat) : Int) = some (.str "lost") from atI_nat rfl) ?_
      walk_at "r"
      refine if_dT rfl ?_
      walk_at "r"
      refine o_ixT (Or.inl (Or.inl g1)) (show atI [V.str "lost", V.int n] ((1 : Nat) : Int) = some (.int n) from atI_nat rfl) ?_
      walk_at "r"
      refine o_ixT (Or.inl (Or.inl g2)) (show atI [V.str "lost", V.int n] ((1 : Nat) : Int) = some (.int n) from atI_nat rfl) ?_
      walk_at "r"
      exact a2 ⟨n, rfl, rfl, k⟩
theorem ok_law_held (T : Txt P w K mg base a) : FnOk P w K mg base (L2.CX P w) 1 a.f_law_held a.fd_law_held ["rows"] (sp_law_held K a) := by
  refine T.F_law_held.okX sc_law_held (fun vs H Q E h => A1.len h) (fun cdv A outer s H vs Q E hr h => ?_)
  have hu := hu_of hr
  obtain ⟨v_rows, rfl, h⟩ := h
  refine ⟨_, (pss_one (ps_ret (pe_callB call_ln (by rfl) T.g_len (by decide +kernel) (pa_cons (pe_lc (own := [("row", 1)]) (g := (gName 1)) (tt := (tNot (tB (tCB (rIsi K) (tCons (tOp (rIxL K) (tVar 1) (tC (.int 0))) (tCons (tC (.ty "tuple")) tNil)))))) (te := (tVar 1)) rfl sc_law_held.nd (pi_list (pv 0)) (blkOk_by (N := ["rows", "row"]) (sc := defScope s_law_held) (own := [("row", 1)]) (by decide +kernel)) (fun _ _ _ _ _ => by exact (pg_name (i := 1) sc_law_held.nd rfl (by first | exact Or.inl rfl | exact Or.inr rfl))) (fun _ _ _ _ _ => by exact (pts_one (pt_not (pt_val (pe_callB call_isi (by rfl) T.g_isinstance (by decide +kernel) (pa_cons (pe_ix ix_list (pv 1) pe_int (fun _ _ => rfl)) (pa_cons (pe_bltn (v := .ty "tuple") rfl T.g_tuple (by decide +kernel) rfl) pa_nil))))))) (fun _ _ _ _ _ => by exact (pv 1))) pa_nil)))), ?_⟩
  obtain ⟨rl, cs, R, rfl, X, hl, k⟩ := h
  have hln := X.ln
  have hlen : (cs.map V.ref).length = (its R).length := by simp [its, hln]
  walk_at "r"
  refine lc_filtN (xs := cs.map V.ref) (byF (cs.map V.ref) (its R)) rfl (Or.inl (Or.inl X.ol)) (by rw [List.length_map]; omega) (fun E2 i x H' N1 N hE hx hacc F kR kN => ?_) fun E2 H2 hE hacc F => ?_
  · obtain ⟨c, hc, rfl⟩ : ∃ c, cs[i]? = some c ∧ V.ref c = x := by rw [List.getElem?_map] at hx; simpa using hx
    have hi2 : i < R.length := by have := (List.getElem?_eq_some_iff.mp hc).1; omega
    obtain ⟨v, g, hv⟩ := X.at_ i c R[i].1 R[i].2 hc (List.getElem?_eq_getElem hi2)
    have g1 := F _ _ g (by simp)
    have hv1 := hv.fp F .nil
    have ex : (its R)[i]? = some R[i].1 := by rw [its, List.getElem?_map, List.getElem?_eq_getElem hi2]; rfl
    refine ⟨rfl, ?_⟩
    walk_at "r"
    cases hx1 : R[i].1 with
    | b z =>
      rw [hx1] at hv1 ex
      obtain rfl : v = .int z := hv1
      walk_at "r"
      refine iteT ?_
      walk_at "r"
      exact kR _ _ (by unfold byF; rw [ex, Option.elim, if_pos (by rfl), hx]) (Fp.refl _ _)
    | m n =>
      rw [hx1] at hv1 ex
      obtain ⟨t, rfl, g2⟩ := hv1
      walk_at "r"
      refine iteF ?_
      exact kN (by unfold byF; rw [ex, Option.elim, if_neg (by exact Bool.false_ne_true)]) _ (Fp.refl _ _)
  · walk_at "r"
    rw [byF_len hlen]
    exact k _ F
theorem ok_law_agrees (T : Txt P w K mg base a) : FnOk P w K mg base (L2.CX P w) 4 a.f_law_agrees a.fd_law_agrees ["queue", "rows", "capacity"] (sp_law_agrees K a) := by
  have G_ReceiveQueue_contents := ok_ReceiveQueue_contents T
  have G_law_same := ok_law_same T
  have G_ReceiveQueue_first := ok_ReceiveQueue_first T
  have G_ReceiveQueue_oldest_tick := ok_ReceiveQueue_oldest_tick T
  have G_law_held := ok_law_held T
  have G_ReceiveQueue_bytes_held := ok_ReceiveQueue_bytes_held T
  refine T.F_law_agrees.okX sc_law_agrees (fun vs H Q E h => A3.len h) (fun cdv A outer s H vs Q E hr h => ?_)
  have hu := hu_of hr
  obtain ⟨v_queue, v_rows, v_capacity, rfl, h⟩ := h
  refine ⟨_, (pss_cons (ps_set (i := 3) sc_law_agrees.nd rfl (by first | exact Or.inl rfl | exact Or.inr rfl) (pe_meth0S (pv 0) T.cl_ReceiveQueue T.m_ReceiveQueue_contents G_ReceiveQueue_contents (hr.mono (by decide)) T.b_ReceiveQueue_contents (fun σ => passAt (takes_of rfl rfl rfl rfl) σ)))
    (pss_cons (ps_if (PW.pt (pw_or (pt_not (pt_val (pe_callB call_isi (by rfl) T.g_isinstance (by decide +kernel) (pa_cons (pv 3) (pa_cons (pe_bltn (v := .ty "list") rfl T.g_list (by decide +kernel) rfl) pa_nil))))) (pw_or1 (pt_cmpR op_ne (pe_callB call_ln (by rfl) T.g_len (by decide +kernel) (pa_cons (pv 3) pa_nil)) (pe_callB call_ln (by rfl) T.g_len (by decide +kernel) (pa_cons (pv 1) pa_nil)) (nomark _))))) (pss_one (ps_ret pe_bl)) pss_nil)
    (pss_cons (ps_for (passes_of rfl) rfl (pi_range1 rfl T.g_range (pa_cons (pe_callB call_ln (by rfl) T.g_len (by decide +kernel) (pa_cons (pv 1) pa_nil)) pa_nil)) (pg_name (i := 4) sc_law_agrees.nd rfl (by first | exact Or.inl rfl | exact Or.inr rfl)) (pss_one (ps_if (pt_not (pt_val (pe_callS G_law_same (hr.mono (by decide)) rfl T.g_law_same T.F_law_same.kp T.b_law_same (fun σ => passAt (takes_of rfl rfl rfl rfl) σ) (pa_cons (pe_ix ix_list (pv 3) (pv 4) (fun _ _ => rfl)) (pa_cons (pe_ix ix_list (pe_ix ix_list (pv 1) (pv 4) (fun _ _ => rfl)) pe_int (fun _ _ => rfl)) pa_nil))))) (pss_one (ps_ret pe_bl)) pss_nil)))
    (pss_cons (ps_expr (pe_bm PySem.F.plainAttrs_list PySem.F.slot_list_append PySem.F.type_list_append mt_append (pv 3) (pa_cons pe_int pa_nil)))
    (pss_cons (ps_set (i := 5) sc_law_agrees.nd rfl (by first | exact Or.inl rfl | exact Or.inr rfl) pe_non)
    (pss_cons (ps_set (i := 6) sc_law_agrees.nd rfl (by first | exact Or.inl rfl | exact Or.inr rfl) pe_non)
    (Evl.pss_cut (ps_if (pt_cmpR op_gt (pe_callB call_ln (by rfl) T.g_len (by decide +kernel) (pa_cons (pv 1) pa_nil)) pe_int (nomark _)) (pss_cons (ps_set (i := 5) sc_law_agrees.nd rfl (by first | exact Or.inl rfl | exact Or.inr rfl) (pe_ix ix_list (pe_ix ix_list (pv 1) pe_int (fun _ _ => rfl)) pe_int (fun _ _ => rfl)))
    (pss_one (ps_set (i := 6) sc_law_agrees.nd rfl (by first | exact Or.inl rfl | exact Or.inr rfl) (pe_ix ix_list (pe_ix ix_list (pv 1) pe_int (fun _ _ => rfl)) pe_int (fun _ _ => rfl))))) pss_nil)
    (pss_cons (ps_if (PW.pt (pw_or (pt_not (pt_val (pe_callS G_law_same (hr.mono (by decide)) rfl T.g_law_same T.F_law_same.kp T.b_law_same (fun σ => passAt (takes_of rfl rfl rfl rfl) σ) (pa_cons (pe_meth0S (pv 0) T.cl_ReceiveQueue T.m_ReceiveQueue_first G_ReceiveQueue_first (hr.mono (by decide)) T.b_ReceiveQueue_first (fun σ => passAt (takes_of rfl rfl rfl rfl) σ)) (pa_cons (pv 5) pa_nil))))) (pw_or1 (pt_not (pt_val (pe_callS G_law_same (hr.mono (by decide)) rfl T.g_law_same T.F_law_same.kp T.b_law_same (fun σ => passAt (takes_of rfl rfl rfl rfl) σ) (pa_cons (pe_meth0S (pv 0) T.cl_ReceiveQueue T.m_ReceiveQueue_oldest_tick G_ReceiveQueue_oldest_tick (hr.mono (by decide)) T.b_ReceiveQueue_oldest_tick (fun σ => passAt (takes_of rfl rfl rfl rfl) σ)) (pa_cons (pv 6) pa_nil)))))))) (pss_one (ps_ret pe_bl)) pss_nil)
    (pss_one (ps_ret (pe_and (pe_callS G_law_same (hr.mono (by decide)) rfl T.g_law_same T.F_law_same.kp T.b_law_same (fun σ => passAt (takes_of rfl rfl rfl rfl) σ) (pa_cons (pe_meth0S (pv 0) T.cl_ReceiveQueue T.m_ReceiveQueue_bytes_held G_ReceiveQueue_bytes_held (hr.mono (by decide)) T.b_ReceiveQueue_bytes_held (fun σ => passAt (takes_of rfl rfl rfl rfl) σ)) (pa_cons (pe_callS G_law_held (hr.mono (by decide)) rfl T.g_law_held T.F_law_held.kp T.b_law_held (fun σ => passAt (takes_of rfl rfl rfl rfl) σ) (pa_cons (pv 1) pa_nil)) pa_nil))) (pe_one (pe_cmpR op_eq (pe_fld (pv 0) rfl) (pv 2) (nomark _)))))))))))))), ?_⟩
  obtain ⟨p, il, tl, rl, cs, cap, R, rfl, rfl, rfl, B, X, hl, k⟩ := h
  obtain ⟨⟨dx, hp⟩, _⟩ := id B
  have hln := X.ln
  have hX := X.ol
  walk_at "r"
  refine a1 ⟨p, il, tl, cap, R, rfl, B, fun l1 vs H1 hl1 g1 i1 f1 => ?_⟩
  have B1 := B.fp0 f1
  have X1 := X.fp0 f1
  have hX1 := X1.ol
  have hvl : vs.length = R.length := by have := i1.1; simpa [its] using this
  walk_at "r"
  refine iteF ?_
  walk_at "r"
  refine if_ndF (by rw [List.length_map, hvl, hln]) ?_
  walk_at "r"
  refine f_rng1 ?_
  walk_at "r"
  refine k_rng (fun i σ H' => ∃ u, σ = [some (.ref p), some (.ref rl), some (.int cap), some (.ref l1), u, none, none] ∧ H' = H1) (by omega) (by rw [List.length_map]; omega) ?_ ?_ ?_
  · exact ⟨none, rfl, rfl⟩
  · rintro i σ H' hi ⟨u, rfl, rfl⟩
    have hi2 : i < cs.length := by rw [List.length_map] at hi; omega
    have hi3 : i < R.length := by omega
    have hi4 : i < vs.length := by omega
    obtain ⟨v, g, hv⟩ := X1.at_ i cs[i] R[i].1 R[i].2 (List.getElem?_eq_getElem hi2) (List.getElem?_eq_getElem hi3)
    walk_at "r"
    refine o_ixL (Or.inl (Or.inl g1)) (atI_nat (List.getElem?_eq_getElem hi4)) ?_
    walk_at "r"
    refine o_ixL (Or.inl (Or.inl hX1)) (atI_nat (v := .ref cs[i]) (by rw [List.getElem?_map, List.getElem?_eq_getElem hi2]; rfl)) ?_
    walk_at "r"
    refine a2 ⟨.inr ⟨R[i].1, i1.2 i _ _ (List.getElem?_eq_getElem hi4) (by rw [its, List.getElem?_map, List.getElem?_eq_getElem hi3]; rfl), hv⟩, ?_⟩
    walk_at "r"
    refine iteF ?_
    walk_at "r"
    exact ⟨_, rfl, rfl⟩
  · rintro σ H' ⟨u, rfl, rfl⟩
    walk_at "r"
    refine c_app g1 (sz (by omega)) ?_
    have F2 : Fp [] H (upd H' l1 (.lst (vs ++ [.int 5]))) := Fp.drop (fp := [l1]) ((f1.mono (by simp)).trans (Fp.at_ (by simp))) fun z hz => by
      rcases List.mem_singleton.mp hz with rfl
      exact .inr hl1
    have B2 := B.fp0 F2
    have X2 := X.fp0 F2
    generalize upd H' l1 _ = H2 at F2 B2 X2 ⊢
    clear B1 X1 hX1 g1 i1 f1 hl1
    obtain ⟨⟨dx2, hp2⟩, _⟩ := id B2
    have hX2 := X2.ol
    walk_at "r"
    refine s_cut (fun σ H' => H' = H2 ∧ ((R = [] ∧ σ = [some (.ref p), some (.ref rl), some (.int cap), some (.ref l1), u, some .non, some .non]) ∨ ∃ x t S v, R = (x, t) :: S ∧ ItV H2 v x ∧ σ = [some (.ref p), some (.ref rl), some (.int cap), some (.ref l1), u, some v, some (.int t)])) ?_ ?_
    · walk_at "r"
      cases R with
      | nil =>
        have e : cs = [] := List.eq_nil_of_length_eq_zero hln
        subst e
        refine if_dF (by simp) ?_
        walk_at "r"
        exact ⟨rfl, .inl ⟨rfl, rfl⟩⟩
      | cons xt S =>
        obtain ⟨c, ds, rfl⟩ : ∃ c ds, cs = c :: ds := by
          cases cs with
          | nil => cases hln
          | cons c ds => exact ⟨c, ds, rfl⟩
        refine if_dT (by simp) ?_
        obtain ⟨v, g, hv⟩ := X2.at_ 0 c xt.1 xt.2 rfl rfl
        have hX3 : H2 rl = some (.lst (.ref c :: ds.map V.ref)) := hX2
        have g' : H2 c = some (.lst [v, .int xt.2]) := g
        clear hX2
        walk_at "r"
        exact ⟨rfl, .inr ⟨_, _, S, v, rfl, hv, rfl⟩⟩
    · have fin : ∀ (u v1 v2 : V) (t2 : It), True := fun _ _ _ _ => trivial
      rintro σ H9 ⟨e9, hR⟩
      subst e9
      have key : ∃ v1 v2, σ = [some (.ref p), some (.ref rl), some (.int cap), some (.ref l1), u, some v1, some v2] ∧
          (∀ Q' : VK, (∀ v, ((v = .non ∧ v1 = .non) ∨ ∃ x, ItV H9 v x ∧ ItV H9 v1 x) → Q' v H9) → fstK H9 R Q') ∧
          (∀ Q' : VK, (∀ v, ((v = .non ∧ v2 = .non) ∨ ∃ x, ItV H9 v x ∧ ItV H9 v2 x) → Q' v H9) → tckK H9 R Q') := by
        rcases hR with ⟨rfl, rfl⟩ | ⟨x, t, S, v, rfl, hv, rfl⟩
        · exact ⟨_, _, rfl, fun Q' h => ⟨fun _ => h _ (.inl ⟨rfl, rfl⟩), fun x t S v e => by cases e⟩, fun Q' h => ⟨fun _ => h _ (.inl ⟨rfl, rfl⟩), fun x t S e => by cases e⟩⟩
        · refine ⟨_, _, rfl, fun Q' h => ⟨(fun e => by cases e), fun x' t' S' v' e hv' => ?_⟩, fun Q' h => ⟨(fun e => by cases e), fun x' t' S' e => ?_⟩⟩
          · cases e; exact h _ (.inr ⟨_, hv', hv⟩)
          · cases e; exact h _ (.inr ⟨.b _, rfl, rfl⟩)
      obtain ⟨v1, v2, rfl, k1, k2⟩ := key
      clear hR fin
      walk_at "r"
      refine a1 ⟨p, il, tl, cap, R, rfl, B2, k1 _ fun w1 hw1 => ?_⟩
      walk_at "r"
      refine a2 ⟨hw1, ?_⟩
      walk_at "r"
      refine iteF ?_
      walk_at "r"
      refine a1 ⟨p, il, tl, cap, R, rfl, B2, k2 _ fun w2 hw2 => ?_⟩
      walk_at "r"
      refine a2 ⟨hw2, ?_⟩
      walk_at "r"
      refine iteF ?_
      walk_at "r"
      refine a1 ⟨p, il, tl, cap, R, rfl, B2, hl, fun H3 f3 => ?_⟩
      walk_at "r"
      refine a1 ⟨rl, cs, R, rfl, X2.fp0 f3, hl, fun H4 f4 => ?_⟩
      have hp4 := (f3.trans f4) _ _ hp2 (by simp)
      walk_at "r"
      refine a2 ⟨.inr ⟨.b _, rfl, rfl⟩, ?_⟩
      walk_at "r"
      refine iteT ?_
      walk_at "r"
      rw [decide_eq_true rfl]
      exact k _ ((F2.trans f3).trans f4)
theorem ok_law_arrives (T : Txt P w K mg base a) : FnOk P w K mg base (L2.CX P w) 5 a.f_law_arrives a.fd_law_arrives ["queue", "rows", "capacity", "byte", "tick"] (sp_law_arrives K a) := by
  have G_ReceiveQueue_arrive := ok_ReceiveQueue_arrive T
  have G_law_held := ok_law_held T
  refine T.F_law_arrives.okX sc_law_arrives (fun vs H Q E h => A5.len h) (fun cdv A outer s H vs Q E hr h => ?_)
  have hu := hu_of hr
  obtain ⟨v_queue, v_rows, v_capacity, v_byte, v_tick, rfl, h⟩ := h
  refine ⟨_, (pss_cons (ps_set (i := 5) sc_law_arrives.nd rfl (by first | exact Or.inl rfl | exact Or.inr rfl) (pe_methS (pv 0) T.cl_ReceiveQueue T.m_ReceiveQueue_arrive G_ReceiveQueue_arrive (hr.mono (by decide)) T.b_ReceiveQueue_arrive (fun σ => passAt (takes_of rfl rfl rfl rfl) σ) (pa_cons (pv 3) (pa_cons (pv 4) pa_nil))))
    (pss_cons (ps_if (pt_cmpR op_lt (pe_callS G_law_held (hr.mono (by decide)) rfl T.g_law_held T.F_law_held.kp T.b_law_held (fun σ => passAt (takes_of rfl rfl rfl rfl) σ) (pa_cons (pv 1) pa_nil)) (pv 2) (nomark _)) (pss_cons (ps_expr (pe_bm PySem.F.plainAttrs_list PySem.F.slot_list_append PySem.F.type_list_append mt_append (pv 1) (pa_cons (pe_lst (pa_cons (pv 3) (pa_cons (pv 4) pa_nil))) pa_nil)))
    (pss_one (ps_ret (pe_cmpR op_isB (pv 5) pe_bl (nomark _))))) pss_nil)
    (pss_cons (ps_set (i := 6) sc_law_arrives.nd rfl (by first | exact Or.inl rfl | exact Or.inr rfl) (pe_ix ix_list (pv 1) (pe_op op_sub (pe_callB call_ln (by rfl) T.g_len (by decide +kernel) (pa_cons (pv 1) pa_nil)) pe_int) (fun _ _ => rfl)))
    (Evl.pss_cut (ps_if (pt_val (pe_callB call_isi (by rfl) T.g_isinstance (by decide +kernel) (pa_cons (pe_ix ix_list (pv 6) pe_int (fun _ _ => rfl)) (pa_cons (pe_bltn (v := .ty "tuple") rfl T.g_tuple (by decide +kernel) rfl) pa_nil)))) (pss_one (ps_asg (pe_tup (pa_cons pe_str (pa_cons (pe_op op_add (pe_ix ix_tup (pe_ix ix_list (pv 6) pe_int (fun _ _ => rfl)) pe_int (fun _ _ => rfl)) pe_int) pa_nil))) (pg_sub (pv 6) pe_int set_list))) (pss_one (ps_expr (pe_bm PySem.F.plainAttrs_list PySem.F.slot_list_append PySem.F.type_list_append mt_append (pv 1) (pa_cons (pe_lst (pa_cons (pe_tup (pa_cons pe_str (pa_cons pe_int pa_nil))) (pa_cons (pv 4) pa_nil))) pa_nil)))))
    (pss_one (ps_ret (pe_cmpR op_isB (pv 5) pe_bl (nomark _)))))))), ?_⟩
  obtain ⟨p, il, tl, rl, cs, cap, z, t, R, rfl, rfl, rfl, rfl, rfl, B, X, hl, hc1, nil, ntl, k⟩ := h
  obtain ⟨⟨dx, hp⟩, _⟩ := id B
  have nrl : rl ∉ [il, tl] := by
    simp only [List.mem_cons, List.not_mem_nil, or_false, not_or]
    exact ⟨fun e => nil (by rw [e]; simp), fun e => ntl (by rw [e]; simp)⟩
  have ncs : ∀ c ∈ cs, c ∉ [il, tl] := fun c hc => by
    simp only [List.mem_cons, List.not_mem_nil, or_false, not_or]
    exact ⟨fun e => nil (by rw [← e]; exact List.mem_cons_of_mem _ hc), fun e => ntl (by rw [← e]; exact List.mem_cons_of_mem _ hc)⟩
  walk_at "r"
  refine a3 ⟨p, il, tl, cap, z, t, R, rfl, rfl, rfl, B, by omega, fun H1 B1 f1 => ?_⟩
  have X1 := X.fp f1 B.not nrl ncs
  have hX1 := X1.ol
  have hln := X.ln
  walk_at "r"
  refine a1 ⟨rl, cs, R, rfl, X1, by omega, fun H2 f2 => ?_⟩
  have B2 := B1.fp0 f2
  have X2 := X1.fp0 f2
  have hX2 := X2.ol
  have f12 : Fp (rl :: il :: tl :: cs) H H2 := (f1.mono (fun x hx => List.mem_cons_of_mem _ (by simp at hx; rcases hx with rfl | rfl <;> simp))).trans (f2.mono (by simp))
  have I2 : Inn H2 (rl :: il :: tl :: cs) := (Inn.cons X2.ol (B2.inn.app X2.inn)).mono (fun x hx => by simp at hx ⊢; rcases hx with h | h | h | h <;> simp [h])
  have nolH : ∀ c, H2 c = none → H c = none := fun c hc => f12.free (fun z => I2.fresh hc z) hc
  clear B1 X1 hX1 f1 f2 B X
  walk_at "r"
  refine if_d (fun c => ?_) (fun c => ?_)
  · have ea : arrT R cap z t = R ++ [(.b z, t)] := if_pos c
    rw [ea] at k B2
    walk_at "r"
    refine ⟨sz (by simp), fun d hd => ?_⟩
    have f3 : Fp [] H2 (upd H2 d (.lst [.int z, .int t])) := Fp.new hd
    have g3 : upd H2 d (.lst [.int z, .int t]) d = some (.lst [.int z, .int t]) := upd_same
    have X3 := X2.fp0 f3
    have B3 := B2.fp0 f3
    have hX3 := X3.ol
    have nd := I2.fresh hd
    have hd0 := nolH d hd
    generalize upd H2 d _ = H3 at f3 g3 X3 B3 hX3 ⊢
    walk_at "r"
    refine c_app hX3 (sz (by rw [List.length_map]; omega)) ?_
    simp only [List.mem_cons, not_or] at nd
    have X4 := X3.app (x := .b z) g3 rfl nd.2.2.2 (fun e => nd.1 e.symm)
    have f4 : Fp [rl] H3 (upd H3 rl (.lst (cs.map V.ref ++ [.ref d]))) := Fp.at_ (by simp)
    have B4 := B3.fp f4 (.cons hX3 .nil) (by simp; exact B3.np hX3) (by simp; exact fun e => nil (by rw [e]; simp)) (by simp; exact fun e => ntl (by rw [e]; simp))
    walk_at "r"
    rw [decide_eq_true c]
    refine k _ _ B4 X4 (fun x hx => ?_) ((f12.trans (f3.mono (by simp))).trans (f4.mono (by simp)))
    rcases List.mem_append.mp hx with hx | hx
    · exact .inl hx
    · rw [List.mem_singleton.mp hx]; exact .inr hd0
  · have ea : arrT R cap z t = losT R t := if_neg c
    rw [ea] at k B2
    obtain ⟨S, ⟨x, t0⟩, rfl⟩ := (snoc_cases R).resolve_left (fun e => by rw [e] at c; simp [its, bys] at c; omega)
    obtain ⟨ds, d, rfl⟩ := (snoc_cases cs).resolve_left (fun e => by rw [e] at hln; simp at hln)
    have hlds : ds.length = S.length := by simpa using hln
    have hix : (((ds ++ [d]).map V.ref).length : Int) - 1 = (ds.length : Nat) := by simp
    obtain ⟨v, g, hv⟩ := X2.at_ ds.length d x t0 (by rw [List.getElem?_concat_length]) (by rw [hlds, List.getElem?_concat_length])
    walk_at "r"
    rw [hix]
    refine o_ixL (Or.inl (Or.inl hX2)) (atI_nat (v := .ref d) (by rw [List.map_append, ← List.length_map (f := V.ref) (as := ds)]; exact List.getElem?_concat_length)) ?_
    walk_at "r"
    refine s_cut (fun σ H' => σ = [some (.ref p), some (.ref rl), some (.int cap), some (.int z), some (.int t), some (.bl (decide ((bys (its (S ++ [(x, t0)])) : Int) < cap))), some (.ref d)] ∧ ∃ cs', RqAt a.C_ReceiveQueue H' p il tl cap (losT (S ++ [(x, t0)]) t) ∧ RwAt H' rl cs' (losT (S ++ [(x, t0)]) t) ∧ (∀ c ∈ cs', c ∈ ds ++ [d] ∨ H c = none) ∧ Fp (rl :: il :: tl :: (ds ++ [d])) H H') ?_ ?_
    · cases x with
      | b y =>
        obtain rfl : v = .int y := hv
        walk_at "r"
        refine iteF ?_
        walk_at "r"
        refine ⟨sz (by simp), fun q hq => ?_⟩
        have f3 : Fp [] H2 (upd H2 q (.tup [.str "lost", .int 1])) := Fp.new hq
        have g3 : upd H2 q (.tup [.str "lost", .int 1]) q = some (.tup [.str "lost", .int 1]) := upd_same
        generalize upd H2 q _ = H3 at f3 g3 ⊢
        walk_at "r"
        refine ⟨sz (by simp), fun e he => ?_⟩
        have f4 : Fp [] H3 (upd H3 e (.lst [.ref q, .int t])) := Fp.new he
        have g4 : upd H3 e (.lst [.ref q, .int t]) e = some (.lst [.ref q, .int t]) := upd_same
        have g3' := f4 _ _ g3 (by simp)
        generalize upd H3 e _ = H4 at f4 g4 g3' ⊢
        have f34 := f3.trans f4
        have X4 := X2.fp0 f34
        have B4 := B2.fp0 f34
        have hX4 := X4.ol
        have he2 := f3.free (by simp) he
        have nd := I2.fresh he2
        have hd0 := nolH e he2
        walk_at "r"
        refine c_app hX4 (sz (by rw [List.length_map]; omega)) ?_
        simp only [List.mem_cons, not_or] at nd
        have X5 := X4.app (x := .m 1) g4 ⟨q, rfl, g3'⟩ nd.2.2.2 (fun e => nd.1 e.symm)
        have f5 : Fp [rl] H4 (upd H4 rl (.lst ((ds ++ [d]).map V.ref ++ [.ref e]))) := Fp.at_ (by simp)
        have B5 := B4.fp f5 (.cons hX4 .nil) (by simp; exact B4.np hX4) (by simp; exact fun e => nil (by rw [e]; simp)) (by simp; exact fun e => ntl (by rw [e]; simp))
        walk_at "r"
        refine ⟨rfl, _, B5, by rw [losT_b]; exact X5, fun x hx => ?_, (f12.trans (f34.mono (by simp))).trans (f5.mono (by simp))⟩
        rcases List.mem_append.mp hx with hx | hx
        · exact .inl hx
        · rw [List.mem_singleton.mp hx]; exact .inr hd0
      | m n =>
        obtain ⟨tt, rfl, gt⟩ := hv
        walk_at "r"
        refine iteT ?_
        walk_at "r"
        refine o_ixT (Or.inl (Or.inl gt)) (show atI [V.str "lost", V.int n] ((1 : Nat) : Int) = some (.int n) from atI_nat rfl) ?_
        walk_at "r"
        refine ⟨sz (by simp), fun q hq => ?_⟩
        have f3 : Fp [] H2 (upd H2 q (.tup [.str "lost", .int (n + 1)])) := Fp.new hq
        have g3 : upd H2 q (.tup [.str "lost", .int (n + 1)]) q = some (.tup [.str "lost", .int (n + 1)]) := upd_same
        have gd := f3 _ _ g (by simp)
        have X3 := X2.fp0 f3
        have B3 := B2.fp0 f3
        generalize upd H2 q _ = H3 at f3 g3 gd X3 B3 ⊢
        walk_at "r"
        refine c_setL (j := 0) gd rfl (by simp) ?_
        have hdm : d ∈ ds ++ [d] := by simp
        have X4 := X3.last (v := .ref q) (y := .m (n + 1)) ⟨q, rfl, g3⟩
        have f4 : Fp [d] H3 (upd H3 d (.lst [.ref q, .int t0])) := Fp.at_ (by simp)
        have B4 := B3.fp f4 (.cons gd .nil) (by simp; exact B3.np gd) (by simp; exact fun e => nil (by rw [e]; simp)) (by simp; exact fun e => ntl (by rw [e]; simp))
        walk_at "r"
        exact ⟨rfl, _, B4, by rw [losT_m]; exact X4, fun x hx => .inl hx, (f12.trans (f3.mono (by simp))).trans (f4.mono (by simp))⟩
    · rintro σ H3 ⟨rfl, cs', B3, X3, h3, f3⟩
      walk_at "r"
      rw [decide_eq_false c]
      exact k _ _ B3 X3 h3 f3
theorem ok_law_takes (T : Txt P w K mg base a) : FnOk P w K mg base (L2.CX P w) 4 a.f_law_takes a.fd_law_takes ["queue", "rows"] (sp_law_takes K a) := by
  have G_law_same := ok_law_same T
  have G_ReceiveQueue_take := ok_ReceiveQueue_take T
  refine T.F_law_takes.okX sc_law_takes (fun vs H Q E h => A2.len h) (fun cdv A outer s H vs Q E hr h => ?_)
  have hu := hu_of hr
  obtain ⟨v_queue, v_rows, rfl, h⟩ := h
  refine ⟨_, (pss_cons (ps_set (i := 2) sc_law_takes.nd rfl (by first | exact Or.inl rfl | exact Or.inr rfl) pe_non)
    (Evl.pss_cut (ps_if (pt_cmpR op_gt (pe_callB call_ln (by rfl) T.g_len (by decide +kernel) (pa_cons (pv 1) pa_nil)) pe_int (nomark _)) (pss_one (ps_set (i := 2) sc_law_takes.nd rfl (by first | exact Or.inl rfl | exact Or.inr rfl) (pe_ix ix_list (pe_bm PySem.F.plainAttrs_list PySem.F.slot_list_pop PySem.F.type_list_pop mt_popAt (pv 1) (pa_cons pe_int pa_nil)) pe_int (fun _ _ => rfl)))) pss_nil)
    (pss_one (ps_ret (pe_callS G_law_same (hr.mono (by decide)) rfl T.g_law_same T.F_law_same.kp T.b_law_same (fun σ => passAt (takes_of rfl rfl rfl rfl) σ) (pa_cons (pe_meth0S (pv 0) T.cl_ReceiveQueue T.m_ReceiveQueue_take G_ReceiveQueue_take (hr.mono (by decide)) T.b_ReceiveQueue_take (fun σ => passAt (takes_of rfl rfl rfl rfl) σ)) (pa_cons (pv 2) pa_nil))))))), ?_⟩
  obtain ⟨p, il, tl, rl, cs, cap, R, rfl, rfl, B, X, hl, nil, ntl, k⟩ := h
  obtain ⟨⟨dx, hp⟩, _⟩ := id B
  have hln := X.ln
  have hX := X.ol
  walk_at "r"
  refine s_cut (fun σ H' => (R = [] ∧ σ = [some (.ref p), some (.ref rl), some .non] ∧ H' = H) ∨ ∃ x t S c ds v, R = (x, t) :: S ∧ cs = c :: ds ∧ ItV H' v x ∧ σ = [some (.ref p), some (.ref rl), some v] ∧ RwAt H' rl ds S ∧ Fp [rl] H H') ?_ ?_
  · walk_at "r"
    cases R with
    | nil =>
      have e : cs = [] := List.eq_nil_of_length_eq_zero hln
      subst e
      refine if_dF (by simp) ?_
      walk_at "r"
      exact .inl ⟨rfl, rfl, rfl⟩
    | cons xt S =>
      obtain ⟨c, ds, rfl⟩ : ∃ c ds, cs = c :: ds := by
        cases cs with
        | nil => cases hln
        | cons c ds => exact ⟨c, ds, rfl⟩
      refine if_dT (by simp) ?_
      obtain ⟨v, g, hv⟩ := X.at_ 0 c xt.1 xt.2 rfl rfl
      have hX3 : H rl = some (.lst (.ref c :: ds.map V.ref)) := hX
      have ncr : c ≠ rl := fun e => X.nr (by rw [e]; simp)
      rw [List.length_cons] at hln hl
      have X1 := RwAt.tail (x := xt.1) (t := xt.2) X
      have f1 : Fp [rl] H (upd H rl (.lst (ds.map V.ref))) := Fp.at_ (by simp)
      have g1 := f1 _ _ g (by simp [ncr])
      have hv1 := hv.fp f1 (.cons hX .nil)
      clear hX
      walk_at "r"
      refine c_pop0 hX3 (by rw [List.length_map]; simp at hln; omega) ?_
      walk_at "r"
      exact .inr ⟨_, _, S, c, ds, v, rfl, rfl, hv1, rfl, X1, f1⟩
  · rintro σ H1 (⟨rfl, rfl, rfl⟩ | ⟨x, t, S, c, ds, v, rfl, rfl, hv, rfl, X1, f1⟩)
    · have e : cs = [] := List.eq_nil_of_length_eq_zero hln
      subst e
      walk_at "r"
      refine a1 ⟨p, il, tl, cap, [], rfl, B, by omega, fun _ => ?_, fun x t S v H2 e => by cases e⟩
      walk_at "r"
      refine a2 ⟨.inl ⟨rfl, rfl⟩, ?_⟩
      exact k _ _ B X (fun c hc => hc) (Fp.refl _ _)
    · have n1 : NoT H [rl] := .cons hX .nil
      have B1 := B.fp f1 n1 (by simp; exact B.np hX) (by simp; exact fun e => nil (by rw [e]; simp)) (by simp; exact fun e => ntl (by rw [e]; simp))
      obtain ⟨⟨dx1, hp1⟩, _⟩ := id B1
      walk_at "r"
      refine a1 ⟨p, il, tl, cap, _, rfl, B1, by omega, (fun e => by cases e), fun x' t' S' v' H2 e hv' B2 f2 => ?_⟩
      cases e
      walk_at "r"
      refine a2 ⟨.inr ⟨x, hv', hv.fp f2 B1.not⟩, ?_⟩
      refine k ds _ B2 (X1.fp f2 B1.not ?_ fun c' hc' => ?_) (fun c' hc' => List.mem_cons_of_mem _ hc') ((f1.mono (by simp)).trans (f2.mono (fun y hy => ?_)))
      · simp only [List.mem_cons, List.not_mem_nil, or_false, not_or]
        exact ⟨fun e => nil (by rw [e]; simp), fun e => ntl (by rw [e]; simp)⟩
      · simp only [List.mem_cons, List.not_mem_nil, or_false, not_or]
        exact ⟨fun e => nil (by rw [← e]; simp [hc']), fun e => ntl (by rw [← e]; simp [hc'])⟩
      · simp only [List.mem_cons, List.not_mem_nil, or_false] at hy
        rcases hy with rfl | rfl <;> simp
end
end My
set_option Elab.async false
set_option maxRecDepth 100000
set_option maxHeartbeats 100000000
set_option linter.all false
namespace My
open PySem L2 Sx Rd
local macro_rules | `(tactic| walk_at "ne") => `(tactic| (first | with_reducible assumption | with_reducible exact Ne.symm (by with_reducible assumption)))
local macro_rules | `(tactic| walk_at "nin") => `(tactic| (simp only [List.mem_cons, List.not_mem_nil, or_false, not_or, not_false_eq_true]; (repeat' refine And.intro ?_ ?_); (all_goals walk_at "ne")))
local macro_rules | `(tactic| walk_at "hl") => `(tactic| (first | (with_reducible assumption) | exact upd_same | ((with_reducible refine' (upd_ne ?hne).trans ?hgo); (case hne => walk_at "ne"); (case hgo => walk_at "hl"))))
local macro_rules | `(tactic| walk_at "sq") => `(tactic| (first | (with_reducible assumption) | exact Or.inl (Or.inl (by walk_at "hl"))))
local macro_rules | `(tactic| walk_at "ar") => `(tactic| (first | omega | exact ⟨by omega, by omega⟩ | exact Or.inl ⟨by omega, by omega⟩ | exact Or.inr ⟨by omega, by omega⟩ | (show (0 : Int) < _; omega) | (show (0 : Int) < _ ∧ _ < (1073741824 : Int); omega)))
local macro_rules | `(tactic| walk_at "cls") => `(tactic| (first | exact Txt.cl_ReceiveQueue (by assumption)))
local macro_rules | `(tactic| walk_at "noa") => `(tactic| (first | exact Txt.n_ReceiveQueue_capacity (by assumption) | exact Txt.n_ReceiveQueue_items (by assumption) | exact Txt.n_ReceiveQueue_ticks (by assumption)))
local macro_rules | `(tactic| walk_at "lkp") => `(tactic| (first | (with_reducible exact F_ReceiveQueue_capacity_l) | (with_reducible exact F_ReceiveQueue_items_l) | (with_reducible exact F_ReceiveQueue_ticks_l)))
local macro_rules | `(tactic| walk_at "ptf") => `(tactic| (first | (with_reducible exact F_ReceiveQueue_capacity_p) | (with_reducible exact F_ReceiveQueue_items_p) | (with_reducible exact F_ReceiveQueue_ticks_p) | exact rfl))
local macro_rules | `(tactic| walk_at "lnF") => `(tactic| (first | (with_reducible exact F_ReceiveQueue_len) | (refine PL.lt (n := 60) ?_ (by decide); (repeat refine PL.put ?_); exact PL.nil) | decide))
local macro_rules | `(tactic| walk_at "nol") => `(tactic| (first | (with_reducible exact F_ReceiveQueue_m_arrive) | (with_reducible exact F_ReceiveQueue_m_first) | (with_reducible exact F_ReceiveQueue_m_take) | (with_reducible exact F_ReceiveQueue_m_oldest_tick) | (with_reducible exact F_ReceiveQueue_m_bytes_held) | (with_reducible exact F_ReceiveQueue_m_contents) | (with_reducible exact F_ReceiveQueue_m_append) | (with_reducible exact F_ReceiveQueue_m_lose)))
local macro_rules | `(tactic| walk_at "r1") => `(tactic| (first
  | with_reducible apply l_cons | ((with_reducible apply e_var); (case h => exact rfl)) | with_reducible apply l_nil | with_reducible apply s_seq | with_reducible apply e_c | with_reducible apply g_name
  | with_reducible apply s_asg | with_reducible apply e_call | with_reducible apply k_t | with_reducible apply e_op | with_reducible apply e_cb | with_reducible apply t_test
  | with_reducible apply s_if | with_reducible apply t_or | with_reducible apply t_and | with_reducible apply t_B | with_reducible apply s_next | with_reducible apply p_some
  | with_reducible apply p_no | with_reducible apply e_sl | with_reducible apply k_i | with_reducible apply e_lst | with_reducible apply t_not | with_reducible apply o_I0
  | ((with_reducible refine' o_I ?hc ?_); (case hc => walk_at "ar")) | with_reducible apply e_meth | ((with_reducible refine' k_meth ?h1 ?h2 ?_); (case h1 => walk_at "hl"); (case h2 => walk_at "nol")) | with_reducible apply e_fld | ((with_reducible refine' k_fld ?h1 ?h2 ?h3 ?h4 ?_); (case h1 => walk_at "hl"); (case h2 => walk_at "cls"); (case h3 => walk_at "noa"); (case h4 => walk_at "lkp")) | with_reducible apply e_not
  | with_reducible apply s_ret | ((with_reducible refine' k_ty ?h1 ?_); (case h1 => walk_at "sq")) | with_reducible apply s_drop | with_reducible apply s_retN | with_reducible apply s_cont | with_reducible apply s_break
  | with_reducible apply o_chC | ((with_reducible refine' o_chV ?hv ?_); (case hv => exact rfl)) | with_reducible apply e_un | with_reducible apply o_U | ((with_reducible refine' o_eq ?hs ?_); (case hs => exact rfl)) | ((with_reducible refine' o_ne ?hs ?_); (case hs => exact rfl))
  | ((with_reducible refine' o_ixL ?h1 ?h2 ?_); (case h1 => walk_at "sq"); (case h2 => first | exact rfl | exact atI_zero _ _)) | with_reducible apply s_fld | with_reducible apply e_make | ((with_reducible refine' k_set ?h1 ?h2 ?h3 ?h4 ?h5 ?_); (case h1 => walk_at "hl"); (case h2 => walk_at "cls"); (case h3 => walk_at "noa"); (case h4 => walk_at "ptf"); (case h5 => walk_at "lnF")) | with_reducible apply e_tup | with_reducible apply e_bm
  | with_reducible apply e_bm0 | with_reducible apply e_if | with_reducible apply e_chain | with_reducible apply s_raise | with_reducible apply g_sub | ((with_reducible refine' c_ln ?h1 ?_); (case h1 => walk_at "sq"))
  | ((with_reducible refine' c_pop0 ?h1 ?h2 ?_); (case h1 => walk_at "hl"); (case h2 => omega)) | with_reducible apply c_isBool | with_reducible apply c_isInt | with_reducible apply c_isBoolN | with_reducible apply c_isTupI | with_reducible apply c_isNonB
  | with_reducible apply c_isNonT | ((with_reducible refine' c_isList ?h1 ?_); (case h1 => walk_at "hl")) | ((with_reducible refine' c_isTup ?h1 ?_); (case h1 => walk_at "hl")) | ((with_reducible refine' c_isTupB ?h1 ?_); (case h1 => walk_at "hl")) | with_reducible apply o_isB | with_reducible apply o_notB
  | with_reducible apply e_and | with_reducible apply e_or | with_reducible apply k_bl | with_reducible apply e_xf | with_reducible apply s_augS | ((with_reducible refine' s_augV ?hv ?_); (case hv => exact rfl))
  | with_reducible apply ip_I | with_reducible apply e_lcE | ((with_reducible refine' k_xf ?h1 ?h2 ?_); (case h1 => walk_at "hl"); (case h2 => exact look_hit _ _ _)) | ((with_reducible refine' o_slL ?h1 ?_); (case h1 => walk_at "sq")) | ((with_reducible refine' k_dget ?h1 ?h2 ?_); (case h1 => walk_at "hl"); (case h2 => with_reducible assumption)) | with_reducible apply e_dget
  | with_reducible apply s_dput | with_reducible apply e_makeK | with_reducible apply g_cons | with_reducible apply g_nil | with_reducible apply c_ab | with_reducible apply c_in
  | with_reducible apply c_mx | with_reducible apply c_mn | with_reducible apply a1 | with_reducible apply a2 | with_reducible apply a3 | with_reducible apply a4
  | with_reducible apply a5 | with_reducible apply a6 | with_reducible apply a0 | with_reducible apply t_tru | with_reducible apply t_yes | ((with_reducible refine' k_truL ?h1 ?_); (case h1 => walk_at "sq")) | with_reducible refine d_nx ?_ | with_reducible refine d_rt ?_ | with_reducible refine d_bk ?_
  | with_reducible refine d_ct ?_))
local macro_rules | `(tactic| walk_at "r") => `(tactic| (repeat walk_at "r1"))
section
variable {P : Program} {w : World} {K : PySem.W.Frag} {mg : Str → Option Value} {base : Heap} {a : Ads}
/-! ### the law -/
structure Wr (C : Addr) (H : Hp) (st sl p il tl o oi ot rl : Addr) (cs : List Addr) (cap : Int) (R : List (It × Int)) : Prop where
  S : StAt H st sl
  B : RqAt C H p il tl cap R
  O : RqAt C H o oi ot cap []
  X : RwAt H rl cs R
  nd : [rl, o, oi, ot, p, il, tl, st, sl].Nodup
  nc : ∀ c ∈ cs, c ∉ [rl, o, oi, ot, p, il, tl, st, sl]
section
variable {C st sl p il tl o oi ot rl : Addr} {cs : List Addr} {H H1 : Hp} {cap : Int} {R : List (It × Int)}
theorem Wr.inn (W : Wr C H st sl p il tl o oi ot rl cs cap R) : Inn H [rl, o, oi, ot, p, il, tl, st, sl] := Inn.cons W.X.ol (W.O.inn.app (W.B.inn.app W.S.inn))
theorem Wr.fp (W : Wr C H st sl p il tl o oi ot rl cs cap R) (f : Fp [] H H1) : Wr C H1 st sl p il tl o oi ot rl cs cap R :=
  ⟨W.S.fp f (by simp) (by simp), W.B.fp0 f, W.O.fp0 f, W.X.fp0 f, W.nd, W.nc⟩
theorem Wr.draw (W : Wr C H st sl p il tl o oi ot rl cs cap R) (S : StAt H1 st sl) (f : Fp [st, sl] H H1) : Wr C H1 st sl p il tl o oi ot rl cs cap R := by
  have nd := W.nd
  simp only [List.nodup_cons, List.mem_cons, List.not_mem_nil, or_false, not_or, List.append_nil, List.cons_append, List.nil_append] at nd
  obtain ⟨⟨n_rl_o, n_rl_oi, n_rl_ot, n_rl_p, n_rl_il, n_rl_tl, n_rl_st, n_rl_sl⟩, ⟨n_o_oi, n_o_ot, n_o_p, n_o_il, n_o_tl, n_o_st, n_o_sl⟩, ⟨n_oi_ot, n_oi_p, n_oi_il, n_oi_tl, n_oi_st, n_oi_sl⟩, ⟨n_ot_p, n_ot_il, n_ot_tl, n_ot_st, n_ot_sl⟩, ⟨n_p_il, n_p_tl, n_p_st, n_p_sl⟩, ⟨n_il_tl, n_il_st, n_il_sl⟩, ⟨n_tl_st, n_tl_sl⟩, n_st_sl, _⟩ := nd
  obtain ⟨_, _, z1, z2, _⟩ := W.S
  have n : NoT H [st, sl] := .cons z1 (.cons z2 .nil)
  refine ⟨S, W.B.fp f n (by walk_at "nin") (by walk_at "nin") (by walk_at "nin"), W.O.fp f n (by walk_at "nin") (by walk_at "nin") (by walk_at "nin"), W.X.fp f n (by walk_at "nin") fun c hc => ?_, W.nd, W.nc⟩
  have := W.nc c hc
  simp only [List.mem_cons, List.not_mem_nil, or_false, not_or] at this ⊢
  exact ⟨this.2.2.2.2.2.2.2.1, this.2.2.2.2.2.2.2.2⟩
/-- behind arrivals and takes -/
theorem Wr.deed (W : Wr C H st sl p il tl o oi ot rl cs cap R) {cs' : List Addr} {R' : List (It × Int)} (B : RqAt C H1 p il tl cap R') (X : RwAt H1 rl cs' R') (hc : ∀ c ∈ cs', c ∈ cs ∨ H c = none) (f : Fp (rl :: il :: tl :: cs) H H1) : Wr C H1 st sl p il tl o oi ot rl cs' cap R' := by
  have nd := W.nd
  simp only [List.nodup_cons, List.mem_cons, List.not_mem_nil, or_false, not_or, List.append_nil, List.cons_append, List.nil_append] at nd
  obtain ⟨⟨n_rl_o, n_rl_oi, n_rl_ot, n_rl_p, n_rl_il, n_rl_tl, n_rl_st, n_rl_sl⟩, ⟨n_o_oi, n_o_ot, n_o_p, n_o_il, n_o_tl, n_o_st, n_o_sl⟩, ⟨n_oi_ot, n_oi_p, n_oi_il, n_oi_tl, n_oi_st, n_oi_sl⟩, ⟨n_ot_p, n_ot_il, n_ot_tl, n_ot_st, n_ot_sl⟩, ⟨n_p_il, n_p_tl, n_p_st, n_p_sl⟩, ⟨n_il_tl, n_il_st, n_il_sl⟩, ⟨n_tl_st, n_tl_sl⟩, n_st_sl, _⟩ := nd
  have n : NoT H (rl :: il :: tl :: cs) := fun y hy => by
    rcases List.mem_cons.mp hy with rfl | hy
    · exact W.X.not _ (by simp)
    · rcases List.mem_cons.mp hy with rfl | hy
      · exact W.B.not _ (by simp)
      · rcases List.mem_cons.mp hy with rfl | hy
        · exact W.B.not _ (by simp)
        · exact W.X.not _ (List.mem_cons_of_mem _ hy)
  have nn : ∀ x ∈ [rl, o, oi, ot, p, il, tl, st, sl], x ∉ cs := fun x hx h => W.nc x h hx
  have i1 := nn o (by simp)
  have i2 := nn oi (by simp)
  have i3 := nn ot (by simp)
  have i4 := nn st (by simp)
  have i5 := nn sl (by simp)
  refine ⟨W.S.fp f (by walk_at "nin") (by walk_at "nin"), B, W.O.fp f n (by walk_at "nin") (by walk_at "nin") (by walk_at "nin"), X, W.nd, fun c h => ?_⟩
  rcases hc c h with h | h
  · exact W.nc c h
  · exact W.inn.fresh h
end
theorem ok_law (T : Txt P w K mg base a) : FnOk P w K mg base (L2.CX P w) 6 a.f_law a.fd_law ["script"] (sp_law K a) := by
  have G_law_state := ok_law_state T
  have G_law_draw := ok_law_draw T
  have G_ReceiveQueue_init := ok_ReceiveQueue_init T
  have G_law_pick := ok_law_pick T
  have G_law_takes := ok_law_takes T
  have G_law_arrives := ok_law_arrives T
  have G_law_agrees := ok_law_agrees T
  refine T.F_law.okX sc_law (fun vs H Q E h => A1.len h) (fun cdv A outer s H vs Q E hr h => ?_)
  have hu := hu_of hr
  obtain ⟨v_script, rfl, h⟩ := h
  refine ⟨_, (pss_cons (ps_set (i := 1) sc_law.nd rfl (by first | exact Or.inl rfl | exact Or.inr rfl) (pe_callS G_law_state (hr.mono (by decide)) rfl T.g_law_state T.F_law_state.kp T.b_law_state (fun σ => passAt (takes_of rfl rfl rfl rfl) σ) (pa_cons (pv 0) pa_nil)))
    (pss_cons (ps_set (i := 2) sc_law.nd rfl (by first | exact Or.inl rfl | exact Or.inr rfl) (pe_op op_add pe_int (pe_callS G_law_draw (hr.mono (by decide)) rfl T.g_law_draw T.F_law_draw.kp T.b_law_draw (fun σ => passAt (takes_of rfl rfl rfl rfl) σ) (pa_cons (pv 1) (pa_cons pe_int pa_nil)))))
    (Evl.pss_cut (ps_if (pt_cmpR op_eq (pe_callS G_law_draw (hr.mono (by decide)) rfl T.g_law_draw T.F_law_draw.kp T.b_law_draw (fun σ => passAt (takes_of rfl rfl rfl rfl) σ) (pa_cons (pv 1) (pa_cons pe_int pa_nil))) pe_int (nomark _)) (pss_one (ps_set (i := 2) sc_law.nd rfl (by first | exact Or.inl rfl | exact Or.inr rfl) (pe_op op_add pe_int (pe_callS G_law_draw (hr.mono (by decide)) rfl T.g_law_draw T.F_law_draw.kp T.b_law_draw (fun σ => passAt (takes_of rfl rfl rfl rfl) σ) (pa_cons (pv 1) (pa_cons pe_int pa_nil)))))) pss_nil)
    (pss_cons (ps_set (i := 3) sc_law.nd rfl (by first | exact Or.inl rfl | exact Or.inr rfl) (pe_makeS T.mk_ReceiveQueue G_ReceiveQueue_init (hr.mono (by decide)) rfl T.g_ReceiveQueue T.b_ReceiveQueue_init (fun σ => passAt (takes_of rfl rfl rfl rfl) σ) (pa_cons (pv 2) pa_nil)))
    (pss_cons (ps_set (i := 4) sc_law.nd rfl (by first | exact Or.inl rfl | exact Or.inr rfl) (pe_makeS T.mk_ReceiveQueue G_ReceiveQueue_init (hr.mono (by decide)) rfl T.g_ReceiveQueue T.b_ReceiveQueue_init (fun σ => passAt (takes_of rfl rfl rfl rfl) σ) (pa_cons (pv 2) pa_nil)))
    (pss_cons (ps_set (i := 5) sc_law.nd rfl (by first | exact Or.inl rfl | exact Or.inr rfl) (pe_lst pa_nil))
    (pss_cons (ps_set (i := 6) sc_law.nd rfl (by first | exact Or.inl rfl | exact Or.inr rfl) (pe_callS G_law_pick (hr.mono (by decide)) rfl T.g_law_pick T.F_law_pick.kp T.b_law_pick (fun σ => passAt (takes_of rfl rfl rfl rfl) σ) (pa_cons (pv 1) (pa_cons (pe_lst (pa_cons pe_int (pa_cons pe_int (pa_cons pe_int (pa_cons (pe_callS G_law_draw (hr.mono (by decide)) rfl T.g_law_draw T.F_law_draw.kp T.b_law_draw (fun σ => passAt (takes_of rfl rfl rfl rfl) σ) (pa_cons (pv 1) (pa_cons pe_int pa_nil))) pa_nil))))) pa_nil))))
    (pss_cons (ps_for (passes_of rfl) rfl (pi_list (pe_slice sl_list (pv 0) po_none (po_some pe_int))) (pg_name (i := 7) sc_law.nd rfl (by first | exact Or.inl rfl | exact Or.inr rfl)) (pss_cons (ps_set (i := 8) sc_law.nd rfl (by first | exact Or.inl rfl | exact Or.inr rfl) (pe_callS G_law_pick (hr.mono (by decide)) rfl T.g_law_pick T.F_law_pick.kp T.b_law_pick (fun σ => passAt (takes_of rfl rfl rfl rfl) σ) (pa_cons (pv 1) (pa_cons (pe_lst (pa_cons pe_int (pa_cons pe_int (pa_cons pe_int (pa_cons pe_int (pa_cons (pe_op op_add pe_int (pe_callS G_law_draw (hr.mono (by decide)) rfl T.g_law_draw T.F_law_draw.kp T.b_law_draw (fun σ => passAt (takes_of rfl rfl rfl rfl) σ) (pa_cons (pv 1) (pa_cons pe_int pa_nil)))) pa_nil)))))) pa_nil))))
    (pss_cons (ps_set (i := 9) sc_law.nd rfl (by first | exact Or.inl rfl | exact Or.inr rfl) (pe_cmpR op_lt (pe_callS G_law_draw (hr.mono (by decide)) rfl T.g_law_draw T.F_law_draw.kp T.b_law_draw (fun σ => passAt (takes_of rfl rfl rfl rfl) σ) (pa_cons (pv 1) (pa_cons pe_int pa_nil))) pe_int (nomark _)))
    (pss_cons (ps_for (passes_of rfl) rfl (pi_range1 rfl T.g_range (pa_cons (pv 8) pa_nil)) (pg_name (i := 10) sc_law.nd rfl (by first | exact Or.inl rfl | exact Or.inr rfl)) (pss_one (ps_if (pt_val (pv 9)) (pss_one (ps_if (pt_not (pt_val (pe_callS G_law_takes (hr.mono (by decide)) rfl T.g_law_takes T.F_law_takes.kp T.b_law_takes (fun σ => passAt (takes_of rfl rfl rfl rfl) σ) (pa_cons (pv 3) (pa_cons (pv 5) pa_nil))))) (pss_one (ps_ret pe_bl)) pss_nil)) (pss_one (ps_if (pt_not (pt_val (pe_callS G_law_arrives (hr.mono (by decide)) rfl T.g_law_arrives T.F_law_arrives.kp T.b_law_arrives (fun σ => passAt (takes_of rfl rfl rfl rfl) σ) (pa_cons (pv 3) (pa_cons (pv 5) (pa_cons (pv 2) (pa_cons (pe_callS G_law_draw (hr.mono (by decide)) rfl T.g_law_draw T.F_law_draw.kp T.b_law_draw (fun σ => passAt (takes_of rfl rfl rfl rfl) σ) (pa_cons (pv 1) (pa_cons pe_int pa_nil))) (pa_cons (pv 6) pa_nil)))))))) (pss_one (ps_ret pe_bl)) pss_nil)))))
    (pss_cons (ps_set (i := 6) sc_law.nd rfl (by first | exact Or.inl rfl | exact Or.inr rfl) (pe_op op_add (pv 6) (pe_callS G_law_draw (hr.mono (by decide)) rfl T.g_law_draw T.F_law_draw.kp T.b_law_draw (fun σ => passAt (takes_of rfl rfl rfl rfl) σ) (pa_cons (pv 1) (pa_cons pe_int pa_nil)))))
    (pss_one (ps_if (pt_not (pt_val (pe_callS G_law_agrees (hr.mono (by decide)) rfl T.g_law_agrees T.F_law_agrees.kp T.b_law_agrees (fun σ => passAt (takes_of rfl rfl rfl rfl) σ) (pa_cons (pv 3) (pa_cons (pv 5) (pa_cons (pv 2) pa_nil)))))) (pss_one (ps_ret pe_bl)) pss_nil)))))))
    (pss_one (ps_ret (pe_and (pe_callS G_law_agrees (hr.mono (by decide)) rfl T.g_law_agrees T.F_law_agrees.kp T.b_law_agrees (fun σ => passAt (takes_of rfl rfl rfl rfl) σ) (pa_cons (pv 3) (pa_cons (pv 5) (pa_cons (pv 2) pa_nil)))) (pe_one (pe_callS G_law_agrees (hr.mono (by decide)) rfl T.g_law_agrees T.F_law_agrees.kp T.b_law_agrees (fun σ => passAt (takes_of rfl rfl rfl rfl) σ) (pa_cons (pv 4) (pa_cons (pe_lst pa_nil) (pa_cons (pv 2) pa_nil)))))))))))))))), ?_⟩
  obtain ⟨b, ns, rfl, hS, hn, k⟩ := h
  walk_at "r"
  refine a1 ⟨b, ns, rfl, hS, hn, fun st sl H1 hst hsl S1 f1 => ?_⟩
  walk_at "r"
  refine a2 ⟨st, sl, 16, rfl, rfl, S1, by omega, by omega, fun r1 H2 a1 b1 S2 f2 => ?_⟩
  have F2 := f1.add f2 (by simp [hst, hsl])
  walk_at "r"
  refine s_cut (fun σ H3 => ∃ cap : Int, 1 ≤ cap ∧ σ = [some (.ref b), some (.ref st), some (.int cap), none, none, none, none, none, none, none, none] ∧ StAt H3 st sl ∧ Fp [] H H3) ?_ ?_
  · walk_at "r"
    refine Rd.a2 ⟨st, sl, 2, rfl, rfl, S2, by omega, by omega, fun r3 H3 a3 b3 S3 f3 => ?_⟩
    have F3 := F2.add f3 (by simp [hst, hsl])
    walk_at "r"
    refine if_d (fun c => ?_) (fun c => ?_)
    · walk_at "r"
      refine Rd.a2 ⟨st, sl, 3, rfl, rfl, S3, by omega, by omega, fun r4 H4 a4 b4 S4 f4 => ?_⟩
      walk_at "r"
      exact ⟨1 + r4, by omega, rfl, S4, F3.add f4 (by simp [hst, hsl])⟩
    · walk_at "r"
      exact ⟨1 + r1, by omega, rfl, S3, F3⟩
  clear S1 S2 f1 f2 F2 a1 b1
  rintro σ H2 ⟨cap, hcap, rfl, S2, F2⟩
  walk_at "r"
  intro p dx np ndx nedx
  have hp0 := F2.free (by simp) np
  have nd2 := nd_new S2.nd (S2.inn.fresh np)
  have g6 : upd (upd H2 dx (.own p)) p (.ins a.C_ReceiveQueue dx []) p = some (.ins a.C_ReceiveQueue dx []) := upd_same
  have f6 : Fp [] H2 (upd (upd H2 dx (.own p)) p (.ins a.C_ReceiveQueue dx [])) := (Fp.new ndx).trans (Fp.new (by rw [upd_ne nedx.symm]; exact np))
  have S6 := S2.fp f6 (by simp) (by simp)
  have F6 := F2.trans f6
  generalize upd (upd H2 dx (.own p)) p (.ins a.C_ReceiveQueue dx []) = H6 at g6 S6 F6 ⊢
  refine Rd.a2 ⟨p, dx, cap, rfl, rfl, g6, fun il tl H7 hil htl nit B7 f7 => ⟨rfl, ?_⟩⟩
  have I6 := Inn.cons g6 S6.inn
  have q1 := I6.fresh hil
  have q2 := I6.fresh htl
  simp only [List.mem_cons, List.not_mem_nil, or_false, not_or] at q1 q2
  obtain ⟨q11, q12, q13⟩ := q1
  obtain ⟨q21, q22, q23⟩ := q2
  have nd := nd2
  simp only [List.nodup_cons, List.mem_cons, List.not_mem_nil, or_false, not_or, List.append_nil, List.cons_append, List.nil_append] at nd
  obtain ⟨⟨n_p_st, n_p_sl⟩, n_st_sl, _⟩ := nd
  have nd3 : [p, il, tl, st, sl].Nodup := by
    simp only [List.nodup_cons, List.mem_cons, List.not_mem_nil, or_false, not_or, not_false_eq_true, List.nodup_nil, and_true]
    (repeat' refine And.intro ?_ ?_) <;> walk_at "ne"
  have S7 := S6.fp f7 (by walk_at "nin") (by walk_at "nin")
  have F7 := F6.add f7 (by simp [hp0])
  clear S2 F2 S6 F6 g6 f6 I6 f7
  walk_at "r"
  intro o dy no ndy nedy
  have ho0 := F7.free (by simp) no
  have nd4 := nd_new nd3 ((B7.inn.app S7.inn).fresh no)
  have g9 : upd (upd H7 dy (.own o)) o (.ins a.C_ReceiveQueue dy []) o = some (.ins a.C_ReceiveQueue dy []) := upd_same
  have f9 : Fp [] H7 (upd (upd H7 dy (.own o)) o (.ins a.C_ReceiveQueue dy [])) := (Fp.new ndy).trans (Fp.new (by rw [upd_ne nedy.symm]; exact no))
  have S9 := S7.fp f9 (by simp) (by simp)
  have B9 := B7.fp0 f9
  have F9 := F7.trans f9
  generalize upd (upd H7 dy (.own o)) o (.ins a.C_ReceiveQueue dy []) = H9 at g9 S9 F9 B9 ⊢
  refine Rd.a2 ⟨o, dy, cap, rfl, rfl, g9, fun oi ot H10 hoi hot noo O10 f10 => ⟨rfl, ?_⟩⟩
  have I9 := Inn.cons g9 (B9.inn.app S9.inn)
  have t1 := I9.fresh hoi
  have t2 := I9.fresh hot
  simp only [List.mem_cons, List.not_mem_nil, or_false, not_or, List.cons_append, List.nil_append] at t1 t2
  obtain ⟨t11, t12, t13, t14, t15, t16⟩ := t1
  obtain ⟨t21, t22, t23, t24, t25, t26⟩ := t2
  have nd := nd4
  simp only [List.nodup_cons, List.mem_cons, List.not_mem_nil, or_false, not_or, List.append_nil, List.cons_append, List.nil_append] at nd
  obtain ⟨⟨n_o_p, n_o_il, n_o_tl, n_o_st, n_o_sl⟩, ⟨n_p_il, n_p_tl, n_p_st, n_p_sl⟩, ⟨n_il_tl, n_il_st, n_il_sl⟩, ⟨n_tl_st, n_tl_sl⟩, n_st_sl, _⟩ := nd
  have nd5 : [o, oi, ot, p, il, tl, st, sl].Nodup := by
    simp only [List.nodup_cons, List.mem_cons, List.not_mem_nil, or_false, not_or, not_false_eq_true, List.nodup_nil, and_true]
    (repeat' refine And.intro ?_ ?_) <;> walk_at "ne"
  have S10 := S9.fp f10 (by walk_at "nin") (by walk_at "nin")
  have B10 := B9.fp f10 (.ins g9 .nil) (by walk_at "nin") (by walk_at "nin") (by walk_at "nin")
  have F10 := F9.add f10 (by simp [ho0])
  clear S7 F7 S9 F9 B7 B9 g9 f9 f10 I9
  walk_at "r"
  refine ⟨sz (by simp), fun rl hrl => ?_⟩
  have f11 : Fp [] H10 (upd H10 rl (.lst [])) := Fp.new hrl
  have W11 : Wr a.C_ReceiveQueue (upd H10 rl (.lst [])) st sl p il tl o oi ot rl [] cap [] :=
    ⟨S10.fp f11 (by simp) (by simp), B10.fp0 f11, O10.fp0 f11, .nil upd_same, nd_new nd5 ((O10.inn.app (B10.inn.app S10.inn)).fresh hrl), fun _ h => by cases h⟩
  have F11 := F10.trans f11
  generalize upd H10 rl _ = H11 at W11 F11 ⊢
  clear S10 F10 B10 O10 f11 nd2 nd3 nd4 nd5 q11 q12 q13 q21 q22 q23 t11 t12 t13 t14 t15 t16 t21 t22 t23 t24 t25 t26
  clear n_o_p n_o_il n_o_tl n_o_st n_o_sl n_p_il n_p_tl n_p_st n_p_sl n_il_tl n_il_st n_il_sl n_tl_st n_tl_sl n_st_sl
  have nd := W11.nd
  simp only [List.nodup_cons, List.mem_cons, List.not_mem_nil, or_false, not_or, List.append_nil, List.cons_append, List.nil_append] at nd
  obtain ⟨⟨n_rl_o, n_rl_oi, n_rl_ot, n_rl_p, n_rl_il, n_rl_tl, n_rl_st, n_rl_sl⟩, ⟨n_o_oi, n_o_ot, n_o_p, n_o_il, n_o_tl, n_o_st, n_o_sl⟩, ⟨n_oi_ot, n_oi_p, n_oi_il, n_oi_tl, n_oi_st, n_oi_sl⟩, ⟨n_ot_p, n_ot_il, n_ot_tl, n_ot_st, n_ot_sl⟩, ⟨n_p_il, n_p_tl, n_p_st, n_p_sl⟩, ⟨n_il_tl, n_il_st, n_il_sl⟩, ⟨n_tl_st, n_tl_sl⟩, n_st_sl, _⟩ := nd
  walk_at "r"
  refine Rd.a2 ⟨st, sl, 1000000, rfl, rfl, W11.S, by omega, by omega, fun r12 H12 a12 b12 S12 f12 => ?_⟩
  have W12 := W11.draw S12 f12
  have F12 := F11.add f12 (by simp [hst, hsl])
  clear W11 F11 S12 f12
  walk_at "r"
  refine ⟨sz (by simp), fun l13 h13 => ?_⟩
  have f13 : Fp [] H12 (upd H12 l13 (.lst [.int 0, .int 1, .int 5, .int r12])) := Fp.new h13
  have P13 : upd H12 l13 (.lst [.int 0, .int 1, .int 5, .int r12]) l13 = some (.lst ([0, 1, 5, r12].map V.int)) := upd_same
  have W13 := W12.fp f13
  have F13 := F12.trans f13
  have n13 := W12.inn.fresh h13
  simp only [List.mem_cons, List.not_mem_nil, or_false, not_or] at n13
  obtain ⟨_, _, _, _, _, _, _, n131, n132⟩ := n13
  generalize upd H12 l13 _ = H13 at P13 W13 F13 ⊢
  clear W12 F12 f13
  walk_at "r"
  refine Rd.a2 ⟨st, sl, l13, [0, 1, 5, r12], rfl, rfl, W13.S, P13, fun e => n131 e.symm, fun e => n132 e.symm, by simp, by simp, fun tick H14 htick S14 f14 => ?_⟩
  have W14 := W13.draw S14 f14
  have F14 := F13.add f14 (by simp [hst, hsl])
  have hS14 := F14.seq (by simp) hS
  clear W13 F13 F14 S14 f14 P13 n131 n132 h13 htick
  walk_at "r"
  refine f_listS rfl hS14 fun c hc => ?_
  refine ⟨fun i σ H' => ∃ (cs : List Addr) (R : List (It × Int)) (tick : Int) (u1 u2 u3 u4 : Option V), σ = [some (.ref b), some (.ref st), some (.int cap), some (.ref p), some (.ref o), some (.ref rl), some (.int tick), u1, u2, u3, u4] ∧ Wr a.C_ReceiveQueue H' st sl p il tl o oi ot rl cs cap R ∧ R.length ≤ 50 * i ∧ H' c = some (.lst (cutV (ns.map V.int) none (some 63))) ∧ c ∉ [rl, o, oi, ot, p, il, tl, st, sl] ∧ c ∉ cs, ?_, fun i σ H' _ ⟨_, _, _, _, _, _, _, _, _, _, hc, _⟩ => Or.inl (Or.inl hc), ?_, ?_⟩
  · exact ⟨[], [], tick, _, _, _, _, rfl, W14.fp (Fp.new hc), by simp, upd_same, W14.inn.fresh hc, by simp⟩
  · clear W14
    rintro i x σ H1 hx ⟨cs, R, tick, u1, u2, u3, u4, rfl, W, hR, hc, nc, ncs⟩
    have hi : i < 63 := by
      have h1 := (List.getElem?_eq_some_iff.mp hx).1
      have h2 := cutV_length (ns.map V.int) none (some 63)
      rw [List.length_map] at h2
      omega
    have nc0 := nc
    simp only [List.mem_cons, List.not_mem_nil, or_false, not_or] at nc
    obtain ⟨m1, m2, m3, m4, m5, m6, m7, m8, m9⟩ := nc
    walk_at "r"
    refine Rd.a2 ⟨st, sl, 40, rfl, rfl, W.S, by omega, by omega, fun r2 H2 a2 b2 S2 f2 => ?_⟩
    have W2 := W.draw S2 f2
    have hc2 := f2 _ _ hc (by walk_at "nin")
    clear W S2 f2 hc
    walk_at "r"
    refine ⟨sz (by simp), fun l3 h3 => ?_⟩
    have f3 : Fp [] H2 (upd H2 l3 (.lst [.int 1, .int 1, .int 2, .int 3, .int (1 + r2)])) := Fp.new h3
    have P3 : upd H2 l3 (.lst [.int 1, .int 1, .int 2, .int 3, .int (1 + r2)]) l3 = some (.lst ([1, 1, 2, 3, 1 + r2].map V.int)) := upd_same
    have W3 := W2.fp f3
    have hc3 := f3 _ _ hc2 (by simp)
    have n3 := W2.inn.fresh h3
    simp only [List.mem_cons, List.not_mem_nil, or_false, not_or] at n3
    obtain ⟨_, _, _, _, _, _, _, n31, n32⟩ := n3
    generalize upd H2 l3 _ = H3 at P3 W3 hc3 ⊢
    clear W2 f3 hc2
    walk_at "r"
    refine Rd.a2 ⟨st, sl, l3, [1, 1, 2, 3, 1 + r2], rfl, rfl, W3.S, P3, fun e => n31 e.symm, fun e => n32 e.symm, by simp, by simp, fun many H4 hm S4 f4 => ?_⟩
    have hm2 : 0 ≤ many ∧ many ≤ 40 := by
      simp only [List.mem_cons, List.not_mem_nil, or_false] at hm
      omega
    have W4 := W3.draw S4 f4
    have hc4 := f4 _ _ hc3 (by walk_at "nin")
    clear W3 S4 f4 hc3 P3 n31 n32 h3 hm
    walk_at "r"
    refine Rd.a2 ⟨st, sl, 5, rfl, rfl, W4.S, by omega, by omega, fun r5 H5 a5 b5 S5 f5 => ?_⟩
    have W5 := W4.draw S5 f5
    have hc5 := f5 _ _ hc4 (by walk_at "nin")
    clear W4 S5 f5 hc4
    walk_at "r"
    refine f_rng1 ?_
    walk_at "r"
    refine k_rng (fun j σ H' => ∃ (cs : List Addr) (R : List (It × Int)) (u4 : Option V), σ = [some (.ref b), some (.ref st), some (.int cap), some (.ref p), some (.ref o), some (.ref rl), some (.int tick), some x, some (.int many), some (.bl (decide (r5 < 2))), u4] ∧ Wr a.C_ReceiveQueue H' st sl p il tl o oi ot rl cs cap R ∧ R.length ≤ 50 * i + j ∧ H' c = some (.lst (cutV (ns.map V.int) none (some 63))) ∧ c ∉ cs) (by omega) (by omega) ?_ ?_ ?_
    · exact ⟨cs, R, _, rfl, W5, by omega, hc5, ncs⟩
    · clear W5 hc5 ncs hR
      rintro j σ H1 hj ⟨cs, R, u4, rfl, W, hR, hc, ncs⟩
      have nil : il ∉ rl :: cs := nin_c (Ne.symm n_rl_il) fun h => W.nc _ h (by simp)
      have ntl : tl ∉ rl :: cs := nin_c (Ne.symm n_rl_tl) fun h => W.nc _ h (by simp)
      walk_at "r"
      refine if_d (fun ct => ?_) (fun ct => ?_)
      · walk_at "r"
        refine Rd.a2 ⟨p, il, tl, rl, cs, cap, R, rfl, rfl, W.B, W.X, by omega, nil, ntl, fun cs' H2 B2 X2 h2 f2 => ?_⟩
        have hc2 := f2 _ _ hc (by walk_at "nin")
        walk_at "r"
        refine iteF ?_
        walk_at "r"
        exact ⟨cs', R.tail, _, rfl, W.deed B2 X2 (fun c hc => .inl (h2 c hc)) f2, by rw [List.length_tail]; omega, hc2, fun h => ncs (h2 c h)⟩
      · walk_at "r"
        refine Rd.a2 ⟨st, sl, 256, rfl, rfl, W.S, by omega, by omega, fun r6 H6 a6 b6 S6 f6 => ?_⟩
        have W6 := W.draw S6 f6
        have hc6 := f6 _ _ hc (by walk_at "nin")
        clear W S6 f6 hc
        walk_at "r"
        refine Rd.a5 ⟨p, il, tl, rl, cs, cap, r6, tick, R, rfl, rfl, rfl, rfl, rfl, W6.B, W6.X, by omega, hcap, nil, ntl, fun cs' H2 B2 X2 h2 f2 => ?_⟩
        have hc2 := f2 _ _ hc6 (by walk_at "nin")
        walk_at "r"
        refine iteF ?_
        walk_at "r"
        refine ⟨cs', arrT R cap r6 tick, _, rfl, W6.deed B2 X2 h2 f2, by have := arrT_len R cap r6 tick; omega, hc2, fun h => ?_⟩
        rcases h2 c h with h | h
        · exact ncs h
        · rw [hc6] at h; cases h
    · clear W5 hc5 ncs hR
      rintro σ H1 ⟨cs, R, u4, rfl, W, hR, hc, ncs⟩
      walk_at "r"
      refine Rd.a2 ⟨st, sl, 4, rfl, rfl, W.S, by omega, by omega, fun r2 H2 a2 b2 S2 f2 => ?_⟩
      have W2 := W.draw S2 f2
      have hc2 := f2 _ _ hc (by walk_at "nin")
      clear W S2 f2 hc
      walk_at "r"
      refine Rd.a3 ⟨p, il, tl, rl, cs, cap, R, rfl, rfl, rfl, W2.B, W2.X, by omega, fun H3 f3 => ?_⟩
      walk_at "r"
      refine iteF ?_
      walk_at "r"
      exact ⟨cs, R, _, _, _, _, _, rfl, W2.fp f3, by omega, f3 _ _ hc2 (by simp), nc0, ncs⟩
  · rintro σ H1 ⟨cs, R, tick, u1, u2, u3, u4, rfl, W, hR, hc, nc, ncs⟩
    have h2 := cutV_length (ns.map V.int) none (some 63)
    rw [List.length_map] at h2
    walk_at "r"
    refine Rd.a3 ⟨p, il, tl, rl, cs, cap, R, rfl, rfl, rfl, W.B, W.X, by omega, fun H3 f3 => ?_⟩
    have W3 := W.fp f3
    walk_at "r"
    refine iteT ?_
    walk_at "r"
    refine ⟨sz (by simp), fun e5 he5 => ?_⟩
    have f5 : Fp [] H3 (upd H3 e5 (.lst [])) := Fp.new he5
    walk_at "r"
    refine Rd.a3 ⟨o, oi, ot, e5, [], cap, [], rfl, rfl, rfl, W3.O.fp0 f5, .nil upd_same, by simp, fun H6 f6 => ?_⟩
    walk_at "r"
    exact k _
end
end My
set_option Elab.async false
set_option maxRecDepth 100000
set_option maxHeartbeats 100000000
set_option linter.all false
namespace My
open PySem L2 Sx Rd
local macro_rules | `(tactic| walk_at "ne") => `(tactic| (first | with_reducible assumption | with_reducible exact Ne.symm (by with_reducible assumption)))
local macro_rules | `(tactic| walk_at "nin") => `(tactic| (simp only [List.mem_cons, List.not_mem_nil, or_false, not_or, not_false_eq_true]; (repeat' refine And.intro ?_ ?_); (all_goals walk_at "ne")))
local macro_rules | `(tactic| walk_at "hl") => `(tactic| (first | (with_reducible assumption) | exact upd_same | ((with_reducible refine' (upd_ne ?hne).trans ?hgo); (case hne => walk_at "ne"); (case hgo => walk_at "hl"))))
local macro_rules | `(tactic| walk_at "sq") => `(tactic| (first | (with_reducible assumption) | exact Or.inl (Or.inl (by walk_at "hl"))))
local macro_rules | `(tactic| walk_at "ar") => `(tactic| (first | omega | exact ⟨by omega, by omega⟩ | exact Or.inl ⟨by omega, by omega⟩ | exact Or.inr ⟨by omega, by omega⟩ | (show (0 : Int) < _; omega) | (show (0 : Int) < _ ∧ _ < (1073741824 : Int); omega)))
local macro_rules | `(tactic| walk_at "cls") => `(tactic| (first | exact Txt.cl_ReceiveQueue (by assumption)))
local macro_rules | `(tactic| walk_at "noa") => `(tactic| (first | exact Txt.n_ReceiveQueue_capacity (by assumption) | exact Txt.n_ReceiveQueue_items (by assumption) | exact Txt.n_ReceiveQueue_ticks (by assumption)))
local macro_rules | `(tactic| walk_at "lkp") => `(tactic| (first | (with_reducible exact F_ReceiveQueue_capacity_l) | (with_reducible exact F_ReceiveQueue_items_l) | (with_reducible exact F_ReceiveQueue_ticks_l)))
local macro_rules | `(tactic| walk_at "ptf") => `(tactic| (first | (with_reducible exact F_ReceiveQueue_capacity_p) | (with_reducible exact F_ReceiveQueue_items_p) | (with_reducible exact F_ReceiveQueue_ticks_p) | exact rfl))
local macro_rules | `(tactic| walk_at "lnF") => `(tactic| (first | (with_reducible exact F_ReceiveQueue_len) | (refine PL.lt (n := 60) ?_ (by decide); (repeat refine PL.put ?_); exact PL.nil) | decide))
local macro_rules | `(tactic| walk_at "nol") => `(tactic| (first | (with_reducible exact F_ReceiveQueue_m_arrive) | (with_reducible exact F_ReceiveQueue_m_first) | (with_reducible exact F_ReceiveQueue_m_take) | (with_reducible exact F_ReceiveQueue_m_oldest_tick) | (with_reducible exact F_ReceiveQueue_m_bytes_held) | (with_reducible exact F_ReceiveQueue_m_contents) | (with_reducible exact F_ReceiveQueue_m_append) | (with_reducible exact F_ReceiveQueue_m_lose)))
local macro_rules | `(tactic| walk_at "r1") => `(tactic| (first
  | with_reducible apply l_cons | ((with_reducible apply e_var); (case h => exact rfl)) | with_reducible apply l_nil | with_reducible apply s_seq | with_reducible apply e_c | with_reducible apply g_name
  | with_reducible apply s_asg | with_reducible apply e_call | with_reducible apply k_t | with_reducible apply e_op | with_reducible apply e_cb | with_reducible apply t_test
  | with_reducible apply s_if | with_reducible apply t_or | with_reducible apply t_and | with_reducible apply t_B | with_reducible apply s_next | with_reducible apply p_some
  | with_reducible apply p_no | with_reducible apply e_sl | with_reducible apply k_i | with_reducible apply e_lst | with_reducible apply t_not | with_reducible apply o_I0
  | ((with_reducible refine' o_I ?hc ?_); (case hc => walk_at "ar")) | with_reducible apply e_meth | ((with_reducible refine' k_meth ?h1 ?h2 ?_); (case h1 => walk_at "hl"); (case h2 => walk_at "nol")) | with_reducible apply e_fld | ((with_reducible refine' k_fld ?h1 ?h2 ?h3 ?h4 ?_); (case h1 => walk_at "hl"); (case h2 => walk_at "cls"); (case h3 => walk_at "noa"); (case h4 => walk_at "lkp")) | with_reducible apply e_not
  | with_reducible apply s_ret | ((with_reducible refine' k_ty ?h1 ?_); (case h1 => walk_at "sq")) | with_reducible apply s_drop | with_reducible apply s_retN | with_reducible apply s_cont | with_reducible apply s_break
  | with_reducible apply o_chC | ((with_reducible refine' o_chV ?hv ?_); (case hv => exact rfl)) | with_reducible apply e_un | with_reducible apply o_U | ((with_reducible refine' o_eq ?hs ?_); (case hs => exact rfl)) | ((with_reducible refine' o_ne ?hs ?_); (case hs => exact rfl))
  | ((with_reducible refine' o_ixL ?h1 ?h2 ?_); (case h1 => walk_at "sq"); (case h2 => first | exact rfl | exact atI_zero _ _)) | with_reducible apply s_fld | with_reducible apply e_make | ((with_reducible refine' k_set ?h1 ?h2 ?h3 ?h4 ?h5 ?_); (case h1 => walk_at "hl"); (case h2 => walk_at "cls"); (case h3 => walk_at "noa"); (case h4 => walk_at "ptf"); (case h5 => walk_at "lnF")) | with_reducible apply e_tup | with_reducible apply e_bm
  | with_reducible apply e_bm0 | with_reducible apply e_if | with_reducible apply e_chain | with_reducible apply s_raise | with_reducible apply g_sub | ((with_reducible refine' c_ln ?h1 ?_); (case h1 => walk_at "sq"))
  | ((with_reducible refine' c_pop0 ?h1 ?h2 ?_); (case h1 => walk_at "hl"); (case h2 => omega)) | with_reducible apply c_isBool | with_reducible apply c_isInt | with_reducible apply c_isBoolN | with_reducible apply c_isTupI | with_reducible apply c_isNonB
  | with_reducible apply c_isNonT | ((with_reducible refine' c_isList ?h1 ?_); (case h1 => walk_at "hl")) | ((with_reducible refine' c_isTup ?h1 ?_); (case h1 => walk_at "hl")) | ((with_reducible refine' c_isTupB ?h1 ?_); (case h1 => walk_at "hl")) | with_reducible apply o_isB | with_reducible apply o_notB
  | with_reducible apply e_and | with_reducible apply e_or | with_reducible apply k_bl | with_reducible apply e_xf | with_reducible apply s_augS | ((with_reducible refine' s_augV ?hv ?_); (case hv => exact rfl))
  | with_reducible apply ip_I | with_reducible apply e_lcE | ((with_reducible refine' k_xf ?h1 ?h2 ?_); (case h1 => walk_at "hl"); (case h2 => exact look_hit _ _ _)) | ((with_reducible refine' o_slL ?h1 ?_); (case h1 => walk_at "sq")) | ((with_reducible refine' k_dget ?h1 ?h2 ?_); (case h1 => walk_at "hl"); (case h2 => with_reducible assumption)) | with_reducible apply e_dget
  | with_reducible apply s_dput | with_reducible apply e_makeK | with_reducible apply g_cons | with_reducible apply g_nil | with_reducible apply c_ab | with_reducible apply c_in
  | with_reducible apply c_mx | with_reducible apply c_mn | with_reducible apply a1 | with_reducible apply a2 | with_reducible apply a3 | with_reducible apply a4
  | with_reducible apply a5 | with_reducible apply a6 | with_reducible apply a0 | with_reducible apply t_tru | with_reducible apply t_yes | ((with_reducible refine' k_truL ?h1 ?_); (case h1 => walk_at "sq")) | with_reducible refine d_nx ?_ | with_reducible refine d_rt ?_ | with_reducible refine d_bk ?_
  | with_reducible refine d_ct ?_))
local macro_rules | `(tactic| walk_at "r") => `(tactic| (repeat walk_at "r1"))
section
variable {P : Program} {w : World} {K : PySem.W.Frag} {mg : Str → Option Value} {base : Heap} {a : Ads}
end
/-- the top's facts -/
theorem all_mk {l : PySem.W.OpenLaw} {w : World} {K : PySem.W.Frag} {h : Heap} {mg : Str → Option Value} {fa : Addr} (hl : l.prog = PySem.Challenge.pw_tickrings_k08_receive_queues) (X : K.In h) (G : h.Ns mainGlobals mg) (hfa : mg "law" = some (.ref fa))
    {C_ReceiveQueue : Addr} {f_lost_mark f_is_mark f_lost_by f_joined f_bytes_among f_ReceiveQueue_init f_ReceiveQueue_arrive f_ReceiveQueue_first f_ReceiveQueue_take f_ReceiveQueue_oldest_tick f_ReceiveQueue_bytes_held f_ReceiveQueue_contents f_ReceiveQueue_append f_ReceiveQueue_lose f_law_state f_law_draw f_law_pick f_law_is_integer f_law_same f_law_held f_law_agrees f_law_arrives f_law_takes f_law : Addr}
    {oc_lost_mark : Value} {dc_lost_mark : Value} {pm_lost_mark : Value} {cd_lost_mark : Value} {ct_lost_mark : Value} {kV_lost_mark : Value} {od_lost_mark : Option Addr} {an_lost_mark : Option Addr} {sl_lost_mark : Array (Option Value)} {oc_is_mark : Value} {dc_is_mark : Value} {pm_is_mark : Value} {cd_is_mark : Value} {ct_is_mark : Value} {kV_is_mark : Value} {od_is_mark : Option Addr} {an_is_mark : Option Addr} {sl_is_mark : Array (Option Value)} {oc_lost_by : Value} {dc_lost_by : Value} {pm_lost_by : Value} {cd_lost_by : Value} {ct_lost_by : Value} {kV_lost_by : Value} {od_lost_by : Option Addr} {an_lost_by : Option Addr} {sl_lost_by : Array (Option Value)} {oc_joined : Value} {dc_joined : Value} {pm_joined : Value} {cd_joined : Value} {ct_joined : Value} {kV_joined : Value} {od_joined : Option Addr} {an_joined : Option Addr} {sl_joined : Array (Option Value)} {oc_bytes_among : Value} {dc_bytes_among : Value} {pm_bytes_among : Value} {cd_bytes_among : Value} {ct_bytes_among : Value} {kV_bytes_among : Value} {od_bytes_among : Option Addr} {an_bytes_among : Option Addr} {sl_bytes_among : Array (Option Value)} {oc_ReceiveQueue_init : Value} {dc_ReceiveQueue_init : Value} {pm_ReceiveQueue_init : Value} {cd_ReceiveQueue_init : Value} {ct_ReceiveQueue_init : Value} {kV_ReceiveQueue_init : Value} {od_ReceiveQueue_init : Option Addr} {an_ReceiveQueue_init : Option Addr} {sl_ReceiveQueue_init : Array (Option Value)} {oc_ReceiveQueue_arrive : Value} {dc_ReceiveQueue_arrive : Value} {pm_ReceiveQueue_arrive : Value} {cd_ReceiveQueue_arrive : Value} {ct_ReceiveQueue_arrive : Value} {kV_ReceiveQueue_arrive : Value} {od_ReceiveQueue_arrive : Option Addr} {an_ReceiveQueue_arrive : Option Addr} {sl_ReceiveQueue_arrive : Array (Option Value)} {oc_ReceiveQueue_first : Value} {dc_ReceiveQueue_first : Value} {pm_ReceiveQueue_first : Value} {cd_ReceiveQueue_first : Value} {ct_ReceiveQueue_first : Value} {kV_ReceiveQueue_first : Value} {od_ReceiveQueue_first : Option Addr} {an_ReceiveQueue_first : Option Addr} {sl_ReceiveQueue_first : Array (Option Value)} {oc_ReceiveQueue_take : Value} {dc_ReceiveQueue_take : Value} {pm_ReceiveQueue_take : Value} {cd_ReceiveQueue_take : Value} {ct_ReceiveQueue_take : Value} {kV_ReceiveQueue_take : Value} {od_ReceiveQueue_take : Option Addr} {an_ReceiveQueue_take : Option Addr} {sl_ReceiveQueue_take : Array (Option Value)} {oc_ReceiveQueue_oldest_tick : Value} {dc_ReceiveQueue_oldest_tick : Value} {pm_ReceiveQueue_oldest_tick : Value} {cd_ReceiveQueue_oldest_tick : Value} {ct_ReceiveQueue_oldest_tick : Value} {kV_ReceiveQueue_oldest_tick : Value} {od_ReceiveQueue_oldest_tick : Option Addr} {an_ReceiveQueue_oldest_tick : Option Addr} {sl_ReceiveQueue_oldest_tick : Array (Option Value)} {oc_ReceiveQueue_bytes_held : Value} {dc_ReceiveQueue_bytes_held : Value} {pm_ReceiveQueue_bytes_held : Value} {cd_ReceiveQueue_bytes_held : Value} {ct_ReceiveQueue_bytes_held : Value} {kV_ReceiveQueue_bytes_held : Value} {od_ReceiveQueue_bytes_held : Option Addr} {an_ReceiveQueue_bytes_held : Option Addr} {sl_ReceiveQueue_bytes_held : Array (Option Value)} {oc_ReceiveQueue_contents : Value} {dc_ReceiveQueue_contents : Value} {pm_ReceiveQueue_contents : Value} {cd_ReceiveQueue_contents : Value} {ct_ReceiveQueue_contents : Value} {kV_ReceiveQueue_contents : Value} {od_ReceiveQueue_contents : Option Addr} {an_ReceiveQueue_contents : Option Addr} {sl_ReceiveQueue_contents : Array (Option Value)} {oc_ReceiveQueue_append : Value} {dc_ReceiveQueue_append : Value} {pm_ReceiveQueue_append : Value} {cd_ReceiveQueue_append : Value} {ct_ReceiveQueue_append : Value} {kV_ReceiveQueue_append : Value} {od_ReceiveQueue_append : Option Addr} {an_ReceiveQueue_append : Option Addr} {sl_ReceiveQueue_append : Array (Option Value)} {oc_ReceiveQueue_lose : Value} {dc_ReceiveQueue_lose : Value} {pm_ReceiveQueue_lose : Value} {cd_ReceiveQueue_lose : Value} {ct_ReceiveQueue_lose : Value} {kV_ReceiveQueue_lose : Value} {od_ReceiveQueue_lose : Option Addr} {an_ReceiveQueue_lose : Option Addr} {sl_ReceiveQueue_lose : Array (Option Value)} {oc_law_state : Value} {dc_law_state : Value} {pm_law_state : Value} {cd_law_state : Value} {ct_law_state : Value} {kV_law_state : Value} {od_law_state : Option Addr} {an_law_state : Option Addr} {sl_law_state : Array (Option Value)} {oc_law_draw : Value} {dc_law_draw : Value} {pm_law_draw : Value} {cd_law_draw : Value} {ct_law_draw : Value} {kV_law_draw : Value} {od_law_draw : Option Addr} {an_law_draw : Option Addr} {sl_law_draw : Array (Option Value)} {oc_law_pick : Value} {dc_law_pick : Value} {pm_law_pick : Value} {cd_law_pick : Value} {ct_law_pick : Value} {kV_law_pick : Value} {od_law_pick : Option Addr} {an_law_pick : Option Addr} {sl_law_pick : Array (Option Value)} {oc_law_is_integer : Value} {dc_law_is_integer : Value} {pm_law_is_integer : Value} {cd_law_is_integer : Value} {ct_law_is_integer : Value} {kV_law_is_integer : Value} {od_law_is_integer : Option Addr} {an_law_is_integer : Option Addr} {sl_law_is_integer : Array (Option Value)} {oc_law_same : Value} {dc_law_same : Value} {pm_law_same : Value} {cd_law_same : Value} {ct_law_same : Value} {kV_law_same : Value} {od_law_same : Option Addr} {an_law_same : Option Addr} {sl_law_same : Array (Option Value)} {oc_law_held : Value} {dc_law_held : Value} {pm_law_held : Value} {cd_law_held : Value} {ct_law_held : Value} {kV_law_held : Value} {od_law_held : Option Addr} {an_law_held : Option Addr} {sl_law_held : Array (Option Value)} {oc_law_agrees : Value} {dc_law_agrees : Value} {pm_law_agrees : Value} {cd_law_agrees : Value} {ct_law_agrees : Value} {kV_law_agrees : Value} {od_law_agrees : Option Addr} {an_law_agrees : Option Addr} {sl_law_agrees : Array (Option Value)} {oc_law_arrives : Value} {dc_law_arrives : Value} {pm_law_arrives : Value} {cd_law_arrives : Value} {ct_law_arrives : Value} {kV_law_arrives : Value} {od_law_arrives : Option Addr} {an_law_arrives : Option Addr} {sl_law_arrives : Array (Option Value)} {oc_law_takes : Value} {dc_law_takes : Value} {pm_law_takes : Value} {cd_law_takes : Value} {ct_law_takes : Value} {kV_law_takes : Value} {od_law_takes : Option Addr} {an_law_takes : Option Addr} {sl_law_takes : Array (Option Value)} {oc_law : Value} {dc_law : Value} {pm_law : Value} {cd_law : Value} {ct_law : Value} {kV_law : Value} {od_law : Option Addr} {an_law : Option Addr} {sl_law : Array (Option Value)}
    (gC_ReceiveQueue : PySem.W.nsIn K mainGlobals "ReceiveQueue" = some (some (.ref C_ReceiveQueue)))
    (a_lost_mark : PySem.W.nsIn K mainGlobals "lost_mark" = some (some (.ref f_lost_mark)))
    (l_lost_mark : K.lookup f_lost_mark = some ⟨oc_lost_mark, od_lost_mark, .func (PySem.W.fnOf "lost_mark" "lost_mark" (defArgs s_lost_mark) (defBody s_lost_mark) (defScope s_lost_mark) .none kV_lost_mark dc_lost_mark pm_lost_mark an_lost_mark cd_lost_mark ct_lost_mark), sl_lost_mark⟩)
    (c_lost_mark : PySem.W.codeIn K cd_lost_mark "lost_mark" = true)
    (k_lost_mark : PySem.W.keepIn K (.ref f_lost_mark) = true)
    (a_is_mark : PySem.W.nsIn K mainGlobals "is_mark" = some (some (.ref f_is_mark)))
    (l_is_mark : K.lookup f_is_mark = some ⟨oc_is_mark, od_is_mark, .func (PySem.W.fnOf "is_mark" "is_mark" (defArgs s_is_mark) (defBody s_is_mark) (defScope s_is_mark) .none kV_is_mark dc_is_mark pm_is_mark an_is_mark cd_is_mark ct_is_mark), sl_is_mark⟩)
    (c_is_mark : PySem.W.codeIn K cd_is_mark "is_mark" = true)
    (k_is_mark : PySem.W.keepIn K (.ref f_is_mark) = true)
    (a_lost_by : PySem.W.nsIn K mainGlobals "lost_by" = some (some (.ref f_lost_by)))
    (l_lost_by : K.lookup f_lost_by = some ⟨oc_lost_by, od_lost_by, .func (PySem.W.fnOf "lost_by" "lost_by" (defArgs s_lost_by) (defBody s_lost_by) (defScope s_lost_by) .none kV_lost_by dc_lost_by pm_lost_by an_lost_by cd_lost_by ct_lost_by), sl_lost_by⟩)
    (c_lost_by : PySem.W.codeIn K cd_lost_by "lost_by" = true)
    (k_lost_by : PySem.W.keepIn K (.ref f_lost_by) = true)
    (a_joined : PySem.W.nsIn K mainGlobals "joined" = some (some (.ref f_joined)))
    (l_joined : K.lookup f_joined = some ⟨oc_joined, od_joined, .func (PySem.W.fnOf "joined" "joined" (defArgs s_joined) (defBody s_joined) (defScope s_joined) .none kV_joined dc_joined pm_joined an_joined cd_joined ct_joined), sl_joined⟩)
    (c_joined : PySem.W.codeIn K cd_joined "joined" = true)
    (k_joined : PySem.W.keepIn K (.ref f_joined) = true)
    (a_bytes_among : PySem.W.nsIn K mainGlobals "bytes_among" = some (some (.ref f_bytes_among)))
    (l_bytes_among : K.lookup f_bytes_among = some ⟨oc_bytes_among, od_bytes_among, .func (PySem.W.fnOf "bytes_among" "bytes_among" (defArgs s_bytes_among) (defBody s_bytes_among) (defScope s_bytes_among) .none kV_bytes_among dc_bytes_among pm_bytes_among an_bytes_among cd_bytes_among ct_bytes_among), sl_bytes_among⟩)
    (c_bytes_among : PySem.W.codeIn K cd_bytes_among "bytes_among" = true)
    (k_bytes_among : PySem.W.keepIn K (.ref f_bytes_among) = true)
    (a_ReceiveQueue_init : PySem.W.findIn K (.ref C_ReceiveQueue) "__init__" = some (some (.ref f_ReceiveQueue_init)))
    (i_ReceiveQueue_init : PySem.W.isFn K (.ref f_ReceiveQueue_init) = true)
    (l_ReceiveQueue_init : K.lookup f_ReceiveQueue_init = some ⟨oc_ReceiveQueue_init, od_ReceiveQueue_init, .func (PySem.W.fnOf "__init__" "ReceiveQueue.__init__" (defArgs s_ReceiveQueue_init) (defBody s_ReceiveQueue_init) (defScope s_ReceiveQueue_init) .none kV_ReceiveQueue_init dc_ReceiveQueue_init pm_ReceiveQueue_init an_ReceiveQueue_init cd_ReceiveQueue_init ct_ReceiveQueue_init), sl_ReceiveQueue_init⟩)
    (c_ReceiveQueue_init : PySem.W.codeIn K cd_ReceiveQueue_init "ReceiveQueue.__init__" = true)
    (k_ReceiveQueue_init : PySem.W.keepIn K (.ref f_ReceiveQueue_init) = true)
    (a_ReceiveQueue_arrive : PySem.W.findIn K (.ref C_ReceiveQueue) "arrive" = some (some (.ref f_ReceiveQueue_arrive)))
    (i_ReceiveQueue_arrive : PySem.W.isFn K (.ref f_ReceiveQueue_arrive) = true)
    (l_ReceiveQueue_arrive : K.lookup f_ReceiveQueue_arrive = some ⟨oc_ReceiveQueue_arrive, od_ReceiveQueue_arrive, .func (PySem.W.fnOf "arrive" "ReceiveQueue.arrive" (defArgs s_ReceiveQueue_arrive) (defBody s_ReceiveQueue_arrive) (defScope s_ReceiveQueue_arrive) .none kV_ReceiveQueue_arrive dc_ReceiveQueue_arrive pm_ReceiveQueue_arrive an_ReceiveQueue_arrive cd_ReceiveQueue_arrive ct_ReceiveQueue_arrive), sl_ReceiveQueue_arrive⟩)
    (c_ReceiveQueue_arrive : PySem.W.codeIn K cd_ReceiveQueue_arrive "ReceiveQueue.arrive" = true)
    (k_ReceiveQueue_arrive : PySem.W.keepIn K (.ref f_ReceiveQueue_arrive) = true)
    (a_ReceiveQueue_first : PySem.W.findIn K (.ref C_ReceiveQueue) "first" = some (some (.ref f_ReceiveQueue_first)))
    (i_ReceiveQueue_first : PySem.W.isFn K (.ref f_ReceiveQueue_first) = true)
    (l_ReceiveQueue_first : K.lookup f_ReceiveQueue_first = some ⟨oc_ReceiveQueue_first, od_ReceiveQueue_first, .func (PySem.W.fnOf "first" "ReceiveQueue.first" (defArgs s_ReceiveQueue_first) (defBody s_ReceiveQueue_first) (defScope s_ReceiveQueue_first) .none kV_ReceiveQueue_first dc_ReceiveQueue_first pm_ReceiveQueue_first an_ReceiveQueue_first cd_ReceiveQueue_first ct_ReceiveQueue_first), sl_ReceiveQueue_first⟩)
    (c_ReceiveQueue_first : PySem.W.codeIn K cd_ReceiveQueue_first "ReceiveQueue.first" = true)
    (k_ReceiveQueue_first : PySem.W.keepIn K (.ref f_ReceiveQueue_first) = true)
    (a_ReceiveQueue_take : PySem.W.findIn K (.ref C_ReceiveQueue) "take" = some (some (.ref f_ReceiveQueue_take)))
    (i_ReceiveQueue_take : PySem.W.isFn K (.ref f_ReceiveQueue_take) = true)
    (l_ReceiveQueue_take : K.lookup f_ReceiveQueue_take = some ⟨oc_ReceiveQueue_take, od_ReceiveQueue_take, .func (PySem.W.fnOf "take" "ReceiveQueue.take" (defArgs s_ReceiveQueue_take) (defBody s_ReceiveQueue_take) (defScope s_ReceiveQueue_take) .none kV_ReceiveQueue_take dc_ReceiveQueue_take pm_ReceiveQueue_take an_ReceiveQueue_take cd_ReceiveQueue_take ct_ReceiveQueue_take), sl_ReceiveQueue_take⟩)
    (c_ReceiveQueue_take : PySem.W.codeIn K cd_ReceiveQueue_take "ReceiveQueue.take" = true)
    (k_ReceiveQueue_take : PySem.W.keepIn K (.ref f_ReceiveQueue_take) = true)
    (a_ReceiveQueue_oldest_tick : PySem.W.findIn K (.ref C_ReceiveQueue) "oldest_tick" = some (some (.ref f_ReceiveQueue_oldest_tick)))
    (i_ReceiveQueue_oldest_tick : PySem.W.isFn K (.ref f_ReceiveQueue_oldest_tick) = true)
    (l_ReceiveQueue_oldest_tick : K.lookup f_ReceiveQueue_oldest_tick = some ⟨oc_ReceiveQueue_oldest_tick, od_ReceiveQueue_oldest_tick, .func (PySem.W.fnOf "oldest_tick" "ReceiveQueue.oldest_tick" (defArgs s_ReceiveQueue_oldest_tick) (defBody s_ReceiveQueue_oldest_tick) (defScope s_ReceiveQueue_oldest_tick) .none kV_ReceiveQueue_oldest_tick dc_ReceiveQueue_oldest_tick pm_ReceiveQueue_oldest_tick an_ReceiveQueue_oldest_tick cd_ReceiveQueue_oldest_tick ct_ReceiveQueue_oldest_tick), sl_ReceiveQueue_oldest_tick⟩)
    (c_ReceiveQueue_oldest_tick : PySem.W.codeIn K cd_ReceiveQueue_oldest_tick "ReceiveQueue.oldest_tick" = true)
    (k_ReceiveQueue_oldest_tick : PySem.W.keepIn K (.ref f_ReceiveQueue_oldest_tick) = true)
    (a_ReceiveQueue_bytes_held : PySem.W.findIn K (.ref C_ReceiveQueue) "bytes_held" = some (some (.ref f_ReceiveQueue_bytes_held)))
    (i_ReceiveQueue_bytes_held : PySem.W.isFn K (.ref f_ReceiveQueue_bytes_held) = true)
    (l_ReceiveQueue_bytes_held : K.lookup f_ReceiveQueue_bytes_held = some ⟨oc_ReceiveQueue_bytes_held, od_ReceiveQueue_bytes_held, .func (PySem.W.fnOf "bytes_held" "ReceiveQueue.bytes_held" (defArgs s_ReceiveQueue_bytes_held) (defBody s_ReceiveQueue_bytes_held) (defScope s_ReceiveQueue_bytes_held) .none kV_ReceiveQueue_bytes_held dc_ReceiveQueue_bytes_held pm_ReceiveQueue_bytes_held an_ReceiveQueue_bytes_held cd_ReceiveQueue_bytes_held ct_ReceiveQueue_bytes_held), sl_ReceiveQueue_bytes_held⟩)
    (c_ReceiveQueue_bytes_held : PySem.W.codeIn K cd_ReceiveQueue_bytes_held "ReceiveQueue.bytes_held" = true)
    (k_ReceiveQueue_bytes_held : PySem.W.keepIn K (.ref f_ReceiveQueue_bytes_held) = true)
    (a_ReceiveQueue_contents : PySem.W.findIn K (.ref C_ReceiveQueue) "contents" = some (some (.ref f_ReceiveQueue_contents)))
    (i_ReceiveQueue_contents : PySem.W.isFn K (.ref f_ReceiveQueue_contents) = true)
    (l_ReceiveQueue_contents : K.lookup f_ReceiveQueue_contents = some ⟨oc_ReceiveQueue_contents, od_ReceiveQueue_contents, .func (PySem.W.fnOf "contents" "ReceiveQueue.contents" (defArgs s_ReceiveQueue_contents) (defBody s_ReceiveQueue_contents) (defScope s_ReceiveQueue_contents) .none kV_ReceiveQueue_contents dc_ReceiveQueue_contents pm_ReceiveQueue_contents an_ReceiveQueue_contents cd_ReceiveQueue_contents ct_ReceiveQueue_contents), sl_ReceiveQueue_contents⟩)
    (c_ReceiveQueue_contents : PySem.W.codeIn K cd_ReceiveQueue_contents "ReceiveQueue.contents" = true)
    (k_ReceiveQueue_contents : PySem.W.keepIn K (.ref f_ReceiveQueue_contents) = true)
    (a_ReceiveQueue_append : PySem.W.findIn K (.ref C_ReceiveQueue) "_append" = some (some (.ref f_ReceiveQueue_append)))
    (i_ReceiveQueue_append : PySem.W.isFn K (.ref f_ReceiveQueue_append) = true)
    (l_ReceiveQueue_append : K.lookup f_ReceiveQueue_append = some ⟨oc_ReceiveQueue_append, od_ReceiveQueue_append, .func (PySem.W.fnOf "_append" "ReceiveQueue._append" (defArgs s_ReceiveQueue_append) (defBody s_ReceiveQueue_append) (defScope s_ReceiveQueue_append) .none kV_ReceiveQueue_append dc_ReceiveQueue_append pm_ReceiveQueue_append an_ReceiveQueue_append cd_ReceiveQueue_append ct_ReceiveQueue_append), sl_ReceiveQueue_append⟩)
    (c_ReceiveQueue_append : PySem.W.codeIn K cd_ReceiveQueue_append "ReceiveQueue._append" = true)
    (k_ReceiveQueue_append : PySem.W.keepIn K (.ref f_ReceiveQueue_append) = true)
    (a_ReceiveQueue_lose : PySem.W.findIn K (.ref C_ReceiveQueue) "_lose" = some (some (.ref f_ReceiveQueue_lose)))
    (i_ReceiveQueue_lose : PySem.W.isFn K (.ref f_ReceiveQueue_lose) = true)
    (l_ReceiveQueue_lose : K.lookup f_ReceiveQueue_lose = some ⟨oc_ReceiveQueue_lose, od_ReceiveQueue_lose, .func (PySem.W.fnOf "_lose" "ReceiveQueue._lose" (defArgs s_ReceiveQueue_lose) (defBody s_ReceiveQueue_lose) (defScope s_ReceiveQueue_lose) .none kV_ReceiveQueue_lose dc_ReceiveQueue_lose pm_ReceiveQueue_lose an_ReceiveQueue_lose cd_ReceiveQueue_lose ct_ReceiveQueue_lose), sl_ReceiveQueue_lose⟩)
    (c_ReceiveQueue_lose : PySem.W.codeIn K cd_ReceiveQueue_lose "ReceiveQueue._lose" = true)
    (k_ReceiveQueue_lose : PySem.W.keepIn K (.ref f_ReceiveQueue_lose) = true)
    (a_law_state : PySem.W.nsIn K mainGlobals "_law_state" = some (some (.ref f_law_state)))
    (l_law_state : K.lookup f_law_state = some ⟨oc_law_state, od_law_state, .func (PySem.W.fnOf "_law_state" "_law_state" (defArgs s_law_state) (defBody s_law_state) (defScope s_law_state) .none kV_law_state dc_law_state pm_law_state an_law_state cd_law_state ct_law_state), sl_law_state⟩)
    (c_law_state : PySem.W.codeIn K cd_law_state "_law_state" = true)
    (k_law_state : PySem.W.keepIn K (.ref f_law_state) = true)
    (a_law_draw : PySem.W.nsIn K mainGlobals "_law_draw" = some (some (.ref f_law_draw)))
    (l_law_draw : K.lookup f_law_draw = some ⟨oc_law_draw, od_law_draw, .func (PySem.W.fnOf "_law_draw" "_law_draw" (defArgs s_law_draw) (defBody s_law_draw) (defScope s_law_draw) .none kV_law_draw dc_law_draw pm_law_draw an_law_draw cd_law_draw ct_law_draw), sl_law_draw⟩)
    (c_law_draw : PySem.W.codeIn K cd_law_draw "_law_draw" = true)
    (k_law_draw : PySem.W.keepIn K (.ref f_law_draw) = true)
    (a_law_pick : PySem.W.nsIn K mainGlobals "_law_pick" = some (some (.ref f_law_pick)))
    (l_law_pick : K.lookup f_law_pick = some ⟨oc_law_pick, od_law_pick, .func (PySem.W.fnOf "_law_pick" "_law_pick" (defArgs s_law_pick) (defBody s_law_pick) (defScope s_law_pick) .none kV_law_pick dc_law_pick pm_law_pick an_law_pick cd_law_pick ct_law_pick), sl_law_pick⟩)
    (c_law_pick : PySem.W.codeIn K cd_law_pick "_law_pick" = true)
    (k_law_pick : PySem.W.keepIn K (.ref f_law_pick) = true)
    (a_law_is_integer : PySem.W.nsIn K mainGlobals "_law_is_integer" = some (some (.ref f_law_is_integer)))
    (l_law_is_integer : K.lookup f_law_is_integer = some ⟨oc_law_is_integer, od_law_is_integer, .func (PySem.W.fnOf "_law_is_integer" "_law_is_integer" (defArgs s_law_is_integer) (defBody s_law_is_integer) (defScope s_law_is_integer) .none kV_law_is_integer dc_law_is_integer pm_law_is_integer an_law_is_integer cd_law_is_integer ct_law_is_integer), sl_law_is_integer⟩)
    (c_law_is_integer : PySem.W.codeIn K cd_law_is_integer "_law_is_integer" = true)
    (k_law_is_integer : PySem.W.keepIn K (.ref f_law_is_integer) = true)
    (a_law_same : PySem.W.nsIn K mainGlobals "_law_same" = some (some (.ref f_law_same)))
    (l_law_same : K.lookup f_law_same = some ⟨oc_law_same, od_law_same, .func (PySem.W.fnOf "_law_same" "_law_same" (defArgs s_law_same) (defBody s_law_same) (defScope s_law_same) .none kV_law_same dc_law_same pm_law_same an_law_same cd_law_same ct_law_same), sl_law_same⟩)
    (c_law_same : PySem.W.codeIn K cd_law_same "_law_same" = true)
    (k_law_same : PySem.W.keepIn K (.ref f_law_same) = true)
    (a_law_held : PySem.W.nsIn K mainGlobals "_law_held" = some (some (.ref f_law_held)))
    (l_law_held : K.lookup f_law_held = some ⟨oc_law_held, od_law_held, .func (PySem.W.fnOf "_law_held" "_law_held" (defArgs s_law_held) (defBody s_law_held) (defScope s_law_held) .none kV_law_held dc_law_held pm_law_held an_law_held cd_law_held ct_law_held), sl_law_held⟩)
    (c_law_held : PySem.W.codeIn K cd_law_held "_law_held" = true)
    (k_law_held : PySem.W.keepIn K (.ref f_law_held) = true)
    (a_law_agrees : PySem.W.nsIn K mainGlobals "_law_agrees" = some (some (.ref f_law_agrees)))
    (l_law_agrees : K.lookup f_law_agrees = some ⟨oc_law_agrees, od_law_agrees, .func (PySem.W.fnOf "_law_agrees" "_law_agrees" (defArgs s_law_agrees) (defBody s_law_agrees) (defScope s_law_agrees) .none kV_law_agrees dc_law_agrees pm_law_agrees an_law_agrees cd_law_agrees ct_law_agrees), sl_law_agrees⟩)
    (c_law_agrees : PySem.W.codeIn K cd_law_agrees "_law_agrees" = true)
    (k_law_agrees : PySem.W.keepIn K (.ref f_law_agrees) = true)
    (a_law_arrives : PySem.W.nsIn K mainGlobals "_law_arrives" = some (some (.ref f_law_arrives)))
    (l_law_arrives : K.lookup f_law_arrives = some ⟨oc_law_arrives, od_law_arrives, .func (PySem.W.fnOf "_law_arrives" "_law_arrives" (defArgs s_law_arrives) (defBody s_law_arrives) (defScope s_law_arrives) .none kV_law_arrives dc_law_arrives pm_law_arrives an_law_arrives cd_law_arrives ct_law_arrives), sl_law_arrives⟩)
    (c_law_arrives : PySem.W.codeIn K cd_law_arrives "_law_arrives" = true)
    (k_law_arrives : PySem.W.keepIn K (.ref f_law_arrives) = true)
    (a_law_takes : PySem.W.nsIn K mainGlobals "_law_takes" = some (some (.ref f_law_takes)))
    (l_law_takes : K.lookup f_law_takes = some ⟨oc_law_takes, od_law_takes, .func (PySem.W.fnOf "_law_takes" "_law_takes" (defArgs s_law_takes) (defBody s_law_takes) (defScope s_law_takes) .none kV_law_takes dc_law_takes pm_law_takes an_law_takes cd_law_takes ct_law_takes), sl_law_takes⟩)
    (c_law_takes : PySem.W.codeIn K cd_law_takes "_law_takes" = true)
    (k_law_takes : PySem.W.keepIn K (.ref f_law_takes) = true)
    (a_law : PySem.W.nsIn K mainGlobals "law" = some (some (.ref f_law)))
    (l_law : K.lookup f_law = some ⟨oc_law, od_law, .func (PySem.W.fnOf "law" "law" (defArgs s_law) (defBody s_law) (defScope s_law) .none kV_law dc_law pm_law an_law cd_law ct_law), sl_law⟩)
    (c_law : PySem.W.codeIn K cd_law "law" = true)
    (k_law : PySem.W.keepIn K (.ref f_law) = true)
    (pg_ReceiveQueue : PySem.W.plainGet K C_ReceiveQueue Str.empty = true)
    (hd_ReceiveQueue : PySem.W.hasDictIn K C_ReceiveQueue = true)
    (po_ReceiveQueue : PySem.W.plainOver K C_ReceiveQueue = true)
    (sa_ReceiveQueue : PySem.W.findIn K (.ref C_ReceiveQueue) "__setattr__" = some (some (.builtin "object.__setattr__")))
    (mk_ReceiveQueue : PySem.W.makesIn K C_ReceiveQueue = true)
    (kc_ReceiveQueue : PySem.W.keepIn K (.ref C_ReceiveQueue) = true)
    (n_ReceiveQueue_capacity : PySem.W.findIn K (.ref C_ReceiveQueue) "capacity" = some none)
    (n_ReceiveQueue_items : PySem.W.findIn K (.ref C_ReceiveQueue) "_items" = some none)
    (n_ReceiveQueue_ticks : PySem.W.findIn K (.ref C_ReceiveQueue) "_ticks" = some none)
    (z_abs : PySem.W.nsIn K mainGlobals "abs" = some none)
    (z_bool : PySem.W.nsIn K mainGlobals "bool" = some none)
    (z_int : PySem.W.nsIn K mainGlobals "int" = some none)
    (z_isinstance : PySem.W.nsIn K mainGlobals "isinstance" = some none)
    (z_len : PySem.W.nsIn K mainGlobals "len" = some none)
    (z_list : PySem.W.nsIn K mainGlobals "list" = some none)
    (z_range : PySem.W.nsIn K mainGlobals "range" = some none)
    (z_tuple : PySem.W.nsIn K mainGlobals "tuple" = some none)
    : ∃ fd : FuncData, (∀ (s : Shared) (v : Value), BindsTo s fd ⟨[v], []⟩ [("script", v)]) ∧ ∀ base : Heap, K.In base → base.Ns mainGlobals mg → FnOk l.prog w K mg base (L2.CX l.prog w) 6 fa fd ["script"] (sp_law0 K) := by
  have e : f_law = fa := by
    have z := hfa.symm.trans (PySem.W.mg_of X G a_law)
    cases z
    rfl
  subst e
  have F_lost_mark := fun_mk (st := s_lost_mark) l_lost_mark c_lost_mark k_lost_mark
  have b_lost_mark := F_lost_mark.binds (ps := ["many"]) fun _ _ _ _ _ _ us hl => match us, hl with | [_], _ => rfl
  have F_is_mark := fun_mk (st := s_is_mark) l_is_mark c_is_mark k_is_mark
  have b_is_mark := F_is_mark.binds (ps := ["item"]) fun _ _ _ _ _ _ us hl => match us, hl with | [_], _ => rfl
  have F_lost_by := fun_mk (st := s_lost_by) l_lost_by c_lost_by k_lost_by
  have b_lost_by := F_lost_by.binds (ps := ["mark"]) fun _ _ _ _ _ _ us hl => match us, hl with | [_], _ => rfl
  have F_joined := fun_mk (st := s_joined) l_joined c_joined k_joined
  have b_joined := F_joined.binds (ps := ["mark", "other"]) fun _ _ _ _ _ _ us hl => match us, hl with | [_, _], _ => rfl
  have F_bytes_among := fun_mk (st := s_bytes_among) l_bytes_among c_bytes_among k_bytes_among
  have b_bytes_among := F_bytes_among.binds (ps := ["items"]) fun _ _ _ _ _ _ us hl => match us, hl with | [_], _ => rfl
  have F_ReceiveQueue_init := fun_mk (st := s_ReceiveQueue_init) l_ReceiveQueue_init c_ReceiveQueue_init k_ReceiveQueue_init
  have b_ReceiveQueue_init := F_ReceiveQueue_init.binds (ps := ["self", "capacity"]) fun _ _ _ _ _ _ us hl => match us, hl with | [_, _], _ => rfl
  have F_ReceiveQueue_arrive := fun_mk (st := s_ReceiveQueue_arrive) l_ReceiveQueue_arrive c_ReceiveQueue_arrive k_ReceiveQueue_arrive
  have b_ReceiveQueue_arrive := F_ReceiveQueue_arrive.binds (ps := ["self", "byte", "tick"]) fun _ _ _ _ _ _ us hl => match us, hl with | [_, _, _], _ => rfl
  have F_ReceiveQueue_first := fun_mk (st := s_ReceiveQueue_first) l_ReceiveQueue_first c_ReceiveQueue_first k_ReceiveQueue_first
  have b_ReceiveQueue_first := F_ReceiveQueue_first.binds (ps := ["self"]) fun _ _ _ _ _ _ us hl => match us, hl with | [_], _ => rfl
  have F_ReceiveQueue_take := fun_mk (st := s_ReceiveQueue_take) l_ReceiveQueue_take c_ReceiveQueue_take k_ReceiveQueue_take
  have b_ReceiveQueue_take := F_ReceiveQueue_take.binds (ps := ["self"]) fun _ _ _ _ _ _ us hl => match us, hl with | [_], _ => rfl
  have F_ReceiveQueue_oldest_tick := fun_mk (st := s_ReceiveQueue_oldest_tick) l_ReceiveQueue_oldest_tick c_ReceiveQueue_oldest_tick k_ReceiveQueue_oldest_tick
  have b_ReceiveQueue_oldest_tick := F_ReceiveQueue_oldest_tick.binds (ps := ["self"]) fun _ _ _ _ _ _ us hl => match us, hl with | [_], _ => rfl
  have F_ReceiveQueue_bytes_held := fun_mk (st := s_ReceiveQueue_bytes_held) l_ReceiveQueue_bytes_held c_ReceiveQueue_bytes_held k_ReceiveQueue_bytes_held
  have b_ReceiveQueue_bytes_held := F_ReceiveQueue_bytes_held.binds (ps := ["self"]) fun _ _ _ _ _ _ us hl => match us, hl with | [_], _ => rfl
  have F_ReceiveQueue_contents := fun_mk (st := s_ReceiveQueue_contents) l_ReceiveQueue_contents c_ReceiveQueue_contents k_ReceiveQueue_contents
  have b_ReceiveQueue_contents := F_ReceiveQueue_contents.binds (ps := ["self"]) fun _ _ _ _ _ _ us hl => match us, hl with | [_], _ => rfl
  have F_ReceiveQueue_append := fun_mk (st := s_ReceiveQueue_append) l_ReceiveQueue_append c_ReceiveQueue_append k_ReceiveQueue_append
  have b_ReceiveQueue_append := F_ReceiveQueue_append.binds (ps := ["self", "item", "tick"]) fun _ _ _ _ _ _ us hl => match us, hl with | [_, _, _], _ => rfl
  have F_ReceiveQueue_lose := fun_mk (st := s_ReceiveQueue_lose) l_ReceiveQueue_lose c_ReceiveQueue_lose k_ReceiveQueue_lose
  have b_ReceiveQueue_lose := F_ReceiveQueue_lose.binds (ps := ["self", "tick"]) fun _ _ _ _ _ _ us hl => match us, hl with | [_, _], _ => rfl
  have F_law_state := fun_mk (st := s_law_state) l_law_state c_law_state k_law_state
  have b_law_state := F_law_state.binds (ps := ["script"]) fun _ _ _ _ _ _ us hl => match us, hl with | [_], _ => rfl
  have F_law_draw := fun_mk (st := s_law_draw) l_law_draw c_law_draw k_law_draw
  have b_law_draw := F_law_draw.binds (ps := ["state", "many"]) fun _ _ _ _ _ _ us hl => match us, hl with | [_, _], _ => rfl
  have F_law_pick := fun_mk (st := s_law_pick) l_law_pick c_law_pick k_law_pick
  have b_law_pick := F_law_pick.binds (ps := ["state", "row"]) fun _ _ _ _ _ _ us hl => match us, hl with | [_, _], _ => rfl
  have F_law_is_integer := fun_mk (st := s_law_is_integer) l_law_is_integer c_law_is_integer k_law_is_integer
  have b_law_is_integer := F_law_is_integer.binds (ps := ["actual"]) fun _ _ _ _ _ _ us hl => match us, hl with | [_], _ => rfl
  have F_law_same := fun_mk (st := s_law_same) l_law_same c_law_same k_law_same
  have b_law_same := F_law_same.binds (ps := ["told", "due"]) fun _ _ _ _ _ _ us hl => match us, hl with | [_, _], _ => rfl
  have F_law_held := fun_mk (st := s_law_held) l_law_held c_law_held k_law_held
  have b_law_held := F_law_held.binds (ps := ["rows"]) fun _ _ _ _ _ _ us hl => match us, hl with | [_], _ => rfl
  have F_law_agrees := fun_mk (st := s_law_agrees) l_law_agrees c_law_agrees k_law_agrees
  have b_law_agrees := F_law_agrees.binds (ps := ["queue", "rows", "capacity"]) fun _ _ _ _ _ _ us hl => match us, hl with | [_, _, _], _ => rfl
  have F_law_arrives := fun_mk (st := s_law_arrives) l_law_arrives c_law_arrives k_law_arrives
  have b_law_arrives := F_law_arrives.binds (ps := ["queue", "rows", "capacity", "byte", "tick"]) fun _ _ _ _ _ _ us hl => match us, hl with | [_, _, _, _, _], _ => rfl
  have F_law_takes := fun_mk (st := s_law_takes) l_law_takes c_law_takes k_law_takes
  have b_law_takes := F_law_takes.binds (ps := ["queue", "rows"]) fun _ _ _ _ _ _ us hl => match us, hl with | [_, _], _ => rfl
  have F_law := fun_mk (st := s_law) l_law c_law k_law
  have b_law := F_law.binds (ps := ["script"]) fun _ _ _ _ _ _ us hl => match us, hl with | [_], _ => rfl
  let a : Ads := { C_ReceiveQueue := C_ReceiveQueue, f_lost_mark := f_lost_mark, f_is_mark := f_is_mark, f_lost_by := f_lost_by, f_joined := f_joined, f_bytes_among := f_bytes_among, f_ReceiveQueue_init := f_ReceiveQueue_init, f_ReceiveQueue_arrive := f_ReceiveQueue_arrive, f_ReceiveQueue_first := f_ReceiveQueue_first, f_ReceiveQueue_take := f_ReceiveQueue_take, f_ReceiveQueue_oldest_tick := f_ReceiveQueue_oldest_tick, f_ReceiveQueue_bytes_held := f_ReceiveQueue_bytes_held, f_ReceiveQueue_contents := f_ReceiveQueue_contents, f_ReceiveQueue_append := f_ReceiveQueue_append, f_ReceiveQueue_lose := f_ReceiveQueue_lose, f_law_state := f_law_state, f_law_draw := f_law_draw, f_law_pick := f_law_pick, f_law_is_integer := f_law_is_integer, f_law_same := f_law_same, f_law_held := f_law_held, f_law_agrees := f_law_agrees, f_law_arrives := f_law_arrives, f_law_takes := f_law_takes, f_law := f_law, fd_lost_mark := (PySem.W.fnOf "lost_mark" "lost_mark" (defArgs s_lost_mark) (defBody s_lost_mark) (defScope s_lost_mark) .none kV_lost_mark dc_lost_mark pm_lost_mark an_lost_mark cd_lost_mark ct_lost_mark), fd_is_mark := (PySem.W.fnOf "is_mark" "is_mark" (defArgs s_is_mark) (defBody s_is_mark) (defScope s_is_mark) .none kV_is_mark dc_is_mark pm_is_mark an_is_mark cd_is_mark ct_is_mark), fd_lost_by := (PySem.W.fnOf "lost_by" "lost_by" (defArgs s_lost_by) (defBody s_lost_by) (defScope s_lost_by) .none kV_lost_by dc_lost_by pm_lost_by an_lost_by cd_lost_by ct_lost_by), fd_joined := (PySem.W.fnOf "joined" "joined" (defArgs s_joined) (defBody s_joined) (defScope s_joined) .none kV_joined dc_joined pm_joined an_joined cd_joined ct_joined), fd_bytes_among := (PySem.W.fnOf "bytes_among" "bytes_among" (defArgs s_bytes_among) (defBody s_bytes_among) (defScope s_bytes_among) .none kV_bytes_among dc_bytes_among pm_bytes_among an_bytes_among cd_bytes_among ct_bytes_among), fd_ReceiveQueue_init := (PySem.W.fnOf "__init__" "ReceiveQueue.__init__" (defArgs s_ReceiveQueue_init) (defBody s_ReceiveQueue_init) (defScope s_ReceiveQueue_init) .none kV_ReceiveQueue_init dc_ReceiveQueue_init pm_ReceiveQueue_init an_ReceiveQueue_init cd_ReceiveQueue_init ct_ReceiveQueue_init), fd_ReceiveQueue_arrive := (PySem.W.fnOf "arrive" "ReceiveQueue.arrive" (defArgs s_ReceiveQueue_arrive) (defBody s_ReceiveQueue_arrive) (defScope s_ReceiveQueue_arrive) .none kV_ReceiveQueue_arrive dc_ReceiveQueue_arrive pm_ReceiveQueue_arrive an_ReceiveQueue_arrive cd_ReceiveQueue_arrive ct_ReceiveQueue_arrive), fd_ReceiveQueue_first := (PySem.W.fnOf "first" "ReceiveQueue.first" (defArgs s_ReceiveQueue_first) (defBody s_ReceiveQueue_first) (defScope s_ReceiveQueue_first) .none kV_ReceiveQueue_first dc_ReceiveQueue_first pm_ReceiveQueue_first an_ReceiveQueue_first cd_ReceiveQueue_first ct_ReceiveQueue_first), fd_ReceiveQueue_take := (PySem.W.fnOf "take" "ReceiveQueue.take" (defArgs s_ReceiveQueue_take) (defBody s_ReceiveQueue_take) (defScope s_ReceiveQueue_take) .none kV_ReceiveQueue_take dc_ReceiveQueue_take pm_ReceiveQueue_take an_ReceiveQueue_take cd_ReceiveQueue_take ct_ReceiveQueue_take), fd_ReceiveQueue_oldest_tick := (PySem.W.fnOf "oldest_tick" "ReceiveQueue.oldest_tick" (defArgs s_ReceiveQueue_oldest_tick) (defBody s_ReceiveQueue_oldest_tick) (defScope s_ReceiveQueue_oldest_tick) .none kV_ReceiveQueue_oldest_tick dc_ReceiveQueue_oldest_tick pm_ReceiveQueue_oldest_tick an_ReceiveQueue_oldest_tick cd_ReceiveQueue_oldest_tick ct_ReceiveQueue_oldest_tick), fd_ReceiveQueue_bytes_held := (PySem.W.fnOf "bytes_held" "ReceiveQueue.bytes_held" (defArgs s_ReceiveQueue_bytes_held) (defBody s_ReceiveQueue_bytes_held) (defScope s_ReceiveQueue_bytes_held) .none kV_ReceiveQueue_bytes_held dc_ReceiveQueue_bytes_held pm_ReceiveQueue_bytes_held an_ReceiveQueue_bytes_held cd_ReceiveQueue_bytes_held ct_ReceiveQueue_bytes_held), fd_ReceiveQueue_contents := (PySem.W.fnOf "contents" "ReceiveQueue.contents" (defArgs s_ReceiveQueue_contents) (defBody s_ReceiveQueue_contents) (defScope s_ReceiveQueue_contents) .none kV_ReceiveQueue_contents dc_ReceiveQueue_contents pm_ReceiveQueue_contents an_ReceiveQueue_contents cd_ReceiveQueue_contents ct_ReceiveQueue_contents), fd_ReceiveQueue_append := (PySem.W.fnOf "_append" "ReceiveQueue._append" (defArgs s_ReceiveQueue_append) (defBody s_ReceiveQueue_append) (defScope s_ReceiveQueue_append) .none kV_ReceiveQueue_append dc_ReceiveQueue_append pm_ReceiveQueue_append an_ReceiveQueue_append cd_ReceiveQueue_append ct_ReceiveQueue_append), fd_ReceiveQueue_lose := (PySem.W.fnOf "_lose" "ReceiveQueue._lose" (defArgs s_ReceiveQueue_lose) (defBody s_ReceiveQueue_lose) (defScope s_ReceiveQueue_lose) .none kV_ReceiveQueue_lose dc_ReceiveQueue_lose pm_ReceiveQueue_lose an_ReceiveQueue_lose cd_ReceiveQueue_lose ct_ReceiveQueue_lose), fd_law_state := (PySem.W.fnOf "_law_state" "_law_state" (defArgs s_law_state) (defBody s_law_state) (defScope s_law_state) .none kV_law_state dc_law_state pm_law_state an_law_state cd_law_state ct_law_state), fd_law_draw := (PySem.W.fnOf "_law_draw" "_law_draw" (defArgs s_law_draw) (defBody s_law_draw) (defScope s_law_draw) .none kV_law_draw dc_law_draw pm_law_draw an_law_draw cd_law_draw ct_law_draw), fd_law_pick := (PySem.W.fnOf "_law_pick" "_law_pick" (defArgs s_law_pick) (defBody s_law_pick) (defScope s_law_pick) .none kV_law_pick dc_law_pick pm_law_pick an_law_pick cd_law_pick ct_law_pick), fd_law_is_integer := (PySem.W.fnOf "_law_is_integer" "_law_is_integer" (defArgs s_law_is_integer) (defBody s_law_is_integer) (defScope s_law_is_integer) .none kV_law_is_integer dc_law_is_integer pm_law_is_integer an_law_is_integer cd_law_is_integer ct_law_is_integer), fd_law_same := (PySem.W.fnOf "_law_same" "_law_same" (defArgs s_law_same) (defBody s_law_same) (defScope s_law_same) .none kV_law_same dc_law_same pm_law_same an_law_same cd_law_same ct_law_same), fd_law_held := (PySem.W.fnOf "_law_held" "_law_held" (defArgs s_law_held) (defBody s_law_held) (defScope s_law_held) .none kV_law_held dc_law_held pm_law_held an_law_held cd_law_held ct_law_held), fd_law_agrees := (PySem.W.fnOf "_law_agrees" "_law_agrees" (defArgs s_law_agrees) (defBody s_law_agrees) (defScope s_law_agrees) .none kV_law_agrees dc_law_agrees pm_law_agrees an_law_agrees cd_law_agrees ct_law_agrees), fd_law_arrives := (PySem.W.fnOf "_law_arrives" "_law_arrives" (defArgs s_law_arrives) (defBody s_law_arrives) (defScope s_law_arrives) .none kV_law_arrives dc_law_arrives pm_law_arrives an_law_arrives cd_law_arrives ct_law_arrives), fd_law_takes := (PySem.W.fnOf "_law_takes" "_law_takes" (defArgs s_law_takes) (defBody s_law_takes) (defScope s_law_takes) .none kV_law_takes dc_law_takes pm_law_takes an_law_takes cd_law_takes ct_law_takes), fd_law := (PySem.W.fnOf "law" "law" (defArgs s_law) (defBody s_law) (defScope s_law) .none kV_law dc_law pm_law an_law cd_law ct_law) }
  refine ⟨a.fd_law, fun s v => .of_eq rfl, fun base hKb hGb => ?_⟩
  have T : Txt l.prog w K mg base a := {
    g_abs := PySem.W.mg_none_of X G z_abs,
    g_bool := PySem.W.mg_none_of X G z_bool,
    g_int := PySem.W.mg_none_of X G z_int,
    g_isinstance := PySem.W.mg_none_of X G z_isinstance,
    g_len := PySem.W.mg_none_of X G z_len,
    g_list := PySem.W.mg_none_of X G z_list,
    g_range := PySem.W.mg_none_of X G z_range,
    g_tuple := PySem.W.mg_none_of X G z_tuple,
    F_lost_mark := F_lost_mark,
    b_lost_mark := b_lost_mark,
    g_lost_mark := PySem.W.mg_of X G a_lost_mark,
    F_is_mark := F_is_mark,
    b_is_mark := b_is_mark,
    g_is_mark := PySem.W.mg_of X G a_is_mark,
    F_lost_by := F_lost_by,
    b_lost_by := b_lost_by,
    g_lost_by := PySem.W.mg_of X G a_lost_by,
    F_joined := F_joined,
    b_joined := b_joined,
    g_joined := PySem.W.mg_of X G a_joined,
    F_bytes_among := F_bytes_among,
    b_bytes_among := b_bytes_among,
    g_bytes_among := PySem.W.mg_of X G a_bytes_among,
    F_ReceiveQueue_init := F_ReceiveQueue_init,
    b_ReceiveQueue_init := b_ReceiveQueue_init,
    mk_ReceiveQueue := ⟨mk_ReceiveQueue, a_ReceiveQueue_init, i_ReceiveQueue_init, kc_ReceiveQueue⟩,
    F_ReceiveQueue_arrive := F_ReceiveQueue_arrive,
    b_ReceiveQueue_arrive := b_ReceiveQueue_arrive,
    m_ReceiveQueue_arrive := ⟨a_ReceiveQueue_arrive, i_ReceiveQueue_arrive, k_ReceiveQueue_arrive⟩,
    F_ReceiveQueue_first := F_ReceiveQueue_first,
    b_ReceiveQueue_first := b_ReceiveQueue_first,
    m_ReceiveQueue_first := ⟨a_ReceiveQueue_first, i_ReceiveQueue_first, k_ReceiveQueue_first⟩,
    F_ReceiveQueue_take := F_ReceiveQueue_take,
    b_ReceiveQueue_take := b_ReceiveQueue_take,
    m_ReceiveQueue_take := ⟨a_ReceiveQueue_take, i_ReceiveQueue_take, k_ReceiveQueue_take⟩,
    F_ReceiveQueue_oldest_tick := F_ReceiveQueue_oldest_tick,
    b_ReceiveQueue_oldest_tick := b_ReceiveQueue_oldest_tick,
    m_ReceiveQueue_oldest_tick := ⟨a_ReceiveQueue_oldest_tick, i_ReceiveQueue_oldest_tick, k_ReceiveQueue_oldest_tick⟩,
    F_ReceiveQueue_bytes_held := F_ReceiveQueue_bytes_held,
    b_ReceiveQueue_bytes_held := b_ReceiveQueue_bytes_held,
    m_ReceiveQueue_bytes_held := ⟨a_ReceiveQueue_bytes_held, i_ReceiveQueue_bytes_held, k_ReceiveQueue_bytes_held⟩,
    F_ReceiveQueue_contents := F_ReceiveQueue_contents,
    b_ReceiveQueue_contents := b_ReceiveQueue_contents,
    m_ReceiveQueue_contents := ⟨a_ReceiveQueue_contents, i_ReceiveQueue_contents, k_ReceiveQueue_contents⟩,
    F_ReceiveQueue_append := F_ReceiveQueue_append,
    b_ReceiveQueue_append := b_ReceiveQueue_append,
    m_ReceiveQueue_append := ⟨a_ReceiveQueue_append, i_ReceiveQueue_append, k_ReceiveQueue_append⟩,
    F_ReceiveQueue_lose := F_ReceiveQueue_lose,
    b_ReceiveQueue_lose := b_ReceiveQueue_lose,
    m_ReceiveQueue_lose := ⟨a_ReceiveQueue_lose, i_ReceiveQueue_lose, k_ReceiveQueue_lose⟩,
    F_law_state := F_law_state,
    b_law_state := b_law_state,
    g_law_state := PySem.W.mg_of X G a_law_state,
    F_law_draw := F_law_draw,
    b_law_draw := b_law_draw,
    g_law_draw := PySem.W.mg_of X G a_law_draw,
    F_law_pick := F_law_pick,
    b_law_pick := b_law_pick,
    g_law_pick := PySem.W.mg_of X G a_law_pick,
    F_law_is_integer := F_law_is_integer,
    b_law_is_integer := b_law_is_integer,
    g_law_is_integer := PySem.W.mg_of X G a_law_is_integer,
    F_law_same := F_law_same,
    b_law_same := b_law_same,
    g_law_same := PySem.W.mg_of X G a_law_same,
    F_law_held := F_law_held,
    b_law_held := b_law_held,
    g_law_held := PySem.W.mg_of X G a_law_held,
    F_law_agrees := F_law_agrees,
    b_law_agrees := b_law_agrees,
    g_law_agrees := PySem.W.mg_of X G a_law_agrees,
    F_law_arrives := F_law_arrives,
    b_law_arrives := b_law_arrives,
    g_law_arrives := PySem.W.mg_of X G a_law_arrives,
    F_law_takes := F_law_takes,
    b_law_takes := b_law_takes,
    g_law_takes := PySem.W.mg_of X G a_law_takes,
    F_law := F_law,
    b_law := b_law,
    g_law := PySem.W.mg_of X G a_law,
    g_ReceiveQueue := PySem.W.mg_of X G gC_ReceiveQueue,
    cl_ReceiveQueue := ⟨pg_ReceiveQueue, hd_ReceiveQueue, po_ReceiveQueue, sa_ReceiveQueue⟩,
    n_ReceiveQueue_capacity := n_ReceiveQueue_capacity,
    n_ReceiveQueue_items := n_ReceiveQueue_items,
    n_ReceiveQueue_ticks := n_ReceiveQueue_ticks }
  exact FnOk.imp (ok_law T) fun vs H Q E h => h
theorem walk {l : PySem.W.OpenLaw} {q : Program} {loose : List Str} {XP : (Str → Option Value) → Heap → Prop} {YP : World → Heap → Prop} {d : DefRec} {K : Params → PySem.W.Frag} (hn : l.most = some 63) (hdf : d.params.defaults = [])
    (hY : ∀ (w : World) (h : Heap), YP w h → (K w.params).In h)
    (F : ∀ (w : World) (mg : Str → Option Value) (fa : Addr) (h : Heap), (K w.params).In h → h.Ns mainGlobals mg → mg d.name = some (.ref fa) → ∃ fd : FuncData, (∀ (s : Shared) (u : Value), BindsTo s fd ⟨[u], []⟩ [("script", u)]) ∧
      ∀ base : Heap, (K w.params).In base → base.Ns mainGlobals mg → FnOk l.prog w (K w.params) mg base (L2.CX l.prog w) 6 fa fd ["script"] (sp_law0 (K w.params))) :
    PySem.W.WalkO q loose XP YP l.row.toRowW d [] (fun f vs => PySem.call f vs) :=
  L2.walk_of (n := 63) (k := 6) (x := "script") (CX := fun w => L2.CX l.prog w) (sp := fun w => sp_law0 (K w.params)) hn (by decide) hdf ⟨rfl, by decide, by decide⟩ hY F (fun _ _ b ns hl _ hS => a1 ⟨b, ns, rfl, hS, hl, fun _ => rfl⟩) fun _ _ _ _ _ ⟨_, _, _, _, _, _, _, _, _, _, _, _, z⟩ => z
end My
open PySem PySem.W PyProof.Rows
set_option maxRecDepth 100000 in
set_option maxHeartbeats 0 in
theorem PySem.Challenge.cw_tickrings_k08_receive_queues_holds : PySem.Challenge.rw_tickrings_k08_receive_queues.Holds := by
  w_on; o_law; k_head; (case hw => w_witness2)
  k_fill
  refine My.walk (l := PySem.Challenge.rw_tickrings_k08_receive_queues) rfl rfl (fun w h Y => PySem.W.kIn_of Y) ?F
  case F =>
    intro w mg fa h KX G hmg
    refine' My.all_mk rfl KX G hmg ?hgC_ReceiveQueue ?ha_lost_mark ?hl_lost_mark ?hc_lost_mark ?hk_lost_mark ?ha_is_mark ?hl_is_mark ?hc_is_mark ?hk_is_mark ?ha_lost_by ?hl_lost_by ?hc_lost_by ?hk_lost_by ?ha_joined ?hl_joined ?hc_joined ?hk_joined ?ha_bytes_among ?hl_bytes_among ?hc_bytes_among ?hk_bytes_among ?ha_ReceiveQueue_init ?hi_ReceiveQueue_init ?hl_ReceiveQueue_init ?hc_ReceiveQueue_init ?hk_ReceiveQueue_init ?ha_ReceiveQueue_arrive ?hi_ReceiveQueue_arrive ?hl_ReceiveQueue_arrive ?hc_ReceiveQueue_arrive ?hk_ReceiveQueue_arrive ?ha_ReceiveQueue_first ?hi_ReceiveQueue_first ?hl_ReceiveQueue_first ?hc_ReceiveQueue_first ?hk_ReceiveQueue_first ?ha_ReceiveQueue_take ?hi_ReceiveQueue_take ?hl_ReceiveQueue_take ?hc_ReceiveQueue_take ?hk_ReceiveQueue_take ?ha_ReceiveQueue_oldest_tick ?hi_ReceiveQueue_oldest_tick ?hl_ReceiveQueue_oldest_tick ?hc_ReceiveQueue_oldest_tick ?hk_ReceiveQueue_oldest_tick ?ha_ReceiveQueue_bytes_held ?hi_ReceiveQueue_bytes_held ?hl_ReceiveQueue_bytes_held ?hc_ReceiveQueue_bytes_held ?hk_ReceiveQueue_bytes_held ?ha_ReceiveQueue_contents ?hi_ReceiveQueue_contents ?hl_ReceiveQueue_contents ?hc_ReceiveQueue_contents ?hk_ReceiveQueue_contents ?ha_ReceiveQueue_append ?hi_ReceiveQueue_append ?hl_ReceiveQueue_append ?hc_ReceiveQueue_append ?hk_ReceiveQueue_append ?ha_ReceiveQueue_lose ?hi_ReceiveQueue_lose ?hl_ReceiveQueue_lose ?hc_ReceiveQueue_lose ?hk_ReceiveQueue_lose ?ha_law_state ?hl_law_state ?hc_law_state ?hk_law_state ?ha_law_draw ?hl_law_draw ?hc_law_draw ?hk_law_draw ?ha_law_pick ?hl_law_pick ?hc_law_pick ?hk_law_pick ?ha_law_is_integer ?hl_law_is_integer ?hc_law_is_integer ?hk_law_is_integer ?ha_law_same ?hl_law_same ?hc_law_same ?hk_law_same ?ha_law_held ?hl_law_held ?hc_law_held ?hk_law_held ?ha_law_agrees ?hl_law_agrees ?hc_law_agrees ?hk_law_agrees ?ha_law_arrives ?hl_law_arrives ?hc_law_arrives ?hk_law_arrives ?ha_law_takes ?hl_law_takes ?hc_law_takes ?hk_law_takes ?ha_law ?hl_law ?hc_law ?hk_law ?hpg_ReceiveQueue ?hhd_ReceiveQueue ?hpo_ReceiveQueue ?hsa_ReceiveQueue ?hmk_ReceiveQueue ?hkc_ReceiveQueue ?hn_ReceiveQueue_capacity ?hn_ReceiveQueue_items ?hn_ReceiveQueue_ticks ?hz_abs ?hz_bool ?hz_int ?hz_isinstance ?hz_len ?hz_list ?hz_range ?hz_tuple
    (case hgC_ReceiveQueue => k_is)
    (case ha_lost_mark => k_is)
    (case hl_lost_mark => k_is)
    (case hc_lost_mark => k_is)
    (case hk_lost_mark => k_is)
    (case ha_is_mark => k_is)
    (case hl_is_mark => k_is)
    (case hc_is_mark => k_is)
    (case hk_is_mark => k_is)
    (case ha_lost_by => k_is)
    (case hl_lost_by => k_is)
    (case hc_lost_by => k_is)
    (case hk_lost_by => k_is)
    (case ha_joined => k_is)
    (case hl_joined => k_is)
    (case hc_joined => k_is)
    (case hk_joined => k_is)
    (case ha_bytes_among => k_is)
    (case hl_bytes_among => k_is)
    (case hc_bytes_among => k_is)
    (case hk_bytes_among => k_is)
    (case ha_ReceiveQueue_init => k_is)
    (case hi_ReceiveQueue_init => k_is)
    (case hl_ReceiveQueue_init => k_is)
    (case hc_ReceiveQueue_init => k_is)
    (case hk_ReceiveQueue_init => k_is)
    (case ha_ReceiveQueue_arrive => k_is)
    (case hi_ReceiveQueue_arrive => k_is)
    (case hl_ReceiveQueue_arrive => k_is)
    (case hc_ReceiveQueue_arrive => k_is)
    (case hk_ReceiveQueue_arrive => k_is)
    (case ha_ReceiveQueue_first => k_is)
    (case hi_ReceiveQueue_first => k_is)
    (case hl_ReceiveQueue_first => k_is)
    (case hc_ReceiveQueue_first => k_is)
    (case hk_ReceiveQueue_first => k_is)
    (case ha_ReceiveQueue_take => k_is)
    (case hi_ReceiveQueue_take => k_is)
    (case hl_ReceiveQueue_take => k_is)
    (case hc_ReceiveQueue_take => k_is)
    (case hk_ReceiveQueue_take => k_is)
    (case ha_ReceiveQueue_oldest_tick => k_is)
    (case hi_ReceiveQueue_oldest_tick => k_is)
    (case hl_ReceiveQueue_oldest_tick => k_is)
    (case hc_ReceiveQueue_oldest_tick => k_is)
    (case hk_ReceiveQueue_oldest_tick => k_is)
    (case ha_ReceiveQueue_bytes_held => k_is)
    (case hi_ReceiveQueue_bytes_held => k_is)
    (case hl_ReceiveQueue_bytes_held => k_is)
    (case hc_ReceiveQueue_bytes_held => k_is)
    (case hk_ReceiveQueue_bytes_held => k_is)
    (case ha_ReceiveQueue_contents => k_is)
    (case hi_ReceiveQueue_contents => k_is)
    (case hl_ReceiveQueue_contents => k_is)
    (case hc_ReceiveQueue_contents => k_is)
    (case hk_ReceiveQueue_contents => k_is)
    (case ha_ReceiveQueue_append => k_is)
    (case hi_ReceiveQueue_append => k_is)
    (case hl_ReceiveQueue_append => k_is)
    (case hc_ReceiveQueue_append => k_is)
    (case hk_ReceiveQueue_append => k_is)
    (case ha_ReceiveQueue_lose => k_is)
    (case hi_ReceiveQueue_lose => k_is)
    (case hl_ReceiveQueue_lose => k_is)
    (case hc_ReceiveQueue_lose => k_is)
    (case hk_ReceiveQueue_lose => k_is)
    (case ha_law_state => k_is)
    (case hl_law_state => k_is)
    (case hc_law_state => k_is)
    (case hk_law_state => k_is)
    (case ha_law_draw => k_is)
    (case hl_law_draw => k_is)
    (case hc_law_draw => k_is)
    (case hk_law_draw => k_is)
    (case ha_law_pick => k_is)
    (case hl_law_pick => k_is)
    (case hc_law_pick => k_is)
    (case hk_law_pick => k_is)
    (case ha_law_is_integer => k_is)
    (case hl_law_is_integer => k_is)
    (case hc_law_is_integer => k_is)
    (case hk_law_is_integer => k_is)
    (case ha_law_same => k_is)
    (case hl_law_same => k_is)
    (case hc_law_same => k_is)
    (case hk_law_same => k_is)
    (case ha_law_held => k_is)
    (case hl_law_held => k_is)
    (case hc_law_held => k_is)
    (case hk_law_held => k_is)
    (case ha_law_agrees => k_is)
    (case hl_law_agrees => k_is)
    (case hc_law_agrees => k_is)
    (case hk_law_agrees => k_is)
    (case ha_law_arrives => k_is)
    (case hl_law_arrives => k_is)
    (case hc_law_arrives => k_is)
    (case hk_law_arrives => k_is)
    (case ha_law_takes => k_is)
    (case hl_law_takes => k_is)
    (case hc_law_takes => k_is)
    (case hk_law_takes => k_is)
    (case ha_law => k_is)
    (case hl_law => k_is)
    (case hc_law => k_is)
    (case hk_law => k_is)
    (case hpg_ReceiveQueue => k_is)
    (case hhd_ReceiveQueue => k_is)
    (case hpo_ReceiveQueue => k_is)
    (case hsa_ReceiveQueue => k_is)
    (case hmk_ReceiveQueue => k_is)
    (case hkc_ReceiveQueue => k_is)
    (case hn_ReceiveQueue_capacity => k_is)
    (case hn_ReceiveQueue_items => k_is)
    (case hn_ReceiveQueue_ticks => k_is)
    (case hz_abs => k_is)
    (case hz_bool => k_is)
    (case hz_int => k_is)
    (case hz_isinstance => k_is)
    (case hz_len => k_is)
    (case hz_list => k_is)
    (case hz_range => k_is)
    (case hz_tuple => k_is)
#print axioms PySem.Challenge.cw_tickrings_k08_receive_queues_holds
