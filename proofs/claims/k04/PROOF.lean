import PyProof.Rows.All
import Wide.All
import OpenK.AllK
import Wide.FinOn
import HandS.ForExc
import HandS.Nested
import HandS.ExcInit
import HandS.ExcField
import HandS.FStr
import HandS.MakeKwOnly
import HandS.IsInst
import HandS.ExcIs
import KE.KExcSuper
import KE.KExcIs
import HandS.ForMost
import HandS.Evl
import PySem.Challenge.RW_tickrings_k04_no_owner_without_a_buffer
set_option Elab.async false
set_option maxRecDepth 100000
set_option maxHeartbeats 4000000
set_option linter.all false
set_option autoImplicit false
/-! An own error class over another own class over ValueError, whose __init__ says super().__init__(..) and stores one field. -/
namespace Sx
open PySem PySem.Spec PyProof.Rows L2 PySem.W PySem.Calls NdefX
section
variable {prog : Program} {w : World} {A : Around} {E : Value → Shared → Prop} {h : Heap} {g : Array GenState} {d : Drawn} {t : Nat} {os : OsState}
/-- ValueError.__init__ bound to an exception, called -/
theorem call_mw {nm q : Str} {C N u e t0 : Addr} {bs bm : List Value} {hdct : Bool} {sn : List Str} {sub : List Value} {ab : Bool} {col : Option Bool} {dd : Option Addr} {k0 k1 k2 k3 k5 : Option Value} {rest : List Value} {Q : Value → Shared → Prop}
    (hC : h.get? C = some (excClassObj nm q C N bs bm hdct sn sub ab col dd k0 k1 k2 k3 k5 "ValueError.__new__")) (he : h.get? e = some (HandSPX.excO C t0)) (hu : h.get? u = some (kxs_mw "ValueError.__init__" e)) (hrest : rest.length ≤ sizeLine)
    (hq : ∀ h' t1, (∀ b o, b ≠ e → h.get? b = some o → h'.get? b = some o) → h'.get? e = some (HandSPX.excO C t1) → Q .none ⟨h', g, d, t, os⟩) :
    wpAny (model prog w) A (call (.ref u) rest) Q E ⟨h, g, d, t, os⟩ := by
  refine wpAny_call (codeAny_of_tree ?_)
  show wpAny _ A.in1 (callAny (.ref u) ⟨rest, []⟩) _ _ _
  simp only [callAny]
  refine wpAny_bind (wpAny_load hu ?_)
  simp only [kxs_mw, show (Value.type "method-wrapper" == Value.type "method" || Value.type "method-wrapper" == Value.type "builtin_function_or_method" || Value.type "method-wrapper" == Value.type "method-wrapper") = true by decide, if_true]
  refine W.KFB.if_so (by decide) ?_
  refine wpAny_bind (check_bound_init F.excBase_ValueError.toExcCallFacts hC he rfl ?_)
  refine wpAny_bind (wpAny_pure (wpAny_pure ?_))
  refine ⟨plainId_quiet F.excBase_ValueError.init.plain _, codeAny_builtin F.excBase_ValueError.initEntry ?_⟩
  exact exc_init_tree (cls := .ref C) (t0 := t0) (dv := none) (c2 := .none) (c3 := .none) (b4 := .bool false) he hrest fun h' k hx _ => hq h' _ k hx
end
/-- what the top has written of such a class -/
structure ErrC (P : Program) (K : PySem.W.Frag) (mg : Str → Option Value) (C : Addr) : Prop where
  ox : OexC K C
  sup : ks_superIn K C C "__init__" = some (some (.builtin "ValueError.__init__"))
  ve : PySem.W.subIn K (.ref C) (.type "ValueError") = some true
  op : PySem.W.nsIn K cStatics "thirdparty.any" = some none
  selfM : PySem.W.mroIn K C (.ref C) = some true
  sm : mg "super" = none
  top : (P.main.scope.names.lookup ("super" : Str)).isSome = false
/-- its __init__ -/
structure ErrI (P : Program) (K : PySem.W.Frag) (C cc cda fI : Addr) (name qual : Str) (params : Arguments) (body : List Stmt) (scope : Scope) (fd : FuncData) : Prop where
  fn : ∃ oc od osl dV kV doc pm an ct, fd = PySem.W.fnX name qual params body scope [("__class__", cc)] dV kV doc pm an (.ref cda) ct ∧ K.lookup fI = some ⟨oc, od, .func fd, osl⟩
  cd : PySem.W.codeIn K (.ref cda) qual = true
  cell : ∃ cl cld csl, K.lookup cc = some ⟨cl, cld, .cell (some (.ref C)), csl⟩
  code : ∃ ccl cdd vs ccs file tf, K.lookup cda = some ⟨ccl, cdd, .fields vs, ccs⟩ ∧ vs[2]? = some (.str file tf) ∧ ((P.main.file : Str) == file) = true
section
variable {P : Program} {w : World} {K : PySem.W.Frag} {mg : Str → Option Value} {base : Heap} {CX : CXT}
theorem fn_of_err {C cc cda f : Addr} {name qual : Str} {params : Arguments} {scope : Scope} {fd : FuncData} {ar : Arg} {N ps : List Str} {k : Nat} {sp : Sp} {p0 p1 p2 pos pos' : Pos} {e : Expr} {es : List Expr} {rest : List Stmt}
    (T : ErrC P K mg C) (I0 : ErrI P K C cc cda f name qual params (.Expr (.Call (.Attribute (.Call (.Name "super" p0) [] [] p1) "__init__" p2) (e :: es) [] pos) pos' :: rest) scope fd)
    (S : NScope N ps ["__class__"] scope) (hp : (params.posonlyargs ++ params.args).head? = some ar) (hp0 : ps[0]? = some ar.arg) (hsup : scope.names.lookup ("super" : Str) = some .globalImplicit)
    (len : ∀ vs H Q E, sp vs H Q E → vs.length = ps.length)
    (he : ∀ env, starEach (e :: es) env = (false, eval e env) :: starEach es env) (hpl : ∀ env, (backTo pos (starEach es env)).any (·.1) = false)
    {pl : Env → Sem Bool} (hmc : ∀ env : Env, eval (.Call (.Attribute (.Call (.Name "super" p0) [] [] p1) "__init__" p2) (e :: es) [] pos) env = (do
      let ov ← attributeBase (.Call (.Name "super" p0) [] [] p1) "__init__" env (eval (.Call (.Name "super" p0) [] [] p1) env)
      standAt p2.atName
      let (f, first) ← holding [ov] (getMethod ov "__init__" (pl env))
      callWith pos f first (backTo pos (starEach (e :: es) env)) []))
    (hsw : ∀ env, swapsWith (.Call (.Attribute (.Call (.Name "super" p0) [] [] p1) "__init__" p2) (e :: es) [] pos) none pos'.line env = pure false)
    (hbody : ∀ (A : Around) (outer : List Env) (s : Shared) (H : Hp) (vs : List V) (Q : VK) (E : XK), sp vs H Q E →
      ∃ ta t, PA (ncx CX P w K mg base N ⟨name, qual, params, .Expr (.Call (.Attribute (.Call (.Name "super" p0) [] [] p1) "__init__" p2) (e :: es) [] pos) pos' :: rest, scope, [("__class__", cc)], cda⟩ f A outer s H E) (e :: es) ta ∧
        PSs (ncx CX P w K mg base N ⟨name, qual, params, .Expr (.Call (.Attribute (.Call (.Name "super" p0) [] [] p1) "__init__" p2) (e :: es) [] pos) pos' :: rest, scope, [("__class__", cc)], cda⟩ f A outer s H E) rest t ∧
        ∃ a, vs[0]? = some (.ref a) ∧ H a = some (exo a C none) ∧
          ta (startF N vs [some (.ref C)]) H fun ws H1 => ws.length ≤ 1000 ∧ H1 a = some (exo a C none) ∧ t { nx := fun _ H' => Q .non H', rt := Q } (startF N vs [some (.ref C)]) H1) :
    FnOk P w K mg base CX (k + 1) f fd ps sp := by
  obtain ⟨⟨oc, od, osl, dV, kV, doc, pm, an, ct, rfl, lk⟩, hcd, ⟨cl, cld, csl, hcell⟩, ⟨ccl, cdd, vsC, ccs, file, tf, hcode, hvs, hfile⟩⟩ := I0
  refine ⟨len, fun A outer s H args us vs Q E hr e0 hb r hsp => ?_⟩
  have hl := len _ _ _ _ hsp
  have KX : K.In s.heap := e0.mod.kin.keeps fun b o e => (e0.bs b o e).1
  have lim : s.heap.NoLimit := e0.mod.nolimit.keeps fun b o e => (e0.bs b o e).1
  have C0 : CellsAt [(("__class__" : Str), cc)] ["__class__"] [some (V.ref C)] s.heap H := by
    refine ⟨rfl, fun y c q => ?_, fun x y c q1 q2 => ?_, fun i y q => ?_⟩
    · have hy : c = cc := by
        by_cases hyy : y = ("__class__" : Str)
        · subst hyy
          simpa [List.lookup] using q.symm
        · have : (y == ("__class__" : Str)) = false := by simpa using hyy
          simp [List.lookup, this] at q
      subst hy
      exact ⟨(e0.bs c _ (e0.mod.kin _ _ hcell)).2, _, ⟨_, KX _ _ hcell, rfl⟩⟩
    · have hx : x = ("__class__" : Str) := by
        by_cases hyy : x = ("__class__" : Str)
        · exact hyy
        · have : (x == ("__class__" : Str)) = false := by simpa using hyy
          simp [List.lookup, this] at q1
      have hy : y = ("__class__" : Str) := by
        by_cases hyy : y = ("__class__" : Str)
        · exact hyy
        · have : (y == ("__class__" : Str)) = false := by simpa using hyy
          simp [List.lookup, this] at q2
      rw [hx, hy]
    · match i, q with
      | 0, q =>
        have hy : ("__class__" : Str) = y := Option.some.inj q
        subst hy
        refine ⟨cc, by simp [List.lookup], fun v hv => ⟨.ref C, ?_, _, KX _ _ hcell, rfl⟩⟩
        have hv' : V.ref C = v := by simpa using hv
        subst hv'
        rfl
      | i + 1, q => simp at q
  let F : NF := ⟨name, qual, params, .Expr (.Call (.Attribute (.Call (.Name "super" p0) [] [] p1) "__init__" p2) (e :: es) [] pos) pos' :: rest, scope, [("__class__", cc)], cda⟩
  have hS : NScope N ps ["__class__"] F.scope := S
  refine ks_codeAny_call_defAt (body := F.body) (binds := ps.zip us) hr.depth (KX _ _ lk) rfl lim (codeRec_of KX hcd) rfl (hb) S.nocell (fun ⟨n, _⟩ hy => S.par n (List.of_mem_zip hy).1) (fun h₁ hns kp => ?_) S.co S.gen S.kind
  obtain ⟨ta, tb, hta, htb, a, hv0, hea, hq⟩ := hbody A outer s H vs Q E hsp
  have I : Inv (ncx CX P w K mg base N F f A outer s H E) [] (startF N vs [some (.ref C)]) H { s with heap := h₁, toks := s.toks + (ps.zip us).length } := inv_startN hS hr.hd e0 hl r C0 hns kp
  show PySem.wpAt _ (A.deeper (envF F f s.heap.objs.size)) (.func F.body (envF F f s.heap.objs.size)) (execs F.body (envF F f s.heap.objs.size)) _ _ _
  refine ks_wpAt_mono (Q := SP (ncx CX P w K mg base N F f A outer s H E) [] { nx := fun _ H' => Q .non H', rt := Q }) (ks_wpAt_execs_cons (ks_wpAt_Expr_any (ks_wpAt_MethodCall (pl := pl _) ?_ (hmc _)) (by show (scope.kind == ScopeKind.module && _) = false; rw [S.kind]; rfl) (hsw _))) (fun fl s' hs => ?_) fun e s' hs => hs
  · -- super()
    have KX1 : K.In h₁ := KX.keeps kp
    obtain ⟨nm, q, N', bs, bm, sn, sub, ab, col, dd, k0, k1, k2, k3, k5, hC, hbm⟩ := T.ox.cls
    have hcl : PySem.W.clsIn K C = some { name := nm, bases := bs, mro := .ref C :: bm, ns := N', qualname := q, hasDict := true, slotNames := sn, subclasses := sub, abstract := ab, collection := col, hasDel := false } := by unfold PySem.W.clsIn; rw [hC] <;> rfl
    obtain ⟨t1, ho⟩ := exo_at I.hok hea
    have hu0 : us[0]? = some (.ref a) := by
      obtain ⟨u, hu, ru⟩ := r.get hv0
      have : u = Value.ref a := ru
      rw [hu, this]
    have hself : (ps.zip us).reverse.lookup ar.arg = some (.ref a) := by
      have ndP : ps.Nodup := by
        have q := S.nd.sublist (List.take_sublist (ps.length + 1) N)
        have q2 := S.pre
        simp only [List.length_cons, List.length_nil, Nat.zero_add] at q2
        rw [q2] at q
        exact (List.nodup_append.mp q).1
      exact zip_look ndP hp0 hu0
    have gl : h₁.Ns mainGlobals mg := e0.mod.glob.keeps fun b o z => kp b o (e0.bs b o z).1
    obtain ⟨mb, hmb, hmbE⟩ := e0.mod.blt
    have bl : h₁.Ns builtinsNs mb := hmb.keeps fun b o z => kp b o (e0.bs b o z).1
    refine ks_wpAt_super_base (env := envF F f s.heap.objs.size) hsup (S.frk _ List.mem_cons_self) (by decide) rfl (KX1 _ _ lk) rfl hp rfl (KX1 _ _ hcode) rfl hvs hfile T.top ?_
    refine ks_loadName_global S.kind hsup (loadGlobal_builtin (env := envF F f s.heap.objs.size) gl T.sm bl ((hmbE _ (by decide +kernel)).trans (by decide +kernel : bootBuiltins "super" = some (.type "super"))) ⟨rfl, ?_⟩)
    refine wpAny_loadName_free S.kind (S.frk _ List.mem_cons_self) (by first | rfl | simp [List.lookup]) ⟨_, KX1 _ _ hcell, rfl⟩ ?_
    refine wpAny_loadName_local S.kind (S.par _ (List.mem_of_getElem? hp0)) hns hself ?_
    refine ks_wpAny_isType_cls (KX1 _ _ hC) rfl ⟨rfl, ?_⟩
    refine ks_wpAny_call_super (KX1 _ _ hC) rfl ho rfl (fun c e => by cases e) (PySem.W.looks_mroIn KX1 T.selfM) (fun h2 eso k2 => ?_)
    have I1 := I.kept (t' := s.toks + (ps.zip us).length) k2
    have KX2 : K.In h2 := KX1.keeps k2
    have hax : a ≠ C := by
      intro z
      have z1 := KX1 _ _ hC
      rw [← z, ho] at z1
      cases z1
    have ho2 : h2.get? a = some ({ cls := .ref C, dict := none, data := .fields #[.ref t1, .none, .none, .none, .bool false, .none] } : Obj) := k2 _ _ ho
    have J : PySem.W.InstAt h2 a ({ cls := .ref C, dict := none, data := .fields #[.ref t1, .none, .none, .none, .bool false, .none] } : Obj) C none := ⟨ho2, rfl, rfl, trivial⟩
    have hsupX := T.sup
    unfold ks_superIn at hsupX
    rw [hcl] at hsupX
    have hI : PySem.W.Looks (model P w) h2 (isInstance (.ref a) (.type "ValueError")) true := J.type.andThen (PySem.W.looks_subIn KX2 T.ve)
    refine kxs_getMethod kxs_ValueError eso (PySem.W.looks_opaque KX2 T.op) (l₀ := .ref C :: bm) ?_ rfl KX2 hsupX hI hax (by decide) ?_
    · exact fun A Q E s k q => wpAny_bind ((PySem.W.looks_clsIn KX2 hcl) A _ E s k (wpAny_pure q))
    · have k3 : ∀ b o, h2.get? b = some o → (h2.push (kxs_mw "ValueError.__init__" a)).get? b = some o := fun b o e => Heap.get?_push_of_some _ e
      have I2 := I1.kept (t' := s.toks + (ps.zip us).length + 1) k3
      have nu : H h2.objs.size = none := I1.hok.fresh (Nat.le_refl _)
      have hmw : (h2.push (kxs_mw "ValueError.__init__" a)).get? h2.objs.size = some (kxs_mw "ValueError.__init__" a) := Heap.get?_push_at rfl rfl
      have I3 := I2.pins_of (pins' := [(h2.objs.size, kxs_mw "ValueError.__init__" a)]) fun p hp => by
        have hp' : p = (h2.objs.size, kxs_mw "ValueError.__init__" a) := by simpa [ncx] using hp
        subst hp'
        exact ⟨hmw, nu, fun z => absurd I1.lt (by rw [← z]; exact Nat.lt_irrefl _), I1.nofs (Nat.le_refl _), fun v z => by cases z⟩
      refine kxs_callWith (i := "ValueError.__init__") (x := a) (by rw [he]; show (false || (backTo pos (starEach es _)).any (·.1)) = false; rw [hpl]; rfl) ?_
      rw [he]
      refine evalArgs_plain ?_
      show wpAny _ _ (spliced (backTo pos ((false, eval e (envF F f s.heap.objs.size)) :: starEach es (envF F f s.heap.objs.size)))) _ _ _
      rw [← he]
      refine thn (hta.run pos _ _ _ H _ I3 hq) fun us1 s1 hAP => ?_
      obtain ⟨ws, H1, I4, r4, hz, hea1, q4⟩ := hAP
      have hpin := (I4.pin (h2.objs.size, kxs_mw "ValueError.__init__" a) (by simp [ncx])).1
      refine ⟨hpin, ?_⟩
      obtain ⟨t2, ho4⟩ := exo_at I4.hok hea1
      have I5 := I4.pins_of (pins' := []) fun p hp => by simp [ncx] at hp
      obtain ⟨hp4, g4, d4, t4, os4⟩ := s1
      refine call_mw (I4.kIn _ _ hC) ho4 hpin (by show us1.length ≤ sizeLine; rw [← r4.length, sizeLine_eq]; omega) fun h' t5 k5 hx5 => ?_
      have I6 := I5.write (t' := t4) (x := a) (e := a) (o := exo a C none) (by rw [hea1]; exact True.intro) (.inl rfl) k5 ⟨_, hx5⟩ (exo_ok hx5)
      have eu : upd H1 a (exo a C none) = H1 := by
        funext b
        by_cases hb : b = a
        · rw [hb, upd_same, hea1]
        · rw [upd_ne hb]
      rw [eu] at I6
      exact wpAt_of_wpAny (htb.run [] _ _ H1 _ I6 q4)
  · have fin : ∀ {σ' : L2.St} {H' : Hp} {v : V} {u : Value}, Inv (ncx CX P w K mg base N F f A outer s H E) [] σ' H' s' → L2.RelV v u → Q v H' → CE outer P w H s Q u s' :=
      fun {σ' H' v u} J rv q => ⟨v, H', J.os, J.bare, J.base, J.hok, rv, q⟩
    cases fl with
    | ret u =>
      obtain ⟨v, σ', H', J, rv, q⟩ := hs
      exact fin J rv q
    | next =>
      obtain ⟨σ', H', J, q⟩ := hs
      exact fin (v := V.non) (u := Value.none) J rfl q
    | brk =>
      obtain ⟨_, _, _, q⟩ := hs
      exact False.elim q
    | cont =>
      obtain ⟨_, _, _, q⟩ := hs
      exact False.elim q
end

/-! ### the promise of such an __init__, its body, the raise -/
def okV (x : V) : Prop := (∃ y : Str, x = .str y ∧ y.length ≤ 1000) ∨ ∃ i : Int, x = .int i ∧ i.natAbs.log2 < 1920
theorem okV_int {i : Int} (h : -(2 ^ 64) < i ∧ i < 2 ^ 64) : okV (.int i) := by
  refine .inr ⟨i, rfl, ?_⟩
  have h1 : i.natAbs < 2 ^ 64 := by omega
  by_cases h0 : i.natAbs = 0
  · rw [h0]; decide
  · exact Nat.lt_of_lt_of_le ((Nat.log2_lt h0).mpr h1) (by decide)
def spErr (C : Addr) (fld : Str) : Sp := fun vs H Q _ => ∃ a x, vs = [.ref a, x] ∧ okV x ∧ H a = some (exo a C none) ∧ ∀ d, H d = none → d ≠ a → Q .non (upd (upd H d (exd d [(fld, x)])) a (exo a C (some d)))
section
variable {P : Program} {w : World} {K : PySem.W.Frag} {mg : Str → Option Value} {base : Heap} {CX : CXT}
theorem okErr {C cc cda f : Addr} {name qual fld : Str} {params : Arguments} {scope : Scope} {fd : FuncData} {ar : Arg} {prm : Str} {p0 p1 p2 pos pos' q0 q1 q2 q3 : Pos} {e : Expr} {te : TE}
    (T : ErrC P K mg C) (hno : PySem.W.findIn K (.ref C) fld = some none)
    (I0 : ErrI P K C cc cda f name qual params [.Expr (.Call (.Attribute (.Call (.Name "super" p0) [] [] p1) "__init__" p2) [e] [] pos) pos', .Assign [.Attribute (.Name "self" q0) fld q1] (.Name prm q2) q3] scope fd)
    (S : NScope ["self", prm, "__class__"] ["self", prm] ["__class__"] scope) (hp : (params.posonlyargs ++ params.args).head? = some ar) (hp0 : ar.arg = "self") (hsup : scope.names.lookup ("super" : Str) = some .globalImplicit)
    (hd : (prm == ("__debug__" : Str)) = false) (hcd : (prm == ("__classdict__" : Str)) = false)
    (he : ∀ env, starEach [e] env = (false, eval e env) :: starEach [] env)
    {pl : Env → Sem Bool} (hmc : ∀ env : Env, eval (.Call (.Attribute (.Call (.Name "super" p0) [] [] p1) "__init__" p2) [e] [] pos) env = (do
      let ov ← attributeBase (.Call (.Name "super" p0) [] [] p1) "__init__" env (eval (.Call (.Name "super" p0) [] [] p1) env)
      standAt p2.atName
      let (f, first) ← holding [ov] (getMethod ov "__init__" (pl env))
      callWith pos f first (backTo pos (starEach [e] env)) []))
    (hsw : ∀ env, swapsWith (.Call (.Attribute (.Call (.Name "super" p0) [] [] p1) "__init__" p2) [e] [] pos) none pos'.line env = pure false)
    (hsw2 : ∀ env, swapsWith (.Name prm q2) (some (.Attribute (.Name "self" q0) fld q1)) q3.line env = pure false)
    (hPE : ∀ X : Cx, X.N[1]? = some prm → Vis X.env.scope prm → PE X e te)
    (hte : ∀ (σ : L2.St) (H : Hp) (Q : VK) (x : V), σ[1]? = some (some x) → okV x → (∀ z, Q (.str z) H) → te σ H Q) :
    FnOk P w K mg base CX 1 f fd ["self", prm] (spErr C fld) := by
  refine fn_of_err T I0 S hp (by rw [hp0]; rfl) hsup (fun vs H Q E h => ?_) he (fun env => rfl) hmc hsw fun A outer s H vs Q E h => ?_
  · obtain ⟨a, x, rfl, _⟩ := h
    rfl
  · obtain ⟨a, x, rfl, hok, hea, k⟩ := h
    refine ⟨tCons te tNil, tOst K fld (tVar 0) (tVar 1), pa_cons (hPE _ rfl (Or.inl (S.par _ (by simp)))) pa_nil (he _), pss_one (ps_ost (pv 0 rfl (Or.inl (S.par _ (by simp)))) (pv 1 rfl (Or.inl (S.par _ (by simp))) hd hcd) (hsw2 _)), a, rfl, hea, ?_⟩
    refine hte _ _ _ x rfl hok fun z => ?_
    refine ⟨by show 1 ≤ 1000; decide, hea, ?_⟩
    exact ⟨x, rfl, _, rfl, a, C, rfl, T.ox, hno, .inl ⟨hea, fun d hd hda => k d hd hda⟩⟩
/-- f"pre{x}" and f"pre{x}suf" -/
theorem te2 {pre : Str} {i : Nat} (hpre : pre.length ≤ 1000) (σ : L2.St) (H : Hp) (Q : VK) (x : V) (hx : σ[i]? = some (some x)) (ho : okV x) (q : ∀ z, Q (.str z) H) :
    tJs [tC (.str pre), tFmt (tVar i)] Str.empty σ H (fun out H1 => Q (.str out) H1) := by
  have hs : ∀ n : Nat, n ≤ 10000 → n ≤ sizeLine := fun n h => by rw [sizeLine_eq]; omega
  have l0 : (Str.empty ++ pre).length ≤ 1000 := by rw [Str.length_append]; show 0 + _ ≤ _; omega
  refine ⟨pre, rfl, hs _ (by omega), x, hx, ?_⟩
  rcases ho with ⟨y, rfl, hy⟩ | ⟨j, rfl, hj⟩
  · exact .inl ⟨y, rfl, hs _ (by omega), y, rfl, hs _ (by rw [Str.length_append]; omega), q _⟩
  · have l1 := int_text_len_1921 hj
    exact .inr ⟨j, rfl, hj, _, rfl, hs _ (by rw [Str.length_append]; exact Nat.le_trans (Nat.add_le_add l0 l1) (by decide)), q _⟩
theorem te3 {pre suf : Str} {i : Nat} (hpre : pre.length ≤ 1000) (hsuf : suf.length ≤ 1000) (σ : L2.St) (H : Hp) (Q : VK) (x : V) (hx : σ[i]? = some (some x)) (ho : okV x) (q : ∀ z, Q (.str z) H) :
    tJs [tC (.str pre), tFmt (tVar i), tC (.str suf)] Str.empty σ H (fun out H1 => Q (.str out) H1) := by
  have hs : ∀ n : Nat, n ≤ 10000 → n ≤ sizeLine := fun n h => by rw [sizeLine_eq]; omega
  have l0 : (Str.empty ++ pre).length ≤ 1000 := by rw [Str.length_append]; show 0 + _ ≤ _; omega
  refine ⟨pre, rfl, hs _ (by omega), x, hx, ?_⟩
  rcases ho with ⟨y, rfl, hy⟩ | ⟨j, rfl, hj⟩
  · have l2 : (Str.empty ++ pre ++ y).length ≤ 2000 := by rw [Str.length_append]; omega
    exact .inl ⟨y, rfl, hs _ (by omega), y, rfl, hs _ (by omega), suf, rfl, hs _ (by rw [Str.length_append]; omega), q _⟩
  · have l1 := int_text_len_1921 hj
    have l2 : (Str.empty ++ pre ++ Str.ofString (toString j)).length ≤ 2921 := by rw [Str.length_append]; omega
    exact .inr ⟨j, rfl, hj, _, rfl, hs _ (Nat.le_trans l2 (by decide)), suf, rfl, hs _ (by rw [Str.length_append]; exact Nat.le_trans (Nat.add_le_add l2 hsuf) (by decide)), q _⟩
end
/-- an own error class, ready to be raised and caught -/
structure EK (P : Program) (w : World) (K : PySem.W.Frag) (mg : Str → Option Value) (base : Heap) (x fld : Str) (C fI : Addr) (fd : FuncData) (ps : List Str) : Prop where
  T : ErrC P K mg C
  g : mg x = some (.ref C)
  iC : PySem.W.findIn K (.ref C) "__init__" = some (some (.ref fI))
  tI : PySem.W.typeIn K (.ref fI) = some (.type "function")
  F1 : FnOk P w K mg base CX0 1 fI fd ps (spErr C fld)
  b : Binds K fd ps []
  nof : PySem.W.findIn K (.ref C) fld = some none
  xf : XfC K C
  isc : ExcC K C
  own : PySem.W.subIn K (.ref C) (.ref C) = some true
theorem EK.exm {P : Program} {w : World} {K : PySem.W.Frag} {mg : Str → Option Value} {base : Heap} {x fld : Str} {C fI : Addr} {fd : FuncData} {ps : List Str} (E : EK P w K mg base x fld C fI fd ps) : PySem.W.exmOne K (.ref C) (.ref C) = some true :=
  PySem.W.exm_ref E.T.ox.exC E.xf.hdC E.T.ox.tyC E.own
section
variable {X : Cx} {W : WX} {x fld : Str} {C fI : Addr} {fd : FuncData} {ps : List Str} {e o : Expr} {te ta : TE} {p pos pos' apos : Pos}
theorem upd_del {fs : List (Str × V)} {H : Hp} {a d : Addr} {o u v : HO} (ha : H a = none) (hda : d ≠ a) : upd (del (upd (upd (upd H a o) d u) a v) a) d (.xd fs) = upd H d (.xd fs) := by
  funext b
  by_cases hb : b = d
  · subst hb; rw [upd_same, upd_same]
  · rw [upd_ne hb, upd_ne hb]
    by_cases hba : b = a
    · subst hba; rw [del_same, ha]
    · rw [del_ne hba, upd_ne hba, upd_ne hb, upd_ne hba]
/-- a reading made to bear a weaker wish -/
def tUp (te : TE) : TE := fun σ H Q => ∃ Q0 : VK, te σ H Q0 ∧ ∀ v H1, Q0 v H1 → Q v H1
theorem pe_up (h : PE X e te) : PE X e (tUp te) := ⟨fun pins s σ H Q I ⟨Q0, q, m⟩ => thn (h.run pins s σ H Q0 I q) fun _ _ ⟨v, H1, J, r, z⟩ => ⟨v, H1, J, r, m _ _ z⟩⟩
/-- raise X(e) -/
def tRaiseE (W : WX) (C : Addr) (fld : Str) (te : TE) : TS := fun _ σ H => te σ H fun v H1 => okV v ∧ ∀ d, H1 d = none → W (.ref C) (some d) σ (upd H1 d (.xd [(fld, v)]))
theorem ps_raiseE (hc : X.calm = true) (E : EK X.prog X.w X.K X.mg X.base x fld C fI fd ps) (hr : Room 2 X.A) (tk : Takes X W) (hg : Gl X x) (he : PE X e te) (hdb : (x == ("__debug__" : Str)) = false := by decide)
    (hst : starEach [e] X.env = (false, eval e X.env) :: starEach [] X.env := by rfl) :
    PS X (.Raise (some (.Call (.Name x p) [e] [] pos)) none pos') (tRaiseE W C fld te) := by
  refine ⟨fun pins s σ H D I h => ?_⟩
  refine (ps_raise hc tk (pmk_oex E.T.ox E.iC E.tI E.F1 hr E.b .nil pass0 hg E.g (pa_cons (pe_up he) pa_nil hst) hdb hst rfl)).run pins s σ H D I ?_
  refine ⟨_, h, fun v H1 ⟨hok, k⟩ => ⟨by show 1 ≤ 1000; decide, fun a ha => ⟨a, v, rfl, hok, upd_same, fun d hd hda => ⟨rfl, d, [(fld, v)], upd_same, by rw [upd_ne hda, upd_same], ?_, ?_⟩⟩⟩⟩
  · rw [upd_ne hda] at hd
    exact hd
  · rw [upd_ne hda] at hd
    rw [upd_del ha hda]
    exact k d hd
/-! ### calls of what may raise, the wish at the slots -/
variable {CX : CXT} {k : Nat} {f : Addr} {sp : Sp} {m : Str} {es : List Expr} {t : TA} {ES : L2.St → XK}
def tMethS (C : Addr) (m : Str) (sp : Sp) (ES : L2.St → XK) (ta : TE) (t : TA) : TE := fun σ H Q => ta σ H fun x H1 => ∃ a dx fs, x = .ref a ∧ H1 a = some (.ins C dx fs) ∧ fs.lookup m = none ∧ t σ H1 fun vs H2 => sp (x :: vs) H2 Q (ES σ)
theorem pe_methS {pl : Sem Bool} (he : PE X o ta) (c : Cls X.K C) (hm : Meth X.K C m f) (F : FnOk X.prog X.w X.K X.mg X.base CX k f fd ps sp) (hr : Room k X.A) (hb : Binds X.K fd ps []) (hx : ∀ σ, PassesAt CX X σ (ES σ)) (ha : PA X (e :: es) t)
    (hst : starEach (e :: es) X.env = (false, eval e X.env) :: starEach es X.env := by rfl) (hpl : (backTo pos (starEach es X.env)).any (·.1) = false := by rfl)
    (ht : eval (.Call (.Attribute o m apos) (e :: es) [] pos) X.env = (do
      let ov ← eval o X.env
      standAt apos.atName
      let (f, first) ← holding [ov] (getMethod ov m pl)
      callWith pos f first (backTo pos (starEach (e :: es) X.env)) (backToKw pos (keywordEach [] X.env))) := by rfl) :
    PE X (.Call (.Attribute o m apos) (e :: es) [] pos) (tMethS C m sp ES ta t) := by
  refine ⟨fun pins s σ H Q I h => ?_⟩
  refine PySem.W.methodCall_KW (pl := pl) (thn (he.run pins s σ H _ I h) fun u s1 ⟨x, H1, I1, rx, a, dx, fs, ex, ea, l, q⟩ => ?_) ht
  subst ex
  obtain rfl : u = Value.ref a := rx
  refine getmeth_ok I1 ea c hm l ?_
  refine PySem.W.callWith_K (first := [.ref a]) (h₀ := X.base) I.ok.mod.kin hm.kp (thn (ha.run pos pins s1 σ H1 _ I1 q) fun us s2 ⟨vs, H2, I2, r, q2⟩ => ⟨I2.kIn, ?_⟩) hst hpl
  exact run_fnS (us := .ref a :: us) (vs := .ref a :: vs) F hr hb (hx σ) I2 (.cons rfl r) q2
theorem pe_meth0S {pl : Sem Bool} (he : PE X o ta) (c : Cls X.K C) (hm : Meth X.K C m f) (F : FnOk X.prog X.w X.K X.mg X.base CX k f fd ps sp) (hr : Room k X.A) (hb : Binds X.K fd ps []) (hx : ∀ σ, PassesAt CX X σ (ES σ))
    (ht : eval (.Call (.Attribute o m apos) [] [] pos) X.env = (do
      let ov ← eval o X.env
      standAt apos.atName
      let (f, first) ← holding [ov] (getMethod ov m pl)
      callWith pos f first (backTo pos (starEach [] X.env)) (backToKw pos (keywordEach [] X.env))) := by rfl) :
    PE X (.Call (.Attribute o m apos) [] [] pos) (tMethS C m sp ES ta tNil) := by
  refine ⟨fun pins s σ H Q I h => ?_⟩
  refine PySem.W.methodCall_KW (pl := pl) (thn (he.run pins s σ H _ I h) fun u s1 ⟨x, H1, I1, rx, a, dx, fs, ex, ea, l, q⟩ => ?_) ht
  subst ex
  obtain rfl : u = Value.ref a := rx
  refine getmeth_ok I1 ea c hm l ?_
  exact PySem.W.callWith_K0 (first := [.ref a]) I1.kIn hm.kp (run_fnS (us := [.ref a]) (vs := [.ref a]) F hr hb (hx σ) I1 (.cons rfl .nil) q)
theorem pe_call0S (F : FnOk X.prog X.w X.K X.mg X.base CX k f fd ps sp) (hr : Room k X.A) (hg : Gl X x) (hm : X.mg x = some (.ref f)) (hk : PySem.W.keepIn X.K (.ref f) = true) (hb : Binds X.K fd ps []) (hx : ∀ σ, PassesAt CX X σ (ES σ))
    (hdb : (x == ("__debug__" : Str)) = false := by decide) : PE X (.Call (.Name x p) [] [] pos) (tCallS sp ES tNil) := by
  refine ⟨fun pins s σ H Q I h => ?_⟩
  refine wpAny_Call_Name_kw (ld_glob I hg hm ?_ hdb)
  exact PySem.W.callWith_K0 I.kIn hk (run_fnS (us := []) (vs := []) F hr hb (hx σ) I .nil h)
theorem run_makeS {pins : List (Addr × Obj)} {σ : L2.St} {H : Hp} {s : Shared} {Q : VK} {us : List Value} {vs : List V} (M : Mk X.K C f) (F : FnOk X.prog X.w X.K X.mg X.base CX k f fd ps sp) (hr : Room (k + 1) X.A) (hb : Binds X.K fd ps []) (hp : ∀ (σ : L2.St), PassesAt CX X σ (ES σ))
    (I : Inv X pins σ H s) (r : Vals vs us) (h : ∀ x dx, H x = none → H dx = none → dx ≠ x → sp (.ref x :: vs) (upd (upd H dx (.own x)) x (.ins C dx [])) (fun v H2 => v = .non ∧ Q (.ref x) H2) (ES σ)) :
    wpAny (model X.prog X.w) X.A (call (.ref C) us) (EP X pins σ Q) X.xe s := by
  have hq := h (s.heap.objs.size + 1) s.heap.objs.size (I.hok.fresh (Nat.le_succ _)) (I.hok.fresh (Nat.le_refl _)) (Nat.ne_of_lt (Nat.lt_succ_self _))
  have I2 := Inv.made (C := C) I
  have r2 : Vals (V.ref (s.heap.objs.size + 1) :: vs) (Value.ref (s.heap.objs.size + 1) :: us) := .cons rfl r
  have hl : (Value.ref (s.heap.objs.size + 1) :: us).length = ps.length := by rw [← r2.length]; exact F.len _ _ _ _ hq
  have b := hb _ (Value.ref (s.heap.objs.size + 1) :: us) I2.kIn (by rw [List.append_nil]; exact hl)
  rw [List.append_nil] at b
  refine wpAny_call (make_map (f := f) I.kIn M.makes M.init (beq_iff_eq.mp M.fn) (codeAny_mono (F.run _ X.stack _ _ ⟨Value.ref (s.heap.objs.size + 1) :: us, []⟩ (Value.ref (s.heap.objs.size + 1) :: us) _ _ (ES σ) (hr.make C us [])
    (I2.env0.make C us []) b r2 hq) fun r s' hq' => ?_))
  cases r with
  | error e => exact hp σ pins _ _ e s' I2 hq'
  | ok fl =>
    cases fl with
    | ret u =>
      obtain ⟨v, H', I3, rv, ev, q3⟩ := I2.after hq'
      subst ev
      exact ⟨rv, ⟨V.ref (s.heap.objs.size + 1), H', I3, rfl, q3⟩⟩
    | next => exact False.elim hq'
    | brk => exact False.elim hq'
    | cont => exact False.elim hq'
def tMakeS (C : Addr) (sp : Sp) (ES : L2.St → XK) (t : TA) : TE := fun σ H Q => t σ H fun vs H1 => ∀ x dx, H1 x = none → H1 dx = none → dx ≠ x → sp (.ref x :: vs) (upd (upd H1 dx (.own x)) x (.ins C dx [])) (fun v H2 => v = .non ∧ Q (.ref x) H2) (ES σ)
theorem pe_makeS (M : Mk X.K C f) (F : FnOk X.prog X.w X.K X.mg X.base CX k f fd ps sp) (hr : Room (k + 1) X.A) (hg : Gl X x) (hm : X.mg x = some (.ref C)) (hb : Binds X.K fd ps []) (hx : ∀ σ, PassesAt CX X σ (ES σ))
    (ha : PA X (e :: es) t) (hdb : (x == ("__debug__" : Str)) = false := by decide) (he : starEach (e :: es) X.env = (false, eval e X.env) :: starEach es X.env := by rfl) (hpl : (backTo pos (starEach es X.env)).any (·.1) = false := by rfl) :
    PE X (.Call (.Name x p) (e :: es) [] pos) (tMakeS C sp ES t) := by
  refine ⟨fun pins s σ H Q I h => ?_⟩
  refine wpAny_Call_Name_kw (ld_glob I hg hm ?_ hdb)
  refine PySem.W.callWith_K (h₀ := X.base) I.ok.mod.kin M.kp (thn (ha.run pos pins s σ H _ I h) fun us s1 ⟨vs, H1, I1, r, q⟩ => ⟨I1.kIn, ?_⟩) he hpl
  exact run_makeS M F hr hb hx I1 r q
theorem pe_make0S (M : Mk X.K C f) (F : FnOk X.prog X.w X.K X.mg X.base CX k f fd ps sp) (hr : Room (k + 1) X.A) (hg : Gl X x) (hm : X.mg x = some (.ref C)) (hb : Binds X.K fd ps []) (hx : ∀ σ, PassesAt CX X σ (ES σ))
    (hdb : (x == ("__debug__" : Str)) = false := by decide) : PE X (.Call (.Name x p) [] [] pos) (tMakeS C sp ES tNil) := by
  refine ⟨fun pins s σ H Q I h => ?_⟩
  refine wpAny_Call_Name_kw (ld_glob I hg hm ?_ hdb)
  exact PySem.W.callWith_K0 I.kIn M.kp (run_makeS (us := []) (vs := []) M F hr hb hx I .nil h)
/-! ### isinstance(e, T), e a caught error that has its dict -/
def rIsED (K : PySem.W.Frag) (D a : Addr) (cls : Value) (d : Option Addr) : List V → Hp → VK → Prop := fun xs H Q => ∃ (c : V) (cv : Value) (b : Bool) (dd : Addr) (fs : List (Str × V)), xs = [.ref a, c] ∧ cls = .ref D ∧ d = some dd ∧ H dd = some (.xd fs) ∧ (∀ u, RelV c u → u = cv) ∧ PySem.W.kitOne K (.ref D) cv = some b ∧ Q (.bl b) H
theorem call_isED {a D : Addr} {oe : Obj} {cls : Value} {d : Option Addr} {pn : List (Addr × Obj)} (C : ExcC X.K D) (hz : Zc cls d oe) (hf : ∃ vs, oe.data = .fields vs) : CallR (X.suite a ((a, oe) :: pn)) (.builtin "isinstance") (rIsED X.K D a cls d) := by
  intro pins s σ H xs us Q I r h
  obtain ⟨c, cv, b, dd, fs, rfl, rfl, rfl, hdd, hcv, e, q⟩ := h
  cases r with
  | cons rx rr =>
    cases rr with
    | cons rt rr =>
      cases rr
      cases rx
      have ec := hcv _ rt
      subst ec
      obtain ⟨hget, _⟩ := I.pin (a, oe) (List.mem_append.mpr (.inl List.mem_cons_self))
      obtain ⟨vs, hv⟩ := hf
      have hx : ObjOk X.prog X.w H s.heap dd (.xd fs) := I.hok dd _ hdd
      obtain ⟨mA, hns, hr⟩ := hx
      obtain ⟨od, ho, hl⟩ := lookIn_ns hns
      have J : PySem.W.InstAt s.heap a oe D (some od) := by
        obtain ⟨oc, od', oda, osl⟩ := oe
        obtain ⟨h1, h2⟩ := hz
        dsimp only at h1 h2 hv
        subst h1 h2 hv
        exact ⟨hget, rfl, rfl, ho⟩
      exact PySem.W.kia_one (PySem.W.kitx_exc (by obtain ⟨cd, hc, _⟩ := PySem.W.any_some C.hd; rw [hc]; rfl) C.hg C.hk C.hs C.ha C.hn C.ht C.hm) I.kIn J e (fun z => nomatch z) fun tk => ⟨.bl b, H, I.kept (t' := tk) fun _ _ z => z, rfl, q⟩
end

/-! ### C(k = v, ..), the parameters keyword-only -/
section
variable {X : Cx} {CX : CXT} {k : Nat} {f C : Addr} {fd : FuncData} {ps ks : List Str} {sp : Sp} {ES : L2.St → XK} {x : Str} {p pos : Pos} {kws : List Keyword} {tk : TA} {gV : List V → List V → List V}
def tMakeKS (C : Addr) (m : Nat) (sp : Sp) (gV : List V → List V → List V) (ES : L2.St → XK) (tk : TA) : TE := fun σ H Q => tk σ H fun zs H2 => zs.length = m ∧ ∀ x dx, H2 x = none → H2 dx = none → dx ≠ x →
  sp (gV [.ref x] zs) (upd (upd H2 dx (.own x)) x (.ins C dx [])) (fun v H3 => v = .non ∧ Q (.ref x) H3) (ES σ)
theorem pe_makeKS (M : Mk X.K C f) (F : FnOk X.prog X.w X.K X.mg X.base CX k f fd ps sp) (hr : Room (k + 1) X.A) (hg : Gl X x) (hm : X.mg x = some (.ref C)) (hbn : ∃ g, KBn X.K fd ps 1 ks g gV) (hx : ∀ σ, PassesAt CX X σ (ES σ)) (hkw : PK X kws tk)
    (hall : (backToKw pos (keywordEach kws X.env)).all (·.1.isSome) = true := by rfl) (hks : (backToKw pos (keywordEach kws X.env)).filterMap (·.1) = ks := by rfl) (hdb : (x == ("__debug__" : Str)) = false := by decide)
    (hpl : ((backTo pos (starEach [] X.env)).any (·.1) || (backToKw pos (keywordEach kws X.env)).any (·.1.isNone)) = false := by rfl) :
    PE X (.Call (.Name x p) [] kws pos) (tMakeKS C ks.length sp gV ES tk) := by
  obtain ⟨g, hb⟩ := hbn
  refine ⟨fun pins s σ H Q I h => ?_⟩
  refine wpAny_Call_Name_kw (ld_glob I hg hm ?_ hdb)
  refine PySem.W.callWith_KW0 (h₀ := X.base) I.ok.mod.kin M.kp hall ?_ hpl
  refine thn (hkw.run pos pins s σ H _ I h) fun ws s2 ⟨zs, H2, I2, rz, l2, q2⟩ => ⟨I2.kIn, ?_⟩
  rw [hks]
  have hq := q2 (s2.heap.objs.size + 1) s2.heap.objs.size (I2.hok.fresh (Nat.le_succ _)) (I2.hok.fresh (Nat.le_refl _)) (Nat.ne_of_lt (Nat.lt_succ_self _))
  have I3 := Inv.made (C := C) I2
  have r1 : Vals [V.ref (s2.heap.objs.size + 1)] [Value.ref (s2.heap.objs.size + 1)] := .cons rfl .nil
  have r2 := hb.rel r1 rz
  refine wpAny_call (make_map (f := f) I2.kIn M.makes M.init (beq_iff_eq.mp M.fn) (codeAny_mono (F.run _ X.stack _ _ ⟨[Value.ref (s2.heap.objs.size + 1)], ks.zip ws⟩ (g [Value.ref (s2.heap.objs.size + 1)] ws) _ _ (ES σ) (hr.make C [] (ks.zip ws))
    (I3.env0.make C [] (ks.zip ws)) (hb.to _ [Value.ref (s2.heap.objs.size + 1)] ws I3.kIn rfl (rz.length.symm.trans l2)) r2 hq) fun r s' hq' => ?_))
  cases r with
  | error e => exact hx σ pins _ _ e s' I3 hq'
  | ok fl =>
    cases fl with
    | ret u =>
      obtain ⟨v, H', I4, rv, ev, q3⟩ := I3.after hq'
      subst ev
      exact ⟨rv, ⟨V.ref (s2.heap.objs.size + 1), H', I4, rfl, q3⟩⟩
    | next => exact False.elim hq'
    | brk => exact False.elim hq'
    | cont => exact False.elim hq'
end
theorem passNo {X : Cx} {σ : L2.St} : PassesAt (L2.CX X.prog X.w) X σ (WE (fun _ _ _ _ => False) σ) := by
  intro pins H s e s' I c
  obtain ⟨_, _, _, _, _, _, _, _, _, _, _, _, z⟩ := c
  exact z.elim
end Sx
set_option Elab.async false
set_option maxRecDepth 100000
set_option maxHeartbeats 4000000
set_option linter.all false
set_option autoImplicit false
/-! Readings, one step a lemma; heaps by footprints. -/
namespace Rd
open PySem PySem.Spec PyProof.Rows L2 Sx
/-! ### promises by the number of arguments -/
def A0 (φ : Hp → VK → XK → Prop) : Sp := fun vs H Q E => vs = [] ∧ φ H Q E
def A1 (φ : V → Hp → VK → XK → Prop) : Sp := fun vs H Q E => ∃ x, vs = [x] ∧ φ x H Q E
def A2 (φ : V → V → Hp → VK → XK → Prop) : Sp := fun vs H Q E => ∃ x y, vs = [x, y] ∧ φ x y H Q E
def A3 (φ : V → V → V → Hp → VK → XK → Prop) : Sp := fun vs H Q E => ∃ x y z, vs = [x, y, z] ∧ φ x y z H Q E
def A4 (φ : V → V → V → V → Hp → VK → XK → Prop) : Sp := fun vs H Q E => ∃ x y z u, vs = [x, y, z, u] ∧ φ x y z u H Q E
def A5 (φ : V → V → V → V → V → Hp → VK → XK → Prop) : Sp := fun vs H Q E => ∃ x y z u w, vs = [x, y, z, u, w] ∧ φ x y z u w H Q E
def A6 (φ : V → V → V → V → V → V → Hp → VK → XK → Prop) : Sp := fun vs H Q E => ∃ x y z u w o, vs = [x, y, z, u, w, o] ∧ φ x y z u w o H Q E
theorem A0.len {φ : Hp → VK → XK → Prop} {vs : List V} {H : Hp} {Q : VK} {E : XK} (h : A0 φ vs H Q E) : vs.length = 0 := by obtain ⟨rfl, _⟩ := h; rfl
theorem A1.len {φ : V → Hp → VK → XK → Prop} {vs : List V} {H : Hp} {Q : VK} {E : XK} (h : A1 φ vs H Q E) : vs.length = 1 := by obtain ⟨_, rfl, _⟩ := h; rfl
theorem A2.len {φ : V → V → Hp → VK → XK → Prop} {vs : List V} {H : Hp} {Q : VK} {E : XK} (h : A2 φ vs H Q E) : vs.length = 2 := by obtain ⟨_, _, rfl, _⟩ := h; rfl
theorem A3.len {φ : V → V → V → Hp → VK → XK → Prop} {vs : List V} {H : Hp} {Q : VK} {E : XK} (h : A3 φ vs H Q E) : vs.length = 3 := by obtain ⟨_, _, _, rfl, _⟩ := h; rfl
theorem A4.len {φ : V → V → V → V → Hp → VK → XK → Prop} {vs : List V} {H : Hp} {Q : VK} {E : XK} (h : A4 φ vs H Q E) : vs.length = 4 := by obtain ⟨_, _, _, _, rfl, _⟩ := h; rfl
theorem A5.len {φ : V → V → V → V → V → Hp → VK → XK → Prop} {vs : List V} {H : Hp} {Q : VK} {E : XK} (h : A5 φ vs H Q E) : vs.length = 5 := by obtain ⟨_, _, _, _, _, rfl, _⟩ := h; rfl
theorem A6.len {φ : V → V → V → V → V → V → Hp → VK → XK → Prop} {vs : List V} {H : Hp} {Q : VK} {E : XK} (h : A6 φ vs H Q E) : vs.length = 6 := by obtain ⟨_, _, _, _, _, _, rfl, _⟩ := h; rfl
theorem a0 {φ : Hp → VK → XK → Prop} {H : Hp} {Q : VK} {E : XK} (h : φ H Q E) : A0 φ [] H Q E := ⟨rfl, h⟩
theorem a1 {φ : V → Hp → VK → XK → Prop} {x : V} {H : Hp} {Q : VK} {E : XK} (h : φ x H Q E) : A1 φ [x] H Q E := ⟨x, rfl, h⟩
theorem a2 {φ : V → V → Hp → VK → XK → Prop} {x y : V} {H : Hp} {Q : VK} {E : XK} (h : φ x y H Q E) : A2 φ [x, y] H Q E := ⟨x, y, rfl, h⟩
theorem a3 {φ : V → V → V → Hp → VK → XK → Prop} {x y z : V} {H : Hp} {Q : VK} {E : XK} (h : φ x y z H Q E) : A3 φ [x, y, z] H Q E := ⟨x, y, z, rfl, h⟩
theorem a4 {φ : V → V → V → V → Hp → VK → XK → Prop} {x y z u : V} {H : Hp} {Q : VK} {E : XK} (h : φ x y z u H Q E) : A4 φ [x, y, z, u] H Q E := ⟨x, y, z, u, rfl, h⟩
theorem a5 {φ : V → V → V → V → V → Hp → VK → XK → Prop} {x y z u w : V} {H : Hp} {Q : VK} {E : XK} (h : φ x y z u w H Q E) : A5 φ [x, y, z, u, w] H Q E := ⟨x, y, z, u, w, rfl, h⟩
theorem a6 {φ : V → V → V → V → V → V → Hp → VK → XK → Prop} {x y z u w o : V} {H : Hp} {Q : VK} {E : XK} (h : φ x y z u w o H Q E) : A6 φ [x, y, z, u, w, o] H Q E := ⟨x, y, z, u, w, o, rfl, h⟩
def A7 (φ : V → V → V → V → V → V → V → Hp → VK → XK → Prop) : Sp := fun vs H Q E => ∃ x0 x1 x2 x3 x4 x5 x6, vs = [x0, x1, x2, x3, x4, x5, x6] ∧ φ x0 x1 x2 x3 x4 x5 x6 H Q E
theorem A7.len {φ : V → V → V → V → V → V → V → Hp → VK → XK → Prop} {vs : List V} {H : Hp} {Q : VK} {E : XK} (h : A7 φ vs H Q E) : vs.length = 7 := by obtain ⟨_, _, _, _, _, _, _, rfl, _⟩ := h; rfl
theorem a7 {φ : V → V → V → V → V → V → V → Hp → VK → XK → Prop} {x0 x1 x2 x3 x4 x5 x6 : V} {H : Hp} {Q : VK} {E : XK} (h : φ x0 x1 x2 x3 x4 x5 x6 H Q E) : A7 φ [x0, x1, x2, x3, x4, x5, x6] H Q E := ⟨x0, x1, x2, x3, x4, x5, x6, rfl, h⟩
def A8 (φ : V → V → V → V → V → V → V → V → Hp → VK → XK → Prop) : Sp := fun vs H Q E => ∃ x0 x1 x2 x3 x4 x5 x6 x7, vs = [x0, x1, x2, x3, x4, x5, x6, x7] ∧ φ x0 x1 x2 x3 x4 x5 x6 x7 H Q E
theorem A8.len {φ : V → V → V → V → V → V → V → V → Hp → VK → XK → Prop} {vs : List V} {H : Hp} {Q : VK} {E : XK} (h : A8 φ vs H Q E) : vs.length = 8 := by obtain ⟨_, _, _, _, _, _, _, _, rfl, _⟩ := h; rfl
theorem a8 {φ : V → V → V → V → V → V → V → V → Hp → VK → XK → Prop} {x0 x1 x2 x3 x4 x5 x6 x7 : V} {H : Hp} {Q : VK} {E : XK} (h : φ x0 x1 x2 x3 x4 x5 x6 x7 H Q E) : A8 φ [x0, x1, x2, x3, x4, x5, x6, x7] H Q E := ⟨x0, x1, x2, x3, x4, x5, x6, x7, rfl, h⟩
def A9 (φ : V → V → V → V → V → V → V → V → V → Hp → VK → XK → Prop) : Sp := fun vs H Q E => ∃ x0 x1 x2 x3 x4 x5 x6 x7 x8, vs = [x0, x1, x2, x3, x4, x5, x6, x7, x8] ∧ φ x0 x1 x2 x3 x4 x5 x6 x7 x8 H Q E
theorem A9.len {φ : V → V → V → V → V → V → V → V → V → Hp → VK → XK → Prop} {vs : List V} {H : Hp} {Q : VK} {E : XK} (h : A9 φ vs H Q E) : vs.length = 9 := by obtain ⟨_, _, _, _, _, _, _, _, _, rfl, _⟩ := h; rfl
theorem a9 {φ : V → V → V → V → V → V → V → V → V → Hp → VK → XK → Prop} {x0 x1 x2 x3 x4 x5 x6 x7 x8 : V} {H : Hp} {Q : VK} {E : XK} (h : φ x0 x1 x2 x3 x4 x5 x6 x7 x8 H Q E) : A9 φ [x0, x1, x2, x3, x4, x5, x6, x7, x8] H Q E := ⟨x0, x1, x2, x3, x4, x5, x6, x7, x8, rfl, h⟩
def A10 (φ : V → V → V → V → V → V → V → V → V → V → Hp → VK → XK → Prop) : Sp := fun vs H Q E => ∃ x0 x1 x2 x3 x4 x5 x6 x7 x8 x9, vs = [x0, x1, x2, x3, x4, x5, x6, x7, x8, x9] ∧ φ x0 x1 x2 x3 x4 x5 x6 x7 x8 x9 H Q E
theorem A10.len {φ : V → V → V → V → V → V → V → V → V → V → Hp → VK → XK → Prop} {vs : List V} {H : Hp} {Q : VK} {E : XK} (h : A10 φ vs H Q E) : vs.length = 10 := by obtain ⟨_, _, _, _, _, _, _, _, _, _, rfl, _⟩ := h; rfl
theorem a10 {φ : V → V → V → V → V → V → V → V → V → V → Hp → VK → XK → Prop} {x0 x1 x2 x3 x4 x5 x6 x7 x8 x9 : V} {H : Hp} {Q : VK} {E : XK} (h : φ x0 x1 x2 x3 x4 x5 x6 x7 x8 x9 H Q E) : A10 φ [x0, x1, x2, x3, x4, x5, x6, x7, x8, x9] H Q E := ⟨x0, x1, x2, x3, x4, x5, x6, x7, x8, x9, rfl, h⟩
def A11 (φ : V → V → V → V → V → V → V → V → V → V → V → Hp → VK → XK → Prop) : Sp := fun vs H Q E => ∃ x0 x1 x2 x3 x4 x5 x6 x7 x8 x9 x10, vs = [x0, x1, x2, x3, x4, x5, x6, x7, x8, x9, x10] ∧ φ x0 x1 x2 x3 x4 x5 x6 x7 x8 x9 x10 H Q E
theorem A11.len {φ : V → V → V → V → V → V → V → V → V → V → V → Hp → VK → XK → Prop} {vs : List V} {H : Hp} {Q : VK} {E : XK} (h : A11 φ vs H Q E) : vs.length = 11 := by obtain ⟨_, _, _, _, _, _, _, _, _, _, _, rfl, _⟩ := h; rfl
theorem a11 {φ : V → V → V → V → V → V → V → V → V → V → V → Hp → VK → XK → Prop} {x0 x1 x2 x3 x4 x5 x6 x7 x8 x9 x10 : V} {H : Hp} {Q : VK} {E : XK} (h : φ x0 x1 x2 x3 x4 x5 x6 x7 x8 x9 x10 H Q E) : A11 φ [x0, x1, x2, x3, x4, x5, x6, x7, x8, x9, x10] H Q E := ⟨x0, x1, x2, x3, x4, x5, x6, x7, x8, x9, x10, rfl, h⟩
def A12 (φ : V → V → V → V → V → V → V → V → V → V → V → V → Hp → VK → XK → Prop) : Sp := fun vs H Q E => ∃ x0 x1 x2 x3 x4 x5 x6 x7 x8 x9 x10 x11, vs = [x0, x1, x2, x3, x4, x5, x6, x7, x8, x9, x10, x11] ∧ φ x0 x1 x2 x3 x4 x5 x6 x7 x8 x9 x10 x11 H Q E
theorem A12.len {φ : V → V → V → V → V → V → V → V → V → V → V → V → Hp → VK → XK → Prop} {vs : List V} {H : Hp} {Q : VK} {E : XK} (h : A12 φ vs H Q E) : vs.length = 12 := by obtain ⟨_, _, _, _, _, _, _, _, _, _, _, _, rfl, _⟩ := h; rfl
theorem a12 {φ : V → V → V → V → V → V → V → V → V → V → V → V → Hp → VK → XK → Prop} {x0 x1 x2 x3 x4 x5 x6 x7 x8 x9 x10 x11 : V} {H : Hp} {Q : VK} {E : XK} (h : φ x0 x1 x2 x3 x4 x5 x6 x7 x8 x9 x10 x11 H Q E) : A12 φ [x0, x1, x2, x3, x4, x5, x6, x7, x8, x9, x10, x11] H Q E := ⟨x0, x1, x2, x3, x4, x5, x6, x7, x8, x9, x10, x11, rfl, h⟩
/-! ### attribute lists -/
theorem putF_hit (f : Str) (v y : V) (r : List (Str × V)) : putF f v ((f, y) :: r) = (f, v) :: r := if_pos rfl
theorem putF_miss {f g : Str} (h : ¬ g = f) (v y : V) (r : List (Str × V)) : putF f v ((g, y) :: r) = (g, y) :: putF f v r := if_neg h
theorem putF_nil (f : Str) (v : V) : putF f v [] = [(f, v)] := rfl
theorem look_hit (f : Str) (y : V) (r : List (Str × V)) : ((f, y) :: r).lookup f = some y := by rw [lookup_put, if_pos rfl]
theorem look_miss {f g : Str} (h : ¬ g = f) (y : V) (r : List (Str × V)) : ((f, y) :: r).lookup g = r.lookup g := by rw [lookup_put, if_neg h]
/-! ### steps -/
section
variable {K : PySem.W.Frag} {D : Ends} {σ : L2.St} {H : Hp} {t u : TS} {te ta tb tc : TE} {tt tu : TT} {g : TG} {Q : VK} {QT : Bool → Hp → Prop} {v x y : V} {i : Nat} {r : R2} {tl tr : TA} {QA : List V → Hp → Prop}
theorem s_seq (h : t { D with nx := u D } σ H) : tSeq t u D σ H := h
theorem s_asg (h : te σ H fun x H1 => g x σ H1 D.nx) : tAsg te g D σ H := h
theorem g_name {R : L2.St → Hp → Prop} (h : R (σ.set i (some v)) H) : gName i v σ H R := h
theorem s_ret (h : te σ H D.rt) : tRet te D σ H := h
theorem s_retN (h : D.rt .non H) : tRetN D σ H := h
theorem s_drop (h : te σ H fun _ H1 => D.nx σ H1) : tDrop te D σ H := h
theorem s_if (h : tt σ H fun b H1 => if b = true then t D σ H1 else u D σ H1) : tIfS tt t u D σ H := h
theorem s_next (h : D.nx σ H) : tNext D σ H := h
theorem s_cont (h : D.ct σ H) : tCont D σ H := h
theorem s_break (h : D.bk σ H) : tBreak D σ H := h
theorem d_nx {a c d : L2.St → Hp → Prop} {b : V → Hp → Prop} (h : a σ H) : (Ends.mk a b c d).nx σ H := h
theorem d_rt {a c d : L2.St → Hp → Prop} {b : V → Hp → Prop} (h : b v H) : (Ends.mk a b c d).rt v H := h
theorem d_bk {a c d : L2.St → Hp → Prop} {b : V → Hp → Prop} (h : c σ H) : (Ends.mk a b c d).bk σ H := h
theorem d_ct {a c d : L2.St → Hp → Prop} {b : V → Hp → Prop} (h : d σ H) : (Ends.mk a b c d).ct σ H := h
def kSet (K : PySem.W.Frag) (f : Str) (y x : V) (H : Hp) (R : Hp → Prop) : Prop := ∃ a C dx fs, x = .ref a ∧ H a = some (.ins C dx fs) ∧ Cls K C ∧ NoAttr K C f ∧ fs.length < 1000 ∧ R (upd H a (.ins C dx (putF f y fs)))
theorem s_fld {f : Str} (h : tb σ H fun y H1 => ta σ H1 fun x H2 => kSet K f y x H2 (D.nx σ)) : sFld K ta tb f D σ H := h
theorem k_set {f : Str} {R : Hp → Prop} {a C dx : Addr} {fs fs' : List (Str × V)} (h : H a = some (.ins C dx fs)) (c : Cls K C) (n : NoAttr K C f) (hp : putF f y fs = fs') (l : fs.length < 1000) (q : R (upd H a (.ins C dx fs'))) : kSet K f y (.ref a) H R := ⟨a, C, dx, fs, rfl, h, c, n, l, hp ▸ q⟩
theorem e_var (h : σ[i]? = some (some v)) (q : Q v H) : tVar i σ H Q := ⟨v, h, q⟩
theorem e_c (q : Q v H) : tC v σ H Q := q
theorem e_op (h : ta σ H fun x H1 => tb σ H1 fun y H2 => r x y H2 Q) : tOp r ta tb σ H Q := h
theorem e_un {ru : V → Hp → VK → Prop} (h : ta σ H fun x H1 => ru x H1 Q) : tUn ru ta σ H Q := h
theorem o_I0 {gg : Int → Int → V} {m n : Int} (q : Q (gg m n) H) : rI0 gg (.int m) (.int n) H Q := ⟨m, n, rfl, rfl, q⟩
theorem o_I {Cc : Int → Int → Prop} {gg : Int → Int → V} {m n : Int} (c : Cc m n) (q : Q (gg m n) H) : rI Cc gg (.int m) (.int n) H Q := ⟨m, n, rfl, rfl, c, q⟩
theorem o_U {gg : Int → V} {m : Int} (q : Q (gg m) H) : rU gg (.int m) H Q := ⟨m, rfl, q⟩
theorem o_eq (s : scal x y = true) (q : Q (.bl (decide (x = y))) H) : rEq x y H Q := ⟨s, q⟩
theorem o_ne (s : scal x y = true) (q : Q (.bl (!decide (x = y))) H) : rNe x y H Q := ⟨s, q⟩
theorem o_ixL {p : Addr} {xs : List V} {n : Int} (h : SqL K H p xs) (a : atI xs n = some v) (q : Q v H) : rIxL K (.ref p) (.int n) H Q := ⟨p, xs, n, v, rfl, rfl, h, a, q⟩
theorem o_ixT {p : Addr} {xs : List V} {n : Int} (h : SqT K H p xs) (a : atI xs n = some v) (q : Q v H) : rIxT K (.ref p) (.int n) H Q := ⟨p, xs, n, v, rfl, rfl, h, a, q⟩
def kFld (K : PySem.W.Frag) (f : Str) (x : V) (H : Hp) (Q : VK) : Prop := ∃ a C dx fs v, x = .ref a ∧ H a = some (.ins C dx fs) ∧ Cls K C ∧ NoAttr K C f ∧ fs.lookup f = some v ∧ Q v H
theorem e_fld {f : Str} (h : ta σ H fun x H1 => kFld K f x H1 Q) : tFld K ta f σ H Q := h
theorem k_fld {f : Str} {a C dx : Addr} {fs : List (Str × V)} (h : H a = some (.ins C dx fs)) (c : Cls K C) (n : NoAttr K C f) (l : fs.lookup f = some v) (q : Q v H) : kFld K f (.ref a) H Q := ⟨a, C, dx, fs, v, rfl, h, c, n, l, q⟩
def kMeth (C : Addr) (m : Str) (sp : Sp) (E : XK) (t : TA) (σ : L2.St) (x : V) (H : Hp) (Q : VK) : Prop := ∃ a dx fs, x = .ref a ∧ H a = some (.ins C dx fs) ∧ fs.lookup m = none ∧ t σ H fun vs H2 => sp (x :: vs) H2 Q E
theorem e_meth {C : Addr} {m : Str} {sp : Sp} {ES : L2.St → XK} (h : ta σ H fun x H1 => kMeth C m sp (ES σ) tl σ x H1 Q) : tMethS C m sp ES ta tl σ H Q := h
theorem k_meth {C a dx : Addr} {m : Str} {sp : Sp} {E : XK} {fs : List (Str × V)} (h : H a = some (.ins C dx fs)) (l : fs.lookup m = none) (q : tl σ H fun vs H2 => sp (.ref a :: vs) H2 Q E) : kMeth C m sp E tl σ (.ref a) H Q := ⟨a, dx, fs, rfl, h, l, q⟩
theorem e_call {sp : Sp} {ES : L2.St → XK} (h : tl σ H fun vs H1 => sp vs H1 Q (ES σ)) : tCallS sp ES tl σ H Q := h
theorem e_make {C : Addr} {sp : Sp} {ES : L2.St → XK} (h : tl σ H fun vs H1 => ∀ x dx, H1 x = none → H1 dx = none → dx ≠ x → sp (.ref x :: vs) (upd (upd H1 dx (.own x)) x (.ins C dx [])) (fun v H2 => v = .non ∧ Q (.ref x) H2) (ES σ)) : tMakeS C sp ES tl σ H Q := h
theorem e_cb {rc : List V → Hp → VK → Prop} (h : tl σ H fun vs H1 => rc vs H1 Q) : tCB rc tl σ H Q := h
theorem l_nil (h : QA [] H) : tNil σ H QA := h
theorem l_cons (h : ta σ H fun x H1 => tl σ H1 fun xs H2 => QA (x :: xs) H2) : tCons ta tl σ H QA := h
theorem e_lst (h : tl σ H fun xs H1 => xs.length ≤ sizeLine ∧ ∀ p, H1 p = none → Q (.ref p) (upd H1 p (.lst xs))) : tLst tl σ H Q := h
theorem e_tup (h : tl σ H fun xs H1 => xs.length ≤ sizeLine ∧ ∀ p, H1 p = none → Q (.ref p) (upd H1 p (.tup xs))) : tTup tl σ H Q := h
theorem e_bm {T : String} {rm : V → List V → Hp → VK → Prop} (h : ta σ H fun x H1 => tyV K T x H1 ∧ tl σ H1 fun xs H2 => rm x xs H2 Q) : tBM K T rm ta tl σ H Q := h
theorem e_bm0 {T : String} {rm : V → List V → Hp → VK → Prop} (h : ta σ H fun x H1 => tyV K T x H1 ∧ rm x [] H1 Q) : tBM0 K T rm ta σ H Q := h
theorem e_not (h : ta σ H fun x H1 => ∃ c, x = .bl c ∧ Q (.bl (!c)) H1) : tNotV ta σ H Q := h
theorem e_if (h : tt σ H fun c H1 => if c = true then ta σ H1 Q else tb σ H1 Q) : tIf tt ta tb σ H Q := h
def kT (x : V) (H : Hp) (QT : Bool → Hp → Prop) : Prop := ∃ k, x = .bl k ∧ QT k H
theorem k_t {b : Bool} (q : QT b H) : kT (.bl b) H QT := ⟨b, rfl, q⟩
theorem t_test (h : te σ H fun x H1 => kT x H1 QT) : tTest te σ H QT := h
theorem t_B (h : te σ H fun x H1 => kT x H1 QT) : tB te σ H QT := h
theorem t_and (h : tt σ H fun c H1 => if c = true then tu σ H1 QT else QT false H1) : tAnd tt tu σ H QT := h
theorem t_or (h : tt σ H fun c H1 => if c = true then QT true H1 else tu σ H1 QT) : tOr tt tu σ H QT := h
theorem t_not (h : tt σ H fun c H1 => QT (!c) H1) : tNot tt σ H QT := h
theorem e_and (h : ta σ H fun x H1 => ∃ c, x = .bl c ∧ if c = true then tb σ H1 Q else Q (.bl false) H1) : tAndV ta tb σ H Q := h
theorem e_or (h : ta σ H fun x H1 => ∃ c, x = .bl c ∧ if c = true then Q (.bl true) H1 else tb σ H1 Q) : tOrV ta tb σ H Q := h
theorem e_chain {r' : R2} (h : ta σ H fun x H1 => tb σ H1 fun y H2 => r x y H2 fun z H3 => kT z H3 fun k H4 => if k = true then tc σ H4 fun w' H5 => r' y w' H5 Q else Q (.bl false) H4) : tChain r r' ta tb tc σ H Q := by
  refine h
theorem s_raise {W : WX} {C : Addr} {fld : Str} (h : te σ H fun v H1 => okV v ∧ ∀ d, H1 d = none → W (.ref C) (some d) σ (upd H1 d (.xd [(fld, v)]))) : tRaiseE W C fld te D σ H := h
theorem e_sl {rs : V → Option Int → Option Int → Hp → VK → Prop} {to th : TO} (h : te σ H fun x H1 => to σ H1 fun l H2 => th σ H2 fun u H3 => rs x l u H3 Q) : tSl rs te to th σ H Q := h
theorem p_no {QO : Option Int → Hp → Prop} (h : QO none H) : tNoPart σ H QO := h
def kI (x : V) (H : Hp) (QO : Option Int → Hp → Prop) : Prop := ∃ n, x = .int n ∧ QO (some n) H
theorem k_i {QO : Option Int → Hp → Prop} {n : Int} (q : QO (some n) H) : kI (.int n) H QO := ⟨n, rfl, q⟩
theorem p_some {QO : Option Int → Hp → Prop} (h : te σ H fun x H1 => kI x H1 QO) : tPart te σ H QO := h
/-! ### ifs -/
theorem if_d {c A B : Prop} [Decidable c] (h1 : c → A) (h2 : ¬ c → B) : if decide c = true then A else B := by
  by_cases h : c
  · rw [if_pos (decide_eq_true h)]; exact h1 h
  · rw [if_neg (by rw [decide_eq_false h]; exact Bool.false_ne_true)]; exact h2 h
theorem if_nd {c A B : Prop} [Decidable c] (h1 : ¬ c → A) (h2 : c → B) : if (!decide c) = true then A else B := by
  by_cases h : c
  · rw [decide_eq_true h]; exact iteF (h2 h)
  · rw [decide_eq_false h]; exact iteT (h1 h)
theorem if_dT {c A B : Prop} [Decidable c] (h : c) (q : A) : if decide c = true then A else B := by rw [if_pos (decide_eq_true h)]; exact q
theorem if_dF {c A B : Prop} [Decidable c] (h : ¬ c) (q : B) : if decide c = true then A else B := if_d (fun z => absurd z h) fun _ => q
theorem if_ndT {c A B : Prop} [Decidable c] (h : ¬ c) (q : A) : if (!decide c) = true then A else B := if_nd (fun _ => q) fun z => absurd z h
theorem if_ndF {c A B : Prop} [Decidable c] (h : c) (q : B) : if (!decide c) = true then A else B := if_nd (fun z => absurd h z) fun _ => q
theorem if_b {b : Bool} {A B : Prop} (h1 : b = true → A) (h2 : b = false → B) : if b = true then A else B := by
  cases b with
  | true => exact iteT (h1 rfl)
  | false => exact iteF (h2 rfl)
end
/-! ### lists of values -/
theorem upd_rw {H : Hp} {a : Addr} {o : HO} (h : H a = some o) : upd H a o = H := by
  funext b
  by_cases hb : b = a
  · rw [hb, upd_same, h]
  · rw [upd_ne hb]
theorem sz {n : Nat} (h : n ≤ 100000) : n ≤ sizeLine := by rw [sizeLine_eq]; omega
theorem szl {n : Nat} (h : n < 100000) : n < sizeLine := by rw [sizeLine_eq]; omega
/-! ### what a step may touch -/
/-- all that was tracked, but at fp, is as it was -/
def Fp (fp : List Addr) (H H' : Hp) : Prop := ∀ b o, H b = some o → b ∉ fp → H' b = some o
theorem Fp.refl (fp : List Addr) (H : Hp) : Fp fp H H := fun _ _ h _ => h
theorem Fp.trans {fp : List Addr} {H H1 H2 : Hp} (a : Fp fp H H1) (b : Fp fp H1 H2) : Fp fp H H2 := fun c o h n => b c o (a c o h n) n
theorem Fp.mono {fp fq : List Addr} {H H' : Hp} (a : Fp fp H H') (s : ∀ x, x ∈ fp → x ∈ fq) : Fp fq H H' := fun c o h n => a c o h fun z => n (s c z)
theorem Fp.new {fp : List Addr} {H : Hp} {a : Addr} {o : HO} (h : H a = none) : Fp fp H (upd H a o) := fun c u e _ => by rw [upd_ne (ne_of_none e h)]; exact e
theorem Fp.at_ {fp : List Addr} {H : Hp} {a : Addr} {o : HO} (h : a ∈ fp) : Fp fp H (upd H a o) := fun c u e n => by
  rw [upd_ne (fun z => n (by rw [z]; exact h))]
  exact e
/-- what was new in H does not count -/
theorem Fp.drop {fp fq : List Addr} {H H' : Hp} (a : Fp fp H H') (s : ∀ x, x ∈ fp → x ∈ fq ∨ H x = none) : Fp fq H H' := fun c o h n => a c o h fun z => by
  rcases s c z with q | q
  · exact n q
  · rw [q] at h; cases h
theorem Fp.free {fp : List Addr} {H H' : Hp} (e : Fp fp H H') {l : Addr} (n : l ∉ fp) (h : H' l = none) : H l = none := by
  cases q : H l with
  | none => rfl
  | some o => rw [e l o q n] at h; cases h
theorem Fp.seq {K : PySem.W.Frag} {fp : List Addr} {H H' : Hp} {a : Addr} {xs : List V} (e : Fp fp H H') (n : a ∉ fp) (h : SqL K H a xs) : SqL K H' a xs := by
  rcases h with (h | ⟨o, h⟩) | h
  · exact .inl (.inl (e _ _ h n))
  · exact .inl (.inr ⟨o, e _ _ h n⟩)
  · exact .inr h
theorem Fp.tup {K : PySem.W.Frag} {fp : List Addr} {H H' : Hp} {a : Addr} {xs : List V} (e : Fp fp H H') (n : a ∉ fp) (h : SqT K H a xs) : SqT K H' a xs := by
  rcases h with (h | ⟨o, h⟩) | h
  · exact .inl (.inl (e _ _ h n))
  · exact .inl (.inr ⟨o, e _ _ h n⟩)
  · exact .inr h

/-! ### built-ins by name -/
section
variable {X : Cx} {K : PySem.W.Frag} {H : Hp} {Q : VK} {v : V}
def rLn (K : PySem.W.Frag) : List V → Hp → VK → Prop := fun xs H Q => ∃ p ys, xs = [.ref p] ∧ (SqL K H p ys ∨ SqT K H p ys) ∧ Q (.int ys.length) H
theorem call_ln : CallR X (.builtin "len") (rLn X.K) := call_len_seq
theorem c_ln {p : Addr} {ys : List V} (h : SqL K H p ys) (q : Q (.int ys.length) H) : rLn K [.ref p] H Q := ⟨p, ys, rfl, .inl h, q⟩
theorem c_lnT {p : Addr} {ys : List V} (h : SqT K H p ys) (q : Q (.int ys.length) H) : rLn K [.ref p] H Q := ⟨p, ys, rfl, .inr h, q⟩
def rAb : List V → Hp → VK → Prop := fun xs H Q => ∃ i, xs = [.int i] ∧ Q (.int (if i < 0 then -i else i)) H
theorem call_ab : CallR X (.builtin "abs") rAb := call_abs
theorem c_ab {i : Int} (q : Q (.int (if i < 0 then -i else i)) H) : rAb [.int i] H Q := ⟨i, rfl, q⟩
def rIn1 : List V → Hp → VK → Prop := fun xs H Q => ∃ i, xs = [.int i] ∧ Q (.int i) H
theorem call_in : CallR X (.type "int") rIn1 := fun pins s σ H xs us Q I r ⟨i, e, q⟩ => call_int1 pins s σ H xs us Q I r (.inl ⟨i, e, q⟩)
theorem c_in {i : Int} (q : Q (.int i) H) : rIn1 [.int i] H Q := ⟨i, rfl, q⟩
def rMx : List V → Hp → VK → Prop := fun xs H Q => ∃ i j, xs = [.int i, .int j] ∧ Q (.int (if j > i then j else i)) H
theorem call_mx (hc : X.calm = true) : CallR X (.builtin "max") rMx := call_max2 hc
theorem c_mx {i j : Int} (q : Q (.int (if j > i then j else i)) H) : rMx [.int i, .int j] H Q := ⟨i, j, rfl, q⟩
def rMn : List V → Hp → VK → Prop := fun xs H Q => ∃ i j, xs = [.int i, .int j] ∧ Q (.int (if j < i then j else i)) H
theorem call_mn (hc : X.calm = true) : CallR X (.builtin "min") rMn := call_min2 hc
theorem c_mn {i j : Int} (q : Q (.int (if j < i then j else i)) H) : rMn [.int i, .int j] H Q := ⟨i, j, rfl, q⟩
def rLs (K : PySem.W.Frag) : List V → Hp → VK → Prop := fun xs H Q => ∃ p ys, xs = [.ref p] ∧ (SqL K H p ys ∨ SqT K H p ys) ∧ ∀ l, H l = none → Q (.ref l) (upd H l (.lst ys))
theorem call_ls : CallR X (.type "list") (rLs X.K) := call_list_of
theorem c_ls {p : Addr} {ys : List V} (h : SqL K H p ys) (q : ∀ l, H l = none → Q (.ref l) (upd H l (.lst ys))) : rLs K [.ref p] H Q := ⟨p, ys, rfl, .inl h, q⟩
theorem c_app {l : Addr} {xs : List V} (h : H l = some (.lst xs)) (z : xs.length < sizeLine) (q : Q .non (upd H l (.lst (xs ++ [v])))) : rAppend (.ref l) [v] H Q := ⟨l, xs, v, rfl, rfl, h, z, q⟩
theorem c_pop0 {l : Addr} {x : V} {xs : List V} (h : H l = some (.lst (x :: xs))) (z : xs.length < 100000) (q : Q x (upd H l (.lst xs))) : rPopAt (.ref l) [.int 0] H Q :=
  ⟨l, x :: xs, 0, 0, x, rfl, rfl, h, by decide, by decide, by
    unfold seqIndex?
    first | rfl | simp, rfl, q⟩
theorem c_setL {p : Addr} {xs : List V} {n : Int} {j : Nat} {R : Hp → Prop} (h : H p = some (.lst xs)) (e : n = (j : Int)) (hj : j < xs.length) (q : R (upd H p (.lst (xs.set j v)))) : rSetL (.ref p) (.int n) v H R := by
  subst e
  exact ⟨p, xs, _, j, rfl, rfl, h, Evl.ixN_nat hj, q⟩
theorem g_sub {to ti : TE} {ts : TSet} {σ : L2.St} {R : L2.St → Hp → Prop} (h : to σ H fun o H1 => ti σ H1 fun i H2 => ts o i v H2 fun H3 => R σ H3) : gSub to ti ts v σ H R := h
theorem o_cat {l b : Addr} {xs zs : List V} (h : H l = some (.lst xs)) (h' : H b = some (.lst zs)) (z : xs.length + zs.length ≤ sizeLine) (q : ∀ p, H p = none → Q (.ref p) (upd H p (.lst (xs ++ zs)))) : rCat (.ref l) (.ref b) H Q := ⟨l, b, xs, zs, rfl, rfl, h, h', z, q⟩
theorem o_slL {a : Addr} {xs : List V} {lo hi : Option Int} (h : SqL K H a xs) (q : ∀ p, H p = none → Q (.ref p) (upd H p (.lst (cutV xs lo hi)))) : rSlL K (.ref a) lo hi H Q := ⟨a, xs, rfl, h, q⟩
/-- data of one level, as PyData -/
def toD : V → PyData
  | .bl b => .bool b
  | .int i => .int i
  | .str x => .str x
  | _ => .none
def flat : V → Bool
  | .non => true | .bl _ => true | .int _ => true | .str x => PyData.strOk x | _ => false
theorem dp_flat {x : V} (h : flat x = true) : Dp K H x (toD x) := by
  cases x with
  | non => exact .non
  | bl b => exact .bl b
  | int i => exact .int i
  | str z => exact .str z
  | byt _ => cases h
  | flt _ => cases h
  | ref _ => cases h
  | ty _ => cases h
theorem dp_flats : ∀ {xs : List V}, (∀ x ∈ xs, flat x = true) → DpAll K H xs (xs.map toD)
  | [], _ => .nil
  | x :: xs, h => .cons (dp_flat (h x List.mem_cons_self)) (dp_flats fun y hy => h y (List.mem_cons_of_mem _ hy))
theorem lay_flat {x : V} (h : flat x = true) : (toD x).canLay0 = true := by
  cases x with
  | str z => show PyData.strOk z = true; exact h
  | non => rfl
  | bl b => rfl
  | int i => rfl
  | byt _ => cases h
  | flt _ => cases h
  | ref _ => cases h
  | ty _ => cases h
theorem lay_flats : ∀ {xs : List V}, (∀ x ∈ xs, flat x = true) → PyData.canLayAll0 (xs.map toD) = true
  | [], _ => rfl
  | x :: xs, h => by
    show ((toD x).canLay0 && PyData.canLayAll0 (xs.map toD)) = true
    rw [lay_flat (h x List.mem_cons_self), lay_flats fun y hy => h y (List.mem_cons_of_mem _ hy)]
    rfl
theorem depth_flat (x : V) : (toD x).depth ≤ 1 := by
  cases x <;> first | decide | (simp [toD, PyData.depth])
theorem depth_flats : ∀ xs : List V, PyData.depthAll (xs.map toD) ≤ 1
  | [] => by simp [PyData.depthAll]
  | x :: xs => by
    have h1 := depth_flat x
    have h2 := depth_flats xs
    show PyData.depthAll (toD x :: xs.map toD) ≤ 1
    simp only [PyData.depthAll]
    omega
theorem shaped_flat {x : V} (h : flat x = true) : SeqAt.shaped (toD x) = true := by
  show ((toD x).canLay0 && decide ((toD x).depth ≤ 64)) = true
  rw [lay_flat h, decide_eq_true (Nat.le_trans (depth_flat x) (by decide))]
  rfl
theorem shaped_flats {xs : List V} (h : ∀ x ∈ xs, flat x = true) : SeqAt.shaped (.list (xs.map toD)) = true := by
  have d1 := depth_flats xs
  show (PyData.canLay0 (.list (xs.map toD)) && decide (PyData.depth (.list (xs.map toD)) ≤ 64)) = true
  have e1 : PyData.canLay0 (.list (xs.map toD)) = PyData.canLayAll0 (xs.map toD) := by simp only [PyData.canLay0]
  have e2 : PyData.depth (.list (xs.map toD)) ≤ 64 := by simp only [PyData.depth]; omega
  rw [e1, lay_flats h, decide_eq_true e2]
  rfl
theorem shaped_flatT {xs : List V} (h : ∀ x ∈ xs, flat x = true) : SeqAt.shaped (.tuple (xs.map toD)) = true := by
  have d1 := depth_flats xs
  show (PyData.canLay0 (.tuple (xs.map toD)) && decide (PyData.depth (.tuple (xs.map toD)) ≤ 64)) = true
  have e1 : PyData.canLay0 (.tuple (xs.map toD)) = PyData.canLayAll0 (xs.map toD) := by simp only [PyData.canLay0]
  have e2 : PyData.depth (.tuple (xs.map toD)) ≤ 64 := by simp only [PyData.depth]; omega
  rw [e1, lay_flats h, decide_eq_true e2]
  rfl
/-- the same data on both sides -/
theorem eqv_self {d : PyData} (h : SeqAt.shaped d = true) : PyData.eqv d d = true := by
  have h1 : d.canLay0 = true := SeqAt.canLay_of_shaped h
  first | exact SeqAt.eqv_refl d h1 | exact P3.eqv_refl d h1 | exact eqv_refl d h1
theorem o_eqD {x y : V} {d : PyData} (h1 : Dp K H x d) (h2 : Dp K H y d) (s : SeqAt.shaped d = true) (q : Q (.bl true) H) : rEqD K x y H Q := ⟨d, d, h1, h2, s, s, by rw [eqv_self s]; exact q⟩
theorem o_neD {x y : V} {d : PyData} (h1 : Dp K H x d) (h2 : Dp K H y d) (s : SeqAt.shaped d = true) (q : Q (.bl false) H) : rNeD K x y H Q := ⟨d, d, h1, h2, s, s, by rw [eqv_self s]; exact q⟩
/-- two lists of plain values that are one list -/
theorem o_neL {a b : Addr} {xs : List V} (h1 : SqL K H a xs) (h2 : SqL K H b xs) (f : ∀ x ∈ xs, flat x = true) (q : Q (.bl false) H) : rNeD K (.ref a) (.ref b) H Q :=
  o_neD (.lst h1 (dp_flats f)) (.lst h2 (dp_flats f)) (shaped_flats f) q
theorem o_eqL {a b : Addr} {xs : List V} (h1 : SqL K H a xs) (h2 : SqL K H b xs) (f : ∀ x ∈ xs, flat x = true) (q : Q (.bl true) H) : rEqD K (.ref a) (.ref b) H Q :=
  o_eqD (.lst h1 (dp_flats f)) (.lst h2 (dp_flats f)) (shaped_flats f) q
theorem o_neT {a b : Addr} {xs : List V} (h1 : SqT K H a xs) (h2 : SqT K H b xs) (f : ∀ x ∈ xs, flat x = true) (q : Q (.bl false) H) : rNeD K (.ref a) (.ref b) H Q :=
  o_neD (.tup h1 (dp_flats f)) (.tup h2 (dp_flats f)) (shaped_flatT f) q
theorem flat_ints (ns : List Int) : ∀ x ∈ ns.map V.int, flat x = true := fun x hx => by
  obtain ⟨n, _, rfl⟩ := List.mem_map.mp hx
  rfl
end

/-! ### loops and comprehensions -/
section
variable {K : PySem.W.Frag} {D : Ends} {σ : L2.St} {H : Hp} {tb : TS} {te tl : TE} {tt tc : TT} {g : TG} {Q : VK} {j : Nat} {b : Addr} {xs ys : List V} {vs : List Nat}
theorem f_list (Pv : Nat → L2.St → Hp → Prop) (hv : σ[j]? = some (some (.ref b))) (hS : SqL K H b xs) (h0 : Pv 0 σ H) (hl : ∀ i σ' H', i ≤ xs.length → Pv i σ' H' → SqL K H' b xs)
    (hs : ∀ i x σ' H', xs[i]? = some x → Pv i σ' H' → g x σ' H' fun σ2 H2 => tb { D with nx := Pv (i + 1), ct := Pv (i + 1), bk := D.nx } σ2 H2) (hd : ∀ σ' H', Pv xs.length σ' H' → D.nx σ' H') : tFor (iList K (tVar j)) g tb D σ H :=
  ⟨_, hv, b, rfl, ⟨_, hS⟩, for_list Pv h0 hl hs hd⟩
/-- over a list that an expression hands back -/
theorem f_listE (h : tl σ H fun x H1 => ∃ (p : Addr) (xs : List V) (Pv : Nat → L2.St → Hp → Prop), x = .ref p ∧ SqL K H1 p xs ∧ Pv 0 σ H1 ∧ (∀ i σ' H', i ≤ xs.length → Pv i σ' H' → SqL K H' p xs) ∧
    (∀ i x σ' H', xs[i]? = some x → Pv i σ' H' → g x σ' H' fun σ2 H2 => tb { D with nx := Pv (i + 1), ct := Pv (i + 1), bk := D.nx } σ2 H2) ∧ ∀ σ' H', Pv xs.length σ' H' → D.nx σ' H') (up : ∀ R R' : VK, (∀ x H1, R x H1 → R' x H1) → tl σ H R → tl σ H R') : tFor (iList K tl) g tb D σ H :=
  up _ _ (fun _ _ ⟨p, xs, Pv, e, hS, h0, hl, hs, hd⟩ => ⟨p, e, ⟨xs, hS⟩, for_list Pv h0 hl hs hd⟩) h
/-- over the first n of a list -/
theorem f_listS {n : Int} (hv : σ[j]? = some (some (.ref b))) (hS : SqL K H b xs)
    (h : ∀ c, H c = none → ∃ Pv : Nat → L2.St → Hp → Prop, Pv 0 σ (upd H c (.lst (cutV xs none (some n)))) ∧ (∀ i σ' H', i ≤ (cutV xs none (some n)).length → Pv i σ' H' → SqL K H' c (cutV xs none (some n))) ∧
      (∀ i x σ' H', (cutV xs none (some n))[i]? = some x → Pv i σ' H' → g x σ' H' fun σ2 H2 => tb { D with nx := Pv (i + 1), ct := Pv (i + 1), bk := D.nx } σ2 H2) ∧ ∀ σ' H', Pv (cutV xs none (some n)).length σ' H' → D.nx σ' H') :
    tFor (iList K (tSl (rSlL K) (tVar j) tNoPart (tPart (tC (.int n))))) g tb D σ H := by
  show tSl (rSlL K) (tVar j) tNoPart (tPart (tC (.int n))) σ H _
  refine e_sl (e_var hv (p_no (p_some (e_c (k_i (o_slL hS fun c hc => ?_))))))
  obtain ⟨Pv, h0, hl, hs, hd⟩ := h c hc
  exact ⟨c, rfl, ⟨_, Or.inl (Or.inl upd_same)⟩, for_list Pv h0 hl hs hd⟩
theorem Fp.add {fp : List Addr} {H H1 H2 : Hp} (F : Fp [] H H1) (f : Fp fp H1 H2) (n : ∀ z ∈ fp, H z = none) : Fp [] H H2 := fun c o h m => f c o (F c o h (by simp)) fun z => by rw [n c z] at h; cases h
/-- for i in range(n) -/
def kRng (g : TG) (tb : TS) (D : Ends) (σ : L2.St) (x : V) (H1 : Hp) : Prop := iRng1 (fun _ _ R => R [x] H1) σ H1 fun J H1 => ∃ W : Nat → Nat → L2.St → Hp → Prop, (∃ m, W 0 m σ H1) ∧ ∀ i m σ H, W i m σ H →
  (J.stop i H ∧ D.nx σ H) ∨ (J.go i H ∧ ∃ N : L2.St → Hp → Prop, (∀ σ' H', N σ' H' → ∃ m', m' < m ∧ W (i + 1) m' σ' H') ∧ ∀ x H', J.yld i H x H' → g x σ H' fun σ2 H2 => tb { D with nx := N, ct := N, bk := D.nx } σ2 H2)
theorem f_rng1 (h : te σ H fun x H1 => kRng g tb D σ x H1) : tFor (iRng1 (tCons te tNil)) g tb D σ H := h
theorem k_rng (Pv : Nat → L2.St → Hp → Prop) {n : Int} (h1 : -(2 ^ 62) ≤ n) (h2 : n < 2 ^ 62) (h0 : Pv 0 σ H)
    (hs : ∀ i σ' H', i < n.toNat → Pv i σ' H' → g (.int (i : Nat)) σ' H' fun σ2 H2 => tb { D with nx := Pv (i + 1), ct := Pv (i + 1), bk := D.nx } σ2 H2) (hd : ∀ σ' H', Pv n.toNat σ' H' → D.nx σ' H') : kRng g tb D σ (.int n) H :=
  ⟨n, rfl, h1, h2, for_range (lo := 0) (n := n.toNat) Pv h0 (fun i σ' H' hi p => by
    have e0 : (0 : Int) + (i : Int) = (i : Int) := Int.zero_add _
    rw [e0]
    exact hs i σ' H' hi p) hd⟩
theorem w_by (W : Nat → L2.St → Hp → Prop) (m0 : Nat) (h0 : W m0 σ H) (hs : ∀ m σ' H', W m σ' H' → tc σ' H' fun k H1 => if k = true then ∃ N : L2.St → Hp → Prop, (∀ σ2 H2, N σ2 H2 → ∃ m', m' < m ∧ W m' σ2 H2) ∧ tb { D with nx := N, ct := N, bk := D.nx } σ' H1 else D.nx σ' H1) :
    tWhile tc tb D σ H := ⟨W, ⟨m0, h0⟩, hs⟩
theorem take_snoc {α : Type} {l : List α} {i : Nat} {x : α} (h : l[i]? = some x) : l.take (i + 1) = l.take i ++ [x] := by
  obtain ⟨hi, rfl⟩ := List.getElem?_eq_some_iff.mp h
  rw [List.take_succ, List.getElem?_eq_getElem hi]
  rfl
/-- [e for x in xs], e without a trace in the heap -/
theorem lc_pure (hv : σ[j]? = some (some (.ref b))) (hS : SqL K H b xs) (hlen : ys.length = xs.length) (hz : xs.length < 100000)
    (hs : ∀ (E : Addr) (i : Nat) (x y : V) (H' : Hp) (R : VK), H E = none → xs[i]? = some x → ys[i]? = some y → H' = upd H E (.lst (ys.take i)) → R y H' → g x (wipe σ vs) H' fun σ2 H2 => wipe σ2 vs = wipe σ vs ∧ te σ2 H2 R)
    (q : ∀ E, H E = none → Q (.ref E) (upd H E (.lst ys))) : tLc (iList K (tVar j)) g tYes te vs σ H Q := by
  refine ⟨_, hv, b, rfl, ⟨_, hS⟩, fun E hE => ?_⟩
  refine lc_list (K := K) (a := b) (xs := xs) (fun i H' => H' = upd H E (.lst (ys.take i))) (by rw [List.take_zero]) (fun i H' hi e => ?_) (fun i x H' hx e => ?_) fun H' e => ?_
  · subst e; exact (Fp.new (fp := []) hE).seq (by simp) hS
  · have hi : i < xs.length := (List.getElem?_eq_some_iff.mp hx).1
    have hy : ys[i]? = some ys[i] := List.getElem?_eq_getElem (by omega)
    have z := hs E i x _ H' (fun y H4 => ∃ acc, H4 E = some (.lst acc) ∧ acc.length < sizeLine ∧ upd H4 E (.lst (acc ++ [y])) = upd H E (.lst (ys.take (i + 1)))) hE hx hy e
      ⟨ys.take i, by rw [e]; exact upd_same, szl (by rw [List.length_take]; omega), by rw [e, upd_upd, take_snoc hy]⟩
    exact z
  · rw [e, ← hlen, List.take_length]
    exact q E hE
theorem lc_pureR {n : Int} (h1 : 0 ≤ n) (h2 : n < 100000) (hlen : (ys.length : Int) = n)
    (hs : ∀ (E : Addr) (i : Nat) (y : V) (H' : Hp) (R : VK), H E = none → (i : Int) < n → ys[i]? = some y → H' = upd H E (.lst (ys.take i)) → R y H' → g (.int (i : Nat)) (wipe σ vs) H' fun σ2 H2 => wipe σ2 vs = wipe σ vs ∧ te σ2 H2 R)
    (q : ∀ E, H E = none → Q (.ref E) (upd H E (.lst ys))) : (iRng1 (fun _ _ R => R [V.int n] H)) σ H fun J H1 => ∀ E, H1 E = none → ∃ W : Nat → Nat → Hp → Prop, (∃ m, W 0 m (upd H1 E (.lst []))) ∧ ∀ i m H, W i m H →
    (J.stop i H ∧ Q (.ref E) H) ∨ (J.go i H ∧ ∃ Nx : Hp → Prop, (∀ H', Nx H' → ∃ m', m' < m ∧ W (i + 1) m' H') ∧ ∀ x H', J.yld i H x H' → g x (wipe σ vs) H' fun σ2 H2 => wipe σ2 vs = wipe σ vs ∧ tYes σ2 H2 fun b H3 =>
      if b = true then te σ2 H3 fun y H4 => ∃ acc, H4 E = some (.lst acc) ∧ acc.length < sizeLine ∧ Nx (upd H4 E (.lst (acc ++ [y]))) else Nx H3) := by
  refine ⟨n, rfl, by omega, by omega, fun E hE => ?_⟩
  refine lc_range (lo := 0) (n := n.toNat) (fun i H' => H' = upd H E (.lst (ys.take i))) (by rw [List.take_zero]) (fun i H' hi e => ?_) fun H' e => ?_
  · have hy : ys[i]? = some ys[i] := List.getElem?_eq_getElem (by omega)
    have e0 : (0 : Int) + (i : Int) = (i : Int) := Int.zero_add _
    rw [e0]
    exact hs E i _ H' (fun y H4 => ∃ acc, H4 E = some (.lst acc) ∧ acc.length < sizeLine ∧ upd H4 E (.lst (acc ++ [y])) = upd H E (.lst (ys.take (i + 1)))) hE (by omega) hy e
      ⟨ys.take i, by rw [e]; exact upd_same, szl (by rw [List.length_take]; omega), by rw [e, upd_upd, take_snoc hy]⟩
  · have : n.toNat = ys.length := by omega
    rw [e, this, List.take_length]
    exact q E hE
def kLcR (g : TG) (te : TE) (vs : List Nat) (σ : L2.St) (Q : VK) (x : V) (H : Hp) : Prop := (iRng1 (fun _ _ R => R [x] H)) σ H fun J H1 => ∀ E, H1 E = none → ∃ W : Nat → Nat → Hp → Prop, (∃ m, W 0 m (upd H1 E (.lst []))) ∧ ∀ i m H, W i m H →
    (J.stop i H ∧ Q (.ref E) H) ∨ (J.go i H ∧ ∃ Nx : Hp → Prop, (∀ H', Nx H' → ∃ m', m' < m ∧ W (i + 1) m' H') ∧ ∀ x H', J.yld i H x H' → g x (wipe σ vs) H' fun σ2 H2 => wipe σ2 vs = wipe σ vs ∧ tYes σ2 H2 fun b H3 =>
      if b = true then te σ2 H3 fun y H4 => ∃ acc, H4 E = some (.lst acc) ∧ acc.length < sizeLine ∧ Nx (upd H4 E (.lst (acc ++ [y]))) else Nx H3)
theorem fm_snoc {α : Type} {f : α → Option V} {l : List α} {i : Nat} {x : α} (h : l[i]? = some x) : (l.take (i + 1)).filterMap f = (l.take i).filterMap f ++ (f x).toList := by
  rw [take_snoc h, List.filterMap_append]
  cases e : f x <;> simp [e]
/-- [e for x in xs if t], where t and e may make new objects -/
theorem lc_filt (f : V → Option V) (hv : σ[j]? = some (some (.ref b))) (hS : SqL K H b xs) (hz : xs.length < 100000)
    (hs : ∀ (E : Addr) (i : Nat) (x : V) (H' : Hp) (R : VK) (N : Hp → Prop), H E = none → xs[i]? = some x → H' E = some (.lst ((xs.take i).filterMap f)) → Fp [] H H' → (∀ y H4, f x = some y → Fp [] H' H4 → R y H4) → (f x = none → ∀ H4, Fp [] H' H4 → N H4) →
      g x (wipe σ vs) H' fun σ2 H2 => wipe σ2 vs = wipe σ vs ∧ tt σ2 H2 fun k H3 => if k = true then te σ2 H3 R else N H3)
    (q : ∀ E H', H E = none → H' E = some (.lst (xs.filterMap f)) → Fp [] H H' → Q (.ref E) H') : tLc (iList K (tVar j)) g tt te vs σ H Q := by
  refine ⟨_, hv, b, rfl, ⟨_, hS⟩, fun E hE => ?_⟩
  refine lc_list (K := K) (a := b) (xs := xs) (fun i H' => H' E = some (.lst ((xs.take i).filterMap f)) ∧ Fp [] H H') ⟨by rw [List.take_zero]; exact upd_same, Fp.new hE⟩ (fun i H' hi e => ?_) (fun i x H' hx e => ?_) fun H' e => ?_
  · exact e.2.seq (by simp) hS
  · have hi : i < xs.length := (List.getElem?_eq_some_iff.mp hx).1
    exact hs E i x H' (fun y H4 => ∃ acc, H4 E = some (.lst acc) ∧ acc.length < sizeLine ∧ (upd H4 E (.lst (acc ++ [y]))) E = some (.lst ((xs.take (i + 1)).filterMap f)) ∧ Fp [] H (upd H4 E (.lst (acc ++ [y])))) (fun H4 => H4 E = some (.lst ((xs.take (i + 1)).filterMap f)) ∧ Fp [] H H4) hE hx e.1 e.2
      (fun y H4 ey f4 => ⟨_, f4 _ _ e.1 (by simp), szl (Nat.lt_of_le_of_lt (List.length_filterMap_le _ _) (by rw [List.length_take]; omega)), by rw [upd_same, fm_snoc hx, ey]; rfl, Fp.drop (fp := [E]) (((e.2.trans f4).mono (by simp)).trans (Fp.at_ (by simp))) fun z hz => by rcases List.mem_singleton.mp hz with rfl; exact .inr hE⟩)
      (fun ey H4 f4 => ⟨by rw [fm_snoc hx, ey]; simpa using f4 _ _ e.1 (by simp), e.2.trans f4⟩)
  · rw [List.take_length] at e
    exact q E H' hE e.1 e.2
def kLcF (g : TG) (tt : TT) (te : TE) (vs : List Nat) (σ : L2.St) (Q : VK) (x : V) (H : Hp) : Prop := (iRng1 (fun _ _ R => R [x] H)) σ H fun J H1 => ∀ E, H1 E = none → ∃ W : Nat → Nat → Hp → Prop, (∃ m, W 0 m (upd H1 E (.lst []))) ∧ ∀ i m H, W i m H →
    (J.stop i H ∧ Q (.ref E) H) ∨ (J.go i H ∧ ∃ Nx : Hp → Prop, (∀ H', Nx H' → ∃ m', m' < m ∧ W (i + 1) m' H') ∧ ∀ x H', J.yld i H x H' → g x (wipe σ vs) H' fun σ2 H2 => wipe σ2 vs = wipe σ vs ∧ tt σ2 H2 fun b H3 =>
      if b = true then te σ2 H3 fun y H4 => ∃ acc, H4 E = some (.lst acc) ∧ acc.length < sizeLine ∧ Nx (upd H4 E (.lst (acc ++ [y]))) else Nx H3)
theorem e_lcF (h : tl σ H fun x H1 => kLcF g tt te vs σ Q x H1) : tLc (iRng1 (tCons tl tNil)) g tt te vs σ H Q := h
theorem fm_range {f : Nat → Option V} {i : Nat} : (List.range (i + 1)).filterMap f = (List.range i).filterMap f ++ (f i).toList := by
  rw [List.range_succ, List.filterMap_append]
  cases e : f i <;> simp [e]
/-- [e for i in range(n) if t] -/
theorem k_lcF {n : Int} (f : Nat → Option V) (h1 : 0 ≤ n) (h2 : n < 100000)
    (hs : ∀ (E : Addr) (i : Nat) (H' : Hp) (R : VK) (N : Hp → Prop), H E = none → (i : Int) < n → H' E = some (.lst ((List.range i).filterMap f)) → Fp [] H H' → (∀ y H4, f i = some y → Fp [] H' H4 → R y H4) → (f i = none → ∀ H4, Fp [] H' H4 → N H4) →
      g (.int (i : Nat)) (wipe σ vs) H' fun σ2 H2 => wipe σ2 vs = wipe σ vs ∧ tt σ2 H2 fun k H3 => if k = true then te σ2 H3 R else N H3)
    (q : ∀ E H', H E = none → H' E = some (.lst ((List.range n.toNat).filterMap f)) → Fp [] H H' → Q (.ref E) H') : kLcF g tt te vs σ Q (.int n) H := by
  refine ⟨n, rfl, by omega, by omega, fun E hE => ?_⟩
  refine lc_range (lo := 0) (n := n.toNat) (fun i H' => H' E = some (.lst ((List.range i).filterMap f)) ∧ Fp [] H H') ⟨upd_same, Fp.new hE⟩ (fun i H' hi e => ?_) fun H' e => q E H' hE e.1 e.2
  have e0 : (0 : Int) + (i : Int) = (i : Int) := Int.zero_add _
  rw [e0]
  exact hs E i H' (fun y H4 => ∃ acc, H4 E = some (.lst acc) ∧ acc.length < sizeLine ∧ (upd H4 E (.lst (acc ++ [y]))) E = some (.lst ((List.range (i + 1)).filterMap f)) ∧ Fp [] H (upd H4 E (.lst (acc ++ [y])))) (fun H4 => H4 E = some (.lst ((List.range (i + 1)).filterMap f)) ∧ Fp [] H H4) hE (by omega) e.1 e.2
    (fun y H4 ey f4 => ⟨_, f4 _ _ e.1 (by simp), szl (Nat.lt_of_le_of_lt (List.length_filterMap_le _ _) (by rw [List.length_range]; omega)), by rw [upd_same, fm_range, ey]; rfl, Fp.drop (fp := [E]) (((e.2.trans f4).mono (by simp)).trans (Fp.at_ (by simp))) fun z hz => by rcases List.mem_singleton.mp hz with rfl; exact .inr hE⟩)
    (fun ey H4 f4 => ⟨by rw [fm_range, ey]; simpa using f4 _ _ e.1 (by simp), e.2.trans f4⟩)
theorem e_lcR (h : tl σ H fun x H1 => kLcR g te vs σ Q x H1) : tLc (iRng1 (tCons tl tNil)) g tYes te vs σ H Q := h
theorem k_lcR {n : Int} (h1 : 0 ≤ n) (h2 : n < 100000) (hlen : (ys.length : Int) = n)
    (hs : ∀ (E : Addr) (i : Nat) (y : V) (H' : Hp) (R : VK), H E = none → (i : Int) < n → ys[i]? = some y → H' = upd H E (.lst (ys.take i)) → R y H' → g (.int (i : Nat)) (wipe σ vs) H' fun σ2 H2 => wipe σ2 vs = wipe σ vs ∧ te σ2 H2 R)
    (q : ∀ E, H E = none → Q (.ref E) (upd H E (.lst ys))) : kLcR g te vs σ Q (.int n) H := lc_pureR h1 h2 hlen hs q
end

theorem atI_zero {α : Type} (x : α) (xs : List α) : atI (x :: xs) 0 = some x := by
  have h : (x :: xs)[0]? = some x := rfl
  exact atI_nat (j := 0) h
theorem int_inj {i j : Int} (h : V.int i = V.int j) : i = j := V.int.inj h
theorem int_ne {i j : Int} (h : ¬ V.int i = V.int j) : i ≠ j := fun z => h (by rw [z])

theorem k_ty {K : PySem.W.Frag} {H : Hp} {p : Addr} {xs : List V} {R : Prop} (h : SqL K H p xs) (q : R) : tyV K "list" (.ref p) H ∧ R := ⟨Or.inl ⟨rfl, xs, h⟩, q⟩

theorem o_rep {K : PySem.W.Frag} {H : Hp} {Q : VK} {l : Addr} {n : Int} {xs : List V} (h : H l = some (.lst xs)) (h1 : 0 ≤ n) (h2 : xs.length * n.toNat ≤ 100000) (h3 : n < 2 ^ 63) (q : ∀ p, H p = none → Q (.ref p) (upd H p (.lst (List.replicate n.toNat xs).flatten))) : rRep (.ref l) (.int n) H Q :=
  ⟨l, n, xs, rfl, rfl, h, by omega, h3, sz h2, q⟩

theorem c_isBool {K : PySem.W.Frag} {H : Hp} {Q : VK} {b : Bool} (q : Q (.bl true) H) : rIsi K [.bl b, .ty "bool"] H Q := ⟨.bl b, .ty "bool", .type "bool", .type "bool", true, rfl, .ty _, .base (.bl b), kit_ty (by decide +kernel), q⟩
theorem c_isInt {K : PySem.W.Frag} {H : Hp} {Q : VK} {n : Int} (q : Q (.bl true) H) : rIsi K [.int n, .ty "int"] H Q := ⟨.int n, .ty "int", .type "int", .type "int", true, rfl, .ty _, .base (.int n), kit_ty (by decide +kernel), q⟩
theorem c_isBoolN {K : PySem.W.Frag} {H : Hp} {Q : VK} {n : Int} (q : Q (.bl false) H) : rIsi K [.int n, .ty "bool"] H Q := ⟨.int n, .ty "bool", .type "int", .type "bool", false, rfl, .ty _, .base (.int n), kit_ty (by decide +kernel), q⟩
theorem c_isList {K : PySem.W.Frag} {H : Hp} {Q : VK} {a : Addr} {xs : List V} (h : H a = some (.lst xs)) (q : Q (.bl true) H) : rIsi K [.ref a, .ty "list"] H Q := ⟨.ref a, .ty "list", .type "list", .type "list", true, rfl, .ty _, .base (.lst h), kit_ty (by decide +kernel), q⟩
theorem c_isTup {K : PySem.W.Frag} {H : Hp} {Q : VK} {a : Addr} {xs : List V} (h : H a = some (.tup xs)) (q : Q (.bl true) H) : rIsi K [.ref a, .ty "tuple"] H Q := ⟨.ref a, .ty "tuple", .type "tuple", .type "tuple", true, rfl, .ty _, .base (.tup h), kit_ty (by decide +kernel), q⟩
theorem c_isTupB {K : PySem.W.Frag} {H : Hp} {Q : VK} {a : Addr} {xs : List V} (h : H a = some (.tup xs)) (q : Q (.bl false) H) : rIsi K [.ref a, .ty "bool"] H Q := ⟨.ref a, .ty "bool", .type "tuple", .type "bool", false, rfl, .ty _, .base (.tup h), kit_ty (by decide +kernel), q⟩
/-- is True, is False -/
def rIsB : V → V → Hp → VK → Prop := fun x y H Q => ∃ a b, x = .bl a ∧ y = .bl b ∧ Q (.bl (decide (a = b))) H
def rNotB : V → V → Hp → VK → Prop := fun x y H Q => ∃ a b, x = .bl a ∧ y = .bl b ∧ Q (.bl (!decide (a = b))) H
theorem bo_beq (a b : Bool) : (Value.bool a == Value.bool b) = decide (a = b) := by cases a <;> cases b <;> decide +kernel
theorem op_isB {X : Cx} : OpR X (compareOp .Is) rIsB := by
  intro pins s σ H x y v u Q I rx ry h
  obtain ⟨a, b, rfl, rfl, q⟩ := h
  cases (show v = Value.bool a from rx)
  cases (show u = Value.bool b from ry)
  exact wpAny_is_plain rfl (fin_bl I q (bo_beq a b).symm)
theorem op_notB {X : Cx} : OpR X (compareOp .IsNot) rNotB := by
  intro pins s σ H x y v u Q I rx ry h
  obtain ⟨a, b, rfl, rfl, q⟩ := h
  cases (show v = Value.bool a from rx)
  cases (show u = Value.bool b from ry)
  exact wpAny_isNot_plain rfl (fin_bl I q (congrArg not (bo_beq a b).symm))
theorem o_isB {H : Hp} {Q : VK} {a b : Bool} (q : Q (.bl (decide (a = b))) H) : rIsB (.bl a) (.bl b) H Q := ⟨a, b, rfl, rfl, q⟩
theorem o_notB {H : Hp} {Q : VK} {a b : Bool} (q : Q (.bl (!decide (a = b))) H) : rNotB (.bl a) (.bl b) H Q := ⟨a, b, rfl, rfl, q⟩
theorem c_isTupI {K : PySem.W.Frag} {H : Hp} {Q : VK} {n : Int} (q : Q (.bl false) H) : rIsi K [.int n, .ty "tuple"] H Q := ⟨.int n, .ty "tuple", .type "int", .type "tuple", false, rfl, .ty _, .base (.int n), kit_ty (by decide +kernel), q⟩
theorem c_isNonB {K : PySem.W.Frag} {H : Hp} {Q : VK} (q : Q (.bl false) H) : rIsi K [.non, .ty "bool"] H Q := ⟨.non, .ty "bool", .type "NoneType", .type "bool", false, rfl, .ty _, .base .non, kit_ty (by decide +kernel), q⟩
theorem c_isNonT {K : PySem.W.Frag} {H : Hp} {Q : VK} (q : Q (.bl false) H) : rIsi K [.non, .ty "tuple"] H Q := ⟨.non, .ty "tuple", .type "NoneType", .type "tuple", false, rfl, .ty _, .base .non, kit_ty (by decide +kernel), q⟩
theorem k_bl {c : Bool} {P : Bool → Prop} (h : P c) : ∃ c', V.bl c = V.bl c' ∧ P c' := ⟨c, rfl, h⟩

section
variable {K : PySem.W.Frag} {H : Hp} {Q : VK} {σ : L2.St} {te : TE} {C D ae dd CT : Addr} {f : Str} {fs : List (Str × V)} {v : V} {cls : Value} {de : Option Addr}
def kXf (a : Addr) (cls : Value) (d : Option Addr) (C : Addr) (f : Str) (x : V) (H1 : Hp) (Q : VK) : Prop := x = .ref a ∧ cls = .ref C ∧ ∃ (dd : Addr) (fs : List (Str × V)) (v : V), d = some dd ∧ H1 dd = some (.xd fs) ∧ fs.lookup f = some v ∧ Q v H1
theorem e_xf (h : te σ H fun x H1 => kXf ae cls de C f x H1 Q) : tXf ae cls de C f te σ H Q := h
theorem k_xf (h : H dd = some (.xd fs)) (l : fs.lookup f = some v) (q : Q v H) : kXf ae (.ref C) (some dd) C f (.ref ae) H Q := ⟨rfl, rfl, dd, fs, v, rfl, h, l, q⟩
theorem c_isED (h : H dd = some (.xd fs)) (k : PySem.W.kitOne K (.ref D) (.ref CT) = some true) (q : Q (.bl true) H) : rIsED K D ae (.ref D) (some dd) [.ref ae, .ref CT] H Q :=
  ⟨.ref CT, .ref CT, true, dd, fs, rfl, rfl, rfl, h, fun u r => r, k, q⟩
theorem c_isEDty {n : String} (h : H dd = some (.xd fs)) (k : PySem.W.kitOne K (.ref D) (.type n) = some true) (q : Q (.bl true) H) : rIsED K D ae (.ref D) (some dd) [.ref ae, .ty n] H Q :=
  ⟨.ty n, .type n, true, dd, fs, rfl, rfl, rfl, h, fun u r => r, k, q⟩
theorem w_as {c : Value} {i : Nat} {ts : Addr → Value → Option Addr → TS} {Wout : WX} {D : Ends} (e : PySem.W.exmOne K cls c = some true)
    (h : ∀ a, H a = none → ts a cls de { nx := fun σ' H' => D.nx (σ'.set i none) H', rt := D.rt, bk := fun σ' H' => D.bk (σ'.set i none) H', ct := fun σ' H' => D.ct (σ'.set i none) H' } (σ.set i (some (.ref a))) H) : WE (wAs K c i ts Wout D) σ cls de H :=
  ⟨true, e, fun _ => h, fun z => Bool.noConfusion z⟩
end

theorem s_cut {D : Ends} {σ : L2.St} {H : Hp} {t u : TS} (Mid : L2.St → Hp → Prop) (h1 : t { D with nx := Mid } σ H) (h2 : ∀ σ' H', Mid σ' H' → u D σ' H') : Evl.tCut t u D σ H := ⟨Mid, h1, h2⟩

/-- a test whose outcomes are told once -/
def tUpT (t : TT) : TT := fun σ H Q => ∃ P : Bool → Hp → Prop, t σ H P ∧ ∀ b H1, P b H1 → Q b H1
theorem pt_up {X : Cx} {e : Expr} {t : TT} (h : PT X e t) : PT X e (tUpT t) := ⟨fun pins s σ H Q I ⟨P, q, m⟩ => thn (h.run pins s σ H P I q) fun _ _ ⟨H1, J, z⟩ => ⟨H1, J, m _ _ z⟩⟩
theorem t_up {t : TT} {σ : L2.St} {H : Hp} {Q : Bool → Hp → Prop} (P : Bool → Hp → Prop) (h : t σ H P) (k : ∀ b H1, P b H1 → Q b H1) : tUpT t σ H Q := ⟨P, h, k⟩
theorem cut1 {x : V} {xs : List V} : cutV (x :: xs) (some 1) none = xs := by
  unfold cutV
  simp [HT.sIx]

/-! ### dicts by texts -/
section
variable {K : PySem.W.Frag} {D : Ends} {σ : L2.St} {H : Hp} {Q : VK} {td ty tv te : TE} {a : Addr} {kvs : List (Key × V)} {s : Str} {v : V} {x y c : Int} {i : Nat}
theorem val_hit (k : Key) (v : V) (r : List (Key × V)) : valV ((k, v) :: r) k = some v := by simp [valV]
theorem val_miss {k k' : Key} (h : ¬ k = k') (v : V) (r : List (Key × V)) : valV ((k, v) :: r) k' = valV r k' := by simp [valV, h]
theorem val_nil (k : Key) : valV ([] : List (Key × V)) k = none := rfl
def kDGet (x y : V) (H : Hp) (Q : VK) : Prop := ∃ a v, x = .ref a ∧ DGet H a y (some v) ∧ Q v H
theorem e_dget (h : td σ H fun x H1 => ty σ H1 fun y H2 => kDGet x y H2 Q) : tDGet td ty σ H Q := h
theorem k_dget (h : H a = some (.dK kvs)) (l : valV kvs (Sum.inr s) = some v) (q : Q v H) : kDGet (.ref a) (.str s) H Q := ⟨a, v, rfl, .inl ⟨kvs, Sum.inr s, .inl h, rfl, l.symm⟩, q⟩
def kDPut (v x y : V) (H : Hp) (R : Hp → Prop) : Prop := ∃ a H4, x = .ref a ∧ DPut H a y v H4 ∧ R H4
theorem s_dput (h : tv σ H fun v H1 => td σ H1 fun x H2 => ty σ H2 fun y H3 => kDPut v x y H3 (D.nx σ)) : sDPut td ty tv D σ H := h
theorem k_dput {R : Hp → Prop} (h : H a = some (.dK kvs)) (hl : kvs.length < 100000) (q : R (upd H a (.dK (putK kvs (Sum.inr s) v)))) : kDPut v (.ref a) (.str s) H R := ⟨a, _, rfl, DPut.k (k := Sum.inr s) h (szl hl), q⟩
theorem c_sum {ns : List Int} (h : SqL K H a (ns.map V.int)) (q : Q (.int ns.sum) H) : rSum K [.ref a] H Q := ⟨a, ns, rfl, h, q⟩
/-! ### x ≤ y ≤ c -/
theorem o_chC (q : Q (.bl (decide (x ≤ y ∧ y ≤ c))) H) :
    rI0 (fun i j => V.bl (decide (i ≤ j))) (.int x) (.int y) H fun z H3 => kT z H3 fun k H4 => if k = true then tC (.int c) σ H4 fun w' H5 => rI0 (fun i j => V.bl (decide (i ≤ j))) (.int y) w' H5 Q else Q (.bl false) H4 := by
  refine o_I0 (k_t ?_)
  refine if_d (fun h => e_c (o_I0 ?_)) (fun h => ?_)
  · rw [show decide (y ≤ c) = decide (x ≤ y ∧ y ≤ c) from decide_eq_decide.mpr ⟨fun z => ⟨h, z⟩, fun z => z.2⟩]; exact q
  · rw [show false = decide (x ≤ y ∧ y ≤ c) from (decide_eq_false fun z => h z.1).symm]; exact q
theorem o_chV (hv : σ[i]? = some (some (.int c))) (q : Q (.bl (decide (x ≤ y ∧ y ≤ c))) H) :
    rI0 (fun i j => V.bl (decide (i ≤ j))) (.int x) (.int y) H fun z H3 => kT z H3 fun k H4 => if k = true then tVar i σ H4 fun w' H5 => rI0 (fun i j => V.bl (decide (i ≤ j))) (.int y) w' H5 Q else Q (.bl false) H4 := by
  refine o_I0 (k_t ?_)
  refine if_d (fun h => e_var hv (o_I0 ?_)) (fun h => ?_)
  · rw [show decide (y ≤ c) = decide (x ≤ y ∧ y ≤ c) from decide_eq_decide.mpr ⟨fun z => ⟨h, z⟩, fun z => z.2⟩]; exact q
  · rw [show false = decide (x ≤ y ∧ y ≤ c) from (decide_eq_false fun z => h z.1).symm]; exact q
theorem e_makeK {C : Addr} {m : Nat} {sp : Sp} {gV : List V → List V → List V} {ES : L2.St → XK} {tk : TA} (h : tk σ H fun zs H2 => zs.length = m ∧ ∀ x dx, H2 x = none → H2 dx = none → dx ≠ x →
  sp (gV [.ref x] zs) (upd (upd H2 dx (.own x)) x (.ins C dx [])) (fun v H3 => v = .non ∧ Q (.ref x) H3) (ES σ)) : tMakeKS C m sp gV ES tk σ H Q := h
def kTup (K : PySem.W.Frag) (n : Nat) (t : TGs) (v : V) (σ : L2.St) (H : Hp) (R : L2.St → Hp → Prop) : Prop := ∃ a xs, v = .ref a ∧ SqT K H a xs ∧ xs.length = n ∧ t xs σ H R
theorem g_tup {n : Nat} {t : TGs} {R : L2.St → Hp → Prop} {xs : List V} (h : SqT K H a xs) (hn : xs.length = n) (q : t xs σ H R) : gTup K n t (.ref a) σ H R := ⟨a, xs, rfl, h, hn, q⟩
theorem g_cons {t : TG} {u : TGs} {R : L2.St → Hp → Prop} {r : List V} (q : t v σ H fun σ' H' => u r σ' H' R) : gCons t u (v :: r) σ H R := ⟨v, r, rfl, q⟩
theorem g_nil {R : L2.St → Hp → Prop} (q : R σ H) : gNil [] σ H R := ⟨rfl, q⟩
end

def PL (fs : List (Str × V)) (n : Nat) : Prop := fs.length ≤ n
theorem PL.nil {n : Nat} : PL [] n := Nat.zero_le _
theorem putF_length (f : Str) (v : V) : ∀ fs : List (Str × V), (putF f v fs).length ≤ fs.length + 1
  | [] => Nat.le_refl _
  | (g, y) :: r => by
    by_cases h : g = f
    · rw [show putF f v ((g, y) :: r) = (g, v) :: r from if_pos h]
      exact Nat.le_succ _
    · rw [putF_miss h]
      exact Nat.succ_le_succ (putF_length f v r)
theorem PL.put {f : Str} {v : V} {fs : List (Str × V)} {n : Nat} (h : PL fs n) : PL (putF f v fs) (n + 1) := Nat.le_trans (putF_length f v fs) (Nat.succ_le_succ h)
theorem PL.lt {fs : List (Str × V)} {n : Nat} (h : PL fs n) (hn : n < 1000) : fs.length < 1000 := Nat.lt_of_le_of_lt h hn

/-- objects that stand -/
def Obs (H : Hp) (l : List (Addr × HO)) : Prop := ∀ p ∈ l, H p.1 = some p.2
theorem Obs.nil {H : Hp} : Obs H [] := fun p hp => by cases hp
theorem Obs.fp {H H1 : Hp} {l : List (Addr × HO)} {fp : List Addr} (u : Obs H l) (f : Fp fp H H1) (n : ∀ p ∈ l, p.1 ∉ fp) : Obs H1 l := fun p hp => f _ _ (u p hp) (n p hp)
theorem Obs.fp0 {H H1 : Hp} {l : List (Addr × HO)} (u : Obs H l) (f : Fp [] H H1) : Obs H1 l := u.fp f fun _ _ => by simp
theorem Obs.add {H : Hp} {l : List (Addr × HO)} {t : Addr} {o : HO} (u : Obs H l) (h : H t = none) : Obs (upd H t o) ((t, o) :: l) := fun p hp => by
  rcases List.mem_cons.mp hp with rfl | hp
  · exact upd_same
  · exact Fp.new (fp := []) h _ _ (u p hp) (by simp)
theorem Obs.cons {H : Hp} {l : List (Addr × HO)} {t : Addr} {o : HO} (u : Obs H l) (h : H t = some o) : Obs H ((t, o) :: l) := fun p hp => by
  rcases List.mem_cons.mp hp with rfl | hp
  · exact h
  · exact u p hp
/-- xs[i], read for an augmented assignment -/
theorem get_list {X : Cx} : PGet X (rIxL X.K) := by
  intro pins s σ H o i ov iv Q I rx ry h
  obtain ⟨p, xs, n, z, rfl, rfl, hq, he, q⟩ := h
  cases rx
  obtain ⟨t, rfl⟩ := ry
  obtain ⟨its, r, pl, hz⟩ := I.list hq
  obtain ⟨j, h1, h2, h3, h4, h5⟩ := atI_get he
  obtain ⟨w, ew, rw'⟩ := r.get h2
  have hl := r.length
  have hn := line63
  have fin : EP X pins σ Q w s := ⟨z, H, I, rw', q⟩
  by_cases h0 : 0 ≤ n
  · have hj : n.toNat = j := by
      rw [seqIndex_of h0 h5] at h1
      exact Option.some.inj h1
    refine L2.thn (wpAny_getItem_list (x := w) (Q := fun r s' => r = w ∧ EP X pins σ Q r s') pl.isList h0 (by omega) (by rw [hj]; simpa using ew) ⟨rfl, fin⟩) fun _ _ e => e.2
  · have hj : (n + (its.toArray.size : Int)).toNat = j := by
      rw [seqIndex_neg (by omega) h4] at h1
      rw [List.size_toArray, ← hl]
      exact Option.some.inj h1
    refine L2.thn (wpAny_getItem_list_neg (x := w) (Q := fun r s' => r = w ∧ EP X pins σ Q r s') pl.isList (by omega) (by rw [List.size_toArray] <;> omega) (by omega) (by rw [hj]; simpa using ew) ⟨rfl, fin⟩) fun _ _ e => e.2
theorem s_augS {D : Ends} {σ : L2.St} {H : Hp} {to ti te : TE} {tget : V → V → Hp → VK → Prop} {tip : TIp} {tset : TSet} (h : to σ H fun o H1 => ti σ H1 fun i H2 => tget o i H2 fun x H3 => te σ H3 fun y H4 => tip x y H4 fun z H5 => tset o i z H5 fun H6 => D.nx σ H6) : tAugS to ti te tget tip tset D σ H := h
theorem ip_I {f : Int → Int → Int} {m n : Int} {H : Hp} {Q : VK} (q : Q (.int (f m n)) H) : ipI f (.int m) (.int n) H Q := ⟨m, n, rfl, rfl, q⟩
def kAug (i : Nat) (te : TE) (tip : TIp) (σ : L2.St) (x : V) (H : Hp) (N : L2.St → Hp → Prop) : Prop := te σ H fun y H1 => tip x y H1 fun z H2 => N (σ.set i (some z)) H2
theorem s_augV {D : Ends} {σ : L2.St} {H : Hp} {te : TE} {tip : TIp} {i : Nat} {x : V} (hx : σ[i]? = some (some x)) (h : te σ H fun y H1 => tip x y H1 fun z H2 => D.nx (σ.set i (some z)) H2) : tAug i te tip D σ H := ⟨x, hx, h⟩

/-! ### comprehensions over enumerate(list), over a list that is made -/
section
variable {K : PySem.W.Frag} {σ : L2.St} {H : Hp} {Q : VK} {g : TG} {tt : TT} {te ta : TE} {vs : List Nat} {tl : TA} {a : Addr} {xs : List V}
def lcT (J : It) (g : TG) (tt : TT) (te : TE) (vs : List Nat) (σ : L2.St) (Q : VK) (H1 : Hp) : Prop := ∀ E, H1 E = none → ∃ W : Nat → Nat → Hp → Prop, (∃ m, W 0 m (upd H1 E (.lst []))) ∧ ∀ i m H, W i m H →
    (J.stop i H ∧ Q (.ref E) H) ∨ (J.go i H ∧ ∃ Nx : Hp → Prop, (∀ H', Nx H' → ∃ m', m' < m ∧ W (i + 1) m' H') ∧ ∀ x H', J.yld i H x H' → g x (wipe σ vs) H' fun σ2 H2 => wipe σ2 vs = wipe σ vs ∧ tt σ2 H2 fun b H3 =>
      if b = true then te σ2 H3 fun y H4 => ∃ acc, H4 E = some (.lst acc) ∧ acc.length < sizeLine ∧ Nx (upd H4 E (.lst (acc ++ [y]))) else Nx H3)
def kLcE (K : PySem.W.Frag) (g : TG) (tt : TT) (te : TE) (vs : List Nat) (σ : L2.St) (Q : VK) (ys : List V) (H1 : Hp) : Prop := ∃ a xs, ys = [.ref a] ∧ SqL K H1 a xs ∧ lcT (Ite K a) g tt te vs σ Q H1
theorem e_lcE (h : tl σ H fun ys H1 => kLcE K g tt te vs σ Q ys H1) : tLc (iEnum K tl) g tt te vs σ H Q := h
theorem k_lcE (F : Nat → Option V) (hS : SqL K H a xs) (hz : xs.length < 100000)
    (hs : ∀ (E T : Addr) (i : Nat) (x : V) (H' : Hp) (R : VK) (N : Hp → Prop), H E = none → xs[i]? = some x → H' T = some (.tup [.int (i : Nat), x]) → H' E = some (.lst ((List.range i).filterMap F)) → Fp [] H H' → (∀ y H4, F i = some y → Fp [] H' H4 → R y H4) → (F i = none → ∀ H4, Fp [] H' H4 → N H4) →
      g (.ref T) (wipe σ vs) H' fun σ2 H2 => wipe σ2 vs = wipe σ vs ∧ tt σ2 H2 fun k H3 => if k = true then te σ2 H3 R else N H3)
    (q : ∀ E H', H E = none → H' E = some (.lst ((List.range xs.length).filterMap F)) → Fp [] H H' → Q (.ref E) H') : kLcE K g tt te vs σ Q [.ref a] H := by
  refine ⟨a, xs, rfl, hS, fun E hE => ?_⟩
  refine ⟨fun i m H' => m = xs.length - i ∧ i ≤ xs.length ∧ H' E = some (.lst ((List.range i).filterMap F)) ∧ Fp [] H H', ⟨_, rfl, Nat.zero_le _, upd_same, Fp.new hE⟩, ?_⟩
  rintro i m H' ⟨rfl, hi, e1, e2⟩
  have hq : SqL K H' a xs := e2.seq (by simp) hS
  by_cases hlt : i < xs.length
  · refine .inr ⟨⟨xs, xs[i], hq, List.getElem?_eq_getElem hlt⟩, fun H4 => H4 E = some (.lst ((List.range (i + 1)).filterMap F)) ∧ Fp [] H H4, fun H4 z => ⟨_, by omega, rfl, by omega, z.1, z.2⟩, ?_⟩
    rintro v H2 ⟨T, x, rfl, hT, rfl, hx⟩
    have hx2 := hx xs hq
    have fT : Fp [] H' (upd H' T (.tup [.int (i : Nat), x])) := Fp.new hT
    have f2 := e2.trans fT
    have E2 := fT _ _ e1 (by simp)
    exact hs E T i x _ (fun y H4 => ∃ acc, H4 E = some (.lst acc) ∧ acc.length < sizeLine ∧ (upd H4 E (.lst (acc ++ [y]))) E = some (.lst ((List.range (i + 1)).filterMap F)) ∧ Fp [] H (upd H4 E (.lst (acc ++ [y])))) (fun H4 => H4 E = some (.lst ((List.range (i + 1)).filterMap F)) ∧ Fp [] H H4) hE hx2 upd_same E2 f2
      (fun y H4 ey f4 => ⟨_, f4 _ _ E2 (by simp), szl (Nat.lt_of_le_of_lt (List.length_filterMap_le _ _) (by rw [List.length_range]; omega)), by rw [upd_same, fm_range, ey]; rfl, Fp.drop (fp := [E]) (((f2.trans f4).mono (by simp)).trans (Fp.at_ (by simp))) fun z hz => by rcases List.mem_singleton.mp hz with rfl; exact .inr hE⟩)
      (fun ey H4 f4 => ⟨by rw [fm_range, ey]; simpa using f4 _ _ E2 (by simp), f2.trans f4⟩)
  · have hi2 : i = xs.length := by omega
    subst hi2
    exact .inl ⟨⟨xs, hq, Nat.le_refl _⟩, q E H' hE e1 e2⟩
def kLcL (K : PySem.W.Frag) (g : TG) (tt : TT) (te : TE) (vs : List Nat) (σ : L2.St) (Q : VK) (x : V) (H : Hp) : Prop := (iList K fun _ _ R => R x H) σ H fun J H1 => lcT J g tt te vs σ Q H1
theorem e_lcL (h : ta σ H fun x H1 => kLcL K g tt te vs σ Q x H1) : tLc (iList K ta) g tt te vs σ H Q := h
theorem k_lcL (f : V → Option V) (hS : SqL K H a xs) (hz : xs.length < 100000)
    (hs : ∀ (E : Addr) (i : Nat) (x : V) (H' : Hp) (R : VK) (N : Hp → Prop), H E = none → xs[i]? = some x → H' E = some (.lst ((xs.take i).filterMap f)) → Fp [] H H' → (∀ y H4, f x = some y → Fp [] H' H4 → R y H4) → (f x = none → ∀ H4, Fp [] H' H4 → N H4) →
      g x (wipe σ vs) H' fun σ2 H2 => wipe σ2 vs = wipe σ vs ∧ tt σ2 H2 fun k H3 => if k = true then te σ2 H3 R else N H3)
    (q : ∀ E H', H E = none → H' E = some (.lst (xs.filterMap f)) → Fp [] H H' → Q (.ref E) H') : kLcL K g tt te vs σ Q (.ref a) H := by
  refine ⟨a, rfl, ⟨_, hS⟩, fun E hE => ?_⟩
  refine lc_list (K := K) (a := a) (xs := xs) (fun i H' => H' E = some (.lst ((xs.take i).filterMap f)) ∧ Fp [] H H') ⟨by rw [List.take_zero]; exact upd_same, Fp.new hE⟩ (fun i H' hi e => ?_) (fun i x H' hx e => ?_) fun H' e => ?_
  · exact e.2.seq (by simp) hS
  · have hi : i < xs.length := (List.getElem?_eq_some_iff.mp hx).1
    exact hs E i x H' (fun y H4 => ∃ acc, H4 E = some (.lst acc) ∧ acc.length < sizeLine ∧ (upd H4 E (.lst (acc ++ [y]))) E = some (.lst ((xs.take (i + 1)).filterMap f)) ∧ Fp [] H (upd H4 E (.lst (acc ++ [y])))) (fun H4 => H4 E = some (.lst ((xs.take (i + 1)).filterMap f)) ∧ Fp [] H H4) hE hx e.1 e.2
      (fun y H4 ey f4 => ⟨_, f4 _ _ e.1 (by simp), szl (Nat.lt_of_le_of_lt (List.length_filterMap_le _ _) (by rw [List.length_take]; omega)), by rw [upd_same, fm_snoc hx, ey]; rfl, Fp.drop (fp := [E]) (((e.2.trans f4).mono (by simp)).trans (Fp.at_ (by simp))) fun z hz => by rcases List.mem_singleton.mp hz with rfl; exact .inr hE⟩)
      (fun ey H4 f4 => ⟨by rw [fm_snoc hx, ey]; simpa using f4 _ _ e.1 (by simp), e.2.trans f4⟩)
  · rw [List.take_length] at e
    exact q E H' hE e.1 e.2
end
theorem cut_take {xs : List V} {n : Nat} : cutV xs none (some (n : Int)) = xs.take n := by
  unfold cutV
  rw [HT.sIx_nat, HT.sIx_none, List.drop_zero, Nat.sub_zero, List.take_eq_take_iff]
  omega
theorem cut_drop {xs : List V} {n : Nat} : cutV xs (some (n : Int)) none = xs.drop n := by
  unfold cutV
  rw [HT.sIx_nat, HT.sIx_none]
  by_cases h : n ≤ xs.length
  · rw [Nat.min_eq_left h, List.take_of_length_le (by rw [List.length_drop]; exact Nat.le_refl _)]
  · rw [Nat.min_eq_right (by omega), List.drop_of_length_le (Nat.le_refl _), List.drop_of_length_le (by omega), List.take_nil]
theorem c_ext {l b : Addr} {xs zs : List V} {H : Hp} {Q : VK} (h : H l = some (.lst xs)) (h' : H b = some (.lst zs)) (z : xs.length + zs.length ≤ 100000) (q : Q .non (upd H l (.lst (xs ++ zs)))) : rExtend (.ref l) [.ref b] H Q := ⟨l, b, xs, zs, rfl, rfl, h, h', sz z, q⟩
/-- [e for k in range(n)], e with its own doing -/
theorem k_lcS {σ : L2.St} {H : Hp} {Q : VK} {g : TG} {te : TE} {vs : List Nat} {n : Int} (J : Addr → Nat → List V → Hp → Prop) (h1 : 0 ≤ n) (h2 : n < 100000) (h0 : ∀ E, H E = none → J E 0 [] (upd H E (.lst [])))
    (hs : ∀ (E : Addr) (i : Nat) (acc : List V) (H' : Hp) (R : VK), H E = none → (i : Int) < n → acc.length = i → H' E = some (.lst acc) → J E i acc H' → (∀ y H4, H4 E = some (.lst acc) → J E (i + 1) (acc ++ [y]) (upd H4 E (.lst (acc ++ [y]))) → R y H4) →
      g (.int (i : Nat)) (wipe σ vs) H' fun σ2 H2 => wipe σ2 vs = wipe σ vs ∧ te σ2 H2 R)
    (q : ∀ E acc H', H E = none → acc.length = n.toNat → H' E = some (.lst acc) → J E n.toNat acc H' → Q (.ref E) H') : kLcR g te vs σ Q (.int n) H := by
  refine ⟨n, rfl, by omega, by omega, fun E hE => ?_⟩
  refine lc_range (lo := 0) (n := n.toNat) (fun i H' => ∃ acc, acc.length = i ∧ H' E = some (.lst acc) ∧ J E i acc H') ⟨[], rfl, upd_same, h0 E hE⟩ (fun i H' hi ⟨acc, ha, e, j⟩ => ?_) fun H' ⟨acc, ha, e, j⟩ => q E acc H' hE ha e j
  have e0 : (0 : Int) + (i : Int) = (i : Int) := Int.zero_add _
  rw [e0]
  exact hs E i acc H' (fun y H4 => ∃ acc, H4 E = some (.lst acc) ∧ acc.length < sizeLine ∧ ∃ acc2, acc2.length = i + 1 ∧ (upd H4 E (.lst (acc ++ [y]))) E = some (.lst acc2) ∧ J E (i + 1) acc2 (upd H4 E (.lst (acc ++ [y])))) hE (by omega) ha e j
    fun y H4 e4 j4 => ⟨acc, e4, szl (by omega), _, by rw [List.length_append, ha]; rfl, upd_same, j4⟩
theorem ints_of : ∀ {acc : List V}, (∀ y ∈ acc, ∃ z, y = V.int z) → ∃ ys : List Int, acc = ys.map V.int
  | [], _ => ⟨[], rfl⟩
  | y :: r, h => by
    obtain ⟨z, rfl⟩ := h y List.mem_cons_self
    obtain ⟨ys, rfl⟩ := ints_of fun x hx => h x (List.mem_cons_of_mem _ hx)
    exact ⟨z :: ys, rfl⟩
/-! ### what stands -/
def Inn (H : Hp) (L : List Addr) : Prop := ∀ y ∈ L, ∃ o, H y = some o
theorem Inn.nil {H : Hp} : Inn H [] := fun _ h => by cases h
theorem Inn.cons {H : Hp} {L : List Addr} {x : Addr} {o : HO} (h : H x = some o) (I : Inn H L) : Inn H (x :: L) := fun y hy => by
  rcases List.mem_cons.mp hy with rfl | hy
  · exact ⟨_, h⟩
  · exact I y hy
theorem Inn.app {H : Hp} {L M : List Addr} (I : Inn H L) (J : Inn H M) : Inn H (L ++ M) := fun y hy => (List.mem_append.mp hy).elim (I y) (J y)
theorem Inn.fresh {H : Hp} {L : List Addr} {x : Addr} (I : Inn H L) (h : H x = none) : x ∉ L := fun z => by
  obtain ⟨o, e⟩ := I x z
  rw [h] at e
  cases e
theorem Inn.ne {H : Hp} {L : List Addr} {x y : Addr} (I : Inn H L) (hy : y ∈ L) (h : H x = none) : x ≠ y := fun z => I.fresh h (z ▸ hy)
theorem Inn.fp {H H1 : Hp} {L : List Addr} (I : Inn H L) (f : Fp [] H H1) : Inn H1 L := fun y hy => by
  obtain ⟨o, e⟩ := I y hy
  exact ⟨o, f _ _ e (by simp)⟩
theorem Inn.mono {H : Hp} {L M : List Addr} (I : Inn H L) (h : ∀ x ∈ M, x ∈ L) : Inn H M := fun y hy => I y (h y hy)
theorem nd_new {L : List Addr} {x : Addr} (n : L.Nodup) (h : x ∉ L) : (x :: L).Nodup := List.nodup_cons.mpr ⟨h, n⟩
theorem nin_c {L : List Addr} {x y : Addr} (n : x ≠ y) (h : x ∉ L) : x ∉ y :: L := fun z => (List.mem_cons.mp z).elim n h
def kTru (K : PySem.W.Frag) (x : V) (H : Hp) (QT : Bool → Hp → Prop) : Prop := ∃ k, TruV K x H k ∧ QT k H
def tTr (K : PySem.W.Frag) (ta : TE) : TT := fun σ H Q => ta σ H fun x H' => kTru K x H' Q
theorem pt_tr {X : Cx} {a : Expr} {ta : TE} (ha : PE X a ta) (he : ∀ whole, isTrue a X.env whole = (do let v ← whole; standAt a.pos; holding [v] (truthy v))) : PT X a (tTr X.K ta) := pt_truth ha he
theorem t_tru {K : PySem.W.Frag} {σ : L2.St} {te : TE} {H : Hp} {QT : Bool → Hp → Prop} (h : te σ H fun x H1 => kTru K x H1 QT) : tTr K te σ H QT := h
theorem k_truL {K : PySem.W.Frag} {H : Hp} {QT : Bool → Hp → Prop} {p : Addr} {xs : List V} (h : SqL K H p xs) (q : QT (!xs.isEmpty) H) : kTru K (.ref p) H QT := ⟨_, Or.inl ⟨xs, h, rfl⟩, q⟩
/-- [e for k in range(n) if t], t and e with their own doing -/
theorem k_lcSF {σ : L2.St} {H : Hp} {Q : VK} {g : TG} {tt : TT} {te : TE} {vs : List Nat} {n : Int} (J : Addr → Nat → List V → Hp → Prop) (h1 : 0 ≤ n) (h2 : n < 100000) (h0 : ∀ E, H E = none → J E 0 [] (upd H E (.lst [])))
    (hs : ∀ (E : Addr) (i : Nat) (acc : List V) (H' : Hp) (R : VK) (N : Hp → Prop), H E = none → (i : Int) < n → acc.length ≤ i → H' E = some (.lst acc) → J E i acc H' → (∀ y H4, H4 E = some (.lst acc) → J E (i + 1) (acc ++ [y]) (upd H4 E (.lst (acc ++ [y]))) → R y H4) → (∀ H4, H4 E = some (.lst acc) → J E (i + 1) acc H4 → N H4) →
      g (.int (i : Nat)) (wipe σ vs) H' fun σ2 H2 => wipe σ2 vs = wipe σ vs ∧ tt σ2 H2 fun k H3 => if k = true then te σ2 H3 R else N H3)
    (q : ∀ E acc H', H E = none → acc.length ≤ n.toNat → H' E = some (.lst acc) → J E n.toNat acc H' → Q (.ref E) H') : kLcF g tt te vs σ Q (.int n) H := by
  refine ⟨n, rfl, by omega, by omega, fun E hE => ?_⟩
  refine lc_range (lo := 0) (n := n.toNat) (fun i H' => ∃ acc, acc.length ≤ i ∧ H' E = some (.lst acc) ∧ J E i acc H') ⟨[], Nat.le_refl _, upd_same, h0 E hE⟩ (fun i H' hi ⟨acc, ha, e, j⟩ => ?_) fun H' ⟨acc, ha, e, j⟩ => q E acc H' hE ha e j
  have e0 : (0 : Int) + (i : Int) = (i : Int) := Int.zero_add _
  rw [e0]
  exact hs E i acc H' (fun y H4 => ∃ acc, H4 E = some (.lst acc) ∧ acc.length < sizeLine ∧ ∃ acc2, acc2.length ≤ i + 1 ∧ (upd H4 E (.lst (acc ++ [y]))) E = some (.lst acc2) ∧ J E (i + 1) acc2 (upd H4 E (.lst (acc ++ [y])))) (fun H4 => ∃ acc2, acc2.length ≤ i + 1 ∧ H4 E = some (.lst acc2) ∧ J E (i + 1) acc2 H4) hE (by omega) ha e j
    (fun y H4 e4 j4 => ⟨acc, e4, szl (by omega), _, by rw [List.length_append]; simp; omega, upd_same, j4⟩) fun H4 e4 j4 => ⟨acc, by omega, e4, j4⟩
/-- for x in a list that an expression hands back -/
def kForL (K : PySem.W.Frag) (g : TG) (tb : TS) (D : Ends) (σ : L2.St) (x : V) (H1 : Hp) : Prop := (iList K fun _ _ R => R x H1) σ H1 fun J H1 => ∃ W : Nat → Nat → L2.St → Hp → Prop, (∃ m, W 0 m σ H1) ∧ ∀ i m σ H, W i m σ H →
  (J.stop i H ∧ D.nx σ H) ∨ (J.go i H ∧ ∃ N : L2.St → Hp → Prop, (∀ σ' H', N σ' H' → ∃ m', m' < m ∧ W (i + 1) m' σ' H') ∧ ∀ x H', J.yld i H x H' → g x σ H' fun σ2 H2 => tb { D with nx := N, ct := N, bk := D.nx } σ2 H2)
theorem f_lst {K : PySem.W.Frag} {g : TG} {tb : TS} {D : Ends} {σ : L2.St} {H : Hp} {te : TE} (h : te σ H fun x H1 => kForL K g tb D σ x H1) : tFor (iList K te) g tb D σ H := h
theorem k_forL {K : PySem.W.Frag} {g : TG} {tb : TS} {D : Ends} {σ : L2.St} {H : Hp} {p : Addr} {xs : List V} (Pv : Nat → L2.St → Hp → Prop) (hS : SqL K H p xs) (h0 : Pv 0 σ H) (hl : ∀ i σ' H', i ≤ xs.length → Pv i σ' H' → SqL K H' p xs)
    (hs : ∀ i x σ' H', xs[i]? = some x → Pv i σ' H' → g x σ' H' fun σ2 H2 => tb { D with nx := Pv (i + 1), ct := Pv (i + 1), bk := D.nx } σ2 H2) (hd : ∀ σ' H', Pv xs.length σ' H' → D.nx σ' H') : kForL K g tb D σ (.ref p) H :=
  ⟨p, rfl, ⟨xs, hS⟩, for_list Pv h0 hl hs hd⟩
theorem t_yes {σ : L2.St} {H : Hp} {QT : Bool → Hp → Prop} (h : QT true H) : tYes σ H QT := h
end Rd
set_option Elab.async false
set_option maxRecDepth 100000
set_option maxHeartbeats 100000000
set_option linter.all false
namespace My
open PySem L2 Sx Rd
def top (i : Nat) : Stmt := PySem.Challenge.pw_tickrings_k04_no_owner_without_a_buffer.main.body.getD i (.Pass ⟨0, 0, 0, 0⟩)
abbrev s_wall : Stmt := top 0
abbrev s_RingError_init : Stmt := inClass (top 3) 0
abbrev s_PoolError_init : Stmt := inClass (top 4) 0
abbrev s_Ring_init : Stmt := inClass (top 6) 0
abbrev s_Ring_held : Stmt := inClass (top 6) 1
abbrev s_Ring_is_full : Stmt := inClass (top 6) 2
abbrev s_Ring_put : Stmt := inClass (top 6) 3
abbrev s_Ring_first : Stmt := inClass (top 6) 4
abbrev s_Ring_take : Stmt := inClass (top 6) 5
abbrev s_Ring_listed : Stmt := inClass (top 6) 6
abbrev s_Ring_next : Stmt := inClass (top 6) 7
abbrev s_Pool_init : Stmt := inClass (top 8) 0
abbrev s_Pool_free : Stmt := inClass (top 8) 1
abbrev s_Pool_owner : Stmt := inClass (top 8) 2
abbrev s_Pool_held : Stmt := inClass (top 8) 3
abbrev s_Pool_acquire : Stmt := inClass (top 8) 4
abbrev s_Pool_release : Stmt := inClass (top 8) 5
abbrev s_Pool_may_acquire : Stmt := inClass (top 8) 6
abbrev s_Pool_exists : Stmt := inClass (top 8) 7
abbrev s_law_state : Stmt := top 10
abbrev s_law_draw : Stmt := top 11
abbrev s_law_poor : Stmt := top 12
abbrev s_law : Stmt := top 13
theorem sc_wall : FnScope ["k"] ["k"] (defScope s_wall) := ⟨rfl, rfl, rfl, by decide +kernel, rfl, by decide +kernel, by decide +kernel⟩
theorem sc_RingError_init : NdefX.NScope ["self", "held", "__class__"] ["self", "held"] ["__class__"] (defScope s_RingError_init) := NdefX.nscope_by (by decide +kernel)
theorem sc_PoolError_init : NdefX.NScope ["self", "buffer", "__class__"] ["self", "buffer"] ["__class__"] (defScope s_PoolError_init) := NdefX.nscope_by (by decide +kernel)
theorem sc_Ring_init : FnScope ["self", "cells"] ["self", "cells"] (defScope s_Ring_init) := ⟨rfl, rfl, rfl, by decide +kernel, rfl, by decide +kernel, by decide +kernel⟩
theorem sc_Ring_held : FnScope ["self", "many"] ["self"] (defScope s_Ring_held) := ⟨rfl, rfl, rfl, by decide +kernel, rfl, by decide +kernel, by decide +kernel⟩
theorem sc_Ring_is_full : FnScope ["self"] ["self"] (defScope s_Ring_is_full) := ⟨rfl, rfl, rfl, by decide +kernel, rfl, by decide +kernel, by decide +kernel⟩
theorem sc_Ring_put : FnScope ["self", "value"] ["self", "value"] (defScope s_Ring_put) := ⟨rfl, rfl, rfl, by decide +kernel, rfl, by decide +kernel, by decide +kernel⟩
theorem sc_Ring_first : FnScope ["self"] ["self"] (defScope s_Ring_first) := ⟨rfl, rfl, rfl, by decide +kernel, rfl, by decide +kernel, by decide +kernel⟩
theorem sc_Ring_take : FnScope ["self", "value"] ["self"] (defScope s_Ring_take) := ⟨rfl, rfl, rfl, by decide +kernel, rfl, by decide +kernel, by decide +kernel⟩
theorem sc_Ring_listed : FnScope ["self"] ["self"] (defScope s_Ring_listed) := ⟨rfl, rfl, rfl, by decide +kernel, rfl, by decide +kernel, by decide +kernel⟩
theorem sc_Ring_next : FnScope ["self", "counter"] ["self", "counter"] (defScope s_Ring_next) := ⟨rfl, rfl, rfl, by decide +kernel, rfl, by decide +kernel, by decide +kernel⟩
theorem sc_Pool_init : FnScope ["self", "many", "buffer"] ["self", "many"] (defScope s_Pool_init) := ⟨rfl, rfl, rfl, by decide +kernel, rfl, by decide +kernel, by decide +kernel⟩
theorem sc_Pool_free : FnScope ["self"] ["self"] (defScope s_Pool_free) := ⟨rfl, rfl, rfl, by decide +kernel, rfl, by decide +kernel, by decide +kernel⟩
theorem sc_Pool_owner : FnScope ["self", "buffer"] ["self", "buffer"] (defScope s_Pool_owner) := ⟨rfl, rfl, rfl, by decide +kernel, rfl, by decide +kernel, by decide +kernel⟩
theorem sc_Pool_held : FnScope ["self", "owner", "buffer", "holder"] ["self", "owner"] (defScope s_Pool_held) := ⟨rfl, rfl, rfl, by decide +kernel, rfl, by decide +kernel, by decide +kernel⟩
theorem sc_Pool_acquire : FnScope ["self", "owner", "buffer"] ["self", "owner"] (defScope s_Pool_acquire) := ⟨rfl, rfl, rfl, by decide +kernel, rfl, by decide +kernel, by decide +kernel⟩
theorem sc_Pool_release : FnScope ["self", "buffer"] ["self", "buffer"] (defScope s_Pool_release) := ⟨rfl, rfl, rfl, by decide +kernel, rfl, by decide +kernel, by decide +kernel⟩
theorem sc_Pool_may_acquire : FnScope ["self", "owner", "owners", "without", "other"] ["self", "owner", "owners"] (defScope s_Pool_may_acquire) := ⟨rfl, rfl, rfl, by decide +kernel, rfl, by decide +kernel, by decide +kernel⟩
theorem sc_Pool_exists : FnScope ["self", "buffer"] ["self", "buffer"] (defScope s_Pool_exists) := ⟨rfl, rfl, rfl, by decide +kernel, rfl, by decide +kernel, by decide +kernel⟩
theorem sc_law_state : FnScope ["script", "seed", "cell"] ["script"] (defScope s_law_state) := ⟨rfl, rfl, rfl, by decide +kernel, rfl, by decide +kernel, by decide +kernel⟩
theorem sc_law_draw : FnScope ["state", "many", "cells", "value", "mixed"] ["state", "many"] (defScope s_law_draw) := ⟨rfl, rfl, rfl, by decide +kernel, rfl, by decide +kernel, by decide +kernel⟩
theorem sc_law_poor : FnScope ["pool", "owners", "owner"] ["pool", "owners"] (defScope s_law_poor) := ⟨rfl, rfl, rfl, by decide +kernel, rfl, by decide +kernel, by decide +kernel⟩
theorem sc_law : FnScope ["script", "state", "owners", "owner", "many", "pool", "greedy", "k", "before", "may", "buffer", "held", "other"] ["script"] (defScope s_law) := ⟨rfl, rfl, rfl, by decide +kernel, rfl, by decide +kernel, by decide +kernel⟩
/-- where things stand -/
structure Ads where
  (C_TickringsError C_RingError C_PoolError C_Ring C_Pool : Addr)
  (f_wall f_RingError_init f_PoolError_init f_Ring_init f_Ring_held f_Ring_is_full f_Ring_put f_Ring_first f_Ring_take f_Ring_listed f_Ring_next f_Pool_init f_Pool_free f_Pool_owner f_Pool_held f_Pool_acquire f_Pool_release f_Pool_may_acquire f_Pool_exists f_law_state f_law_draw f_law_poor f_law : Addr)
  (fd_wall fd_RingError_init fd_PoolError_init fd_Ring_init fd_Ring_held fd_Ring_is_full fd_Ring_put fd_Ring_first fd_Ring_take fd_Ring_listed fd_Ring_next fd_Pool_init fd_Pool_free fd_Pool_owner fd_Pool_held fd_Pool_acquire fd_Pool_release fd_Pool_may_acquire fd_Pool_exists fd_law_state fd_law_draw fd_law_poor fd_law : FuncData)
def F_Ring (x0 x1 x2 : V) : List (Str × V) := [("_cells", x0), ("written", x1), ("taken", x2)]
section
variable {x0 x1 x2 v : V}
theorem F_Ring_cells_l : (F_Ring x0 x1 x2).lookup ("_cells" : Str) = some x0 := by unfold F_Ring; rw [look_hit]
theorem F_Ring_cells_p : putF "_cells" v (F_Ring x0 x1 x2) = F_Ring v x1 x2 := by unfold F_Ring; rw [putF_hit]; try rfl
theorem F_Ring_written_l : (F_Ring x0 x1 x2).lookup ("written" : Str) = some x1 := by unfold F_Ring; rw [look_miss (by decide +kernel), look_hit]
theorem F_Ring_written_p : putF "written" v (F_Ring x0 x1 x2) = F_Ring x0 v x2 := by unfold F_Ring; rw [putF_miss (by decide +kernel), putF_hit]; try rfl
theorem F_Ring_taken_l : (F_Ring x0 x1 x2).lookup ("taken" : Str) = some x2 := by unfold F_Ring; rw [look_miss (by decide +kernel), look_miss (by decide +kernel), look_hit]
theorem F_Ring_taken_p : putF "taken" v (F_Ring x0 x1 x2) = F_Ring x0 x1 v := by unfold F_Ring; rw [putF_miss (by decide +kernel), putF_miss (by decide +kernel), putF_hit]; try rfl
theorem F_Ring_m_held : (F_Ring x0 x1 x2).lookup ("held" : Str) = none := by unfold F_Ring; rw [look_miss (by decide +kernel), look_miss (by decide +kernel), look_miss (by decide +kernel)]; try rfl
theorem F_Ring_m_is_full : (F_Ring x0 x1 x2).lookup ("is_full" : Str) = none := by unfold F_Ring; rw [look_miss (by decide +kernel), look_miss (by decide +kernel), look_miss (by decide +kernel)]; try rfl
theorem F_Ring_m_put : (F_Ring x0 x1 x2).lookup ("put" : Str) = none := by unfold F_Ring; rw [look_miss (by decide +kernel), look_miss (by decide +kernel), look_miss (by decide +kernel)]; try rfl
theorem F_Ring_m_first : (F_Ring x0 x1 x2).lookup ("first" : Str) = none := by unfold F_Ring; rw [look_miss (by decide +kernel), look_miss (by decide +kernel), look_miss (by decide +kernel)]; try rfl
theorem F_Ring_m_take : (F_Ring x0 x1 x2).lookup ("take" : Str) = none := by unfold F_Ring; rw [look_miss (by decide +kernel), look_miss (by decide +kernel), look_miss (by decide +kernel)]; try rfl
theorem F_Ring_m_listed : (F_Ring x0 x1 x2).lookup ("listed" : Str) = none := by unfold F_Ring; rw [look_miss (by decide +kernel), look_miss (by decide +kernel), look_miss (by decide +kernel)]; try rfl
theorem F_Ring_m_next : (F_Ring x0 x1 x2).lookup ("_next" : Str) = none := by unfold F_Ring; rw [look_miss (by decide +kernel), look_miss (by decide +kernel), look_miss (by decide +kernel)]; try rfl
theorem F_Ring_len : (F_Ring x0 x1 x2).length < 1000 := by show 3 < 1000; decide
theorem F_Ring_i1 : putF "written" x1 ([(("_cells" : Str), x0)] : List (Str × V)) = [(("_cells" : Str), x0), (("written" : Str), x1)] := by rw [putF_miss (by decide +kernel)]; rfl
theorem F_Ring_i2 : putF "taken" x2 ([(("_cells" : Str), x0), (("written" : Str), x1)] : List (Str × V)) = [(("_cells" : Str), x0), (("written" : Str), x1), (("taken" : Str), x2)] := by rw [putF_miss (by decide +kernel), putF_miss (by decide +kernel)]; rfl
theorem F_Ring_init : putF "taken" x2 (putF "written" x1 (putF "_cells" x0 [])) = F_Ring x0 x1 x2 := by unfold F_Ring; rw [putF_nil, F_Ring_i1, F_Ring_i2]
end
def F_Pool (x0 x1 : V) : List (Str × V) := [("_owners", x0), ("_free", x1)]
section
variable {x0 x1 v : V}
theorem F_Pool_owners_l : (F_Pool x0 x1).lookup ("_owners" : Str) = some x0 := by unfold F_Pool; rw [look_hit]
theorem F_Pool_owners_p : putF "_owners" v (F_Pool x0 x1) = F_Pool v x1 := by unfold F_Pool; rw [putF_hit]; try rfl
theorem F_Pool_free_l : (F_Pool x0 x1).lookup ("_free" : Str) = some x1 := by unfold F_Pool; rw [look_miss (by decide +kernel), look_hit]
theorem F_Pool_free_p : putF "_free" v (F_Pool x0 x1) = F_Pool x0 v := by unfold F_Pool; rw [putF_miss (by decide +kernel), putF_hit]; try rfl
theorem F_Pool_m_free : (F_Pool x0 x1).lookup ("free" : Str) = none := by unfold F_Pool; rw [look_miss (by decide +kernel), look_miss (by decide +kernel)]; try rfl
theorem F_Pool_m_owner : (F_Pool x0 x1).lookup ("owner" : Str) = none := by unfold F_Pool; rw [look_miss (by decide +kernel), look_miss (by decide +kernel)]; try rfl
theorem F_Pool_m_held : (F_Pool x0 x1).lookup ("held" : Str) = none := by unfold F_Pool; rw [look_miss (by decide +kernel), look_miss (by decide +kernel)]; try rfl
theorem F_Pool_m_acquire : (F_Pool x0 x1).lookup ("acquire" : Str) = none := by unfold F_Pool; rw [look_miss (by decide +kernel), look_miss (by decide +kernel)]; try rfl
theorem F_Pool_m_release : (F_Pool x0 x1).lookup ("release" : Str) = none := by unfold F_Pool; rw [look_miss (by decide +kernel), look_miss (by decide +kernel)]; try rfl
theorem F_Pool_m_may_acquire : (F_Pool x0 x1).lookup ("may_acquire" : Str) = none := by unfold F_Pool; rw [look_miss (by decide +kernel), look_miss (by decide +kernel)]; try rfl
theorem F_Pool_m_exists : (F_Pool x0 x1).lookup ("_exists" : Str) = none := by unfold F_Pool; rw [look_miss (by decide +kernel), look_miss (by decide +kernel)]; try rfl
theorem F_Pool_len : (F_Pool x0 x1).length < 1000 := by show 2 < 1000; decide
theorem F_Pool_i1 : putF "_free" x1 ([(("_owners" : Str), x0)] : List (Str × V)) = [(("_owners" : Str), x0), (("_free" : Str), x1)] := by rw [putF_miss (by decide +kernel)]; rfl
theorem F_Pool_init : putF "_free" x1 (putF "_owners" x0 []) = F_Pool x0 x1 := by unfold F_Pool; rw [putF_nil, F_Pool_i1]
end
def sp_law0 (K : PySem.W.Frag) : Sp := A1 fun v H Q _ => ∃ (b : Addr) (ns : List Int), v = .ref b ∧ SqL K H b (ns.map V.int) ∧ ns.length ≤ 63 ∧ ∀ H1, Q (.bl true) H1
abbrev sp_law (K : PySem.W.Frag) (a : Ads) : Sp := sp_law0 K
/-- what the top has written -/
structure Txt (P : Program) (w : World) (K : PySem.W.Frag) (mg : Str → Option Value) (base : Heap) (a : Ads) : Prop where
  g_abs : mg "abs" = none
  g_enumerate : mg "enumerate" = none
  g_int : mg "int" = none
  g_len : mg "len" = none
  g_list : mg "list" = none
  g_range : mg "range" = none
  g_sum : mg "sum" = none
  F_wall : Fun K "_wall" "_wall" s_wall a.f_wall a.fd_wall
  b_wall : Binds K a.fd_wall ["k"] []
  g_wall : mg "_wall" = some (.ref a.f_wall)
  F_Ring_init : Fun K "__init__" "Ring.__init__" s_Ring_init a.f_Ring_init a.fd_Ring_init
  b_Ring_init : Binds K a.fd_Ring_init ["self", "cells"] []
  mk_Ring : Mk K a.C_Ring a.f_Ring_init
  F_Ring_held : Fun K "held" "Ring.held" s_Ring_held a.f_Ring_held a.fd_Ring_held
  b_Ring_held : Binds K a.fd_Ring_held ["self"] []
  m_Ring_held : Meth K a.C_Ring "held" a.f_Ring_held
  F_Ring_is_full : Fun K "is_full" "Ring.is_full" s_Ring_is_full a.f_Ring_is_full a.fd_Ring_is_full
  b_Ring_is_full : Binds K a.fd_Ring_is_full ["self"] []
  m_Ring_is_full : Meth K a.C_Ring "is_full" a.f_Ring_is_full
  F_Ring_put : Fun K "put" "Ring.put" s_Ring_put a.f_Ring_put a.fd_Ring_put
  b_Ring_put : Binds K a.fd_Ring_put ["self", "value"] []
  m_Ring_put : Meth K a.C_Ring "put" a.f_Ring_put
  F_Ring_first : Fun K "first" "Ring.first" s_Ring_first a.f_Ring_first a.fd_Ring_first
  b_Ring_first : Binds K a.fd_Ring_first ["self"] []
  m_Ring_first : Meth K a.C_Ring "first" a.f_Ring_first
  F_Ring_take : Fun K "take" "Ring.take" s_Ring_take a.f_Ring_take a.fd_Ring_take
  b_Ring_take : Binds K a.fd_Ring_take ["self"] []
  m_Ring_take : Meth K a.C_Ring "take" a.f_Ring_take
  F_Ring_listed : Fun K "listed" "Ring.listed" s_Ring_listed a.f_Ring_listed a.fd_Ring_listed
  b_Ring_listed : Binds K a.fd_Ring_listed ["self"] []
  m_Ring_listed : Meth K a.C_Ring "listed" a.f_Ring_listed
  F_Ring_next : Fun K "_next" "Ring._next" s_Ring_next a.f_Ring_next a.fd_Ring_next
  b_Ring_next : Binds K a.fd_Ring_next ["self", "counter"] []
  m_Ring_next : Meth K a.C_Ring "_next" a.f_Ring_next
  F_Pool_init : Fun K "__init__" "Pool.__init__" s_Pool_init a.f_Pool_init a.fd_Pool_init
  b_Pool_init : Binds K a.fd_Pool_init ["self", "many"] []
  mk_Pool : Mk K a.C_Pool a.f_Pool_init
  F_Pool_free : Fun K "free" "Pool.free" s_Pool_free a.f_Pool_free a.fd_Pool_free
  b_Pool_free : Binds K a.fd_Pool_free ["self"] []
  m_Pool_free : Meth K a.C_Pool "free" a.f_Pool_free
  F_Pool_owner : Fun K "owner" "Pool.owner" s_Pool_owner a.f_Pool_owner a.fd_Pool_owner
  b_Pool_owner : Binds K a.fd_Pool_owner ["self", "buffer"] []
  m_Pool_owner : Meth K a.C_Pool "owner" a.f_Pool_owner
  F_Pool_held : Fun K "held" "Pool.held" s_Pool_held a.f_Pool_held a.fd_Pool_held
  b_Pool_held : Binds K a.fd_Pool_held ["self", "owner"] []
  m_Pool_held : Meth K a.C_Pool "held" a.f_Pool_held
  F_Pool_acquire : Fun K "acquire" "Pool.acquire" s_Pool_acquire a.f_Pool_acquire a.fd_Pool_acquire
  b_Pool_acquire : Binds K a.fd_Pool_acquire ["self", "owner"] []
  m_Pool_acquire : Meth K a.C_Pool "acquire" a.f_Pool_acquire
  F_Pool_release : Fun K "release" "Pool.release" s_Pool_release a.f_Pool_release a.fd_Pool_release
  b_Pool_release : Binds K a.fd_Pool_release ["self", "buffer"] []
  m_Pool_release : Meth K a.C_Pool "release" a.f_Pool_release
  F_Pool_may_acquire : Fun K "may_acquire" "Pool.may_acquire" s_Pool_may_acquire a.f_Pool_may_acquire a.fd_Pool_may_acquire
  b_Pool_may_acquire : Binds K a.fd_Pool_may_acquire ["self", "owner", "owners"] []
  m_Pool_may_acquire : Meth K a.C_Pool "may_acquire" a.f_Pool_may_acquire
  F_Pool_exists : Fun K "_exists" "Pool._exists" s_Pool_exists a.f_Pool_exists a.fd_Pool_exists
  b_Pool_exists : Binds K a.fd_Pool_exists ["self", "buffer"] []
  m_Pool_exists : Meth K a.C_Pool "_exists" a.f_Pool_exists
  F_law_state : Fun K "_law_state" "_law_state" s_law_state a.f_law_state a.fd_law_state
  b_law_state : Binds K a.fd_law_state ["script"] []
  g_law_state : mg "_law_state" = some (.ref a.f_law_state)
  F_law_draw : Fun K "_law_draw" "_law_draw" s_law_draw a.f_law_draw a.fd_law_draw
  b_law_draw : Binds K a.fd_law_draw ["state", "many"] []
  g_law_draw : mg "_law_draw" = some (.ref a.f_law_draw)
  F_law_poor : Fun K "_law_poor" "_law_poor" s_law_poor a.f_law_poor a.fd_law_poor
  b_law_poor : Binds K a.fd_law_poor ["pool", "owners"] []
  g_law_poor : mg "_law_poor" = some (.ref a.f_law_poor)
  F_law : Fun K "law" "law" s_law a.f_law a.fd_law
  b_law : Binds K a.fd_law ["script"] []
  g_law : mg "law" = some (.ref a.f_law)
  g_TickringsError : mg "TickringsError" = some (.ref a.C_TickringsError)
  g_RingError : mg "RingError" = some (.ref a.C_RingError)
  g_PoolError : mg "PoolError" = some (.ref a.C_PoolError)
  g_Ring : mg "Ring" = some (.ref a.C_Ring)
  g_Pool : mg "Pool" = some (.ref a.C_Pool)
  cl_Ring : Cls K a.C_Ring
  n_Ring_cells : NoAttr K a.C_Ring "_cells"
  n_Ring_written : NoAttr K a.C_Ring "written"
  n_Ring_taken : NoAttr K a.C_Ring "taken"
  cl_Pool : Cls K a.C_Pool
  n_Pool_owners : NoAttr K a.C_Pool "_owners"
  n_Pool_free : NoAttr K a.C_Pool "_free"
  e_RingError : EK P w K mg base "RingError" "held" a.C_RingError a.f_RingError_init a.fd_RingError_init ["self", "held"]
  e_PoolError : EK P w K mg base "PoolError" "buffer" a.C_PoolError a.f_PoolError_init a.fd_PoolError_init ["self", "buffer"]
local macro_rules | `(tactic| walk_at "ne") => `(tactic| (first | with_reducible assumption | with_reducible exact Ne.symm (by with_reducible assumption)))
local macro_rules | `(tactic| walk_at "nin") => `(tactic| (simp only [List.mem_cons, List.not_mem_nil, or_false, not_or, not_false_eq_true]; (repeat' refine And.intro ?_ ?_); (all_goals walk_at "ne")))
local macro_rules | `(tactic| walk_at "hl") => `(tactic| (first | (with_reducible assumption) | exact upd_same | ((with_reducible refine' (upd_ne ?hne).trans ?hgo); (case hne => walk_at "ne"); (case hgo => walk_at "hl"))))
local macro_rules | `(tactic| walk_at "sq") => `(tactic| (first | (with_reducible assumption) | exact Or.inl (Or.inl (by walk_at "hl"))))
local macro_rules | `(tactic| walk_at "ar") => `(tactic| (first | omega | exact ⟨by omega, by omega⟩ | exact Or.inl ⟨by omega, by omega⟩ | exact Or.inr ⟨by omega, by omega⟩ | (show (0 : Int) < _; omega) | (show (0 : Int) < _ ∧ _ < (1073741824 : Int); omega)))
local macro_rules | `(tactic| walk_at "cls") => `(tactic| (first | exact Txt.cl_Ring (by assumption) | exact Txt.cl_Pool (by assumption)))
local macro_rules | `(tactic| walk_at "noa") => `(tactic| (first | exact Txt.n_Ring_cells (by assumption) | exact Txt.n_Ring_written (by assumption) | exact Txt.n_Ring_taken (by assumption) | exact Txt.n_Pool_owners (by assumption) | exact Txt.n_Pool_free (by assumption)))
local macro_rules | `(tactic| walk_at "lkp") => `(tactic| (first | (with_reducible exact F_Ring_cells_l) | (with_reducible exact F_Ring_written_l) | (with_reducible exact F_Ring_taken_l) | (with_reducible exact F_Pool_owners_l) | (with_reducible exact F_Pool_free_l)))
local macro_rules | `(tactic| walk_at "ptf") => `(tactic| (first | (with_reducible exact F_Ring_cells_p) | (with_reducible exact F_Ring_written_p) | (with_reducible exact F_Ring_taken_p) | (with_reducible exact F_Pool_owners_p) | (with_reducible exact F_Pool_free_p) | exact rfl))
local macro_rules | `(tactic| walk_at "lnF") => `(tactic| (first | (with_reducible exact F_Ring_len) | (with_reducible exact F_Pool_len) | (refine PL.lt (n := 60) ?_ (by decide); (repeat refine PL.put ?_); exact PL.nil) | decide))
local macro_rules | `(tactic| walk_at "nol") => `(tactic| (first | (with_reducible exact F_Ring_m_held) | (with_reducible exact F_Ring_m_is_full) | (with_reducible exact F_Ring_m_put) | (with_reducible exact F_Ring_m_first) | (with_reducible exact F_Ring_m_take) | (with_reducible exact F_Ring_m_listed) | (with_reducible exact F_Ring_m_next) | (with_reducible exact F_Pool_m_free) | (with_reducible exact F_Pool_m_owner) | (with_reducible exact F_Pool_m_held) | (with_reducible exact F_Pool_m_acquire) | (with_reducible exact F_Pool_m_release) | (with_reducible exact F_Pool_m_may_acquire) | (with_reducible exact F_Pool_m_exists)))
local macro_rules | `(tactic| walk_at "r1") => `(tactic| (first
  | with_reducible apply l_cons | ((with_reducible apply e_var); (case h => exact rfl)) | with_reducible apply l_nil | with_reducible apply s_seq | with_reducible apply e_c | with_reducible apply g_name
  | with_reducible apply s_asg | with_reducible apply e_call | with_reducible apply k_t | with_reducible apply e_op | with_reducible apply e_cb | with_reducible apply t_test
  | with_reducible apply s_if | with_reducible apply t_or | with_reducible apply t_and | with_reducible apply t_B | with_reducible apply s_next | with_reducible apply p_some
  | with_reducible apply p_no | with_reducible apply e_sl | with_reducible apply k_i | with_reducible apply e_lst | with_reducible apply t_not | with_reducible apply o_I0
  | ((with_reducible refine' o_I ?hc ?_); (case hc => walk_at "ar")) | with_reducible apply e_meth | ((with_reducible refine' k_meth ?h1 ?h2 ?_); (case h1 => walk_at "hl"); (case h2 => walk_at "nol")) | with_reducible apply e_fld | ((with_reducible refine' k_fld ?h1 ?h2 ?h3 ?h4 ?_); (case h1 => walk_at "hl"); (case h2 => walk_at "cls"); (case h3 => walk_at "noa"); (case h4 => walk_at "lkp")) | with_reducible apply e_not
  | with_reducible apply s_ret | ((with_reducible refine' k_ty ?h1 ?_); (case h1 => walk_at "sq")) | with_reducible apply s_drop | with_reducible apply s_retN | with_reducible apply s_cont | with_reducible apply s_break
  | with_reducible apply o_chC | ((with_reducible refine' o_chV ?hv ?_); (case hv => exact rfl)) | with_reducible apply e_un | with_reducible apply o_U | ((with_reducible refine' o_eq ?hs ?_); (case hs => exact rfl)) | ((with_reducible refine' o_ne ?hs ?_); (case hs => exact rfl))
  | ((with_reducible refine' o_ixL ?h1 ?h2 ?_); (case h1 => walk_at "sq"); (case h2 => first | exact rfl | exact atI_zero _ _)) | with_reducible apply s_fld | with_reducible apply e_make | ((with_reducible refine' k_set ?h1 ?h2 ?h3 ?h4 ?h5 ?_); (case h1 => walk_at "hl"); (case h2 => walk_at "cls"); (case h3 => walk_at "noa"); (case h4 => walk_at "ptf"); (case h5 => walk_at "lnF")) | with_reducible apply e_tup | with_reducible apply e_bm
  | with_reducible apply e_bm0 | with_reducible apply e_if | with_reducible apply e_chain | with_reducible apply s_raise | with_reducible apply g_sub | ((with_reducible refine' c_ln ?h1 ?_); (case h1 => walk_at "sq"))
  | ((with_reducible refine' c_pop0 ?h1 ?h2 ?_); (case h1 => walk_at "hl"); (case h2 => omega)) | with_reducible apply c_isBool | with_reducible apply c_isInt | with_reducible apply c_isBoolN | with_reducible apply c_isTupI | with_reducible apply c_isNonB
  | with_reducible apply c_isNonT | ((with_reducible refine' c_isList ?h1 ?_); (case h1 => walk_at "hl")) | ((with_reducible refine' c_isTup ?h1 ?_); (case h1 => walk_at "hl")) | ((with_reducible refine' c_isTupB ?h1 ?_); (case h1 => walk_at "hl")) | with_reducible apply o_isB | with_reducible apply o_notB
  | with_reducible apply e_and | with_reducible apply e_or | with_reducible apply k_bl | with_reducible apply e_xf | with_reducible apply s_augS | ((with_reducible refine' s_augV ?hv ?_); (case hv => exact rfl))
  | with_reducible apply ip_I | with_reducible apply e_lcE | ((with_reducible refine' k_xf ?h1 ?h2 ?_); (case h1 => walk_at "hl"); (case h2 => exact look_hit _ _ _)) | ((with_reducible refine' o_slL ?h1 ?_); (case h1 => walk_at "sq")) | ((with_reducible refine' k_dget ?h1 ?h2 ?_); (case h1 => walk_at "hl"); (case h2 => with_reducible assumption)) | with_reducible apply e_dget
  | with_reducible apply s_dput | with_reducible apply e_makeK | with_reducible apply g_cons | with_reducible apply g_nil | with_reducible apply c_ab | with_reducible apply c_in
  | with_reducible apply c_mx | with_reducible apply c_mn | with_reducible apply a1 | with_reducible apply a2 | with_reducible apply a3 | with_reducible apply a4
  | with_reducible apply a5 | with_reducible apply a6 | with_reducible apply a0 | with_reducible apply t_tru | with_reducible apply t_yes | ((with_reducible refine' k_truL ?h1 ?_); (case h1 => walk_at "sq")) | with_reducible refine d_nx ?_ | with_reducible refine d_rt ?_ | with_reducible refine d_bk ?_
  | with_reducible refine d_ct ?_))
local macro_rules | `(tactic| walk_at "r") => `(tactic| (repeat walk_at "r1"))
section
variable {P : Program} {w : World} {K : PySem.W.Frag} {mg : Str → Option Value} {base : Heap} {a : Ads}
/-! ### the script's numbers, drawn -/
def StAt (H : Hp) (st sl : Addr) : Prop := ∃ (ns : List Int) (m : Int), H st = some (.lst [.ref sl, .int m]) ∧ H sl = some (.lst (ns.map V.int)) ∧ ns.length ≤ 63 ∧ (∀ z ∈ ns, 0 ≤ z) ∧ 0 ≤ m ∧ m ≤ 2147483647
theorem StAt.ne {H : Hp} {st sl : Addr} (s : StAt H st sl) : st ≠ sl := by
  obtain ⟨ns, m, h1, h2, _⟩ := s
  refine ne_of h1 h2 fun z => ?_
  have z2 := HO.lst.inj z
  cases ns with
  | nil => cases z2
  | cons y ys => cases (List.cons.inj z2).1
theorem StAt.fp {H H1 : Hp} {st sl : Addr} {fp : List Addr} (s : StAt H st sl) (f : Fp fp H H1) (n1 : st ∉ fp) (n2 : sl ∉ fp) : StAt H1 st sl := by
  obtain ⟨ns, m, h1, h2, r⟩ := s
  exact ⟨ns, m, f _ _ h1 n1, f _ _ h2 n2, r⟩
theorem StAt.inn {H : Hp} {st sl : Addr} (s : StAt H st sl) : Inn H [st, sl] := by
  obtain ⟨ns, m, h1, h2, r⟩ := s
  exact .cons h1 (.cons h2 .nil)
theorem StAt.nd {H : Hp} {st sl : Addr} (s : StAt H st sl) : [st, sl].Nodup := by simp [s.ne]
/-- [draw for k in range(n)] -/
theorem k_lcD {σ : L2.St} {H : Hp} {Q : VK} {g : TG} {te : TE} {vs : List Nat} {n : Int} {st sl : Addr} (P : V → Prop) (h1 : 0 ≤ n) (h2 : n < 100000) (S : StAt H st sl)
    (hs : ∀ (i : Nat) (H' : Hp) (R : VK), (i : Int) < n → StAt H' st sl → Fp [st, sl] H H' → (∀ y H4, P y → StAt H4 st sl → Fp [st, sl] H' H4 → R y H4) →
      g (.int (i : Nat)) (wipe σ vs) H' fun σ2 H2 => wipe σ2 vs = wipe σ vs ∧ te σ2 H2 R)
    (q : ∀ E acc H', H E = none → acc.length = n.toNat → H' E = some (.lst acc) → (∀ y ∈ acc, P y) → StAt H' st sl → Fp [st, sl] H H' → st ≠ E → sl ≠ E → Q (.ref E) H') : kLcR g te vs σ Q (.int n) H := by
  obtain ⟨_, _, z1, z2, _⟩ := id S
  refine k_lcS (fun E i acc H' => (∀ y ∈ acc, P y) ∧ StAt H' st sl ∧ Fp [st, sl] H H') h1 h2 (fun E hE => ⟨by simp, S.fp (Fp.new (fp := []) hE) (by simp) (by simp), Fp.new hE⟩) (fun E i acc H' R hE hi hl e ⟨j1, j2, j3⟩ k => hs i H' R hi j2 j3 fun y H4 py S4 f4 => ?_) fun E acc H' hE hl e ⟨j1, j2, j3⟩ => q E acc H' hE hl e j1 j2 j3 (ne_of_none z1 hE) (ne_of_none z2 hE)
  have n1 := ne_of_none z1 hE
  have n2 := ne_of_none z2 hE
  refine k y H4 (f4 _ _ e (by simp [n1.symm, n2.symm])) ⟨fun x hx => ?_, S4.fp (Fp.at_ (fp := [E]) (by simp)) (by simp [n1]) (by simp [n2]), Fp.drop (fp := [E, st, sl]) (((j3.trans f4).mono (fun z hz => List.mem_cons_of_mem _ hz)).trans (Fp.at_ (by simp))) fun z hz => ?_⟩
  · rcases List.mem_append.mp hx with hx | hx
    · exact j1 x hx
    · rw [List.mem_singleton.mp hx]; exact py
  · rcases List.mem_cons.mp hz with rfl | hz
    · exact .inr hE
    · exact .inl hz
/-- [e for k in range(n) if draw] -/
theorem k_lcDF {σ : L2.St} {H : Hp} {Q : VK} {g : TG} {tt : TT} {te : TE} {vs : List Nat} {n : Int} {st sl : Addr} (P : V → Prop) (h1 : 0 ≤ n) (h2 : n < 100000) (S : StAt H st sl)
    (hs : ∀ (i : Nat) (H' : Hp) (R : VK) (N : Hp → Prop), (i : Int) < n → StAt H' st sl → Fp [st, sl] H H' → (∀ y H4, P y → StAt H4 st sl → Fp [st, sl] H' H4 → R y H4) → (∀ H4, StAt H4 st sl → Fp [st, sl] H' H4 → N H4) →
      g (.int (i : Nat)) (wipe σ vs) H' fun σ2 H2 => wipe σ2 vs = wipe σ vs ∧ tt σ2 H2 fun k H3 => if k = true then te σ2 H3 R else N H3)
    (q : ∀ E acc H', H E = none → acc.length ≤ n.toNat → H' E = some (.lst acc) → (∀ y ∈ acc, P y) → StAt H' st sl → Fp [st, sl] H H' → st ≠ E → sl ≠ E → Q (.ref E) H') : kLcF g tt te vs σ Q (.int n) H := by
  obtain ⟨_, _, z1, z2, _⟩ := id S
  refine k_lcSF (fun E i acc H' => (∀ y ∈ acc, P y) ∧ StAt H' st sl ∧ Fp [st, sl] H H') h1 h2 (fun E hE => ⟨by simp, S.fp (Fp.new (fp := []) hE) (by simp) (by simp), Fp.new hE⟩) (fun E i acc H' R N hE hi hl e ⟨j1, j2, j3⟩ k kn => ?_) fun E acc H' hE hl e ⟨j1, j2, j3⟩ => q E acc H' hE hl e j1 j2 j3 (ne_of_none z1 hE) (ne_of_none z2 hE)
  have n1 := ne_of_none z1 hE
  have n2 := ne_of_none z2 hE
  refine hs i H' R N hi j2 j3 (fun y H4 py S4 f4 => ?_) fun H4 S4 f4 => kn H4 (f4 _ _ e (by simp [n1.symm, n2.symm])) ⟨j1, S4, j3.trans f4⟩
  refine k y H4 (f4 _ _ e (by simp [n1.symm, n2.symm])) ⟨fun x hx => ?_, S4.fp (Fp.at_ (fp := [E]) (by simp)) (by simp [n1]) (by simp [n2]), Fp.drop (fp := [E, st, sl]) (((j3.trans f4).mono (fun z hz => List.mem_cons_of_mem _ hz)).trans (Fp.at_ (by simp))) fun z hz => ?_⟩
  · rcases List.mem_append.mp hx with hx | hx
    · exact j1 x hx
    · rw [List.mem_singleton.mp hx]; exact py
  · rcases List.mem_cons.mp hz with rfl | hz
    · exact .inr hE
    · exact .inl hz
def sp_law_state (K : PySem.W.Frag) (a : Ads) : Sp := A1 fun v H Q _ => ∃ (b : Addr) (ns : List Int), v = .ref b ∧ SqL K H b (ns.map V.int) ∧ ns.length ≤ 63 ∧
  ∀ st sl H1, H st = none → H sl = none → StAt H1 st sl → Fp [] H H1 → Q (.ref st) H1
def sp_law_draw (K : PySem.W.Frag) (a : Ads) : Sp := A2 fun s m H Q _ => ∃ (st sl : Addr) (k : Int), s = .ref st ∧ m = .int k ∧ StAt H st sl ∧ 1 ≤ k ∧ k < 1073741824 ∧
  ∀ r H1, 0 ≤ r → r < k → StAt H1 st sl → Fp [st, sl] H H1 → Q (.int r) H1
theorem ok_law_state (T : Txt P w K mg base a) : FnOk P w K mg base (L2.CX P w) 1 a.f_law_state a.fd_law_state ["script"] (sp_law_state K a) := by
  refine T.F_law_state.okX sc_law_state (fun vs H Q E h => A1.len h) (fun cdv A outer s H vs Q E hr h => ?_)
  have hu := hu_of hr
  obtain ⟨v_script, rfl, h⟩ := h
  refine ⟨_, (pss_cons (ps_set (i := 1) sc_law_state.nd rfl (by first | exact Or.inl rfl | exact Or.inr rfl) pe_int)
    (pss_cons (ps_for (passes_of rfl) rfl (pi_list (pv 0)) (pg_name (i := 2) sc_law_state.nd rfl (by first | exact Or.inl rfl | exact Or.inr rfl)) (pss_one (ps_set (i := 1) sc_law_state.nd rfl (by first | exact Or.inl rfl | exact Or.inr rfl) (pe_op op_mod (pe_callTy call_in (by rfl) T.g_int (by decide +kernel) (pa_cons (pe_op op_add (pe_op op_mul (pv 1) pe_int) (pv 2)) pa_nil)) pe_int))))
    (pss_one (ps_ret (pe_lst (pa_cons (pe_lc (own := [("cell", 2)]) (g := (gName 2)) (tt := tYes) (te := (tCB rAb (tCons (tVar 2) tNil))) rfl sc_law_state.nd (pi_list (pv 0)) (blkOk_by (N := ["script", "seed", "cell"]) (sc := defScope s_law_state) (own := [("cell", 2)]) (by decide +kernel)) (fun _ _ _ _ _ => by exact (pg_name (i := 2) sc_law_state.nd rfl (by first | exact Or.inl rfl | exact Or.inr rfl))) (fun _ _ _ _ _ => by exact pts_nil) (fun _ _ _ _ _ => by exact (pe_callB call_ab (by rfl) T.g_abs (by decide +kernel) (pa_cons (pv 2) pa_nil)))) (pa_cons (pe_op op_add (pv 1) pe_int) pa_nil))))))), ?_⟩
  obtain ⟨b, ns, rfl, hS, hn, k⟩ := h
  walk_at "r"
  refine f_list (xs := ns.map V.int) (fun i σ H1 => ∃ (sd : Int) (u : Option V), σ = [some (.ref b), some (.int sd), u] ∧ H1 = H ∧ 0 ≤ sd ∧ sd < 1000003) rfl hS ⟨7, none, rfl, rfl, by omega, by omega⟩ (fun i σ H1 _ ⟨_, _, _, e, _⟩ => e ▸ hS) ?_ ?_
  · rintro i x σ H1 hx ⟨sd, u, rfl, rfl, h0, h1⟩
    obtain ⟨z, rfl⟩ : ∃ z, x = V.int z := by
      obtain ⟨z, _, e⟩ := List.mem_map.mp (List.mem_of_getElem? hx)
      exact ⟨z, e.symm⟩
    walk_at "r"
    exact ⟨_, _, rfl, rfl, Int.emod_nonneg _ (by omega), Int.emod_lt_of_pos _ (by omega)⟩
  · rintro σ H1 ⟨sd, u, rfl, rfl, h0, h1⟩
    walk_at "r"
    refine lc_pure (xs := ns.map V.int) (ys := (ns.map fun z => if z < 0 then -z else z).map V.int) rfl hS (by simp) (by simp <;> omega) (fun E i x y H2 R hE hx hy e hR => ?_) fun E hE => ?_
    · obtain ⟨z, hz, rfl⟩ : ∃ z, ns[i]? = some z ∧ V.int z = x := by rw [List.getElem?_map] at hx; simpa using hx
      have hy' : V.int (if z < 0 then -z else z) = y := by simpa [List.getElem?_map, hz] using hy
      refine ⟨rfl, ?_⟩
      walk_at "r"
      rw [hy']
      exact hR
    · walk_at "r"
      refine ⟨sz (by simp), fun st hst => ?_⟩
      have nE : st ≠ E := ne_of_none upd_same hst |>.symm
      have nst : H1 st = none := by rw [upd_ne nE] at hst; exact hst
      refine k st E _ nst hE ⟨_, _, upd_same, by rw [upd_ne nE.symm, upd_same], by simpa using hn, fun z hz => ?_, by omega, by omega⟩ ((Fp.new hE).trans (Fp.new hst))
      obtain ⟨y, _, rfl⟩ := List.mem_map.mp hz
      split <;> omega
theorem ok_law_draw (T : Txt P w K mg base a) : FnOk P w K mg base (L2.CX P w) 1 a.f_law_draw a.fd_law_draw ["state", "many"] (sp_law_draw K a) := by
  refine T.F_law_draw.okX sc_law_draw (fun vs H Q E h => A2.len h) (fun cdv A outer s H vs Q E hr h => ?_)
  have hu := hu_of hr
  obtain ⟨v_state, v_many, rfl, h⟩ := h
  refine ⟨_, (pss_cons (ps_set (i := 2) sc_law_draw.nd rfl (by first | exact Or.inl rfl | exact Or.inr rfl) (pe_ix ix_list (pv 0) pe_int (fun _ _ => rfl)))
    (pss_cons (ps_while (passes_of rfl) (PW.pt (pw_and (pt_cmpR op_gt (pe_callB call_ln (by rfl) T.g_len (by decide +kernel) (pa_cons (pv 2) pa_nil)) pe_int (nomark _)) (pw_and1 (pt_cmpR op_eq (pe_ix ix_list (pv 2) pe_int (fun _ _ => rfl)) pe_int (nomark _))))) (pss_one (ps_expr (pe_bm PySem.F.plainAttrs_list PySem.F.slot_list_pop PySem.F.type_list_pop mt_popAt (pv 2) (pa_cons pe_int pa_nil)))))
    (pss_cons (ps_if (pt_cmpR op_gt (pe_callB call_ln (by rfl) T.g_len (by decide +kernel) (pa_cons (pv 2) pa_nil)) pe_int (nomark _)) (pss_cons (ps_set (i := 3) sc_law_draw.nd rfl (by first | exact Or.inl rfl | exact Or.inr rfl) (pe_ix ix_list (pv 2) pe_int (fun _ _ => rfl)))
    (pss_cons (ps_asg (pe_op op_fdiv (pv 3) (pv 1)) (pg_sub (pv 2) pe_int set_list))
    (pss_one (ps_ret (pe_op op_mod (pe_callTy call_in (by rfl) T.g_int (by decide +kernel) (pa_cons (pv 3) pa_nil)) (pv 1)))))) pss_nil)
    (pss_cons (ps_set (i := 4) sc_law_draw.nd rfl (by first | exact Or.inl rfl | exact Or.inr rfl) (pe_op op_mod (pe_callTy call_in (by rfl) T.g_int (by decide +kernel) (pa_cons (pe_op op_add (pe_op op_mul (pe_ix ix_list (pv 0) pe_int (fun _ _ => rfl)) pe_int) pe_int) pa_nil)) pe_int))
    (pss_cons (ps_asg (pv 4) (pg_sub (pv 0) pe_int set_list))
    (pss_one (ps_ret (pe_op op_mod (pe_callTy call_in (by rfl) T.g_int (by decide +kernel) (pa_cons (pe_op op_fdiv (pv 4) pe_int) pa_nil)) (pv 1))))))))), ?_⟩
  obtain ⟨st, sl, kk, rfl, rfl, S, k1, k2, k⟩ := h
  obtain ⟨ns, m, hst, hsl, hn, hpos, m0, m1⟩ := id S
  have nss := S.ne
  walk_at "r"
  refine w_by (fun q σ H1 => ∃ (ns1 : List Int), σ = [some (.ref st), some (.int kk), some (.ref sl), none, none] ∧ q = ns1.length ∧ H1 st = some (.lst [.ref sl, .int m]) ∧ H1 sl = some (.lst (ns1.map V.int)) ∧ ns1.length ≤ 63 ∧ (∀ z ∈ ns1, 0 ≤ z) ∧ Fp [st, sl] H H1) ns.length ⟨ns, rfl, rfl, hst, hsl, hn, hpos, Fp.refl _ _⟩ ?_
  rintro q σ H1 ⟨ns1, rfl, rfl, g1, g2, gn, gp, gf⟩
  walk_at "r"
  rw [List.length_map]
  cases ns1 with
  | nil =>
    refine if_dF (by simp) ?_
    refine iteF ?_
    walk_at "r"
    refine if_dF (by simp) ?_
    walk_at "r"
    refine c_setL (j := 1) g1 rfl (by simp) ?_
    walk_at "r"
    exact k _ _ (Int.emod_nonneg _ (by omega)) (Int.emod_lt_of_pos _ (by omega)) ⟨[], _, upd_same, by rw [upd_ne nss.symm]; exact g2, gn, gp, Int.emod_nonneg _ (by omega), by have := Int.emod_lt_of_pos (m * 48271 + 12345) (show (0 : Int) < 2147483647 by omega); omega⟩ (gf.trans (Fp.at_ (by simp)))
  | cons z zs =>
    rw [List.map_cons] at g2
    have gz : zs.length ≤ 62 := by simpa using gn
    have gl : ((zs.map V.int).length) < 100000 := by rw [List.length_map]; omega
    refine if_dT (by simp <;> omega) ?_
    walk_at "r"
    refine if_d (fun e => ?_) (fun e => ?_)
    · refine ⟨_, fun _ _ h => h, ?_⟩
      walk_at "r"
      exact ⟨zs.length, by simp, zs, rfl, rfl, by rw [upd_ne nss]; exact g1, upd_same, by omega, fun y hy => gp y (List.mem_cons_of_mem _ hy), gf.trans (Fp.at_ (by simp))⟩
    · walk_at "r"
      refine if_dT (by simp <;> omega) ?_
      walk_at "r"
      refine c_setL (j := 0) g2 rfl (by simp) ?_
      walk_at "r"
      have hz := gp z List.mem_cons_self
      exact k _ _ (Int.emod_nonneg _ (by omega)) (Int.emod_lt_of_pos _ (by omega)) ⟨z / kk :: zs, m, by rw [upd_ne nss]; exact g1, upd_same, gn, fun y hy => by
        rcases List.mem_cons.mp hy with rfl | hy
        · exact Int.ediv_nonneg hz (by omega)
        · exact gp y (List.mem_cons_of_mem _ hy), m0, m1⟩ (gf.trans (Fp.at_ (by simp)))
/-! ### rings of cells -/
theorem mod2 {x M : Nat} (h : x < 2 * M) : x % M = if x < M then x else x - M := by
  by_cases c : x < M
  · rw [if_pos c, Nat.mod_eq_of_lt c]
  · rw [if_neg c, Nat.mod_eq_sub_mod (by omega), Nat.mod_eq_of_lt (by omega)]
structure RingAt (C : Addr) (H : Hp) (p l : Addr) (n wr tk : Nat) (xs : List V) : Prop where
  ob : ∃ dx, H p = some (.ins C dx (F_Ring (.ref l) (.int wr) (.int tk)))
  ls : ∃ cs : List V, H l = some (.lst cs) ∧ cs.length = n ∧ ∀ i x, xs[i]? = some x → cs[(tk + i) % n]? = some x
  n1 : 1 ≤ n
  nz : n ≤ 256
  wl : wr < 2 * n
  tl : tk < 2 * n
  ln : xs.length ≤ n
  wt : wr = (tk + xs.length) % (2 * n)
theorem RingAt.ne {C p l : Addr} {H : Hp} {n wr tk : Nat} {xs : List V} (R : RingAt C H p l n wr tk xs) : p ≠ l := by
  obtain ⟨⟨dx, ho⟩, ⟨cs, hl, _⟩, _⟩ := R
  exact ne_of ho hl (by intro z; cases z)
theorem RingAt.fp {C p l : Addr} {H H1 : Hp} {n wr tk : Nat} {xs : List V} {fp : List Addr} (R : RingAt C H p l n wr tk xs) (f : Fp fp H H1) (n1 : p ∉ fp) (n2 : l ∉ fp) : RingAt C H1 p l n wr tk xs := by
  obtain ⟨⟨dx, ho⟩, ⟨cs, hl, h⟩, a1, a2, a3, a4, a5, a6⟩ := R
  exact ⟨⟨dx, f _ _ ho n1⟩, ⟨cs, f _ _ hl n2, h⟩, a1, a2, a3, a4, a5, a6⟩
theorem RingAt.inn {C p l : Addr} {H : Hp} {n wr tk : Nat} {xs : List V} (R : RingAt C H p l n wr tk xs) : Inn H [p, l] := by
  obtain ⟨⟨dx, ho⟩, ⟨cs, hl, _⟩, _⟩ := R
  exact .cons ho (.cons hl .nil)
def sp_Ring_init (K : PySem.W.Frag) (a : Ads) : Sp := A2 fun s c H Q _ => ∃ (p dx : Addr) (n : Nat), s = .ref p ∧ c = .int n ∧ 1 ≤ n ∧ n ≤ 256 ∧ H p = some (.ins a.C_Ring dx []) ∧
  ∀ l H1, H l = none → RingAt a.C_Ring H1 p l n 0 0 [] → Fp [p] H H1 → Q .non H1
def sp_Ring_held (K : PySem.W.Frag) (a : Ads) : Sp := A1 fun s H Q _ => ∃ (p l : Addr) (n wr tk : Nat) (xs : List V), s = .ref p ∧ RingAt a.C_Ring H p l n wr tk xs ∧ Q (.int xs.length) H
def sp_Ring_is_full (K : PySem.W.Frag) (a : Ads) : Sp := A1 fun s H Q _ => ∃ (p l : Addr) (n wr tk : Nat) (xs : List V), s = .ref p ∧ RingAt a.C_Ring H p l n wr tk xs ∧ Q (.bl (decide (xs.length = n))) H
def sp_Ring_next (K : PySem.W.Frag) (a : Ads) : Sp := A2 fun s c H Q _ => ∃ (p l : Addr) (n wr tk j : Nat) (xs : List V), s = .ref p ∧ c = .int j ∧ RingAt a.C_Ring H p l n wr tk xs ∧ Q (.int ((j + 1) % (2 * n) : Nat)) H
def sp_Ring_put (K : PySem.W.Frag) (a : Ads) : Sp := A2 fun s v H Q E => ∃ (p l : Addr) (n wr tk : Nat) (xs : List V), s = .ref p ∧ RingAt a.C_Ring H p l n wr tk xs ∧
  (xs.length = n → ∀ d, H d = none → E (.ref a.C_RingError) (some d) (upd H d (.xd [("held", .int n)]))) ∧
  (xs.length < n → ∀ H1, RingAt a.C_Ring H1 p l n ((wr + 1) % (2 * n)) tk (xs ++ [v]) → Fp [p, l] H H1 → Q .non H1)
def sp_Ring_first (K : PySem.W.Frag) (a : Ads) : Sp := A1 fun s H Q E => ∃ (p l : Addr) (n wr tk : Nat) (xs : List V), s = .ref p ∧ RingAt a.C_Ring H p l n wr tk xs ∧
  (xs = [] → ∀ d, H d = none → E (.ref a.C_RingError) (some d) (upd H d (.xd [("held", .int 0)]))) ∧
  (∀ x ys, xs = x :: ys → Q x H)
def sp_Ring_take (K : PySem.W.Frag) (a : Ads) : Sp := A1 fun s H Q E => ∃ (p l : Addr) (n wr tk : Nat) (xs : List V), s = .ref p ∧ RingAt a.C_Ring H p l n wr tk xs ∧
  (xs = [] → ∀ d, H d = none → E (.ref a.C_RingError) (some d) (upd H d (.xd [("held", .int 0)]))) ∧
  (∀ x ys, xs = x :: ys → ∀ H1, RingAt a.C_Ring H1 p l n wr ((tk + 1) % (2 * n)) ys → Fp [p, l] H H1 → Q x H1)
def sp_Ring_listed (K : PySem.W.Frag) (a : Ads) : Sp := A1 fun s H Q _ => ∃ (p l : Addr) (n wr tk : Nat) (xs : List V), s = .ref p ∧ RingAt a.C_Ring H p l n wr tk xs ∧
  ∀ q, H q = none → Q (.ref q) (upd H q (.lst xs))
theorem ok_Ring_init (T : Txt P w K mg base a) : FnOk P w K mg base (L2.CX P w) 1 a.f_Ring_init a.fd_Ring_init ["self", "cells"] (sp_Ring_init K a) := by
  refine T.F_Ring_init.okX sc_Ring_init (fun vs H Q E h => A2.len h) (fun cdv A outer s H vs Q E hr h => ?_)
  have hu := hu_of hr
  obtain ⟨v_self, v_cells, rfl, h⟩ := h
  refine ⟨_, (pss_cons (ps_fld (pv 0) (pe_op op_rep (pe_lst (pa_cons pe_non pa_nil)) (pv 1)) rfl)
    (pss_cons (ps_fld (pv 0) pe_int rfl)
    (pss_one (ps_fld (pv 0) pe_int rfl)))), ?_⟩
  obtain ⟨p, dx, n, rfl, rfl, n1, nz, hp, k⟩ := h
  walk_at "r"
  refine ⟨sz (by decide), fun q hq => ?_⟩
  walk_at "r"
  refine o_rep (K := K) upd_same (by omega) (by simp; omega) (by omega) fun l hl => ?_
  have ql : q ≠ l := ne_of_none upd_same hl
  have pq : p ≠ q := ne_of_none hp hq
  have hl0 : H l = none := by rw [upd_ne ql.symm] at hl; exact hl
  have pl : p ≠ l := ne_of_none hp hl0
  walk_at "r"
  have ef : (List.replicate (n : Int).toNat [V.non]).flatten = List.replicate n V.non := by
    have e : (n : Int).toNat = n := Int.toNat_natCast n
    rw [e, List.flatten_replicate_singleton]
  refine k l _ hl0 ⟨⟨dx, by rw [upd_same, F_Ring_init]; rfl⟩, ⟨List.replicate n .non, by rw [upd_ne pl.symm, upd_ne pl.symm, upd_ne pl.symm, upd_same, ef], List.length_replicate, fun i x hx => by simp at hx⟩, n1, nz, by omega, by omega, by simp, by simp⟩ ?_
  exact ((((Fp.new hq).trans (Fp.new hl)).trans (Fp.at_ (by simp))).trans (Fp.at_ (by simp))).trans (Fp.at_ (by simp))
theorem ok_Ring_held (T : Txt P w K mg base a) : FnOk P w K mg base (L2.CX P w) 1 a.f_Ring_held a.fd_Ring_held ["self"] (sp_Ring_held K a) := by
  refine T.F_Ring_held.okX sc_Ring_held (fun vs H Q E h => A1.len h) (fun cdv A outer s H vs Q E hr h => ?_)
  have hu := hu_of hr
  obtain ⟨v_self, rfl, h⟩ := h
  refine ⟨_, (pss_cons (ps_set (i := 1) sc_Ring_held.nd rfl (by first | exact Or.inl rfl | exact Or.inr rfl) (pe_op op_sub (pe_fld (pv 0) rfl) (pe_fld (pv 0) rfl)))
    (pss_cons (ps_if (pt_cmpR op_lt (pv 1) pe_int (nomark _)) (pss_one (ps_ret (pe_op op_add (pv 1) (pe_op op_mul pe_int (pe_callB call_ln (by rfl) T.g_len (by decide +kernel) (pa_cons (pe_fld (pv 0) rfl) pa_nil)))))) pss_nil)
    (pss_one (ps_ret (pv 1))))), ?_⟩
  obtain ⟨p, l, n, wr, tk, xs, rfl, R, k⟩ := h
  obtain ⟨⟨dx, ho⟩, ⟨cs, hl, hcs, _⟩, n1, nz, wl, tl, ln, wt⟩ := id R
  have e2 := mod2 (x := tk + xs.length) (M := 2 * n) (by omega)
  walk_at "r"
  refine if_d (fun c => ?_) (fun c => ?_)
  · walk_at "r"
    have e : (wr : Int) - tk + 2 * (cs.length : Int) = xs.length := by rw [hcs]; split at e2 <;> omega
    rw [e]
    exact k
  · walk_at "r"
    have e : (wr : Int) - tk = xs.length := by split at e2 <;> omega
    rw [e]
    exact k
theorem ok_Ring_is_full (T : Txt P w K mg base a) : FnOk P w K mg base (L2.CX P w) 2 a.f_Ring_is_full a.fd_Ring_is_full ["self"] (sp_Ring_is_full K a) := by
  have G_Ring_held := ok_Ring_held T
  refine T.F_Ring_is_full.okX sc_Ring_is_full (fun vs H Q E h => A1.len h) (fun cdv A outer s H vs Q E hr h => ?_)
  have hu := hu_of hr
  obtain ⟨v_self, rfl, h⟩ := h
  refine ⟨_, (pss_one (ps_ret (pe_cmpR op_eq (pe_meth0S (pv 0) T.cl_Ring T.m_Ring_held G_Ring_held (hr.mono (by decide)) T.b_Ring_held (fun σ => passAt (takes_of rfl rfl rfl rfl) σ)) (pe_callB call_ln (by rfl) T.g_len (by decide +kernel) (pa_cons (pe_fld (pv 0) rfl) pa_nil)) (nomark _)))), ?_⟩
  obtain ⟨p, l, n, wr, tk, xs, rfl, R, k⟩ := h
  obtain ⟨⟨dx, ho⟩, ⟨cs, hl, hcs, _⟩, n1, nz, wl, tl, ln, wt⟩ := id R
  walk_at "r"
  refine a1 ⟨p, l, n, wr, tk, xs, rfl, R, ?_⟩
  walk_at "r"
  have e : decide (V.int (xs.length : Int) = V.int (cs.length : Int)) = decide (xs.length = n) := by
    rw [hcs]
    exact decide_eq_decide.mpr ⟨fun z => Int.ofNat.inj (V.int.inj z), fun z => by rw [z]⟩
  rw [e]
  exact k
theorem ok_Ring_next (T : Txt P w K mg base a) : FnOk P w K mg base (L2.CX P w) 1 a.f_Ring_next a.fd_Ring_next ["self", "counter"] (sp_Ring_next K a) := by
  refine T.F_Ring_next.okX sc_Ring_next (fun vs H Q E h => A2.len h) (fun cdv A outer s H vs Q E hr h => ?_)
  have hu := hu_of hr
  obtain ⟨v_self, v_counter, rfl, h⟩ := h
  refine ⟨_, (pss_one (ps_ret (pe_op op_mod (pe_op op_add (pv 1) pe_int) (pe_op op_mul pe_int (pe_callB call_ln (by rfl) T.g_len (by decide +kernel) (pa_cons (pe_fld (pv 0) rfl) pa_nil)))))), ?_⟩
  obtain ⟨p, l, n, wr, tk, j, xs, rfl, rfl, R, k⟩ := h
  obtain ⟨⟨dx, ho⟩, ⟨cs, hl, hcs, _⟩, n1, nz, wl, tl, ln, wt⟩ := id R
  walk_at "r"
  have e : ((j : Int) + 1) % (2 * (cs.length : Int)) = ((j + 1) % (2 * n) : Nat) := by rw [hcs]; push_cast; rfl
  rw [e]
  exact k
theorem ok_Ring_put (T : Txt P w K mg base a) : FnOk P w K mg base (L2.CX P w) 3 a.f_Ring_put a.fd_Ring_put ["self", "value"] (sp_Ring_put K a) := by
  have G_Ring_is_full := ok_Ring_is_full T
  have G_Ring_next := ok_Ring_next T
  refine T.F_Ring_put.okX sc_Ring_put (fun vs H Q E h => A2.len h) (fun cdv A outer s H vs Q E hr h => ?_)
  have hu := hu_of hr
  obtain ⟨v_self, v_value, rfl, h⟩ := h
  refine ⟨_, (pss_cons (ps_if (pt_val (pe_meth0S (pv 0) T.cl_Ring T.m_Ring_is_full G_Ring_is_full (hr.mono (by decide)) T.b_Ring_is_full (fun σ => passAt (takes_of rfl rfl rfl rfl) σ))) (pss_one (ps_raiseE rfl T.e_RingError (hr.mono (by decide)) (takes_of rfl rfl rfl rfl) rfl (pe_callB call_ln (by rfl) T.g_len (by decide +kernel) (pa_cons (pe_fld (pv 0) rfl) pa_nil)))) pss_nil)
    (pss_cons (ps_asg (pv 1) (pg_sub (pe_fld (pv 0) rfl) (pe_op op_mod (pe_fld (pv 0) rfl) (pe_callB call_ln (by rfl) T.g_len (by decide +kernel) (pa_cons (pe_fld (pv 0) rfl) pa_nil))) set_list))
    (pss_one (ps_fld (pv 0) (pe_methS (pv 0) T.cl_Ring T.m_Ring_next G_Ring_next (hr.mono (by decide)) T.b_Ring_next (fun σ => passAt (takes_of rfl rfl rfl rfl) σ) (pa_cons (pe_fld (pv 0) rfl) pa_nil)) rfl)))), ?_⟩
  obtain ⟨p, l, n, wr, tk, xs, rfl, R, kf, k⟩ := h
  obtain ⟨⟨dx, ho⟩, ⟨cs, hl, hcs, hat⟩, n1, nz, wl, tl, ln, wt⟩ := id R
  have npl := R.ne
  walk_at "r"
  refine a1 ⟨p, l, n, wr, tk, xs, rfl, R, ?_⟩
  walk_at "r"
  refine if_d (fun c => ?_) (fun c => ?_)
  · walk_at "r"
    rw [hcs]
    exact ⟨okV_int ⟨by omega, by omega⟩, fun d hd => kf c d hd⟩
  · walk_at "r"
    have hx : xs.length < n := by omega
    have ew : (wr : Int) % (cs.length : Int) = ((wr % n : Nat) : Int) := by rw [hcs]; push_cast; rfl
    rw [ew]
    refine c_setL (j := wr % n) hl rfl (by rw [hcs]; exact Nat.mod_lt _ (by omega)) ?_
    walk_at "r"
    have em : wr % n = (tk + xs.length) % n := by rw [wt, Nat.mod_mod_of_dvd _ (Nat.dvd_mul_left n 2)]
    have hn0 : 0 < n := by omega
    -- what the cells hold now
    have hat2 : ∀ i x, (xs ++ [v_value])[i]? = some x → (cs.set (wr % n) v_value)[(tk + i) % n]? = some x := fun i x hi => by
      by_cases hlt : i < xs.length
      · rw [List.getElem?_append_left hlt] at hi
        have hne : wr % n ≠ (tk + i) % n := fun z => by
          rw [em] at z
          have z2 := Nat.sub_mod_eq_zero_of_mod_eq z
          have z3 : tk + xs.length - (tk + i) = xs.length - i := by omega
          rw [z3, Nat.mod_eq_of_lt (by omega)] at z2
          omega
        rw [List.getElem?_set_ne hne]
        exact hat i x hi
      · have hi2 : i = xs.length := by
          have h2 := (List.getElem?_eq_some_iff.mp hi).1
          rw [List.length_append, List.length_singleton] at h2
          omega
        subst hi2
        rw [List.getElem?_append_right (Nat.le_refl _), Nat.sub_self] at hi
        have hv : v_value = x := by simpa using hi
        subst hv
        rw [← em, List.getElem?_set_self (by rw [hcs]; exact Nat.mod_lt _ hn0)]
    refine a2 ⟨p, l, n, wr, tk, wr, xs, rfl, rfl, ⟨⟨dx, by rw [upd_ne npl]; exact ho⟩, ⟨cs.set (wr % n) v_value, upd_same, by rw [List.length_set, hcs], fun i x hi => ?_⟩, n1, nz, wl, tl, ln, wt⟩, ?_⟩
    · refine hat2 i x ?_
      rw [List.getElem?_append_left (List.getElem?_eq_some_iff.mp hi).1]
      exact hi
    walk_at "r"
    refine k hx _ ⟨⟨dx, upd_same⟩, ⟨cs.set (wr % n) v_value, by rw [upd_ne npl.symm]; exact upd_same, by rw [List.length_set, hcs], hat2⟩, n1, nz, Nat.mod_lt _ (by omega), tl, by rw [List.length_append, List.length_singleton]; omega, ?_⟩ ((Fp.at_ (by simp)).trans (Fp.at_ (by simp)))
    rw [List.length_append, List.length_singleton, wt, Nat.mod_add_mod, Nat.add_assoc]
theorem ok_Ring_first (T : Txt P w K mg base a) : FnOk P w K mg base (L2.CX P w) 3 a.f_Ring_first a.fd_Ring_first ["self"] (sp_Ring_first K a) := by
  have G_Ring_held := ok_Ring_held T
  refine T.F_Ring_first.okX sc_Ring_first (fun vs H Q E h => A1.len h) (fun cdv A outer s H vs Q E hr h => ?_)
  have hu := hu_of hr
  obtain ⟨v_self, rfl, h⟩ := h
  refine ⟨_, (pss_cons (ps_if (pt_cmpR op_eq (pe_meth0S (pv 0) T.cl_Ring T.m_Ring_held G_Ring_held (hr.mono (by decide)) T.b_Ring_held (fun σ => passAt (takes_of rfl rfl rfl rfl) σ)) pe_int (nomark _)) (pss_one (ps_raiseE rfl T.e_RingError (hr.mono (by decide)) (takes_of rfl rfl rfl rfl) rfl pe_int)) pss_nil)
    (pss_one (ps_ret (pe_ix ix_list (pe_fld (pv 0) rfl) (pe_op op_mod (pe_fld (pv 0) rfl) (pe_callB call_ln (by rfl) T.g_len (by decide +kernel) (pa_cons (pe_fld (pv 0) rfl) pa_nil))) (fun _ _ => rfl))))), ?_⟩
  obtain ⟨p, l, n, wr, tk, xs, rfl, R, kf, k⟩ := h
  obtain ⟨⟨dx, ho⟩, ⟨cs, hl, hcs, hat⟩, n1, nz, wl, tl, ln, wt⟩ := id R
  walk_at "r"
  refine a1 ⟨p, l, n, wr, tk, xs, rfl, R, ?_⟩
  walk_at "r"
  refine if_d (fun c => ?_) (fun c => ?_)
  · walk_at "r"
    have c2 : xs = [] := List.eq_nil_of_length_eq_zero (Int.ofNat.inj (V.int.inj c))
    exact ⟨okV_int ⟨by omega, by omega⟩, fun d hd => kf c2 d hd⟩
  · walk_at "r"
    cases hx : xs with
    | nil => exact absurd (by rw [hx]; rfl) c
    | cons x ys =>
      have ew : (tk : Int) % (cs.length : Int) = ((tk % n : Nat) : Int) := by rw [hcs]; push_cast; rfl
      rw [ew]
      have hc := hat 0 x (by rw [hx]; rfl)
      refine o_ixL (Or.inl (Or.inl hl)) (atI_nat hc) ?_
      walk_at "r"
      exact k x ys hx
theorem ok_Ring_take (T : Txt P w K mg base a) : FnOk P w K mg base (L2.CX P w) 4 a.f_Ring_take a.fd_Ring_take ["self"] (sp_Ring_take K a) := by
  have G_Ring_first := ok_Ring_first T
  have G_Ring_next := ok_Ring_next T
  refine T.F_Ring_take.okX sc_Ring_take (fun vs H Q E h => A1.len h) (fun cdv A outer s H vs Q E hr h => ?_)
  have hu := hu_of hr
  obtain ⟨v_self, rfl, h⟩ := h
  refine ⟨_, (pss_cons (ps_set (i := 1) sc_Ring_take.nd rfl (by first | exact Or.inl rfl | exact Or.inr rfl) (pe_meth0S (pv 0) T.cl_Ring T.m_Ring_first G_Ring_first (hr.mono (by decide)) T.b_Ring_first (fun σ => passAt (takes_of rfl rfl rfl rfl) σ)))
    (pss_cons (ps_fld (pv 0) (pe_methS (pv 0) T.cl_Ring T.m_Ring_next G_Ring_next (hr.mono (by decide)) T.b_Ring_next (fun σ => passAt (takes_of rfl rfl rfl rfl) σ) (pa_cons (pe_fld (pv 0) rfl) pa_nil)) rfl)
    (pss_one (ps_ret (pv 1))))), ?_⟩
  obtain ⟨p, l, n, wr, tk, xs, rfl, R, kf, k⟩ := h
  obtain ⟨⟨dx, ho⟩, ⟨cs, hl, hcs, hat⟩, n1, nz, wl, tl, ln, wt⟩ := id R
  have npl := R.ne
  walk_at "r"
  refine a1 ⟨p, l, n, wr, tk, xs, rfl, R, fun e d hd => kf e d hd, fun x ys hx => ?_⟩
  walk_at "r"
  refine a2 ⟨p, l, n, wr, tk, tk, xs, rfl, rfl, R, ?_⟩
  walk_at "r"
  have hln : xs.length = ys.length + 1 := by rw [hx]; rfl
  refine k x ys hx _ ⟨⟨dx, upd_same⟩, ⟨cs, by rw [upd_ne npl.symm]; exact hl, hcs, fun i y hi => ?_⟩, n1, nz, wl, Nat.mod_lt _ (by omega), by omega, ?_⟩ (Fp.at_ (by simp))
  · have h2 := hat (i + 1) y (by rw [hx]; exact hi)
    have e : ((tk + 1) % (2 * n) + i) % n = (tk + (i + 1)) % n := by
      rw [← Nat.mod_add_mod ((tk + 1) % (2 * n)) n i, Nat.mod_mod_of_dvd _ (Nat.dvd_mul_left n 2), Nat.mod_add_mod]
      congr 1
      omega
    rw [e]
    exact h2
  · rw [Nat.mod_add_mod, wt, hln]
    congr 1
    omega
/-! ### pools of buffers -/
def ov : Option Int → V
  | none => .non
  | some z => .int z
abbrev nv (b : Nat) : V := .int (b : Int)
def getO (os : List (Option Int)) (z : Int) : Option Int := if 0 ≤ z then (os[z.toNat]?).getD none else none
def heldF (os : List (Option Int)) (z : Int) (i : Nat) : Option V := if os[i]? = some (some z) then some (.int i) else none
def heldL (os : List (Option Int)) (z : Int) : List V := (List.range os.length).filterMap (heldF os z)
def poorL (os : List (Option Int)) (qs : List Int) : List Int := qs.filter fun q => (heldL os q).isEmpty
def poorF (os : List (Option Int)) (x : V) : Option V := match x with | .int y => if (heldL os y).isEmpty = true then some (.int y) else none | _ => none
theorem poorF_t {os : List (Option Int)} {y : Int} (h : (heldL os y).isEmpty = true) : poorF os (.int y) = some (.int y) := if_pos h
theorem poorF_f {os : List (Option Int)} {y : Int} (h : (heldL os y).isEmpty = false) : poorF os (.int y) = none := if_neg (by rw [h]; exact Bool.false_ne_true)
theorem poor_map (os : List (Option Int)) : ∀ qs : List Int, (qs.map V.int).filterMap (poorF os) = (poorL os qs).map V.int
  | [] => rfl
  | y :: r => by
    cases hy : (heldL os y).isEmpty with
    | true => rw [List.map_cons, List.filterMap_cons_some (poorF_t hy), poor_map os r, poorL, poorL, List.filter_cons_of_pos (p := fun q => (heldL os q).isEmpty) hy, List.map_cons]
    | false => rw [List.map_cons, List.filterMap_cons_none (poorF_f hy), poor_map os r, poorL, poorL, List.filter_cons_of_neg (p := fun q => (heldL os q).isEmpty) (by rw [hy]; exact Bool.false_ne_true)]
def mayB (os : List (Option Int)) (fr : List Nat) (z : Int) (qs : List Int) : Bool := !fr.isEmpty && ((heldL os z).isEmpty || decide ((poorL os qs).length + 1 ≤ fr.length))
structure PoolAt (C CR : Addr) (H : Hp) (p ow pr l : Addr) (n : Nat) (os : List (Option Int)) (fr : List Nat) : Prop where
  ob : ∃ dx, H p = some (.ins C dx (F_Pool (.ref ow) (.ref pr)))
  ol : H ow = some (.lst (os.map ov))
  rg : ∃ wr tk, RingAt CR H pr l n wr tk (fr.map nv)
  ln : os.length = n
  nd : fr.Nodup
  fi : ∀ b, b < n → (b ∈ fr ↔ os[b]? = some none)
  lt : ∀ b ∈ fr, b < n
section
variable {C CR p ow pr l : Addr} {H H1 : Hp} {n : Nat} {os : List (Option Int)} {fr : List Nat} {ft : List Addr}
theorem PoolAt.fp (s : PoolAt C CR H p ow pr l n os fr) (f : Fp ft H H1) (n0 : p ∉ ft) (n1 : ow ∉ ft) (n2 : pr ∉ ft) (n3 : l ∉ ft) : PoolAt C CR H1 p ow pr l n os fr := by
  obtain ⟨⟨dx, z⟩, z1, ⟨wr, tk, R⟩, r1, r2, r3, r4⟩ := s
  exact ⟨⟨dx, f _ _ z n0⟩, f _ _ z1 n1, ⟨wr, tk, R.fp f n2 n3⟩, r1, r2, r3, r4⟩
theorem PoolAt.inn (s : PoolAt C CR H p ow pr l n os fr) : Inn H [p, ow, pr, l] := by
  obtain ⟨⟨dx, z⟩, z1, ⟨wr, tk, R⟩, r⟩ := s
  exact .cons z (.cons z1 R.inn)
theorem PoolAt.le (s : PoolAt C CR H p ow pr l n os fr) : fr.length ≤ n ∧ 1 ≤ n ∧ n ≤ 256 := by
  obtain ⟨wr, tk, R⟩ := s.rg
  have := R.ln
  rw [List.length_map] at this
  exact ⟨this, R.n1, R.nz⟩
end
theorem flat_ov (os : List (Option Int)) : ∀ x ∈ os.map ov, flat x = true := fun x hx => by
  obtain ⟨o, _, rfl⟩ := List.mem_map.mp hx
  cases o <;> rfl
theorem heldF_int {os : List (Option Int)} {z : Int} {i : Nat} {y : V} (h : heldF os z i = some y) : y = .int i := by
  unfold heldF at h
  split at h
  · exact (Option.some.inj h).symm
  · cases h
theorem flat_held (os : List (Option Int)) (z : Int) : ∀ x ∈ heldL os z, flat x = true := fun x hx => by
  obtain ⟨i, _, h⟩ := List.mem_filterMap.mp hx
  rw [heldF_int h]; rfl
theorem held_le (os : List (Option Int)) (z : Int) : (heldL os z).length ≤ os.length := Nat.le_trans (List.length_filterMap_le _ _) (by rw [List.length_range]; exact Nat.le_refl _)
/-- a list that has no double and lies in the first n numbers -/
theorem nd_len {fr : List Nat} {n : Nat} (nd : fr.Nodup) (lt : ∀ b ∈ fr, b < n) : fr.length ≤ n := by
  have := List.Nodup.length_le_of_subset nd (l₂ := List.range n) fun b hb => List.mem_range.mpr (lt b hb)
  rwa [List.length_range] at this
theorem nd_len1 {fr : List Nat} {n b : Nat} (nd : fr.Nodup) (lt : ∀ b ∈ fr, b < n) (hb : b < n) (nb : b ∉ fr) : fr.length < n :=
  nd_len (fr := b :: fr) (List.nodup_cons.mpr ⟨nb, nd⟩) fun x hx => (List.mem_cons.mp hx).elim (fun e => e ▸ hb) (lt x)
def sp_Pool_init (K : PySem.W.Frag) (a : Ads) : Sp := A2 fun s c H Q _ => ∃ (p dx : Addr) (n : Nat), s = .ref p ∧ c = .int n ∧ 1 ≤ n ∧ n ≤ 256 ∧ H p = some (.ins a.C_Pool dx []) ∧
  ∀ ow pr l H1, H ow = none → H pr = none → H l = none → [ow, pr, l].Nodup → PoolAt a.C_Pool a.C_Ring H1 p ow pr l n (List.replicate n none) (List.range n) → Fp [p] H H1 → Q .non H1
def sp_Pool_free (K : PySem.W.Frag) (a : Ads) : Sp := A1 fun s H Q _ => ∃ (p ow pr l : Addr) (n : Nat) (os : List (Option Int)) (fr : List Nat), s = .ref p ∧ PoolAt a.C_Pool a.C_Ring H p ow pr l n os fr ∧ Q (.int fr.length) H
def sp_Pool_exists (K : PySem.W.Frag) (a : Ads) : Sp := A2 fun s v H Q _ => ∃ (p ow pr l : Addr) (n : Nat) (os : List (Option Int)) (fr : List Nat) (z : Int), s = .ref p ∧ v = .int z ∧ PoolAt a.C_Pool a.C_Ring H p ow pr l n os fr ∧ Q (.bl (decide (0 ≤ z ∧ z < n))) H
def sp_Pool_owner (K : PySem.W.Frag) (a : Ads) : Sp := A2 fun s v H Q _ => ∃ (p ow pr l : Addr) (n : Nat) (os : List (Option Int)) (fr : List Nat) (z : Int), s = .ref p ∧ v = .int z ∧ PoolAt a.C_Pool a.C_Ring H p ow pr l n os fr ∧ Q (ov (getO os z)) H
def sp_Pool_held (K : PySem.W.Frag) (a : Ads) : Sp := A2 fun s v H Q _ => ∃ (p ow pr l : Addr) (n : Nat) (os : List (Option Int)) (fr : List Nat) (z : Int), s = .ref p ∧ v = .int z ∧ PoolAt a.C_Pool a.C_Ring H p ow pr l n os fr ∧
  ∀ q H1, H q = none → H1 q = some (.lst (heldL os z)) → Fp [] H H1 → Q (.ref q) H1
def sp_Pool_acquire (K : PySem.W.Frag) (a : Ads) : Sp := A2 fun s v H Q E => ∃ (p ow pr l : Addr) (n : Nat) (os : List (Option Int)) (fr : List Nat) (z : Int), s = .ref p ∧ v = .int z ∧ PoolAt a.C_Pool a.C_Ring H p ow pr l n os fr ∧ [p, ow, pr, l].Nodup ∧
  (fr = [] → ∀ d, H d = none → E (.ref a.C_PoolError) (some d) (upd H d (.xd [("buffer", .int (-1))]))) ∧
  (∀ b r, fr = b :: r → ∀ H1, PoolAt a.C_Pool a.C_Ring H1 p ow pr l n (os.set b (some z)) r → Fp [ow, pr, l] H H1 → Q (.int b) H1)
def sp_Pool_release (K : PySem.W.Frag) (a : Ads) : Sp := A2 fun s v H Q E => ∃ (p ow pr l : Addr) (n : Nat) (os : List (Option Int)) (fr : List Nat) (z : Int), s = .ref p ∧ v = .int z ∧ (-1000000 ≤ z ∧ z ≤ 1000000) ∧ PoolAt a.C_Pool a.C_Ring H p ow pr l n os fr ∧ [p, ow, pr, l].Nodup ∧
  (getO os z = none → ∀ d, H d = none → E (.ref a.C_PoolError) (some d) (upd H d (.xd [("buffer", .int z)]))) ∧
  (∀ y, getO os z = some y → ∀ H1, PoolAt a.C_Pool a.C_Ring H1 p ow pr l n (os.set z.toNat none) (fr ++ [z.toNat]) → Fp [ow, pr, l] H H1 → Q .non H1)
def sp_Pool_may_acquire (K : PySem.W.Frag) (a : Ads) : Sp := A3 fun s v u H Q _ => ∃ (p ow pr l q : Addr) (n : Nat) (os : List (Option Int)) (fr : List Nat) (z : Int) (qs : List Int), s = .ref p ∧ v = .int z ∧ u = .ref q ∧ PoolAt a.C_Pool a.C_Ring H p ow pr l n os fr ∧ H q = some (.lst (qs.map V.int)) ∧ qs.length ≤ 1000 ∧
  ∀ H1, Fp [] H H1 → Q (.bl (mayB os fr z qs)) H1
theorem ok_Pool_init (T : Txt P w K mg base a) : FnOk P w K mg base (L2.CX P w) 4 a.f_Pool_init a.fd_Pool_init ["self", "many"] (sp_Pool_init K a) := by
  have G_Ring_init := ok_Ring_init T
  have G_Ring_put := ok_Ring_put T
  refine T.F_Pool_init.okX sc_Pool_init (fun vs H Q E h => A2.len h) (fun cdv A outer s H vs Q E hr h => ?_)
  have hu := hu_of hr
  obtain ⟨v_self, v_many, rfl, h⟩ := h
  refine ⟨_, (pss_cons (ps_fld (pv 0) (pe_op op_rep (pe_lst (pa_cons pe_non pa_nil)) (pv 1)) rfl)
    (pss_cons (ps_fld (pv 0) (pe_makeS T.mk_Ring G_Ring_init (hr.mono (by decide)) rfl T.g_Ring T.b_Ring_init (fun σ => passAt (takes_of rfl rfl rfl rfl) σ) (pa_cons (pv 1) pa_nil)) rfl)
    (pss_one (ps_for (passes_of rfl) rfl (pi_range1 rfl T.g_range (pa_cons (pv 1) pa_nil)) (pg_name (i := 2) sc_Pool_init.nd rfl (by first | exact Or.inl rfl | exact Or.inr rfl)) (pss_one (ps_expr (pe_methS (pe_fld (pv 0) rfl) T.cl_Ring T.m_Ring_put G_Ring_put (hr.mono (by decide)) T.b_Ring_put (fun σ => passAt (takes_of rfl rfl rfl rfl) σ) (pa_cons (pv 2) pa_nil)))))))), ?_⟩
  obtain ⟨p, dx, n, rfl, rfl, n1, nz, hp, k⟩ := h
  walk_at "r"
  refine ⟨sz (by decide), fun q hq => ?_⟩
  walk_at "r"
  refine o_rep (K := K) upd_same (by omega) (by simp; omega) (by omega) fun ow how => ?_
  have ef : (List.replicate (n : Int).toNat [V.non]).flatten = (List.replicate n none).map ov := by
    rw [Int.toNat_natCast, List.flatten_replicate_singleton, List.map_replicate]; rfl
  rw [ef]
  have f1 : Fp [] H (upd (upd H q (.lst [.non])) ow (.lst ((List.replicate n none).map ov))) := (Fp.new hq).trans (Fp.new how)
  have how0 : H ow = none := (Fp.new (fp := []) (o := .lst [.non]) hq).free (by simp) how
  have g1 : upd (upd H q (.lst [.non])) ow (.lst ((List.replicate n none).map ov)) ow = some (.lst ((List.replicate n none).map ov)) := upd_same
  have hp1 := f1 _ _ hp (by simp)
  generalize upd (upd H q _) ow _ = H1 at f1 g1 hp1 ⊢
  have npo : p ≠ ow := ne_of hp1 g1 (fun z => by cases z)
  walk_at "r"
  intro pr dr npr ndr ne
  have f2 : Fp [p] H (upd H1 p (.ins a.C_Pool dx (putF "_owners" (.ref ow) []))) := (f1.mono (by simp)).trans (Fp.at_ (by simp))
  have hp2 : upd H1 p (.ins a.C_Pool dx (putF "_owners" (.ref ow) [])) p = some (.ins a.C_Pool dx (putF "_owners" (.ref ow) [])) := upd_same
  have g2 : upd H1 p (.ins a.C_Pool dx (putF "_owners" (.ref ow) [])) ow = some (.lst ((List.replicate n none).map ov)) := by rw [upd_ne npo.symm]; exact g1
  generalize upd H1 p (.ins a.C_Pool dx (putF "_owners" (.ref ow) [])) = H2 at f2 hp2 g2 npr ndr ⊢
  have f3 : Fp [] H2 (upd (upd H2 dr (.own pr)) pr (.ins a.C_Ring dr [])) := (Fp.new ndr).trans (Fp.new (by rw [upd_ne ne.symm]; exact npr))
  have hp3 := f3 _ _ hp2 (by simp)
  have g3 := f3 _ _ g2 (by simp)
  have nppr := ne_of_none hp2 npr
  have nopr := ne_of_none g2 npr
  refine a2 ⟨pr, dr, n, rfl, rfl, n1, nz, upd_same, fun l H4 hl R f4 => ⟨rfl, ?_⟩⟩
  have hl2 : H2 l = none := f3.free (by simp) hl
  have npl := ne_of_none hp2 hl2
  have nol := ne_of_none g2 hl2
  have nprl := R.ne
  have f4' : Fp [p] H H4 := f2.trans (Fp.drop (fp := [pr]) ((f3.mono (by simp)).trans f4) fun z hz => by rcases List.mem_singleton.mp hz with rfl; exact .inr npr)
  have hp4 := f4 _ _ hp3 (by simp [nppr])
  have g4 := f4 _ _ g3 (by simp [nopr])
  have hpr0 := f2.free (by simp [nppr.symm]) npr
  have hl0 := f2.free (by simp [npl.symm]) hl2
  clear f1 f2 f3 f4 hp1 hp2 hp3 g1 g2 g3
  walk_at "r"
  have fA : Fp [p] H4 (upd H4 p (.ins a.C_Pool dx (F_Pool (.ref ow) (.ref pr)))) := Fp.at_ (by simp)
  have R5 := R.fp fA (by simp [nppr.symm]) (by simp [npl.symm])
  have f5 : Fp [p] H (upd H4 p (.ins a.C_Pool dx (F_Pool (.ref ow) (.ref pr)))) := f4'.trans (Fp.at_ (by simp))
  have hp5 : upd H4 p (.ins a.C_Pool dx (F_Pool (.ref ow) (.ref pr))) p = some (.ins a.C_Pool dx (F_Pool (.ref ow) (.ref pr))) := upd_same
  have g5 : upd H4 p (.ins a.C_Pool dx (F_Pool (.ref ow) (.ref pr))) ow = some (.lst ((List.replicate n none).map ov)) := by rw [upd_ne npo.symm]; exact g4
  have eF : putF "_free" (.ref pr) (putF "_owners" (.ref ow) []) = F_Pool (.ref ow) (.ref pr) := F_Pool_init
  rw [eF]
  generalize upd H4 p (.ins a.C_Pool dx (F_Pool (.ref ow) (.ref pr))) = H5 at R5 f5 hp5 g5 ⊢
  refine f_rng1 ?_
  walk_at "r"
  refine k_rng (fun i σ H' => ∃ u wr tk, σ = [some (.ref p), some (.int n), u] ∧ RingAt a.C_Ring H' pr l n wr tk ((List.range i).map nv) ∧ Fp [pr, l] H5 H') (by omega) (by omega) ?_ ?_ ?_
  · exact ⟨none, 0, 0, rfl, R5, Fp.refl _ _⟩
  · rintro i σ H' hi ⟨u, wr, tk, rfl, Ri, fi⟩
    have hpi := fi _ _ hp5 (by simp [nppr, npl])
    obtain ⟨⟨dr2, hr2⟩, _⟩ := id Ri
    walk_at "r"
    refine a2 ⟨pr, l, n, wr, tk, _, rfl, Ri, fun e => ?_, fun _ H6 R6 f6 => ?_⟩
    · rw [List.length_map, List.length_range] at e; omega
    · walk_at "r"
      exact ⟨_, _, _, rfl, by rw [List.range_succ, List.map_append]; exact R6, fi.trans f6⟩
  · rintro σ H' ⟨u, wr, tk, rfl, Ri, fi⟩
    walk_at "r"
    rw [Int.toNat_natCast] at Ri
    refine k ow pr l _ how0 hpr0 hl0 (by simp [nopr, nol, nprl]) ⟨⟨dx, fi _ _ hp5 (by simp [nppr, npl])⟩, fi _ _ g5 (by simp [nopr, nol]), ⟨_, _, Ri⟩, by simp, List.nodup_range, fun b hb => ?_, fun b hb => List.mem_range.mp hb⟩ ?_
    · rw [List.mem_range, List.getElem?_replicate, if_pos hb]; simp [hb]
    · exact Fp.drop (fp := [p, pr, l]) ((f5.mono (by simp)).trans (fi.mono (by simp))) fun z hz => by
        simp only [List.mem_cons, List.not_mem_nil, or_false] at hz
        rcases hz with rfl | rfl | rfl
        · exact .inl (by simp)
        · exact .inr hpr0
        · exact .inr hl0
theorem ok_Pool_free (T : Txt P w K mg base a) : FnOk P w K mg base (L2.CX P w) 2 a.f_Pool_free a.fd_Pool_free ["self"] (sp_Pool_free K a) := by
  have G_Ring_held := ok_Ring_held T
  refine T.F_Pool_free.okX sc_Pool_free (fun vs H Q E h => A1.len h) (fun cdv A outer s H vs Q E hr h => ?_)
  have hu := hu_of hr
  obtain ⟨v_self, rfl, h⟩ := h
  refine ⟨_, (pss_one (ps_ret (pe_meth0S (pe_fld (pv 0) rfl) T.cl_Ring T.m_Ring_held G_Ring_held (hr.mono (by decide)) T.b_Ring_held (fun σ => passAt (takes_of rfl rfl rfl rfl) σ)))), ?_⟩
  obtain ⟨p, ow, pr, l, n, os, fr, rfl, B, k⟩ := h
  obtain ⟨⟨dx, hp⟩, hol, ⟨wr, tk, R⟩, _⟩ := id B
  obtain ⟨⟨dr, ho⟩, _⟩ := id R
  walk_at "r"
  refine a1 ⟨pr, l, n, wr, tk, _, rfl, R, ?_⟩
  rw [List.length_map]
  exact k
theorem ok_Pool_exists (T : Txt P w K mg base a) : FnOk P w K mg base (L2.CX P w) 1 a.f_Pool_exists a.fd_Pool_exists ["self", "buffer"] (sp_Pool_exists K a) := by
  refine T.F_Pool_exists.okX sc_Pool_exists (fun vs H Q E h => A2.len h) (fun cdv A outer s H vs Q E hr h => ?_)
  have hu := hu_of hr
  obtain ⟨v_self, v_buffer, rfl, h⟩ := h
  refine ⟨_, (pss_one (ps_ret (pe_chain op_le op_lt pe_int (pv 1) (pe_callB call_ln (by rfl) T.g_len (by decide +kernel) (pa_cons (pe_fld (pv 0) rfl) pa_nil))))), ?_⟩
  obtain ⟨p, ow, pr, l, n, os, fr, z, rfl, rfl, B, k⟩ := h
  obtain ⟨⟨dx, hp⟩, hol, ⟨wr, tk, R⟩, hln, _⟩ := id B
  walk_at "r"
  refine if_d (fun c => ?_) (fun c => ?_)
  · walk_at "r"
    rw [List.length_map, hln, show decide (z < (n : Int)) = decide (0 ≤ z ∧ z < n) from decide_eq_decide.mpr ⟨fun h => ⟨c, h⟩, fun h => h.2⟩]
    exact k
  · rw [decide_eq_false (fun h => c h.1)] at k
    exact k
theorem ok_Pool_owner (T : Txt P w K mg base a) : FnOk P w K mg base (L2.CX P w) 2 a.f_Pool_owner a.fd_Pool_owner ["self", "buffer"] (sp_Pool_owner K a) := by
  have G_Pool_exists := ok_Pool_exists T
  refine T.F_Pool_owner.okX sc_Pool_owner (fun vs H Q E h => A2.len h) (fun cdv A outer s H vs Q E hr h => ?_)
  have hu := hu_of hr
  obtain ⟨v_self, v_buffer, rfl, h⟩ := h
  refine ⟨_, (pss_cons (ps_if (pt_not (pt_val (pe_methS (pv 0) T.cl_Pool T.m_Pool_exists G_Pool_exists (hr.mono (by decide)) T.b_Pool_exists (fun σ => passAt (takes_of rfl rfl rfl rfl) σ) (pa_cons (pv 1) pa_nil)))) (pss_one (ps_ret pe_non)) pss_nil)
    (pss_one (ps_ret (pe_ix ix_list (pe_fld (pv 0) rfl) (pv 1) (fun _ _ => rfl))))), ?_⟩
  obtain ⟨p, ow, pr, l, n, os, fr, z, rfl, rfl, B, k⟩ := h
  obtain ⟨⟨dx, hp⟩, hol, ⟨wr, tk, R⟩, hln, _⟩ := id B
  walk_at "r"
  refine a2 ⟨p, ow, pr, l, n, os, fr, z, rfl, rfl, B, ?_⟩
  walk_at "r"
  by_cases c : 0 ≤ z ∧ z < n
  · rw [decide_eq_true c]
    refine iteF ?_
    walk_at "r"
    obtain ⟨m, rfl⟩ : ∃ m : Nat, z = m := ⟨z.toNat, by omega⟩
    have hm : m < os.length := by omega
    have e1 : os[m]? = some os[m] := List.getElem?_eq_getElem hm
    refine o_ixL (Or.inl (Or.inl hol)) (atI_nat (by rw [List.getElem?_map, e1]; rfl)) ?_
    walk_at "r"
    rw [getO, if_pos (by omega), Int.toNat_natCast, e1] at k
    exact k
  · rw [decide_eq_false c]
    refine iteT ?_
    walk_at "r"
    have e : getO os z = none := by
      unfold getO
      split
      · rw [List.getElem?_eq_none (by omega)]; rfl
      · rfl
    rw [e] at k
    exact k
theorem ok_Pool_held (T : Txt P w K mg base a) : FnOk P w K mg base (L2.CX P w) 1 a.f_Pool_held a.fd_Pool_held ["self", "owner"] (sp_Pool_held K a) := by
  refine T.F_Pool_held.okX sc_Pool_held (fun vs H Q E h => A2.len h) (fun cdv A outer s H vs Q E hr h => ?_)
  have hu := hu_of hr
  obtain ⟨v_self, v_owner, rfl, h⟩ := h
  refine ⟨_, (pss_one (ps_ret (pe_lc (own := [("buffer", 2), ("holder", 3)]) (g := (gTup K 2 (gCons (gName 2) (gCons (gName 3) gNil)))) (tt := (tTest (tOp rEq (tVar 3) (tVar 1)))) (te := (tVar 2)) rfl sc_Pool_held.nd (pi_enum rfl T.g_enumerate (pa_cons (pe_fld (pv 0) rfl) pa_nil)) (blkOk_by (N := ["self", "owner", "buffer", "holder"]) (sc := defScope s_Pool_held) (own := [("buffer", 2), ("holder", 3)]) (by decide +kernel)) (fun _ _ _ _ _ => by exact (pg_tup rfl (pgs_cons (pg_name (i := 2) sc_Pool_held.nd rfl (by first | exact Or.inl rfl | exact Or.inr rfl)) (pgs_cons (pg_name (i := 3) sc_Pool_held.nd rfl (by first | exact Or.inl rfl | exact Or.inr rfl)) pgs_nil)))) (fun _ _ _ _ _ => by exact (pts_one (pt_cmpR op_eq (pv 3) (pv 1) (nomark _)))) (fun _ _ _ _ _ => by exact (pv 2))))), ?_⟩
  obtain ⟨p, ow, pr, l, n, os, fr, z, rfl, rfl, B, k⟩ := h
  obtain ⟨⟨dx, hp⟩, hol, ⟨wr, tk, R⟩, hln, _⟩ := id B
  have hle := B.le
  walk_at "r"
  refine k_lcE (xs := os.map ov) (heldF os z) (Or.inl (Or.inl hol)) (by rw [List.length_map]; omega) (fun E2 T i x H' R N hE hx hT hacc F kR kN => ?_) fun E2 H' hE hacc F => ?_
  · obtain ⟨o, e1, rfl⟩ : ∃ o, os[i]? = some o ∧ ov o = x := by rw [List.getElem?_map] at hx; simpa using hx
    refine g_tup (Or.inl (Or.inl hT)) rfl ?_
    walk_at "r"
    refine ⟨rfl, ?_⟩
    walk_at "r"
    refine o_eq (by cases o <;> rfl) ?_
    walk_at "r"
    refine if_d (fun c => ?_) (fun c => ?_)
    · walk_at "r"
      have eo : o = some z := by cases o with
        | none => cases c
        | some y => rw [V.int.inj c]
      exact kR _ _ (by rw [heldF, e1, eo, if_pos rfl]) (Fp.refl _ _)
    · exact kN (by rw [heldF, e1, if_neg (fun e => c (by rw [Option.some.inj e]; rfl))]) _ (Fp.refl _ _)
  · rw [List.length_map] at hacc
    exact k E2 _ hE hacc F
theorem ok_Pool_acquire (T : Txt P w K mg base a) : FnOk P w K mg base (L2.CX P w) 5 a.f_Pool_acquire a.fd_Pool_acquire ["self", "owner"] (sp_Pool_acquire K a) := by
  have G_Pool_free := ok_Pool_free T
  have G_Ring_take := ok_Ring_take T
  refine T.F_Pool_acquire.okX sc_Pool_acquire (fun vs H Q E h => A2.len h) (fun cdv A outer s H vs Q E hr h => ?_)
  have hu := hu_of hr
  obtain ⟨v_self, v_owner, rfl, h⟩ := h
  refine ⟨_, (pss_cons (ps_if (pt_cmpR op_eq (pe_meth0S (pv 0) T.cl_Pool T.m_Pool_free G_Pool_free (hr.mono (by decide)) T.b_Pool_free (fun σ => passAt (takes_of rfl rfl rfl rfl) σ)) pe_int (nomark _)) (pss_one (ps_raiseE rfl T.e_PoolError (hr.mono (by decide)) (takes_of rfl rfl rfl rfl) rfl (pe_un un_neg pe_int))) pss_nil)
    (pss_cons (ps_set (i := 2) sc_Pool_acquire.nd rfl (by first | exact Or.inl rfl | exact Or.inr rfl) (pe_meth0S (pe_fld (pv 0) rfl) T.cl_Ring T.m_Ring_take G_Ring_take (hr.mono (by decide)) T.b_Ring_take (fun σ => passAt (takes_of rfl rfl rfl rfl) σ)))
    (pss_cons (ps_asg (pv 1) (pg_sub (pe_fld (pv 0) rfl) (pv 2) set_list))
    (pss_one (ps_ret (pv 2)))))), ?_⟩
  obtain ⟨p, ow, pr, l, n, os, fr, z, rfl, rfl, B, nd, kf, kt⟩ := h
  obtain ⟨⟨dx, hp⟩, hol, ⟨wr, tk, R⟩, hln, hnd, hfi, hlt⟩ := id B
  obtain ⟨⟨dr, ho⟩, _⟩ := id R
  have nd := nd
  simp only [List.nodup_cons, List.mem_cons, List.not_mem_nil, or_false, not_or, List.append_nil, List.cons_append, List.nil_append] at nd
  obtain ⟨⟨n_p_ow, n_p_pr, n_p_l⟩, ⟨n_ow_pr, n_ow_l⟩, n_pr_l, _⟩ := nd
  walk_at "r"
  refine a1 ⟨p, ow, pr, l, n, os, fr, rfl, B, ?_⟩
  walk_at "r"
  cases hfr : fr with
  | nil =>
    refine if_dT rfl ?_
    walk_at "r"
    exact ⟨okV_int ⟨by omega, by omega⟩, fun d hd => kf hfr d hd⟩
  | cons b r =>
    refine if_dF (by simp; omega) ?_
    walk_at "r"
    rw [hfr] at R hnd hfi hlt
    refine a1 ⟨pr, l, n, wr, tk, _, rfl, R, (fun e => by cases e), fun x ys e H1 R1 f1 => ?_⟩
    obtain ⟨rfl, rfl⟩ := List.cons.inj e
    have hp1 := f1 _ _ hp (by walk_at "nin")
    have ol1 := f1 _ _ hol (by walk_at "nin")
    have hb := hlt b List.mem_cons_self
    obtain ⟨nb, ndr⟩ := List.nodup_cons.mp hnd
    walk_at "r"
    refine c_setL (j := b) ol1 rfl (by rw [List.length_map]; omega) ?_
    have f2 : Fp [ow] H1 (upd H1 ow (.lst ((os.map ov).set b (.int z)))) := Fp.at_ (by simp)
    have o2 : upd H1 ow (.lst ((os.map ov).set b (.int z))) ow = some (.lst ((os.set b (some z)).map ov)) := by rw [upd_same, List.map_set]; rfl
    generalize upd H1 ow _ = H2 at f2 o2 ⊢
    walk_at "r"
    refine kt b r hfr _ ⟨⟨dx, f2 _ _ hp1 (by walk_at "nin")⟩, o2, ⟨_, _, R1.fp f2 (by walk_at "nin") (by walk_at "nin")⟩, by rw [List.length_set]; exact hln, ndr, fun c hc => ?_, fun c hc => hlt c (List.mem_cons_of_mem _ hc)⟩ ((f1.mono (by simp)).trans (f2.mono (by simp)))
    by_cases e : c = b
    · subst e
      rw [List.getElem?_set_self (by omega)]
      exact ⟨fun z => absurd z nb, fun z => by cases z⟩
    · rw [List.getElem?_set_ne (fun z => e z.symm), ← hfi c hc, List.mem_cons]
      exact ⟨.inr, fun z => z.elim (fun y => absurd y e) id⟩
theorem ok_Pool_release (T : Txt P w K mg base a) : FnOk P w K mg base (L2.CX P w) 4 a.f_Pool_release a.fd_Pool_release ["self", "buffer"] (sp_Pool_release K a) := by
  have G_Pool_owner := ok_Pool_owner T
  have G_Ring_put := ok_Ring_put T
  refine T.F_Pool_release.okX sc_Pool_release (fun vs H Q E h => A2.len h) (fun cdv A outer s H vs Q E hr h => ?_)
  have hu := hu_of hr
  obtain ⟨v_self, v_buffer, rfl, h⟩ := h
  refine ⟨_, (pss_cons (ps_if (pt_cmpR op_isN (pe_methS (pv 0) T.cl_Pool T.m_Pool_owner G_Pool_owner (hr.mono (by decide)) T.b_Pool_owner (fun σ => passAt (takes_of rfl rfl rfl rfl) σ) (pa_cons (pv 1) pa_nil)) pe_non (nomark _)) (pss_one (ps_raiseE rfl T.e_PoolError (hr.mono (by decide)) (takes_of rfl rfl rfl rfl) rfl (pv 1))) pss_nil)
    (pss_cons (ps_asg pe_non (pg_sub (pe_fld (pv 0) rfl) (pv 1) set_list))
    (pss_one (ps_expr (pe_methS (pe_fld (pv 0) rfl) T.cl_Ring T.m_Ring_put G_Ring_put (hr.mono (by decide)) T.b_Ring_put (fun σ => passAt (takes_of rfl rfl rfl rfl) σ) (pa_cons (pv 1) pa_nil)))))), ?_⟩
  obtain ⟨p, ow, pr, l, n, os, fr, z, rfl, rfl, ⟨hz1, hz2⟩, B, nd, kf, kt⟩ := h
  obtain ⟨⟨dx, hp⟩, hol, ⟨wr, tk, R⟩, hln, hnd, hfi, hlt⟩ := id B
  obtain ⟨⟨dr, ho⟩, _⟩ := id R
  have nd := nd
  simp only [List.nodup_cons, List.mem_cons, List.not_mem_nil, or_false, not_or, List.append_nil, List.cons_append, List.nil_append] at nd
  obtain ⟨⟨n_p_ow, n_p_pr, n_p_l⟩, ⟨n_ow_pr, n_ow_l⟩, n_pr_l, _⟩ := nd
  walk_at "r"
  refine a2 ⟨p, ow, pr, l, n, os, fr, z, rfl, rfl, B, ?_⟩
  walk_at "r"
  refine ⟨rfl, ?_⟩
  walk_at "r"
  cases hg : getO os z with
  | none =>
    refine if_dT rfl ?_
    walk_at "r"
    exact ⟨okV_int ⟨by omega, by omega⟩, fun d hd => kf hg d hd⟩
  | some y =>
    refine if_dF (fun e => by cases e) ?_
    have hz0 : 0 ≤ z := by
      unfold getO at hg
      split at hg
      · assumption
      · cases hg
    obtain ⟨b, rfl⟩ : ∃ b : Nat, z = b := ⟨z.toNat, by omega⟩
    have hg2 : os[b]? = some (some y) := by
      unfold getO at hg
      rw [if_pos hz0, Int.toNat_natCast] at hg
      cases h : os[b]? with
      | none => rw [h] at hg; cases hg
      | some o => rw [h] at hg; exact congrArg some hg
    have hb : b < n := by rw [← hln]; exact (List.getElem?_eq_some_iff.mp hg2).1
    have nb : b ∉ fr := fun z => by have := (hfi b hb).mp z; rw [hg2] at this; cases this
    have hfl := nd_len1 hnd hlt hb nb
    walk_at "r"
    refine c_setL (j := b) hol rfl (by rw [List.length_map]; omega) ?_
    have f2 : Fp [ow] H (upd H ow (.lst ((os.map ov).set b .non))) := Fp.at_ (by simp)
    have o2 : upd H ow (.lst ((os.map ov).set b .non)) ow = some (.lst ((os.set b none).map ov)) := by rw [upd_same, List.map_set]; rfl
    have R2 := R.fp f2 (by walk_at "nin") (by walk_at "nin")
    have hp2 := f2 _ _ hp (by walk_at "nin")
    have hr2 := f2 _ _ ho (by walk_at "nin")
    generalize upd H ow _ = H2 at f2 o2 R2 hp2 hr2 ⊢
    walk_at "r"
    refine a2 ⟨pr, l, n, wr, tk, _, rfl, R2, (fun e => by rw [List.length_map] at e; omega), fun _ H3 R3 f3 => ?_⟩
    walk_at "r"
    rw [Int.toNat_natCast] at kt
    refine kt y hg _ ⟨⟨dx, f3 _ _ hp2 (by walk_at "nin")⟩, f3 _ _ o2 (by walk_at "nin"), ⟨_, _, by rw [List.map_append]; exact R3⟩, by rw [List.length_set]; exact hln, ?_, fun c hc => ?_, fun c hc => ?_⟩ ((f2.mono (by simp)).trans (f3.mono (by simp)))
    · rw [List.nodup_append]
      exact ⟨hnd, by simp, fun x hx y hy e => nb (by rw [List.mem_singleton.mp hy] at e; exact e ▸ hx)⟩
    · by_cases e : c = b
      · subst e
        rw [List.getElem?_set_self (by omega)]
        simp
      · rw [List.getElem?_set_ne (fun z => e z.symm), ← hfi c hc]
        simp [e]
    · rcases List.mem_append.mp hc with hc | hc
      · exact hlt c hc
      · rw [List.mem_singleton.mp hc]; exact hb
theorem ok_Pool_may_acquire (T : Txt P w K mg base a) : FnOk P w K mg base (L2.CX P w) 3 a.f_Pool_may_acquire a.fd_Pool_may_acquire ["self", "owner", "owners"] (sp_Pool_may_acquire K a) := by
  have G_Pool_free := ok_Pool_free T
  have G_Pool_held := ok_Pool_held T
  refine T.F_Pool_may_acquire.okX sc_Pool_may_acquire (fun vs H Q E h => A3.len h) (fun cdv A outer s H vs Q E hr h => ?_)
  have hu := hu_of hr
  obtain ⟨v_self, v_owner, v_owners, rfl, h⟩ := h
  refine ⟨_, (pss_cons (ps_if (pt_cmpR op_eq (pe_meth0S (pv 0) T.cl_Pool T.m_Pool_free G_Pool_free (hr.mono (by decide)) T.b_Pool_free (fun σ => passAt (takes_of rfl rfl rfl rfl) σ)) pe_int (nomark _)) (pss_one (ps_ret pe_bl)) pss_nil)
    (pss_cons (ps_if (pt_not (pt_tr (pe_methS (pv 0) T.cl_Pool T.m_Pool_held G_Pool_held (hr.mono (by decide)) T.b_Pool_held (fun σ => passAt (takes_of rfl rfl rfl rfl) σ) (pa_cons (pv 1) pa_nil)) (by intro _; rfl))) (pss_one (ps_ret pe_bl)) pss_nil)
    (pss_cons (ps_setLc (i := 3) (own := [("other", 4)]) (g := (gName 4)) (tt := (tNot (tTr K (tMethS a.C_Pool "held" (sp_Pool_held K a) (WE (fun _ _ _ _ => False)) (tVar 0) (tCons (tVar 4) tNil))))) (te := (tVar 4)) rfl sc_Pool_may_acquire.nd rfl rfl (sw_true rfl rfl rfl (by decide +kernel)) (pi_list (pv 2)) (blkOk_by (N := ["self", "owner", "owners", "without", "other"]) (sc := defScope s_Pool_may_acquire) (own := [("other", 4)]) (by decide +kernel)) (fun _ _ _ _ _ => by exact (pg_name (i := 4) sc_Pool_may_acquire.nd rfl (by first | exact Or.inl rfl | exact Or.inr rfl))) (fun _ _ _ _ _ => by exact (pts_one (pt_not (pt_tr (pe_methS (pv 0) T.cl_Pool T.m_Pool_held G_Pool_held (hr.mono (by decide)) T.b_Pool_held (fun σ => passNo) (pa_cons (pv 4) pa_nil)) (by intro _; rfl))))) (fun _ _ _ _ _ => by exact (pv 4)))
    (pss_one (ps_ret (pe_cmpR op_ge (pe_op op_sub (pe_meth0S (pv 0) T.cl_Pool T.m_Pool_free G_Pool_free (hr.mono (by decide)) T.b_Pool_free (fun σ => passAt (takes_of rfl rfl rfl rfl) σ)) pe_int) (pe_callB call_ln (by rfl) T.g_len (by decide +kernel) (pa_cons (pv 3) pa_nil)) (nomark _))))))), ?_⟩
  obtain ⟨p, ow, pr, l, q, n, os, fr, z, qs, rfl, rfl, rfl, B, hq, hql, k⟩ := h
  obtain ⟨⟨dx, hp⟩, _⟩ := id B
  have hle := B.le
  have hln := B.ln
  walk_at "r"
  refine a1 ⟨p, ow, pr, l, n, os, fr, rfl, B, ?_⟩
  walk_at "r"
  cases hfr : fr with
  | nil =>
    refine if_dT rfl ?_
    walk_at "r"
    rw [hfr] at k
    exact k _ (Fp.refl _ _)
  | cons b r =>
    rw [← hfr]
    have hne : fr.isEmpty = false := by rw [hfr]; rfl
    have hfl : fr.length = r.length + 1 := by rw [hfr]; rfl
    refine if_dF (fun e => by have := int_inj e; omega) ?_
    walk_at "r"
    refine a2 ⟨p, ow, pr, l, n, os, fr, z, rfl, rfl, B, fun q1 H1 hq1 g1 f1 => ?_⟩
    have B1 := B.fp f1 (by simp) (by simp) (by simp) (by simp)
    have hqq := f1 _ _ hq (by simp)
    walk_at "r"
    cases hh : (heldL os z).isEmpty with
    | true =>
      refine iteT ?_
      walk_at "r"
      have e : mayB os fr z qs = true := by rw [mayB, hne, hh]; rfl
      rw [e] at k
      exact k _ f1
    | false =>
      refine iteF ?_
      obtain ⟨⟨dx1, hp1⟩, _⟩ := id B1
      walk_at "r"
      refine lc_filt (xs := qs.map V.int) (poorF os) rfl (Or.inl (Or.inl hqq)) (by rw [List.length_map]; omega) (fun E2 i x H' R N hE hx hacc F kR kN => ?_) fun E2 H2 hE hacc F => ?_
      · obtain ⟨y, _, rfl⟩ := List.mem_map.mp (List.mem_of_getElem? hx)
        refine ⟨rfl, ?_⟩
        have hp2 := F _ _ hp1 (by simp)
        walk_at "r"
        refine a2 ⟨p, ow, pr, l, n, os, fr, y, rfl, rfl, B1.fp F (by simp) (by simp) (by simp) (by simp), fun q3 H3 hq3 g3 f3 => ?_⟩
        walk_at "r"
        cases hy : (heldL os y).isEmpty with
        | true =>
          refine iteT ?_
          walk_at "r"
          exact kR _ _ (poorF_t hy) f3
        | false =>
          refine iteF ?_
          exact kN (poorF_f hy) _ f3
      · rw [poor_map] at hacc
        have B2 := B1.fp F (by simp) (by simp) (by simp) (by simp)
        obtain ⟨⟨dx2, hp2⟩, _⟩ := id B2
        walk_at "r"
        refine a1 ⟨p, ow, pr, l, n, os, fr, rfl, B2, ?_⟩
        walk_at "r"
        have e : decide (((List.map V.int (poorL os qs)).length : Int) ≤ (fr.length : Int) - 1) = mayB os fr z qs := by
          rw [mayB, hne, hh, List.length_map]
          simp only [Bool.not_false, Bool.true_and, Bool.false_or]
          refine decide_eq_decide.mpr ?_
          omega
        rw [e]
        exact k _ (f1.trans F)
end
end My
set_option Elab.async false
set_option maxRecDepth 100000
set_option maxHeartbeats 100000000
set_option linter.all false
namespace My
open PySem L2 Sx Rd
local macro_rules | `(tactic| walk_at "ne") => `(tactic| (first | with_reducible assumption | with_reducible exact Ne.symm (by with_reducible assumption)))
local macro_rules | `(tactic| walk_at "nin") => `(tactic| (simp only [List.mem_cons, List.not_mem_nil, or_false, not_or, not_false_eq_true]; (repeat' refine And.intro ?_ ?_); (all_goals walk_at "ne")))
local macro_rules | `(tactic| walk_at "hl") => `(tactic| (first | (with_reducible assumption) | exact upd_same | ((with_reducible refine' (upd_ne ?hne).trans ?hgo); (case hne => walk_at "ne"); (case hgo => walk_at "hl"))))
local macro_rules | `(tactic| walk_at "sq") => `(tactic| (first | (with_reducible assumption) | exact Or.inl (Or.inl (by walk_at "hl"))))
local macro_rules | `(tactic| walk_at "ar") => `(tactic| (first | omega | exact ⟨by omega, by omega⟩ | exact Or.inl ⟨by omega, by omega⟩ | exact Or.inr ⟨by omega, by omega⟩ | (show (0 : Int) < _; omega) | (show (0 : Int) < _ ∧ _ < (1073741824 : Int); omega)))
local macro_rules | `(tactic| walk_at "cls") => `(tactic| (first | exact Txt.cl_Ring (by assumption) | exact Txt.cl_Pool (by assumption)))
local macro_rules | `(tactic| walk_at "noa") => `(tactic| (first | exact Txt.n_Ring_cells (by assumption) | exact Txt.n_Ring_written (by assumption) | exact Txt.n_Ring_taken (by assumption) | exact Txt.n_Pool_owners (by assumption) | exact Txt.n_Pool_free (by assumption)))
local macro_rules | `(tactic| walk_at "lkp") => `(tactic| (first | (with_reducible exact F_Ring_cells_l) | (with_reducible exact F_Ring_written_l) | (with_reducible exact F_Ring_taken_l) | (with_reducible exact F_Pool_owners_l) | (with_reducible exact F_Pool_free_l)))
local macro_rules | `(tactic| walk_at "ptf") => `(tactic| (first | (with_reducible exact F_Ring_cells_p) | (with_reducible exact F_Ring_written_p) | (with_reducible exact F_Ring_taken_p) | (with_reducible exact F_Pool_owners_p) | (with_reducible exact F_Pool_free_p) | exact rfl))
local macro_rules | `(tactic| walk_at "lnF") => `(tactic| (first | (with_reducible exact F_Ring_len) | (with_reducible exact F_Pool_len) | (refine PL.lt (n := 60) ?_ (by decide); (repeat refine PL.put ?_); exact PL.nil) | decide))
local macro_rules | `(tactic| walk_at "nol") => `(tactic| (first | (with_reducible exact F_Ring_m_held) | (with_reducible exact F_Ring_m_is_full) | (with_reducible exact F_Ring_m_put) | (with_reducible exact F_Ring_m_first) | (with_reducible exact F_Ring_m_take) | (with_reducible exact F_Ring_m_listed) | (with_reducible exact F_Ring_m_next) | (with_reducible exact F_Pool_m_free) | (with_reducible exact F_Pool_m_owner) | (with_reducible exact F_Pool_m_held) | (with_reducible exact F_Pool_m_acquire) | (with_reducible exact F_Pool_m_release) | (with_reducible exact F_Pool_m_may_acquire) | (with_reducible exact F_Pool_m_exists)))
local macro_rules | `(tactic| walk_at "r1") => `(tactic| (first
  | with_reducible apply l_cons | ((with_reducible apply e_var); (case h => exact rfl)) | with_reducible apply l_nil | with_reducible apply s_seq | with_reducible apply e_c | with_reducible apply g_name
  | with_reducible apply s_asg | with_reducible apply e_call | with_reducible apply k_t | with_reducible apply e_op | with_reducible apply e_cb | with_reducible apply t_test
  | with_reducible apply s_if | with_reducible apply t_or | with_reducible apply t_and | with_reducible apply t_B | with_reducible apply s_next | with_reducible apply p_some
  | with_reducible apply p_no | with_reducible apply e_sl | with_reducible apply k_i | with_reducible apply e_lst | with_reducible apply t_not | with_reducible apply o_I0
  | ((with_reducible refine' o_I ?hc ?_); (case hc => walk_at "ar")) | with_reducible apply e_meth | ((with_reducible refine' k_meth ?h1 ?h2 ?_); (case h1 => walk_at "hl"); (case h2 => walk_at "nol")) | with_reducible apply e_fld | ((with_reducible refine' k_fld ?h1 ?h2 ?h3 ?h4 ?_); (case h1 => walk_at "hl"); (case h2 => walk_at "cls"); (case h3 => walk_at "noa"); (case h4 => walk_at "lkp")) | with_reducible apply e_not
  | with_reducible apply s_ret | ((with_reducible refine' k_ty ?h1 ?_); (case h1 => walk_at "sq")) | with_reducible apply s_drop | with_reducible apply s_retN | with_reducible apply s_cont | with_reducible apply s_break
  | with_reducible apply o_chC | ((with_reducible refine' o_chV ?hv ?_); (case hv => exact rfl)) | with_reducible apply e_un | with_reducible apply o_U | ((with_reducible refine' o_eq ?hs ?_); (case hs => exact rfl)) | ((with_reducible refine' o_ne ?hs ?_); (case hs => exact rfl))
  | ((with_reducible refine' o_ixL ?h1 ?h2 ?_); (case h1 => walk_at "sq"); (case h2 => first | exact rfl | exact atI_zero _ _)) | with_reducible apply s_fld | with_reducible apply e_make | ((with_reducible refine' k_set ?h1 ?h2 ?h3 ?h4 ?h5 ?_); (case h1 => walk_at "hl"); (case h2 => walk_at "cls"); (case h3 => walk_at "noa"); (case h4 => walk_at "ptf"); (case h5 => walk_at "lnF")) | with_reducible apply e_tup | with_reducible apply e_bm
  | with_reducible apply e_bm0 | with_reducible apply e_if | with_reducible apply e_chain | with_reducible apply s_raise | with_reducible apply g_sub | ((with_reducible refine' c_ln ?h1 ?_); (case h1 => walk_at "sq"))
  | ((with_reducible refine' c_pop0 ?h1 ?h2 ?_); (case h1 => walk_at "hl"); (case h2 => omega)) | with_reducible apply c_isBool | with_reducible apply c_isInt | with_reducible apply c_isBoolN | with_reducible apply c_isTupI | with_reducible apply c_isNonB
  | with_reducible apply c_isNonT | ((with_reducible refine' c_isList ?h1 ?_); (case h1 => walk_at "hl")) | ((with_reducible refine' c_isTup ?h1 ?_); (case h1 => walk_at "hl")) | ((with_reducible refine' c_isTupB ?h1 ?_); (case h1 => walk_at "hl")) | with_reducible apply o_isB | with_reducible apply o_notB
  | with_reducible apply e_and | with_reducible apply e_or | with_reducible apply k_bl | with_reducible apply e_xf | with_reducible apply s_augS | ((with_reducible refine' s_augV ?hv ?_); (case hv => exact rfl))
  | with_reducible apply ip_I | with_reducible apply e_lcE | ((with_reducible refine' k_xf ?h1 ?h2 ?_); (case h1 => walk_at "hl"); (case h2 => exact look_hit _ _ _)) | ((with_reducible refine' o_slL ?h1 ?_); (case h1 => walk_at "sq")) | ((with_reducible refine' k_dget ?h1 ?h2 ?_); (case h1 => walk_at "hl"); (case h2 => with_reducible assumption)) | with_reducible apply e_dget
  | with_reducible apply s_dput | with_reducible apply e_makeK | with_reducible apply g_cons | with_reducible apply g_nil | with_reducible apply c_ab | with_reducible apply c_in
  | with_reducible apply c_mx | with_reducible apply c_mn | with_reducible apply a1 | with_reducible apply a2 | with_reducible apply a3 | with_reducible apply a4
  | with_reducible apply a5 | with_reducible apply a6 | with_reducible apply a0 | with_reducible apply t_tru | with_reducible apply t_yes | ((with_reducible refine' k_truL ?h1 ?_); (case h1 => walk_at "sq")) | with_reducible refine d_nx ?_ | with_reducible refine d_rt ?_ | with_reducible refine d_bk ?_
  | with_reducible refine d_ct ?_))
local macro_rules | `(tactic| walk_at "r") => `(tactic| (repeat walk_at "r1"))
section
variable {P : Program} {w : World} {K : PySem.W.Frag} {mg : Str → Option Value} {base : Heap} {a : Ads}
/-! ### counting -/
theorem fm_congr {α β : Type} {f g : α → Option β} : ∀ {l : List α}, (∀ x ∈ l, f x = g x) → l.filterMap f = l.filterMap g
  | [], _ => rfl
  | x :: r, h => by rw [List.filterMap_cons, List.filterMap_cons, h x List.mem_cons_self, fm_congr (l := r) fun y hy => h y (List.mem_cons_of_mem _ hy)]
theorem heldL_snoc (os : List (Option Int)) (o : Option Int) (z : Int) : heldL (os ++ [o]) z = heldL os z ++ (if o = some z then [.int (os.length : Nat)] else []) := by
  unfold heldL
  rw [List.length_append, List.length_singleton, List.range_succ, List.filterMap_append]
  have e1 : (List.range os.length).filterMap (heldF (os ++ [o]) z) = (List.range os.length).filterMap (heldF os z) := by
    refine fm_congr fun i hi => ?_
    unfold heldF
    rw [List.getElem?_append_left (List.mem_range.mp hi)]
  rw [e1]
  congr 1
  unfold heldF
  simp only [List.filterMap_cons, List.filterMap_nil, List.getElem?_concat_length]
  by_cases h : o = some z
  · rw [if_pos h, if_pos (by rw [h])]
  · rw [if_neg h, if_neg (fun e => h (Option.some.inj e))]
def cn (os : List (Option Int)) (k : Nat) : Nat := os.count (some (k : Int))
theorem heldL_len (os : List (Option Int)) (z : Int) : (heldL os z).length = os.count (some z) := by
  generalize hr : os.reverse = rs
  induction rs generalizing os with
  | nil => rw [List.reverse_eq_nil_iff.mp hr]; rfl
  | cons o r ih =>
    have e : os = r.reverse ++ [o] := by rw [← List.reverse_reverse (as := os), hr, List.reverse_cons]
    rw [e, heldL_snoc, List.length_append, ih r.reverse (List.reverse_reverse r), List.count_append]
    congr 1
    by_cases h : o = some z
    · rw [if_pos h, h]; simp
    · rw [if_neg h, List.count_singleton, if_neg (by simpa using h)]; rfl
def SM (f : Nat → Nat) : Nat → Nat
  | 0 => 0
  | m + 1 => SM f m + f m
def PO (f : Nat → Nat) : Nat → Nat
  | 0 => 0
  | m + 1 => PO f m + if f m = 0 then 1 else 0
theorem SM_ge {f g : Nat → Nat} {j : Nat} : ∀ {m : Nat}, (∀ k, k ≠ j → g k = f k) → m ≤ j → SM g m = SM f m ∧ PO g m = PO f m
  | 0, _, _ => ⟨rfl, rfl⟩
  | m + 1, h, hm => by
    obtain ⟨a, b⟩ := SM_ge (m := m) h (by omega)
    exact ⟨by rw [SM, SM, a, h m (by omega)], by rw [PO, PO, b, h m (by omega)]⟩
theorem SM_lt {f g : Nat → Nat} {j : Nat} (hj : g j = f j + 1) : ∀ {m : Nat}, (∀ k, k ≠ j → g k = f k) → j < m → SM g m = SM f m + 1 ∧ PO g m + (if f j = 0 then 1 else 0) = PO f m
  | 0, _, hm => by omega
  | m + 1, h, hm => by
    by_cases e : j = m
    · subst e
      obtain ⟨a, b⟩ := SM_ge (m := j) h (Nat.le_refl _)
      refine ⟨by rw [SM, SM, a, hj]; omega, ?_⟩
      rw [PO, PO, b, if_neg (by omega : ¬ g j = 0)]
      omega
    · obtain ⟨a, b⟩ := SM_lt hj (m := m) h (by omega)
      refine ⟨by rw [SM, SM, a, h m (fun z => e z.symm)]; omega, ?_⟩
      rw [PO, PO, h m (fun z => e z.symm)]
      omega
theorem PO_pos {f : Nat → Nat} {j : Nat} (hj : f j = 0) : ∀ {m : Nat}, j < m → 1 ≤ PO f m
  | 0, h => by omega
  | m + 1, h => by
    rw [PO]
    by_cases e : j = m
    · subst e; rw [if_pos hj]; omega
    · have := PO_pos hj (m := m) (by omega); omega
theorem PO_zero {f : Nat → Nat} : ∀ {m : Nat}, (∀ k, k < m → f k ≠ 0) → PO f m = 0
  | 0, _ => rfl
  | m + 1, h => by rw [PO, PO_zero (m := m) fun k hk => h k (by omega), if_neg (h m (by omega))]
abbrev own (m : Nat) : List Int := (List.range m).map fun k : Nat => (k : Int)
theorem own_nv (m : Nat) : (own m).map V.int = (List.range m).map nv := by rw [List.map_map]; rfl
theorem poor_len (os : List (Option Int)) : ∀ m : Nat, (poorL os (own m)).length = PO (cn os) m
  | 0 => rfl
  | m + 1 => by
    have ih := poor_len os m
    unfold poorL own at ih ⊢
    rw [List.range_succ, List.map_append, List.filter_append, List.length_append, ih, PO]
    congr 1
    simp only [List.map_cons, List.map_nil]
    have hl := heldL_len os (m : Int)
    by_cases h : cn os m = 0
    · rw [if_pos h, List.filter_cons_of_pos (by rw [List.isEmpty_iff]; exact List.eq_nil_of_length_eq_zero (hl.trans h))]; rfl
    · rw [if_neg h, List.filter_cons_of_neg (fun e => h (by rw [List.isEmpty_iff] at e; rw [e] at hl; exact hl.symm))]; rfl
theorem poor_mem {os : List (Option Int)} {m : Nat} {z : Int} (h : z ∈ poorL os (own m)) : ∃ k : Nat, z = k ∧ k < m ∧ cn os k = 0 := by
  obtain ⟨h1, h2⟩ := List.mem_filter.mp h
  obtain ⟨k, hk, rfl⟩ := List.mem_map.mp h1
  refine ⟨k, rfl, List.mem_range.mp hk, ?_⟩
  rw [cn, ← heldL_len, List.isEmpty_iff.mp h2]; rfl
theorem mem_poor {os : List (Option Int)} {m k : Nat} (h : k < m) (h0 : cn os k = 0) : (k : Int) ∈ poorL os (own m) :=
  List.mem_filter.mpr ⟨List.mem_map.mpr ⟨k, List.mem_range.mpr h, rfl⟩, by rw [List.isEmpty_iff]; exact List.eq_nil_of_length_eq_zero ((heldL_len os k).trans h0)⟩
theorem sum_SM (f : Nat → Nat) : ∀ m : Nat, ((List.range m).map fun k => (f k : Int)).sum = (SM f m : Nat)
  | 0 => rfl
  | m + 1 => by
    rw [List.range_succ, List.map_append, List.sum_append, sum_SM f m, SM]
    simp
theorem may_cn {os : List (Option Int)} {fr : List Nat} {j m : Nat} : mayB os fr (j : Int) (own m) = (!fr.isEmpty && (decide (cn os j = 0) || decide (PO (cn os) m + 1 ≤ fr.length))) := by
  unfold mayB
  rw [poor_len]
  congr 2
  have hl := heldL_len os (j : Int)
  cases h : heldL os (j : Int) with
  | nil => rw [h] at hl; exact (decide_eq_true hl.symm).symm
  | cons x y => rw [h] at hl; exact (decide_eq_false (fun e => by rw [cn] at e; rw [e] at hl; cases hl)).symm
theorem cn_acq {os : List (Option Int)} {b j : Nat} (hb : os[b]? = some none) : cn (os.set b (some (j : Int))) j = cn os j + 1 ∧ ∀ k, k ≠ j → cn (os.set b (some (j : Int))) k = cn os k := by
  obtain ⟨h, e⟩ := List.getElem?_eq_some_iff.mp hb
  refine ⟨?_, fun k hk => ?_⟩
  · unfold cn; rw [List.count_set h, e]; simp
  · unfold cn; rw [List.count_set h, e]
    have : ¬ (j : Int) = (k : Int) := fun z => hk (by omega)
    simp [this]
theorem cn_rel {os : List (Option Int)} {b j : Nat} (hb : os[b]? = some (some (j : Int))) : cn os j = cn (os.set b none) j + 1 ∧ ∀ k, k ≠ j → cn os k = cn (os.set b none) k := by
  obtain ⟨h, e⟩ := List.getElem?_eq_some_iff.mp hb
  have hp : 1 ≤ os.count (some (j : Int)) := List.one_le_count_iff.mpr (e ▸ List.getElem_mem h)
  refine ⟨?_, fun k hk => ?_⟩
  · unfold cn; rw [List.count_set h, e]; simp; omega
  · unfold cn; rw [List.count_set h, e]
    have : ¬ (j : Int) = (k : Int) := fun z => hk (by omega)
    simp [this]
def sp_law_poor (K : PySem.W.Frag) (a : Ads) : Sp := A2 fun s o H Q _ => ∃ (p ow pr l ol : Addr) (n : Nat) (os : List (Option Int)) (fr : List Nat) (qs : List Int), s = .ref p ∧ o = .ref ol ∧ PoolAt a.C_Pool a.C_Ring H p ow pr l n os fr ∧ H ol = some (.lst (qs.map V.int)) ∧ qs.length ≤ 1000 ∧
  ∀ q H1, H q = none → H1 q = some (.lst ((poorL os qs).map V.int)) → Fp [] H H1 → Q (.ref q) H1
theorem ok_law_poor (T : Txt P w K mg base a) : FnOk P w K mg base (L2.CX P w) 2 a.f_law_poor a.fd_law_poor ["pool", "owners"] (sp_law_poor K a) := by
  have G_Pool_held := ok_Pool_held T
  refine T.F_law_poor.okX sc_law_poor (fun vs H Q E h => A2.len h) (fun cdv A outer s H vs Q E hr h => ?_)
  have hu := hu_of hr
  obtain ⟨v_pool, v_owners, rfl, h⟩ := h
  refine ⟨_, (pss_one (ps_ret (pe_lc (own := [("owner", 2)]) (g := (gName 2)) (tt := (tTest (tOp rEq (tCB (rLn K) (tCons (tMethS a.C_Pool "held" (sp_Pool_held K a) (WE (fun _ _ _ _ => False)) (tVar 0) (tCons (tVar 2) tNil)) tNil)) (tC (.int 0))))) (te := (tVar 2)) rfl sc_law_poor.nd (pi_list (pv 1)) (blkOk_by (N := ["pool", "owners", "owner"]) (sc := defScope s_law_poor) (own := [("owner", 2)]) (by decide +kernel)) (fun _ _ _ _ _ => by exact (pg_name (i := 2) sc_law_poor.nd rfl (by first | exact Or.inl rfl | exact Or.inr rfl))) (fun _ _ _ _ _ => by exact (pts_one (pt_cmpR op_eq (pe_callB call_ln (by rfl) T.g_len (by decide +kernel) (pa_cons (pe_methS (pv 0) T.cl_Pool T.m_Pool_held G_Pool_held (hr.mono (by decide)) T.b_Pool_held (fun σ => passNo) (pa_cons (pv 2) pa_nil)) pa_nil)) pe_int (nomark _)))) (fun _ _ _ _ _ => by exact (pv 2))))), ?_⟩
  obtain ⟨p, ow, pr, l, ol, n, os, fr, qs, rfl, rfl, B, ho, hq, k⟩ := h
  have hle := B.le
  have hln := B.ln
  obtain ⟨⟨dx, hp⟩, _⟩ := id B
  walk_at "r"
  refine lc_filt (xs := qs.map V.int) (poorF os) rfl (Or.inl (Or.inl ho)) (by rw [List.length_map]; omega) (fun E2 i x H' R N hE hx hacc F kR kN => ?_) fun E2 H2 hE hacc F => ?_
  · obtain ⟨y, _, rfl⟩ := List.mem_map.mp (List.mem_of_getElem? hx)
    refine ⟨rfl, ?_⟩
    have hp2 := F _ _ hp (by simp)
    walk_at "r"
    refine a2 ⟨p, ow, pr, l, n, os, fr, y, rfl, rfl, B.fp F (by simp) (by simp) (by simp) (by simp), fun q3 H3 hq3 g3 f3 => ?_⟩
    walk_at "r"
    refine if_d (fun c => ?_) (fun c => ?_)
    · walk_at "r"
      have hy : (heldL os y).isEmpty = true := by
        rw [List.isEmpty_iff]
        exact List.eq_nil_of_length_eq_zero (by have := int_inj c; omega)
      exact kR _ _ (poorF_t hy) f3
    · have hy : (heldL os y).isEmpty = false := by
        cases h : heldL os y with
        | nil => rw [h] at c; exact absurd rfl c
        | cons x y => rfl
      exact kN (poorF_f hy) _ f3
  · rw [poor_map] at hacc
    walk_at "r"
    exact k E2 _ hE hacc F
end
end My
set_option Elab.async false
set_option maxRecDepth 100000
set_option maxHeartbeats 100000000
set_option linter.all false
namespace My
open PySem L2 Sx Rd
local macro_rules | `(tactic| walk_at "ne") => `(tactic| (first | with_reducible assumption | with_reducible exact Ne.symm (by with_reducible assumption)))
local macro_rules | `(tactic| walk_at "nin") => `(tactic| (simp only [List.mem_cons, List.not_mem_nil, or_false, not_or, not_false_eq_true]; (repeat' refine And.intro ?_ ?_); (all_goals walk_at "ne")))
local macro_rules | `(tactic| walk_at "hl") => `(tactic| (first | (with_reducible assumption) | exact upd_same | ((with_reducible refine' (upd_ne ?hne).trans ?hgo); (case hne => walk_at "ne"); (case hgo => walk_at "hl"))))
local macro_rules | `(tactic| walk_at "sq") => `(tactic| (first | (with_reducible assumption) | exact Or.inl (Or.inl (by walk_at "hl"))))
local macro_rules | `(tactic| walk_at "ar") => `(tactic| (first | omega | exact ⟨by omega, by omega⟩ | exact Or.inl ⟨by omega, by omega⟩ | exact Or.inr ⟨by omega, by omega⟩ | (show (0 : Int) < _; omega) | (show (0 : Int) < _ ∧ _ < (1073741824 : Int); omega)))
local macro_rules | `(tactic| walk_at "cls") => `(tactic| (first | exact Txt.cl_Ring (by assumption) | exact Txt.cl_Pool (by assumption)))
local macro_rules | `(tactic| walk_at "noa") => `(tactic| (first | exact Txt.n_Ring_cells (by assumption) | exact Txt.n_Ring_written (by assumption) | exact Txt.n_Ring_taken (by assumption) | exact Txt.n_Pool_owners (by assumption) | exact Txt.n_Pool_free (by assumption)))
local macro_rules | `(tactic| walk_at "lkp") => `(tactic| (first | (with_reducible exact F_Ring_cells_l) | (with_reducible exact F_Ring_written_l) | (with_reducible exact F_Ring_taken_l) | (with_reducible exact F_Pool_owners_l) | (with_reducible exact F_Pool_free_l)))
local macro_rules | `(tactic| walk_at "ptf") => `(tactic| (first | (with_reducible exact F_Ring_cells_p) | (with_reducible exact F_Ring_written_p) | (with_reducible exact F_Ring_taken_p) | (with_reducible exact F_Pool_owners_p) | (with_reducible exact F_Pool_free_p) | exact rfl))
local macro_rules | `(tactic| walk_at "lnF") => `(tactic| (first | (with_reducible exact F_Ring_len) | (with_reducible exact F_Pool_len) | (refine PL.lt (n := 60) ?_ (by decide); (repeat refine PL.put ?_); exact PL.nil) | decide))
local macro_rules | `(tactic| walk_at "nol") => `(tactic| (first | (with_reducible exact F_Ring_m_held) | (with_reducible exact F_Ring_m_is_full) | (with_reducible exact F_Ring_m_put) | (with_reducible exact F_Ring_m_first) | (with_reducible exact F_Ring_m_take) | (with_reducible exact F_Ring_m_listed) | (with_reducible exact F_Ring_m_next) | (with_reducible exact F_Pool_m_free) | (with_reducible exact F_Pool_m_owner) | (with_reducible exact F_Pool_m_held) | (with_reducible exact F_Pool_m_acquire) | (with_reducible exact F_Pool_m_release) | (with_reducible exact F_Pool_m_may_acquire) | (with_reducible exact F_Pool_m_exists)))
local macro_rules | `(tactic| walk_at "r1") => `(tactic| (first
  | with_reducible apply l_cons | ((with_reducible apply e_var); (case h => exact rfl)) | with_reducible apply l_nil | with_reducible apply s_seq | with_reducible apply e_c | with_reducible apply g_name
  | with_reducible apply s_asg | with_reducible apply e_call | with_reducible apply k_t | with_reducible apply e_op | with_reducible apply e_cb | with_reducible apply t_test
  | with_reducible apply s_if | with_reducible apply t_or | with_reducible apply t_and | with_reducible apply t_B | with_reducible apply s_next | with_reducible apply p_some
  | with_reducible apply p_no | with_reducible apply e_sl | with_reducible apply k_i | with_reducible apply e_lst | with_reducible apply t_not | with_reducible apply o_I0
  | ((with_reducible refine' o_I ?hc ?_); (case hc => walk_at "ar")) | with_reducible apply e_meth | ((with_reducible refine' k_meth ?h1 ?h2 ?_); (case h1 => walk_at "hl"); (case h2 => walk_at "nol")) | with_reducible apply e_fld | ((with_reducible refine' k_fld ?h1 ?h2 ?h3 ?h4 ?_); (case h1 => walk_at "hl"); (case h2 => walk_at "cls"); (case h3 => walk_at "noa"); (case h4 => walk_at "lkp")) | with_reducible apply e_not
  | with_reducible apply s_ret | ((with_reducible refine' k_ty ?h1 ?_); (case h1 => walk_at "sq")) | with_reducible apply s_drop | with_reducible apply s_retN | with_reducible apply s_cont | with_reducible apply s_break
  | with_reducible apply o_chC | ((with_reducible refine' o_chV ?hv ?_); (case hv => exact rfl)) | with_reducible apply e_un | with_reducible apply o_U | ((with_reducible refine' o_eq ?hs ?_); (case hs => exact rfl)) | ((with_reducible refine' o_ne ?hs ?_); (case hs => exact rfl))
  | ((with_reducible refine' o_ixL ?h1 ?h2 ?_); (case h1 => walk_at "sq"); (case h2 => first | exact rfl | exact atI_zero _ _)) | with_reducible apply s_fld | with_reducible apply e_make | ((with_reducible refine' k_set ?h1 ?h2 ?h3 ?h4 ?h5 ?_); (case h1 => walk_at "hl"); (case h2 => walk_at "cls"); (case h3 => walk_at "noa"); (case h4 => walk_at "ptf"); (case h5 => walk_at "lnF")) | with_reducible apply e_tup | with_reducible apply e_bm
  | with_reducible apply e_bm0 | with_reducible apply e_if | with_reducible apply e_chain | with_reducible apply s_raise | with_reducible apply g_sub | ((with_reducible refine' c_ln ?h1 ?_); (case h1 => walk_at "sq"))
  | ((with_reducible refine' c_pop0 ?h1 ?h2 ?_); (case h1 => walk_at "hl"); (case h2 => omega)) | with_reducible apply c_isBool | with_reducible apply c_isInt | with_reducible apply c_isBoolN | with_reducible apply c_isTupI | with_reducible apply c_isNonB
  | with_reducible apply c_isNonT | ((with_reducible refine' c_isList ?h1 ?_); (case h1 => walk_at "hl")) | ((with_reducible refine' c_isTup ?h1 ?_); (case h1 => walk_at "hl")) | ((with_reducible refine' c_isTupB ?h1 ?_); (case h1 => walk_at "hl")) | with_reducible apply o_isB | with_reducible apply o_notB
  | with_reducible apply e_and | with_reducible apply e_or | with_reducible apply k_bl | with_reducible apply e_xf | with_reducible apply s_augS | ((with_reducible refine' s_augV ?hv ?_); (case hv => exact rfl))
  | with_reducible apply ip_I | with_reducible apply e_lcE | ((with_reducible refine' k_xf ?h1 ?h2 ?_); (case h1 => walk_at "hl"); (case h2 => exact look_hit _ _ _)) | ((with_reducible refine' o_slL ?h1 ?_); (case h1 => walk_at "sq")) | ((with_reducible refine' k_dget ?h1 ?h2 ?_); (case h1 => walk_at "hl"); (case h2 => with_reducible assumption)) | with_reducible apply e_dget
  | with_reducible apply s_dput | with_reducible apply e_makeK | with_reducible apply g_cons | with_reducible apply g_nil | with_reducible apply c_ab | with_reducible apply c_in
  | with_reducible apply c_mx | with_reducible apply c_mn | with_reducible apply a1 | with_reducible apply a2 | with_reducible apply a3 | with_reducible apply a4
  | with_reducible apply a5 | with_reducible apply a6 | with_reducible apply a0 | with_reducible apply t_tru | with_reducible apply t_yes | ((with_reducible refine' k_truL ?h1 ?_); (case h1 => walk_at "sq")) | with_reducible refine d_nx ?_ | with_reducible refine d_rt ?_ | with_reducible refine d_bk ?_
  | with_reducible refine d_ct ?_))
local macro_rules | `(tactic| walk_at "r") => `(tactic| (repeat walk_at "r1"))
section
variable {P : Program} {w : World} {K : PySem.W.Frag} {mg : Str → Option Value} {base : Heap} {a : Ads}
/-! ### the law -/
structure Wp (C CR : Addr) (H : Hp) (st sl p ow pr l ol : Addr) (n m : Nat) (os : List (Option Int)) (fr : List Nat) : Prop where
  S : StAt H st sl
  B : PoolAt C CR H p ow pr l n os fr
  O : H ol = some (.lst ((own m).map V.int))
  nd : [p, ow, pr, l, ol, st, sl].Nodup
  m1 : 2 ≤ m ∧ m ≤ 8
  ok : ∀ (b : Nat) (y : Int), os[b]? = some (some y) → ∃ k : Nat, y = k ∧ k < m
  su : fr.length + SM (cn os) m = n
  po : PO (cn os) m ≤ fr.length
section
variable {C CR st sl p ow pr l ol : Addr} {H H1 : Hp} {n m : Nat} {os : List (Option Int)} {fr : List Nat}
theorem Wp.inn (W : Wp C CR H st sl p ow pr l ol n m os fr) : Inn H [p, ow, pr, l, ol, st, sl] := W.B.inn.app (Inn.cons W.O W.S.inn)
theorem Wp.fp (W : Wp C CR H st sl p ow pr l ol n m os fr) (f : Fp [] H H1) : Wp C CR H1 st sl p ow pr l ol n m os fr :=
  ⟨W.S.fp f (by simp) (by simp), W.B.fp f (by simp) (by simp) (by simp) (by simp), f _ _ W.O (by simp), W.nd, W.m1, W.ok, W.su, W.po⟩
theorem Wp.draw (W : Wp C CR H st sl p ow pr l ol n m os fr) (S : StAt H1 st sl) (f : Fp [st, sl] H H1) : Wp C CR H1 st sl p ow pr l ol n m os fr := by
  have nd := W.nd
  simp only [List.nodup_cons, List.mem_cons, List.not_mem_nil, or_false, not_or, List.append_nil, List.cons_append, List.nil_append] at nd
  obtain ⟨⟨n_p_ow, n_p_pr, n_p_l, n_p_ol, n_p_st, n_p_sl⟩, ⟨n_ow_pr, n_ow_l, n_ow_ol, n_ow_st, n_ow_sl⟩, ⟨n_pr_l, n_pr_ol, n_pr_st, n_pr_sl⟩, ⟨n_l_ol, n_l_st, n_l_sl⟩, ⟨n_ol_st, n_ol_sl⟩, n_st_sl, _⟩ := nd
  exact ⟨S, W.B.fp f (by walk_at "nin") (by walk_at "nin") (by walk_at "nin") (by walk_at "nin"), f _ _ W.O (by walk_at "nin"), W.nd, W.m1, W.ok, W.su, W.po⟩
/-- an owner gets the next buffer -/
theorem Wp.acq (W : Wp C CR H st sl p ow pr l ol n m os fr) {b j : Nat} {r : List Nat} (hfr : fr = b :: r) (hj : j < m) (hm : cn os j = 0 ∨ PO (cn os) m + 1 ≤ fr.length) (B : PoolAt C CR H1 p ow pr l n (os.set b (some (j : Int))) r) (f : Fp [ow, pr, l] H H1) : Wp C CR H1 st sl p ow pr l ol n m (os.set b (some (j : Int))) r := by
  have nd := W.nd
  simp only [List.nodup_cons, List.mem_cons, List.not_mem_nil, or_false, not_or, List.append_nil, List.cons_append, List.nil_append] at nd
  obtain ⟨⟨n_p_ow, n_p_pr, n_p_l, n_p_ol, n_p_st, n_p_sl⟩, ⟨n_ow_pr, n_ow_l, n_ow_ol, n_ow_st, n_ow_sl⟩, ⟨n_pr_l, n_pr_ol, n_pr_st, n_pr_sl⟩, ⟨n_l_ol, n_l_st, n_l_sl⟩, ⟨n_ol_st, n_ol_sl⟩, n_st_sl, _⟩ := nd
  have hb := W.B.lt b (by rw [hfr]; exact List.mem_cons_self)
  have e := (W.B.fi b hb).mp (by rw [hfr]; exact List.mem_cons_self)
  obtain ⟨c1, c2⟩ := cn_acq (j := j) e
  obtain ⟨s1, s2⟩ := SM_lt c1 c2 hj
  have su := W.su
  have po := W.po
  have hl : fr.length = r.length + 1 := by rw [hfr]; rfl
  refine ⟨W.S.fp f (by walk_at "nin") (by walk_at "nin"), B, f _ _ W.O (by walk_at "nin"), W.nd, W.m1, fun c y hc => ?_, by omega, ?_⟩
  · by_cases h : c = b
    · subst h
      rw [List.getElem?_set_self (List.getElem?_eq_some_iff.mp e).1] at hc
      exact ⟨j, (Option.some.inj (Option.some.inj hc)).symm, hj⟩
    · rw [List.getElem?_set_ne (fun z => h z.symm)] at hc
      exact W.ok c y hc
  · split at s2 <;> omega
/-- a buffer goes back -/
theorem Wp.rel (W : Wp C CR H st sl p ow pr l ol n m os fr) {b : Nat} {y : Int} (hb : os[b]? = some (some y)) (B : PoolAt C CR H1 p ow pr l n (os.set b none) (fr ++ [b])) (f : Fp [ow, pr, l] H H1) : Wp C CR H1 st sl p ow pr l ol n m (os.set b none) (fr ++ [b]) := by
  have nd := W.nd
  simp only [List.nodup_cons, List.mem_cons, List.not_mem_nil, or_false, not_or, List.append_nil, List.cons_append, List.nil_append] at nd
  obtain ⟨⟨n_p_ow, n_p_pr, n_p_l, n_p_ol, n_p_st, n_p_sl⟩, ⟨n_ow_pr, n_ow_l, n_ow_ol, n_ow_st, n_ow_sl⟩, ⟨n_pr_l, n_pr_ol, n_pr_st, n_pr_sl⟩, ⟨n_l_ol, n_l_st, n_l_sl⟩, ⟨n_ol_st, n_ol_sl⟩, n_st_sl, _⟩ := nd
  obtain ⟨j, rfl, hj⟩ := W.ok b y hb
  obtain ⟨c1, c2⟩ := cn_rel (j := j) hb
  obtain ⟨s1, s2⟩ := SM_lt c1 c2 hj
  have su := W.su
  have po := W.po
  refine ⟨W.S.fp f (by walk_at "nin") (by walk_at "nin"), B, f _ _ W.O (by walk_at "nin"), W.nd, W.m1, fun c y hc => ?_, by rw [List.length_append, List.length_singleton]; omega, ?_⟩
  · by_cases h : c = b
    · subst h
      rw [List.getElem?_set_self (List.getElem?_eq_some_iff.mp hb).1] at hc
      cases Option.some.inj hc
    · rw [List.getElem?_set_ne (fun z => h z.symm)] at hc
      exact W.ok c y hc
  · rw [List.length_append, List.length_singleton]
    split at s2 <;> omega
end
theorem own_nd (m : Nat) : (own m).Nodup := List.Pairwise.map _ (fun a b h e => h (by omega)) List.nodup_range
def lenF (os : List (Option Int)) (x : V) : Option V := match x with | .int y => some (.int ((heldL os y).length : Nat)) | _ => none
theorem lenF_map (os : List (Option Int)) (m : Nat) : ((own m).map V.int).filterMap (lenF os) = ((List.range m).map fun k => (cn os k : Int)).map V.int := by
  rw [own_nv]
  induction m with
  | zero => rfl
  | succ m ih =>
    rw [List.range_succ, List.map_append, List.filterMap_append, ih, List.map_append, List.map_append]
    congr 1
    show [V.int ((heldL os (m : Int)).length : Nat)] = [V.int (cn os m : Nat)]
    rw [heldL_len]; rfl
theorem heldF_at {os : List (Option Int)} {z : Int} {x : V} (h : x ∈ heldL os z) : ∃ c : Nat, x = .int c ∧ os[c]? = some (some z) := by
  obtain ⟨i, _, e⟩ := List.mem_filterMap.mp h
  refine ⟨i, heldF_int e, ?_⟩
  unfold heldF at e
  split at e
  · assumption
  · cases e
theorem count_none (n m : Nat) : SM (cn (List.replicate n none)) m = 0 ∧ PO (cn (List.replicate n none)) m = m := by
  have h : ∀ k, cn (List.replicate n none) k = 0 := fun k => by unfold cn; rw [List.count_replicate]; rfl
  induction m with
  | zero => exact ⟨rfl, rfl⟩
  | succ m ih => exact ⟨by rw [SM, ih.1, h], by rw [PO, ih.2, if_pos (h m)]⟩
theorem ok_law (T : Txt P w K mg base a) : FnOk P w K mg base (L2.CX P w) 6 a.f_law a.fd_law ["script"] (sp_law K a) := by
  have G_law_state := ok_law_state T
  have G_law_draw := ok_law_draw T
  have G_Pool_init := ok_Pool_init T
  have G_Pool_held := ok_Pool_held T
  have G_Pool_may_acquire := ok_Pool_may_acquire T
  have G_Pool_acquire := ok_Pool_acquire T
  have G_Pool_owner := ok_Pool_owner T
  have G_Pool_release := ok_Pool_release T
  have G_Pool_free := ok_Pool_free T
  have G_law_poor := ok_law_poor T
  refine T.F_law.okX sc_law (fun vs H Q E h => A1.len h) (fun cdv A outer s H vs Q E hr h => ?_)
  have hu := hu_of hr
  obtain ⟨v_script, rfl, h⟩ := h
  refine ⟨_, (pss_cons (ps_set (i := 1) sc_law.nd rfl (by first | exact Or.inl rfl | exact Or.inr rfl) (pe_callS G_law_state (hr.mono (by decide)) rfl T.g_law_state T.F_law_state.kp T.b_law_state (fun σ => passAt (takes_of rfl rfl rfl rfl) σ) (pa_cons (pv 0) pa_nil)))
    (pss_cons (ps_setLc (i := 2) (own := [("owner", 3)]) (g := (gName 3)) (tt := tYes) (te := (tVar 3)) rfl sc_law.nd rfl rfl (sw_true rfl rfl rfl (by decide +kernel)) (pi_range1 rfl T.g_range (pa_cons (pe_op op_add pe_int (pe_callS G_law_draw (hr.mono (by decide)) rfl T.g_law_draw T.F_law_draw.kp T.b_law_draw (fun σ => passAt (takes_of rfl rfl rfl rfl) σ) (pa_cons (pv 1) (pa_cons pe_int pa_nil)))) pa_nil)) (blkOk_by (N := ["script", "state", "owners", "owner", "many", "pool", "greedy", "k", "before", "may", "buffer", "held", "other"]) (sc := defScope s_law) (own := [("owner", 3)]) (by decide +kernel)) (fun _ _ _ _ _ => by exact (pg_name (i := 3) sc_law.nd rfl (by first | exact Or.inl rfl | exact Or.inr rfl))) (fun _ _ _ _ _ => by exact pts_nil) (fun _ _ _ _ _ => by exact (pv 3)))
    (pss_cons (ps_set (i := 4) sc_law.nd rfl (by first | exact Or.inl rfl | exact Or.inr rfl) (pe_op op_add (pe_callB call_ln (by rfl) T.g_len (by decide +kernel) (pa_cons (pv 2) pa_nil)) (pe_callS G_law_draw (hr.mono (by decide)) rfl T.g_law_draw T.F_law_draw.kp T.b_law_draw (fun σ => passAt (takes_of rfl rfl rfl rfl) σ) (pa_cons (pv 1) (pa_cons pe_int pa_nil)))))
    (pss_cons (ps_set (i := 5) sc_law.nd rfl (by first | exact Or.inl rfl | exact Or.inr rfl) (pe_makeS T.mk_Pool G_Pool_init (hr.mono (by decide)) rfl T.g_Pool T.b_Pool_init (fun σ => passAt (takes_of rfl rfl rfl rfl) σ) (pa_cons (pv 4) pa_nil)))
    (pss_cons (ps_set (i := 6) sc_law.nd rfl (by first | exact Or.inl rfl | exact Or.inr rfl) (pe_callS G_law_draw (hr.mono (by decide)) rfl T.g_law_draw T.F_law_draw.kp T.b_law_draw (fun σ => passAt (takes_of rfl rfl rfl rfl) σ) (pa_cons (pv 1) (pa_cons (pe_callB call_ln (by rfl) T.g_len (by decide +kernel) (pa_cons (pv 2) pa_nil)) pa_nil))))
    (pss_cons (ps_for (passes_of rfl) rfl (pi_range1 rfl T.g_range (pa_cons (pe_op op_add pe_int (pe_callS G_law_draw (hr.mono (by decide)) rfl T.g_law_draw T.F_law_draw.kp T.b_law_draw (fun σ => passAt (takes_of rfl rfl rfl rfl) σ) (pa_cons (pv 1) (pa_cons pe_int pa_nil)))) pa_nil)) (pg_name (i := 7) sc_law.nd rfl (by first | exact Or.inl rfl | exact Or.inr rfl)) (pss_cons (ps_set (i := 3) sc_law.nd rfl (by first | exact Or.inl rfl | exact Or.inr rfl) (pe_ix ix_list (pe_lst (pa_cons (pv 6) (pa_cons (pe_callS G_law_draw (hr.mono (by decide)) rfl T.g_law_draw T.F_law_draw.kp T.b_law_draw (fun σ => passAt (takes_of rfl rfl rfl rfl) σ) (pa_cons (pv 1) (pa_cons (pe_callB call_ln (by rfl) T.g_len (by decide +kernel) (pa_cons (pv 2) pa_nil)) pa_nil))) pa_nil))) (pe_callS G_law_draw (hr.mono (by decide)) rfl T.g_law_draw T.F_law_draw.kp T.b_law_draw (fun σ => passAt (takes_of rfl rfl rfl rfl) σ) (pa_cons (pv 1) (pa_cons pe_int pa_nil))) (fun _ _ => rfl)))
    (Evl.pss_cut (ps_if (pt_cmpR op_gt (pe_callS G_law_draw (hr.mono (by decide)) rfl T.g_law_draw T.F_law_draw.kp T.b_law_draw (fun σ => passAt (takes_of rfl rfl rfl rfl) σ) (pa_cons (pv 1) (pa_cons pe_int pa_nil))) pe_int (nomark _)) (pss_cons (ps_set (i := 8) sc_law.nd rfl (by first | exact Or.inl rfl | exact Or.inr rfl) (pe_callB call_ln (by rfl) T.g_len (by decide +kernel) (pa_cons (pe_methS (pv 5) T.cl_Pool T.m_Pool_held G_Pool_held (hr.mono (by decide)) T.b_Pool_held (fun σ => passAt (takes_of rfl rfl rfl rfl) σ) (pa_cons (pv 3) pa_nil)) pa_nil)))
    (pss_cons (ps_set (i := 9) sc_law.nd rfl (by first | exact Or.inl rfl | exact Or.inr rfl) (pe_methS (pv 5) T.cl_Pool T.m_Pool_may_acquire G_Pool_may_acquire (hr.mono (by decide)) T.b_Pool_may_acquire (fun σ => passAt (takes_of rfl rfl rfl rfl) σ) (pa_cons (pv 3) (pa_cons (pe_callTy call_ls (by rfl) T.g_list (by decide +kernel) (pa_cons (pv 2) pa_nil)) pa_nil))))
    (pss_cons (ps_if (pt_up (PW.pt (pw_and (pt_cmpR op_eq (pv 8) pe_int (nomark _)) (pw_and1 (pt_cmpR op_notB (pv 9) pe_bl (nomark _)))))) (pss_one (ps_ret pe_bl)) pss_nil)
    (pss_one (ps_if (pt_val (pv 9)) (pss_cons (ps_set (i := 10) sc_law.nd rfl (by first | exact Or.inl rfl | exact Or.inr rfl) (pe_methS (pv 5) T.cl_Pool T.m_Pool_acquire G_Pool_acquire (hr.mono (by decide)) T.b_Pool_acquire (fun σ => passAt (takes_of rfl rfl rfl rfl) σ) (pa_cons (pv 3) pa_nil)))
    (pss_one (ps_if (pt_up (PW.pt (pw_or (pt_cmpR op_ne (pe_methS (pv 5) T.cl_Pool T.m_Pool_owner G_Pool_owner (hr.mono (by decide)) T.b_Pool_owner (fun σ => passAt (takes_of rfl rfl rfl rfl) σ) (pa_cons (pv 10) pa_nil)) (pv 3) (nomark _)) (pw_or1 (pt_cmpR op_ne (pe_callB call_ln (by rfl) T.g_len (by decide +kernel) (pa_cons (pe_methS (pv 5) T.cl_Pool T.m_Pool_held G_Pool_held (hr.mono (by decide)) T.b_Pool_held (fun σ => passAt (takes_of rfl rfl rfl rfl) σ) (pa_cons (pv 3) pa_nil)) pa_nil)) (pe_op op_add (pv 8) pe_int) (nomark _)))))) (pss_one (ps_ret pe_bl)) pss_nil))) pss_nil))))) (pss_cons (ps_set (i := 11) sc_law.nd rfl (by first | exact Or.inl rfl | exact Or.inr rfl) (pe_methS (pv 5) T.cl_Pool T.m_Pool_held G_Pool_held (hr.mono (by decide)) T.b_Pool_held (fun σ => passAt (takes_of rfl rfl rfl rfl) σ) (pa_cons (pv 3) pa_nil)))
    (pss_one (ps_if (pt_cmpR op_gt (pe_callB call_ln (by rfl) T.g_len (by decide +kernel) (pa_cons (pv 11) pa_nil)) pe_int (nomark _)) (pss_one (ps_expr (pe_methS (pv 5) T.cl_Pool T.m_Pool_release G_Pool_release (hr.mono (by decide)) T.b_Pool_release (fun σ => passAt (takes_of rfl rfl rfl rfl) σ) (pa_cons (pe_ix ix_list (pv 11) (pe_callS G_law_draw (hr.mono (by decide)) rfl T.g_law_draw T.F_law_draw.kp T.b_law_draw (fun σ => passAt (takes_of rfl rfl rfl rfl) σ) (pa_cons (pv 1) (pa_cons (pe_callB call_ln (by rfl) T.g_len (by decide +kernel) (pa_cons (pv 11) pa_nil)) pa_nil))) (fun _ _ => rfl)) pa_nil)))) pss_nil))))
    (pss_cons (ps_if (pt_cmpR op_lt (pe_meth0S (pv 5) T.cl_Pool T.m_Pool_free G_Pool_free (hr.mono (by decide)) T.b_Pool_free (fun σ => passAt (takes_of rfl rfl rfl rfl) σ)) (pe_callB call_ln (by rfl) T.g_len (by decide +kernel) (pa_cons (pe_callS G_law_poor (hr.mono (by decide)) rfl T.g_law_poor T.F_law_poor.kp T.b_law_poor (fun σ => passAt (takes_of rfl rfl rfl rfl) σ) (pa_cons (pv 5) (pa_cons (pv 2) pa_nil))) pa_nil)) (nomark _)) (pss_one (ps_ret pe_bl)) pss_nil)
    (pss_one (ps_if (pt_cmpR op_ne (pe_op op_add (pe_meth0S (pv 5) T.cl_Pool T.m_Pool_free G_Pool_free (hr.mono (by decide)) T.b_Pool_free (fun σ => passAt (takes_of rfl rfl rfl rfl) σ)) (pe_callB (cr_sum rfl) (by rfl) T.g_sum (by decide +kernel) (pa_cons (pe_lc (own := [("other", 12)]) (g := (gName 12)) (tt := tYes) (te := (tCB (rLn K) (tCons (tMethS a.C_Pool "held" (sp_Pool_held K a) (WE (fun _ _ _ _ => False)) (tVar 5) (tCons (tVar 12) tNil)) tNil))) rfl sc_law.nd (pi_list (pv 2)) (blkOk_by (N := ["script", "state", "owners", "owner", "many", "pool", "greedy", "k", "before", "may", "buffer", "held", "other"]) (sc := defScope s_law) (own := [("other", 12)]) (by decide +kernel)) (fun _ _ _ _ _ => by exact (pg_name (i := 12) sc_law.nd rfl (by first | exact Or.inl rfl | exact Or.inr rfl))) (fun _ _ _ _ _ => by exact pts_nil) (fun _ _ _ _ _ => by exact (pe_callB call_ln (by rfl) T.g_len (by decide +kernel) (pa_cons (pe_methS (pv 5) T.cl_Pool T.m_Pool_held G_Pool_held (hr.mono (by decide)) T.b_Pool_held (fun σ => passNo) (pa_cons (pv 12) pa_nil)) pa_nil)))) pa_nil))) (pv 4) (nomark _)) (pss_one (ps_ret pe_bl)) pss_nil))))))
    (pss_cons (ps_for (passes_of rfl) rfl (pi_list (pe_callS G_law_poor (hr.mono (by decide)) rfl T.g_law_poor T.F_law_poor.kp T.b_law_poor (fun σ => passAt (takes_of rfl rfl rfl rfl) σ) (pa_cons (pv 5) (pa_cons (pv 2) pa_nil)))) (pg_name (i := 3) sc_law.nd rfl (by first | exact Or.inl rfl | exact Or.inr rfl)) (pss_one (ps_expr (pe_methS (pv 5) T.cl_Pool T.m_Pool_acquire G_Pool_acquire (hr.mono (by decide)) T.b_Pool_acquire (fun σ => passAt (takes_of rfl rfl rfl rfl) σ) (pa_cons (pv 3) pa_nil)))))
    (pss_one (ps_ret (pe_cmpR op_eq (pe_callB call_ln (by rfl) T.g_len (by decide +kernel) (pa_cons (pe_callS G_law_poor (hr.mono (by decide)) rfl T.g_law_poor T.F_law_poor.kp T.b_law_poor (fun σ => passAt (takes_of rfl rfl rfl rfl) σ) (pa_cons (pv 5) (pa_cons (pv 2) pa_nil))) pa_nil)) pe_int (nomark _))))))))))), ?_⟩
  obtain ⟨b, ns, rfl, hS, hn, k⟩ := h
  walk_at "r"
  refine a1 ⟨b, ns, rfl, hS, hn, fun st sl H1 hst hsl S1 f1 => ?_⟩
  walk_at "r"
  refine e_lcR ?_
  walk_at "r"
  refine a2 ⟨st, sl, 7, rfl, rfl, S1, by omega, by omega, fun r1 H2 a1 b1 S2 f2 => ?_⟩
  walk_at "r"
  obtain ⟨m, hm, hm1⟩ : ∃ m : Nat, (2 : Int) + r1 = m ∧ 2 ≤ m ∧ m ≤ 8 := ⟨(2 + r1).toNat, by omega, by omega, by omega⟩
  rw [hm]
  clear S1 f1 f2
  refine k_lcR (ys := (List.range m).map nv) (by omega) (by omega) (by simp) (fun D i y H9 RR hD hi hy e hR => ?_) fun ol hol => ?_
  · refine ⟨rfl, ?_⟩
    walk_at "r"
    have ey : y = .int i := by
      rw [List.getElem?_map, List.getElem?_range (by omega)] at hy
      exact (Option.some.inj hy).symm
    rw [ey] at hR
    exact hR
  have f3 : Fp [] H2 (upd H2 ol (.lst ((List.range m).map nv))) := Fp.new hol
  have O3 : upd H2 ol (.lst ((List.range m).map nv)) ol = some (.lst ((List.range m).map nv)) := upd_same
  have nd1 := nd_new S2.nd (S2.inn.fresh hol)
  have S3 := S2.fp f3 (by simp) (by simp)
  generalize upd H2 ol _ = H3 at O3 S3 ⊢
  clear S2 f3 hol
  walk_at "r"
  refine Rd.a2 ⟨st, sl, 6, rfl, rfl, S3, by omega, by omega, fun r4 H4 a4 b4 S4 f4 => ?_⟩
  have nd := nd1
  simp only [List.nodup_cons, List.mem_cons, List.not_mem_nil, or_false, not_or, List.append_nil, List.cons_append, List.nil_append] at nd
  obtain ⟨⟨n_ol_st, n_ol_sl⟩, n_st_sl, _⟩ := nd
  have O4 := f4 _ _ O3 (by walk_at "nin")
  clear S3 O3 f4
  obtain ⟨n, hn1, hn2⟩ : ∃ n : Nat, (((List.range m).map nv).length : Int) + r4 = n ∧ m ≤ n ∧ n ≤ 100 := ⟨(m + r4).toNat, by rw [List.length_map, List.length_range]; omega, by omega, by omega⟩
  walk_at "r"
  rw [hn1]
  intro p dx np ndx nedx
  have nd2 := nd_new nd1 ((Inn.cons O4 S4.inn).fresh np)
  have g6 : upd (upd H4 dx (.own p)) p (.ins a.C_Pool dx []) p = some (.ins a.C_Pool dx []) := upd_same
  have f6 : Fp [] H4 (upd (upd H4 dx (.own p)) p (.ins a.C_Pool dx [])) := (Fp.new ndx).trans (Fp.new (by rw [upd_ne nedx.symm]; exact np))
  have S6 := S4.fp f6 (by simp) (by simp)
  have O6 := f6 _ _ O4 (by simp)
  generalize upd (upd H4 dx (.own p)) p (.ins a.C_Pool dx []) = H6 at g6 S6 O6 ⊢
  refine Rd.a2 ⟨p, dx, n, rfl, rfl, by omega, by omega, g6, fun ow pr l H7 how hpr hl nd3 B7 f7 => ⟨rfl, ?_⟩⟩
  have I6 := Inn.cons g6 (Inn.cons O6 S6.inn)
  have q1 := I6.fresh how
  have q2 := I6.fresh hpr
  have q3 := I6.fresh hl
  simp only [List.mem_cons, List.not_mem_nil, or_false, not_or] at q1 q2 q3
  obtain ⟨q11, q12, q13, q14⟩ := q1
  obtain ⟨q21, q22, q23, q24⟩ := q2
  obtain ⟨q31, q32, q33, q34⟩ := q3
  have nd := nd2
  simp only [List.nodup_cons, List.mem_cons, List.not_mem_nil, or_false, not_or, List.append_nil, List.cons_append, List.nil_append] at nd
  obtain ⟨⟨n_p_ol, n_p_st, n_p_sl⟩, ⟨n_ol_st, n_ol_sl⟩, n_st_sl, _⟩ := nd
  have nd := nd3
  simp only [List.nodup_cons, List.mem_cons, List.not_mem_nil, or_false, not_or, List.append_nil, List.cons_append, List.nil_append] at nd
  obtain ⟨⟨n_ow_pr, n_ow_l⟩, n_pr_l, _⟩ := nd
  have nd4 : [p, ow, pr, l, ol, st, sl].Nodup := by
    simp only [List.nodup_cons, List.mem_cons, List.not_mem_nil, or_false, not_or, not_false_eq_true, List.nodup_nil, and_true]
    (repeat' refine And.intro ?_ ?_) <;> walk_at "ne"
  obtain ⟨c1, c2⟩ := count_none n m
  have W7 : Wp a.C_Pool a.C_Ring H7 st sl p ow pr l ol n m (List.replicate n none) (List.range n) :=
    ⟨S6.fp f7 (by walk_at "nin") (by walk_at "nin"), B7, by rw [own_nv]; exact f7 _ _ O6 (by walk_at "nin"), nd4, hm1, (fun c y hc => by rw [List.getElem?_replicate] at hc; split at hc <;> cases hc), by rw [c1, List.length_range]; rfl, by rw [c2, List.length_range]; omega⟩
  clear S4 O4 S6 O6 g6 f6 I6 B7 f7 nd1 nd2 nd3 q11 q12 q13 q14 q21 q22 q23 q24 q31 q32 q33 q34 c1 c2
  have O7 : H7 ol = some (.lst ((List.range m).map nv)) := by rw [← own_nv]; exact W7.O
  walk_at "r"
  refine Rd.a2 ⟨st, sl, m, rfl, by rw [List.length_map, List.length_range], W7.S, by omega, by omega, fun r8 H8 a8 b8 S8 f8 => ?_⟩
  have W8 := W7.draw S8 f8
  clear W7 S8 f8 O7
  walk_at "r"
  refine f_rng1 ?_
  walk_at "r"
  refine Rd.a2 ⟨st, sl, 120, rfl, rfl, W8.S, by omega, by omega, fun r10 H10 a10 b10 S10 f10 => ?_⟩
  have W10 := W8.draw S10 f10
  clear W8 S10 f10
  walk_at "r"
  refine k_rng (fun i σ H' => ∃ (os : List (Option Int)) (fr : List Nat) (u3 u7 u8 u9 u10 u11 u12 : Option V), σ = [some (.ref b), some (.ref st), some (.ref ol), u3, some (.int n), some (.ref p), some (.int r8), u7, u8, u9, u10, u11, u12] ∧ Wp a.C_Pool a.C_Ring H' st sl p ow pr l ol n m os fr) (by omega) (by omega) ?_ ?_ ?_
  · exact ⟨_, _, _, _, _, _, _, _, _, rfl, W10⟩
  · clear W10
    rintro i σ H1 hi ⟨os, fr, u3, u7, u8, u9, u10, u11, u12, rfl, W⟩
    have hO := W.O
    walk_at "r"
    refine Rd.a2 ⟨st, sl, m, rfl, by rw [List.length_map, List.length_map, List.length_range], W.S, by omega, by omega, fun r2 H2 a2 b2 S2 f2 => ?_⟩
    have W2 := W.draw S2 f2
    clear W S2 f2 hO
    walk_at "r"
    refine ⟨sz (by simp), fun l3 hl3 => ?_⟩
    have f3 : Fp [] H2 (upd H2 l3 (.lst [.int r8, .int r2])) := Fp.new hl3
    have g3 : upd H2 l3 (.lst [.int r8, .int r2]) l3 = some (.lst [.int r8, .int r2]) := upd_same
    have n3 := W2.inn.fresh hl3
    have W3 := W2.fp f3
    generalize upd H2 l3 _ = H3 at g3 W3 ⊢
    simp only [List.mem_cons, List.not_mem_nil, or_false, not_or] at n3
    obtain ⟨_, _, _, _, _, n31, n32⟩ := n3
    clear W2 f3 hl3
    walk_at "r"
    refine Rd.a2 ⟨st, sl, 2, rfl, rfl, W3.S, by omega, by omega, fun r4 H4 a4 b4 S4 f4 => ?_⟩
    have W4 := W3.draw S4 f4
    have g4 := f4 _ _ g3 (by walk_at "nin")
    clear W3 S4 f4 g3
    obtain ⟨j, hj, hat⟩ : ∃ j : Nat, j < m ∧ atI [V.int r8, V.int r2] r4 = some (V.int j) := by
      have h3 : r4 = (0 : Nat) ∨ r4 = (1 : Nat) := by omega
      rcases h3 with rfl | rfl
      · exact ⟨r8.toNat, by omega, by rw [show ((r8.toNat : Nat) : Int) = r8 by omega]; exact atI_nat rfl⟩
      · exact ⟨r2.toNat, by omega, by rw [show ((r2.toNat : Nat) : Int) = r2 by omega]; exact atI_nat rfl⟩
    refine o_ixL (Or.inl (Or.inl g4)) hat ?_
    clear g4 n31 n32
    have nd := W4.nd
    simp only [List.nodup_cons, List.mem_cons, List.not_mem_nil, or_false, not_or, List.append_nil, List.cons_append, List.nil_append] at nd
    obtain ⟨⟨n_p_ow, n_p_pr, n_p_l, n_p_ol, n_p_st, n_p_sl⟩, ⟨n_ow_pr, n_ow_l, n_ow_ol, n_ow_st, n_ow_sl⟩, ⟨n_pr_l, n_pr_ol, n_pr_st, n_pr_sl⟩, ⟨n_l_ol, n_l_st, n_l_sl⟩, ⟨n_ol_st, n_ol_sl⟩, n_st_sl, _⟩ := nd
    have nd4 : [p, ow, pr, l].Nodup := by
      simp only [List.nodup_cons, List.mem_cons, List.not_mem_nil, or_false, not_or, not_false_eq_true, List.nodup_nil, and_true]
      (repeat' refine And.intro ?_ ?_) <;> walk_at "ne"
    walk_at "r"
    refine s_cut (fun σ H' => ∃ (os : List (Option Int)) (fr : List Nat) (u8 u9 u10 u11 u12 : Option V), σ = [some (.ref b), some (.ref st), some (.ref ol), some (.int j), some (.int n), some (.ref p), some (.int r8), some (.int i), u8, u9, u10, u11, u12] ∧ Wp a.C_Pool a.C_Ring H' st sl p ow pr l ol n m os fr) ?_ ?_
    · walk_at "r"
      refine Rd.a2 ⟨st, sl, 3, rfl, rfl, W4.S, by omega, by omega, fun r5 H5 a5 b5 S5 f5 => ?_⟩
      have W5 := W4.draw S5 f5
      clear W4 S5 f5
      have hp5 := W5.B.ob.choose_spec
      have hle := W5.B.le
      have hln := W5.B.ln
      walk_at "r"
      refine if_d (fun c5 => ?_) (fun c5 => ?_)
      · walk_at "r"
        refine Rd.a2 ⟨p, ow, pr, l, n, os, fr, j, rfl, rfl, W5.B, fun q6 H6 hq6 g6 f6 => ?_⟩
        have W6 := W5.fp f6
        have hp6 := W6.B.ob.choose_spec
        have hO := W6.O
        clear W5 f6 hp5
        walk_at "r"
        refine c_ls (Or.inl (Or.inl hO)) fun c7 hc7 => ?_
        have f7 : Fp [] H6 (upd H6 c7 (.lst ((own m).map V.int))) := Fp.new hc7
        have W7 := W6.fp f7
        have g7 : upd H6 c7 (.lst ((own m).map V.int)) c7 = some (.lst ((own m).map V.int)) := upd_same
        generalize upd H6 c7 _ = H7 at W7 g7 ⊢
        clear W6 hp6 hO f7 hc7
        walk_at "r"
        refine Rd.a3 ⟨p, ow, pr, l, c7, n, os, fr, j, own m, rfl, rfl, rfl, W7.B, g7, by rw [List.length_map, List.length_range]; omega, fun H8 f8 => ?_⟩
        have W8 := W7.fp f8
        clear W7 g7 f8
        have hp8 := W8.B.ob.choose_spec
        have hm8 := may_cn (os := os) (fr := fr) (j := j) (m := m)
        have hpo := W8.po
        walk_at "r"
        refine t_up (fun b H9 => b = false ∧ H9 = H8) ?_ ?_
        · walk_at "r"
          refine if_d (fun c9 => ?_) (fun c9 => ⟨rfl, rfl⟩)
          walk_at "r"
          have h0 : cn os j = 0 := by have := int_inj c9; rw [heldL_len] at this; exact Int.ofNat.inj this
          have h1 := PO_pos h0 hj
          have hne : fr.isEmpty = false := by
            cases fr with
            | nil => simp at hpo; omega
            | cons x y => rfl
          refine ⟨?_, rfl⟩
          rw [hm8, hne, decide_eq_true h0]; rfl
        · rintro _ _ ⟨rfl, rfl⟩
          refine iteF ?_
          walk_at "r"
          refine if_b (fun c10 => ?_) (fun c10 => ?_)
          · rw [hm8] at c10
            have hm10 : cn os j = 0 ∨ PO (cn os) m + 1 ≤ fr.length := by
              rw [Bool.and_eq_true, Bool.or_eq_true] at c10
              exact c10.2.imp of_decide_eq_true of_decide_eq_true
            walk_at "r"
            refine Rd.a2 ⟨p, ow, pr, l, n, os, fr, j, rfl, rfl, W8.B, nd4, (fun e => by rw [e] at c10; cases c10), fun b r e H9 B9 f9 => ?_⟩
            have W9 := W8.acq e hj hm10 B9 f9
            have eb := (W8.B.fi b (W8.B.lt b (by rw [e]; exact List.mem_cons_self))).mp (by rw [e]; exact List.mem_cons_self)
            clear W8 hp8 B9 f9
            have hp9 := W9.B.ob.choose_spec
            have eg : getO (os.set b (some (j : Int))) (b : Int) = some (j : Int) := by rw [getO, if_pos (by omega), Int.toNat_natCast, List.getElem?_set_self (List.getElem?_eq_some_iff.mp eb).1]; rfl
            walk_at "r"
            refine t_up (fun b H10 => b = false ∧ Fp [] H9 H10) ?_ ?_
            · walk_at "r"
              refine Rd.a2 ⟨p, ow, pr, l, n, _, r, b, rfl, rfl, W9.B, ?_⟩
              rw [eg]
              walk_at "r"
              refine if_ndF rfl ?_
              walk_at "r"
              refine Rd.a2 ⟨p, ow, pr, l, n, _, r, j, rfl, rfl, W9.B, fun q11 H11 hq11 g11 f11 => ?_⟩
              walk_at "r"
              refine ⟨?_, f11⟩
              rw [heldL_len, heldL_len]
              have := (cn_acq (j := j) eb).1
              unfold cn at this
              rw [this]
              exact congrArg not (decide_eq_true (by push_cast; rfl))
            · rintro _ H10 ⟨rfl, f10⟩
              refine iteF ?_
              walk_at "r"
              exact ⟨_, r, _, _, _, _, _, rfl, W9.fp f10⟩
          · walk_at "r"
            exact ⟨os, fr, _, _, _, _, _, rfl, W8⟩
      · walk_at "r"
        refine Rd.a2 ⟨p, ow, pr, l, n, os, fr, j, rfl, rfl, W5.B, fun q6 H6 hq6 g6 f6 => ?_⟩
        have nq := W5.inn.fresh hq6
        have W6 := W5.fp f6
        clear W5 f6 hp5
        have hp6 := W6.B.ob.choose_spec
        simp only [List.mem_cons, List.not_mem_nil, or_false, not_or] at nq
        obtain ⟨_, _, _, _, _, nq1, nq2⟩ := nq
        walk_at "r"
        refine if_d (fun c7 => ?_) (fun c7 => ?_)
        · have hhl := held_le os (j : Int)
          walk_at "r"
          refine Rd.a2 ⟨st, sl, _, rfl, rfl, W6.S, by omega, by omega, fun r7 H7 a7 b7 S7 f7 => ?_⟩
          have W7 := W6.draw S7 f7
          have g7 := f7 _ _ g6 (by walk_at "nin")
          clear W6 S7 f7 hp6 g6
          obtain ⟨d, rfl⟩ : ∃ d : Nat, r7 = d := ⟨r7.toNat, by omega⟩
          have hd : d < (heldL os (j : Int)).length := by omega
          have ed : (heldL os (j : Int))[d]? = some (heldL os (j : Int))[d] := List.getElem?_eq_getElem hd
          obtain ⟨c, ec, hc⟩ := heldF_at (List.getElem_mem hd)
          rw [ec] at ed
          have hcl : c < os.length := (List.getElem?_eq_some_iff.mp hc).1
          have eg : getO os (c : Int) = some (j : Int) := by rw [getO, if_pos (by omega), Int.toNat_natCast, hc]; rfl
          refine o_ixL (Or.inl (Or.inl g7)) (atI_nat ed) ?_
          walk_at "r"
          refine Rd.a2 ⟨p, ow, pr, l, n, os, fr, c, rfl, rfl, ⟨by omega, by omega⟩, W7.B, nd4, (fun e => by rw [eg] at e; cases e), fun y hy H8 B8 f8 => ?_⟩
          rw [Int.toNat_natCast] at B8
          walk_at "r"
          exact ⟨_, _, _, _, _, _, _, rfl, W7.rel hc B8 f8⟩
        · walk_at "r"
          exact ⟨os, fr, _, _, _, _, _, rfl, W6⟩
    · clear W4
      rintro σ H4 ⟨os, fr, u8, u9, u10, u11, u12, rfl, W⟩
      have hp4 := W.B.ob.choose_spec
      have hle := W.B.le
      have hln := W.B.ln
      have hpo := W.po
      have hsu := W.su
      walk_at "r"
      refine Rd.a1 ⟨p, ow, pr, l, n, os, fr, rfl, W.B, ?_⟩
      walk_at "r"
      refine Rd.a2 ⟨p, ow, pr, l, ol, n, os, fr, own m, rfl, rfl, W.B, W.O, by rw [List.length_map, List.length_range]; omega, fun q5 H5 hq5 g5 f5 => ?_⟩
      have W5 := W.fp f5
      clear W f5 hp4
      have hp5 := W5.B.ob.choose_spec
      walk_at "r"
      refine if_dF (by rw [List.length_map, poor_len]; omega) ?_
      walk_at "r"
      refine Rd.a1 ⟨p, ow, pr, l, n, os, fr, rfl, W5.B, ?_⟩
      walk_at "r"
      refine lc_filt (xs := (own m).map V.int) (lenF os) rfl (Or.inl (Or.inl W5.O)) (by rw [List.length_map, List.length_map, List.length_range]; omega) (fun E2 i x H' R N hE hx hacc F kR kN => ?_) fun E2 H6 hE hacc F => ?_
      · obtain ⟨y, _, rfl⟩ := List.mem_map.mp (List.mem_of_getElem? hx)
        refine ⟨rfl, ?_⟩
        have hp6 := F _ _ hp5 (by simp)
        walk_at "r"
        refine iteT ?_
        walk_at "r"
        refine Rd.a2 ⟨p, ow, pr, l, n, os, fr, y, rfl, rfl, W5.B.fp F (by simp) (by simp) (by simp) (by simp), fun q7 H7 hq7 g7 f7 => ?_⟩
        walk_at "r"
        exact kR _ _ rfl f7
      rw [lenF_map] at hacc
      walk_at "r"
      refine c_sum (ns := (List.range m).map fun k => (cn os k : Int)) (Or.inl (Or.inl hacc)) ?_
      walk_at "r"
      refine if_ndF (by rw [sum_SM]; exact congrArg V.int (by omega)) ?_
      walk_at "r"
      exact ⟨os, fr, _, _, _, _, _, _, _, rfl, W5.fp F⟩
  · rintro σ H1 ⟨os, fr, u3, u7, u8, u9, u10, u11, u12, rfl, W⟩
    walk_at "r"
    refine f_lst ?_
    walk_at "r"
    refine Rd.a2 ⟨p, ow, pr, l, ol, n, os, fr, own m, rfl, rfl, W.B, W.O, by rw [List.length_map, List.length_range]; omega, fun q2 H2 hq2 g2 f2 => ?_⟩
    have nq := W.inn.fresh hq2
    have W2 := W.fp f2
    clear W f2 hq2
    obtain ⟨L, hL⟩ : ∃ L, poorL os (own m) = L := ⟨_, rfl⟩
    have Lnd : L.Nodup := by rw [← hL]; exact List.Pairwise.filter _ (own_nd m)
    have Lz : ∀ x ∈ L, ∃ k : Nat, x = k ∧ k < m ∧ cn os k = 0 := fun x hx => poor_mem (hL ▸ hx)
    have Lp : ∀ k, k < m → cn os k = 0 → (k : Int) ∈ L := fun k h1 h2 => hL ▸ mem_poor h1 h2
    rw [hL] at g2
    have nd := W2.nd
    simp only [List.nodup_cons, List.mem_cons, List.not_mem_nil, or_false, not_or, List.append_nil, List.cons_append, List.nil_append] at nd
    obtain ⟨⟨n_p_ow, n_p_pr, n_p_l, n_p_ol, n_p_st, n_p_sl⟩, ⟨n_ow_pr, n_ow_l, n_ow_ol, n_ow_st, n_ow_sl⟩, ⟨n_pr_l, n_pr_ol, n_pr_st, n_pr_sl⟩, ⟨n_l_ol, n_l_st, n_l_sl⟩, ⟨n_ol_st, n_ol_sl⟩, n_st_sl, _⟩ := nd
    have nd4 : [p, ow, pr, l].Nodup := by
      simp only [List.nodup_cons, List.mem_cons, List.not_mem_nil, or_false, not_or, not_false_eq_true, List.nodup_nil, and_true]
      (repeat' refine And.intro ?_ ?_) <;> walk_at "ne"
    refine k_forL (xs := L.map V.int) (fun i σ H' => ∃ (os : List (Option Int)) (fr : List Nat) (u3 u7 u8 u9 u10 u11 u12 : Option V), σ = [some (.ref b), some (.ref st), some (.ref ol), u3, some (.int n), some (.ref p), some (.int r8), u7, u8, u9, u10, u11, u12] ∧ Wp a.C_Pool a.C_Ring H' st sl p ow pr l ol n m os fr ∧ H' q2 = some (.lst (L.map V.int)) ∧ (∀ x ∈ L.drop i, ∃ k : Nat, x = k ∧ k < m ∧ cn os k = 0) ∧ (∀ k, k < m → cn os k = 0 → (k : Int) ∈ L.drop i)) (Or.inl (Or.inl g2)) ?_ ?_ ?_ ?_
    · exact ⟨os, fr, _, _, _, _, _, _, _, rfl, W2, g2, Lz, Lp⟩
    · rintro i σ H' _ ⟨_, _, _, _, _, _, _, _, _, _, _, g, _⟩
      exact Or.inl (Or.inl g)
    · clear W2 Lz Lp hL
      rintro i x σ H3 hx ⟨os, fr, u3, u7, u8, u9, u10, u11, u12, rfl, W, g3, hz, hp⟩
      obtain ⟨y, hy, rfl⟩ : ∃ y, L[i]? = some y ∧ V.int y = x := by rw [List.getElem?_map] at hx; simpa using hx
      have hil := (List.getElem?_eq_some_iff.mp hy).1
      have ed : L.drop i = y :: L.drop (i + 1) := by
        rw [List.drop_eq_getElem_cons hil, (List.getElem?_eq_some_iff.mp hy).2]
      have dn : (L.drop i).Nodup := Lnd.sublist (List.drop_sublist i L)
      rw [ed] at dn hz hp
      obtain ⟨ny, _⟩ := List.nodup_cons.mp dn
      obtain ⟨j, rfl, hj, h0⟩ := hz y List.mem_cons_self
      have h1 := PO_pos h0 hj
      have hpo := W.po
      have hp3 := W.B.ob.choose_spec
      simp only [List.mem_cons, List.not_mem_nil, or_false, not_or] at nq
      obtain ⟨m1, m2, m3, m4, m5, m6, m7⟩ := nq
      walk_at "r"
      refine Rd.a2 ⟨p, ow, pr, l, n, os, fr, j, rfl, rfl, W.B, nd4, (fun e => by rw [e] at hpo; simp at hpo; omega), fun b r e H9 B9 f9 => ?_⟩
      have W9 := W.acq e hj (.inl h0) B9 f9
      have eb := (W.B.fi b (W.B.lt b (by rw [e]; exact List.mem_cons_self))).mp (by rw [e]; exact List.mem_cons_self)
      obtain ⟨c1, c2⟩ := cn_acq (j := j) eb
      walk_at "r"
      refine ⟨_, r, _, _, _, _, _, _, _, rfl, W9, f9 _ _ g3 (by walk_at "nin"), fun x hx => ?_, fun k hk h => ?_⟩
      · obtain ⟨k, rfl, hk, h⟩ := hz x (List.mem_cons_of_mem _ hx)
        exact ⟨k, rfl, hk, by rw [c2 k (fun e => ny (e ▸ hx))]; exact h⟩
      · have hkj : k ≠ j := fun e => by rw [e, c1] at h; omega
        rw [c2 k hkj] at h
        rcases List.mem_cons.mp (hp k hk h) with e | e
        · exact absurd (by omega) hkj
        · exact e
    · clear W2 Lz Lp hL
      rintro σ H3 ⟨os, fr, u3, u7, u8, u9, u10, u11, u12, rfl, W, g3, hz, hp⟩
      rw [List.length_map, List.drop_length] at hp
      have h0 : PO (cn os) m = 0 := PO_zero fun k hk h => by cases hp k hk h
      walk_at "r"
      refine Rd.a2 ⟨p, ow, pr, l, ol, n, os, fr, own m, rfl, rfl, W.B, W.O, by rw [List.length_map, List.length_range]; omega, fun q5 H5 hq5 g5 f5 => ?_⟩
      walk_at "r"
      rw [List.length_map, poor_len, h0]
      exact k _
end
end My
set_option Elab.async false
set_option maxRecDepth 100000
set_option maxHeartbeats 100000000
set_option linter.all false
namespace My
open PySem L2 Sx Rd
local macro_rules | `(tactic| walk_at "ne") => `(tactic| (first | with_reducible assumption | with_reducible exact Ne.symm (by with_reducible assumption)))
local macro_rules | `(tactic| walk_at "nin") => `(tactic| (simp only [List.mem_cons, List.not_mem_nil, or_false, not_or, not_false_eq_true]; (repeat' refine And.intro ?_ ?_); (all_goals walk_at "ne")))
local macro_rules | `(tactic| walk_at "hl") => `(tactic| (first | (with_reducible assumption) | exact upd_same | ((with_reducible refine' (upd_ne ?hne).trans ?hgo); (case hne => walk_at "ne"); (case hgo => walk_at "hl"))))
local macro_rules | `(tactic| walk_at "sq") => `(tactic| (first | (with_reducible assumption) | exact Or.inl (Or.inl (by walk_at "hl"))))
local macro_rules | `(tactic| walk_at "ar") => `(tactic| (first | omega | exact ⟨by omega, by omega⟩ | exact Or.inl ⟨by omega, by omega⟩ | exact Or.inr ⟨by omega, by omega⟩ | (show (0 : Int) < _; omega) | (show (0 : Int) < _ ∧ _ < (1073741824 : Int); omega)))
local macro_rules | `(tactic| walk_at "cls") => `(tactic| (first | exact Txt.cl_Ring (by assumption) | exact Txt.cl_Pool (by assumption)))
local macro_rules | `(tactic| walk_at "noa") => `(tactic| (first | exact Txt.n_Ring_cells (by assumption) | exact Txt.n_Ring_written (by assumption) | exact Txt.n_Ring_taken (by assumption) | exact Txt.n_Pool_owners (by assumption) | exact Txt.n_Pool_free (by assumption)))
local macro_rules | `(tactic| walk_at "lkp") => `(tactic| (first | (with_reducible exact F_Ring_cells_l) | (with_reducible exact F_Ring_written_l) | (with_reducible exact F_Ring_taken_l) | (with_reducible exact F_Pool_owners_l) | (with_reducible exact F_Pool_free_l)))
local macro_rules | `(tactic| walk_at "ptf") => `(tactic| (first | (with_reducible exact F_Ring_cells_p) | (with_reducible exact F_Ring_written_p) | (with_reducible exact F_Ring_taken_p) | (with_reducible exact F_Pool_owners_p) | (with_reducible exact F_Pool_free_p) | exact rfl))
local macro_rules | `(tactic| walk_at "lnF") => `(tactic| (first | (with_reducible exact F_Ring_len) | (with_reducible exact F_Pool_len) | (refine PL.lt (n := 60) ?_ (by decide); (repeat refine PL.put ?_); exact PL.nil) | decide))
local macro_rules | `(tactic| walk_at "nol") => `(tactic| (first | (with_reducible exact F_Ring_m_held) | (with_reducible exact F_Ring_m_is_full) | (with_reducible exact F_Ring_m_put) | (with_reducible exact F_Ring_m_first) | (with_reducible exact F_Ring_m_take) | (with_reducible exact F_Ring_m_listed) | (with_reducible exact F_Ring_m_next) | (with_reducible exact F_Pool_m_free) | (with_reducible exact F_Pool_m_owner) | (with_reducible exact F_Pool_m_held) | (with_reducible exact F_Pool_m_acquire) | (with_reducible exact F_Pool_m_release) | (with_reducible exact F_Pool_m_may_acquire) | (with_reducible exact F_Pool_m_exists)))
local macro_rules | `(tactic| walk_at "r1") => `(tactic| (first
  | with_reducible apply l_cons | ((with_reducible apply e_var); (case h => exact rfl)) | with_reducible apply l_nil | with_reducible apply s_seq | with_reducible apply e_c | with_reducible apply g_name
  | with_reducible apply s_asg | with_reducible apply e_call | with_reducible apply k_t | with_reducible apply e_op | with_reducible apply e_cb | with_reducible apply t_test
  | with_reducible apply s_if | with_reducible apply t_or | with_reducible apply t_and | with_reducible apply t_B | with_reducible apply s_next | with_reducible apply p_some
  | with_reducible apply p_no | with_reducible apply e_sl | with_reducible apply k_i | with_reducible apply e_lst | with_reducible apply t_not | with_reducible apply o_I0
  | ((with_reducible refine' o_I ?hc ?_); (case hc => walk_at "ar")) | with_reducible apply e_meth | ((with_reducible refine' k_meth ?h1 ?h2 ?_); (case h1 => walk_at "hl"); (case h2 => walk_at "nol")) | with_reducible apply e_fld | ((with_reducible refine' k_fld ?h1 ?h2 ?h3 ?h4 ?_); (case h1 => walk_at "hl"); (case h2 => walk_at "cls"); (case h3 => walk_at "noa"); (case h4 => walk_at "lkp")) | with_reducible apply e_not
  | with_reducible apply s_ret | ((with_reducible refine' k_ty ?h1 ?_); (case h1 => walk_at "sq")) | with_reducible apply s_drop | with_reducible apply s_retN | with_reducible apply s_cont | with_reducible apply s_break
  | with_reducible apply o_chC | ((with_reducible refine' o_chV ?hv ?_); (case hv => exact rfl)) | with_reducible apply e_un | with_reducible apply o_U | ((with_reducible refine' o_eq ?hs ?_); (case hs => exact rfl)) | ((with_reducible refine' o_ne ?hs ?_); (case hs => exact rfl))
  | ((with_reducible refine' o_ixL ?h1 ?h2 ?_); (case h1 => walk_at "sq"); (case h2 => first | exact rfl | exact atI_zero _ _)) | with_reducible apply s_fld | with_reducible apply e_make | ((with_reducible refine' k_set ?h1 ?h2 ?h3 ?h4 ?h5 ?_); (case h1 => walk_at "hl"); (case h2 => walk_at "cls"); (case h3 => walk_at "noa"); (case h4 => walk_at "ptf"); (case h5 => walk_at "lnF")) | with_reducible apply e_tup | with_reducible apply e_bm
  | with_reducible apply e_bm0 | with_reducible apply e_if | with_reducible apply e_chain | with_reducible apply s_raise | with_reducible apply g_sub | ((with_reducible refine' c_ln ?h1 ?_); (case h1 => walk_at "sq"))
  | ((with_reducible refine' c_pop0 ?h1 ?h2 ?_); (case h1 => walk_at "hl"); (case h2 => omega)) | with_reducible apply c_isBool | with_reducible apply c_isInt | with_reducible apply c_isBoolN | with_reducible apply c_isTupI | with_reducible apply c_isNonB
  | with_reducible apply c_isNonT | ((with_reducible refine' c_isList ?h1 ?_); (case h1 => walk_at "hl")) | ((with_reducible refine' c_isTup ?h1 ?_); (case h1 => walk_at "hl")) | ((with_reducible refine' c_isTupB ?h1 ?_); (case h1 => walk_at "hl")) | with_reducible apply o_isB | with_reducible apply o_notB
  | with_reducible apply e_and | with_reducible apply e_or | with_reducible apply k_bl | with_reducible apply e_xf | with_reducible apply s_augS | ((with_reducible refine' s_augV ?hv ?_); (case hv => exact rfl))
  | with_reducible apply ip_I | with_reducible apply e_lcE | ((with_reducible refine' k_xf ?h1 ?h2 ?_); (case h1 => walk_at "hl"); (case h2 => exact look_hit _ _ _)) | ((with_reducible refine' o_slL ?h1 ?_); (case h1 => walk_at "sq")) | ((with_reducible refine' k_dget ?h1 ?h2 ?_); (case h1 => walk_at "hl"); (case h2 => with_reducible assumption)) | with_reducible apply e_dget
  | with_reducible apply s_dput | with_reducible apply e_makeK | with_reducible apply g_cons | with_reducible apply g_nil | with_reducible apply c_ab | with_reducible apply c_in
  | with_reducible apply c_mx | with_reducible apply c_mn | with_reducible apply a1 | with_reducible apply a2 | with_reducible apply a3 | with_reducible apply a4
  | with_reducible apply a5 | with_reducible apply a6 | with_reducible apply a0 | with_reducible apply t_tru | with_reducible apply t_yes | ((with_reducible refine' k_truL ?h1 ?_); (case h1 => walk_at "sq")) | with_reducible refine d_nx ?_ | with_reducible refine d_rt ?_ | with_reducible refine d_bk ?_
  | with_reducible refine d_ct ?_))
local macro_rules | `(tactic| walk_at "r") => `(tactic| (repeat walk_at "r1"))
section
variable {P : Program} {w : World} {K : PySem.W.Frag} {mg : Str → Option Value} {base : Heap} {a : Ads}
end
/-- the top's facts -/
theorem all_mk {l : PySem.W.OpenLaw} {w : World} {K : PySem.W.Frag} {h : Heap} {mg : Str → Option Value} {fa : Addr} (hl : l.prog = PySem.Challenge.pw_tickrings_k04_no_owner_without_a_buffer) (X : K.In h) (G : h.Ns mainGlobals mg) (hfa : mg "law" = some (.ref fa))
    {C_TickringsError C_RingError C_PoolError C_Ring C_Pool : Addr} {f_wall f_RingError_init f_PoolError_init f_Ring_init f_Ring_held f_Ring_is_full f_Ring_put f_Ring_first f_Ring_take f_Ring_listed f_Ring_next f_Pool_init f_Pool_free f_Pool_owner f_Pool_held f_Pool_acquire f_Pool_release f_Pool_may_acquire f_Pool_exists f_law_state f_law_draw f_law_poor f_law : Addr}
    {oc_wall : Value} {dc_wall : Value} {pm_wall : Value} {cd_wall : Value} {ct_wall : Value} {kV_wall : Value} {od_wall : Option Addr} {an_wall : Option Addr} {sl_wall : Array (Option Value)} {oc_RingError_init : Value} {dc_RingError_init : Value} {pm_RingError_init : Value} {ct_RingError_init : Value} {kV_RingError_init : Value} {od_RingError_init : Option Addr} {an_RingError_init : Option Addr} {sl_RingError_init : Array (Option Value)} {nm_RingError : Str} {qn_RingError : Str} {N_RingError : Addr} {bs_RingError : List Value} {bm_RingError : List Value} {sub_RingError : List Value} {sn_RingError : List Str} {ab_RingError : Bool} {col_RingError : Option Bool} {dd_RingError : Option Addr} {k0_RingError k1_RingError k2_RingError k3_RingError k5_RingError : Option Value} {cda_RingError cc_RingError : Addr} {cl_RingError ccl_RingError : Value} {cld_RingError cdd_RingError : Option Addr} {csl_RingError ccs_RingError : Array (Option Value)} {vs_RingError : Array Value} {file_RingError : Str} {tf_RingError : Tok} {oc_PoolError_init : Value} {dc_PoolError_init : Value} {pm_PoolError_init : Value} {ct_PoolError_init : Value} {kV_PoolError_init : Value} {od_PoolError_init : Option Addr} {an_PoolError_init : Option Addr} {sl_PoolError_init : Array (Option Value)} {nm_PoolError : Str} {qn_PoolError : Str} {N_PoolError : Addr} {bs_PoolError : List Value} {bm_PoolError : List Value} {sub_PoolError : List Value} {sn_PoolError : List Str} {ab_PoolError : Bool} {col_PoolError : Option Bool} {dd_PoolError : Option Addr} {k0_PoolError k1_PoolError k2_PoolError k3_PoolError k5_PoolError : Option Value} {cda_PoolError cc_PoolError : Addr} {cl_PoolError ccl_PoolError : Value} {cld_PoolError cdd_PoolError : Option Addr} {csl_PoolError ccs_PoolError : Array (Option Value)} {vs_PoolError : Array Value} {file_PoolError : Str} {tf_PoolError : Tok} {oc_Ring_init : Value} {dc_Ring_init : Value} {pm_Ring_init : Value} {cd_Ring_init : Value} {ct_Ring_init : Value} {kV_Ring_init : Value} {od_Ring_init : Option Addr} {an_Ring_init : Option Addr} {sl_Ring_init : Array (Option Value)} {oc_Ring_held : Value} {dc_Ring_held : Value} {pm_Ring_held : Value} {cd_Ring_held : Value} {ct_Ring_held : Value} {kV_Ring_held : Value} {od_Ring_held : Option Addr} {an_Ring_held : Option Addr} {sl_Ring_held : Array (Option Value)} {oc_Ring_is_full : Value} {dc_Ring_is_full : Value} {pm_Ring_is_full : Value} {cd_Ring_is_full : Value} {ct_Ring_is_full : Value} {kV_Ring_is_full : Value} {od_Ring_is_full : Option Addr} {an_Ring_is_full : Option Addr} {sl_Ring_is_full : Array (Option Value)} {oc_Ring_put : Value} {dc_Ring_put : Value} {pm_Ring_put : Value} {cd_Ring_put : Value} {ct_Ring_put : Value} {kV_Ring_put : Value} {od_Ring_put : Option Addr} {an_Ring_put : Option Addr} {sl_Ring_put : Array (Option Value)} {oc_Ring_first : Value} {dc_Ring_first : Value} {pm_Ring_first : Value} {cd_Ring_first : Value} {ct_Ring_first : Value} {kV_Ring_first : Value} {od_Ring_first : Option Addr} {an_Ring_first : Option Addr} {sl_Ring_first : Array (Option Value)} {oc_Ring_take : Value} {dc_Ring_take : Value} {pm_Ring_take : Value} {cd_Ring_take : Value} {ct_Ring_take : Value} {kV_Ring_take : Value} {od_Ring_take : Option Addr} {an_Ring_take : Option Addr} {sl_Ring_take : Array (Option Value)} {oc_Ring_listed : Value} {dc_Ring_listed : Value} {pm_Ring_listed : Value} {cd_Ring_listed : Value} {ct_Ring_listed : Value} {kV_Ring_listed : Value} {od_Ring_listed : Option Addr} {an_Ring_listed : Option Addr} {sl_Ring_listed : Array (Option Value)} {oc_Ring_next : Value} {dc_Ring_next : Value} {pm_Ring_next : Value} {cd_Ring_next : Value} {ct_Ring_next : Value} {kV_Ring_next : Value} {od_Ring_next : Option Addr} {an_Ring_next : Option Addr} {sl_Ring_next : Array (Option Value)} {oc_Pool_init : Value} {dc_Pool_init : Value} {pm_Pool_init : Value} {cd_Pool_init : Value} {ct_Pool_init : Value} {kV_Pool_init : Value} {od_Pool_init : Option Addr} {an_Pool_init : Option Addr} {sl_Pool_init : Array (Option Value)} {oc_Pool_free : Value} {dc_Pool_free : Value} {pm_Pool_free : Value} {cd_Pool_free : Value} {ct_Pool_free : Value} {kV_Pool_free : Value} {od_Pool_free : Option Addr} {an_Pool_free : Option Addr} {sl_Pool_free : Array (Option Value)} {oc_Pool_owner : Value} {dc_Pool_owner : Value} {pm_Pool_owner : Value} {cd_Pool_owner : Value} {ct_Pool_owner : Value} {kV_Pool_owner : Value} {od_Pool_owner : Option Addr} {an_Pool_owner : Option Addr} {sl_Pool_owner : Array (Option Value)} {oc_Pool_held : Value} {dc_Pool_held : Value} {pm_Pool_held : Value} {cd_Pool_held : Value} {ct_Pool_held : Value} {kV_Pool_held : Value} {od_Pool_held : Option Addr} {an_Pool_held : Option Addr} {sl_Pool_held : Array (Option Value)} {oc_Pool_acquire : Value} {dc_Pool_acquire : Value} {pm_Pool_acquire : Value} {cd_Pool_acquire : Value} {ct_Pool_acquire : Value} {kV_Pool_acquire : Value} {od_Pool_acquire : Option Addr} {an_Pool_acquire : Option Addr} {sl_Pool_acquire : Array (Option Value)} {oc_Pool_release : Value} {dc_Pool_release : Value} {pm_Pool_release : Value} {cd_Pool_release : Value} {ct_Pool_release : Value} {kV_Pool_release : Value} {od_Pool_release : Option Addr} {an_Pool_release : Option Addr} {sl_Pool_release : Array (Option Value)} {oc_Pool_may_acquire : Value} {dc_Pool_may_acquire : Value} {pm_Pool_may_acquire : Value} {cd_Pool_may_acquire : Value} {ct_Pool_may_acquire : Value} {kV_Pool_may_acquire : Value} {od_Pool_may_acquire : Option Addr} {an_Pool_may_acquire : Option Addr} {sl_Pool_may_acquire : Array (Option Value)} {oc_Pool_exists : Value} {dc_Pool_exists : Value} {pm_Pool_exists : Value} {cd_Pool_exists : Value} {ct_Pool_exists : Value} {kV_Pool_exists : Value} {od_Pool_exists : Option Addr} {an_Pool_exists : Option Addr} {sl_Pool_exists : Array (Option Value)} {oc_law_state : Value} {dc_law_state : Value} {pm_law_state : Value} {cd_law_state : Value} {ct_law_state : Value} {kV_law_state : Value} {od_law_state : Option Addr} {an_law_state : Option Addr} {sl_law_state : Array (Option Value)} {oc_law_draw : Value} {dc_law_draw : Value} {pm_law_draw : Value} {cd_law_draw : Value} {ct_law_draw : Value} {kV_law_draw : Value} {od_law_draw : Option Addr} {an_law_draw : Option Addr} {sl_law_draw : Array (Option Value)} {oc_law_poor : Value} {dc_law_poor : Value} {pm_law_poor : Value} {cd_law_poor : Value} {ct_law_poor : Value} {kV_law_poor : Value} {od_law_poor : Option Addr} {an_law_poor : Option Addr} {sl_law_poor : Array (Option Value)} {oc_law : Value} {dc_law : Value} {pm_law : Value} {cd_law : Value} {ct_law : Value} {kV_law : Value} {od_law : Option Addr} {an_law : Option Addr} {sl_law : Array (Option Value)}
    (gC_TickringsError : PySem.W.nsIn K mainGlobals "TickringsError" = some (some (.ref C_TickringsError)))
    (gC_RingError : PySem.W.nsIn K mainGlobals "RingError" = some (some (.ref C_RingError)))
    (gC_PoolError : PySem.W.nsIn K mainGlobals "PoolError" = some (some (.ref C_PoolError)))
    (gC_Ring : PySem.W.nsIn K mainGlobals "Ring" = some (some (.ref C_Ring)))
    (gC_Pool : PySem.W.nsIn K mainGlobals "Pool" = some (some (.ref C_Pool)))
    (a_wall : PySem.W.nsIn K mainGlobals "_wall" = some (some (.ref f_wall)))
    (l_wall : K.lookup f_wall = some ⟨oc_wall, od_wall, .func (PySem.W.fnOf "_wall" "_wall" (defArgs s_wall) (defBody s_wall) (defScope s_wall) .none kV_wall dc_wall pm_wall an_wall cd_wall ct_wall), sl_wall⟩)
    (c_wall : PySem.W.codeIn K cd_wall "_wall" = true)
    (k_wall : PySem.W.keepIn K (.ref f_wall) = true)
    (x_RingError : K.lookup C_RingError = some (excClassObj nm_RingError qn_RingError C_RingError N_RingError bs_RingError bm_RingError true sn_RingError sub_RingError ab_RingError col_RingError dd_RingError k0_RingError k1_RingError k2_RingError k3_RingError k5_RingError "ValueError.__new__"))
    (hbm_RingError : PySem.HandSPX.refsVE bm_RingError = true)
    (sa_RingError : PySem.W.findIn K (.ref C_RingError) "__setattr__" = some (some (.builtin "object.__setattr__")))
    (ex_RingError : PySem.W.subIn K (.ref C_RingError) (.type "BaseException") = some true)
    (ty_RingError : PySem.W.typeIn K (.ref C_RingError) = some (.type "type"))
    (kp_RingError : PySem.W.keepIn K (.ref C_RingError) = true)
    (su_RingError : PySem.W.ks_superIn K C_RingError C_RingError "__init__" = some (some (.builtin "ValueError.__init__")))
    (ve_RingError : PySem.W.subIn K (.ref C_RingError) (.type "ValueError") = some true)
    (op_RingError : PySem.W.nsIn K cStatics "thirdparty.any" = some none)
    (sm_RingError : PySem.W.mroIn K C_RingError (.ref C_RingError) = some true)
    (ic_RingError : PySem.W.findIn K (.ref C_RingError) "__init__" = some (some (.ref f_RingError_init)))
    (ti_RingError : PySem.W.typeIn K (.ref f_RingError_init) = some (.type "function"))
    (l_RingError_init : K.lookup f_RingError_init = some ⟨oc_RingError_init, od_RingError_init, .func (PySem.W.fnX "__init__" "RingError.__init__" (defArgs s_RingError_init) (defBody s_RingError_init) (defScope s_RingError_init) [("__class__", cc_RingError)] .none kV_RingError_init dc_RingError_init pm_RingError_init an_RingError_init (.ref cda_RingError) ct_RingError_init), sl_RingError_init⟩)
    (c_RingError_init : PySem.W.codeIn K (.ref cda_RingError) "RingError.__init__" = true)
    (ce_RingError : K.lookup cc_RingError = some ⟨cl_RingError, cld_RingError, .cell (some (.ref C_RingError)), csl_RingError⟩)
    (co_RingError : K.lookup cda_RingError = some ⟨ccl_RingError, cdd_RingError, .fields vs_RingError, ccs_RingError⟩)
    (cv_RingError : vs_RingError[2]? = some (.str file_RingError tf_RingError))
    (cf_RingError : ((PySem.Challenge.pw_tickrings_k04_no_owner_without_a_buffer.main.file : Str) == file_RingError) = true)
    (no_RingError : PySem.W.findIn K (.ref C_RingError) "held" = some none)
    (ga_RingError : PySem.W.findIn K (.ref C_RingError) "__getattribute__" = some (some (.builtin "BaseException.__getattribute__")))
    (gg_RingError : PySem.W.findIn K (.ref C_RingError) "__getattr__" = some none)
    (hd_RingError : PySem.W.hasDictIn K C_RingError = true)
    (ha_RingError : PySem.W.findIn K (.ref C_RingError) "__class__" = some (some (.builtin "object.__class__")))
    (hn_RingError : PySem.W.specialIn K (.builtin "object.__class__") "__get__" = some (some (.builtin "getset_descriptor.__get__")))
    (ht_RingError : PySem.W.takesIn K (.builtin "object.__class__") = some true)
    (hm_RingError : PySem.W.mroIn K C_RingError (.type "object") = some true)
    (ow_RingError : PySem.W.subIn K (.ref C_RingError) (.ref C_RingError) = some true)
    (x_PoolError : K.lookup C_PoolError = some (excClassObj nm_PoolError qn_PoolError C_PoolError N_PoolError bs_PoolError bm_PoolError true sn_PoolError sub_PoolError ab_PoolError col_PoolError dd_PoolError k0_PoolError k1_PoolError k2_PoolError k3_PoolError k5_PoolError "ValueError.__new__"))
    (hbm_PoolError : PySem.HandSPX.refsVE bm_PoolError = true)
    (sa_PoolError : PySem.W.findIn K (.ref C_PoolError) "__setattr__" = some (some (.builtin "object.__setattr__")))
    (ex_PoolError : PySem.W.subIn K (.ref C_PoolError) (.type "BaseException") = some true)
    (ty_PoolError : PySem.W.typeIn K (.ref C_PoolError) = some (.type "type"))
    (kp_PoolError : PySem.W.keepIn K (.ref C_PoolError) = true)
    (su_PoolError : PySem.W.ks_superIn K C_PoolError C_PoolError "__init__" = some (some (.builtin "ValueError.__init__")))
    (ve_PoolError : PySem.W.subIn K (.ref C_PoolError) (.type "ValueError") = some true)
    (op_PoolError : PySem.W.nsIn K cStatics "thirdparty.any" = some none)
    (sm_PoolError : PySem.W.mroIn K C_PoolError (.ref C_PoolError) = some true)
    (ic_PoolError : PySem.W.findIn K (.ref C_PoolError) "__init__" = some (some (.ref f_PoolError_init)))
    (ti_PoolError : PySem.W.typeIn K (.ref f_PoolError_init) = some (.type "function"))
    (l_PoolError_init : K.lookup f_PoolError_init = some ⟨oc_PoolError_init, od_PoolError_init, .func (PySem.W.fnX "__init__" "PoolError.__init__" (defArgs s_PoolError_init) (defBody s_PoolError_init) (defScope s_PoolError_init) [("__class__", cc_PoolError)] .none kV_PoolError_init dc_PoolError_init pm_PoolError_init an_PoolError_init (.ref cda_PoolError) ct_PoolError_init), sl_PoolError_init⟩)
    (c_PoolError_init : PySem.W.codeIn K (.ref cda_PoolError) "PoolError.__init__" = true)
    (ce_PoolError : K.lookup cc_PoolError = some ⟨cl_PoolError, cld_PoolError, .cell (some (.ref C_PoolError)), csl_PoolError⟩)
    (co_PoolError : K.lookup cda_PoolError = some ⟨ccl_PoolError, cdd_PoolError, .fields vs_PoolError, ccs_PoolError⟩)
    (cv_PoolError : vs_PoolError[2]? = some (.str file_PoolError tf_PoolError))
    (cf_PoolError : ((PySem.Challenge.pw_tickrings_k04_no_owner_without_a_buffer.main.file : Str) == file_PoolError) = true)
    (no_PoolError : PySem.W.findIn K (.ref C_PoolError) "buffer" = some none)
    (ga_PoolError : PySem.W.findIn K (.ref C_PoolError) "__getattribute__" = some (some (.builtin "BaseException.__getattribute__")))
    (gg_PoolError : PySem.W.findIn K (.ref C_PoolError) "__getattr__" = some none)
    (hd_PoolError : PySem.W.hasDictIn K C_PoolError = true)
    (ha_PoolError : PySem.W.findIn K (.ref C_PoolError) "__class__" = some (some (.builtin "object.__class__")))
    (hn_PoolError : PySem.W.specialIn K (.builtin "object.__class__") "__get__" = some (some (.builtin "getset_descriptor.__get__")))
    (ht_PoolError : PySem.W.takesIn K (.builtin "object.__class__") = some true)
    (hm_PoolError : PySem.W.mroIn K C_PoolError (.type "object") = some true)
    (ow_PoolError : PySem.W.subIn K (.ref C_PoolError) (.ref C_PoolError) = some true)
    (a_Ring_init : PySem.W.findIn K (.ref C_Ring) "__init__" = some (some (.ref f_Ring_init)))
    (i_Ring_init : PySem.W.isFn K (.ref f_Ring_init) = true)
    (l_Ring_init : K.lookup f_Ring_init = some ⟨oc_Ring_init, od_Ring_init, .func (PySem.W.fnOf "__init__" "Ring.__init__" (defArgs s_Ring_init) (defBody s_Ring_init) (defScope s_Ring_init) .none kV_Ring_init dc_Ring_init pm_Ring_init an_Ring_init cd_Ring_init ct_Ring_init), sl_Ring_init⟩)
    (c_Ring_init : PySem.W.codeIn K cd_Ring_init "Ring.__init__" = true)
    (k_Ring_init : PySem.W.keepIn K (.ref f_Ring_init) = true)
    (a_Ring_held : PySem.W.findIn K (.ref C_Ring) "held" = some (some (.ref f_Ring_held)))
    (i_Ring_held : PySem.W.isFn K (.ref f_Ring_held) = true)
    (l_Ring_held : K.lookup f_Ring_held = some ⟨oc_Ring_held, od_Ring_held, .func (PySem.W.fnOf "held" "Ring.held" (defArgs s_Ring_held) (defBody s_Ring_held) (defScope s_Ring_held) .none kV_Ring_held dc_Ring_held pm_Ring_held an_Ring_held cd_Ring_held ct_Ring_held), sl_Ring_held⟩)
    (c_Ring_held : PySem.W.codeIn K cd_Ring_held "Ring.held" = true)
    (k_Ring_held : PySem.W.keepIn K (.ref f_Ring_held) = true)
    (a_Ring_is_full : PySem.W.findIn K (.ref C_Ring) "is_full" = some (some (.ref f_Ring_is_full)))
    (i_Ring_is_full : PySem.W.isFn K (.ref f_Ring_is_full) = true)
    (l_Ring_is_full : K.lookup f_Ring_is_full = some ⟨oc_Ring_is_full, od_Ring_is_full, .func (PySem.W.fnOf "is_full" "Ring.is_full" (defArgs s_Ring_is_full) (defBody s_Ring_is_full) (defScope s_Ring_is_full) .none kV_Ring_is_full dc_Ring_is_full pm_Ring_is_full an_Ring_is_full cd_Ring_is_full ct_Ring_is_full), sl_Ring_is_full⟩)
    (c_Ring_is_full : PySem.W.codeIn K cd_Ring_is_full "Ring.is_full" = true)
    (k_Ring_is_full : PySem.W.keepIn K (.ref f_Ring_is_full) = true)
    (a_Ring_put : PySem.W.findIn K (.ref C_Ring) "put" = some (some (.ref f_Ring_put)))
    (i_Ring_put : PySem.W.isFn K (.ref f_Ring_put) = true)
    (l_Ring_put : K.lookup f_Ring_put = some ⟨oc_Ring_put, od_Ring_put, .func (PySem.W.fnOf "put" "Ring.put" (defArgs s_Ring_put) (defBody s_Ring_put) (defScope s_Ring_put) .none kV_Ring_put dc_Ring_put pm_Ring_put an_Ring_put cd_Ring_put ct_Ring_put), sl_Ring_put⟩)
    (c_Ring_put : PySem.W.codeIn K cd_Ring_put "Ring.put" = true)
    (k_Ring_put : PySem.W.keepIn K (.ref f_Ring_put) = true)
    (a_Ring_first : PySem.W.findIn K (.ref C_Ring) "first" = some (some (.ref f_Ring_first)))
    (i_Ring_first : PySem.W.isFn K (.ref f_Ring_first) = true)
    (l_Ring_first : K.lookup f_Ring_first = some ⟨oc_Ring_first, od_Ring_first, .func (PySem.W.fnOf "first" "Ring.first" (defArgs s_Ring_first) (defBody s_Ring_first) (defScope s_Ring_first) .none kV_Ring_first dc_Ring_first pm_Ring_first an_Ring_first cd_Ring_first ct_Ring_first), sl_Ring_first⟩)
    (c_Ring_first : PySem.W.codeIn K cd_Ring_first "Ring.first" = true)
    (k_Ring_first : PySem.W.keepIn K (.ref f_Ring_first) = true)
    (a_Ring_take : PySem.W.findIn K (.ref C_Ring) "take" = some (some (.ref f_Ring_take)))
    (i_Ring_take : PySem.W.isFn K (.ref f_Ring_take) = true)
    (l_Ring_take : K.lookup f_Ring_take = some ⟨oc_Ring_take, od_Ring_take, .func (PySem.W.fnOf "take" "Ring.take" (defArgs s_Ring_take) (defBody s_Ring_take) (defScope s_Ring_take) .none kV_Ring_take dc_Ring_take pm_Ring_take an_Ring_take cd_Ring_take ct_Ring_take), sl_Ring_take⟩)
    (c_Ring_take : PySem.W.codeIn K cd_Ring_take "Ring.take" = true)
    (k_Ring_take : PySem.W.keepIn K (.ref f_Ring_take) = true)
    (a_Ring_listed : PySem.W.findIn K (.ref C_Ring) "listed" = some (some (.ref f_Ring_listed)))
    (i_Ring_listed : PySem.W.isFn K (.ref f_Ring_listed) = true)
    (l_Ring_listed : K.lookup f_Ring_listed = some ⟨oc_Ring_listed, od_Ring_listed, .func (PySem.W.fnOf "listed" "Ring.listed" (defArgs s_Ring_listed) (defBody s_Ring_listed) (defScope s_Ring_listed) .none kV_Ring_listed dc_Ring_listed pm_Ring_listed an_Ring_listed cd_Ring_listed ct_Ring_listed), sl_Ring_listed⟩)
    (c_Ring_listed : PySem.W.codeIn K cd_Ring_listed "Ring.listed" = true)
    (k_Ring_listed : PySem.W.keepIn K (.ref f_Ring_listed) = true)
    (a_Ring_next : PySem.W.findIn K (.ref C_Ring) "_next" = some (some (.ref f_Ring_next)))
    (i_Ring_next : PySem.W.isFn K (.ref f_Ring_next) = true)
    (l_Ring_next : K.lookup f_Ring_next = some ⟨oc_Ring_next, od_Ring_next, .func (PySem.W.fnOf "_next" "Ring._next" (defArgs s_Ring_next) (defBody s_Ring_next) (defScope s_Ring_next) .none kV_Ring_next dc_Ring_next pm_Ring_next an_Ring_next cd_Ring_next ct_Ring_next), sl_Ring_next⟩)
    (c_Ring_next : PySem.W.codeIn K cd_Ring_next "Ring._next" = true)
    (k_Ring_next : PySem.W.keepIn K (.ref f_Ring_next) = true)
    (a_Pool_init : PySem.W.findIn K (.ref C_Pool) "__init__" = some (some (.ref f_Pool_init)))
    (i_Pool_init : PySem.W.isFn K (.ref f_Pool_init) = true)
    (l_Pool_init : K.lookup f_Pool_init = some ⟨oc_Pool_init, od_Pool_init, .func (PySem.W.fnOf "__init__" "Pool.__init__" (defArgs s_Pool_init) (defBody s_Pool_init) (defScope s_Pool_init) .none kV_Pool_init dc_Pool_init pm_Pool_init an_Pool_init cd_Pool_init ct_Pool_init), sl_Pool_init⟩)
    (c_Pool_init : PySem.W.codeIn K cd_Pool_init "Pool.__init__" = true)
    (k_Pool_init : PySem.W.keepIn K (.ref f_Pool_init) = true)
    (a_Pool_free : PySem.W.findIn K (.ref C_Pool) "free" = some (some (.ref f_Pool_free)))
    (i_Pool_free : PySem.W.isFn K (.ref f_Pool_free) = true)
    (l_Pool_free : K.lookup f_Pool_free = some ⟨oc_Pool_free, od_Pool_free, .func (PySem.W.fnOf "free" "Pool.free" (defArgs s_Pool_free) (defBody s_Pool_free) (defScope s_Pool_free) .none kV_Pool_free dc_Pool_free pm_Pool_free an_Pool_free cd_Pool_free ct_Pool_free), sl_Pool_free⟩)
    (c_Pool_free : PySem.W.codeIn K cd_Pool_free "Pool.free" = true)
    (k_Pool_free : PySem.W.keepIn K (.ref f_Pool_free) = true)
    (a_Pool_owner : PySem.W.findIn K (.ref C_Pool) "owner" = some (some (.ref f_Pool_owner)))
    (i_Pool_owner : PySem.W.isFn K (.ref f_Pool_owner) = true)
    (l_Pool_owner : K.lookup f_Pool_owner = some ⟨oc_Pool_owner, od_Pool_owner, .func (PySem.W.fnOf "owner" "Pool.owner" (defArgs s_Pool_owner) (defBody s_Pool_owner) (defScope s_Pool_owner) .none kV_Pool_owner dc_Pool_owner pm_Pool_owner an_Pool_owner cd_Pool_owner ct_Pool_owner), sl_Pool_owner⟩)
    (c_Pool_owner : PySem.W.codeIn K cd_Pool_owner "Pool.owner" = true)
    (k_Pool_owner : PySem.W.keepIn K (.ref f_Pool_owner) = true)
    (a_Pool_held : PySem.W.findIn K (.ref C_Pool) "held" = some (some (.ref f_Pool_held)))
    (i_Pool_held : PySem.W.isFn K (.ref f_Pool_held) = true)
    (l_Pool_held : K.lookup f_Pool_held = some ⟨oc_Pool_held, od_Pool_held, .func (PySem.W.fnOf "held" "Pool.held" (defArgs s_Pool_held) (defBody s_Pool_held) (defScope s_Pool_held) .none kV_Pool_held dc_Pool_held pm_Pool_held an_Pool_held cd_Pool_held ct_Pool_held), sl_Pool_held⟩)
    (c_Pool_held : PySem.W.codeIn K cd_Pool_held "Pool.held" = true)
    (k_Pool_held : PySem.W.keepIn K (.ref f_Pool_held) = true)
    (a_Pool_acquire : PySem.W.findIn K (.ref C_Pool) "acquire" = some (some (.ref f_Pool_acquire)))
    (i_Pool_acquire : PySem.W.isFn K (.ref f_Pool_acquire) = true)
    (l_Pool_acquire : K.lookup f_Pool_acquire = some ⟨oc_Pool_acquire, od_Pool_acquire, .func (PySem.W.fnOf "acquire" "Pool.acquire" (defArgs s_Pool_acquire) (defBody s_Pool_acquire) (defScope s_Pool_acquire) .none kV_Pool_acquire dc_Pool_acquire pm_Pool_acquire an_Pool_acquire cd_Pool_acquire ct_Pool_acquire), sl_Pool_acquire⟩)
    (c_Pool_acquire : PySem.W.codeIn K cd_Pool_acquire "Pool.acquire" = true)
    (k_Pool_acquire : PySem.W.keepIn K (.ref f_Pool_acquire) = true)
    (a_Pool_release : PySem.W.findIn K (.ref C_Pool) "release" = some (some (.ref f_Pool_release)))
    (i_Pool_release : PySem.W.isFn K (.ref f_Pool_release) = true)
    (l_Pool_release : K.lookup f_Pool_release = some ⟨oc_Pool_release, od_Pool_release, .func (PySem.W.fnOf "release" "Pool.release" (defArgs s_Pool_release) (defBody s_Pool_release) (defScope s_Pool_release) .none kV_Pool_release dc_Pool_release pm_Pool_release an_Pool_release cd_Pool_release ct_Pool_release), sl_Pool_release⟩)
    (c_Pool_release : PySem.W.codeIn K cd_Pool_release "Pool.release" = true)
    (k_Pool_release : PySem.W.keepIn K (.ref f_Pool_release) = true)
    (a_Pool_may_acquire : PySem.W.findIn K (.ref C_Pool) "may_acquire" = some (some (.ref f_Pool_may_acquire)))
    (i_Pool_may_acquire : PySem.W.isFn K (.ref f_Pool_may_acquire) = true)
    (l_Pool_may_acquire : K.lookup f_Pool_may_acquire = some ⟨oc_Pool_may_acquire, od_Pool_may_acquire, .func (PySem.W.fnOf "may_acquire" "Pool.may_acquire" (defArgs s_Pool_may_acquire) (defBody s_Pool_may_acquire) (defScope s_Pool_may_acquire) .none kV_Pool_may_acquire dc_Pool_may_acquire pm_Pool_may_acquire an_Pool_may_acquire cd_Pool_may_acquire ct_Pool_may_acquire), sl_Pool_may_acquire⟩)
    (c_Pool_may_acquire : PySem.W.codeIn K cd_Pool_may_acquire "Pool.may_acquire" = true)
    (k_Pool_may_acquire : PySem.W.keepIn K (.ref f_Pool_may_acquire) = true)
    (a_Pool_exists : PySem.W.findIn K (.ref C_Pool) "_exists" = some (some (.ref f_Pool_exists)))
    (i_Pool_exists : PySem.W.isFn K (.ref f_Pool_exists) = true)
    (l_Pool_exists : K.lookup f_Pool_exists = some ⟨oc_Pool_exists, od_Pool_exists, .func (PySem.W.fnOf "_exists" "Pool._exists" (defArgs s_Pool_exists) (defBody s_Pool_exists) (defScope s_Pool_exists) .none kV_Pool_exists dc_Pool_exists pm_Pool_exists an_Pool_exists cd_Pool_exists ct_Pool_exists), sl_Pool_exists⟩)
    (c_Pool_exists : PySem.W.codeIn K cd_Pool_exists "Pool._exists" = true)
    (k_Pool_exists : PySem.W.keepIn K (.ref f_Pool_exists) = true)
    (a_law_state : PySem.W.nsIn K mainGlobals "_law_state" = some (some (.ref f_law_state)))
    (l_law_state : K.lookup f_law_state = some ⟨oc_law_state, od_law_state, .func (PySem.W.fnOf "_law_state" "_law_state" (defArgs s_law_state) (defBody s_law_state) (defScope s_law_state) .none kV_law_state dc_law_state pm_law_state an_law_state cd_law_state ct_law_state), sl_law_state⟩)
    (c_law_state : PySem.W.codeIn K cd_law_state "_law_state" = true)
    (k_law_state : PySem.W.keepIn K (.ref f_law_state) = true)
    (a_law_draw : PySem.W.nsIn K mainGlobals "_law_draw" = some (some (.ref f_law_draw)))
    (l_law_draw : K.lookup f_law_draw = some ⟨oc_law_draw, od_law_draw, .func (PySem.W.fnOf "_law_draw" "_law_draw" (defArgs s_law_draw) (defBody s_law_draw) (defScope s_law_draw) .none kV_law_draw dc_law_draw pm_law_draw an_law_draw cd_law_draw ct_law_draw), sl_law_draw⟩)
    (c_law_draw : PySem.W.codeIn K cd_law_draw "_law_draw" = true)
    (k_law_draw : PySem.W.keepIn K (.ref f_law_draw) = true)
    (a_law_poor : PySem.W.nsIn K mainGlobals "_law_poor" = some (some (.ref f_law_poor)))
    (l_law_poor : K.lookup f_law_poor = some ⟨oc_law_poor, od_law_poor, .func (PySem.W.fnOf "_law_poor" "_law_poor" (defArgs s_law_poor) (defBody s_law_poor) (defScope s_law_poor) .none kV_law_poor dc_law_poor pm_law_poor an_law_poor cd_law_poor ct_law_poor), sl_law_poor⟩)
    (c_law_poor : PySem.W.codeIn K cd_law_poor "_law_poor" = true)
    (k_law_poor : PySem.W.keepIn K (.ref f_law_poor) = true)
    (a_law : PySem.W.nsIn K mainGlobals "law" = some (some (.ref f_law)))
    (l_law : K.lookup f_law = some ⟨oc_law, od_law, .func (PySem.W.fnOf "law" "law" (defArgs s_law) (defBody s_law) (defScope s_law) .none kV_law dc_law pm_law an_law cd_law ct_law), sl_law⟩)
    (c_law : PySem.W.codeIn K cd_law "law" = true)
    (k_law : PySem.W.keepIn K (.ref f_law) = true)
    (pg_Ring : PySem.W.plainGet K C_Ring Str.empty = true)
    (hd_Ring : PySem.W.hasDictIn K C_Ring = true)
    (po_Ring : PySem.W.plainOver K C_Ring = true)
    (sa_Ring : PySem.W.findIn K (.ref C_Ring) "__setattr__" = some (some (.builtin "object.__setattr__")))
    (mk_Ring : PySem.W.makesIn K C_Ring = true)
    (kc_Ring : PySem.W.keepIn K (.ref C_Ring) = true)
    (n_Ring_cells : PySem.W.findIn K (.ref C_Ring) "_cells" = some none)
    (n_Ring_written : PySem.W.findIn K (.ref C_Ring) "written" = some none)
    (n_Ring_taken : PySem.W.findIn K (.ref C_Ring) "taken" = some none)
    (pg_Pool : PySem.W.plainGet K C_Pool Str.empty = true)
    (hd_Pool : PySem.W.hasDictIn K C_Pool = true)
    (po_Pool : PySem.W.plainOver K C_Pool = true)
    (sa_Pool : PySem.W.findIn K (.ref C_Pool) "__setattr__" = some (some (.builtin "object.__setattr__")))
    (mk_Pool : PySem.W.makesIn K C_Pool = true)
    (kc_Pool : PySem.W.keepIn K (.ref C_Pool) = true)
    (n_Pool_owners : PySem.W.findIn K (.ref C_Pool) "_owners" = some none)
    (n_Pool_free : PySem.W.findIn K (.ref C_Pool) "_free" = some none)
    (z_abs : PySem.W.nsIn K mainGlobals "abs" = some none)
    (z_enumerate : PySem.W.nsIn K mainGlobals "enumerate" = some none)
    (z_int : PySem.W.nsIn K mainGlobals "int" = some none)
    (z_len : PySem.W.nsIn K mainGlobals "len" = some none)
    (z_list : PySem.W.nsIn K mainGlobals "list" = some none)
    (z_range : PySem.W.nsIn K mainGlobals "range" = some none)
    (z_sum : PySem.W.nsIn K mainGlobals "sum" = some none)
    (z_super : PySem.W.nsIn K mainGlobals "super" = some none)
    : ∃ fd : FuncData, (∀ (s : Shared) (v : Value), BindsTo s fd ⟨[v], []⟩ [("script", v)]) ∧ ∀ base : Heap, K.In base → base.Ns mainGlobals mg → FnOk l.prog w K mg base (L2.CX l.prog w) 6 fa fd ["script"] (sp_law0 K) := by
  have e : f_law = fa := by
    have z := hfa.symm.trans (PySem.W.mg_of X G a_law)
    cases z
    rfl
  subst e
  have F_wall := fun_mk (st := s_wall) l_wall c_wall k_wall
  have b_wall := F_wall.binds (ps := ["k"]) fun _ _ _ _ _ _ us hl => match us, hl with | [_], _ => rfl
  have F_Ring_init := fun_mk (st := s_Ring_init) l_Ring_init c_Ring_init k_Ring_init
  have b_Ring_init := F_Ring_init.binds (ps := ["self", "cells"]) fun _ _ _ _ _ _ us hl => match us, hl with | [_, _], _ => rfl
  have F_Ring_held := fun_mk (st := s_Ring_held) l_Ring_held c_Ring_held k_Ring_held
  have b_Ring_held := F_Ring_held.binds (ps := ["self"]) fun _ _ _ _ _ _ us hl => match us, hl with | [_], _ => rfl
  have F_Ring_is_full := fun_mk (st := s_Ring_is_full) l_Ring_is_full c_Ring_is_full k_Ring_is_full
  have b_Ring_is_full := F_Ring_is_full.binds (ps := ["self"]) fun _ _ _ _ _ _ us hl => match us, hl with | [_], _ => rfl
  have F_Ring_put := fun_mk (st := s_Ring_put) l_Ring_put c_Ring_put k_Ring_put
  have b_Ring_put := F_Ring_put.binds (ps := ["self", "value"]) fun _ _ _ _ _ _ us hl => match us, hl with | [_, _], _ => rfl
  have F_Ring_first := fun_mk (st := s_Ring_first) l_Ring_first c_Ring_first k_Ring_first
  have b_Ring_first := F_Ring_first.binds (ps := ["self"]) fun _ _ _ _ _ _ us hl => match us, hl with | [_], _ => rfl
  have F_Ring_take := fun_mk (st := s_Ring_take) l_Ring_take c_Ring_take k_Ring_take
  have b_Ring_take := F_Ring_take.binds (ps := ["self"]) fun _ _ _ _ _ _ us hl => match us, hl with | [_], _ => rfl
  have F_Ring_listed := fun_mk (st := s_Ring_listed) l_Ring_listed c_Ring_listed k_Ring_listed
  have b_Ring_listed := F_Ring_listed.binds (ps := ["self"]) fun _ _ _ _ _ _ us hl => match us, hl with | [_], _ => rfl
  have F_Ring_next := fun_mk (st := s_Ring_next) l_Ring_next c_Ring_next k_Ring_next
  have b_Ring_next := F_Ring_next.binds (ps := ["self", "counter"]) fun _ _ _ _ _ _ us hl => match us, hl with | [_, _], _ => rfl
  have F_Pool_init := fun_mk (st := s_Pool_init) l_Pool_init c_Pool_init k_Pool_init
  have b_Pool_init := F_Pool_init.binds (ps := ["self", "many"]) fun _ _ _ _ _ _ us hl => match us, hl with | [_, _], _ => rfl
  have F_Pool_free := fun_mk (st := s_Pool_free) l_Pool_free c_Pool_free k_Pool_free
  have b_Pool_free := F_Pool_free.binds (ps := ["self"]) fun _ _ _ _ _ _ us hl => match us, hl with | [_], _ => rfl
  have F_Pool_owner := fun_mk (st := s_Pool_owner) l_Pool_owner c_Pool_owner k_Pool_owner
  have b_Pool_owner := F_Pool_owner.binds (ps := ["self", "buffer"]) fun _ _ _ _ _ _ us hl => match us, hl with | [_, _], _ => rfl
  have F_Pool_held := fun_mk (st := s_Pool_held) l_Pool_held c_Pool_held k_Pool_held
  have b_Pool_held := F_Pool_held.binds (ps := ["self", "owner"]) fun _ _ _ _ _ _ us hl => match us, hl with | [_, _], _ => rfl
  have F_Pool_acquire := fun_mk (st := s_Pool_acquire) l_Pool_acquire c_Pool_acquire k_Pool_acquire
  have b_Pool_acquire := F_Pool_acquire.binds (ps := ["self", "owner"]) fun _ _ _ _ _ _ us hl => match us, hl with | [_, _], _ => rfl
  have F_Pool_release := fun_mk (st := s_Pool_release) l_Pool_release c_Pool_release k_Pool_release
  have b_Pool_release := F_Pool_release.binds (ps := ["self", "buffer"]) fun _ _ _ _ _ _ us hl => match us, hl with | [_, _], _ => rfl
  have F_Pool_may_acquire := fun_mk (st := s_Pool_may_acquire) l_Pool_may_acquire c_Pool_may_acquire k_Pool_may_acquire
  have b_Pool_may_acquire := F_Pool_may_acquire.binds (ps := ["self", "owner", "owners"]) fun _ _ _ _ _ _ us hl => match us, hl with | [_, _, _], _ => rfl
  have F_Pool_exists := fun_mk (st := s_Pool_exists) l_Pool_exists c_Pool_exists k_Pool_exists
  have b_Pool_exists := F_Pool_exists.binds (ps := ["self", "buffer"]) fun _ _ _ _ _ _ us hl => match us, hl with | [_, _], _ => rfl
  have F_law_state := fun_mk (st := s_law_state) l_law_state c_law_state k_law_state
  have b_law_state := F_law_state.binds (ps := ["script"]) fun _ _ _ _ _ _ us hl => match us, hl with | [_], _ => rfl
  have F_law_draw := fun_mk (st := s_law_draw) l_law_draw c_law_draw k_law_draw
  have b_law_draw := F_law_draw.binds (ps := ["state", "many"]) fun _ _ _ _ _ _ us hl => match us, hl with | [_, _], _ => rfl
  have F_law_poor := fun_mk (st := s_law_poor) l_law_poor c_law_poor k_law_poor
  have b_law_poor := F_law_poor.binds (ps := ["pool", "owners"]) fun _ _ _ _ _ _ us hl => match us, hl with | [_, _], _ => rfl
  have F_law := fun_mk (st := s_law) l_law c_law k_law
  have b_law := F_law.binds (ps := ["script"]) fun _ _ _ _ _ _ us hl => match us, hl with | [_], _ => rfl
  let a : Ads := { C_TickringsError := C_TickringsError, C_RingError := C_RingError, C_PoolError := C_PoolError, C_Ring := C_Ring, C_Pool := C_Pool, f_wall := f_wall, f_RingError_init := f_RingError_init, f_PoolError_init := f_PoolError_init, f_Ring_init := f_Ring_init, f_Ring_held := f_Ring_held, f_Ring_is_full := f_Ring_is_full, f_Ring_put := f_Ring_put, f_Ring_first := f_Ring_first, f_Ring_take := f_Ring_take, f_Ring_listed := f_Ring_listed, f_Ring_next := f_Ring_next, f_Pool_init := f_Pool_init, f_Pool_free := f_Pool_free, f_Pool_owner := f_Pool_owner, f_Pool_held := f_Pool_held, f_Pool_acquire := f_Pool_acquire, f_Pool_release := f_Pool_release, f_Pool_may_acquire := f_Pool_may_acquire, f_Pool_exists := f_Pool_exists, f_law_state := f_law_state, f_law_draw := f_law_draw, f_law_poor := f_law_poor, f_law := f_law, fd_wall := (PySem.W.fnOf "_wall" "_wall" (defArgs s_wall) (defBody s_wall) (defScope s_wall) .none kV_wall dc_wall pm_wall an_wall cd_wall ct_wall), fd_RingError_init := (PySem.W.fnX "__init__" "RingError.__init__" (defArgs s_RingError_init) (defBody s_RingError_init) (defScope s_RingError_init) [("__class__", cc_RingError)] .none kV_RingError_init dc_RingError_init pm_RingError_init an_RingError_init (.ref cda_RingError) ct_RingError_init), fd_PoolError_init := (PySem.W.fnX "__init__" "PoolError.__init__" (defArgs s_PoolError_init) (defBody s_PoolError_init) (defScope s_PoolError_init) [("__class__", cc_PoolError)] .none kV_PoolError_init dc_PoolError_init pm_PoolError_init an_PoolError_init (.ref cda_PoolError) ct_PoolError_init), fd_Ring_init := (PySem.W.fnOf "__init__" "Ring.__init__" (defArgs s_Ring_init) (defBody s_Ring_init) (defScope s_Ring_init) .none kV_Ring_init dc_Ring_init pm_Ring_init an_Ring_init cd_Ring_init ct_Ring_init), fd_Ring_held := (PySem.W.fnOf "held" "Ring.held" (defArgs s_Ring_held) (defBody s_Ring_held) (defScope s_Ring_held) .none kV_Ring_held dc_Ring_held pm_Ring_held an_Ring_held cd_Ring_held ct_Ring_held), fd_Ring_is_full := (PySem.W.fnOf "is_full" "Ring.is_full" (defArgs s_Ring_is_full) (defBody s_Ring_is_full) (defScope s_Ring_is_full) .none kV_Ring_is_full dc_Ring_is_full pm_Ring_is_full an_Ring_is_full cd_Ring_is_full ct_Ring_is_full), fd_Ring_put := (PySem.W.fnOf "put" "Ring.put" (defArgs s_Ring_put) (defBody s_Ring_put) (defScope s_Ring_put) .none kV_Ring_put dc_Ring_put pm_Ring_put an_Ring_put cd_Ring_put ct_Ring_put), fd_Ring_first := (PySem.W.fnOf "first" "Ring.first" (defArgs s_Ring_first) (defBody s_Ring_first) (defScope s_Ring_first) .none kV_Ring_first dc_Ring_first pm_Ring_first an_Ring_first cd_Ring_first ct_Ring_first), fd_Ring_take := (PySem.W.fnOf "take" "Ring.take" (defArgs s_Ring_take) (defBody s_Ring_take) (defScope s_Ring_take) .none kV_Ring_take dc_Ring_take pm_Ring_take an_Ring_take cd_Ring_take ct_Ring_take), fd_Ring_listed := (PySem.W.fnOf "listed" "Ring.listed" (defArgs s_Ring_listed) (defBody s_Ring_listed) (defScope s_Ring_listed) .none kV_Ring_listed dc_Ring_listed pm_Ring_listed an_Ring_listed cd_Ring_listed ct_Ring_listed), fd_Ring_next := (PySem.W.fnOf "_next" "Ring._next" (defArgs s_Ring_next) (defBody s_Ring_next) (defScope s_Ring_next) .none kV_Ring_next dc_Ring_next pm_Ring_next an_Ring_next cd_Ring_next ct_Ring_next), fd_Pool_init := (PySem.W.fnOf "__init__" "Pool.__init__" (defArgs s_Pool_init) (defBody s_Pool_init) (defScope s_Pool_init) .none kV_Pool_init dc_Pool_init pm_Pool_init an_Pool_init cd_Pool_init ct_Pool_init), fd_Pool_free := (PySem.W.fnOf "free" "Pool.free" (defArgs s_Pool_free) (defBody s_Pool_free) (defScope s_Pool_free) .none kV_Pool_free dc_Pool_free pm_Pool_free an_Pool_free cd_Pool_free ct_Pool_free), fd_Pool_owner := (PySem.W.fnOf "owner" "Pool.owner" (defArgs s_Pool_owner) (defBody s_Pool_owner) (defScope s_Pool_owner) .none kV_Pool_owner dc_Pool_owner pm_Pool_owner an_Pool_owner cd_Pool_owner ct_Pool_owner), fd_Pool_held := (PySem.W.fnOf "held" "Pool.held" (defArgs s_Pool_held) (defBody s_Pool_held) (defScope s_Pool_held) .none kV_Pool_held dc_Pool_held pm_Pool_held an_Pool_held cd_Pool_held ct_Pool_held), fd_Pool_acquire := (PySem.W.fnOf "acquire" "Pool.acquire" (defArgs s_Pool_acquire) (defBody s_Pool_acquire) (defScope s_Pool_acquire) .none kV_Pool_acquire dc_Pool_acquire pm_Pool_acquire an_Pool_acquire cd_Pool_acquire ct_Pool_acquire), fd_Pool_release := (PySem.W.fnOf "release" "Pool.release" (defArgs s_Pool_release) (defBody s_Pool_release) (defScope s_Pool_release) .none kV_Pool_release dc_Pool_release pm_Pool_release an_Pool_release cd_Pool_release ct_Pool_release), fd_Pool_may_acquire := (PySem.W.fnOf "may_acquire" "Pool.may_acquire" (defArgs s_Pool_may_acquire) (defBody s_Pool_may_acquire) (defScope s_Pool_may_acquire) .none kV_Pool_may_acquire dc_Pool_may_acquire pm_Pool_may_acquire an_Pool_may_acquire cd_Pool_may_acquire ct_Pool_may_acquire), fd_Pool_exists := (PySem.W.fnOf "_exists" "Pool._exists" (defArgs s_Pool_exists) (defBody s_Pool_exists) (defScope s_Pool_exists) .none kV_Pool_exists dc_Pool_exists pm_Pool_exists an_Pool_exists cd_Pool_exists ct_Pool_exists), fd_law_state := (PySem.W.fnOf "_law_state" "_law_state" (defArgs s_law_state) (defBody s_law_state) (defScope s_law_state) .none kV_law_state dc_law_state pm_law_state an_law_state cd_law_state ct_law_state), fd_law_draw := (PySem.W.fnOf "_law_draw" "_law_draw" (defArgs s_law_draw) (defBody s_law_draw) (defScope s_law_draw) .none kV_law_draw dc_law_draw pm_law_draw an_law_draw cd_law_draw ct_law_draw), fd_law_poor := (PySem.W.fnOf "_law_poor" "_law_poor" (defArgs s_law_poor) (defBody s_law_poor) (defScope s_law_poor) .none kV_law_poor dc_law_poor pm_law_poor an_law_poor cd_law_poor ct_law_poor), fd_law := (PySem.W.fnOf "law" "law" (defArgs s_law) (defBody s_law) (defScope s_law) .none kV_law dc_law pm_law an_law cd_law ct_law) }
  refine ⟨a.fd_law, fun s v => .of_eq rfl, fun base hKb hGb => ?_⟩
  have E_RingError : ErrC l.prog K mg C_RingError := ⟨⟨⟨nm_RingError, qn_RingError, N_RingError, bs_RingError, bm_RingError, sn_RingError, sub_RingError, ab_RingError, col_RingError, dd_RingError, k0_RingError, k1_RingError, k2_RingError, k3_RingError, k5_RingError, x_RingError, hbm_RingError⟩, sa_RingError, ex_RingError, ty_RingError, kp_RingError⟩, su_RingError, ve_RingError, op_RingError, sm_RingError, PySem.W.mg_none_of X G z_super, by rw [hl]; decide +kernel⟩
  have J_RingError : ErrI l.prog K C_RingError cc_RingError cda_RingError f_RingError_init "__init__" "RingError.__init__" (defArgs s_RingError_init) (defBody s_RingError_init) (defScope s_RingError_init) a.fd_RingError_init := ⟨⟨_, _, _, _, _, _, _, _, _, rfl, l_RingError_init⟩, c_RingError_init, ⟨_, _, _, ce_RingError⟩, ⟨_, _, _, _, _, _, co_RingError, cv_RingError, by rw [hl]; exact cf_RingError⟩⟩
  have O_RingError : FnOk l.prog w K mg base CX0 1 f_RingError_init a.fd_RingError_init ["self", "held"] (spErr C_RingError "held") :=
    okErr E_RingError no_RingError J_RingError sc_RingError_init rfl rfl (by decide +kernel) (by decide +kernel) (by decide +kernel) (fun _ => rfl) (fun _ => rfl) (fun _ => rfl) (fun _ => rfl) (fun X hN hv => (pe_joined (.cons pe_str (.cons (pe_fmt (pv 1 hN hv)) (.cons pe_str .nil))))) (te3 (by decide +kernel) (by decide +kernel))
  have B_RingError : Binds K a.fd_RingError_init ["self", "held"] [] := .all fun us hl => match us, hl with | [_, _], _ => rfl
  have K_RingError : EK l.prog w K mg base "RingError" "held" C_RingError f_RingError_init a.fd_RingError_init ["self", "held"] := ⟨E_RingError, PySem.W.mg_of X G gC_RingError, ic_RingError, ti_RingError, O_RingError, B_RingError, no_RingError, ⟨ga_RingError, gg_RingError, ex_RingError, hd_RingError⟩, ⟨ga_RingError, gg_RingError, ex_RingError, hd_RingError, ha_RingError, hn_RingError, ht_RingError, hm_RingError⟩, ow_RingError⟩
  have E_PoolError : ErrC l.prog K mg C_PoolError := ⟨⟨⟨nm_PoolError, qn_PoolError, N_PoolError, bs_PoolError, bm_PoolError, sn_PoolError, sub_PoolError, ab_PoolError, col_PoolError, dd_PoolError, k0_PoolError, k1_PoolError, k2_PoolError, k3_PoolError, k5_PoolError, x_PoolError, hbm_PoolError⟩, sa_PoolError, ex_PoolError, ty_PoolError, kp_PoolError⟩, su_PoolError, ve_PoolError, op_PoolError, sm_PoolError, PySem.W.mg_none_of X G z_super, by rw [hl]; decide +kernel⟩
  have J_PoolError : ErrI l.prog K C_PoolError cc_PoolError cda_PoolError f_PoolError_init "__init__" "PoolError.__init__" (defArgs s_PoolError_init) (defBody s_PoolError_init) (defScope s_PoolError_init) a.fd_PoolError_init := ⟨⟨_, _, _, _, _, _, _, _, _, rfl, l_PoolError_init⟩, c_PoolError_init, ⟨_, _, _, ce_PoolError⟩, ⟨_, _, _, _, _, _, co_PoolError, cv_PoolError, by rw [hl]; exact cf_PoolError⟩⟩
  have O_PoolError : FnOk l.prog w K mg base CX0 1 f_PoolError_init a.fd_PoolError_init ["self", "buffer"] (spErr C_PoolError "buffer") :=
    okErr E_PoolError no_PoolError J_PoolError sc_PoolError_init rfl rfl (by decide +kernel) (by decide +kernel) (by decide +kernel) (fun _ => rfl) (fun _ => rfl) (fun _ => rfl) (fun _ => rfl) (fun X hN hv => (pe_joined (.cons pe_str (.cons (pe_fmt (pv 1 hN hv)) .nil)))) (te2 (by decide +kernel))
  have B_PoolError : Binds K a.fd_PoolError_init ["self", "buffer"] [] := .all fun us hl => match us, hl with | [_, _], _ => rfl
  have K_PoolError : EK l.prog w K mg base "PoolError" "buffer" C_PoolError f_PoolError_init a.fd_PoolError_init ["self", "buffer"] := ⟨E_PoolError, PySem.W.mg_of X G gC_PoolError, ic_PoolError, ti_PoolError, O_PoolError, B_PoolError, no_PoolError, ⟨ga_PoolError, gg_PoolError, ex_PoolError, hd_PoolError⟩, ⟨ga_PoolError, gg_PoolError, ex_PoolError, hd_PoolError, ha_PoolError, hn_PoolError, ht_PoolError, hm_PoolError⟩, ow_PoolError⟩
  have T : Txt l.prog w K mg base a := {
    g_abs := PySem.W.mg_none_of X G z_abs,
    g_enumerate := PySem.W.mg_none_of X G z_enumerate,
    g_int := PySem.W.mg_none_of X G z_int,
    g_len := PySem.W.mg_none_of X G z_len,
    g_list := PySem.W.mg_none_of X G z_list,
    g_range := PySem.W.mg_none_of X G z_range,
    g_sum := PySem.W.mg_none_of X G z_sum,
    F_wall := F_wall,
    b_wall := b_wall,
    g_wall := PySem.W.mg_of X G a_wall,
    F_Ring_init := F_Ring_init,
    b_Ring_init := b_Ring_init,
    mk_Ring := ⟨mk_Ring, a_Ring_init, i_Ring_init, kc_Ring⟩,
    F_Ring_held := F_Ring_held,
    b_Ring_held := b_Ring_held,
    m_Ring_held := ⟨a_Ring_held, i_Ring_held, k_Ring_held⟩,
    F_Ring_is_full := F_Ring_is_full,
    b_Ring_is_full := b_Ring_is_full,
    m_Ring_is_full := ⟨a_Ring_is_full, i_Ring_is_full, k_Ring_is_full⟩,
    F_Ring_put := F_Ring_put,
    b_Ring_put := b_Ring_put,
    m_Ring_put := ⟨a_Ring_put, i_Ring_put, k_Ring_put⟩,
    F_Ring_first := F_Ring_first,
    b_Ring_first := b_Ring_first,
    m_Ring_first := ⟨a_Ring_first, i_Ring_first, k_Ring_first⟩,
    F_Ring_take := F_Ring_take,
    b_Ring_take := b_Ring_take,
    m_Ring_take := ⟨a_Ring_take, i_Ring_take, k_Ring_take⟩,
    F_Ring_listed := F_Ring_listed,
    b_Ring_listed := b_Ring_listed,
    m_Ring_listed := ⟨a_Ring_listed, i_Ring_listed, k_Ring_listed⟩,
    F_Ring_next := F_Ring_next,
    b_Ring_next := b_Ring_next,
    m_Ring_next := ⟨a_Ring_next, i_Ring_next, k_Ring_next⟩,
    F_Pool_init := F_Pool_init,
    b_Pool_init := b_Pool_init,
    mk_Pool := ⟨mk_Pool, a_Pool_init, i_Pool_init, kc_Pool⟩,
    F_Pool_free := F_Pool_free,
    b_Pool_free := b_Pool_free,
    m_Pool_free := ⟨a_Pool_free, i_Pool_free, k_Pool_free⟩,
    F_Pool_owner := F_Pool_owner,
    b_Pool_owner := b_Pool_owner,
    m_Pool_owner := ⟨a_Pool_owner, i_Pool_owner, k_Pool_owner⟩,
    F_Pool_held := F_Pool_held,
    b_Pool_held := b_Pool_held,
    m_Pool_held := ⟨a_Pool_held, i_Pool_held, k_Pool_held⟩,
    F_Pool_acquire := F_Pool_acquire,
    b_Pool_acquire := b_Pool_acquire,
    m_Pool_acquire := ⟨a_Pool_acquire, i_Pool_acquire, k_Pool_acquire⟩,
    F_Pool_release := F_Pool_release,
    b_Pool_release := b_Pool_release,
    m_Pool_release := ⟨a_Pool_release, i_Pool_release, k_Pool_release⟩,
    F_Pool_may_acquire := F_Pool_may_acquire,
    b_Pool_may_acquire := b_Pool_may_acquire,
    m_Pool_may_acquire := ⟨a_Pool_may_acquire, i_Pool_may_acquire, k_Pool_may_acquire⟩,
    F_Pool_exists := F_Pool_exists,
    b_Pool_exists := b_Pool_exists,
    m_Pool_exists := ⟨a_Pool_exists, i_Pool_exists, k_Pool_exists⟩,
    F_law_state := F_law_state,
    b_law_state := b_law_state,
    g_law_state := PySem.W.mg_of X G a_law_state,
    F_law_draw := F_law_draw,
    b_law_draw := b_law_draw,
    g_law_draw := PySem.W.mg_of X G a_law_draw,
    F_law_poor := F_law_poor,
    b_law_poor := b_law_poor,
    g_law_poor := PySem.W.mg_of X G a_law_poor,
    F_law := F_law,
    b_law := b_law,
    g_law := PySem.W.mg_of X G a_law,
    g_TickringsError := PySem.W.mg_of X G gC_TickringsError,
    g_RingError := PySem.W.mg_of X G gC_RingError,
    g_PoolError := PySem.W.mg_of X G gC_PoolError,
    g_Ring := PySem.W.mg_of X G gC_Ring,
    g_Pool := PySem.W.mg_of X G gC_Pool,
    cl_Ring := ⟨pg_Ring, hd_Ring, po_Ring, sa_Ring⟩,
    n_Ring_cells := n_Ring_cells,
    n_Ring_written := n_Ring_written,
    n_Ring_taken := n_Ring_taken,
    cl_Pool := ⟨pg_Pool, hd_Pool, po_Pool, sa_Pool⟩,
    n_Pool_owners := n_Pool_owners,
    n_Pool_free := n_Pool_free,
    e_RingError := K_RingError,
    e_PoolError := K_PoolError }
  exact FnOk.imp (ok_law T) fun vs H Q E h => h
theorem walk {l : PySem.W.OpenLaw} {q : Program} {loose : List Str} {XP : (Str → Option Value) → Heap → Prop} {YP : World → Heap → Prop} {d : DefRec} {K : Params → PySem.W.Frag} (hn : l.most = some 63) (hdf : d.params.defaults = [])
    (hY : ∀ (w : World) (h : Heap), YP w h → (K w.params).In h)
    (F : ∀ (w : World) (mg : Str → Option Value) (fa : Addr) (h : Heap), (K w.params).In h → h.Ns mainGlobals mg → mg d.name = some (.ref fa) → ∃ fd : FuncData, (∀ (s : Shared) (u : Value), BindsTo s fd ⟨[u], []⟩ [("script", u)]) ∧
      ∀ base : Heap, (K w.params).In base → base.Ns mainGlobals mg → FnOk l.prog w (K w.params) mg base (L2.CX l.prog w) 6 fa fd ["script"] (sp_law0 (K w.params))) :
    PySem.W.WalkO q loose XP YP l.row.toRowW d [] (fun f vs => PySem.call f vs) :=
  L2.walk_of (n := 63) (k := 6) (x := "script") (CX := fun w => L2.CX l.prog w) (sp := fun w => sp_law0 (K w.params)) hn (by decide) hdf ⟨rfl, by decide, by decide⟩ hY F (fun _ _ b ns hl _ hS => a1 ⟨b, ns, rfl, hS, hl, fun _ => rfl⟩) fun _ _ _ _ _ ⟨_, _, _, _, _, _, _, _, _, _, _, _, z⟩ => z
end My
open PySem PySem.W PyProof.Rows
set_option maxRecDepth 100000 in
set_option maxHeartbeats 0 in
theorem PySem.Challenge.cw_tickrings_k04_no_owner_without_a_buffer_holds : PySem.Challenge.rw_tickrings_k04_no_owner_without_a_buffer.Holds := by
  w_on; o_law; k_head; (case hw => w_witness2)
  k_fill
  refine My.walk (l := PySem.Challenge.rw_tickrings_k04_no_owner_without_a_buffer) rfl rfl (fun w h Y => PySem.W.kIn_of Y) ?F
  case F =>
    intro w mg fa h KX G hmg
    refine' My.all_mk rfl KX G hmg ?hgC_TickringsError ?hgC_RingError ?hgC_PoolError ?hgC_Ring ?hgC_Pool ?ha_wall ?hl_wall ?hc_wall ?hk_wall ?hx_RingError ?hhbm_RingError ?hsa_RingError ?hex_RingError ?hty_RingError ?hkp_RingError ?hsu_RingError ?hve_RingError ?hop_RingError ?hsm_RingError ?hic_RingError ?hti_RingError ?hl_RingError_init ?hc_RingError_init ?hce_RingError ?hco_RingError ?hcv_RingError ?hcf_RingError ?hno_RingError ?hga_RingError ?hgg_RingError ?hhd_RingError ?hha_RingError ?hhn_RingError ?hht_RingError ?hhm_RingError ?how_RingError ?hx_PoolError ?hhbm_PoolError ?hsa_PoolError ?hex_PoolError ?hty_PoolError ?hkp_PoolError ?hsu_PoolError ?hve_PoolError ?hop_PoolError ?hsm_PoolError ?hic_PoolError ?hti_PoolError ?hl_PoolError_init ?hc_PoolError_init ?hce_PoolError ?hco_PoolError ?hcv_PoolError ?hcf_PoolError ?hno_PoolError ?hga_PoolError ?hgg_PoolError ?hhd_PoolError ?hha_PoolError ?hhn_PoolError ?hht_PoolError ?hhm_PoolError ?how_PoolError ?ha_Ring_init ?hi_Ring_init ?hl_Ring_init ?hc_Ring_init ?hk_Ring_init ?ha_Ring_held ?hi_Ring_held ?hl_Ring_held ?hc_Ring_held ?hk_Ring_held ?ha_Ring_is_full ?hi_Ring_is_full ?hl_Ring_is_full ?hc_Ring_is_full ?hk_Ring_is_full ?ha_Ring_put ?hi_Ring_put ?hl_Ring_put ?hc_Ring_put ?hk_Ring_put ?ha_Ring_first ?hi_Ring_first ?hl_Ring_first ?hc_Ring_first ?hk_Ring_first ?ha_Ring_take ?hi_Ring_take ?hl_Ring_take ?hc_Ring_take ?hk_Ring_take ?ha_Ring_listed ?hi_Ring_listed ?hl_Ring_listed ?hc_Ring_listed ?hk_Ring_listed ?ha_Ring_next ?hi_Ring_next ?hl_Ring_next ?hc_Ring_next ?hk_Ring_next ?ha_Pool_init ?hi_Pool_init ?hl_Pool_init ?hc_Pool_init ?hk_Pool_init ?ha_Pool_free ?hi_Pool_free ?hl_Pool_free ?hc_Pool_free ?hk_Pool_free ?ha_Pool_owner ?hi_Pool_owner ?hl_Pool_owner ?hc_Pool_owner ?hk_Pool_owner ?ha_Pool_held ?hi_Pool_held ?hl_Pool_held ?hc_Pool_held ?hk_Pool_held ?ha_Pool_acquire ?hi_Pool_acquire ?hl_Pool_acquire ?hc_Pool_acquire ?hk_Pool_acquire ?ha_Pool_release ?hi_Pool_release ?hl_Pool_release ?hc_Pool_release ?hk_Pool_release ?ha_Pool_may_acquire ?hi_Pool_may_acquire ?hl_Pool_may_acquire ?hc_Pool_may_acquire ?hk_Pool_may_acquire ?ha_Pool_exists ?hi_Pool_exists ?hl_Pool_exists ?hc_Pool_exists ?hk_Pool_exists ?ha_law_state ?hl_law_state ?hc_law_state ?hk_law_state ?ha_law_draw ?hl_law_draw ?hc_law_draw ?hk_law_draw ?ha_law_poor ?hl_law_poor ?hc_law_poor ?hk_law_poor ?ha_law ?hl_law ?hc_law ?hk_law ?hpg_Ring ?hhd_Ring ?hpo_Ring ?hsa_Ring ?hmk_Ring ?hkc_Ring ?hn_Ring_cells ?hn_Ring_written ?hn_Ring_taken ?hpg_Pool ?hhd_Pool ?hpo_Pool ?hsa_Pool ?hmk_Pool ?hkc_Pool ?hn_Pool_owners ?hn_Pool_free ?hz_abs ?hz_enumerate ?hz_int ?hz_len ?hz_list ?hz_range ?hz_sum ?hz_super
    (case hgC_TickringsError => k_is)
    (case hgC_RingError => k_is)
    (case hgC_PoolError => k_is)
    (case hgC_Ring => k_is)
    (case hgC_Pool => k_is)
    (case ha_wall => k_is)
    (case hl_wall => k_is)
    (case hc_wall => k_is)
    (case hk_wall => k_is)
    (case hx_RingError => k_is)
    (case hhbm_RingError => first | rfl | decide +kernel)
    (case hsa_RingError => k_is)
    (case hex_RingError => k_is)
    (case hty_RingError => k_is)
    (case hkp_RingError => k_is)
    (case hsu_RingError => ks_is)
    (case hve_RingError => k_is)
    (case hop_RingError => k_is)
    (case hsm_RingError => k_is)
    (case hic_RingError => k_is)
    (case hti_RingError => k_is)
    (case hl_RingError_init => k_is)
    (case hc_RingError_init => k_is)
    (case hce_RingError => k_is)
    (case hco_RingError => k_is)
    (case hcv_RingError => exact rfl)
    (case hcf_RingError => first | rfl | decide +kernel)
    (case hno_RingError => k_is)
    (case hga_RingError => k_is)
    (case hgg_RingError => k_is)
    (case hhd_RingError => k_is)
    (case hha_RingError => k_is)
    (case hhn_RingError => k_is)
    (case hht_RingError => k_is)
    (case hhm_RingError => k_is)
    (case how_RingError => first | k_is | rfl)
    (case hx_PoolError => k_is)
    (case hhbm_PoolError => first | rfl | decide +kernel)
    (case hsa_PoolError => k_is)
    (case hex_PoolError => k_is)
    (case hty_PoolError => k_is)
    (case hkp_PoolError => k_is)
    (case hsu_PoolError => ks_is)
    (case hve_PoolError => k_is)
    (case hop_PoolError => k_is)
    (case hsm_PoolError => k_is)
    (case hic_PoolError => k_is)
    (case hti_PoolError => k_is)
    (case hl_PoolError_init => k_is)
    (case hc_PoolError_init => k_is)
    (case hce_PoolError => k_is)
    (case hco_PoolError => k_is)
    (case hcv_PoolError => exact rfl)
    (case hcf_PoolError => first | rfl | decide +kernel)
    (case hno_PoolError => k_is)
    (case hga_PoolError => k_is)
    (case hgg_PoolError => k_is)
    (case hhd_PoolError => k_is)
    (case hha_PoolError => k_is)
    (case hhn_PoolError => k_is)
    (case hht_PoolError => k_is)
    (case hhm_PoolError => k_is)
    (case how_PoolError => first | k_is | rfl)
    (case ha_Ring_init => k_is)
    (case hi_Ring_init => k_is)
    (case hl_Ring_init => k_is)
    (case hc_Ring_init => k_is)
    (case hk_Ring_init => k_is)
    (case ha_Ring_held => k_is)
    (case hi_Ring_held => k_is)
    (case hl_Ring_held => k_is)
    (case hc_Ring_held => k_is)
    (case hk_Ring_held => k_is)
    (case ha_Ring_is_full => k_is)
    (case hi_Ring_is_full => k_is)
    (case hl_Ring_is_full => k_is)
    (case hc_Ring_is_full => k_is)
    (case hk_Ring_is_full => k_is)
    (case ha_Ring_put => k_is)
    (case hi_Ring_put => k_is)
    (case hl_Ring_put => k_is)
    (case hc_Ring_put => k_is)
    (case hk_Ring_put => k_is)
    (case ha_Ring_first => k_is)
    (case hi_Ring_first => k_is)
    (case hl_Ring_first => k_is)
    (case hc_Ring_first => k_is)
    (case hk_Ring_first => k_is)
    (case ha_Ring_take => k_is)
    (case hi_Ring_take => k_is)
    (case hl_Ring_take => k_is)
    (case hc_Ring_take => k_is)
    (case hk_Ring_take => k_is)
    (case ha_Ring_listed => k_is)
    (case hi_Ring_listed => k_is)
    (case hl_Ring_listed => k_is)
    (case hc_Ring_listed => k_is)
    (case hk_Ring_listed => k_is)
    (case ha_Ring_next => k_is)
    (case hi_Ring_next => k_is)
    (case hl_Ring_next => k_is)
    (case hc_Ring_next => k_is)
    (case hk_Ring_next => k_is)
    (case ha_Pool_init => k_is)
    (case hi_Pool_init => k_is)
    (case hl_Pool_init => k_is)
    (case hc_Pool_init => k_is)
    (case hk_Pool_init => k_is)
    (case ha_Pool_free => k_is)
    (case hi_Pool_free => k_is)
    (case hl_Pool_free => k_is)
    (case hc_Pool_free => k_is)
    (case hk_Pool_free => k_is)
    (case ha_Pool_owner => k_is)
    (case hi_Pool_owner => k_is)
    (case hl_Pool_owner => k_is)
    (case hc_Pool_owner => k_is)
    (case hk_Pool_owner => k_is)
    (case ha_Pool_held => k_is)
    (case hi_Pool_held => k_is)
    (case hl_Pool_held => k_is)
    (case hc_Pool_held => k_is)
    (case hk_Pool_held => k_is)
    (case ha_Pool_acquire => k_is)
    (case hi_Pool_acquire => k_is)
    (case hl_Pool_acquire => k_is)
    (case hc_Pool_acquire => k_is)
    (case hk_Pool_acquire => k_is)
    (case ha_Pool_release => k_is)
    (case hi_Pool_release => k_is)
    (case hl_Pool_release => k_is)
    (case hc_Pool_release => k_is)
    (case hk_Pool_release => k_is)
    (case ha_Pool_may_acquire => k_is)
    (case hi_Pool_may_acquire => k_is)
    (case hl_Pool_may_acquire => k_is)
    (case hc_Pool_may_acquire => k_is)
    (case hk_Pool_may_acquire => k_is)
    (case ha_Pool_exists => k_is)
    (case hi_Pool_exists => k_is)
    (case hl_Pool_exists => k_is)
    (case hc_Pool_exists => k_is)
    (case hk_Pool_exists => k_is)
    (case ha_law_state => k_is)
    (case hl_law_state => k_is)
    (case hc_law_state => k_is)
    (case hk_law_state => k_is)
    (case ha_law_draw => k_is)
    (case hl_law_draw => k_is)
    (case hc_law_draw => k_is)
    (case hk_law_draw => k_is)
    (case ha_law_poor => k_is)
    (case hl_law_poor => k_is)
    (case hc_law_poor => k_is)
    (case hk_law_poor => k_is)
    (case ha_law => k_is)
    (case hl_law => k_is)
    (case hc_law => k_is)
    (case hk_law => k_is)
    (case hpg_Ring => k_is)
    (case hhd_Ring => k_is)
    (case hpo_Ring => k_is)
    (case hsa_Ring => k_is)
    (case hmk_Ring => k_is)
    (case hkc_Ring => k_is)
    (case hn_Ring_cells => k_is)
    (case hn_Ring_written => k_is)
    (case hn_Ring_taken => k_is)
    (case hpg_Pool => k_is)
    (case hhd_Pool => k_is)
    (case hpo_Pool => k_is)
    (case hsa_Pool => k_is)
    (case hmk_Pool => k_is)
    (case hkc_Pool => k_is)
    (case hn_Pool_owners => k_is)
    (case hn_Pool_free => k_is)
    (case hz_abs => k_is)
    (case hz_enumerate => k_is)
    (case hz_int => k_is)
    (case hz_len => k_is)
    (case hz_list => k_is)
    (case hz_range => k_is)
    (case hz_sum => k_is)
    (case hz_super => k_is)
#print axioms PySem.Challenge.cw_tickrings_k04_no_owner_without_a_buffer_holds
