import PyProof.Rows.All
import Wide.All
import OpenK.AllK
import Wide.FinOn
import HandS.ForExc
import HandS.Nested
import HandS.ExcInit
import HandS.ExcField
import HandS.FStr
import HandS.MakeKwOnly
import HandS.IsInst
import HandS.ExcIs
import KE.KExcSuper
import KE.KExcIs
import HandS.ForMost
import HandS.Evl
import HandS.NoneIn
import HandS.TupAny
import HandS.Ends
import HandS.HotCalls
import HandS.ExcInitHot
import HandS.ExcCtx
import HandS.Comp
import PySem.Challenge.RW_tickrings_k11_read_streams
set_option Elab.async false
set_option maxRecDepth 100000
set_option maxHeartbeats 4000000
set_option linter.all false
set_option autoImplicit false
/-! An own error class over another own class over ValueError, whose __init__ says super().__init__(..) and stores one field. -/
namespace Sx
open PySem PySem.Spec PyProof.Rows L2 PySem.W PySem.Calls NdefX
section
variable {prog : Program} {w : World} {A : Around} {E : Value → Shared → Prop} {h : Heap} {g : Array GenState} {d : Drawn} {t : Nat} {os : OsState}
/-- ValueError.__init__ bound to an exception, called -/
theorem call_mw {nm q : Str} {C N u e t0 : Addr} {bs bm : List Value} {hdct : Bool} {sn : List Str} {sub : List Value} {ab : Bool} {col : Option Bool} {dd : Option Addr} {k0 k1 k2 k3 k5 : Option Value} {rest : List Value} {Q : Value → Shared → Prop}
    (hC : h.get? C = some (excClassObj nm q C N bs bm hdct sn sub ab col dd k0 k1 k2 k3 k5 "ValueError.__new__")) (he : h.get? e = some (HandSPX.excO C t0)) (hu : h.get? u = some (kxs_mw "ValueError.__init__" e)) (hrest : rest.length ≤ sizeLine)
    (hq : ∀ h' t1, (∀ b o, b ≠ e → h.get? b = some o → h'.get? b = some o) → h'.get? e = some (HandSPX.excO C t1) → Q .none ⟨h', g, d, t, os⟩) :
    wpAny (model prog w) A (call (.ref u) rest) Q E ⟨h, g, d, t, os⟩ := by
  refine wpAny_call (codeAny_of_tree ?_)
  show wpAny _ A.in1 (callAny (.ref u) ⟨rest, []⟩) _ _ _
  simp only [callAny]
  refine wpAny_bind (wpAny_load hu ?_)
  simp only [kxs_mw, show (Value.type "method-wrapper" == Value.type "method" || Value.type "method-wrapper" == Value.type "builtin_function_or_method" || Value.type "method-wrapper" == Value.type "method-wrapper") = true by decide, if_true]
  refine W.KFB.if_so (by decide) ?_
  refine wpAny_bind (check_bound_init F.excBase_ValueError.toExcCallFacts hC he rfl ?_)
  refine wpAny_bind (wpAny_pure (wpAny_pure ?_))
  refine ⟨plainId_quiet F.excBase_ValueError.init.plain _, codeAny_builtin F.excBase_ValueError.initEntry ?_⟩
  exact exc_init_tree (cls := .ref C) (t0 := t0) (dv := none) (c2 := .none) (c3 := .none) (b4 := .bool false) he hrest fun h' k hx _ => hq h' _ k hx
end
/-- what the top has written of such a class -/
structure ErrC (P : Program) (K : PySem.W.Frag) (mg : Str → Option Value) (C : Addr) : Prop where
  ox : OexC K C
  sup : ks_superIn K C C "__init__" = some (some (.builtin "ValueError.__init__"))
  ve : PySem.W.subIn K (.ref C) (.type "ValueError") = some true
  op : PySem.W.nsIn K cStatics "thirdparty.any" = some none
  selfM : PySem.W.mroIn K C (.ref C) = some true
  sm : mg "super" = none
  top : (P.main.scope.names.lookup ("super" : Str)).isSome = false
/-- its __init__ -/
structure ErrI (P : Program) (K : PySem.W.Frag) (C cc cda fI : Addr) (name qual : Str) (params : Arguments) (body : List Stmt) (scope : Scope) (fd : FuncData) : Prop where
  fn : ∃ oc od osl dV kV doc pm an ct, fd = PySem.W.fnX name qual params body scope [("__class__", cc)] dV kV doc pm an (.ref cda) ct ∧ K.lookup fI = some ⟨oc, od, .func fd, osl⟩
  cd : PySem.W.codeIn K (.ref cda) qual = true
  cell : ∃ cl cld csl, K.lookup cc = some ⟨cl, cld, .cell (some (.ref C)), csl⟩
  code : ∃ ccl cdd vs ccs file tf, K.lookup cda = some ⟨ccl, cdd, .fields vs, ccs⟩ ∧ vs[2]? = some (.str file tf) ∧ ((P.main.file : Str) == file) = true
section
variable {P : Program} {w : World} {K : PySem.W.Frag} {mg : Str → Option Value} {base : Heap} {CX : CXT}
theorem fn_of_err {C cc cda f : Addr} {name qual : Str} {params : Arguments} {scope : Scope} {fd : FuncData} {ar : Arg} {N ps : List Str} {k : Nat} {sp : Sp} {p0 p1 p2 pos pos' : Pos} {e : Expr} {es : List Expr} {rest : List Stmt}
    (T : ErrC P K mg C) (I0 : ErrI P K C cc cda f name qual params (.Expr (.Call (.Attribute (.Call (.Name "super" p0) [] [] p1) "__init__" p2) (e :: es) [] pos) pos' :: rest) scope fd)
    (S : NScope N ps ["__class__"] scope) (hp : (params.posonlyargs ++ params.args).head? = some ar) (hp0 : ps[0]? = some ar.arg) (hsup : scope.names.lookup ("super" : Str) = some .globalImplicit)
    (len : ∀ vs H Q E, sp vs H Q E → vs.length = ps.length)
    (he : ∀ env, starEach (e :: es) env = (false, eval e env) :: starEach es env) (hpl : ∀ env, (backTo pos (starEach es env)).any (·.1) = false)
    {pl : Env → Sem Bool} (hmc : ∀ env : Env, eval (.Call (.Attribute (.Call (.Name "super" p0) [] [] p1) "__init__" p2) (e :: es) [] pos) env = (do
      let ov ← attributeBase (.Call (.Name "super" p0) [] [] p1) "__init__" env (eval (.Call (.Name "super" p0) [] [] p1) env)
      standAt p2.atName
      let (f, first) ← holding [ov] (getMethod ov "__init__" (pl env))
      callWith pos f first (backTo pos (starEach (e :: es) env)) []))
    (hsw : ∀ env, swapsWith (.Call (.Attribute (.Call (.Name "super" p0) [] [] p1) "__init__" p2) (e :: es) [] pos) none pos'.line env = pure false)
    (hbody : ∀ (A : Around) (outer : List Env) (s : Shared) (H : Hp) (vs : List V) (Q : VK) (E : XK), sp vs H Q E →
      ∃ ta t, PA (ncx CX P w K mg base N ⟨name, qual, params, .Expr (.Call (.Attribute (.Call (.Name "super" p0) [] [] p1) "__init__" p2) (e :: es) [] pos) pos' :: rest, scope, [("__class__", cc)], cda⟩ f A outer s H E) (e :: es) ta ∧
        PSs (ncx CX P w K mg base N ⟨name, qual, params, .Expr (.Call (.Attribute (.Call (.Name "super" p0) [] [] p1) "__init__" p2) (e :: es) [] pos) pos' :: rest, scope, [("__class__", cc)], cda⟩ f A outer s H E) rest t ∧
        ∃ a, vs[0]? = some (.ref a) ∧ H a = some (exo a C none) ∧
          ta (startF N vs [some (.ref C)]) H fun ws H1 => ws.length ≤ 1000 ∧ H1 a = some (exo a C none) ∧ t { nx := fun _ H' => Q .non H', rt := Q } (startF N vs [some (.ref C)]) H1) :
    FnOk P w K mg base CX (k + 1) f fd ps sp := by
  obtain ⟨⟨oc, od, osl, dV, kV, doc, pm, an, ct, rfl, lk⟩, hcd, ⟨cl, cld, csl, hcell⟩, ⟨ccl, cdd, vsC, ccs, file, tf, hcode, hvs, hfile⟩⟩ := I0
  refine ⟨len, fun A outer s H args us vs Q E hr e0 hb r hsp => ?_⟩
  have hl := len _ _ _ _ hsp
  have KX : K.In s.heap := e0.mod.kin.keeps fun b o e => (e0.bs b o e).1
  have lim : s.heap.NoLimit := e0.mod.nolimit.keeps fun b o e => (e0.bs b o e).1
  have C0 : CellsAt [(("__class__" : Str), cc)] ["__class__"] [some (V.ref C)] s.heap H := by
    refine ⟨rfl, fun y c q => ?_, fun x y c q1 q2 => ?_, fun i y q => ?_⟩
    · have hy : c = cc := by
        by_cases hyy : y = ("__class__" : Str)
        · subst hyy
          simpa [List.lookup] using q.symm
        · have : (y == ("__class__" : Str)) = false := by simpa using hyy
          simp [List.lookup, this] at q
      subst hy
      exact ⟨(e0.bs c _ (e0.mod.kin _ _ hcell)).2, _, ⟨_, KX _ _ hcell, rfl⟩⟩
    · have hx : x = ("__class__" : Str) := by
        by_cases hyy : x = ("__class__" : Str)
        · exact hyy
        · have : (x == ("__class__" : Str)) = false := by simpa using hyy
          simp [List.lookup, this] at q1
      have hy : y = ("__class__" : Str) := by
        by_cases hyy : y = ("__class__" : Str)
        · exact hyy
        · have : (y == ("__class__" : Str)) = false := by simpa using hyy
          simp [List.lookup, this] at q2
      rw [hx, hy]
    · match i, q with
      | 0, q =>
        have hy : ("__class__" : Str) = y := Option.some.inj q
        subst hy
        refine ⟨cc, by simp [List.lookup], fun v hv => ⟨.ref C, ?_, _, KX _ _ hcell, rfl⟩⟩
        have hv' : V.ref C = v := by simpa using hv
        subst hv'
        rfl
      | i + 1, q => simp at q
  let F : NF := ⟨name, qual, params, .Expr (.Call (.Attribute (.Call (.Name "super" p0) [] [] p1) "__init__" p2) (e :: es) [] pos) pos' :: rest, scope, [("__class__", cc)], cda⟩
  have hS : NScope N ps ["__class__"] F.scope := S
  refine ks_codeAny_call_defAt (body := F.body) (binds := ps.zip us) hr.depth (KX _ _ lk) rfl lim (codeRec_of KX hcd) rfl (hb) S.nocell (fun ⟨n, _⟩ hy => S.par n (List.of_mem_zip hy).1) (fun h₁ hns kp => ?_) S.co S.gen S.kind
  obtain ⟨ta, tb, hta, htb, a, hv0, hea, hq⟩ := hbody A outer s H vs Q E hsp
  have I : Inv (ncx CX P w K mg base N F f A outer s H E) [] (startF N vs [some (.ref C)]) H { s with heap := h₁, toks := s.toks + (ps.zip us).length } := inv_startN hS hr.hd e0 hl r C0 hns kp
  show PySem.wpAt _ (A.deeper (envF F f s.heap.objs.size)) (.func F.body (envF F f s.heap.objs.size)) (execs F.body (envF F f s.heap.objs.size)) _ _ _
  refine ks_wpAt_mono (Q := SP (ncx CX P w K mg base N F f A outer s H E) [] { nx := fun _ H' => Q .non H', rt := Q }) (ks_wpAt_execs_cons (ks_wpAt_Expr_any (ks_wpAt_MethodCall (pl := pl _) ?_ (hmc _)) (by show (scope.kind == ScopeKind.module && _) = false; rw [S.kind]; rfl) (hsw _))) (fun fl s' hs => ?_) fun e s' hs => hs
  · -- super()
    have KX1 : K.In h₁ := KX.keeps kp
    obtain ⟨nm, q, N', bs, bm, sn, sub, ab, col, dd, k0, k1, k2, k3, k5, hC, hbm⟩ := T.ox.cls
    have hcl : PySem.W.clsIn K C = some { name := nm, bases := bs, mro := .ref C :: bm, ns := N', qualname := q, hasDict := true, slotNames := sn, subclasses := sub, abstract := ab, collection := col, hasDel := false } := by unfold PySem.W.clsIn; rw [hC] <;> rfl
    obtain ⟨t1, ho⟩ := exo_at I.hok hea
    have hu0 : us[0]? = some (.ref a) := by
      obtain ⟨u, hu, ru⟩ := r.get hv0
      have : u = Value.ref a := ru
      rw [hu, this]
    have hself : (ps.zip us).reverse.lookup ar.arg = some (.ref a) := by
      have ndP : ps.Nodup := by
        have q := S.nd.sublist (List.take_sublist (ps.length + 1) N)
        have q2 := S.pre
        simp only [List.length_cons, List.length_nil, Nat.zero_add] at q2
        rw [q2] at q
        exact (List.nodup_append.mp q).1
      exact zip_look ndP hp0 hu0
    have gl : h₁.Ns mainGlobals mg := e0.mod.glob.keeps fun b o z => kp b o (e0.bs b o z).1
    obtain ⟨mb, hmb, hmbE⟩ := e0.mod.blt
    have bl : h₁.Ns builtinsNs mb := hmb.keeps fun b o z => kp b o (e0.bs b o z).1
    refine ks_wpAt_super_base (env := envF F f s.heap.objs.size) hsup (S.frk _ List.mem_cons_self) (by decide) rfl (KX1 _ _ lk) rfl hp rfl (KX1 _ _ hcode) rfl hvs hfile T.top ?_
    refine ks_loadName_global S.kind hsup (loadGlobal_builtin (env := envF F f s.heap.objs.size) gl T.sm bl ((hmbE _ (by decide +kernel)).trans (by decide +kernel : bootBuiltins "super" = some (.type "super"))) ⟨rfl, ?_⟩)
    refine wpAny_loadName_free S.kind (S.frk _ List.mem_cons_self) (by first | rfl | simp [List.lookup]) ⟨_, KX1 _ _ hcell, rfl⟩ ?_
    refine wpAny_loadName_local S.kind (S.par _ (List.mem_of_getElem? hp0)) hns hself ?_
    refine ks_wpAny_isType_cls (KX1 _ _ hC) rfl ⟨rfl, ?_⟩
    refine ks_wpAny_call_super (KX1 _ _ hC) rfl ho rfl (fun c e => by cases e) (PySem.W.looks_mroIn KX1 T.selfM) (fun h2 eso k2 => ?_)
    have I1 := I.kept (t' := s.toks + (ps.zip us).length) k2
    have KX2 : K.In h2 := KX1.keeps k2
    have hax : a ≠ C := by
      intro z
      have z1 := KX1 _ _ hC
      rw [← z, ho] at z1
      cases z1
    have ho2 : h2.get? a = some ({ cls := .ref C, dict := none, data := .fields #[.ref t1, .none, .none, .none, .bool false, .none] } : Obj) := k2 _ _ ho
    have J : PySem.W.InstAt h2 a ({ cls := .ref C, dict := none, data := .fields #[.ref t1, .none, .none, .none, .bool false, .none] } : Obj) C none := ⟨ho2, rfl, rfl, trivial⟩
    have hsupX := T.sup
    unfold ks_superIn at hsupX
    rw [hcl] at hsupX
    have hI : PySem.W.Looks (model P w) h2 (isInstance (.ref a) (.type "ValueError")) true := J.type.andThen (PySem.W.looks_subIn KX2 T.ve)
    refine kxs_getMethod kxs_ValueError eso (PySem.W.looks_opaque KX2 T.op) (l₀ := .ref C :: bm) ?_ rfl KX2 hsupX hI hax (by decide) ?_
    · exact fun A Q E s k q => wpAny_bind ((PySem.W.looks_clsIn KX2 hcl) A _ E s k (wpAny_pure q))
    · have k3 : ∀ b o, h2.get? b = some o → (h2.push (kxs_mw "ValueError.__init__" a)).get? b = some o := fun b o e => Heap.get?_push_of_some _ e
      have I2 := I1.kept (t' := s.toks + (ps.zip us).length + 1) k3
      have nu : H h2.objs.size = none := I1.hok.fresh (Nat.le_refl _)
      have hmw : (h2.push (kxs_mw "ValueError.__init__" a)).get? h2.objs.size = some (kxs_mw "ValueError.__init__" a) := Heap.get?_push_at rfl rfl
      have I3 := I2.pins_of (pins' := [(h2.objs.size, kxs_mw "ValueError.__init__" a)]) fun p hp => by
        have hp' : p = (h2.objs.size, kxs_mw "ValueError.__init__" a) := by simpa [ncx] using hp
        subst hp'
        exact ⟨hmw, nu, fun z => absurd I1.lt (by rw [← z]; exact Nat.lt_irrefl _), I1.nofs (Nat.le_refl _), fun v z => by cases z⟩
      refine kxs_callWith (i := "ValueError.__init__") (x := a) (by rw [he]; show (false || (backTo pos (starEach es _)).any (·.1)) = false; rw [hpl]; rfl) ?_
      rw [he]
      refine evalArgs_plain ?_
      show wpAny _ _ (spliced (backTo pos ((false, eval e (envF F f s.heap.objs.size)) :: starEach es (envF F f s.heap.objs.size)))) _ _ _
      rw [← he]
      refine thn (hta.run pos _ _ _ H _ I3 hq) fun us1 s1 hAP => ?_
      obtain ⟨ws, H1, I4, r4, hz, hea1, q4⟩ := hAP
      have hpin := (I4.pin (h2.objs.size, kxs_mw "ValueError.__init__" a) (by simp [ncx])).1
      refine ⟨hpin, ?_⟩
      obtain ⟨t2, ho4⟩ := exo_at I4.hok hea1
      have I5 := I4.pins_of (pins' := []) fun p hp => by simp [ncx] at hp
      obtain ⟨hp4, g4, d4, t4, os4⟩ := s1
      refine call_mw (I4.kIn _ _ hC) ho4 hpin (by show us1.length ≤ sizeLine; rw [← r4.length, sizeLine_eq]; omega) fun h' t5 k5 hx5 => ?_
      have I6 := I5.write (t' := t4) (x := a) (e := a) (o := exo a C none) (by rw [hea1]; exact True.intro) (.inl rfl) k5 ⟨_, hx5⟩ (exo_ok hx5)
      have eu : upd H1 a (exo a C none) = H1 := by
        funext b
        by_cases hb : b = a
        · rw [hb, upd_same, hea1]
        · rw [upd_ne hb]
      rw [eu] at I6
      exact wpAt_of_wpAny (htb.run [] _ _ H1 _ I6 q4)
  · have fin : ∀ {σ' : L2.St} {H' : Hp} {v : V} {u : Value}, Inv (ncx CX P w K mg base N F f A outer s H E) [] σ' H' s' → L2.RelV v u → Q v H' → CE outer P w H s Q u s' :=
      fun {σ' H' v u} J rv q => ⟨v, H', J.os, J.bare, J.base, J.hok, rv, q⟩
    cases fl with
    | ret u =>
      obtain ⟨v, σ', H', J, rv, q⟩ := hs
      exact fin J rv q
    | next =>
      obtain ⟨σ', H', J, q⟩ := hs
      exact fin (v := V.non) (u := Value.none) J rfl q
    | brk =>
      obtain ⟨_, _, _, q⟩ := hs
      exact False.elim q
    | cont =>
      obtain ⟨_, _, _, q⟩ := hs
      exact False.elim q
end

/-! ### the promise of such an __init__, its body, the raise -/
def okV (x : V) : Prop := (∃ y : Str, x = .str y ∧ y.length ≤ 1000) ∨ ∃ i : Int, x = .int i ∧ i.natAbs.log2 < 1920
theorem okV_int {i : Int} (h : -(2 ^ 64) < i ∧ i < 2 ^ 64) : okV (.int i) := by
  refine .inr ⟨i, rfl, ?_⟩
  have h1 : i.natAbs < 2 ^ 64 := by omega
  by_cases h0 : i.natAbs = 0
  · rw [h0]; decide
  · exact Nat.lt_of_lt_of_le ((Nat.log2_lt h0).mpr h1) (by decide)
def spErr (C : Addr) (fld : Str) : Sp := fun vs H Q _ => ∃ a x, vs = [.ref a, x] ∧ okV x ∧ H a = some (exo a C none) ∧ ∀ d, H d = none → d ≠ a → Q .non (upd (upd H d (exd d [(fld, x)])) a (exo a C (some d)))
section
variable {P : Program} {w : World} {K : PySem.W.Frag} {mg : Str → Option Value} {base : Heap} {CX : CXT}
theorem okErr {C cc cda f : Addr} {name qual fld : Str} {params : Arguments} {scope : Scope} {fd : FuncData} {ar : Arg} {prm : Str} {p0 p1 p2 pos pos' q0 q1 q2 q3 : Pos} {e : Expr} {te : TE}
    (T : ErrC P K mg C) (hno : PySem.W.findIn K (.ref C) fld = some none)
    (I0 : ErrI P K C cc cda f name qual params [.Expr (.Call (.Attribute (.Call (.Name "super" p0) [] [] p1) "__init__" p2) [e] [] pos) pos', .Assign [.Attribute (.Name "self" q0) fld q1] (.Name prm q2) q3] scope fd)
    (S : NScope ["self", prm, "__class__"] ["self", prm] ["__class__"] scope) (hp : (params.posonlyargs ++ params.args).head? = some ar) (hp0 : ar.arg = "self") (hsup : scope.names.lookup ("super" : Str) = some .globalImplicit)
    (hd : (prm == ("__debug__" : Str)) = false) (hcd : (prm == ("__classdict__" : Str)) = false)
    (he : ∀ env, starEach [e] env = (false, eval e env) :: starEach [] env)
    {pl : Env → Sem Bool} (hmc : ∀ env : Env, eval (.Call (.Attribute (.Call (.Name "super" p0) [] [] p1) "__init__" p2) [e] [] pos) env = (do
      let ov ← attributeBase (.Call (.Name "super" p0) [] [] p1) "__init__" env (eval (.Call (.Name "super" p0) [] [] p1) env)
      standAt p2.atName
      let (f, first) ← holding [ov] (getMethod ov "__init__" (pl env))
      callWith pos f first (backTo pos (starEach [e] env)) []))
    (hsw : ∀ env, swapsWith (.Call (.Attribute (.Call (.Name "super" p0) [] [] p1) "__init__" p2) [e] [] pos) none pos'.line env = pure false)
    (hsw2 : ∀ env, swapsWith (.Name prm q2) (some (.Attribute (.Name "self" q0) fld q1)) q3.line env = pure false)
    (hPE : ∀ X : Cx, X.N[1]? = some prm → Vis X.env.scope prm → PE X e te)
    (hte : ∀ (σ : L2.St) (H : Hp) (Q : VK) (x : V), σ[1]? = some (some x) → okV x → (∀ z, Q (.str z) H) → te σ H Q) :
    FnOk P w K mg base CX 1 f fd ["self", prm] (spErr C fld) := by
  refine fn_of_err T I0 S hp (by rw [hp0]; rfl) hsup (fun vs H Q E h => ?_) he (fun env => rfl) hmc hsw fun A outer s H vs Q E h => ?_
  · obtain ⟨a, x, rfl, _⟩ := h
    rfl
  · obtain ⟨a, x, rfl, hok, hea, k⟩ := h
    refine ⟨tCons te tNil, tOst K fld (tVar 0) (tVar 1), pa_cons (hPE _ rfl (Or.inl (S.par _ (by simp)))) pa_nil (he _), pss_one (ps_ost (pv 0 rfl (Or.inl (S.par _ (by simp)))) (pv 1 rfl (Or.inl (S.par _ (by simp))) hd hcd) (hsw2 _)), a, rfl, hea, ?_⟩
    refine hte _ _ _ x rfl hok fun z => ?_
    refine ⟨by show 1 ≤ 1000; decide, hea, ?_⟩
    exact ⟨x, rfl, _, rfl, a, C, rfl, T.ox, hno, .inl ⟨hea, fun d hd hda => k d hd hda⟩⟩
/-- f"pre{x}" and f"pre{x}suf" -/
theorem te2 {pre : Str} {i : Nat} (hpre : pre.length ≤ 1000) (σ : L2.St) (H : Hp) (Q : VK) (x : V) (hx : σ[i]? = some (some x)) (ho : okV x) (q : ∀ z, Q (.str z) H) :
    tJs [tC (.str pre), tFmt (tVar i)] Str.empty σ H (fun out H1 => Q (.str out) H1) := by
  have hs : ∀ n : Nat, n ≤ 10000 → n ≤ sizeLine := fun n h => by rw [sizeLine_eq]; omega
  have l0 : (Str.empty ++ pre).length ≤ 1000 := by rw [Str.length_append]; show 0 + _ ≤ _; omega
  refine ⟨pre, rfl, hs _ (by omega), x, hx, ?_⟩
  rcases ho with ⟨y, rfl, hy⟩ | ⟨j, rfl, hj⟩
  · exact .inl ⟨y, rfl, hs _ (by omega), y, rfl, hs _ (by rw [Str.length_append]; omega), q _⟩
  · have l1 := int_text_len_1921 hj
    exact .inr ⟨j, rfl, hj, _, rfl, hs _ (by rw [Str.length_append]; exact Nat.le_trans (Nat.add_le_add l0 l1) (by decide)), q _⟩
theorem te3 {pre suf : Str} {i : Nat} (hpre : pre.length ≤ 1000) (hsuf : suf.length ≤ 1000) (σ : L2.St) (H : Hp) (Q : VK) (x : V) (hx : σ[i]? = some (some x)) (ho : okV x) (q : ∀ z, Q (.str z) H) :
    tJs [tC (.str pre), tFmt (tVar i), tC (.str suf)] Str.empty σ H (fun out H1 => Q (.str out) H1) := by
  have hs : ∀ n : Nat, n ≤ 10000 → n ≤ sizeLine := fun n h => by rw [sizeLine_eq]; omega
  have l0 : (Str.empty ++ pre).length ≤ 1000 := by rw [Str.length_append]; show 0 + _ ≤ _; omega
  refine ⟨pre, rfl, hs _ (by omega), x, hx, ?_⟩
  rcases ho with ⟨y, rfl, hy⟩ | ⟨j, rfl, hj⟩
  · have l2 : (Str.empty ++ pre ++ y).length ≤ 2000 := by rw [Str.length_append]; omega
    exact .inl ⟨y, rfl, hs _ (by omega), y, rfl, hs _ (by omega), suf, rfl, hs _ (by rw [Str.length_append]; omega), q _⟩
  · have l1 := int_text_len_1921 hj
    have l2 : (Str.empty ++ pre ++ Str.ofString (toString j)).length ≤ 2921 := by rw [Str.length_append]; omega
    exact .inr ⟨j, rfl, hj, _, rfl, hs _ (Nat.le_trans l2 (by decide)), suf, rfl, hs _ (by rw [Str.length_append]; exact Nat.le_trans (Nat.add_le_add l2 hsuf) (by decide)), q _⟩
end
/-- an own error class, ready to be raised and caught -/
structure EK (P : Program) (w : World) (K : PySem.W.Frag) (mg : Str → Option Value) (base : Heap) (x fld : Str) (C fI : Addr) (fd : FuncData) (ps : List Str) : Prop where
  T : ErrC P K mg C
  g : mg x = some (.ref C)
  iC : PySem.W.findIn K (.ref C) "__init__" = some (some (.ref fI))
  tI : PySem.W.typeIn K (.ref fI) = some (.type "function")
  F1 : FnOk P w K mg base CX0 1 fI fd ps (spErr C fld)
  b : Binds K fd ps []
  nof : PySem.W.findIn K (.ref C) fld = some none
  xf : XfC K C
  isc : ExcC K C
  own : PySem.W.subIn K (.ref C) (.ref C) = some true
theorem EK.exm {P : Program} {w : World} {K : PySem.W.Frag} {mg : Str → Option Value} {base : Heap} {x fld : Str} {C fI : Addr} {fd : FuncData} {ps : List Str} (E : EK P w K mg base x fld C fI fd ps) : PySem.W.exmOne K (.ref C) (.ref C) = some true :=
  PySem.W.exm_ref E.T.ox.exC E.xf.hdC E.T.ox.tyC E.own
section
variable {X : Cx} {W : WX} {x fld : Str} {C fI : Addr} {fd : FuncData} {ps : List Str} {e o : Expr} {te ta : TE} {p pos pos' apos : Pos}
theorem upd_del {fs : List (Str × V)} {H : Hp} {a d : Addr} {o u v : HO} (ha : H a = none) (hda : d ≠ a) : upd (del (upd (upd (upd H a o) d u) a v) a) d (.xd fs) = upd H d (.xd fs) := by
  funext b
  by_cases hb : b = d
  · subst hb; rw [upd_same, upd_same]
  · rw [upd_ne hb, upd_ne hb]
    by_cases hba : b = a
    · subst hba; rw [del_same, ha]
    · rw [del_ne hba, upd_ne hba, upd_ne hb, upd_ne hba]
/-- a reading made to bear a weaker wish -/
def tUp (te : TE) : TE := fun σ H Q => ∃ Q0 : VK, te σ H Q0 ∧ ∀ v H1, Q0 v H1 → Q v H1
theorem pe_up (h : PE X e te) : PE X e (tUp te) := ⟨fun pins s σ H Q I ⟨Q0, q, m⟩ => thn (h.run pins s σ H Q0 I q) fun _ _ ⟨v, H1, J, r, z⟩ => ⟨v, H1, J, r, m _ _ z⟩⟩
/-- raise X(e) -/
def tRaiseE (W : WX) (C : Addr) (fld : Str) (te : TE) : TS := fun _ σ H => te σ H fun v H1 => okV v ∧ ∀ d, H1 d = none → W (.ref C) (some d) σ (upd H1 d (.xd [(fld, v)]))
theorem ps_raiseE (hc : X.calm = true) (E : EK X.prog X.w X.K X.mg X.base x fld C fI fd ps) (hr : Room 2 X.A) (tk : Takes X W) (hg : Gl X x) (he : PE X e te) (hdb : (x == ("__debug__" : Str)) = false := by decide)
    (hst : starEach [e] X.env = (false, eval e X.env) :: starEach [] X.env := by rfl) :
    PS X (.Raise (some (.Call (.Name x p) [e] [] pos)) none pos') (tRaiseE W C fld te) := by
  refine ⟨fun pins s σ H D I h => ?_⟩
  refine (ps_raise hc tk (pmk_oex E.T.ox E.iC E.tI E.F1 hr E.b .nil pass0 hg E.g (pa_cons (pe_up he) pa_nil hst) hdb hst rfl)).run pins s σ H D I ?_
  refine ⟨_, h, fun v H1 ⟨hok, k⟩ => ⟨by show 1 ≤ 1000; decide, fun a ha => ⟨a, v, rfl, hok, upd_same, fun d hd hda => ⟨rfl, d, [(fld, v)], upd_same, by rw [upd_ne hda, upd_same], ?_, ?_⟩⟩⟩⟩
  · rw [upd_ne hda] at hd
    exact hd
  · rw [upd_ne hda] at hd
    rw [upd_del ha hda]
    exact k d hd
/-! ### calls of what may raise, the wish at the slots -/
variable {CX : CXT} {k : Nat} {f : Addr} {sp : Sp} {m : Str} {es : List Expr} {t : TA} {ES : L2.St → XK}
def tMethS (C : Addr) (m : Str) (sp : Sp) (ES : L2.St → XK) (ta : TE) (t : TA) : TE := fun σ H Q => ta σ H fun x H1 => ∃ a dx fs, x = .ref a ∧ H1 a = some (.ins C dx fs) ∧ fs.lookup m = none ∧ t σ H1 fun vs H2 => sp (x :: vs) H2 Q (ES σ)
theorem pe_methS {pl : Sem Bool} (he : PE X o ta) (c : Cls X.K C) (hm : Meth X.K C m f) (F : FnOk X.prog X.w X.K X.mg X.base CX k f fd ps sp) (hr : Room k X.A) (hb : Binds X.K fd ps []) (hx : ∀ σ, PassesAt CX X σ (ES σ)) (ha : PA X (e :: es) t)
    (hst : starEach (e :: es) X.env = (false, eval e X.env) :: starEach es X.env := by rfl) (hpl : (backTo pos (starEach es X.env)).any (·.1) = false := by rfl)
    (ht : eval (.Call (.Attribute o m apos) (e :: es) [] pos) X.env = (do
      let ov ← eval o X.env
      standAt apos.atName
      let (f, first) ← holding [ov] (getMethod ov m pl)
      callWith pos f first (backTo pos (starEach (e :: es) X.env)) (backToKw pos (keywordEach [] X.env))) := by rfl) :
    PE X (.Call (.Attribute o m apos) (e :: es) [] pos) (tMethS C m sp ES ta t) := by
  refine ⟨fun pins s σ H Q I h => ?_⟩
  refine PySem.W.methodCall_KW (pl := pl) (thn (he.run pins s σ H _ I h) fun u s1 ⟨x, H1, I1, rx, a, dx, fs, ex, ea, l, q⟩ => ?_) ht
  subst ex
  obtain rfl : u = Value.ref a := rx
  refine getmeth_ok I1 ea c hm l ?_
  refine PySem.W.callWith_K (first := [.ref a]) (h₀ := X.base) I.ok.mod.kin hm.kp (thn (ha.run pos pins s1 σ H1 _ I1 q) fun us s2 ⟨vs, H2, I2, r, q2⟩ => ⟨I2.kIn, ?_⟩) hst hpl
  exact run_fnS (us := .ref a :: us) (vs := .ref a :: vs) F hr hb (hx σ) I2 (.cons rfl r) q2
theorem pe_meth0S {pl : Sem Bool} (he : PE X o ta) (c : Cls X.K C) (hm : Meth X.K C m f) (F : FnOk X.prog X.w X.K X.mg X.base CX k f fd ps sp) (hr : Room k X.A) (hb : Binds X.K fd ps []) (hx : ∀ σ, PassesAt CX X σ (ES σ))
    (ht : eval (.Call (.Attribute o m apos) [] [] pos) X.env = (do
      let ov ← eval o X.env
      standAt apos.atName
      let (f, first) ← holding [ov] (getMethod ov m pl)
      callWith pos f first (backTo pos (starEach [] X.env)) (backToKw pos (keywordEach [] X.env))) := by rfl) :
    PE X (.Call (.Attribute o m apos) [] [] pos) (tMethS C m sp ES ta tNil) := by
  refine ⟨fun pins s σ H Q I h => ?_⟩
  refine PySem.W.methodCall_KW (pl := pl) (thn (he.run pins s σ H _ I h) fun u s1 ⟨x, H1, I1, rx, a, dx, fs, ex, ea, l, q⟩ => ?_) ht
  subst ex
  obtain rfl : u = Value.ref a := rx
  refine getmeth_ok I1 ea c hm l ?_
  exact PySem.W.callWith_K0 (first := [.ref a]) I1.kIn hm.kp (run_fnS (us := [.ref a]) (vs := [.ref a]) F hr hb (hx σ) I1 (.cons rfl .nil) q)
theorem pe_call0S (F : FnOk X.prog X.w X.K X.mg X.base CX k f fd ps sp) (hr : Room k X.A) (hg : Gl X x) (hm : X.mg x = some (.ref f)) (hk : PySem.W.keepIn X.K (.ref f) = true) (hb : Binds X.K fd ps []) (hx : ∀ σ, PassesAt CX X σ (ES σ))
    (hdb : (x == ("__debug__" : Str)) = false := by decide) : PE X (.Call (.Name x p) [] [] pos) (tCallS sp ES tNil) := by
  refine ⟨fun pins s σ H Q I h => ?_⟩
  refine wpAny_Call_Name_kw (ld_glob I hg hm ?_ hdb)
  exact PySem.W.callWith_K0 I.kIn hk (run_fnS (us := []) (vs := []) F hr hb (hx σ) I .nil h)
theorem run_makeS {pins : List (Addr × Obj)} {σ : L2.St} {H : Hp} {s : Shared} {Q : VK} {us : List Value} {vs : List V} (M : Mk X.K C f) (F : FnOk X.prog X.w X.K X.mg X.base CX k f fd ps sp) (hr : Room (k + 1) X.A) (hb : Binds X.K fd ps []) (hp : ∀ (σ : L2.St), PassesAt CX X σ (ES σ))
    (I : Inv X pins σ H s) (r : Vals vs us) (h : ∀ x dx, H x = none → H dx = none → dx ≠ x → sp (.ref x :: vs) (upd (upd H dx (.own x)) x (.ins C dx [])) (fun v H2 => v = .non ∧ Q (.ref x) H2) (ES σ)) :
    wpAny (model X.prog X.w) X.A (call (.ref C) us) (EP X pins σ Q) X.xe s := by
  have hq := h (s.heap.objs.size + 1) s.heap.objs.size (I.hok.fresh (Nat.le_succ _)) (I.hok.fresh (Nat.le_refl _)) (Nat.ne_of_lt (Nat.lt_succ_self _))
  have I2 := Inv.made (C := C) I
  have r2 : Vals (V.ref (s.heap.objs.size + 1) :: vs) (Value.ref (s.heap.objs.size + 1) :: us) := .cons rfl r
  have hl : (Value.ref (s.heap.objs.size + 1) :: us).length = ps.length := by rw [← r2.length]; exact F.len _ _ _ _ hq
  have b := hb _ (Value.ref (s.heap.objs.size + 1) :: us) I2.kIn (by rw [List.append_nil]; exact hl)
  rw [List.append_nil] at b
  refine wpAny_call (make_map (f := f) I.kIn M.makes M.init (beq_iff_eq.mp M.fn) (codeAny_mono (F.run _ X.stack _ _ ⟨Value.ref (s.heap.objs.size + 1) :: us, []⟩ (Value.ref (s.heap.objs.size + 1) :: us) _ _ (ES σ) (hr.make C us [])
    (I2.env0.make C us []) b r2 hq) fun r s' hq' => ?_))
  cases r with
  | error e => exact hp σ pins _ _ e s' I2 hq'
  | ok fl =>
    cases fl with
    | ret u =>
      obtain ⟨v, H', I3, rv, ev, q3⟩ := I2.after hq'
      subst ev
      exact ⟨rv, ⟨V.ref (s.heap.objs.size + 1), H', I3, rfl, q3⟩⟩
    | next => exact False.elim hq'
    | brk => exact False.elim hq'
    | cont => exact False.elim hq'
def tMakeS (C : Addr) (sp : Sp) (ES : L2.St → XK) (t : TA) : TE := fun σ H Q => t σ H fun vs H1 => ∀ x dx, H1 x = none → H1 dx = none → dx ≠ x → sp (.ref x :: vs) (upd (upd H1 dx (.own x)) x (.ins C dx [])) (fun v H2 => v = .non ∧ Q (.ref x) H2) (ES σ)
theorem pe_makeS (M : Mk X.K C f) (F : FnOk X.prog X.w X.K X.mg X.base CX k f fd ps sp) (hr : Room (k + 1) X.A) (hg : Gl X x) (hm : X.mg x = some (.ref C)) (hb : Binds X.K fd ps []) (hx : ∀ σ, PassesAt CX X σ (ES σ))
    (ha : PA X (e :: es) t) (hdb : (x == ("__debug__" : Str)) = false := by decide) (he : starEach (e :: es) X.env = (false, eval e X.env) :: starEach es X.env := by rfl) (hpl : (backTo pos (starEach es X.env)).any (·.1) = false := by rfl) :
    PE X (.Call (.Name x p) (e :: es) [] pos) (tMakeS C sp ES t) := by
  refine ⟨fun pins s σ H Q I h => ?_⟩
  refine wpAny_Call_Name_kw (ld_glob I hg hm ?_ hdb)
  refine PySem.W.callWith_K (h₀ := X.base) I.ok.mod.kin M.kp (thn (ha.run pos pins s σ H _ I h) fun us s1 ⟨vs, H1, I1, r, q⟩ => ⟨I1.kIn, ?_⟩) he hpl
  exact run_makeS M F hr hb hx I1 r q
theorem pe_make0S (M : Mk X.K C f) (F : FnOk X.prog X.w X.K X.mg X.base CX k f fd ps sp) (hr : Room (k + 1) X.A) (hg : Gl X x) (hm : X.mg x = some (.ref C)) (hb : Binds X.K fd ps []) (hx : ∀ σ, PassesAt CX X σ (ES σ))
    (hdb : (x == ("__debug__" : Str)) = false := by decide) : PE X (.Call (.Name x p) [] [] pos) (tMakeS C sp ES tNil) := by
  refine ⟨fun pins s σ H Q I h => ?_⟩
  refine wpAny_Call_Name_kw (ld_glob I hg hm ?_ hdb)
  exact PySem.W.callWith_K0 I.kIn M.kp (run_makeS (us := []) (vs := []) M F hr hb hx I .nil h)
/-! ### isinstance(e, T), e a caught error that has its dict -/
def rIsED (K : PySem.W.Frag) (D a : Addr) (cls : Value) (d : Option Addr) : List V → Hp → VK → Prop := fun xs H Q => ∃ (c : V) (cv : Value) (b : Bool) (dd : Addr) (fs : List (Str × V)), xs = [.ref a, c] ∧ cls = .ref D ∧ d = some dd ∧ H dd = some (.xd fs) ∧ (∀ u, RelV c u → u = cv) ∧ PySem.W.kitOne K (.ref D) cv = some b ∧ Q (.bl b) H
theorem call_isED {a D : Addr} {oe : Obj} {cls : Value} {d : Option Addr} {pn : List (Addr × Obj)} (C : ExcC X.K D) (hz : Zc cls d oe) (hf : ∃ vs, oe.data = .fields vs) : CallR (X.suite a ((a, oe) :: pn)) (.builtin "isinstance") (rIsED X.K D a cls d) := by
  intro pins s σ H xs us Q I r h
  obtain ⟨c, cv, b, dd, fs, rfl, rfl, rfl, hdd, hcv, e, q⟩ := h
  cases r with
  | cons rx rr =>
    cases rr with
    | cons rt rr =>
      cases rr
      cases rx
      have ec := hcv _ rt
      subst ec
      obtain ⟨hget, _⟩ := I.pin (a, oe) (List.mem_append.mpr (.inl List.mem_cons_self))
      obtain ⟨vs, hv⟩ := hf
      have hx : ObjOk X.prog X.w H s.heap dd (.xd fs) := I.hok dd _ hdd
      obtain ⟨mA, hns, hr⟩ := hx
      obtain ⟨od, ho, hl⟩ := lookIn_ns hns
      have J : PySem.W.InstAt s.heap a oe D (some od) := by
        obtain ⟨oc, od', oda, osl⟩ := oe
        obtain ⟨h1, h2⟩ := hz
        dsimp only at h1 h2 hv
        subst h1 h2 hv
        exact ⟨hget, rfl, rfl, ho⟩
      exact PySem.W.kia_one (PySem.W.kitx_exc (by obtain ⟨cd, hc, _⟩ := PySem.W.any_some C.hd; rw [hc]; rfl) C.hg C.hk C.hs C.ha C.hn C.ht C.hm) I.kIn J e (fun z => nomatch z) fun tk => ⟨.bl b, H, I.kept (t' := tk) fun _ _ z => z, rfl, q⟩
end

/-! ### C(k = v, ..), the parameters keyword-only -/
section
variable {X : Cx} {CX : CXT} {k : Nat} {f C : Addr} {fd : FuncData} {ps ks : List Str} {sp : Sp} {ES : L2.St → XK} {x : Str} {p pos : Pos} {kws : List Keyword} {tk : TA} {gV : List V → List V → List V}
def tMakeKS (C : Addr) (m : Nat) (sp : Sp) (gV : List V → List V → List V) (ES : L2.St → XK) (tk : TA) : TE := fun σ H Q => tk σ H fun zs H2 => zs.length = m ∧ ∀ x dx, H2 x = none → H2 dx = none → dx ≠ x →
  sp (gV [.ref x] zs) (upd (upd H2 dx (.own x)) x (.ins C dx [])) (fun v H3 => v = .non ∧ Q (.ref x) H3) (ES σ)
theorem pe_makeKS (M : Mk X.K C f) (F : FnOk X.prog X.w X.K X.mg X.base CX k f fd ps sp) (hr : Room (k + 1) X.A) (hg : Gl X x) (hm : X.mg x = some (.ref C)) (hbn : ∃ g, KBn X.K fd ps 1 ks g gV) (hx : ∀ σ, PassesAt CX X σ (ES σ)) (hkw : PK X kws tk)
    (hall : (backToKw pos (keywordEach kws X.env)).all (·.1.isSome) = true := by rfl) (hks : (backToKw pos (keywordEach kws X.env)).filterMap (·.1) = ks := by rfl) (hdb : (x == ("__debug__" : Str)) = false := by decide)
    (hpl : ((backTo pos (starEach [] X.env)).any (·.1) || (backToKw pos (keywordEach kws X.env)).any (·.1.isNone)) = false := by rfl) :
    PE X (.Call (.Name x p) [] kws pos) (tMakeKS C ks.length sp gV ES tk) := by
  obtain ⟨g, hb⟩ := hbn
  refine ⟨fun pins s σ H Q I h => ?_⟩
  refine wpAny_Call_Name_kw (ld_glob I hg hm ?_ hdb)
  refine PySem.W.callWith_KW0 (h₀ := X.base) I.ok.mod.kin M.kp hall ?_ hpl
  refine thn (hkw.run pos pins s σ H _ I h) fun ws s2 ⟨zs, H2, I2, rz, l2, q2⟩ => ⟨I2.kIn, ?_⟩
  rw [hks]
  have hq := q2 (s2.heap.objs.size + 1) s2.heap.objs.size (I2.hok.fresh (Nat.le_succ _)) (I2.hok.fresh (Nat.le_refl _)) (Nat.ne_of_lt (Nat.lt_succ_self _))
  have I3 := Inv.made (C := C) I2
  have r1 : Vals [V.ref (s2.heap.objs.size + 1)] [Value.ref (s2.heap.objs.size + 1)] := .cons rfl .nil
  have r2 := hb.rel r1 rz
  refine wpAny_call (make_map (f := f) I2.kIn M.makes M.init (beq_iff_eq.mp M.fn) (codeAny_mono (F.run _ X.stack _ _ ⟨[Value.ref (s2.heap.objs.size + 1)], ks.zip ws⟩ (g [Value.ref (s2.heap.objs.size + 1)] ws) _ _ (ES σ) (hr.make C [] (ks.zip ws))
    (I3.env0.make C [] (ks.zip ws)) (hb.to _ [Value.ref (s2.heap.objs.size + 1)] ws I3.kIn rfl (rz.length.symm.trans l2)) r2 hq) fun r s' hq' => ?_))
  cases r with
  | error e => exact hx σ pins _ _ e s' I3 hq'
  | ok fl =>
    cases fl with
    | ret u =>
      obtain ⟨v, H', I4, rv, ev, q3⟩ := I3.after hq'
      subst ev
      exact ⟨rv, ⟨V.ref (s2.heap.objs.size + 1), H', I4, rfl, q3⟩⟩
    | next => exact False.elim hq'
    | brk => exact False.elim hq'
    | cont => exact False.elim hq'
end
theorem passNo {X : Cx} {σ : L2.St} : PassesAt (L2.CX X.prog X.w) X σ (WE (fun _ _ _ _ => False) σ) := by
  intro pins H s e s' I c
  obtain ⟨_, _, _, _, _, _, _, _, _, _, _, _, z⟩ := c
  exact z.elim
end Sx
set_option Elab.async false
set_option maxRecDepth 100000
set_option maxHeartbeats 4000000
set_option linter.all false
set_option autoImplicit false
/-! Readings, one step a lemma; heaps by footprints. -/
namespace Rd
open PySem PySem.Spec PyProof.Rows L2 Sx
/-! ### promises by the number of arguments -/
def A0 (φ : Hp → VK → XK → Prop) : Sp := fun vs H Q E => vs = [] ∧ φ H Q E
def A1 (φ : V → Hp → VK → XK → Prop) : Sp := fun vs H Q E => ∃ x, vs = [x] ∧ φ x H Q E
def A2 (φ : V → V → Hp → VK → XK → Prop) : Sp := fun vs H Q E => ∃ x y, vs = [x, y] ∧ φ x y H Q E
def A3 (φ : V → V → V → Hp → VK → XK → Prop) : Sp := fun vs H Q E => ∃ x y z, vs = [x, y, z] ∧ φ x y z H Q E
def A4 (φ : V → V → V → V → Hp → VK → XK → Prop) : Sp := fun vs H Q E => ∃ x y z u, vs = [x, y, z, u] ∧ φ x y z u H Q E
def A5 (φ : V → V → V → V → V → Hp → VK → XK → Prop) : Sp := fun vs H Q E => ∃ x y z u w, vs = [x, y, z, u, w] ∧ φ x y z u w H Q E
def A6 (φ : V → V → V → V → V → V → Hp → VK → XK → Prop) : Sp := fun vs H Q E => ∃ x y z u w o, vs = [x, y, z, u, w, o] ∧ φ x y z u w o H Q E
theorem A0.len {φ : Hp → VK → XK → Prop} {vs : List V} {H : Hp} {Q : VK} {E : XK} (h : A0 φ vs H Q E) : vs.length = 0 := by obtain ⟨rfl, _⟩ := h; rfl
theorem A1.len {φ : V → Hp → VK → XK → Prop} {vs : List V} {H : Hp} {Q : VK} {E : XK} (h : A1 φ vs H Q E) : vs.length = 1 := by obtain ⟨_, rfl, _⟩ := h; rfl
theorem A2.len {φ : V → V → Hp → VK → XK → Prop} {vs : List V} {H : Hp} {Q : VK} {E : XK} (h : A2 φ vs H Q E) : vs.length = 2 := by obtain ⟨_, _, rfl, _⟩ := h; rfl
theorem A3.len {φ : V → V → V → Hp → VK → XK → Prop} {vs : List V} {H : Hp} {Q : VK} {E : XK} (h : A3 φ vs H Q E) : vs.length = 3 := by obtain ⟨_, _, _, rfl, _⟩ := h; rfl
theorem A4.len {φ : V → V → V → V → Hp → VK → XK → Prop} {vs : List V} {H : Hp} {Q : VK} {E : XK} (h : A4 φ vs H Q E) : vs.length = 4 := by obtain ⟨_, _, _, _, rfl, _⟩ := h; rfl
theorem A5.len {φ : V → V → V → V → V → Hp → VK → XK → Prop} {vs : List V} {H : Hp} {Q : VK} {E : XK} (h : A5 φ vs H Q E) : vs.length = 5 := by obtain ⟨_, _, _, _, _, rfl, _⟩ := h; rfl
theorem A6.len {φ : V → V → V → V → V → V → Hp → VK → XK → Prop} {vs : List V} {H : Hp} {Q : VK} {E : XK} (h : A6 φ vs H Q E) : vs.length = 6 := by obtain ⟨_, _, _, _, _, _, rfl, _⟩ := h; rfl
theorem a0 {φ : Hp → VK → XK → Prop} {H : Hp} {Q : VK} {E : XK} (h : φ H Q E) : A0 φ [] H Q E := ⟨rfl, h⟩
theorem a1 {φ : V → Hp → VK → XK → Prop} {x : V} {H : Hp} {Q : VK} {E : XK} (h : φ x H Q E) : A1 φ [x] H Q E := ⟨x, rfl, h⟩
theorem a2 {φ : V → V → Hp → VK → XK → Prop} {x y : V} {H : Hp} {Q : VK} {E : XK} (h : φ x y H Q E) : A2 φ [x, y] H Q E := ⟨x, y, rfl, h⟩
theorem a3 {φ : V → V → V → Hp → VK → XK → Prop} {x y z : V} {H : Hp} {Q : VK} {E : XK} (h : φ x y z H Q E) : A3 φ [x, y, z] H Q E := ⟨x, y, z, rfl, h⟩
theorem a4 {φ : V → V → V → V → Hp → VK → XK → Prop} {x y z u : V} {H : Hp} {Q : VK} {E : XK} (h : φ x y z u H Q E) : A4 φ [x, y, z, u] H Q E := ⟨x, y, z, u, rfl, h⟩
theorem a5 {φ : V → V → V → V → V → Hp → VK → XK → Prop} {x y z u w : V} {H : Hp} {Q : VK} {E : XK} (h : φ x y z u w H Q E) : A5 φ [x, y, z, u, w] H Q E := ⟨x, y, z, u, w, rfl, h⟩
theorem a6 {φ : V → V → V → V → V → V → Hp → VK → XK → Prop} {x y z u w o : V} {H : Hp} {Q : VK} {E : XK} (h : φ x y z u w o H Q E) : A6 φ [x, y, z, u, w, o] H Q E := ⟨x, y, z, u, w, o, rfl, h⟩
def A7 (φ : V → V → V → V → V → V → V → Hp → VK → XK → Prop) : Sp := fun vs H Q E => ∃ x0 x1 x2 x3 x4 x5 x6, vs = [x0, x1, x2, x3, x4, x5, x6] ∧ φ x0 x1 x2 x3 x4 x5 x6 H Q E
theorem A7.len {φ : V → V → V → V → V → V → V → Hp → VK → XK → Prop} {vs : List V} {H : Hp} {Q : VK} {E : XK} (h : A7 φ vs H Q E) : vs.length = 7 := by obtain ⟨_, _, _, _, _, _, _, rfl, _⟩ := h; rfl
theorem a7 {φ : V → V → V → V → V → V → V → Hp → VK → XK → Prop} {x0 x1 x2 x3 x4 x5 x6 : V} {H : Hp} {Q : VK} {E : XK} (h : φ x0 x1 x2 x3 x4 x5 x6 H Q E) : A7 φ [x0, x1, x2, x3, x4, x5, x6] H Q E := ⟨x0, x1, x2, x3, x4, x5, x6, rfl, h⟩
def A8 (φ : V → V → V → V → V → V → V → V → Hp → VK → XK → Prop) : Sp := fun vs H Q E => ∃ x0 x1 x2 x3 x4 x5 x6 x7, vs = [x0, x1, x2, x3, x4, x5, x6, x7] ∧ φ x0 x1 x2 x3 x4 x5 x6 x7 H Q E
theorem A8.len {φ : V → V → V → V → V → V → V → V → Hp → VK → XK → Prop} {vs : List V} {H : Hp} {Q : VK} {E : XK} (h : A8 φ vs H Q E) : vs.length = 8 := by obtain ⟨_, _, _, _, _, _, _, _, rfl, _⟩ := h; rfl
theorem a8 {φ : V → V → V → V → V → V → V → V → Hp → VK → XK → Prop} {x0 x1 x2 x3 x4 x5 x6 x7 : V} {H : Hp} {Q : VK} {E : XK} (h : φ x0 x1 x2 x3 x4 x5 x6 x7 H Q E) : A8 φ [x0, x1, x2, x3, x4, x5, x6, x7] H Q E := ⟨x0, x1, x2, x3, x4, x5, x6, x7, rfl, h⟩
def A9 (φ : V → V → V → V → V → V → V → V → V → Hp → VK → XK → Prop) : Sp := fun vs H Q E => ∃ x0 x1 x2 x3 x4 x5 x6 x7 x8, vs = [x0, x1, x2, x3, x4, x5, x6, x7, x8] ∧ φ x0 x1 x2 x3 x4 x5 x6 x7 x8 H Q E
theorem A9.len {φ : V → V → V → V → V → V → V → V → V → Hp → VK → XK → Prop} {vs : List V} {H : Hp} {Q : VK} {E : XK} (h : A9 φ vs H Q E) : vs.length = 9 := by obtain ⟨_, _, _, _, _, _, _, _, _, rfl, _⟩ := h; rfl
theorem a9 {φ : V → V → V → V → V → V → V → V → V → Hp → VK → XK → Prop} {x0 x1 x2 x3 x4 x5 x6 x7 x8 : V} {H : Hp} {Q : VK} {E : XK} (h : φ x0 x1 x2 x3 x4 x5 x6 x7 x8 H Q E) : A9 φ [x0, x1, x2, x3, x4, x5, x6, x7, x8] H Q E := ⟨x0, x1, x2, x3, x4, x5, x6, x7, x8, rfl, h⟩
def A10 (φ : V → V → V → V → V → V → V → V → V → V → Hp → VK → XK → Prop) : Sp := fun vs H Q E => ∃ x0 x1 x2 x3 x4 x5 x6 x7 x8 x9, vs = [x0, x1, x2, x3, x4, x5, x6, x7, x8, x9] ∧ φ x0 x1 x2 x3 x4 x5 x6 x7 x8 x9 H Q E
theorem A10.len {φ : V → V → V → V → V → V → V → V → V → V → Hp → VK → XK → Prop} {vs : List V} {H : Hp} {Q : VK} {E : XK} (h : A10 φ vs H Q E) : vs.length = 10 := by obtain ⟨_, _, _, _, _, _, _, _, _, _, rfl, _⟩ := h; rfl
theorem a10 {φ : V → V → V → V → V → V → V → V → V → V → Hp → VK → XK → Prop} {x0 x1 x2 x3 x4 x5 x6 x7 x8 x9 : V} {H : Hp} {Q : VK} {E : XK} (h : φ x0 x1 x2 x3 x4 x5 x6 x7 x8 x9 H Q E) : A10 φ [x0, x1, x2, x3, x4, x5, x6, x7, x8, x9] H Q E := ⟨x0, x1, x2, x3, x4, x5, x6, x7, x8, x9, rfl, h⟩
def A11 (φ : V → V → V → V → V → V → V → V → V → V → V → Hp → VK → XK → Prop) : Sp := fun vs H Q E => ∃ x0 x1 x2 x3 x4 x5 x6 x7 x8 x9 x10, vs = [x0, x1, x2, x3, x4, x5, x6, x7, x8, x9, x10] ∧ φ x0 x1 x2 x3 x4 x5 x6 x7 x8 x9 x10 H Q E
theorem A11.len {φ : V → V → V → V → V → V → V → V → V → V → V → Hp → VK → XK → Prop} {vs : List V} {H : Hp} {Q : VK} {E : XK} (h : A11 φ vs H Q E) : vs.length = 11 := by obtain ⟨_, _, _, _, _, _, _, _, _, _, _, rfl, _⟩ := h; rfl
theorem a11 {φ : V → V → V → V → V → V → V → V → V → V → V → Hp → VK → XK → Prop} {x0 x1 x2 x3 x4 x5 x6 x7 x8 x9 x10 : V} {H : Hp} {Q : VK} {E : XK} (h : φ x0 x1 x2 x3 x4 x5 x6 x7 x8 x9 x10 H Q E) : A11 φ [x0, x1, x2, x3, x4, x5, x6, x7, x8, x9, x10] H Q E := ⟨x0, x1, x2, x3, x4, x5, x6, x7, x8, x9, x10, rfl, h⟩
def A12 (φ : V → V → V → V → V → V → V → V → V → V → V → V → Hp → VK → XK → Prop) : Sp := fun vs H Q E => ∃ x0 x1 x2 x3 x4 x5 x6 x7 x8 x9 x10 x11, vs = [x0, x1, x2, x3, x4, x5, x6, x7, x8, x9, x10, x11] ∧ φ x0 x1 x2 x3 x4 x5 x6 x7 x8 x9 x10 x11 H Q E
theorem A12.len {φ : V → V → V → V → V → V → V → V → V → V → V → V → Hp → VK → XK → Prop} {vs : List V} {H : Hp} {Q : VK} {E : XK} (h : A12 φ vs H Q E) : vs.length = 12 := by obtain ⟨_, _, _, _, _, _, _, _, _, _, _, _, rfl, _⟩ := h; rfl
theorem a12 {φ : V → V → V → V → V → V → V → V → V → V → V → V → Hp → VK → XK → Prop} {x0 x1 x2 x3 x4 x5 x6 x7 x8 x9 x10 x11 : V} {H : Hp} {Q : VK} {E : XK} (h : φ x0 x1 x2 x3 x4 x5 x6 x7 x8 x9 x10 x11 H Q E) : A12 φ [x0, x1, x2, x3, x4, x5, x6, x7, x8, x9, x10, x11] H Q E := ⟨x0, x1, x2, x3, x4, x5, x6, x7, x8, x9, x10, x11, rfl, h⟩
/-! ### attribute lists -/
theorem putF_hit (f : Str) (v y : V) (r : List (Str × V)) : putF f v ((f, y) :: r) = (f, v) :: r := if_pos rfl
theorem putF_miss {f g : Str} (h : ¬ g = f) (v y : V) (r : List (Str × V)) : putF f v ((g, y) :: r) = (g, y) :: putF f v r := if_neg h
theorem putF_nil (f : Str) (v : V) : putF f v [] = [(f, v)] := rfl
theorem look_hit (f : Str) (y : V) (r : List (Str × V)) : ((f, y) :: r).lookup f = some y := by rw [lookup_put, if_pos rfl]
theorem look_miss {f g : Str} (h : ¬ g = f) (y : V) (r : List (Str × V)) : ((f, y) :: r).lookup g = r.lookup g := by rw [lookup_put, if_neg h]
/-! ### steps -/
section
variable {K : PySem.W.Frag} {D : Ends} {σ : L2.St} {H : Hp} {t u : TS} {te ta tb tc : TE} {tt tu : TT} {g : TG} {Q : VK} {QT : Bool → Hp → Prop} {v x y : V} {i : Nat} {r : R2} {tl tr : TA} {QA : List V → Hp → Prop}
theorem s_seq (h : t { D with nx := u D } σ H) : tSeq t u D σ H := h
theorem s_asg (h : te σ H fun x H1 => g x σ H1 D.nx) : tAsg te g D σ H := h
theorem g_name {R : L2.St → Hp → Prop} (h : R (σ.set i (some v)) H) : gName i v σ H R := h
theorem s_ret (h : te σ H D.rt) : tRet te D σ H := h
theorem s_retN (h : D.rt .non H) : tRetN D σ H := h
theorem s_drop (h : te σ H fun _ H1 => D.nx σ H1) : tDrop te D σ H := h
theorem s_if (h : tt σ H fun b H1 => if b = true then t D σ H1 else u D σ H1) : tIfS tt t u D σ H := h
theorem s_next (h : D.nx σ H) : tNext D σ H := h
theorem s_cont (h : D.ct σ H) : tCont D σ H := h
theorem s_break (h : D.bk σ H) : tBreak D σ H := h
theorem d_nx {a c d : L2.St → Hp → Prop} {b : V → Hp → Prop} (h : a σ H) : (Ends.mk a b c d).nx σ H := h
theorem d_rt {a c d : L2.St → Hp → Prop} {b : V → Hp → Prop} (h : b v H) : (Ends.mk a b c d).rt v H := h
theorem d_bk {a c d : L2.St → Hp → Prop} {b : V → Hp → Prop} (h : c σ H) : (Ends.mk a b c d).bk σ H := h
theorem d_ct {a c d : L2.St → Hp → Prop} {b : V → Hp → Prop} (h : d σ H) : (Ends.mk a b c d).ct σ H := h
def kSet (K : PySem.W.Frag) (f : Str) (y x : V) (H : Hp) (R : Hp → Prop) : Prop := ∃ a C dx fs, x = .ref a ∧ H a = some (.ins C dx fs) ∧ Cls K C ∧ NoAttr K C f ∧ fs.length < 1000 ∧ R (upd H a (.ins C dx (putF f y fs)))
theorem s_fld {f : Str} (h : tb σ H fun y H1 => ta σ H1 fun x H2 => kSet K f y x H2 (D.nx σ)) : sFld K ta tb f D σ H := h
theorem k_set {f : Str} {R : Hp → Prop} {a C dx : Addr} {fs fs' : List (Str × V)} (h : H a = some (.ins C dx fs)) (c : Cls K C) (n : NoAttr K C f) (hp : putF f y fs = fs') (l : fs.length < 1000) (q : R (upd H a (.ins C dx fs'))) : kSet K f y (.ref a) H R := ⟨a, C, dx, fs, rfl, h, c, n, l, hp ▸ q⟩
theorem e_var (h : σ[i]? = some (some v)) (q : Q v H) : tVar i σ H Q := ⟨v, h, q⟩
theorem e_c (q : Q v H) : tC v σ H Q := q
theorem e_op (h : ta σ H fun x H1 => tb σ H1 fun y H2 => r x y H2 Q) : tOp r ta tb σ H Q := h
theorem e_un {ru : V → Hp → VK → Prop} (h : ta σ H fun x H1 => ru x H1 Q) : tUn ru ta σ H Q := h
theorem o_I0 {gg : Int → Int → V} {m n : Int} (q : Q (gg m n) H) : rI0 gg (.int m) (.int n) H Q := ⟨m, n, rfl, rfl, q⟩
theorem o_I {Cc : Int → Int → Prop} {gg : Int → Int → V} {m n : Int} (c : Cc m n) (q : Q (gg m n) H) : rI Cc gg (.int m) (.int n) H Q := ⟨m, n, rfl, rfl, c, q⟩
theorem o_U {gg : Int → V} {m : Int} (q : Q (gg m) H) : rU gg (.int m) H Q := ⟨m, rfl, q⟩
theorem o_eq (s : scal x y = true) (q : Q (.bl (decide (x = y))) H) : rEq x y H Q := ⟨s, q⟩
theorem o_ne (s : scal x y = true) (q : Q (.bl (!decide (x = y))) H) : rNe x y H Q := ⟨s, q⟩
theorem o_ixL {p : Addr} {xs : List V} {n : Int} (h : SqL K H p xs) (a : atI xs n = some v) (q : Q v H) : rIxL K (.ref p) (.int n) H Q := ⟨p, xs, n, v, rfl, rfl, h, a, q⟩
theorem o_ixT {p : Addr} {xs : List V} {n : Int} (h : SqT K H p xs) (a : atI xs n = some v) (q : Q v H) : rIxT K (.ref p) (.int n) H Q := ⟨p, xs, n, v, rfl, rfl, h, a, q⟩
def kFld (K : PySem.W.Frag) (f : Str) (x : V) (H : Hp) (Q : VK) : Prop := ∃ a C dx fs v, x = .ref a ∧ H a = some (.ins C dx fs) ∧ Cls K C ∧ NoAttr K C f ∧ fs.lookup f = some v ∧ Q v H
theorem e_fld {f : Str} (h : ta σ H fun x H1 => kFld K f x H1 Q) : tFld K ta f σ H Q := h
theorem k_fld {f : Str} {a C dx : Addr} {fs : List (Str × V)} (h : H a = some (.ins C dx fs)) (c : Cls K C) (n : NoAttr K C f) (l : fs.lookup f = some v) (q : Q v H) : kFld K f (.ref a) H Q := ⟨a, C, dx, fs, v, rfl, h, c, n, l, q⟩
def kMeth (C : Addr) (m : Str) (sp : Sp) (E : XK) (t : TA) (σ : L2.St) (x : V) (H : Hp) (Q : VK) : Prop := ∃ a dx fs, x = .ref a ∧ H a = some (.ins C dx fs) ∧ fs.lookup m = none ∧ t σ H fun vs H2 => sp (x :: vs) H2 Q E
theorem e_meth {C : Addr} {m : Str} {sp : Sp} {ES : L2.St → XK} (h : ta σ H fun x H1 => kMeth C m sp (ES σ) tl σ x H1 Q) : tMethS C m sp ES ta tl σ H Q := h
theorem k_meth {C a dx : Addr} {m : Str} {sp : Sp} {E : XK} {fs : List (Str × V)} (h : H a = some (.ins C dx fs)) (l : fs.lookup m = none) (q : tl σ H fun vs H2 => sp (.ref a :: vs) H2 Q E) : kMeth C m sp E tl σ (.ref a) H Q := ⟨a, dx, fs, rfl, h, l, q⟩
theorem e_call {sp : Sp} {ES : L2.St → XK} (h : tl σ H fun vs H1 => sp vs H1 Q (ES σ)) : tCallS sp ES tl σ H Q := h
theorem e_make {C : Addr} {sp : Sp} {ES : L2.St → XK} (h : tl σ H fun vs H1 => ∀ x dx, H1 x = none → H1 dx = none → dx ≠ x → sp (.ref x :: vs) (upd (upd H1 dx (.own x)) x (.ins C dx [])) (fun v H2 => v = .non ∧ Q (.ref x) H2) (ES σ)) : tMakeS C sp ES tl σ H Q := h
theorem e_cb {rc : List V → Hp → VK → Prop} (h : tl σ H fun vs H1 => rc vs H1 Q) : tCB rc tl σ H Q := h
theorem l_nil (h : QA [] H) : tNil σ H QA := h
theorem l_cons (h : ta σ H fun x H1 => tl σ H1 fun xs H2 => QA (x :: xs) H2) : tCons ta tl σ H QA := h
theorem e_lst (h : tl σ H fun xs H1 => xs.length ≤ sizeLine ∧ ∀ p, H1 p = none → Q (.ref p) (upd H1 p (.lst xs))) : tLst tl σ H Q := h
theorem e_tup (h : tl σ H fun xs H1 => xs.length ≤ sizeLine ∧ ∀ p, H1 p = none → Q (.ref p) (upd H1 p (.tup xs))) : tTup tl σ H Q := h
theorem e_bm {T : String} {rm : V → List V → Hp → VK → Prop} (h : ta σ H fun x H1 => tyV K T x H1 ∧ tl σ H1 fun xs H2 => rm x xs H2 Q) : tBM K T rm ta tl σ H Q := h
theorem e_bm0 {T : String} {rm : V → List V → Hp → VK → Prop} (h : ta σ H fun x H1 => tyV K T x H1 ∧ rm x [] H1 Q) : tBM0 K T rm ta σ H Q := h
theorem e_not (h : ta σ H fun x H1 => ∃ c, x = .bl c ∧ Q (.bl (!c)) H1) : tNotV ta σ H Q := h
theorem e_if (h : tt σ H fun c H1 => if c = true then ta σ H1 Q else tb σ H1 Q) : tIf tt ta tb σ H Q := h
def kT (x : V) (H : Hp) (QT : Bool → Hp → Prop) : Prop := ∃ k, x = .bl k ∧ QT k H
theorem k_t {b : Bool} (q : QT b H) : kT (.bl b) H QT := ⟨b, rfl, q⟩
theorem t_test (h : te σ H fun x H1 => kT x H1 QT) : tTest te σ H QT := h
theorem t_B (h : te σ H fun x H1 => kT x H1 QT) : tB te σ H QT := h
theorem t_and (h : tt σ H fun c H1 => if c = true then tu σ H1 QT else QT false H1) : tAnd tt tu σ H QT := h
theorem t_or (h : tt σ H fun c H1 => if c = true then QT true H1 else tu σ H1 QT) : tOr tt tu σ H QT := h
theorem t_not (h : tt σ H fun c H1 => QT (!c) H1) : tNot tt σ H QT := h
theorem e_and (h : ta σ H fun x H1 => ∃ c, x = .bl c ∧ if c = true then tb σ H1 Q else Q (.bl false) H1) : tAndV ta tb σ H Q := h
theorem e_or (h : ta σ H fun x H1 => ∃ c, x = .bl c ∧ if c = true then Q (.bl true) H1 else tb σ H1 Q) : tOrV ta tb σ H Q := h
theorem e_chain {r' : R2} (h : ta σ H fun x H1 => tb σ H1 fun y H2 => r x y H2 fun z H3 => kT z H3 fun k H4 => if k = true then tc σ H4 fun w' H5 => r' y w' H5 Q else Q (.bl false) H4) : tChain r r' ta tb tc σ H Q := by
  refine h
theorem s_raise {W : WX} {C : Addr} {fld : Str} (h : te σ H fun v H1 => okV v ∧ ∀ d, H1 d = none → W (.ref C) (some d) σ (upd H1 d (.xd [(fld, v)]))) : tRaiseE W C fld te D σ H := h
theorem e_sl {rs : V → Option Int → Option Int → Hp → VK → Prop} {to th : TO} (h : te σ H fun x H1 => to σ H1 fun l H2 => th σ H2 fun u H3 => rs x l u H3 Q) : tSl rs te to th σ H Q := h
theorem p_no {QO : Option Int → Hp → Prop} (h : QO none H) : tNoPart σ H QO := h
def kI (x : V) (H : Hp) (QO : Option Int → Hp → Prop) : Prop := ∃ n, x = .int n ∧ QO (some n) H
theorem k_i {QO : Option Int → Hp → Prop} {n : Int} (q : QO (some n) H) : kI (.int n) H QO := ⟨n, rfl, q⟩
theorem p_some {QO : Option Int → Hp → Prop} (h : te σ H fun x H1 => kI x H1 QO) : tPart te σ H QO := h
/-! ### ifs -/
theorem if_d {c A B : Prop} [Decidable c] (h1 : c → A) (h2 : ¬ c → B) : if decide c = true then A else B := by
  by_cases h : c
  · rw [if_pos (decide_eq_true h)]; exact h1 h
  · rw [if_neg (by rw [decide_eq_false h]; exact Bool.false_ne_true)]; exact h2 h
theorem if_nd {c A B : Prop} [Decidable c] (h1 : ¬ c → A) (h2 : c → B) : if (!decide c) = true then A else B := by
  by_cases h : c
  · rw [decide_eq_true h]; exact iteF (h2 h)
  · rw [decide_eq_false h]; exact iteT (h1 h)
theorem if_dT {c A B : Prop} [Decidable c] (h : c) (q : A) : if decide c = true then A else B := by rw [if_pos (decide_eq_true h)]; exact q
theorem if_dF {c A B : Prop} [Decidable c] (h : ¬ c) (q : B) : if decide c = true then A else B := if_d (fun z => absurd z h) fun _ => q
theorem if_ndT {c A B : Prop} [Decidable c] (h : ¬ c) (q : A) : if (!decide c) = true then A else B := if_nd (fun _ => q) fun z => absurd z h
theorem if_ndF {c A B : Prop} [Decidable c] (h : c) (q : B) : if (!decide c) = true then A else B := if_nd (fun z => absurd h z) fun _ => q
theorem if_b {b : Bool} {A B : Prop} (h1 : b = true → A) (h2 : b = false → B) : if b = true then A else B := by
  cases b with
  | true => exact iteT (h1 rfl)
  | false => exact iteF (h2 rfl)
end
/-! ### lists of values -/
theorem upd_rw {H : Hp} {a : Addr} {o : HO} (h : H a = some o) : upd H a o = H := by
  funext b
  by_cases hb : b = a
  · rw [hb, upd_same, h]
  · rw [upd_ne hb]
theorem sz {n : Nat} (h : n ≤ 100000) : n ≤ sizeLine := by rw [sizeLine_eq]; omega
theorem szl {n : Nat} (h : n < 100000) : n < sizeLine := by rw [sizeLine_eq]; omega
/-! ### what a step may touch -/
/-- all that was tracked, but at fp, is as it was -/
def Fp (fp : List Addr) (H H' : Hp) : Prop := ∀ b o, H b = some o → b ∉ fp → H' b = some o
theorem Fp.refl (fp : List Addr) (H : Hp) : Fp fp H H := fun _ _ h _ => h
theorem Fp.trans {fp : List Addr} {H H1 H2 : Hp} (a : Fp fp H H1) (b : Fp fp H1 H2) : Fp fp H H2 := fun c o h n => b c o (a c o h n) n
theorem Fp.mono {fp fq : List Addr} {H H' : Hp} (a : Fp fp H H') (s : ∀ x, x ∈ fp → x ∈ fq) : Fp fq H H' := fun c o h n => a c o h fun z => n (s c z)
theorem Fp.new {fp : List Addr} {H : Hp} {a : Addr} {o : HO} (h : H a = none) : Fp fp H (upd H a o) := fun c u e _ => by rw [upd_ne (ne_of_none e h)]; exact e
theorem Fp.at_ {fp : List Addr} {H : Hp} {a : Addr} {o : HO} (h : a ∈ fp) : Fp fp H (upd H a o) := fun c u e n => by
  rw [upd_ne (fun z => n (by rw [z]; exact h))]
  exact e
/-- what was new in H does not count -/
theorem Fp.drop {fp fq : List Addr} {H H' : Hp} (a : Fp fp H H') (s : ∀ x, x ∈ fp → x ∈ fq ∨ H x = none) : Fp fq H H' := fun c o h n => a c o h fun z => by
  rcases s c z with q | q
  · exact n q
  · rw [q] at h; cases h
theorem Fp.free {fp : List Addr} {H H' : Hp} (e : Fp fp H H') {l : Addr} (n : l ∉ fp) (h : H' l = none) : H l = none := by
  cases q : H l with
  | none => rfl
  | some o => rw [e l o q n] at h; cases h
theorem Fp.seq {K : PySem.W.Frag} {fp : List Addr} {H H' : Hp} {a : Addr} {xs : List V} (e : Fp fp H H') (n : a ∉ fp) (h : SqL K H a xs) : SqL K H' a xs := by
  rcases h with (h | ⟨o, h⟩) | h
  · exact .inl (.inl (e _ _ h n))
  · exact .inl (.inr ⟨o, e _ _ h n⟩)
  · exact .inr h
theorem Fp.tup {K : PySem.W.Frag} {fp : List Addr} {H H' : Hp} {a : Addr} {xs : List V} (e : Fp fp H H') (n : a ∉ fp) (h : SqT K H a xs) : SqT K H' a xs := by
  rcases h with (h | ⟨o, h⟩) | h
  · exact .inl (.inl (e _ _ h n))
  · exact .inl (.inr ⟨o, e _ _ h n⟩)
  · exact .inr h

/-! ### built-ins by name -/
section
variable {X : Cx} {K : PySem.W.Frag} {H : Hp} {Q : VK} {v : V}
def rLn (K : PySem.W.Frag) : List V → Hp → VK → Prop := fun xs H Q => ∃ p ys, xs = [.ref p] ∧ (SqL K H p ys ∨ SqT K H p ys) ∧ Q (.int ys.length) H
theorem call_ln : CallR X (.builtin "len") (rLn X.K) := call_len_seq
theorem c_ln {p : Addr} {ys : List V} (h : SqL K H p ys) (q : Q (.int ys.length) H) : rLn K [.ref p] H Q := ⟨p, ys, rfl, .inl h, q⟩
theorem c_lnT {p : Addr} {ys : List V} (h : SqT K H p ys) (q : Q (.int ys.length) H) : rLn K [.ref p] H Q := ⟨p, ys, rfl, .inr h, q⟩
def rAb : List V → Hp → VK → Prop := fun xs H Q => ∃ i, xs = [.int i] ∧ Q (.int (if i < 0 then -i else i)) H
theorem call_ab : CallR X (.builtin "abs") rAb := call_abs
theorem c_ab {i : Int} (q : Q (.int (if i < 0 then -i else i)) H) : rAb [.int i] H Q := ⟨i, rfl, q⟩
def rIn1 : List V → Hp → VK → Prop := fun xs H Q => ∃ i, xs = [.int i] ∧ Q (.int i) H
theorem call_in : CallR X (.type "int") rIn1 := fun pins s σ H xs us Q I r ⟨i, e, q⟩ => call_int1 pins s σ H xs us Q I r (.inl ⟨i, e, q⟩)
theorem c_in {i : Int} (q : Q (.int i) H) : rIn1 [.int i] H Q := ⟨i, rfl, q⟩
def rMx : List V → Hp → VK → Prop := fun xs H Q => ∃ i j, xs = [.int i, .int j] ∧ Q (.int (if j > i then j else i)) H
theorem call_mx (hc : X.calm = true) : CallR X (.builtin "max") rMx := call_max2 hc
theorem c_mx {i j : Int} (q : Q (.int (if j > i then j else i)) H) : rMx [.int i, .int j] H Q := ⟨i, j, rfl, q⟩
def rMn : List V → Hp → VK → Prop := fun xs H Q => ∃ i j, xs = [.int i, .int j] ∧ Q (.int (if j < i then j else i)) H
theorem call_mn (hc : X.calm = true) : CallR X (.builtin "min") rMn := call_min2 hc
theorem c_mn {i j : Int} (q : Q (.int (if j < i then j else i)) H) : rMn [.int i, .int j] H Q := ⟨i, j, rfl, q⟩
def rLs (K : PySem.W.Frag) : List V → Hp → VK → Prop := fun xs H Q => ∃ p ys, xs = [.ref p] ∧ (SqL K H p ys ∨ SqT K H p ys) ∧ ∀ l, H l = none → Q (.ref l) (upd H l (.lst ys))
theorem call_ls : CallR X (.type "list") (rLs X.K) := call_list_of
theorem c_ls {p : Addr} {ys : List V} (h : SqL K H p ys) (q : ∀ l, H l = none → Q (.ref l) (upd H l (.lst ys))) : rLs K [.ref p] H Q := ⟨p, ys, rfl, .inl h, q⟩
theorem c_app {l : Addr} {xs : List V} (h : H l = some (.lst xs)) (z : xs.length < sizeLine) (q : Q .non (upd H l (.lst (xs ++ [v])))) : rAppend (.ref l) [v] H Q := ⟨l, xs, v, rfl, rfl, h, z, q⟩
theorem c_pop0 {l : Addr} {x : V} {xs : List V} (h : H l = some (.lst (x :: xs))) (z : xs.length < 100000) (q : Q x (upd H l (.lst xs))) : rPopAt (.ref l) [.int 0] H Q :=
  ⟨l, x :: xs, 0, 0, x, rfl, rfl, h, by decide, by decide, by
    unfold seqIndex?
    first | rfl | simp, rfl, q⟩
theorem c_setL {p : Addr} {xs : List V} {n : Int} {j : Nat} {R : Hp → Prop} (h : H p = some (.lst xs)) (e : n = (j : Int)) (hj : j < xs.length) (q : R (upd H p (.lst (xs.set j v)))) : rSetL (.ref p) (.int n) v H R := by
  subst e
  exact ⟨p, xs, _, j, rfl, rfl, h, Evl.ixN_nat hj, q⟩
theorem g_sub {to ti : TE} {ts : TSet} {σ : L2.St} {R : L2.St → Hp → Prop} (h : to σ H fun o H1 => ti σ H1 fun i H2 => ts o i v H2 fun H3 => R σ H3) : gSub to ti ts v σ H R := h
theorem o_cat {l b : Addr} {xs zs : List V} (h : H l = some (.lst xs)) (h' : H b = some (.lst zs)) (z : xs.length + zs.length ≤ sizeLine) (q : ∀ p, H p = none → Q (.ref p) (upd H p (.lst (xs ++ zs)))) : rCat (.ref l) (.ref b) H Q := ⟨l, b, xs, zs, rfl, rfl, h, h', z, q⟩
theorem o_slL {a : Addr} {xs : List V} {lo hi : Option Int} (h : SqL K H a xs) (q : ∀ p, H p = none → Q (.ref p) (upd H p (.lst (cutV xs lo hi)))) : rSlL K (.ref a) lo hi H Q := ⟨a, xs, rfl, h, q⟩
/-- data of one level, as PyData -/
def toD : V → PyData
  | .bl b => .bool b
  | .int i => .int i
  | .str x => .str x
  | _ => .none
def flat : V → Bool
  | .non => true | .bl _ => true | .int _ => true | .str x => PyData.strOk x | _ => false
theorem dp_flat {x : V} (h : flat x = true) : Dp K H x (toD x) := by
  cases x with
  | non => exact .non
  | bl b => exact .bl b
  | int i => exact .int i
  | str z => exact .str z
  | byt _ => cases h
  | flt _ => cases h
  | ref _ => cases h
  | ty _ => cases h
theorem dp_flats : ∀ {xs : List V}, (∀ x ∈ xs, flat x = true) → DpAll K H xs (xs.map toD)
  | [], _ => .nil
  | x :: xs, h => .cons (dp_flat (h x List.mem_cons_self)) (dp_flats fun y hy => h y (List.mem_cons_of_mem _ hy))
theorem lay_flat {x : V} (h : flat x = true) : (toD x).canLay0 = true := by
  cases x with
  | str z => show PyData.strOk z = true; exact h
  | non => rfl
  | bl b => rfl
  | int i => rfl
  | byt _ => cases h
  | flt _ => cases h
  | ref _ => cases h
  | ty _ => cases h
theorem lay_flats : ∀ {xs : List V}, (∀ x ∈ xs, flat x = true) → PyData.canLayAll0 (xs.map toD) = true
  | [], _ => rfl
  | x :: xs, h => by
    show ((toD x).canLay0 && PyData.canLayAll0 (xs.map toD)) = true
    rw [lay_flat (h x List.mem_cons_self), lay_flats fun y hy => h y (List.mem_cons_of_mem _ hy)]
    rfl
theorem depth_flat (x : V) : (toD x).depth ≤ 1 := by
  cases x <;> first | decide | (simp [toD, PyData.depth])
theorem depth_flats : ∀ xs : List V, PyData.depthAll (xs.map toD) ≤ 1
  | [] => by simp [PyData.depthAll]
  | x :: xs => by
    have h1 := depth_flat x
    have h2 := depth_flats xs
    show PyData.depthAll (toD x :: xs.map toD) ≤ 1
    simp only [PyData.depthAll]
    omega
theorem shaped_flat {x : V} (h : flat x = true) : SeqAt.shaped (toD x) = true := by
  show ((toD x).canLay0 && decide ((toD x).depth ≤ 64)) = true
  rw [lay_flat h, decide_eq_true (Nat.le_trans (depth_flat x) (by decide))]
  rfl
theorem shaped_flats {xs : List V} (h : ∀ x ∈ xs, flat x = true) : SeqAt.shaped (.list (xs.map toD)) = true := by
  have d1 := depth_flats xs
  show (PyData.canLay0 (.list (xs.map toD)) && decide (PyData.depth (.list (xs.map toD)) ≤ 64)) = true
  have e1 : PyData.canLay0 (.list (xs.map toD)) = PyData.canLayAll0 (xs.map toD) := by simp only [PyData.canLay0]
  have e2 : PyData.depth (.list (xs.map toD)) ≤ 64 := by simp only [PyData.depth]; omega
  rw [e1, lay_flats h, decide_eq_true e2]
  rfl
theorem shaped_flatT {xs : List V} (h : ∀ x ∈ xs, flat x = true) : SeqAt.shaped (.tuple (xs.map toD)) = true := by
  have d1 := depth_flats xs
  show (PyData.canLay0 (.tuple (xs.map toD)) && decide (PyData.depth (.tuple (xs.map toD)) ≤ 64)) = true
  have e1 : PyData.canLay0 (.tuple (xs.map toD)) = PyData.canLayAll0 (xs.map toD) := by simp only [PyData.canLay0]
  have e2 : PyData.depth (.tuple (xs.map toD)) ≤ 64 := by simp only [PyData.depth]; omega
  rw [e1, lay_flats h, decide_eq_true e2]
  rfl
/-- the same data on both sides -/
theorem eqv_self {d : PyData} (h : SeqAt.shaped d = true) : PyData.eqv d d = true := by
  have h1 : d.canLay0 = true := SeqAt.canLay_of_shaped h
  first | exact SeqAt.eqv_refl d h1 | exact P3.eqv_refl d h1 | exact eqv_refl d h1
theorem o_eqD {x y : V} {d : PyData} (h1 : Dp K H x d) (h2 : Dp K H y d) (s : SeqAt.shaped d = true) (q : Q (.bl true) H) : rEqD K x y H Q := ⟨d, d, h1, h2, s, s, by rw [eqv_self s]; exact q⟩
theorem o_neD {x y : V} {d : PyData} (h1 : Dp K H x d) (h2 : Dp K H y d) (s : SeqAt.shaped d = true) (q : Q (.bl false) H) : rNeD K x y H Q := ⟨d, d, h1, h2, s, s, by rw [eqv_self s]; exact q⟩
/-- two lists of plain values that are one list -/
theorem o_neL {a b : Addr} {xs : List V} (h1 : SqL K H a xs) (h2 : SqL K H b xs) (f : ∀ x ∈ xs, flat x = true) (q : Q (.bl false) H) : rNeD K (.ref a) (.ref b) H Q :=
  o_neD (.lst h1 (dp_flats f)) (.lst h2 (dp_flats f)) (shaped_flats f) q
theorem o_eqL {a b : Addr} {xs : List V} (h1 : SqL K H a xs) (h2 : SqL K H b xs) (f : ∀ x ∈ xs, flat x = true) (q : Q (.bl true) H) : rEqD K (.ref a) (.ref b) H Q :=
  o_eqD (.lst h1 (dp_flats f)) (.lst h2 (dp_flats f)) (shaped_flats f) q
theorem o_neT {a b : Addr} {xs : List V} (h1 : SqT K H a xs) (h2 : SqT K H b xs) (f : ∀ x ∈ xs, flat x = true) (q : Q (.bl false) H) : rNeD K (.ref a) (.ref b) H Q :=
  o_neD (.tup h1 (dp_flats f)) (.tup h2 (dp_flats f)) (shaped_flatT f) q
theorem flat_ints (ns : List Int) : ∀ x ∈ ns.map V.int, flat x = true := fun x hx => by
  obtain ⟨n, _, rfl⟩ := List.mem_map.mp hx
  rfl
end

/-! ### loops and comprehensions -/
section
variable {K : PySem.W.Frag} {D : Ends} {σ : L2.St} {H : Hp} {tb : TS} {te tl : TE} {tt tc : TT} {g : TG} {Q : VK} {j : Nat} {b : Addr} {xs ys : List V} {vs : List Nat}
theorem f_list (Pv : Nat → L2.St → Hp → Prop) (hv : σ[j]? = some (some (.ref b))) (hS : SqL K H b xs) (h0 : Pv 0 σ H) (hl : ∀ i σ' H', i ≤ xs.length → Pv i σ' H' → SqL K H' b xs)
    (hs : ∀ i x σ' H', xs[i]? = some x → Pv i σ' H' → g x σ' H' fun σ2 H2 => tb { D with nx := Pv (i + 1), ct := Pv (i + 1), bk := D.nx } σ2 H2) (hd : ∀ σ' H', Pv xs.length σ' H' → D.nx σ' H') : tFor (iList K (tVar j)) g tb D σ H :=
  ⟨_, hv, b, rfl, ⟨_, hS⟩, for_list Pv h0 hl hs hd⟩
/-- over a list that an expression hands back -/
theorem f_listE (h : tl σ H fun x H1 => ∃ (p : Addr) (xs : List V) (Pv : Nat → L2.St → Hp → Prop), x = .ref p ∧ SqL K H1 p xs ∧ Pv 0 σ H1 ∧ (∀ i σ' H', i ≤ xs.length → Pv i σ' H' → SqL K H' p xs) ∧
    (∀ i x σ' H', xs[i]? = some x → Pv i σ' H' → g x σ' H' fun σ2 H2 => tb { D with nx := Pv (i + 1), ct := Pv (i + 1), bk := D.nx } σ2 H2) ∧ ∀ σ' H', Pv xs.length σ' H' → D.nx σ' H') (up : ∀ R R' : VK, (∀ x H1, R x H1 → R' x H1) → tl σ H R → tl σ H R') : tFor (iList K tl) g tb D σ H :=
  up _ _ (fun _ _ ⟨p, xs, Pv, e, hS, h0, hl, hs, hd⟩ => ⟨p, e, ⟨xs, hS⟩, for_list Pv h0 hl hs hd⟩) h
/-- over the first n of a list -/
theorem f_listS {n : Int} (hv : σ[j]? = some (some (.ref b))) (hS : SqL K H b xs)
    (h : ∀ c, H c = none → ∃ Pv : Nat → L2.St → Hp → Prop, Pv 0 σ (upd H c (.lst (cutV xs none (some n)))) ∧ (∀ i σ' H', i ≤ (cutV xs none (some n)).length → Pv i σ' H' → SqL K H' c (cutV xs none (some n))) ∧
      (∀ i x σ' H', (cutV xs none (some n))[i]? = some x → Pv i σ' H' → g x σ' H' fun σ2 H2 => tb { D with nx := Pv (i + 1), ct := Pv (i + 1), bk := D.nx } σ2 H2) ∧ ∀ σ' H', Pv (cutV xs none (some n)).length σ' H' → D.nx σ' H') :
    tFor (iList K (tSl (rSlL K) (tVar j) tNoPart (tPart (tC (.int n))))) g tb D σ H := by
  show tSl (rSlL K) (tVar j) tNoPart (tPart (tC (.int n))) σ H _
  refine e_sl (e_var hv (p_no (p_some (e_c (k_i (o_slL hS fun c hc => ?_))))))
  obtain ⟨Pv, h0, hl, hs, hd⟩ := h c hc
  exact ⟨c, rfl, ⟨_, Or.inl (Or.inl upd_same)⟩, for_list Pv h0 hl hs hd⟩
theorem Fp.add {fp : List Addr} {H H1 H2 : Hp} (F : Fp [] H H1) (f : Fp fp H1 H2) (n : ∀ z ∈ fp, H z = none) : Fp [] H H2 := fun c o h m => f c o (F c o h (by simp)) fun z => by rw [n c z] at h; cases h
/-- for i in range(n) -/
def kRng (g : TG) (tb : TS) (D : Ends) (σ : L2.St) (x : V) (H1 : Hp) : Prop := iRng1 (fun _ _ R => R [x] H1) σ H1 fun J H1 => ∃ W : Nat → Nat → L2.St → Hp → Prop, (∃ m, W 0 m σ H1) ∧ ∀ i m σ H, W i m σ H →
  (J.stop i H ∧ D.nx σ H) ∨ (J.go i H ∧ ∃ N : L2.St → Hp → Prop, (∀ σ' H', N σ' H' → ∃ m', m' < m ∧ W (i + 1) m' σ' H') ∧ ∀ x H', J.yld i H x H' → g x σ H' fun σ2 H2 => tb { D with nx := N, ct := N, bk := D.nx } σ2 H2)
theorem f_rng1 (h : te σ H fun x H1 => kRng g tb D σ x H1) : tFor (iRng1 (tCons te tNil)) g tb D σ H := h
theorem k_rng (Pv : Nat → L2.St → Hp → Prop) {n : Int} (h1 : -(2 ^ 62) ≤ n) (h2 : n < 2 ^ 62) (h0 : Pv 0 σ H)
    (hs : ∀ i σ' H', i < n.toNat → Pv i σ' H' → g (.int (i : Nat)) σ' H' fun σ2 H2 => tb { D with nx := Pv (i + 1), ct := Pv (i + 1), bk := D.nx } σ2 H2) (hd : ∀ σ' H', Pv n.toNat σ' H' → D.nx σ' H') : kRng g tb D σ (.int n) H :=
  ⟨n, rfl, h1, h2, for_range (lo := 0) (n := n.toNat) Pv h0 (fun i σ' H' hi p => by
    have e0 : (0 : Int) + (i : Int) = (i : Int) := Int.zero_add _
    rw [e0]
    exact hs i σ' H' hi p) hd⟩
theorem w_by (W : Nat → L2.St → Hp → Prop) (m0 : Nat) (h0 : W m0 σ H) (hs : ∀ m σ' H', W m σ' H' → tc σ' H' fun k H1 => if k = true then ∃ N : L2.St → Hp → Prop, (∀ σ2 H2, N σ2 H2 → ∃ m', m' < m ∧ W m' σ2 H2) ∧ tb { D with nx := N, ct := N, bk := D.nx } σ' H1 else D.nx σ' H1) :
    tWhile tc tb D σ H := ⟨W, ⟨m0, h0⟩, hs⟩
theorem take_snoc {α : Type} {l : List α} {i : Nat} {x : α} (h : l[i]? = some x) : l.take (i + 1) = l.take i ++ [x] := by
  obtain ⟨hi, rfl⟩ := List.getElem?_eq_some_iff.mp h
  rw [List.take_succ, List.getElem?_eq_getElem hi]
  rfl
/-- [e for x in xs], e without a trace in the heap -/
theorem lc_pure (hv : σ[j]? = some (some (.ref b))) (hS : SqL K H b xs) (hlen : ys.length = xs.length) (hz : xs.length < 100000)
    (hs : ∀ (E : Addr) (i : Nat) (x y : V) (H' : Hp) (R : VK), H E = none → xs[i]? = some x → ys[i]? = some y → H' = upd H E (.lst (ys.take i)) → R y H' → g x (wipe σ vs) H' fun σ2 H2 => wipe σ2 vs = wipe σ vs ∧ te σ2 H2 R)
    (q : ∀ E, H E = none → Q (.ref E) (upd H E (.lst ys))) : tLc (iList K (tVar j)) g tYes te vs σ H Q := by
  refine ⟨_, hv, b, rfl, ⟨_, hS⟩, fun E hE => ?_⟩
  refine lc_list (K := K) (a := b) (xs := xs) (fun i H' => H' = upd H E (.lst (ys.take i))) (by rw [List.take_zero]) (fun i H' hi e => ?_) (fun i x H' hx e => ?_) fun H' e => ?_
  · subst e; exact (Fp.new (fp := []) hE).seq (by simp) hS
  · have hi : i < xs.length := (List.getElem?_eq_some_iff.mp hx).1
    have hy : ys[i]? = some ys[i] := List.getElem?_eq_getElem (by omega)
    have z := hs E i x _ H' (fun y H4 => ∃ acc, H4 E = some (.lst acc) ∧ acc.length < sizeLine ∧ upd H4 E (.lst (acc ++ [y])) = upd H E (.lst (ys.take (i + 1)))) hE hx hy e
      ⟨ys.take i, by rw [e]; exact upd_same, szl (by rw [List.length_take]; omega), by rw [e, upd_upd, take_snoc hy]⟩
    exact z
  · rw [e, ← hlen, List.take_length]
    exact q E hE
theorem lc_pureR {n : Int} (h1 : 0 ≤ n) (h2 : n < 100000) (hlen : (ys.length : Int) = n)
    (hs : ∀ (E : Addr) (i : Nat) (y : V) (H' : Hp) (R : VK), H E = none → (i : Int) < n → ys[i]? = some y → H' = upd H E (.lst (ys.take i)) → R y H' → g (.int (i : Nat)) (wipe σ vs) H' fun σ2 H2 => wipe σ2 vs = wipe σ vs ∧ te σ2 H2 R)
    (q : ∀ E, H E = none → Q (.ref E) (upd H E (.lst ys))) : (iRng1 (fun _ _ R => R [V.int n] H)) σ H fun J H1 => ∀ E, H1 E = none → ∃ W : Nat → Nat → Hp → Prop, (∃ m, W 0 m (upd H1 E (.lst []))) ∧ ∀ i m H, W i m H →
    (J.stop i H ∧ Q (.ref E) H) ∨ (J.go i H ∧ ∃ Nx : Hp → Prop, (∀ H', Nx H' → ∃ m', m' < m ∧ W (i + 1) m' H') ∧ ∀ x H', J.yld i H x H' → g x (wipe σ vs) H' fun σ2 H2 => wipe σ2 vs = wipe σ vs ∧ tYes σ2 H2 fun b H3 =>
      if b = true then te σ2 H3 fun y H4 => ∃ acc, H4 E = some (.lst acc) ∧ acc.length < sizeLine ∧ Nx (upd H4 E (.lst (acc ++ [y]))) else Nx H3) := by
  refine ⟨n, rfl, by omega, by omega, fun E hE => ?_⟩
  refine lc_range (lo := 0) (n := n.toNat) (fun i H' => H' = upd H E (.lst (ys.take i))) (by rw [List.take_zero]) (fun i H' hi e => ?_) fun H' e => ?_
  · have hy : ys[i]? = some ys[i] := List.getElem?_eq_getElem (by omega)
    have e0 : (0 : Int) + (i : Int) = (i : Int) := Int.zero_add _
    rw [e0]
    exact hs E i _ H' (fun y H4 => ∃ acc, H4 E = some (.lst acc) ∧ acc.length < sizeLine ∧ upd H4 E (.lst (acc ++ [y])) = upd H E (.lst (ys.take (i + 1)))) hE (by omega) hy e
      ⟨ys.take i, by rw [e]; exact upd_same, szl (by rw [List.length_take]; omega), by rw [e, upd_upd, take_snoc hy]⟩
  · have : n.toNat = ys.length := by omega
    rw [e, this, List.take_length]
    exact q E hE
def kLcR (g : TG) (te : TE) (vs : List Nat) (σ : L2.St) (Q : VK) (x : V) (H : Hp) : Prop := (iRng1 (fun _ _ R => R [x] H)) σ H fun J H1 => ∀ E, H1 E = none → ∃ W : Nat → Nat → Hp → Prop, (∃ m, W 0 m (upd H1 E (.lst []))) ∧ ∀ i m H, W i m H →
    (J.stop i H ∧ Q (.ref E) H) ∨ (J.go i H ∧ ∃ Nx : Hp → Prop, (∀ H', Nx H' → ∃ m', m' < m ∧ W (i + 1) m' H') ∧ ∀ x H', J.yld i H x H' → g x (wipe σ vs) H' fun σ2 H2 => wipe σ2 vs = wipe σ vs ∧ tYes σ2 H2 fun b H3 =>
      if b = true then te σ2 H3 fun y H4 => ∃ acc, H4 E = some (.lst acc) ∧ acc.length < sizeLine ∧ Nx (upd H4 E (.lst (acc ++ [y]))) else Nx H3)
theorem fm_snoc {α : Type} {f : α → Option V} {l : List α} {i : Nat} {x : α} (h : l[i]? = some x) : (l.take (i + 1)).filterMap f = (l.take i).filterMap f ++ (f x).toList := by
  rw [take_snoc h, List.filterMap_append]
  cases e : f x <;> simp [e]
/-- [e for x in xs if t], where t and e may make new objects -/
theorem lc_filt (f : V → Option V) (hv : σ[j]? = some (some (.ref b))) (hS : SqL K H b xs) (hz : xs.length < 100000)
    (hs : ∀ (E : Addr) (i : Nat) (x : V) (H' : Hp) (R : VK) (N : Hp → Prop), H E = none → xs[i]? = some x → H' E = some (.lst ((xs.take i).filterMap f)) → Fp [] H H' → (∀ y H4, f x = some y → Fp [] H' H4 → R y H4) → (f x = none → ∀ H4, Fp [] H' H4 → N H4) →
      g x (wipe σ vs) H' fun σ2 H2 => wipe σ2 vs = wipe σ vs ∧ tt σ2 H2 fun k H3 => if k = true then te σ2 H3 R else N H3)
    (q : ∀ E H', H E = none → H' E = some (.lst (xs.filterMap f)) → Fp [] H H' → Q (.ref E) H') : tLc (iList K (tVar j)) g tt te vs σ H Q := by
  refine ⟨_, hv, b, rfl, ⟨_, hS⟩, fun E hE => ?_⟩
  refine lc_list (K := K) (a := b) (xs := xs) (fun i H' => H' E = some (.lst ((xs.take i).filterMap f)) ∧ Fp [] H H') ⟨by rw [List.take_zero]; exact upd_same, Fp.new hE⟩ (fun i H' hi e => ?_) (fun i x H' hx e => ?_) fun H' e => ?_
  · exact e.2.seq (by simp) hS
  · have hi : i < xs.length := (List.getElem?_eq_some_iff.mp hx).1
    exact hs E i x H' (fun y H4 => ∃ acc, H4 E = some (.lst acc) ∧ acc.length < sizeLine ∧ (upd H4 E (.lst (acc ++ [y]))) E = some (.lst ((xs.take (i + 1)).filterMap f)) ∧ Fp [] H (upd H4 E (.lst (acc ++ [y])))) (fun H4 => H4 E = some (.lst ((xs.take (i + 1)).filterMap f)) ∧ Fp [] H H4) hE hx e.1 e.2
      (fun y H4 ey f4 => ⟨_, f4 _ _ e.1 (by simp), szl (Nat.lt_of_le_of_lt (List.length_filterMap_le _ _) (by rw [List.length_take]; omega)), by rw [upd_same, fm_snoc hx, ey]; rfl, Fp.drop (fp := [E]) (((e.2.trans f4).mono (by simp)).trans (Fp.at_ (by simp))) fun z hz => by rcases List.mem_singleton.mp hz with rfl; exact .inr hE⟩)
      (fun ey H4 f4 => ⟨by rw [fm_snoc hx, ey]; simpa using f4 _ _ e.1 (by simp), e.2.trans f4⟩)
  · rw [List.take_length] at e
    exact q E H' hE e.1 e.2
def kLcF (g : TG) (tt : TT) (te : TE) (vs : List Nat) (σ : L2.St) (Q : VK) (x : V) (H : Hp) : Prop := (iRng1 (fun _ _ R => R [x] H)) σ H fun J H1 => ∀ E, H1 E = none → ∃ W : Nat → Nat → Hp → Prop, (∃ m, W 0 m (upd H1 E (.lst []))) ∧ ∀ i m H, W i m H →
    (J.stop i H ∧ Q (.ref E) H) ∨ (J.go i H ∧ ∃ Nx : Hp → Prop, (∀ H', Nx H' → ∃ m', m' < m ∧ W (i + 1) m' H') ∧ ∀ x H', J.yld i H x H' → g x (wipe σ vs) H' fun σ2 H2 => wipe σ2 vs = wipe σ vs ∧ tt σ2 H2 fun b H3 =>
      if b = true then te σ2 H3 fun y H4 => ∃ acc, H4 E = some (.lst acc) ∧ acc.length < sizeLine ∧ Nx (upd H4 E (.lst (acc ++ [y]))) else Nx H3)
theorem e_lcF (h : tl σ H fun x H1 => kLcF g tt te vs σ Q x H1) : tLc (iRng1 (tCons tl tNil)) g tt te vs σ H Q := h
theorem fm_range {f : Nat → Option V} {i : Nat} : (List.range (i + 1)).filterMap f = (List.range i).filterMap f ++ (f i).toList := by
  rw [List.range_succ, List.filterMap_append]
  cases e : f i <;> simp [e]
/-- [e for i in range(n) if t] -/
theorem k_lcF {n : Int} (f : Nat → Option V) (h1 : 0 ≤ n) (h2 : n < 100000)
    (hs : ∀ (E : Addr) (i : Nat) (H' : Hp) (R : VK) (N : Hp → Prop), H E = none → (i : Int) < n → H' E = some (.lst ((List.range i).filterMap f)) → Fp [] H H' → (∀ y H4, f i = some y → Fp [] H' H4 → R y H4) → (f i = none → ∀ H4, Fp [] H' H4 → N H4) →
      g (.int (i : Nat)) (wipe σ vs) H' fun σ2 H2 => wipe σ2 vs = wipe σ vs ∧ tt σ2 H2 fun k H3 => if k = true then te σ2 H3 R else N H3)
    (q : ∀ E H', H E = none → H' E = some (.lst ((List.range n.toNat).filterMap f)) → Fp [] H H' → Q (.ref E) H') : kLcF g tt te vs σ Q (.int n) H := by
  refine ⟨n, rfl, by omega, by omega, fun E hE => ?_⟩
  refine lc_range (lo := 0) (n := n.toNat) (fun i H' => H' E = some (.lst ((List.range i).filterMap f)) ∧ Fp [] H H') ⟨upd_same, Fp.new hE⟩ (fun i H' hi e => ?_) fun H' e => q E H' hE e.1 e.2
  have e0 : (0 : Int) + (i : Int) = (i : Int) := Int.zero_add _
  rw [e0]
  exact hs E i H' (fun y H4 => ∃ acc, H4 E = some (.lst acc) ∧ acc.length < sizeLine ∧ (upd H4 E (.lst (acc ++ [y]))) E = some (.lst ((List.range (i + 1)).filterMap f)) ∧ Fp [] H (upd H4 E (.lst (acc ++ [y])))) (fun H4 => H4 E = some (.lst ((List.range (i + 1)).filterMap f)) ∧ Fp [] H H4) hE (by omega) e.1 e.2
    (fun y H4 ey f4 => ⟨_, f4 _ _ e.1 (by simp), szl (Nat.lt_of_le_of_lt (List.length_filterMap_le _ _) (by rw [List.length_range]; omega)), by rw [upd_same, fm_range, ey]; rfl, Fp.drop (fp := [E]) (((e.2.trans f4).mono (by simp)).trans (Fp.at_ (by simp))) fun z hz => by rcases List.mem_singleton.mp hz with rfl; exact .inr hE⟩)
    (fun ey H4 f4 => ⟨by rw [fm_range, ey]; simpa using f4 _ _ e.1 (by simp), e.2.trans f4⟩)
theorem e_lcR (h : tl σ H fun x H1 => kLcR g te vs σ Q x H1) : tLc (iRng1 (tCons tl tNil)) g tYes te vs σ H Q := h
theorem k_lcR {n : Int} (h1 : 0 ≤ n) (h2 : n < 100000) (hlen : (ys.length : Int) = n)
    (hs : ∀ (E : Addr) (i : Nat) (y : V) (H' : Hp) (R : VK), H E = none → (i : Int) < n → ys[i]? = some y → H' = upd H E (.lst (ys.take i)) → R y H' → g (.int (i : Nat)) (wipe σ vs) H' fun σ2 H2 => wipe σ2 vs = wipe σ vs ∧ te σ2 H2 R)
    (q : ∀ E, H E = none → Q (.ref E) (upd H E (.lst ys))) : kLcR g te vs σ Q (.int n) H := lc_pureR h1 h2 hlen hs q
end

theorem atI_zero {α : Type} (x : α) (xs : List α) : atI (x :: xs) 0 = some x := by
  have h : (x :: xs)[0]? = some x := rfl
  exact atI_nat (j := 0) h
theorem int_inj {i j : Int} (h : V.int i = V.int j) : i = j := V.int.inj h
theorem int_ne {i j : Int} (h : ¬ V.int i = V.int j) : i ≠ j := fun z => h (by rw [z])

theorem k_ty {K : PySem.W.Frag} {H : Hp} {p : Addr} {xs : List V} {R : Prop} (h : SqL K H p xs) (q : R) : tyV K "list" (.ref p) H ∧ R := ⟨Or.inl ⟨rfl, xs, h⟩, q⟩

theorem o_rep {K : PySem.W.Frag} {H : Hp} {Q : VK} {l : Addr} {n : Int} {xs : List V} (h : H l = some (.lst xs)) (h1 : 0 ≤ n) (h2 : xs.length * n.toNat ≤ 100000) (h3 : n < 2 ^ 63) (q : ∀ p, H p = none → Q (.ref p) (upd H p (.lst (List.replicate n.toNat xs).flatten))) : rRep (.ref l) (.int n) H Q :=
  ⟨l, n, xs, rfl, rfl, h, by omega, h3, sz h2, q⟩

theorem c_isBool {K : PySem.W.Frag} {H : Hp} {Q : VK} {b : Bool} (q : Q (.bl true) H) : rIsi K [.bl b, .ty "bool"] H Q := ⟨.bl b, .ty "bool", .type "bool", .type "bool", true, rfl, .ty _, .base (.bl b), kit_ty (by decide +kernel), q⟩
theorem c_isInt {K : PySem.W.Frag} {H : Hp} {Q : VK} {n : Int} (q : Q (.bl true) H) : rIsi K [.int n, .ty "int"] H Q := ⟨.int n, .ty "int", .type "int", .type "int", true, rfl, .ty _, .base (.int n), kit_ty (by decide +kernel), q⟩
theorem c_isBoolN {K : PySem.W.Frag} {H : Hp} {Q : VK} {n : Int} (q : Q (.bl false) H) : rIsi K [.int n, .ty "bool"] H Q := ⟨.int n, .ty "bool", .type "int", .type "bool", false, rfl, .ty _, .base (.int n), kit_ty (by decide +kernel), q⟩
theorem c_isList {K : PySem.W.Frag} {H : Hp} {Q : VK} {a : Addr} {xs : List V} (h : H a = some (.lst xs)) (q : Q (.bl true) H) : rIsi K [.ref a, .ty "list"] H Q := ⟨.ref a, .ty "list", .type "list", .type "list", true, rfl, .ty _, .base (.lst h), kit_ty (by decide +kernel), q⟩
theorem c_isTup {K : PySem.W.Frag} {H : Hp} {Q : VK} {a : Addr} {xs : List V} (h : H a = some (.tup xs)) (q : Q (.bl true) H) : rIsi K [.ref a, .ty "tuple"] H Q := ⟨.ref a, .ty "tuple", .type "tuple", .type "tuple", true, rfl, .ty _, .base (.tup h), kit_ty (by decide +kernel), q⟩
theorem c_isTupB {K : PySem.W.Frag} {H : Hp} {Q : VK} {a : Addr} {xs : List V} (h : H a = some (.tup xs)) (q : Q (.bl false) H) : rIsi K [.ref a, .ty "bool"] H Q := ⟨.ref a, .ty "bool", .type "tuple", .type "bool", false, rfl, .ty _, .base (.tup h), kit_ty (by decide +kernel), q⟩
/-- is True, is False -/
def rIsB : V → V → Hp → VK → Prop := fun x y H Q => ∃ a b, x = .bl a ∧ y = .bl b ∧ Q (.bl (decide (a = b))) H
def rNotB : V → V → Hp → VK → Prop := fun x y H Q => ∃ a b, x = .bl a ∧ y = .bl b ∧ Q (.bl (!decide (a = b))) H
theorem bo_beq (a b : Bool) : (Value.bool a == Value.bool b) = decide (a = b) := by cases a <;> cases b <;> decide +kernel
theorem op_isB {X : Cx} : OpR X (compareOp .Is) rIsB := by
  intro pins s σ H x y v u Q I rx ry h
  obtain ⟨a, b, rfl, rfl, q⟩ := h
  cases (show v = Value.bool a from rx)
  cases (show u = Value.bool b from ry)
  exact wpAny_is_plain rfl (fin_bl I q (bo_beq a b).symm)
theorem op_notB {X : Cx} : OpR X (compareOp .IsNot) rNotB := by
  intro pins s σ H x y v u Q I rx ry h
  obtain ⟨a, b, rfl, rfl, q⟩ := h
  cases (show v = Value.bool a from rx)
  cases (show u = Value.bool b from ry)
  exact wpAny_isNot_plain rfl (fin_bl I q (congrArg not (bo_beq a b).symm))
theorem o_isB {H : Hp} {Q : VK} {a b : Bool} (q : Q (.bl (decide (a = b))) H) : rIsB (.bl a) (.bl b) H Q := ⟨a, b, rfl, rfl, q⟩
theorem o_notB {H : Hp} {Q : VK} {a b : Bool} (q : Q (.bl (!decide (a = b))) H) : rNotB (.bl a) (.bl b) H Q := ⟨a, b, rfl, rfl, q⟩
theorem c_isTupI {K : PySem.W.Frag} {H : Hp} {Q : VK} {n : Int} (q : Q (.bl false) H) : rIsi K [.int n, .ty "tuple"] H Q := ⟨.int n, .ty "tuple", .type "int", .type "tuple", false, rfl, .ty _, .base (.int n), kit_ty (by decide +kernel), q⟩
theorem c_isNonB {K : PySem.W.Frag} {H : Hp} {Q : VK} (q : Q (.bl false) H) : rIsi K [.non, .ty "bool"] H Q := ⟨.non, .ty "bool", .type "NoneType", .type "bool", false, rfl, .ty _, .base .non, kit_ty (by decide +kernel), q⟩
theorem c_isNonT {K : PySem.W.Frag} {H : Hp} {Q : VK} (q : Q (.bl false) H) : rIsi K [.non, .ty "tuple"] H Q := ⟨.non, .ty "tuple", .type "NoneType", .type "tuple", false, rfl, .ty _, .base .non, kit_ty (by decide +kernel), q⟩
theorem k_bl {c : Bool} {P : Bool → Prop} (h : P c) : ∃ c', V.bl c = V.bl c' ∧ P c' := ⟨c, rfl, h⟩

section
variable {K : PySem.W.Frag} {H : Hp} {Q : VK} {σ : L2.St} {te : TE} {C D ae dd CT : Addr} {f : Str} {fs : List (Str × V)} {v : V} {cls : Value} {de : Option Addr}
def kXf (a : Addr) (cls : Value) (d : Option Addr) (C : Addr) (f : Str) (x : V) (H1 : Hp) (Q : VK) : Prop := x = .ref a ∧ cls = .ref C ∧ ∃ (dd : Addr) (fs : List (Str × V)) (v : V), d = some dd ∧ H1 dd = some (.xd fs) ∧ fs.lookup f = some v ∧ Q v H1
theorem e_xf (h : te σ H fun x H1 => kXf ae cls de C f x H1 Q) : tXf ae cls de C f te σ H Q := h
theorem k_xf (h : H dd = some (.xd fs)) (l : fs.lookup f = some v) (q : Q v H) : kXf ae (.ref C) (some dd) C f (.ref ae) H Q := ⟨rfl, rfl, dd, fs, v, rfl, h, l, q⟩
theorem c_isED (h : H dd = some (.xd fs)) (k : PySem.W.kitOne K (.ref D) (.ref CT) = some true) (q : Q (.bl true) H) : rIsED K D ae (.ref D) (some dd) [.ref ae, .ref CT] H Q :=
  ⟨.ref CT, .ref CT, true, dd, fs, rfl, rfl, rfl, h, fun u r => r, k, q⟩
theorem c_isEDty {n : String} (h : H dd = some (.xd fs)) (k : PySem.W.kitOne K (.ref D) (.type n) = some true) (q : Q (.bl true) H) : rIsED K D ae (.ref D) (some dd) [.ref ae, .ty n] H Q :=
  ⟨.ty n, .type n, true, dd, fs, rfl, rfl, rfl, h, fun u r => r, k, q⟩
theorem w_as {c : Value} {i : Nat} {ts : Addr → Value → Option Addr → TS} {Wout : WX} {D : Ends} (e : PySem.W.exmOne K cls c = some true)
    (h : ∀ a, H a = none → ts a cls de { nx := fun σ' H' => D.nx (σ'.set i none) H', rt := D.rt, bk := fun σ' H' => D.bk (σ'.set i none) H', ct := fun σ' H' => D.ct (σ'.set i none) H' } (σ.set i (some (.ref a))) H) : WE (wAs K c i ts Wout D) σ cls de H :=
  ⟨true, e, fun _ => h, fun z => Bool.noConfusion z⟩
end

theorem s_cut {D : Ends} {σ : L2.St} {H : Hp} {t u : TS} (Mid : L2.St → Hp → Prop) (h1 : t { D with nx := Mid } σ H) (h2 : ∀ σ' H', Mid σ' H' → u D σ' H') : Evl.tCut t u D σ H := ⟨Mid, h1, h2⟩

/-- a test whose outcomes are told once -/
def tUpT (t : TT) : TT := fun σ H Q => ∃ P : Bool → Hp → Prop, t σ H P ∧ ∀ b H1, P b H1 → Q b H1
theorem pt_up {X : Cx} {e : Expr} {t : TT} (h : PT X e t) : PT X e (tUpT t) := ⟨fun pins s σ H Q I ⟨P, q, m⟩ => thn (h.run pins s σ H P I q) fun _ _ ⟨H1, J, z⟩ => ⟨H1, J, m _ _ z⟩⟩
theorem t_up {t : TT} {σ : L2.St} {H : Hp} {Q : Bool → Hp → Prop} (P : Bool → Hp → Prop) (h : t σ H P) (k : ∀ b H1, P b H1 → Q b H1) : tUpT t σ H Q := ⟨P, h, k⟩
theorem cut1 {x : V} {xs : List V} : cutV (x :: xs) (some 1) none = xs := by
  unfold cutV
  simp [HT.sIx]

/-! ### dicts by texts -/
section
variable {K : PySem.W.Frag} {D : Ends} {σ : L2.St} {H : Hp} {Q : VK} {td ty tv te : TE} {a : Addr} {kvs : List (Key × V)} {s : Str} {v : V} {x y c : Int} {i : Nat}
theorem val_hit (k : Key) (v : V) (r : List (Key × V)) : valV ((k, v) :: r) k = some v := by simp [valV]
theorem val_miss {k k' : Key} (h : ¬ k = k') (v : V) (r : List (Key × V)) : valV ((k, v) :: r) k' = valV r k' := by simp [valV, h]
theorem val_nil (k : Key) : valV ([] : List (Key × V)) k = none := rfl
def kDGet (x y : V) (H : Hp) (Q : VK) : Prop := ∃ a v, x = .ref a ∧ DGet H a y (some v) ∧ Q v H
theorem e_dget (h : td σ H fun x H1 => ty σ H1 fun y H2 => kDGet x y H2 Q) : tDGet td ty σ H Q := h
theorem k_dget (h : H a = some (.dK kvs)) (l : valV kvs (Sum.inr s) = some v) (q : Q v H) : kDGet (.ref a) (.str s) H Q := ⟨a, v, rfl, .inl ⟨kvs, Sum.inr s, .inl h, rfl, l.symm⟩, q⟩
def kDPut (v x y : V) (H : Hp) (R : Hp → Prop) : Prop := ∃ a H4, x = .ref a ∧ DPut H a y v H4 ∧ R H4
theorem s_dput (h : tv σ H fun v H1 => td σ H1 fun x H2 => ty σ H2 fun y H3 => kDPut v x y H3 (D.nx σ)) : sDPut td ty tv D σ H := h
theorem k_dput {R : Hp → Prop} (h : H a = some (.dK kvs)) (hl : kvs.length < 100000) (q : R (upd H a (.dK (putK kvs (Sum.inr s) v)))) : kDPut v (.ref a) (.str s) H R := ⟨a, _, rfl, DPut.k (k := Sum.inr s) h (szl hl), q⟩
theorem c_sum {ns : List Int} (h : SqL K H a (ns.map V.int)) (q : Q (.int ns.sum) H) : rSum K [.ref a] H Q := ⟨a, ns, rfl, h, q⟩
/-! ### x ≤ y ≤ c -/
theorem o_chC (q : Q (.bl (decide (x ≤ y ∧ y ≤ c))) H) :
    rI0 (fun i j => V.bl (decide (i ≤ j))) (.int x) (.int y) H fun z H3 => kT z H3 fun k H4 => if k = true then tC (.int c) σ H4 fun w' H5 => rI0 (fun i j => V.bl (decide (i ≤ j))) (.int y) w' H5 Q else Q (.bl false) H4 := by
  refine o_I0 (k_t ?_)
  refine if_d (fun h => e_c (o_I0 ?_)) (fun h => ?_)
  · rw [show decide (y ≤ c) = decide (x ≤ y ∧ y ≤ c) from decide_eq_decide.mpr ⟨fun z => ⟨h, z⟩, fun z => z.2⟩]; exact q
  · rw [show false = decide (x ≤ y ∧ y ≤ c) from (decide_eq_false fun z => h z.1).symm]; exact q
theorem o_chV (hv : σ[i]? = some (some (.int c))) (q : Q (.bl (decide (x ≤ y ∧ y ≤ c))) H) :
    rI0 (fun i j => V.bl (decide (i ≤ j))) (.int x) (.int y) H fun z H3 => kT z H3 fun k H4 => if k = true then tVar i σ H4 fun w' H5 => rI0 (fun i j => V.bl (decide (i ≤ j))) (.int y) w' H5 Q else Q (.bl false) H4 := by
  refine o_I0 (k_t ?_)
  refine if_d (fun h => e_var hv (o_I0 ?_)) (fun h => ?_)
  · rw [show decide (y ≤ c) = decide (x ≤ y ∧ y ≤ c) from decide_eq_decide.mpr ⟨fun z => ⟨h, z⟩, fun z => z.2⟩]; exact q
  · rw [show false = decide (x ≤ y ∧ y ≤ c) from (decide_eq_false fun z => h z.1).symm]; exact q
theorem e_makeK {C : Addr} {m : Nat} {sp : Sp} {gV : List V → List V → List V} {ES : L2.St → XK} {tk : TA} (h : tk σ H fun zs H2 => zs.length = m ∧ ∀ x dx, H2 x = none → H2 dx = none → dx ≠ x →
  sp (gV [.ref x] zs) (upd (upd H2 dx (.own x)) x (.ins C dx [])) (fun v H3 => v = .non ∧ Q (.ref x) H3) (ES σ)) : tMakeKS C m sp gV ES tk σ H Q := h
def kTup (K : PySem.W.Frag) (n : Nat) (t : TGs) (v : V) (σ : L2.St) (H : Hp) (R : L2.St → Hp → Prop) : Prop := ∃ a xs, v = .ref a ∧ SqT K H a xs ∧ xs.length = n ∧ t xs σ H R
theorem g_tup {n : Nat} {t : TGs} {R : L2.St → Hp → Prop} {xs : List V} (h : SqT K H a xs) (hn : xs.length = n) (q : t xs σ H R) : gTup K n t (.ref a) σ H R := ⟨a, xs, rfl, h, hn, q⟩
theorem g_cons {t : TG} {u : TGs} {R : L2.St → Hp → Prop} {r : List V} (q : t v σ H fun σ' H' => u r σ' H' R) : gCons t u (v :: r) σ H R := ⟨v, r, rfl, q⟩
theorem g_nil {R : L2.St → Hp → Prop} (q : R σ H) : gNil [] σ H R := ⟨rfl, q⟩
end

def PL (fs : List (Str × V)) (n : Nat) : Prop := fs.length ≤ n
theorem PL.nil {n : Nat} : PL [] n := Nat.zero_le _
theorem putF_length (f : Str) (v : V) : ∀ fs : List (Str × V), (putF f v fs).length ≤ fs.length + 1
  | [] => Nat.le_refl _
  | (g, y) :: r => by
    by_cases h : g = f
    · rw [show putF f v ((g, y) :: r) = (g, v) :: r from if_pos h]
      exact Nat.le_succ _
    · rw [putF_miss h]
      exact Nat.succ_le_succ (putF_length f v r)
theorem PL.put {f : Str} {v : V} {fs : List (Str × V)} {n : Nat} (h : PL fs n) : PL (putF f v fs) (n + 1) := Nat.le_trans (putF_length f v fs) (Nat.succ_le_succ h)
theorem PL.lt {fs : List (Str × V)} {n : Nat} (h : PL fs n) (hn : n < 1000) : fs.length < 1000 := Nat.lt_of_le_of_lt h hn

/-- objects that stand -/
def Obs (H : Hp) (l : List (Addr × HO)) : Prop := ∀ p ∈ l, H p.1 = some p.2
theorem Obs.nil {H : Hp} : Obs H [] := fun p hp => by cases hp
theorem Obs.fp {H H1 : Hp} {l : List (Addr × HO)} {fp : List Addr} (u : Obs H l) (f : Fp fp H H1) (n : ∀ p ∈ l, p.1 ∉ fp) : Obs H1 l := fun p hp => f _ _ (u p hp) (n p hp)
theorem Obs.fp0 {H H1 : Hp} {l : List (Addr × HO)} (u : Obs H l) (f : Fp [] H H1) : Obs H1 l := u.fp f fun _ _ => by simp
theorem Obs.add {H : Hp} {l : List (Addr × HO)} {t : Addr} {o : HO} (u : Obs H l) (h : H t = none) : Obs (upd H t o) ((t, o) :: l) := fun p hp => by
  rcases List.mem_cons.mp hp with rfl | hp
  · exact upd_same
  · exact Fp.new (fp := []) h _ _ (u p hp) (by simp)
theorem Obs.cons {H : Hp} {l : List (Addr × HO)} {t : Addr} {o : HO} (u : Obs H l) (h : H t = some o) : Obs H ((t, o) :: l) := fun p hp => by
  rcases List.mem_cons.mp hp with rfl | hp
  · exact h
  · exact u p hp
/-- xs[i], read for an augmented assignment -/
theorem get_list {X : Cx} : PGet X (rIxL X.K) := by
  intro pins s σ H o i ov iv Q I rx ry h
  obtain ⟨p, xs, n, z, rfl, rfl, hq, he, q⟩ := h
  cases rx
  obtain ⟨t, rfl⟩ := ry
  obtain ⟨its, r, pl, hz⟩ := I.list hq
  obtain ⟨j, h1, h2, h3, h4, h5⟩ := atI_get he
  obtain ⟨w, ew, rw'⟩ := r.get h2
  have hl := r.length
  have hn := line63
  have fin : EP X pins σ Q w s := ⟨z, H, I, rw', q⟩
  by_cases h0 : 0 ≤ n
  · have hj : n.toNat = j := by
      rw [seqIndex_of h0 h5] at h1
      exact Option.some.inj h1
    refine L2.thn (wpAny_getItem_list (x := w) (Q := fun r s' => r = w ∧ EP X pins σ Q r s') pl.isList h0 (by omega) (by rw [hj]; simpa using ew) ⟨rfl, fin⟩) fun _ _ e => e.2
  · have hj : (n + (its.toArray.size : Int)).toNat = j := by
      rw [seqIndex_neg (by omega) h4] at h1
      rw [List.size_toArray, ← hl]
      exact Option.some.inj h1
    refine L2.thn (wpAny_getItem_list_neg (x := w) (Q := fun r s' => r = w ∧ EP X pins σ Q r s') pl.isList (by omega) (by rw [List.size_toArray] <;> omega) (by omega) (by rw [hj]; simpa using ew) ⟨rfl, fin⟩) fun _ _ e => e.2
theorem s_augS {D : Ends} {σ : L2.St} {H : Hp} {to ti te : TE} {tget : V → V → Hp → VK → Prop} {tip : TIp} {tset : TSet} (h : to σ H fun o H1 => ti σ H1 fun i H2 => tget o i H2 fun x H3 => te σ H3 fun y H4 => tip x y H4 fun z H5 => tset o i z H5 fun H6 => D.nx σ H6) : tAugS to ti te tget tip tset D σ H := h
theorem ip_I {f : Int → Int → Int} {m n : Int} {H : Hp} {Q : VK} (q : Q (.int (f m n)) H) : ipI f (.int m) (.int n) H Q := ⟨m, n, rfl, rfl, q⟩
def kAug (i : Nat) (te : TE) (tip : TIp) (σ : L2.St) (x : V) (H : Hp) (N : L2.St → Hp → Prop) : Prop := te σ H fun y H1 => tip x y H1 fun z H2 => N (σ.set i (some z)) H2
theorem s_augV {D : Ends} {σ : L2.St} {H : Hp} {te : TE} {tip : TIp} {i : Nat} {x : V} (hx : σ[i]? = some (some x)) (h : te σ H fun y H1 => tip x y H1 fun z H2 => D.nx (σ.set i (some z)) H2) : tAug i te tip D σ H := ⟨x, hx, h⟩

/-! ### comprehensions over enumerate(list), over a list that is made -/
section
variable {K : PySem.W.Frag} {σ : L2.St} {H : Hp} {Q : VK} {g : TG} {tt : TT} {te ta : TE} {vs : List Nat} {tl : TA} {a : Addr} {xs : List V}
def lcT (J : It) (g : TG) (tt : TT) (te : TE) (vs : List Nat) (σ : L2.St) (Q : VK) (H1 : Hp) : Prop := ∀ E, H1 E = none → ∃ W : Nat → Nat → Hp → Prop, (∃ m, W 0 m (upd H1 E (.lst []))) ∧ ∀ i m H, W i m H →
    (J.stop i H ∧ Q (.ref E) H) ∨ (J.go i H ∧ ∃ Nx : Hp → Prop, (∀ H', Nx H' → ∃ m', m' < m ∧ W (i + 1) m' H') ∧ ∀ x H', J.yld i H x H' → g x (wipe σ vs) H' fun σ2 H2 => wipe σ2 vs = wipe σ vs ∧ tt σ2 H2 fun b H3 =>
      if b = true then te σ2 H3 fun y H4 => ∃ acc, H4 E = some (.lst acc) ∧ acc.length < sizeLine ∧ Nx (upd H4 E (.lst (acc ++ [y]))) else Nx H3)
def kLcE (K : PySem.W.Frag) (g : TG) (tt : TT) (te : TE) (vs : List Nat) (σ : L2.St) (Q : VK) (ys : List V) (H1 : Hp) : Prop := ∃ a xs, ys = [.ref a] ∧ SqL K H1 a xs ∧ lcT (Ite K a) g tt te vs σ Q H1
theorem e_lcE (h : tl σ H fun ys H1 => kLcE K g tt te vs σ Q ys H1) : tLc (iEnum K tl) g tt te vs σ H Q := h
theorem k_lcE (F : Nat → Option V) (hS : SqL K H a xs) (hz : xs.length < 100000)
    (hs : ∀ (E T : Addr) (i : Nat) (x : V) (H' : Hp) (R : VK) (N : Hp → Prop), H E = none → xs[i]? = some x → H' T = some (.tup [.int (i : Nat), x]) → H' E = some (.lst ((List.range i).filterMap F)) → Fp [] H H' → (∀ y H4, F i = some y → Fp [] H' H4 → R y H4) → (F i = none → ∀ H4, Fp [] H' H4 → N H4) →
      g (.ref T) (wipe σ vs) H' fun σ2 H2 => wipe σ2 vs = wipe σ vs ∧ tt σ2 H2 fun k H3 => if k = true then te σ2 H3 R else N H3)
    (q : ∀ E H', H E = none → H' E = some (.lst ((List.range xs.length).filterMap F)) → Fp [] H H' → Q (.ref E) H') : kLcE K g tt te vs σ Q [.ref a] H := by
  refine ⟨a, xs, rfl, hS, fun E hE => ?_⟩
  refine ⟨fun i m H' => m = xs.length - i ∧ i ≤ xs.length ∧ H' E = some (.lst ((List.range i).filterMap F)) ∧ Fp [] H H', ⟨_, rfl, Nat.zero_le _, upd_same, Fp.new hE⟩, ?_⟩
  rintro i m H' ⟨rfl, hi, e1, e2⟩
  have hq : SqL K H' a xs := e2.seq (by simp) hS
  by_cases hlt : i < xs.length
  · refine .inr ⟨⟨xs, xs[i], hq, List.getElem?_eq_getElem hlt⟩, fun H4 => H4 E = some (.lst ((List.range (i + 1)).filterMap F)) ∧ Fp [] H H4, fun H4 z => ⟨_, by omega, rfl, by omega, z.1, z.2⟩, ?_⟩
    rintro v H2 ⟨T, x, rfl, hT, rfl, hx⟩
    have hx2 := hx xs hq
    have fT : Fp [] H' (upd H' T (.tup [.int (i : Nat), x])) := Fp.new hT
    have f2 := e2.trans fT
    have E2 := fT _ _ e1 (by simp)
    exact hs E T i x _ (fun y H4 => ∃ acc, H4 E = some (.lst acc) ∧ acc.length < sizeLine ∧ (upd H4 E (.lst (acc ++ [y]))) E = some (.lst ((List.range (i + 1)).filterMap F)) ∧ Fp [] H (upd H4 E (.lst (acc ++ [y])))) (fun H4 => H4 E = some (.lst ((List.range (i + 1)).filterMap F)) ∧ Fp [] H H4) hE hx2 upd_same E2 f2
      (fun y H4 ey f4 => ⟨_, f4 _ _ E2 (by simp), szl (Nat.lt_of_le_of_lt (List.length_filterMap_le _ _) (by rw [List.length_range]; omega)), by rw [upd_same, fm_range, ey]; rfl, Fp.drop (fp := [E]) (((f2.trans f4).mono (by simp)).trans (Fp.at_ (by simp))) fun z hz => by rcases List.mem_singleton.mp hz with rfl; exact .inr hE⟩)
      (fun ey H4 f4 => ⟨by rw [fm_range, ey]; simpa using f4 _ _ E2 (by simp), f2.trans f4⟩)
  · have hi2 : i = xs.length := by omega
    subst hi2
    exact .inl ⟨⟨xs, hq, Nat.le_refl _⟩, q E H' hE e1 e2⟩
def kLcL (K : PySem.W.Frag) (g : TG) (tt : TT) (te : TE) (vs : List Nat) (σ : L2.St) (Q : VK) (x : V) (H : Hp) : Prop := (iList K fun _ _ R => R x H) σ H fun J H1 => lcT J g tt te vs σ Q H1
theorem e_lcL (h : ta σ H fun x H1 => kLcL K g tt te vs σ Q x H1) : tLc (iList K ta) g tt te vs σ H Q := h
theorem k_lcL (f : V → Option V) (hS : SqL K H a xs) (hz : xs.length < 100000)
    (hs : ∀ (E : Addr) (i : Nat) (x : V) (H' : Hp) (R : VK) (N : Hp → Prop), H E = none → xs[i]? = some x → H' E = some (.lst ((xs.take i).filterMap f)) → Fp [] H H' → (∀ y H4, f x = some y → Fp [] H' H4 → R y H4) → (f x = none → ∀ H4, Fp [] H' H4 → N H4) →
      g x (wipe σ vs) H' fun σ2 H2 => wipe σ2 vs = wipe σ vs ∧ tt σ2 H2 fun k H3 => if k = true then te σ2 H3 R else N H3)
    (q : ∀ E H', H E = none → H' E = some (.lst (xs.filterMap f)) → Fp [] H H' → Q (.ref E) H') : kLcL K g tt te vs σ Q (.ref a) H := by
  refine ⟨a, rfl, ⟨_, hS⟩, fun E hE => ?_⟩
  refine lc_list (K := K) (a := a) (xs := xs) (fun i H' => H' E = some (.lst ((xs.take i).filterMap f)) ∧ Fp [] H H') ⟨by rw [List.take_zero]; exact upd_same, Fp.new hE⟩ (fun i H' hi e => ?_) (fun i x H' hx e => ?_) fun H' e => ?_
  · exact e.2.seq (by simp) hS
  · have hi : i < xs.length := (List.getElem?_eq_some_iff.mp hx).1
    exact hs E i x H' (fun y H4 => ∃ acc, H4 E = some (.lst acc) ∧ acc.length < sizeLine ∧ (upd H4 E (.lst (acc ++ [y]))) E = some (.lst ((xs.take (i + 1)).filterMap f)) ∧ Fp [] H (upd H4 E (.lst (acc ++ [y])))) (fun H4 => H4 E = some (.lst ((xs.take (i + 1)).filterMap f)) ∧ Fp [] H H4) hE hx e.1 e.2
      (fun y H4 ey f4 => ⟨_, f4 _ _ e.1 (by simp), szl (Nat.lt_of_le_of_lt (List.length_filterMap_le _ _) (by rw [List.length_take]; omega)), by rw [upd_same, fm_snoc hx, ey]; rfl, Fp.drop (fp := [E]) (((e.2.trans f4).mono (by simp)).trans (Fp.at_ (by simp))) fun z hz => by rcases List.mem_singleton.mp hz with rfl; exact .inr hE⟩)
      (fun ey H4 f4 => ⟨by rw [fm_snoc hx, ey]; simpa using f4 _ _ e.1 (by simp), e.2.trans f4⟩)
  · rw [List.take_length] at e
    exact q E H' hE e.1 e.2
end
theorem cut_take {xs : List V} {n : Nat} : cutV xs none (some (n : Int)) = xs.take n := by
  unfold cutV
  rw [HT.sIx_nat, HT.sIx_none, List.drop_zero, Nat.sub_zero, List.take_eq_take_iff]
  omega
theorem cut_drop {xs : List V} {n : Nat} : cutV xs (some (n : Int)) none = xs.drop n := by
  unfold cutV
  rw [HT.sIx_nat, HT.sIx_none]
  by_cases h : n ≤ xs.length
  · rw [Nat.min_eq_left h, List.take_of_length_le (by rw [List.length_drop]; exact Nat.le_refl _)]
  · rw [Nat.min_eq_right (by omega), List.drop_of_length_le (Nat.le_refl _), List.drop_of_length_le (by omega), List.take_nil]
theorem c_ext {l b : Addr} {xs zs : List V} {H : Hp} {Q : VK} (h : H l = some (.lst xs)) (h' : H b = some (.lst zs)) (z : xs.length + zs.length ≤ 100000) (q : Q .non (upd H l (.lst (xs ++ zs)))) : rExtend (.ref l) [.ref b] H Q := ⟨l, b, xs, zs, rfl, rfl, h, h', sz z, q⟩
/-- [e for k in range(n)], e with its own doing -/
theorem k_lcS {σ : L2.St} {H : Hp} {Q : VK} {g : TG} {te : TE} {vs : List Nat} {n : Int} (J : Addr → Nat → List V → Hp → Prop) (h1 : 0 ≤ n) (h2 : n < 100000) (h0 : ∀ E, H E = none → J E 0 [] (upd H E (.lst [])))
    (hs : ∀ (E : Addr) (i : Nat) (acc : List V) (H' : Hp) (R : VK), H E = none → (i : Int) < n → acc.length = i → H' E = some (.lst acc) → J E i acc H' → (∀ y H4, H4 E = some (.lst acc) → J E (i + 1) (acc ++ [y]) (upd H4 E (.lst (acc ++ [y]))) → R y H4) →
      g (.int (i : Nat)) (wipe σ vs) H' fun σ2 H2 => wipe σ2 vs = wipe σ vs ∧ te σ2 H2 R)
    (q : ∀ E acc H', H E = none → acc.length = n.toNat → H' E = some (.lst acc) → J E n.toNat acc H' → Q (.ref E) H') : kLcR g te vs σ Q (.int n) H := by
  refine ⟨n, rfl, by omega, by omega, fun E hE => ?_⟩
  refine lc_range (lo := 0) (n := n.toNat) (fun i H' => ∃ acc, acc.length = i ∧ H' E = some (.lst acc) ∧ J E i acc H') ⟨[], rfl, upd_same, h0 E hE⟩ (fun i H' hi ⟨acc, ha, e, j⟩ => ?_) fun H' ⟨acc, ha, e, j⟩ => q E acc H' hE ha e j
  have e0 : (0 : Int) + (i : Int) = (i : Int) := Int.zero_add _
  rw [e0]
  exact hs E i acc H' (fun y H4 => ∃ acc, H4 E = some (.lst acc) ∧ acc.length < sizeLine ∧ ∃ acc2, acc2.length = i + 1 ∧ (upd H4 E (.lst (acc ++ [y]))) E = some (.lst acc2) ∧ J E (i + 1) acc2 (upd H4 E (.lst (acc ++ [y])))) hE (by omega) ha e j
    fun y H4 e4 j4 => ⟨acc, e4, szl (by omega), _, by rw [List.length_append, ha]; rfl, upd_same, j4⟩
theorem ints_of : ∀ {acc : List V}, (∀ y ∈ acc, ∃ z, y = V.int z) → ∃ ys : List Int, acc = ys.map V.int
  | [], _ => ⟨[], rfl⟩
  | y :: r, h => by
    obtain ⟨z, rfl⟩ := h y List.mem_cons_self
    obtain ⟨ys, rfl⟩ := ints_of fun x hx => h x (List.mem_cons_of_mem _ hx)
    exact ⟨z :: ys, rfl⟩
/-! ### what stands -/
def Inn (H : Hp) (L : List Addr) : Prop := ∀ y ∈ L, ∃ o, H y = some o
theorem Inn.nil {H : Hp} : Inn H [] := fun _ h => by cases h
theorem Inn.cons {H : Hp} {L : List Addr} {x : Addr} {o : HO} (h : H x = some o) (I : Inn H L) : Inn H (x :: L) := fun y hy => by
  rcases List.mem_cons.mp hy with rfl | hy
  · exact ⟨_, h⟩
  · exact I y hy
theorem Inn.app {H : Hp} {L M : List Addr} (I : Inn H L) (J : Inn H M) : Inn H (L ++ M) := fun y hy => (List.mem_append.mp hy).elim (I y) (J y)
theorem Inn.fresh {H : Hp} {L : List Addr} {x : Addr} (I : Inn H L) (h : H x = none) : x ∉ L := fun z => by
  obtain ⟨o, e⟩ := I x z
  rw [h] at e
  cases e
theorem Inn.ne {H : Hp} {L : List Addr} {x y : Addr} (I : Inn H L) (hy : y ∈ L) (h : H x = none) : x ≠ y := fun z => I.fresh h (z ▸ hy)
theorem Inn.fp {H H1 : Hp} {L : List Addr} (I : Inn H L) (f : Fp [] H H1) : Inn H1 L := fun y hy => by
  obtain ⟨o, e⟩ := I y hy
  exact ⟨o, f _ _ e (by simp)⟩
theorem Inn.mono {H : Hp} {L M : List Addr} (I : Inn H L) (h : ∀ x ∈ M, x ∈ L) : Inn H M := fun y hy => I y (h y hy)
theorem nd_new {L : List Addr} {x : Addr} (n : L.Nodup) (h : x ∉ L) : (x :: L).Nodup := List.nodup_cons.mpr ⟨h, n⟩
theorem nin_c {L : List Addr} {x y : Addr} (n : x ≠ y) (h : x ∉ L) : x ∉ y :: L := fun z => (List.mem_cons.mp z).elim n h
def kTru (K : PySem.W.Frag) (x : V) (H : Hp) (QT : Bool → Hp → Prop) : Prop := ∃ k, TruV K x H k ∧ QT k H
def tTr (K : PySem.W.Frag) (ta : TE) : TT := fun σ H Q => ta σ H fun x H' => kTru K x H' Q
theorem pt_tr {X : Cx} {a : Expr} {ta : TE} (ha : PE X a ta) (he : ∀ whole, isTrue a X.env whole = (do let v ← whole; standAt a.pos; holding [v] (truthy v))) : PT X a (tTr X.K ta) := pt_truth ha he
theorem t_tru {K : PySem.W.Frag} {σ : L2.St} {te : TE} {H : Hp} {QT : Bool → Hp → Prop} (h : te σ H fun x H1 => kTru K x H1 QT) : tTr K te σ H QT := h
theorem k_truL {K : PySem.W.Frag} {H : Hp} {QT : Bool → Hp → Prop} {p : Addr} {xs : List V} (h : SqL K H p xs) (q : QT (!xs.isEmpty) H) : kTru K (.ref p) H QT := ⟨_, Or.inl ⟨xs, h, rfl⟩, q⟩
/-- [e for k in range(n) if t], t and e with their own doing -/
theorem k_lcSF {σ : L2.St} {H : Hp} {Q : VK} {g : TG} {tt : TT} {te : TE} {vs : List Nat} {n : Int} (J : Addr → Nat → List V → Hp → Prop) (h1 : 0 ≤ n) (h2 : n < 100000) (h0 : ∀ E, H E = none → J E 0 [] (upd H E (.lst [])))
    (hs : ∀ (E : Addr) (i : Nat) (acc : List V) (H' : Hp) (R : VK) (N : Hp → Prop), H E = none → (i : Int) < n → acc.length ≤ i → H' E = some (.lst acc) → J E i acc H' → (∀ y H4, H4 E = some (.lst acc) → J E (i + 1) (acc ++ [y]) (upd H4 E (.lst (acc ++ [y]))) → R y H4) → (∀ H4, H4 E = some (.lst acc) → J E (i + 1) acc H4 → N H4) →
      g (.int (i : Nat)) (wipe σ vs) H' fun σ2 H2 => wipe σ2 vs = wipe σ vs ∧ tt σ2 H2 fun k H3 => if k = true then te σ2 H3 R else N H3)
    (q : ∀ E acc H', H E = none → acc.length ≤ n.toNat → H' E = some (.lst acc) → J E n.toNat acc H' → Q (.ref E) H') : kLcF g tt te vs σ Q (.int n) H := by
  refine ⟨n, rfl, by omega, by omega, fun E hE => ?_⟩
  refine lc_range (lo := 0) (n := n.toNat) (fun i H' => ∃ acc, acc.length ≤ i ∧ H' E = some (.lst acc) ∧ J E i acc H') ⟨[], Nat.le_refl _, upd_same, h0 E hE⟩ (fun i H' hi ⟨acc, ha, e, j⟩ => ?_) fun H' ⟨acc, ha, e, j⟩ => q E acc H' hE ha e j
  have e0 : (0 : Int) + (i : Int) = (i : Int) := Int.zero_add _
  rw [e0]
  exact hs E i acc H' (fun y H4 => ∃ acc, H4 E = some (.lst acc) ∧ acc.length < sizeLine ∧ ∃ acc2, acc2.length ≤ i + 1 ∧ (upd H4 E (.lst (acc ++ [y]))) E = some (.lst acc2) ∧ J E (i + 1) acc2 (upd H4 E (.lst (acc ++ [y])))) (fun H4 => ∃ acc2, acc2.length ≤ i + 1 ∧ H4 E = some (.lst acc2) ∧ J E (i + 1) acc2 H4) hE (by omega) ha e j
    (fun y H4 e4 j4 => ⟨acc, e4, szl (by omega), _, by rw [List.length_append]; simp; omega, upd_same, j4⟩) fun H4 e4 j4 => ⟨acc, by omega, e4, j4⟩
/-- for x in a list that an expression hands back -/
def kForL (K : PySem.W.Frag) (g : TG) (tb : TS) (D : Ends) (σ : L2.St) (x : V) (H1 : Hp) : Prop := (iList K fun _ _ R => R x H1) σ H1 fun J H1 => ∃ W : Nat → Nat → L2.St → Hp → Prop, (∃ m, W 0 m σ H1) ∧ ∀ i m σ H, W i m σ H →
  (J.stop i H ∧ D.nx σ H) ∨ (J.go i H ∧ ∃ N : L2.St → Hp → Prop, (∀ σ' H', N σ' H' → ∃ m', m' < m ∧ W (i + 1) m' σ' H') ∧ ∀ x H', J.yld i H x H' → g x σ H' fun σ2 H2 => tb { D with nx := N, ct := N, bk := D.nx } σ2 H2)
theorem f_lst {K : PySem.W.Frag} {g : TG} {tb : TS} {D : Ends} {σ : L2.St} {H : Hp} {te : TE} (h : te σ H fun x H1 => kForL K g tb D σ x H1) : tFor (iList K te) g tb D σ H := h
theorem k_forL {K : PySem.W.Frag} {g : TG} {tb : TS} {D : Ends} {σ : L2.St} {H : Hp} {p : Addr} {xs : List V} (Pv : Nat → L2.St → Hp → Prop) (hS : SqL K H p xs) (h0 : Pv 0 σ H) (hl : ∀ i σ' H', i ≤ xs.length → Pv i σ' H' → SqL K H' p xs)
    (hs : ∀ i x σ' H', xs[i]? = some x → Pv i σ' H' → g x σ' H' fun σ2 H2 => tb { D with nx := Pv (i + 1), ct := Pv (i + 1), bk := D.nx } σ2 H2) (hd : ∀ σ' H', Pv xs.length σ' H' → D.nx σ' H') : kForL K g tb D σ (.ref p) H :=
  ⟨p, rfl, ⟨xs, hS⟩, for_list Pv h0 hl hs hd⟩
theorem t_yes {σ : L2.St} {H : Hp} {QT : Bool → Hp → Prop} (h : QT true H) : tYes σ H QT := h
theorem ixN_last {n : Nat} (h : 0 < n) : ixN n (-1) = some (n - 1) := by
  unfold ixN
  rw [if_neg (by decide), if_pos (by omega)]
  congr 1
  omega
/-- xs[-1] = v -/
theorem c_setE {p : Addr} {xs : List V} {x v : V} {H : Hp} {R : Hp → Prop} (h : H p = some (.lst (xs ++ [x]))) (q : R (upd H p (.lst (xs ++ [v])))) : rSetL (.ref p) (.int (-1)) v H R := by
  refine ⟨p, xs ++ [x], -1, xs.length, rfl, rfl, h, by rw [ixN_last (by simp)]; simp, ?_⟩
  rw [List.set_append_right _ _ (Nat.le_refl _), Nat.sub_self]
  exact q
/-- [e for x in xs if t] by places, xs in a name -/
theorem lc_filtN {K : PySem.W.Frag} {σ : L2.St} {H : Hp} {Q : VK} {g : TG} {tt : TT} {te : TE} {vs : List Nat} {j : Nat} {b : Addr} {xs : List V} (F : Nat → Option V) (hv : σ[j]? = some (some (.ref b))) (hS : SqL K H b xs) (hz : xs.length < 100000)
    (hs : ∀ (E : Addr) (i : Nat) (x : V) (H' : Hp) (R : VK) (N : Hp → Prop), H E = none → xs[i]? = some x → H' E = some (.lst ((List.range i).filterMap F)) → Fp [] H H' → (∀ y H4, F i = some y → Fp [] H' H4 → R y H4) → (F i = none → ∀ H4, Fp [] H' H4 → N H4) →
      g x (wipe σ vs) H' fun σ2 H2 => wipe σ2 vs = wipe σ vs ∧ tt σ2 H2 fun k H3 => if k = true then te σ2 H3 R else N H3)
    (q : ∀ E H', H E = none → H' E = some (.lst ((List.range xs.length).filterMap F)) → Fp [] H H' → Q (.ref E) H') : tLc (iList K (tVar j)) g tt te vs σ H Q := by
  refine ⟨_, hv, b, rfl, ⟨_, hS⟩, fun E hE => ?_⟩
  refine lc_list (K := K) (a := b) (xs := xs) (fun i H' => H' E = some (.lst ((List.range i).filterMap F)) ∧ Fp [] H H') ⟨upd_same, Fp.new hE⟩ (fun i H' hi e => ?_) (fun i x H' hx e => ?_) fun H' e => q E H' hE e.1 e.2
  · exact e.2.seq (by simp) hS
  · have hi : i < xs.length := (List.getElem?_eq_some_iff.mp hx).1
    exact hs E i x H' (fun y H4 => ∃ acc, H4 E = some (.lst acc) ∧ acc.length < sizeLine ∧ (upd H4 E (.lst (acc ++ [y]))) E = some (.lst ((List.range (i + 1)).filterMap F)) ∧ Fp [] H (upd H4 E (.lst (acc ++ [y])))) (fun H4 => H4 E = some (.lst ((List.range (i + 1)).filterMap F)) ∧ Fp [] H H4) hE hx e.1 e.2
      (fun y H4 ey f4 => ⟨_, f4 _ _ e.1 (by simp), szl (Nat.lt_of_le_of_lt (List.length_filterMap_le _ _) (by rw [List.length_range]; omega)), by rw [upd_same, fm_range, ey]; rfl, Fp.drop (fp := [E]) (((e.2.trans f4).mono (by simp)).trans (Fp.at_ (by simp))) fun z hz => by rcases List.mem_singleton.mp hz with rfl; exact .inr hE⟩)
      (fun ey H4 f4 => ⟨by rw [fm_range, ey]; simpa using f4 _ _ e.1 (by simp), e.2.trans f4⟩)
theorem fm_len {F : Nat → Option V} {p : Nat → Bool} : ∀ {l : List Nat}, (∀ i ∈ l, (F i).isSome = p i) → (l.filterMap F).length = (l.filter p).length
  | [], _ => rfl
  | i :: r, h => by
    have h1 := h i List.mem_cons_self
    have ih := fm_len (F := F) (p := p) (l := r) fun x hx => h x (List.mem_cons_of_mem _ hx)
    cases e : F i with
    | none =>
      rw [e] at h1
      rw [List.filterMap_cons_none e, List.filter_cons_of_neg (by rw [← h1]; exact Bool.false_ne_true), ih]
    | some y =>
      rw [e] at h1
      rw [List.filterMap_cons_some e, List.filter_cons_of_pos h1.symm, List.length_cons, List.length_cons, ih]
/-! ### data in data -/
def LD (k : Nat) (d : PyData) : Prop := d.canLay0 = true ∧ d.depth ≤ k
theorem LD.int {k : Nat} (z : Int) : LD (k + 1) (.int z) := ⟨rfl, by simp [PyData.depth]⟩
theorem LD.bl {k : Nat} (b : Bool) : LD (k + 1) (.bool b) := ⟨rfl, by simp [PyData.depth]⟩
theorem LD.non {k : Nat} : LD (k + 1) .none := ⟨rfl, by simp [PyData.depth]⟩
theorem LD.str {k : Nat} {x : Str} (h : PyData.strOk x = true) : LD (k + 1) (.str x) := ⟨h, by simp [PyData.depth]⟩
theorem LD.all {k : Nat} : ∀ {ds : List PyData}, (∀ d ∈ ds, LD k d) → PyData.canLayAll0 ds = true ∧ PyData.depthAll ds ≤ k
  | [], _ => ⟨rfl, by simp [PyData.depthAll]⟩
  | d :: r, h => by
    obtain ⟨h1, h2⟩ := h d List.mem_cons_self
    obtain ⟨i1, i2⟩ := LD.all (ds := r) fun x hx => h x (List.mem_cons_of_mem _ hx)
    refine ⟨?_, ?_⟩
    · show (d.canLay0 && PyData.canLayAll0 r) = true
      rw [h1, i1]; rfl
    · simp only [PyData.depthAll]; omega
theorem LD.list {k : Nat} {ds : List PyData} (h : ∀ d ∈ ds, LD k d) : LD (k + 1) (.list ds) := by
  obtain ⟨h1, h2⟩ := LD.all h
  exact ⟨by simp only [PyData.canLay0]; exact h1, by simp only [PyData.depth]; omega⟩
theorem LD.tup {k : Nat} {ds : List PyData} (h : ∀ d ∈ ds, LD k d) : LD (k + 1) (.tuple ds) := by
  obtain ⟨h1, h2⟩ := LD.all h
  exact ⟨by simp only [PyData.canLay0]; exact h1, by simp only [PyData.depth]; omega⟩
theorem LD.sh {k : Nat} {d : PyData} (h : LD k d) (hk : k ≤ 64 := by decide) : SeqAt.shaped d = true := by
  show (d.canLay0 && decide (d.depth ≤ 64)) = true
  rw [h.1, decide_eq_true (Nat.le_trans h.2 hk)]; rfl
def dInts (ns : List Int) : PyData := .list (ns.map PyData.int)
theorem dp_ints {K : PySem.W.Frag} {H : Hp} : ∀ ns : List Int, DpAll K H (ns.map V.int) (ns.map PyData.int)
  | [] => .nil
  | n :: r => .cons (.int n) (dp_ints r)
theorem LD.ints {k : Nat} (ns : List Int) : LD (k + 2) (dInts ns) := LD.list fun d hd => by
  obtain ⟨n, _, rfl⟩ := List.mem_map.mp hd
  exact LD.int n
theorem g_unl {K : PySem.W.Frag} {H : Hp} {σ : L2.St} {n : Nat} {t : TGs} {R : L2.St → Hp → Prop} {a : Addr} {xs : List V} (h : SqL K H a xs) (hn : xs.length = n) (q : t xs σ H R) : gUnl K n t (.ref a) σ H R := ⟨a, xs, rfl, h, hn, q⟩
theorem c_clr {l : Addr} {xs : List V} {H : Hp} {Q : VK} (h : H l = some (.lst xs)) (q : Q .non (upd H l (.lst []))) : rClear (.ref l) [] H Q := ⟨l, xs, rfl, rfl, h, q⟩
/-- [e for x in xs], e with its own doing -/
theorem k_lcLS {K : PySem.W.Frag} {σ : L2.St} {H : Hp} {Q : VK} {g : TG} {te : TE} {vs : List Nat} {a : Addr} {xs : List V} (J : Addr → Nat → List V → Hp → Prop) (hS : SqL K H a xs) (hz : xs.length < 100000) (h0 : ∀ E, H E = none → J E 0 [] (upd H E (.lst [])))
    (hl : ∀ E i acc H', J E i acc H' → SqL K H' a xs)
    (hs : ∀ (E : Addr) (i : Nat) (x : V) (acc : List V) (H' : Hp) (R : VK), H E = none → xs[i]? = some x → acc.length = i → H' E = some (.lst acc) → J E i acc H' → (∀ y H4, H4 E = some (.lst acc) → J E (i + 1) (acc ++ [y]) (upd H4 E (.lst (acc ++ [y]))) → R y H4) →
      g x (wipe σ vs) H' fun σ2 H2 => wipe σ2 vs = wipe σ vs ∧ te σ2 H2 R)
    (q : ∀ E acc H', H E = none → acc.length = xs.length → H' E = some (.lst acc) → J E xs.length acc H' → Q (.ref E) H') : kLcL K g tYes te vs σ Q (.ref a) H := by
  refine ⟨a, rfl, ⟨_, hS⟩, fun E hE => ?_⟩
  refine lc_list (K := K) (a := a) (xs := xs) (fun i H' => ∃ acc, acc.length = i ∧ H' E = some (.lst acc) ∧ J E i acc H') ⟨[], rfl, upd_same, h0 E hE⟩ (fun i H' hi ⟨acc, _, _, j⟩ => hl E i acc H' j) (fun i x H' hx ⟨acc, ha, e, j⟩ => ?_) fun H' ⟨acc, ha, e, j⟩ => q E acc H' hE ha e j
  have hi : i < xs.length := (List.getElem?_eq_some_iff.mp hx).1
  exact hs E i x acc H' (fun y H4 => ∃ acc, H4 E = some (.lst acc) ∧ acc.length < sizeLine ∧ ∃ acc2, acc2.length = i + 1 ∧ (upd H4 E (.lst (acc ++ [y]))) E = some (.lst acc2) ∧ J E (i + 1) acc2 (upd H4 E (.lst (acc ++ [y])))) hE hx ha e j
    fun y H4 e4 j4 => ⟨acc, e4, szl (by omega), _, by rw [List.length_append, ha]; rfl, upd_same, j4⟩
end Rd
set_option Elab.async false
set_option maxRecDepth 100000
set_option maxHeartbeats 4000000
set_option linter.all false
set_option autoImplicit false
/-! A small separation logic over the heap of the hand layer. -/
namespace Sl
open PySem PySem.Spec PyProof.Rows L2 Sx Rd
/-- what never changes -/
def Imm : HO → Prop
  | .tup _ => True | .frz _ _ => True | .rng _ _ => True | .xd _ => True | .met _ _ => True
  | _ => False
def Agree (S : Addr → Prop) (H H' : Hp) : Prop := (∀ a, S a → H' a = H a) ∧ ∀ a o, H a = some o → Imm o → H' a = some o
structure As where
  at_ : Hp → (Addr → Prop) → Prop
  loc : ∀ {H H' : Hp} {S : Addr → Prop}, at_ H S → Agree S H H' → at_ H' S
  dom : ∀ {H : Hp} {S : Addr → Prop}, at_ H S → ∀ a, S a → H a ≠ none
def emp : As := ⟨fun _ S => ∀ a, ¬ S a, fun h _ => h, fun h a s => absurd s (h a)⟩
def cell (a : Addr) (o : HO) : As := ⟨fun H S => (∀ b, S b ↔ b = a) ∧ H a = some o, fun h g => ⟨h.1, by rw [g.1 a ((h.1 a).mpr rfl)]; exact h.2⟩, fun h b s => by
  rw [(h.1 b).mp s, h.2]; simp⟩
def icell (a : Addr) (o : HO) : As := ⟨fun H S => (∀ b, ¬ S b) ∧ H a = some o ∧ Imm o, fun h g => ⟨h.1, g.2 _ _ h.2.1 h.2.2, h.2.2⟩, fun h b s => absurd s (h.1 b)⟩
abbrev tcell (a : Addr) (xs : List V) : As := icell a (.tup xs)
def pur (φ : Prop) : As := ⟨fun _ S => (∀ a, ¬ S a) ∧ φ, fun h _ => h, fun h a s => absurd s (h.1 a)⟩
def ex {α : Type} (P : α → As) : As := ⟨fun H S => ∃ x, (P x).at_ H S, fun ⟨x, h⟩ g => ⟨x, (P x).loc h g⟩, fun ⟨x, h⟩ => (P x).dom h⟩
def star (P Q : As) : As := ⟨fun H S => ∃ S1 S2 : Addr → Prop, (∀ a, S a ↔ S1 a ∨ S2 a) ∧ (∀ a, S1 a → ¬ S2 a) ∧ P.at_ H S1 ∧ Q.at_ H S2,
  fun ⟨S1, S2, e, d, h1, h2⟩ g => ⟨S1, S2, e, d, P.loc h1 ⟨fun a s => g.1 a ((e a).mpr (.inl s)), g.2⟩, Q.loc h2 ⟨fun a s => g.1 a ((e a).mpr (.inr s)), g.2⟩⟩,
  fun ⟨S1, S2, e, d, h1, h2⟩ a s => by
    rcases (e a).mp s with s | s
    · exact P.dom h1 a s
    · exact Q.dom h2 a s⟩
/-- many, apart from each other -/
def all : List As → As
  | [] => emp
  | P :: L => star P (all L)
def St (L : List As) (H : Hp) : Prop := ∃ S, (all L).at_ H S
/-- what entails what, for the same cells or fewer -/
def Ent (L M : List As) : Prop := ∀ H S, (all L).at_ H S → ∃ S', (∀ a, S' a → S a) ∧ (all M).at_ H S'
theorem Ent.refl (L : List As) : Ent L L := fun _ S h => ⟨S, fun _ s => s, h⟩
theorem Ent.trans {L M N : List As} (a : Ent L M) (b : Ent M N) : Ent L N := fun H S h => by
  obtain ⟨S1, i1, h1⟩ := a H S h
  obtain ⟨S2, i2, h2⟩ := b H S1 h1
  exact ⟨S2, fun x s => i1 x (i2 x s), h2⟩
theorem Ent.cons {P : As} {L M : List As} (a : Ent L M) : Ent (P :: L) (P :: M) := fun H S ⟨S1, S2, e, d, h1, h2⟩ => by
  obtain ⟨S3, i3, h3⟩ := a H S2 h2
  exact ⟨fun x => S1 x ∨ S3 x, fun x s => (e x).mpr (s.imp id (i3 x)), S1, S3, fun _ => Iff.rfl, fun x s t => d x s (i3 x t), h1, h3⟩
theorem Ent.swap {P Q : As} {L : List As} : Ent (P :: Q :: L) (Q :: P :: L) := fun H S ⟨S1, S2, e, d, h1, S3, S4, e2, d2, h3, h4⟩ =>
  ⟨S, fun _ s => s, S3, fun x => S1 x ∨ S4 x, fun x => by rw [e x, e2 x]; exact ⟨fun h => by rcases h with h | h | h <;> simp [h], fun h => by rcases h with h | h | h <;> simp [h]⟩,
    fun x s t => by
      rcases t with t | t
      · exact d x t ((e2 x).mpr (.inl s))
      · exact d2 x s t, h3, S1, S4, fun _ => Iff.rfl, fun x s t => d x s ((e2 x).mpr (.inr t)), h1, h4⟩
theorem Ent.drop {P : As} {L : List As} : Ent (P :: L) L := fun H S ⟨S1, S2, e, d, h1, h2⟩ => ⟨S2, fun x s => (e x).mpr (.inr s), h2⟩
theorem Ent.st {L M : List As} {H : Hp} (a : Ent L M) (h : St L H) : St M H := let ⟨S, h⟩ := h; let ⟨S', _, h'⟩ := a H S h; ⟨S', h'⟩
theorem Ent.app {L M : List As} (a : Ent L M) : ∀ R : List As, Ent (R ++ L) (R ++ M)
  | [] => a
  | _ :: R => (a.app R).cons
/-- P stands in L, R is the rest -/
inductive Sel (P : As) : List As → List As → Prop
  | here {R : List As} : Sel P (P :: R) R
  | there {Q : As} {L R : List As} : Sel P L R → Sel P (Q :: L) (Q :: R)
theorem Sel.ent {P : As} {L R : List As} (s : Sel P L R) : Ent L (P :: R) := by
  induction s with
  | here => exact Ent.refl _
  | there s ih => exact (Ent.cons ih).trans Ent.swap
theorem Sel.ent' {P : As} {L R : List As} (s : Sel P L R) : Ent (P :: R) L := by
  induction s with
  | here => exact Ent.refl _
  | there s ih => exact Ent.swap.trans (Ent.cons ih)
inductive Sels : List As → List As → List As → Prop
  | nil {L : List As} : Sels [] L L
  | cons {P : As} {Ps L M R : List As} : Sel P L M → Sels Ps M R → Sels (P :: Ps) L R
theorem Sels.all : ∀ L : List As, Sels L L []
  | [] => .nil
  | _ :: L => .cons .here (Sels.all L)
theorem Sels.skip {Q : As} {Ps L R : List As} (s : Sels Ps L R) : Sels Ps (Q :: L) (Q :: R) := by
  induction s with
  | nil => exact .nil
  | cons a _ ih => exact .cons (.there a) ih
theorem Sels.ent {Ps L R : List As} (s : Sels Ps L R) : Ent L (Ps ++ R) := by
  induction s with
  | nil => exact Ent.refl _
  | cons a _ ih => exact a.ent.trans ih.cons
theorem Sels.ent' {Ps L R : List As} (s : Sels Ps L R) : Ent (Ps ++ R) L := by
  induction s with
  | nil => exact Ent.refl _
  | cons a _ ih => exact ih.cons.trans a.ent'
section
variable {L M R : List As} {H : Hp} {a p : Addr} {o o' : HO} {P Q : As} {φ : Prop} {xs : List V}
theorem St.sel (h : St L H) (s : Sel P L R) : St (P :: R) H := s.ent.st h
theorem St.sels {Ps : List As} (h : St L H) (s : Sels Ps L R) : St (Ps ++ R) H := s.ent.st h
theorem St.get0 (h : St (cell a o :: R) H) : H a = some o := by
  obtain ⟨S, S1, S2, e, d, h1, h2⟩ := h
  exact h1.2
theorem St.get (h : St L H) (s : Sel (cell a o) L R) : H a = some o := (h.sel s).get0
theorem St.geti (h : St L H) (s : Sel (icell a o) L R) : H a = some o := by
  obtain ⟨S, S1, S2, e, d, h1, h2⟩ := h.sel s
  exact h1.2.1
theorem St.upd0 (h : St (cell a o :: R) H) (i : ¬ Imm o) : St (cell a o' :: R) (upd H a o') := by
  obtain ⟨S, S1, S2, e, d, ⟨h0, h1⟩, h2⟩ := h
  refine ⟨S, S1, S2, e, d, ⟨h0, upd_same⟩, (all R).loc h2 ⟨fun b s => upd_ne fun z => ?_, fun b u g j => ?_⟩⟩
  · exact d a ((h0 a).mpr rfl) (z ▸ s)
  · rw [upd_ne fun z => ?_, g]
    subst z
    rw [h1] at g
    cases g
    exact i j
theorem St.upd (h : St L H) (s : Sel (cell a o) L R) (i : ¬ Imm o) : St (cell a o' :: R) (upd H a o') := (h.sel s).upd0 i
theorem St.agree_new (n : H p = none) {S : Addr → Prop} (dm : ∀ b, S b → H b ≠ none) : Agree S H (L2.upd H p o) := ⟨fun b s => upd_ne fun z => dm b s (z ▸ n), fun b u g _ => by rw [upd_ne fun z => ?_, g]; subst z; rw [n] at g; cases g⟩
theorem St.new (h : St L H) (n : H p = none) : St (cell p o :: L) (L2.upd H p o) := by
  obtain ⟨S, h⟩ := h
  have dm := (all L).dom h
  refine ⟨fun b => b = p ∨ S b, fun b => b = p, S, fun _ => Iff.rfl, fun b z s => dm b s (z ▸ n), ⟨fun _ => Iff.rfl, upd_same⟩, (all L).loc h (St.agree_new n dm)⟩
theorem St.newi (h : St L H) (n : H p = none) (i : Imm o) : St (icell p o :: L) (L2.upd H p o) := by
  obtain ⟨S, h⟩ := h
  have dm := (all L).dom h
  exact ⟨S, fun _ => False, S, fun _ => ⟨.inr, fun z => z.elim (fun f => f.elim) id⟩, fun _ f => f.elim, ⟨fun _ f => f, upd_same, i⟩, (all L).loc h (St.agree_new n dm)⟩
theorem St.keep (h : St L H) (n : H p = none) : St L (L2.upd H p o) := by
  obtain ⟨S, h⟩ := h
  exact ⟨S, (all L).loc h (St.agree_new n ((all L).dom h))⟩
theorem St.cons0 {L : List As} (h : St (P :: L) H) : St L H := Ent.drop.st h
theorem St.drop (h : St L H) (s : Sel P L R) : St R H := (h.sel s).cons0
theorem St.dup (h : St L H) (s : Sel (icell a o) L R) : St (icell a o :: L) H := by
  obtain ⟨S, S1, S2, e, d, h1, h2⟩ := h.sel s
  obtain ⟨S0, h0⟩ := h
  exact ⟨S0, S1, S0, fun b => ⟨.inr, fun z => z.elim (fun f => absurd f (h1.1 b)) id⟩, fun b f => absurd f (h1.1 b), h1, h0⟩
theorem ent_ex {α : Type} {P : α → As} (x : α) : Ent (P x :: R) (ex P :: R) := fun H S ⟨S1, S2, e, d, h1, h2⟩ => ⟨S, fun _ s => s, S1, S2, e, d, ⟨x, h1⟩, h2⟩
theorem St.exU {α : Type} {P : α → As} (h : St (ex P :: R) H) : ∃ x, St (P x :: R) H := by
  obtain ⟨S, S1, S2, e, d, ⟨x, h1⟩, h2⟩ := h
  exact ⟨x, S, S1, S2, e, d, h1, h2⟩
theorem St.exI {α : Type} {P : α → As} (x : α) (h : St (P x :: R) H) : St (ex P :: R) H := (ent_ex x).st h
theorem St.purU (h : St (pur φ :: R) H) : φ ∧ St R H := by
  refine ⟨?_, h.cons0⟩
  obtain ⟨S, S1, S2, e, d, ⟨_, f⟩, h2⟩ := h
  exact f
theorem St.purI (f : φ) (h : St R H) : St (pur φ :: R) H := by
  obtain ⟨S, h⟩ := h
  exact ⟨S, fun _ => False, S, fun _ => ⟨.inr, fun z => z.elim (fun f => f.elim) id⟩, fun _ f => f.elim, ⟨fun _ f => f, f⟩, h⟩
theorem star_assoc1 {P Q T : As} {H : Hp} {S : Addr → Prop} (h : (star (star P Q) T).at_ H S) : (star P (star Q T)).at_ H S := by
  obtain ⟨S1, S2, e, d, ⟨S3, S4, e2, d2, h3, h4⟩, h2⟩ := h
  refine ⟨S3, fun x => S4 x ∨ S2 x, fun x => by rw [e x, e2 x]; exact or_assoc, fun x s t => ?_, h3, S4, S2, fun _ => Iff.rfl, fun x s t => d x ((e2 x).mpr (.inr s)) t, h4, h2⟩
  rcases t with t | t
  · exact d2 x s t
  · exact d x ((e2 x).mpr (.inl s)) t
theorem star_assoc2 {P Q T : As} {H : Hp} {S : Addr → Prop} (h : (star P (star Q T)).at_ H S) : (star (star P Q) T).at_ H S := by
  obtain ⟨S1, S2, e, d, h1, S3, S4, e2, d2, h3, h4⟩ := h
  refine ⟨fun x => S1 x ∨ S3 x, S4, fun x => by rw [e x, e2 x]; exact or_assoc.symm, fun x s t => ?_, ⟨S1, S3, fun _ => Iff.rfl, fun x s t => d x s ((e2 x).mpr (.inl t)), h1, h3⟩, h4⟩
  rcases s with s | s
  · exact d x s ((e2 x).mpr (.inr t))
  · exact d2 x s t
theorem ent_allU : ∀ (L R : List As), Ent (all L :: R) (L ++ R)
  | [], R => Ent.drop
  | P :: L, R => fun H S h => by
    have h' := star_assoc1 h
    exact (Ent.cons (ent_allU L R)) H S h'
theorem ent_allI : ∀ (L R : List As), Ent (L ++ R) (all L :: R)
  | [], R => fun H S h => ⟨S, fun _ s => s, fun _ => False, S, fun _ => ⟨.inr, fun z => z.elim (fun f => f.elim) id⟩, fun _ f => f.elim, fun _ f => f, h⟩
  | P :: L, R => fun H S h => by
    obtain ⟨S', i, h'⟩ := (Ent.cons (ent_allI L R)) H S h
    exact ⟨S', i, star_assoc2 h'⟩
theorem St.allU (h : St (all L :: R) H) : St (L ++ R) H := (ent_allU L R).st h
theorem St.allI (h : St (L ++ R) H) : St (all L :: R) H := (ent_allI L R).st h
/-- a new thing in a question -/
theorem nw {Rk : V → Hp → Prop} (h : St L H) (q : ∀ p H', St (cell p o :: L) H' → Rk (.ref p) H') : ∀ p, H p = none → Rk (.ref p) (L2.upd H p o) := fun p n => q p _ (h.new n)
theorem nwT {Rk : V → Hp → Prop} (h : St L H) (q : ∀ p H', St (tcell p xs :: L) H' → Rk (.ref p) H') : ∀ p, H p = none → Rk (.ref p) (L2.upd H p (.tup xs)) := fun p n => q p _ (h.newi n trivial)
theorem wr {Rk : Hp → Prop} (h : St L H) (s : Sel (cell a o) L R) (i : ¬ Imm o) (q : ∀ H', St (cell a o' :: R) H' → Rk H') : Rk (L2.upd H a o') := q _ (h.upd s i)
end
/-! ### promises over footprints, framed -/
/-- an assertion from a predicate with a list of cells -/
def fpa (P : Hp → List Addr → Prop) (l : ∀ (H H' : Hp) (A : List Addr), P H A → Agree (fun a => a ∈ A) H H' → P H' A) (d : ∀ (H : Hp) (A : List Addr), P H A → ∀ a, a ∈ A → H a ≠ none) : As :=
  ⟨fun H S => ∃ A : List Addr, (∀ a, S a ↔ a ∈ A) ∧ P H A, fun ⟨A, e, h⟩ g => ⟨A, e, l _ _ _ h ⟨fun a s => g.1 a ((e a).mpr s), g.2⟩⟩, fun ⟨A, e, h⟩ a s => d _ _ h a ((e a).mp s)⟩
theorem Agree.of_fp {A : List Addr} {S : Addr → Prop} {H H' : Hp} (f : Fp A H H') (im : ∀ a ∈ A, ∀ o, H a = some o → ¬ Imm o) (dm : ∀ b, S b → H b ≠ none) (dj : ∀ b, S b → b ∉ A) : Agree S H H' :=
  ⟨fun b s => by
    cases e : H b with
    | none => exact absurd e (dm b s)
    | some o => exact f b o e (dj b s), fun b o e i => f b o e fun m => im b m o e i⟩
end Sl
namespace Sl
open PySem PySem.Spec PyProof.Rows L2 Sx Rd
/-! ### steps -/
section
variable {K : PySem.W.Frag} {D : Ends} {σ : L2.St} {L R : List As} {H : Hp} {Q : VK} {Rk : Hp → Prop} {a b l p C dx : Addr} {f : Str} {fs fs' : List (Str × V)} {v x y : V} {xs ys : List V} {tl : TA} {te ta tb tv td ty : TE} {i j : Nat} {n : Int}
theorem k_setS (hs : St L H) (s : Sel (cell a (.ins C dx fs)) L R) (c : Cls K C) (n : NoAttr K C f) (hp : putF f y fs = fs') (l : fs.length < 1000) (q : ∀ H', St (cell a (.ins C dx fs') :: R) H' → Rk H') : kSet K f y (.ref a) H Rk :=
  k_set (hs.get s) c n hp l (q _ (hs.upd s id))
def kAug (K : PySem.W.Frag) (tv : TE) (rd : V → V → Hp → VK → Prop) (f : Str) (σ : L2.St) (x : V) (H1 : Hp) (R : Hp → Prop) : Prop := ∃ a C dx fs v, x = .ref a ∧ H1 a = some (.ins C dx fs) ∧ Cls K C ∧ NoAttr K C f ∧ fs.lookup f = some v ∧
  tv σ H1 fun y H2 => rd v y H2 fun z H3 => ∃ dx' fs', H3 a = some (.ins C dx' fs') ∧ fs'.length < 1000 ∧ R (upd H3 a (.ins C dx' (putF f z fs')))
theorem s_aug {rd : V → V → Hp → VK → Prop} (h : ta σ H fun x H1 => kAug K tv rd f σ x H1 (D.nx σ)) : sFldAug K ta tv rd f D σ H := h
/-- self.f += e, e an int that touches nothing -/
theorem k_augA {m : Int} (hs : St L H) (s : Sel (cell a (.ins C dx fs)) L R) (c : Cls K C) (na : NoAttr K C f) (lk : fs.lookup f = some (.int m)) (hp : putF f (.int (m + n)) fs = fs') (l : fs.length < 1000)
    (ht : ∀ Q' : VK, Q' (.int n) H → tv σ H Q') (q : ∀ H', St (cell a (.ins C dx fs') :: R) H' → Rk H') : kAug K tv rAdd f σ (.ref a) H Rk :=
  ⟨a, C, dx, fs, _, rfl, hs.get s, c, na, lk, ht _ ⟨m, n, rfl, rfl, dx, fs, hs.get s, l, by rw [hp]; exact q _ (hs.upd s id)⟩⟩
theorem c_appS (hs : St L H) (s : Sel (cell l (.lst xs)) L R) (z : xs.length < 100000) (q : ∀ H', St (cell l (.lst (xs ++ [v])) :: R) H' → Q .non H') : rAppend (.ref l) [v] H Q := c_app (hs.get s) (szl z) (q _ (hs.upd s id))
theorem c_pop0S (hs : St L H) (s : Sel (cell l (.lst (x :: xs))) L R) (z : xs.length < 100000) (q : ∀ H', St (cell l (.lst xs) :: R) H' → Q x H') : rPopAt (.ref l) [.int 0] H Q := c_pop0 (hs.get s) z (q _ (hs.upd s id))
theorem c_popS (hs : St L H) (s : Sel (cell l (.lst (xs ++ [x]))) L R) (q : ∀ H', St (cell l (.lst xs) :: R) H' → Q x H') : rPop (.ref l) [] H Q :=
  ⟨l, _, x, rfl, rfl, hs.get s, by simp, by rw [List.dropLast_concat]; exact q _ (hs.upd s id)⟩
theorem c_extS (hs : St L H) (s : Sel (cell l (.lst xs)) L R) (h : H b = some (.lst ys)) (z : xs.length + ys.length ≤ 100000) (q : ∀ H', St (cell l (.lst (xs ++ ys)) :: R) H' → Q .non H') : rExtend (.ref l) [.ref b] H Q :=
  ⟨l, b, xs, ys, rfl, rfl, hs.get s, h, sz z, q _ (hs.upd s id)⟩
theorem c_clrS (hs : St L H) (s : Sel (cell l (.lst xs)) L R) (q : ∀ H', St (cell l (.lst []) :: R) H' → Q .non H') : rClear (.ref l) [] H Q := ⟨l, xs, rfl, rfl, hs.get s, q _ (hs.upd s id)⟩
theorem c_setLS (hs : St L H) (s : Sel (cell l (.lst xs)) L R) (e : n = (j : Int)) (hj : j < xs.length) (q : ∀ H', St (cell l (.lst (xs.set j v)) :: R) H' → Rk H') : rSetL (.ref l) (.int n) v H Rk := c_setL (hs.get s) e hj (q _ (hs.upd s id))
def kNewL (xs : List V) (H : Hp) (Q : VK) : Prop := xs.length ≤ sizeLine ∧ ∀ p, H p = none → Q (.ref p) (upd H p (.lst xs))
theorem e_lstS (h : tl σ H fun xs H1 => kNewL xs H1 Q) : tLst tl σ H Q := h
theorem k_newL (hs : St L H) (z : xs.length ≤ 100000) (q : ∀ p H', St (cell p (.lst xs) :: L) H' → Q (.ref p) H') : kNewL xs H Q := ⟨sz z, fun p n => q p _ (hs.new n)⟩
def kNewT (xs : List V) (H : Hp) (Q : VK) : Prop := xs.length ≤ sizeLine ∧ ∀ p, H p = none → Q (.ref p) (upd H p (.tup xs))
theorem e_tupS (h : tl σ H fun xs H1 => kNewT xs H1 Q) : tTup tl σ H Q := h
theorem k_newT (hs : St L H) (z : xs.length ≤ 100000) (q : ∀ p H', St (tcell p xs :: L) H' → Q (.ref p) H') : kNewT xs H Q := ⟨sz z, fun p n => q p _ (hs.newi n trivial)⟩
theorem o_catS {zs : List V} (hs : St L H) (h : H l = some (.lst xs)) (h' : H b = some (.lst zs)) (z : xs.length + zs.length ≤ 100000) (q : ∀ p H', St (cell p (.lst (xs ++ zs)) :: L) H' → Q (.ref p) H') : rCat (.ref l) (.ref b) H Q := o_cat h h' (sz z) fun p n => q p _ (hs.new n)
theorem o_catAS {zs : List V} (hs : St L H) (h : SqT K H l xs) (h' : SqT K H b zs) (z : xs.length + zs.length ≤ 100000) (n1 : xs ≠ []) (n2 : zs ≠ []) (q : ∀ p H', St (tcell p (xs ++ zs) :: L) H' → Q (.ref p) H') : rCatA K (.ref l) (.ref b) H Q :=
  ⟨l, b, xs, zs, rfl, rfl, h, h', sz z, fun e => absurd e n1, fun _ e => absurd e n2, fun _ _ p n => q p _ (hs.newi n trivial)⟩
theorem o_slLS {lo hi : Option Int} (hs : St L H) (h : SqL K H a xs) (q : ∀ p H', St (cell p (.lst (cutV xs lo hi)) :: L) H' → Q (.ref p) H') : rSlL K (.ref a) lo hi H Q := o_slL h fun p n => q p _ (hs.new n)
theorem o_repS {Kx : PySem.W.Frag} (hs : St L H) (h : H l = some (.lst [v])) (h1 : 0 ≤ n) (h2 : n ≤ 100000) (q : ∀ p H', St (cell p (.lst (List.replicate n.toNat v)) :: L) H' → Q (.ref p) H') : rRep (.ref l) (.int n) H Q :=
  Rd.o_rep (K := Kx) h h1 (by simp; omega) (by omega) fun p n' => by
    have e : ∀ k : Nat, (List.replicate k [v]).flatten = List.replicate k v := fun k => by
      induction k with
      | zero => rfl
      | succ k ih => rw [List.replicate_succ, List.flatten_cons, ih]; rfl
    rw [e]; exact q p _ (hs.new n')
theorem c_lsS (hs : St L H) (h : SqL K H p ys) (q : ∀ l H', St (cell l (.lst ys) :: L) H' → Q (.ref l) H') : rLs K [.ref p] H Q := c_ls h fun l n => q l _ (hs.new n)
def kMake (C : Addr) (sp : Sp) (E : XK) (vs : List V) (H1 : Hp) (Q : VK) : Prop := ∀ x dx, H1 x = none → H1 dx = none → dx ≠ x → sp (.ref x :: vs) (upd (upd H1 dx (.own x)) x (.ins C dx [])) (fun v H2 => v = .non ∧ Q (.ref x) H2) E
theorem e_makeS {sp : Sp} {ES : L2.St → XK} (h : tl σ H fun vs H1 => kMake C sp (ES σ) vs H1 Q) : tMakeS C sp ES tl σ H Q := h
theorem k_make {sp : Sp} {E : XK} {vs : List V} (hs : St L H) (q : ∀ x dx H', St (cell x (.ins C dx []) :: L) H' → sp (.ref x :: vs) H' (fun v H2 => v = .non ∧ Q (.ref x) H2) E) : kMake C sp E vs H Q := fun x dx n1 n2 ne =>
  q x dx _ ((hs.keep n2).new (by rw [upd_ne ne.symm]; exact n1))
def kMakeK (C : Addr) (m : Nat) (sp : Sp) (gV : List V → List V → List V) (E : XK) (zs : List V) (H2 : Hp) (Q : VK) : Prop := zs.length = m ∧ ∀ x dx, H2 x = none → H2 dx = none → dx ≠ x →
  sp (gV [.ref x] zs) (upd (upd H2 dx (.own x)) x (.ins C dx [])) (fun v H3 => v = .non ∧ Q (.ref x) H3) E
theorem e_makeKS {m : Nat} {sp : Sp} {gV : List V → List V → List V} {ES : L2.St → XK} (h : tl σ H fun zs H2 => kMakeK C m sp gV (ES σ) zs H2 Q) : tMakeKS C m sp gV ES tl σ H Q := h
theorem k_makeK {m : Nat} {sp : Sp} {gV : List V → List V → List V} {E : XK} {zs : List V} (hs : St L H) (hm : zs.length = m) (q : ∀ x dx H', St (cell x (.ins C dx []) :: L) H' → sp (gV [.ref x] zs) H' (fun v H2 => v = .non ∧ Q (.ref x) H2) E) : kMakeK C m sp gV E zs H Q :=
  ⟨hm, fun x dx n1 n2 ne => q x dx _ ((hs.keep n2).new (by rw [upd_ne ne.symm]; exact n1))⟩
def kNewD (H : Hp) (Q : VK) : Prop := ∀ p, H p = none → Q (.ref p) (upd H p (.dK []))
theorem e_dnew (h : kNewD H Q) : tDNewK σ H Q := h
theorem k_newD (hs : St L H) (q : ∀ p H', St (cell p (.dK []) :: L) H' → Q (.ref p) H') : kNewD H Q := fun p n => q p _ (hs.new n)
theorem k_dputS {kvs kvs' : List (Key × V)} {s : Str} (hs : St L H) (se : Sel (cell a (.dK kvs)) L R) (hl : kvs.length < 100000) (e : putK kvs (Sum.inr s) v = kvs') (q : ∀ H', St (cell a (.dK kvs') :: R) H' → Rk H') : kDPut v (.ref a) (.str s) H Rk :=
  k_dput (hs.get se) hl (by rw [e]; exact q _ (hs.upd se id))
def kRaise (W : WX) (C : Addr) (fld : Str) (σ : L2.St) (v : V) (H1 : Hp) : Prop := okV v ∧ ∀ d, H1 d = none → W (.ref C) (some d) σ (upd H1 d (.xd [(fld, v)]))
theorem s_raiseS {W : WX} {fld : Str} (h : te σ H fun v H1 => kRaise W C fld σ v H1) : tRaiseE W C fld te D σ H := h
theorem k_raise {W : WX} {fld : Str} (hs : St L H) (o : okV v) (q : ∀ d H', St (icell d (.xd [(fld, v)]) :: L) H' → W (.ref C) (some d) σ H') : kRaise W C fld σ v H := ⟨o, fun d n => q d _ (hs.newi n trivial)⟩
/-! ### persistent facts -/
def per (φ : Hp → Prop) (m : ∀ (H H' : Hp), φ H → (∀ a o, H a = some o → Imm o → H' a = some o) → φ H') : As := ⟨fun H S => (∀ a, ¬ S a) ∧ φ H, fun h g => ⟨h.1, m _ _ h.2 g.2⟩, fun h a s => absurd s (h.1 a)⟩
theorem St.perU {φ : Hp → Prop} {m : ∀ (H H' : Hp), φ H → (∀ a o, H a = some o → Imm o → H' a = some o) → φ H'} (h : St L H) (s : Sel (per φ m) L R) : φ H := by
  obtain ⟨S, S1, S2, e, d, h1, h2⟩ := h.sel s
  exact h1.2
theorem St.perI {φ : Hp → Prop} {m : ∀ (H H' : Hp), φ H → (∀ a o, H a = some o → Imm o → H' a = some o) → φ H'} (h : St L H) (f : φ H) : St (per φ m :: L) H := by
  obtain ⟨S, h⟩ := h
  exact ⟨S, fun _ => False, S, fun _ => ⟨.inr, fun z => z.elim (fun f => f.elim) id⟩, fun _ f => f.elim, ⟨fun _ f => f, f⟩, h⟩
theorem St.perD {φ : Hp → Prop} {m : ∀ (H H' : Hp), φ H → (∀ a o, H a = some o → Imm o → H' a = some o) → φ H'} (h : St L H) (s : Sel (per φ m) L R) : St (per φ m :: L) H := h.perI (h.perU s)
end
end Sl
namespace Sl
open PySem PySem.Spec PyProof.Rows L2 Sx Rd
section
variable {L R : List As} {H H1 : Hp} {Q0 : As} {A A' ft : List Addr} {P P' : Hp → List Addr → Prop}
/-- from a promise over footprints to assertions -/
theorem step_gen {l' : ∀ (H H' : Hp) (A : List Addr), P' H A → Agree (fun a => a ∈ A) H H' → P' H' A} {d' : ∀ (H : Hp) (A : List Addr), P' H A → ∀ a, a ∈ A → H a ≠ none}
    (h : St (Q0 :: R) H) (hA : ∀ S, Q0.at_ H S → ∀ x ∈ A, S x) (f : Fp ft H H1) (hf : ∀ x ∈ ft, (x ∈ A ∨ H x = none) ∧ ∀ o, H x = some o → ¬ Imm o) (p : P' H1 A') (hA' : ∀ x ∈ A', x ∈ A ∨ H x = none) : St (fpa P' l' d' :: R) H1 := by
  obtain ⟨S, S1, S2, e, d, h1, h2⟩ := h
  have dm := (all R).dom h2
  have hS := hA S1 h1
  refine ⟨fun x => x ∈ A' ∨ S2 x, fun x => x ∈ A', S2, fun _ => Iff.rfl, fun x m s => ?_, ⟨A', fun _ => Iff.rfl, p⟩, (all R).loc h2 ⟨fun b s => ?_, fun b o g i => f b o g fun m => (hf b m).2 o g i⟩⟩
  · rcases hA' x m with m | m
    · exact d x (hS x m) s
    · exact dm x s m
  · cases g : H b with
    | none => exact absurd g (dm b s)
    | some o =>
      refine f b o g fun m => ?_
      rcases (hf b m).1 with q | q
      · exact d b (hS b q) s
      · rw [q] at g; cases g
theorem fpa_U {l : ∀ (H H' : Hp) (A : List Addr), P H A → Agree (fun a => a ∈ A) H H' → P H' A} {dd : ∀ (H : Hp) (A : List Addr), P H A → ∀ a, a ∈ A → H a ≠ none} (h : St (fpa P l dd :: R) H) : ∃ A, P H A ∧
    ∀ (P' : Hp → List Addr → Prop) (l' : ∀ (H H' : Hp) (A : List Addr), P' H A → Agree (fun a => a ∈ A) H H' → P' H' A) (d' : ∀ (H : Hp) (A : List Addr), P' H A → ∀ a, a ∈ A → H a ≠ none) (ft A' : List Addr) (H1 : Hp),
      Fp ft H H1 → (∀ x ∈ ft, (x ∈ A ∨ H x = none) ∧ ∀ o, H x = some o → ¬ Imm o) → P' H1 A' → (∀ x ∈ A', x ∈ A ∨ H x = none) → St (fpa P' l' d' :: R) H1 := by
  obtain ⟨S, S1, S2, e, d, ⟨A, eA, h1⟩, h2⟩ := id h
  refine ⟨A, h1, fun P' l' d' ft A' H1 f hf p hA' => ?_⟩
  have h' : St (fpa (fun H A1 => A1 = A ∧ P H A) (fun H H' A1 ⟨x, y⟩ g => ⟨x, l _ _ _ y ⟨fun a m => g.1 a (by rw [x]; exact m), g.2⟩⟩) (fun H A1 ⟨x, y⟩ a m => by rw [x] at m; exact dd _ _ y a m) :: R) H := ⟨S, S1, S2, e, d, ⟨A, eA, rfl, h1⟩, h2⟩
  refine step_gen h' (fun S ⟨A1, e1, e2, _⟩ x m => (e1 x).mpr (by rw [e2]; exact m)) f hf p hA'
theorem fpa_new {l' : ∀ (H H' : Hp) (A : List Addr), P' H A → Agree (fun a => a ∈ A) H H' → P' H' A} {d' : ∀ (H : Hp) (A : List Addr), P' H A → ∀ a, a ∈ A → H a ≠ none}
    (h : St L H) (f : Fp [] H H1) (p : P' H1 A') (n : ∀ x ∈ A', H x = none) : St (fpa P' l' d' :: L) H1 := by
  have h' : St (emp :: L) H := by
    obtain ⟨S, h⟩ := h
    exact ⟨S, fun _ => False, S, fun _ => ⟨.inr, fun z => z.elim (fun f => f.elim) id⟩, fun _ f => f.elim, fun _ f => f, h⟩
  exact step_gen (A := []) h' (fun _ _ x m => by simp at m) f (fun x m => by simp at m) p fun x m => .inr (n x m)
theorem fpa_cell {a : Addr} {o : HO} {l' : ∀ (H H' : Hp) (A : List Addr), P' H A → Agree (fun a => a ∈ A) H H' → P' H' A} {d' : ∀ (H : Hp) (A : List Addr), P' H A → ∀ a, a ∈ A → H a ≠ none}
    (h : St (cell a o :: R) H) (i : ¬ Imm o) (f : Fp [a] H H1) (p : P' H1 A') (n : ∀ x ∈ A', x = a ∨ H x = none) : St (fpa P' l' d' :: R) H1 :=
  step_gen (A := [a]) h (fun S g x m => (g.1 x).mpr (List.mem_singleton.mp m)) f (fun x m => ⟨.inl m, fun u e => by rw [List.mem_singleton.mp m, h.get0] at e; cases e; exact i⟩) p fun x m => (n x m).imp (fun e => by rw [e]; simp) id
theorem St.keepF (h : St L H) (f : Fp [] H H1) : St L H1 := by
  obtain ⟨S, h⟩ := h
  exact ⟨S, (all L).loc h (Agree.of_fp f (fun a m => by simp at m) ((all L).dom h) fun b s => by simp)⟩
/-! ### lists of owned things -/
def lA {α : Type} (P : V → α → As) : List V → List α → As
  | [], [] => emp
  | v :: vs, x :: xs => star (P v x) (lA P vs xs)
  | _, _ => pur False
variable {α : Type} {Pa : V → α → As} {v : V} {x : α} {vs ws : List V} {xs ys : List α}
theorem lA.len (h : St (lA Pa vs xs :: R) H) : vs.length = xs.length := by
  induction vs generalizing xs R with
  | nil =>
    cases xs with
    | nil => rfl
    | cons x xs => exact h.purU.1.elim
  | cons v vs ih =>
    cases xs with
    | nil => exact h.purU.1.elim
    | cons x xs =>
      have h' : St (lA Pa vs xs :: Pa v x :: R) H := by
        obtain ⟨S, h⟩ := h
        exact Ent.swap.st ⟨S, star_assoc1 h⟩
      simp [ih h']
theorem St.starU {P Q : As} (h : St (star P Q :: R) H) : St (P :: Q :: R) H := by
  obtain ⟨S, h⟩ := h
  exact ⟨S, star_assoc1 h⟩
theorem St.starI {P Q : As} (h : St (P :: Q :: R) H) : St (star P Q :: R) H := by
  obtain ⟨S, h⟩ := h
  exact ⟨S, star_assoc2 h⟩
theorem lA.consU (h : St (lA Pa vs (x :: xs) :: R) H) : ∃ v ws, vs = v :: ws ∧ St (Pa v x :: lA Pa ws xs :: R) H := by
  cases vs with
  | nil => exact h.purU.1.elim
  | cons v ws => exact ⟨v, ws, rfl, h.starU⟩
theorem lA.consI (h : St (Pa v x :: lA Pa vs xs :: R) H) : St (lA Pa (v :: vs) (x :: xs) :: R) H := h.starI
theorem lA.nilI (h : St R H) : St (lA Pa [] [] :: R) H := by
  obtain ⟨S, h⟩ := h
  exact ⟨S, fun _ => False, S, fun _ => ⟨.inr, fun z => z.elim (fun f => f.elim) id⟩, fun _ f => f.elim, fun _ f => f, h⟩
theorem lA.nilU (h : St (lA Pa vs [] :: R) H) : vs = [] := List.eq_nil_of_length_eq_zero (lA.len h)
theorem lA.appI (h : St (lA Pa vs xs :: lA Pa ws ys :: R) H) : St (lA Pa (vs ++ ws) (xs ++ ys) :: R) H := by
  induction vs generalizing xs R with
  | nil =>
    cases xs with
    | nil => exact h.cons0
    | cons x xs => exact h.purU.1.elim
  | cons v vs ih =>
    cases xs with
    | nil => exact h.purU.1.elim
    | cons x xs =>
      have h1 := (Ent.cons Ent.swap).st (Ent.swap.st h.starU)
      exact lA.consI (Ent.swap.st (ih (R := Pa v x :: R) ((Ent.cons Ent.swap).st h1 |> fun h => (Ent.cons Ent.swap).st h)))
theorem lA.snocI (h : St (lA Pa vs xs :: Pa v x :: R) H) : St (lA Pa (vs ++ [v]) (xs ++ [x]) :: R) H := by
  refine lA.appI (Ent.swap.st ?_)
  refine lA.consI ?_
  have h1 := Ent.swap.st h
  have h2 : St (lA Pa [] [] :: Pa v x :: lA Pa vs xs :: R) H := lA.nilI h1
  exact Ent.swap.st h2
theorem lA.appU {xs ys : List α} (h : St (lA Pa vs (xs ++ ys) :: R) H) : ∃ v1 v2, vs = v1 ++ v2 ∧ St (lA Pa v1 xs :: lA Pa v2 ys :: R) H := by
  induction xs generalizing vs R with
  | nil => exact ⟨[], vs, rfl, lA.nilI h⟩
  | cons x xs ih =>
    obtain ⟨v, ws, rfl, h1⟩ := lA.consU h
    obtain ⟨v1, v2, rfl, h2⟩ := ih (Ent.swap.st h1)
    exact ⟨v :: v1, v2, rfl, lA.consI (Ent.swap.st ((Ent.cons Ent.swap).st h2))⟩
/-- all but the i-th -/
def lH (P : V → α → As) (vs : List V) (xs : List α) (i : Nat) : As := star (lA P (vs.take i) (xs.take i)) (lA P (vs.drop (i + 1)) (xs.drop (i + 1)))
theorem lA.out {i : Nat} (h : St (lA Pa vs xs :: R) H) (hx : xs[i]? = some x) : ∃ v, vs[i]? = some v ∧ St (Pa v x :: lH Pa vs xs i :: R) H := by
  obtain ⟨hi, rfl⟩ := List.getElem?_eq_some_iff.mp hx
  have e : xs = xs.take i ++ (xs[i] :: xs.drop (i + 1)) := by rw [List.getElem_cons_drop, List.take_append_drop]
  rw [e] at h
  obtain ⟨v1, v2, rfl, h1⟩ := lA.appU h
  have l1 : v1.length = i := by rw [lA.len h1, List.length_take]; omega
  obtain ⟨v, ws, rfl, h2⟩ := lA.consU (Ent.swap.st h1)
  refine ⟨v, by rw [List.getElem?_append_right (by omega), l1, Nat.sub_self]; rfl, ?_⟩
  have e1 : (v1 ++ v :: ws).take i = v1 := by rw [← l1, List.take_left]
  have e2 : (v1 ++ v :: ws).drop (i + 1) = ws := by rw [← l1, List.drop_append]; simp
  unfold lH
  rw [e1, e2]
  have h3 := (Ent.cons Ent.swap).st h2
  have h4 : St (Pa v xs[i] :: star (lA Pa v1 (xs.take i)) (lA Pa ws (xs.drop (i + 1))) :: R) H := by
    obtain ⟨S, S1, S2, e, d, g1, g2⟩ := h3
    exact ⟨S, S1, S2, e, d, g1, star_assoc2 g2⟩
  exact h4
theorem lA.back {i : Nat} (hi : i < xs.length) (hv : vs[i]? = some v) (h : St (Pa v x :: lH Pa vs xs i :: R) H) : St (lA Pa vs (xs.set i x) :: R) H := by
  unfold lH at h
  have h3 : St (Pa v x :: lA Pa (vs.take i) (xs.take i) :: lA Pa (vs.drop (i + 1)) (xs.drop (i + 1)) :: R) H := by
    obtain ⟨S, S1, S2, e, d, g1, g2⟩ := h
    exact ⟨S, S1, S2, e, d, g1, star_assoc1 g2⟩
  have h4 := lA.appI (Ent.swap.st (lA.consI ((Ent.cons Ent.swap).st h3)))
  obtain ⟨hj, rfl⟩ := List.getElem?_eq_some_iff.mp hv
  rw [show vs.take i ++ vs[i] :: vs.drop (i + 1) = vs by rw [List.getElem_cons_drop, List.take_append_drop]] at h4
  rw [show xs.set i x = xs.take i ++ x :: xs.drop (i + 1) from List.set_eq_take_append_cons_drop .. |>.trans (if_pos hi)]
  exact h4
end
end Sl
namespace Sl
open PySem PySem.Spec PyProof.Rows L2 Sx Rd
section
variable {L M R : List As} {H : Hp} {P Q : As} {α : Type} {Pa : V → α → As} {v : V} {x : α} {vs ws : List V} {xs ys : List α}
theorem St.sel2 (h : St L H) (s1 : Sel P L M) (s2 : Sel Q M R) : St (P :: Q :: R) H := (Ent.cons s2.ent).st (h.sel s1)
theorem St.sel3 {T : As} {N : List As} (h : St L H) (s1 : Sel P L M) (s2 : Sel Q M N) (s3 : Sel T N R) : St (P :: Q :: T :: R) H := (Ent.cons (Ent.cons s3.ent)).st (h.sel2 s1 s2)
theorem lA.snocS (h : St L H) (s1 : Sel (lA Pa vs xs) L M) (s2 : Sel (Pa v x) M R) : St (lA Pa (vs ++ [v]) (xs ++ [x]) :: R) H := lA.snocI (h.sel2 s1 s2)
theorem lA.consS (h : St L H) (s1 : Sel (Pa v x) L M) (s2 : Sel (lA Pa vs xs) M R) : St (lA Pa (v :: vs) (x :: xs) :: R) H := lA.consI (h.sel2 s1 s2)
theorem lA.appS (h : St L H) (s1 : Sel (lA Pa vs xs) L M) (s2 : Sel (lA Pa ws ys) M R) : St (lA Pa (vs ++ ws) (xs ++ ys) :: R) H := lA.appI (h.sel2 s1 s2)
theorem lA.unS (h : St L H) (s : Sel (lA Pa vs (x :: xs)) L R) : ∃ v ws, vs = v :: ws ∧ St (Pa v x :: lA Pa ws xs :: R) H := lA.consU (h.sel s)
theorem lA.lenS (h : St L H) (s : Sel (lA Pa vs xs) L R) : vs.length = xs.length := lA.len (h.sel s)
theorem lA.outS {i : Nat} (h : St L H) (s : Sel (lA Pa vs xs) L R) (hx : xs[i]? = some x) : ∃ v, vs[i]? = some v ∧ St (Pa v x :: lH Pa vs xs i :: R) H := lA.out (h.sel s) hx
theorem lA.backS {i : Nat} (h : St L H) (s1 : Sel (Pa v x) L M) (s2 : Sel (lH Pa vs xs i) M R) (hi : i < xs.length) (hv : vs[i]? = some v) : St (lA Pa vs (xs.set i x) :: R) H := lA.back hi hv (h.sel2 s1 s2)
/-- given back as it was -/
theorem lA.backE {i : Nat} (h : St L H) (s1 : Sel (Pa v x) L M) (s2 : Sel (lH Pa vs xs i) M R) (hx : xs[i]? = some x) (hv : vs[i]? = some v) : St (lA Pa vs xs :: R) H := by
  obtain ⟨hi, rfl⟩ := List.getElem?_eq_some_iff.mp hx
  have z := lA.backS h s1 s2 hi hv
  rwa [List.set_getElem_self] at z
end
end Sl
namespace Sl
open PySem PySem.Spec PyProof.Rows L2 Sx Rd
/-! ### comprehensions -/
section
variable {K : PySem.W.Frag} {σ : L2.St} {H : Hp} {Q : VK} {g : TG} {tt : TT} {te : TE} {vs : List Nat} {L R0 : List As} {p : Addr} {xs : List V}
/-- what a turn has to bring about -/
abbrev LcStep (g : TG) (tt : TT) (te : TE) (vs : List Nat) (σ : L2.St) (φ : Nat → List V → Prop) (Lf : Nat → List V → List As) (E : Addr) (i : Nat) (x : V) (acc : List V) (H' : Hp) : Prop :=
  ∀ (R : VK) (N : Hp → Prop), (∀ y H4, φ (i + 1) (acc ++ [y]) → St (cell E (.lst acc) :: Lf (i + 1) (acc ++ [y])) H4 → R y H4) → (∀ H4, φ (i + 1) acc → St (cell E (.lst acc) :: Lf (i + 1) acc) H4 → N H4) →
    g x (wipe σ vs) H' fun σ2 H2 => wipe σ2 vs = wipe σ vs ∧ tt σ2 H2 fun b H3 => if b = true then te σ2 H3 R else N H3
theorem k_lcLS (φ : Nat → List V → Prop) (Lf : Nat → List V → List As) (hs : St (Lf 0 []) H) (hq : SqL K H p xs) (hz : xs.length < 100000) (f0 : φ 0 [])
    (hl : ∀ i E acc H', φ i acc → St (cell E (.lst acc) :: Lf i acc) H' → SqL K H' p xs)
    (st : ∀ E i x acc H', xs[i]? = some x → acc.length ≤ i → φ i acc → St (cell E (.lst acc) :: Lf i acc) H' → LcStep g tt te vs σ φ Lf E i x acc H')
    (q : ∀ E acc H', acc.length ≤ xs.length → φ xs.length acc → St (cell E (.lst acc) :: Lf xs.length acc) H' → Q (.ref E) H') : kLcL K g tt te vs σ Q (.ref p) H := by
  refine ⟨p, rfl, ⟨_, hq⟩, fun E hE => ?_⟩
  refine lc_list (K := K) (a := p) (xs := xs) (fun i H' => ∃ acc, acc.length ≤ i ∧ φ i acc ∧ St (cell E (.lst acc) :: Lf i acc) H') ⟨[], Nat.le_refl _, f0, hs.new hE⟩ (fun i H' hi ⟨acc, _, f, h⟩ => hl i E acc H' f h) (fun i x H' hx ⟨acc, ha, f, h⟩ => ?_) fun H' ⟨acc, ha, f, h⟩ => q E acc H' ha f h
  have hi : i < xs.length := (List.getElem?_eq_some_iff.mp hx).1
  exact st E i x acc H' hx ha f h _ _ (fun y H4 f4 h4 => ⟨acc, h4.get0, szl (by omega), acc ++ [y], by rw [List.length_append]; simp; omega, f4, h4.upd0 id⟩) fun H4 f4 h4 => ⟨acc, by omega, f4, h4⟩
/-- over range(n) -/
theorem k_lcFS {n : Int} (φ : Nat → List V → Prop) (Lf : Nat → List V → List As) (hs : St (Lf 0 []) H) (h1 : 0 ≤ n) (h2 : n < 100000) (f0 : φ 0 [])
    (st : ∀ E (i : Nat) acc H', (i : Int) < n → acc.length ≤ i → φ i acc → St (cell E (.lst acc) :: Lf i acc) H' → LcStep g tt te vs σ φ Lf E i (.int (i : Nat)) acc H')
    (q : ∀ E acc H', acc.length ≤ n.toNat → φ n.toNat acc → St (cell E (.lst acc) :: Lf n.toNat acc) H' → Q (.ref E) H') : kLcF g tt te vs σ Q (.int n) H := by
  refine ⟨n, rfl, by omega, by omega, fun E hE => ?_⟩
  refine lc_range (lo := 0) (n := n.toNat) (fun i H' => ∃ acc, acc.length ≤ i ∧ φ i acc ∧ St (cell E (.lst acc) :: Lf i acc) H') ⟨[], Nat.le_refl _, f0, hs.new hE⟩ (fun i H' hi ⟨acc, ha, f, h⟩ => ?_) fun H' ⟨acc, ha, f, h⟩ => q E acc H' ha f h
  have e0 : (0 : Int) + (i : Int) = (i : Int) := Int.zero_add _
  rw [e0]
  exact st E i acc H' (by omega) ha f h _ _ (fun y H4 f4 h4 => ⟨acc, h4.get0, szl (by omega), acc ++ [y], by rw [List.length_append]; simp; omega, f4, h4.upd0 id⟩) fun H4 f4 h4 => ⟨acc, by omega, f4, h4⟩
/-- over enumerate(list) -/
theorem k_lcES (φ : Nat → List V → Prop) (Lf : Nat → List V → List As) (hs : St (Lf 0 []) H) (hq : SqL K H p xs) (hz : xs.length < 100000) (f0 : φ 0 [])
    (hl : ∀ i E acc H', φ i acc → St (cell E (.lst acc) :: Lf i acc) H' → SqL K H' p xs)
    (st : ∀ E T i x acc H', xs[i]? = some x → acc.length ≤ i → φ i acc → H' T = some (.tup [.int (i : Nat), x]) → St (cell E (.lst acc) :: Lf i acc) H' → LcStep g tt te vs σ φ Lf E i (.ref T) acc H')
    (q : ∀ E acc H', acc.length ≤ xs.length → φ xs.length acc → St (cell E (.lst acc) :: Lf xs.length acc) H' → Q (.ref E) H') : kLcE K g tt te vs σ Q [.ref p] H := by
  refine ⟨p, xs, rfl, hq, fun E hE => ?_⟩
  refine ⟨fun i m H' => m = xs.length - i ∧ i ≤ xs.length ∧ ∃ acc, acc.length ≤ i ∧ φ i acc ∧ St (cell E (.lst acc) :: Lf i acc) H', ⟨_, rfl, Nat.zero_le _, [], Nat.le_refl _, f0, hs.new hE⟩, ?_⟩
  rintro i m H' ⟨rfl, hi, acc, ha, f, h⟩
  have hq' := hl i E acc H' f h
  by_cases hlt : i < xs.length
  · refine .inr ⟨⟨xs, xs[i], hq', List.getElem?_eq_getElem hlt⟩, fun H4 => ∃ acc, acc.length ≤ i + 1 ∧ φ (i + 1) acc ∧ St (cell E (.lst acc) :: Lf (i + 1) acc) H4, fun H4 z => ⟨_, by omega, rfl, by omega, z⟩, ?_⟩
    rintro v H2 ⟨T, x, rfl, hT, rfl, hx⟩
    exact st E T i x acc _ (hx xs hq') ha f upd_same (h.keep hT) _ _ (fun y H4 f4 h4 => ⟨acc, h4.get0, szl (by omega), acc ++ [y], by rw [List.length_append]; simp; omega, f4, h4.upd0 id⟩) fun H4 f4 h4 => ⟨acc, by omega, f4, h4⟩
  · have hi2 : i = xs.length := by omega
    subst hi2
    exact .inl ⟨⟨xs, hq', Nat.le_refl _⟩, q E acc H' ha f h⟩
/-- one more assertion that grows -/
theorem k_lcLX (X : Nat → List V → As) (hs : St L H) (hq : SqL K H p xs) (hz : xs.length < 100000) (h0 : St L H → St (X 0 [] :: L) H)
    (hl : ∀ i E acc H', St (cell E (.lst acc) :: X i acc :: L) H' → SqL K H' p xs)
    (st : ∀ E i x acc H', xs[i]? = some x → acc.length ≤ i → St (cell E (.lst acc) :: X i acc :: L) H' → LcStep g tt te vs σ (fun _ _ => True) (fun i acc => X i acc :: L) E i x acc H')
    (q : ∀ E acc H', acc.length ≤ xs.length → St (cell E (.lst acc) :: X xs.length acc :: L) H' → Q (.ref E) H') : kLcL K g tt te vs σ Q (.ref p) H :=
  k_lcLS (fun _ _ => True) (fun i acc => X i acc :: L) (h0 hs) hq hz trivial (fun i E acc H' _ h => hl i E acc H' h) (fun E i x acc H' hx ha _ h => st E i x acc H' hx ha h) fun E acc H' ha _ h => q E acc H' ha h
theorem St.perm {M R : List As} (h : St L H) (s : Sels M L R) : St M H := by
  have z := h.sels s
  have e : ∀ M : List As, Ent (M ++ R) M := fun M => by
    induction M with
    | nil => exact fun H S h => ⟨fun _ => False, fun _ f => f.elim, fun _ f => f⟩
    | cons P M ih => exact ih.cons
  exact (e M).st z
/-- a test that is none -/
theorem lc_yes {σ2 : L2.St} {H2 : Hp} {R : VK} {N : Hp → Prop} (h : te σ2 H2 R) : tYes σ2 H2 fun b H3 => if b = true then te σ2 H3 R else N H3 := t_yes (iteT h)
end
end Sl
namespace Sl
open PySem PySem.Spec PyProof.Rows L2 Sx Rd
/-- a cut without a promise of its own: what follows is read on each way -/
theorem s_cut0 {D : Ends} {σ : L2.St} {H : Hp} {t u : TS} (h : t { D with nx := u D } σ H) : Evl.tCut t u D σ H := s_cut (u D) h fun _ _ z => z
end Sl
namespace Sl
open PySem PySem.Spec PyProof.Rows L2 Sx Rd
theorem St.nil {H : Hp} : St [] H := ⟨fun _ => False, fun _ f => f⟩
theorem ix_ints {ns : List Int} {r : Int} (h0 : 0 ≤ r) (h1 : r < ns.length) : ∃ m ∈ ns, atI (ns.map V.int) r = some (.int m) := by
  obtain ⟨j, rfl⟩ := Int.eq_ofNat_of_zero_le h0
  have hj : j < ns.length := by omega
  exact ⟨ns[j], List.getElem_mem hj, atI_nat (by rw [List.getElem?_map, List.getElem?_eq_getElem hj]; rfl)⟩
end Sl
namespace Sl
open PySem PySem.Spec PyProof.Rows L2 Sx Rd
theorem ix_of (ns : List Int) {xs : List V} {r : Int} (e : xs = ns.map V.int) (h0 : 0 ≤ r) (h1 : r < ns.length) : ∃ m ∈ ns, atI xs r = some (.int m) := by
  subst e
  exact ix_ints h0 h1
end Sl
namespace Sl
open PySem PySem.Spec PyProof.Rows L2 Sx Rd
theorem t_up0 {t : TT} {σ : L2.St} {H : Hp} {Q : Bool → Hp → Prop} (h : t σ H Q) : tUpT t σ H Q := t_up Q h fun _ _ z => z
end Sl
namespace Sl
open PySem PySem.Spec PyProof.Rows L2 Sx Rd
/-- a new thing, found behind a promise over footprints -/
theorem St.newF {L : List As} {H H1 : Hp} {a : Addr} {o : HO} (h : St L H) (f : Fp [] H H1) (n : H a = none) (g : H1 a = some o) : St (cell a o :: L) H1 := by
  obtain ⟨S, h⟩ := h
  have dm := (all L).dom h
  exact ⟨fun b => b = a ∨ S b, fun b => b = a, S, fun _ => Iff.rfl, fun b z s => dm b s (z ▸ n), ⟨fun _ => Iff.rfl, g⟩, (all L).loc h (Agree.of_fp f (fun _ m => by simp at m) dm fun _ _ => by simp)⟩
theorem St.newiF {L : List As} {H H1 : Hp} {a : Addr} {o : HO} (h : St L H) (f : Fp [] H H1) (g : H1 a = some o) (i : Imm o) : St (icell a o :: L) H1 := by
  obtain ⟨S, h⟩ := h.keepF f
  exact ⟨S, fun _ => False, S, fun _ => ⟨.inr, fun z => z.elim (fun f => f.elim) id⟩, fun _ f => f.elim, ⟨fun _ f => f, g, i⟩, h⟩
end Sl
namespace Sl
open PySem PySem.Spec PyProof.Rows L2 Sx Rd
theorem St.iadd {L : List As} {H : Hp} {a : Addr} {o : HO} (h : St L H) (g : H a = some o) (i : Imm o) : St (icell a o :: L) H := by
  obtain ⟨S, h⟩ := h
  exact ⟨S, fun _ => False, S, fun _ => ⟨.inr, fun z => z.elim (fun f => f.elim) id⟩, fun _ f => f.elim, ⟨fun _ f => f, g, i⟩, h⟩
end Sl
namespace Sl
open PySem PySem.Spec PyProof.Rows L2 Sx Rd
/-- a list that is only read: tracked, frozen or known -/
def sqA (K : PySem.W.Frag) (b : Addr) (xs : List V) : As := ⟨fun H S => SqL K H b xs ∧ ((H b = some (.lst xs) ∧ ∀ x, S x ↔ x = b) ∨ ((∀ x, ¬ S x) ∧ ((∃ o, H b = some (.frz o (.lst xs))) ∨ ∀ H' : Hp, SqL K H' b xs))),
  fun {H H' S} ⟨h, c⟩ g => by
    rcases c with ⟨e, s⟩ | ⟨s, ⟨o, e⟩ | e⟩
    · have e' : H' b = some (.lst xs) := by rw [g.1 b ((s b).mpr rfl)]; exact e
      exact ⟨.inl (.inl e'), .inl ⟨e', s⟩⟩
    · have e' := g.2 _ _ e trivial
      exact ⟨.inl (.inr ⟨o, e'⟩), .inr ⟨s, .inl ⟨o, e'⟩⟩⟩
    · exact ⟨e H', .inr ⟨s, .inr e⟩⟩,
  fun {H S} ⟨h, c⟩ a m => by
    rcases c with ⟨e, s⟩ | ⟨s, _⟩
    · rw [(s a).mp m, e]; simp
    · exact absurd m (s a)⟩
theorem sqA.U {K : PySem.W.Frag} {b : Addr} {xs : List V} {L R : List As} {H : Hp} (hs : St L H) (s : Sel (sqA K b xs) L R) : SqL K H b xs := by
  obtain ⟨S, S1, S2, e, d, h1, h2⟩ := hs.sel s
  exact h1.1
theorem sqA.new {K : PySem.W.Frag} {b : Addr} {xs : List V} {H : Hp} (h : SqL K H b xs) : St [sqA K b xs] H := by
  have mk : ∀ S : Addr → Prop, (sqA K b xs).at_ H S → St [sqA K b xs] H := fun S h => ⟨S, S, fun _ => False, fun _ => ⟨.inl, fun z => z.elim id fun f => f.elim⟩, fun _ _ f => f, h, fun _ f => f⟩
  rcases id h with (e | ⟨o, e⟩) | e
  · exact mk (fun x => x = b) ⟨h, .inl ⟨e, fun _ => Iff.rfl⟩⟩
  · exact mk (fun _ => False) ⟨h, .inr ⟨fun _ f => f, .inl ⟨o, e⟩⟩⟩
  · exact mk (fun _ => False) ⟨h, .inr ⟨fun _ f => f, .inr fun H' => .inr e⟩⟩
end Sl
namespace Sl
open PySem PySem.Spec PyProof.Rows L2 Sx Rd
section
variable {K : PySem.W.Frag} {H : Hp} {Q : VK} {a : Addr}
theorem c_max {ns : List Int} {m : Int} (h : SqL K H a (ns.map V.int)) (hm : m ∈ ns) (hx : ∀ y ∈ ns, y ≤ m) (q : Q (.int m) H) : rMax K [.ref a] H Q :=
  ⟨a, ns, rfl, h, List.length_pos_iff.mpr fun e => (by rw [e] at hm; cases hm), fun m' h1 h2 => by
    have : m' = m := Int.le_antisymm (hx m' h1) (h2 m hm)
    rw [this]; exact q⟩
theorem c_min {ns : List Int} {m : Int} (h : SqL K H a (ns.map V.int)) (hm : m ∈ ns) (hx : ∀ y ∈ ns, m ≤ y) (q : Q (.int m) H) : rMin K [.ref a] H Q :=
  ⟨a, ns, rfl, h, List.length_pos_iff.mpr fun e => (by rw [e] at hm; cases hm), fun m' h1 h2 => by
    have : m' = m := Int.le_antisymm (h2 m hm) (hx m' h1)
    rw [this]; exact q⟩
theorem c_all {bs : List Bool} (h : SqL K H a (bs.map V.bl)) (q : Q (.bl (bs.all id)) H) : rAll K [.ref a] H Q := ⟨a, bs, rfl, h, q⟩
/-- the greatest of some numbers -/
theorem max_of : ∀ (ns : List Int), ns ≠ [] → ∃ m ∈ ns, ∀ y ∈ ns, y ≤ m
  | [], h => absurd rfl h
  | [x], _ => ⟨x, by simp, by simp⟩
  | x :: y :: r, _ => by
    obtain ⟨m, h1, h2⟩ := max_of (y :: r) (by simp)
    by_cases h : m ≤ x
    · exact ⟨x, by simp, fun z hz => by rcases List.mem_cons.mp hz with rfl | hz; exact Int.le_refl _; exact Int.le_trans (h2 z hz) h⟩
    · exact ⟨m, List.mem_cons_of_mem _ h1, fun z hz => by rcases List.mem_cons.mp hz with rfl | hz; omega; exact h2 z hz⟩
end
end Sl
namespace Sl
open PySem PySem.Spec PyProof.Rows L2 Sx Rd
/-! ### dicts as records: fixed text keys -/
section
variable {kvs : List (Key × V)} {k : Key} {v : V} {i : Nat}
theorem valV_none : ∀ {kvs : List (Key × V)}, k ∉ kvs.map (·.1) → valV kvs k = none
  | [], _ => rfl
  | (k', y) :: r, h => by
    rw [List.map_cons, List.mem_cons, not_or] at h
    rw [val_miss (fun e => h.1 e.symm)]
    exact valV_none h.2
theorem valV_at : ∀ {kvs : List (Key × V)} {i : Nat}, (kvs.map (·.1)).Nodup → kvs[i]? = some (k, v) → valV kvs k = some v
  | [], i, _, h => by simp at h
  | (k', y) :: r, 0, _, h => by cases h; exact val_hit _ _ _
  | (k', y) :: r, i + 1, nd, h => by
    rw [List.map_cons, List.nodup_cons] at nd
    rw [List.getElem?_cons_succ] at h
    have hm : k ∈ r.map (·.1) := List.mem_map.mpr ⟨_, List.mem_of_getElem? h, rfl⟩
    rw [val_miss (fun e => nd.1 (by rw [e]; exact hm))]
    exact valV_at nd.2 h
theorem map_same {r : List (Key × V)} (h : k ∉ r.map (·.1)) : r.map (fun kv => if kv.1 = k then (kv.1, v) else kv) = r := by
  induction r with
  | nil => rfl
  | cons x r ih =>
    rw [List.map_cons, List.mem_cons, not_or] at h
    rw [List.map_cons, ih h.2, if_neg fun e => h.1 e.symm]
theorem map_at : ∀ {kvs : List (Key × V)} {i : Nat}, (kvs.map (·.1)).Nodup → (kvs.map (·.1))[i]? = some k → kvs.map (fun kv => if kv.1 = k then (kv.1, v) else kv) = kvs.set i (k, v)
  | [], i, _, h => by simp at h
  | (k', y) :: r, 0, nd, h => by
    cases h
    rw [List.map_cons, List.nodup_cons] at nd
    rw [List.map_cons, map_same nd.1, if_pos rfl]; rfl
  | (k', y) :: r, i + 1, nd, h => by
    rw [List.map_cons, List.nodup_cons] at nd
    rw [List.map_cons, List.getElem?_cons_succ] at h
    have hm : k ∈ r.map (·.1) := List.mem_of_getElem? h
    rw [List.map_cons, map_at nd.2 h, if_neg (show ¬ k' = k from fun e => nd.1 (by rw [e]; exact hm))]; rfl
theorem putK_at (nd : (kvs.map (·.1)).Nodup) (h : (kvs.map (·.1))[i]? = some k) : putK kvs k v = kvs.set i (k, v) := by
  unfold putK
  rw [if_pos, map_at nd h]
  obtain ⟨x, hx, e⟩ := List.mem_map.mp (List.mem_of_getElem? h)
  exact List.any_eq_true.mpr ⟨x, hx, decide_eq_true e⟩
theorem mergeK_nd : ∀ (kvs acc : List (Key × V)), ((acc ++ kvs).map (·.1)).Nodup → mergeK acc kvs = acc ++ kvs
  | [], acc, _ => (List.append_nil _).symm
  | (k, v) :: r, acc, nd => by
    have h : k ∉ acc.map (·.1) := fun hm => by
      rw [List.map_append, List.nodup_append] at nd
      exact nd.2.2 k hm k (by simp) rfl
    show mergeK (putK acc k v) r = _
    rw [putK_new v (valV_none h), mergeK_nd r _ (by rw [List.append_assoc]; exact nd), List.append_assoc]; rfl
end
section
variable {σ : L2.St} {L R : List As} {H : Hp} {Q : VK} {p : Addr} {ps : List (V × V)} {kvs : List (Key × V)} {tk tv : TE} {r : List (TE × TE)} {QP : List (V × V) → Hp → Prop}
def kDisp (p : Addr) (ps : List (V × V)) (H2 : Hp) (Q : VK) : Prop := H2 p = some (.dK []) ∧ ∃ kvs : List (Key × V), ps = kvs.map (fun kv => (kV kv.1, kv.2)) ∧ kvs.length ≤ 15 ∧ Q (.ref p) (upd H2 p (.dK (mergeK [] kvs)))
theorem e_disp {trs : List (TE × TE)} (hs : St L H) (h : ∀ p H1, St (cell p (.dK []) :: L) H1 → tPairs trs σ H1 fun ps H2 => kDisp p ps H2 Q) : tDisp trs σ H Q := fun p n => h p _ (hs.new n)
theorem p_nil (h : QP [] H) : tPairs [] σ H QP := h
theorem p_cons (h : tk σ H fun x H1 => tv σ H1 fun y H2 => tPairs r σ H2 fun ps H3 => QP ((x, y) :: ps) H3) : tPairs ((tk, tv) :: r) σ H QP := h
theorem k_disp (hs : St L H) (s : Sel (cell p (.dK [])) L R) (e : ps = kvs.map fun kv => (kV kv.1, kv.2)) (hl : kvs.length ≤ 15) (m : mergeK [] kvs = kvs) (q : ∀ H', St (cell p (.dK kvs) :: R) H' → Q (.ref p) H') : kDisp p ps H Q :=
  ⟨hs.get s, kvs, e, hl, by rw [m]; exact q _ (hs.upd s id)⟩
end
set_option warn.classDefReducibility false
set_option warn.classDefReducibility false
set_option warn.classDefReducibility false
set_option warn.classDefReducibility false
set_option warn.classDefReducibility false
set_option warn.classDefReducibility false
set_option warn.classDefReducibility false
set_option warn.classDefReducibility false
/-! ### the same readings found by head (instances) -/
class Stp (G : Prop) (S : outParam Prop) : Prop where
  go : S → G
/-- .. where the heap is read by assertions -/
class Stq (G : Prop) (S : outParam Prop) : Prop where
  go : S → G
/-- .. where it is read by footprints -/
class Stw (G : Prop) (S : outParam Prop) : Prop where
  go : S → G
instance {G S : Prop} [s : Stp G S] : Stq G S := ⟨fun h => s.go h⟩
instance {G S : Prop} [s : Stp G S] : Stw G S := ⟨fun h => s.go h⟩
class Cn (n : Nat) (G : Prop) : Prop where
  t : True
theorem cn (n : Nat) {G : Prop} [c : Cn n G] (h : G) : G := h
class Lk (σ : L2.St) (i : Nat) (v : outParam V) : Prop where
  h : σ[i]? = some (some v)
class NeN (i j : Nat) : Prop where
  h : i ≠ j
class LtL (σ : L2.St) (i : Nat) : Prop where
  h : i < σ.length
instance {n : Nat} : NeN 0 (n + 1) := ⟨by omega⟩
instance {n : Nat} : NeN (n + 1) 0 := ⟨by omega⟩
instance {m n : Nat} [h : NeN m n] : NeN (m + 1) (n + 1) := ⟨by have := h.h; omega⟩
instance {x : Option V} {s : L2.St} : LtL (x :: s) 0 := ⟨by simp⟩
instance {x : Option V} {s : L2.St} {n : Nat} [h : LtL s n] : LtL (x :: s) (n + 1) := ⟨by have := h.h; simp only [List.length_cons]; omega⟩
instance {x : Option V} {s : L2.St} {i j : Nat} [h : LtL s i] : LtL (s.set j x) i := ⟨by rw [List.length_set]; exact h.h⟩
instance {v : V} {s : L2.St} : Lk (some v :: s) 0 v := ⟨rfl⟩
instance {v : V} {x : Option V} {s : L2.St} {n : Nat} [h : Lk s n v] : Lk (x :: s) (n + 1) v := ⟨h.h⟩
instance {v : V} {s : L2.St} {i : Nat} [h : LtL s i] : Lk (s.set i (some v)) i v := ⟨by rw [List.getElem?_set_self h.h]⟩
instance (priority := low) {v : V} {x : Option V} {s : L2.St} {i j : Nat} [h : Lk s i v] [g : NeN j i] : Lk (s.set j x) i v := ⟨by rw [List.getElem?_set_ne g.h]; exact h.h⟩
class LkV (vs : List V) (i : Nat) (v : outParam V) : Prop where
  h : vs[i]? = some v
class LtN (N : List Str) (i : Nat) : Prop where
  h : i < N.length
instance {v : V} {s : List V} : LkV (v :: s) 0 v := ⟨rfl⟩
instance {v x : V} {s : List V} {n : Nat} [h : LkV s n v] : LkV (x :: s) (n + 1) v := ⟨h.h⟩
instance {x : Str} {s : List Str} : LtN (x :: s) 0 := ⟨by simp⟩
instance {x : Str} {s : List Str} {n : Nat} [h : LtN s n] : LtN (x :: s) (n + 1) := ⟨by have := h.h; simp only [List.length_cons]; omega⟩
instance {N : List Str} {vs : List V} {i : Nat} {v : V} [h : LkV vs i v] : Lk (L2.start N vs) i v := ⟨by
  have e := h.h
  obtain ⟨l, e2⟩ := List.getElem?_eq_some_iff.mp e
  unfold L2.start
  rw [List.getElem?_append_left (by rw [List.length_map]; exact l), List.getElem?_map, e]
  rfl⟩
instance {N : List Str} {vs : List V} {i : Nat} [h : LtN N i] : LtL (L2.start N vs) i := ⟨by have := h.h; unfold L2.start; simp only [List.length_append, List.length_map, List.length_replicate]; omega⟩
instance i_var {σ : L2.St} {i : Nat} {v : V} {H : Hp} {Q : VK} [h : Lk σ i v] : Stp (L2.tVar i σ H Q) (Q v H) := ⟨fun q => e_var h.h q⟩
instance i_l_cons {x0 x1 x2 x3 x4 : _} : type_of% (Stp.mk (@Rd.l_cons x0 x1 x2 x3 x4)) := Stp.mk (@Rd.l_cons x0 x1 x2 x3 x4)
instance i_l_nil {x0 x1 x2 : _} : type_of% (Stp.mk (@Rd.l_nil x0 x1 x2)) := Stp.mk (@Rd.l_nil x0 x1 x2)
instance i_s_seq {x0 x1 x2 x3 x4 : _} : type_of% (Stp.mk (@Rd.s_seq x0 x1 x2 x3 x4)) := Stp.mk (@Rd.s_seq x0 x1 x2 x3 x4)
instance i_e_c {x0 x1 x2 x3 : _} : type_of% (Stp.mk (@Rd.e_c x0 x1 x2 x3)) := Stp.mk (@Rd.e_c x0 x1 x2 x3)
instance i_g_name {x0 x1 x2 x3 x4 : _} : type_of% (Stp.mk (@Rd.g_name x0 x1 x2 x3 x4)) := Stp.mk (@Rd.g_name x0 x1 x2 x3 x4)
instance i_s_asg {x0 x1 x2 x3 x4 : _} : type_of% (Stp.mk (@Rd.s_asg x0 x1 x2 x3 x4)) := Stp.mk (@Rd.s_asg x0 x1 x2 x3 x4)
instance i_e_call {x0 x1 x2 x3 x4 x5 : _} : type_of% (Stp.mk (@Rd.e_call x0 x1 x2 x3 x4 x5)) := Stp.mk (@Rd.e_call x0 x1 x2 x3 x4 x5)
instance i_k_t {x0 x1 x2 : _} : type_of% (Stp.mk (@Rd.k_t x0 x1 x2)) := Stp.mk (@Rd.k_t x0 x1 x2)
instance i_e_op {x0 x1 x2 x3 x4 x5 : _} : type_of% (Stp.mk (@Rd.e_op x0 x1 x2 x3 x4 x5)) := Stp.mk (@Rd.e_op x0 x1 x2 x3 x4 x5)
instance i_e_cb {x0 x1 x2 x3 x4 : _} : type_of% (Stp.mk (@Rd.e_cb x0 x1 x2 x3 x4)) := Stp.mk (@Rd.e_cb x0 x1 x2 x3 x4)
instance i_t_test {x0 x1 x2 x3 : _} : type_of% (Stp.mk (@Rd.t_test x0 x1 x2 x3)) := Stp.mk (@Rd.t_test x0 x1 x2 x3)
instance i_s_if {x0 x1 x2 x3 x4 x5 : _} : type_of% (Stp.mk (@Rd.s_if x0 x1 x2 x3 x4 x5)) := Stp.mk (@Rd.s_if x0 x1 x2 x3 x4 x5)
instance i_t_or {x0 x1 x2 x3 x4 : _} : type_of% (Stp.mk (@Rd.t_or x0 x1 x2 x3 x4)) := Stp.mk (@Rd.t_or x0 x1 x2 x3 x4)
instance i_t_and {x0 x1 x2 x3 x4 : _} : type_of% (Stp.mk (@Rd.t_and x0 x1 x2 x3 x4)) := Stp.mk (@Rd.t_and x0 x1 x2 x3 x4)
instance i_t_B {x0 x1 x2 x3 : _} : type_of% (Stp.mk (@Rd.t_B x0 x1 x2 x3)) := Stp.mk (@Rd.t_B x0 x1 x2 x3)
instance i_s_next {x0 x1 x2 : _} : type_of% (Stp.mk (@Rd.s_next x0 x1 x2)) := Stp.mk (@Rd.s_next x0 x1 x2)
instance i_p_some {x0 x1 x2 x3 : _} : type_of% (Stp.mk (@Rd.p_some x0 x1 x2 x3)) := Stp.mk (@Rd.p_some x0 x1 x2 x3)
instance i_p_no {x0 x1 x2 : _} : type_of% (Stp.mk (@Rd.p_no x0 x1 x2)) := Stp.mk (@Rd.p_no x0 x1 x2)
instance i_e_sl {x0 x1 x2 x3 x4 x5 x6 : _} : type_of% (Stp.mk (@Rd.e_sl x0 x1 x2 x3 x4 x5 x6)) := Stp.mk (@Rd.e_sl x0 x1 x2 x3 x4 x5 x6)
instance i_k_i {x0 x1 x2 : _} : type_of% (Stp.mk (@Rd.k_i x0 x1 x2)) := Stp.mk (@Rd.k_i x0 x1 x2)
instance i_e_lstS {x0 x1 x2 x3 : _} : type_of% (Stq.mk (@Sl.e_lstS x0 x1 x2 x3)) := Stq.mk (@Sl.e_lstS x0 x1 x2 x3)
instance i_t_not {x0 x1 x2 x3 : _} : type_of% (Stp.mk (@Rd.t_not x0 x1 x2 x3)) := Stp.mk (@Rd.t_not x0 x1 x2 x3)
instance i_o_I0 {x0 x1 x2 x3 x4 : _} : type_of% (Stp.mk (@Rd.o_I0 x0 x1 x2 x3 x4)) := Stp.mk (@Rd.o_I0 x0 x1 x2 x3 x4)
instance i_e_meth {x0 x1 x2 x3 x4 x5 x6 x7 x8 : _} : type_of% (Stp.mk (@Rd.e_meth x0 x1 x2 x3 x4 x5 x6 x7 x8)) := Stp.mk (@Rd.e_meth x0 x1 x2 x3 x4 x5 x6 x7 x8)
instance i_e_fld {x0 x1 x2 x3 x4 x5 : _} : type_of% (Stp.mk (@Rd.e_fld x0 x1 x2 x3 x4 x5)) := Stp.mk (@Rd.e_fld x0 x1 x2 x3 x4 x5)
instance i_e_not {x0 x1 x2 x3 : _} : type_of% (Stp.mk (@Rd.e_not x0 x1 x2 x3)) := Stp.mk (@Rd.e_not x0 x1 x2 x3)
instance i_s_ret {x0 x1 x2 x3 : _} : type_of% (Stp.mk (@Rd.s_ret x0 x1 x2 x3)) := Stp.mk (@Rd.s_ret x0 x1 x2 x3)
instance i_s_drop {x0 x1 x2 x3 : _} : type_of% (Stp.mk (@Rd.s_drop x0 x1 x2 x3)) := Stp.mk (@Rd.s_drop x0 x1 x2 x3)
instance i_s_retN {x0 x1 x2 : _} : type_of% (Stp.mk (@Rd.s_retN x0 x1 x2)) := Stp.mk (@Rd.s_retN x0 x1 x2)
instance i_s_cont {x0 x1 x2 : _} : type_of% (Stp.mk (@Rd.s_cont x0 x1 x2)) := Stp.mk (@Rd.s_cont x0 x1 x2)
instance i_s_break {x0 x1 x2 : _} : type_of% (Stp.mk (@Rd.s_break x0 x1 x2)) := Stp.mk (@Rd.s_break x0 x1 x2)
instance i_e_un {x0 x1 x2 x3 x4 : _} : type_of% (Stp.mk (@Rd.e_un x0 x1 x2 x3 x4)) := Stp.mk (@Rd.e_un x0 x1 x2 x3 x4)
instance i_o_U {x0 x1 x2 x3 : _} : type_of% (Stp.mk (@Rd.o_U x0 x1 x2 x3)) := Stp.mk (@Rd.o_U x0 x1 x2 x3)
instance i_s_fld {x0 x1 x2 x3 x4 x5 x6 : _} : type_of% (Stp.mk (@Rd.s_fld x0 x1 x2 x3 x4 x5 x6)) := Stp.mk (@Rd.s_fld x0 x1 x2 x3 x4 x5 x6)
instance i_e_makeS {x0 x1 x2 x3 x4 x5 x6 : _} : type_of% (Stq.mk (@Sl.e_makeS x0 x1 x2 x3 x4 x5 x6)) := Stq.mk (@Sl.e_makeS x0 x1 x2 x3 x4 x5 x6)
instance i_e_tupS {x0 x1 x2 x3 : _} : type_of% (Stq.mk (@Sl.e_tupS x0 x1 x2 x3)) := Stq.mk (@Sl.e_tupS x0 x1 x2 x3)
instance i_e_bm {x0 x1 x2 x3 x4 x5 x6 x7 : _} : type_of% (Stp.mk (@Rd.e_bm x0 x1 x2 x3 x4 x5 x6 x7)) := Stp.mk (@Rd.e_bm x0 x1 x2 x3 x4 x5 x6 x7)
instance i_e_bm0 {x0 x1 x2 x3 x4 x5 x6 : _} : type_of% (Stp.mk (@Rd.e_bm0 x0 x1 x2 x3 x4 x5 x6)) := Stp.mk (@Rd.e_bm0 x0 x1 x2 x3 x4 x5 x6)
instance i_e_if {x0 x1 x2 x3 x4 x5 : _} : type_of% (Stp.mk (@Rd.e_if x0 x1 x2 x3 x4 x5)) := Stp.mk (@Rd.e_if x0 x1 x2 x3 x4 x5)
instance i_e_chain {x0 x1 x2 x3 x4 x5 x6 x7 : _} : type_of% (Stp.mk (@Rd.e_chain x0 x1 x2 x3 x4 x5 x6 x7)) := Stp.mk (@Rd.e_chain x0 x1 x2 x3 x4 x5 x6 x7)
instance i_s_raise {x0 x1 x2 x3 x4 x5 x6 : _} : type_of% (Stp.mk (@Rd.s_raise x0 x1 x2 x3 x4 x5 x6)) := Stp.mk (@Rd.s_raise x0 x1 x2 x3 x4 x5 x6)
instance i_g_sub {x0 x1 x2 x3 x4 x5 x6 : _} : type_of% (Stp.mk (@Rd.g_sub x0 x1 x2 x3 x4 x5 x6)) := Stp.mk (@Rd.g_sub x0 x1 x2 x3 x4 x5 x6)
instance i_c_isBool {x0 x1 x2 x3 : _} : type_of% (Stp.mk (@Rd.c_isBool x0 x1 x2 x3)) := Stp.mk (@Rd.c_isBool x0 x1 x2 x3)
instance i_c_isInt {x0 x1 x2 x3 : _} : type_of% (Stp.mk (@Rd.c_isInt x0 x1 x2 x3)) := Stp.mk (@Rd.c_isInt x0 x1 x2 x3)
instance i_c_isBoolN {x0 x1 x2 x3 : _} : type_of% (Stp.mk (@Rd.c_isBoolN x0 x1 x2 x3)) := Stp.mk (@Rd.c_isBoolN x0 x1 x2 x3)
instance i_c_isTupI {x0 x1 x2 x3 : _} : type_of% (Stp.mk (@Rd.c_isTupI x0 x1 x2 x3)) := Stp.mk (@Rd.c_isTupI x0 x1 x2 x3)
instance i_c_isNonB {x0 x1 x2 : _} : type_of% (Stp.mk (@Rd.c_isNonB x0 x1 x2)) := Stp.mk (@Rd.c_isNonB x0 x1 x2)
instance i_c_isNonT {x0 x1 x2 : _} : type_of% (Stp.mk (@Rd.c_isNonT x0 x1 x2)) := Stp.mk (@Rd.c_isNonT x0 x1 x2)
instance i_o_isB {x0 x1 x2 x3 : _} : type_of% (Stp.mk (@Rd.o_isB x0 x1 x2 x3)) := Stp.mk (@Rd.o_isB x0 x1 x2 x3)
instance i_o_notB {x0 x1 x2 x3 : _} : type_of% (Stp.mk (@Rd.o_notB x0 x1 x2 x3)) := Stp.mk (@Rd.o_notB x0 x1 x2 x3)
instance i_e_and {x0 x1 x2 x3 x4 : _} : type_of% (Stp.mk (@Rd.e_and x0 x1 x2 x3 x4)) := Stp.mk (@Rd.e_and x0 x1 x2 x3 x4)
instance i_e_or {x0 x1 x2 x3 x4 : _} : type_of% (Stp.mk (@Rd.e_or x0 x1 x2 x3 x4)) := Stp.mk (@Rd.e_or x0 x1 x2 x3 x4)
instance i_k_bl {x0 x1 : _} : type_of% (Stp.mk (@Rd.k_bl x0 x1)) := Stp.mk (@Rd.k_bl x0 x1)
instance i_e_xf {x0 x1 x2 x3 x4 x5 x6 x7 x8 : _} : type_of% (Stp.mk (@Rd.e_xf x0 x1 x2 x3 x4 x5 x6 x7 x8)) := Stp.mk (@Rd.e_xf x0 x1 x2 x3 x4 x5 x6 x7 x8)
instance i_s_augS {x0 x1 x2 x3 x4 x5 x6 x7 x8 : _} : type_of% (Stp.mk (@Rd.s_augS x0 x1 x2 x3 x4 x5 x6 x7 x8)) := Stp.mk (@Rd.s_augS x0 x1 x2 x3 x4 x5 x6 x7 x8)
instance i_s_aug {x0 x1 x2 x3 x4 x5 x6 x7 : _} : type_of% (Stq.mk (@Sl.s_aug x0 x1 x2 x3 x4 x5 x6 x7)) := Stq.mk (@Sl.s_aug x0 x1 x2 x3 x4 x5 x6 x7)
instance i_ip_I {x0 x1 x2 x3 x4 : _} : type_of% (Stp.mk (@Rd.ip_I x0 x1 x2 x3 x4)) := Stp.mk (@Rd.ip_I x0 x1 x2 x3 x4)
instance i_e_lcE {x0 x1 x2 x3 x4 x5 x6 x7 x8 : _} : type_of% (Stp.mk (@Rd.e_lcE x0 x1 x2 x3 x4 x5 x6 x7 x8)) := Stp.mk (@Rd.e_lcE x0 x1 x2 x3 x4 x5 x6 x7 x8)
instance i_e_lcL {x0 x1 x2 x3 x4 x5 x6 x7 x8 : _} : type_of% (Stq.mk (@Rd.e_lcL x0 x1 x2 x3 x4 x5 x6 x7 x8)) := Stq.mk (@Rd.e_lcL x0 x1 x2 x3 x4 x5 x6 x7 x8)
instance i_f_lst {x0 x1 x2 x3 x4 x5 x6 : _} : type_of% (Stq.mk (@Rd.f_lst x0 x1 x2 x3 x4 x5 x6)) := Stq.mk (@Rd.f_lst x0 x1 x2 x3 x4 x5 x6)
instance i_e_lcF {x0 x1 x2 x3 x4 x5 x6 x7 : _} : type_of% (Stq.mk (@Rd.e_lcF x0 x1 x2 x3 x4 x5 x6 x7)) := Stq.mk (@Rd.e_lcF x0 x1 x2 x3 x4 x5 x6 x7)
instance i_f_rng1 {x0 x1 x2 x3 x4 x5 : _} : type_of% (Stq.mk (@Rd.f_rng1 x0 x1 x2 x3 x4 x5)) := Stq.mk (@Rd.f_rng1 x0 x1 x2 x3 x4 x5)
instance i_e_dget {x0 x1 x2 x3 x4 : _} : type_of% (Stp.mk (@Rd.e_dget x0 x1 x2 x3 x4)) := Stp.mk (@Rd.e_dget x0 x1 x2 x3 x4)
instance i_p_cons {x0 x1 x2 x3 x4 x5 : _} : type_of% (Stq.mk (@Sl.p_cons x0 x1 x2 x3 x4 x5)) := Stq.mk (@Sl.p_cons x0 x1 x2 x3 x4 x5)
instance i_p_nil {x0 x1 x2 : _} : type_of% (Stq.mk (@Sl.p_nil x0 x1 x2)) := Stq.mk (@Sl.p_nil x0 x1 x2)
instance i_s_dput {x0 x1 x2 x3 x4 x5 : _} : type_of% (Stp.mk (@Rd.s_dput x0 x1 x2 x3 x4 x5)) := Stp.mk (@Rd.s_dput x0 x1 x2 x3 x4 x5)
instance i_e_makeKS {x0 x1 x2 x3 x4 x5 x6 x7 x8 : _} : type_of% (Stq.mk (@Sl.e_makeKS x0 x1 x2 x3 x4 x5 x6 x7 x8)) := Stq.mk (@Sl.e_makeKS x0 x1 x2 x3 x4 x5 x6 x7 x8)
instance i_g_cons {x0 x1 x2 x3 x4 x5 x6 : _} : type_of% (Stp.mk (@Rd.g_cons x0 x1 x2 x3 x4 x5 x6)) := Stp.mk (@Rd.g_cons x0 x1 x2 x3 x4 x5 x6)
instance i_g_nil {x0 x1 x2 : _} : type_of% (Stp.mk (@Rd.g_nil x0 x1 x2)) := Stp.mk (@Rd.g_nil x0 x1 x2)
instance i_c_ab {x0 x1 x2 : _} : type_of% (Stp.mk (@Rd.c_ab x0 x1 x2)) := Stp.mk (@Rd.c_ab x0 x1 x2)
instance i_c_in {x0 x1 x2 : _} : type_of% (Stp.mk (@Rd.c_in x0 x1 x2)) := Stp.mk (@Rd.c_in x0 x1 x2)
instance i_c_mx {x0 x1 x2 x3 : _} : type_of% (Stp.mk (@Rd.c_mx x0 x1 x2 x3)) := Stp.mk (@Rd.c_mx x0 x1 x2 x3)
instance i_c_mn {x0 x1 x2 x3 : _} : type_of% (Stp.mk (@Rd.c_mn x0 x1 x2 x3)) := Stp.mk (@Rd.c_mn x0 x1 x2 x3)
instance i_a1 {x0 x1 x2 x3 x4 : _} : type_of% (Stp.mk (@Rd.a1 x0 x1 x2 x3 x4)) := Stp.mk (@Rd.a1 x0 x1 x2 x3 x4)
instance i_a2 {x0 x1 x2 x3 x4 x5 : _} : type_of% (Stp.mk (@Rd.a2 x0 x1 x2 x3 x4 x5)) := Stp.mk (@Rd.a2 x0 x1 x2 x3 x4 x5)
instance i_a3 {x0 x1 x2 x3 x4 x5 x6 : _} : type_of% (Stp.mk (@Rd.a3 x0 x1 x2 x3 x4 x5 x6)) := Stp.mk (@Rd.a3 x0 x1 x2 x3 x4 x5 x6)
instance i_a4 {x0 x1 x2 x3 x4 x5 x6 x7 : _} : type_of% (Stp.mk (@Rd.a4 x0 x1 x2 x3 x4 x5 x6 x7)) := Stp.mk (@Rd.a4 x0 x1 x2 x3 x4 x5 x6 x7)
instance i_a5 {x0 x1 x2 x3 x4 x5 x6 x7 x8 : _} : type_of% (Stp.mk (@Rd.a5 x0 x1 x2 x3 x4 x5 x6 x7 x8)) := Stp.mk (@Rd.a5 x0 x1 x2 x3 x4 x5 x6 x7 x8)
instance i_a6 {x0 x1 x2 x3 x4 x5 x6 x7 x8 x9 : _} : type_of% (Stp.mk (@Rd.a6 x0 x1 x2 x3 x4 x5 x6 x7 x8 x9)) := Stp.mk (@Rd.a6 x0 x1 x2 x3 x4 x5 x6 x7 x8 x9)
instance i_a0 {x0 x1 x2 x3 : _} : type_of% (Stp.mk (@Rd.a0 x0 x1 x2 x3)) := Stp.mk (@Rd.a0 x0 x1 x2 x3)
instance i_t_tru {x0 x1 x2 x3 x4 : _} : type_of% (Stp.mk (@Rd.t_tru x0 x1 x2 x3 x4)) := Stp.mk (@Rd.t_tru x0 x1 x2 x3 x4)
instance i_t_yes {x0 x1 x2 : _} : type_of% (Stp.mk (@Rd.t_yes x0 x1 x2)) := Stp.mk (@Rd.t_yes x0 x1 x2)
instance i_e_lst {x0 x1 x2 x3 : _} : type_of% (Stw.mk (@e_lst x0 x1 x2 x3)) := Stw.mk (@e_lst x0 x1 x2 x3)
instance i_e_tup {x0 x1 x2 x3 : _} : type_of% (Stw.mk (@e_tup x0 x1 x2 x3)) := Stw.mk (@e_tup x0 x1 x2 x3)
instance i_e_make {x0 x1 x2 x3 x4 x5 x6 : _} : type_of% (Stw.mk (@e_make x0 x1 x2 x3 x4 x5 x6)) := Stw.mk (@e_make x0 x1 x2 x3 x4 x5 x6)
instance i_e_makeK {x0 x1 x2 x3 x4 x5 x6 x7 x8 : _} : type_of% (Stw.mk (@e_makeK x0 x1 x2 x3 x4 x5 x6 x7 x8)) := Stw.mk (@e_makeK x0 x1 x2 x3 x4 x5 x6 x7 x8)
instance n1_kMeth {x0 x1 x2 x3 x4 x5 x6 x7 x8 : _} : type_of% (Cn.mk (n := 1) (G := kMeth x0 x1 x2 x3 x4 x5 x6 x7 x8) True.intro) := Cn.mk (n := 1) (G := kMeth x0 x1 x2 x3 x4 x5 x6 x7 x8) True.intro
instance n1_kFld {x0 x1 x2 x3 x4 : _} : type_of% (Cn.mk (n := 1) (G := kFld x0 x1 x2 x3 x4) True.intro) := Cn.mk (n := 1) (G := kFld x0 x1 x2 x3 x4) True.intro
instance n2_kNewL {x0 x1 x2 : _} : type_of% (Cn.mk (n := 2) (G := kNewL x0 x1 x2) True.intro) := Cn.mk (n := 2) (G := kNewL x0 x1 x2) True.intro
instance n2_kNewT {x0 x1 x2 : _} : type_of% (Cn.mk (n := 2) (G := kNewT x0 x1 x2) True.intro) := Cn.mk (n := 2) (G := kNewT x0 x1 x2) True.intro
instance n2_kMake {x0 x1 x2 x3 x4 x5 : _} : type_of% (Cn.mk (n := 2) (G := kMake x0 x1 x2 x3 x4 x5) True.intro) := Cn.mk (n := 2) (G := kMake x0 x1 x2 x3 x4 x5) True.intro
instance n2_kSet {x0 x1 x2 x3 x4 x5 : _} : type_of% (Cn.mk (n := 2) (G := kSet x0 x1 x2 x3 x4 x5) True.intro) := Cn.mk (n := 2) (G := kSet x0 x1 x2 x3 x4 x5) True.intro
instance n3_rI {x0 x1 x2 x3 x4 x5 : _} : type_of% (Cn.mk (n := 3) (G := rI x0 x1 x2 x3 x4 x5) True.intro) := Cn.mk (n := 3) (G := rI x0 x1 x2 x3 x4 x5) True.intro
instance n3_rEq {x0 x1 x2 x3 : _} : type_of% (Cn.mk (n := 3) (G := rEq x0 x1 x2 x3) True.intro) := Cn.mk (n := 3) (G := rEq x0 x1 x2 x3) True.intro
instance n3_rNe {x0 x1 x2 x3 : _} : type_of% (Cn.mk (n := 3) (G := rNe x0 x1 x2 x3) True.intro) := Cn.mk (n := 3) (G := rNe x0 x1 x2 x3) True.intro
instance n4_rIxL {x0 x1 x2 x3 x4 : _} : type_of% (Cn.mk (n := 4) (G := rIxL x0 x1 x2 x3 x4) True.intro) := Cn.mk (n := 4) (G := rIxL x0 x1 x2 x3 x4) True.intro
instance n4_rIxT {x0 x1 x2 x3 x4 : _} : type_of% (Cn.mk (n := 4) (G := rIxT x0 x1 x2 x3 x4) True.intro) := Cn.mk (n := 4) (G := rIxT x0 x1 x2 x3 x4) True.intro
instance n4_rLn {x0 x1 x2 x3 : _} : type_of% (Cn.mk (n := 4) (G := rLn x0 x1 x2 x3) True.intro) := Cn.mk (n := 4) (G := rLn x0 x1 x2 x3) True.intro
instance n4_kTru {x0 x1 x2 x3 : _} : type_of% (Cn.mk (n := 4) (G := kTru x0 x1 x2 x3) True.intro) := Cn.mk (n := 4) (G := kTru x0 x1 x2 x3) True.intro
instance n4_gTup {x0 x1 x2 x3 x4 x5 x6 : _} : type_of% (Cn.mk (n := 4) (G := gTup x0 x1 x2 x3 x4 x5 x6) True.intro) := Cn.mk (n := 4) (G := gTup x0 x1 x2 x3 x4 x5 x6) True.intro
instance n4_And {x0 x1 : _} : type_of% (Cn.mk (n := 4) (G := And x0 x1) True.intro) := Cn.mk (n := 4) (G := And x0 x1) True.intro
instance n5_rAppend {x0 x1 x2 x3 : _} : type_of% (Cn.mk (n := 5) (G := rAppend x0 x1 x2 x3) True.intro) := Cn.mk (n := 5) (G := rAppend x0 x1 x2 x3) True.intro
instance n5_rPopAt {x0 x1 x2 x3 : _} : type_of% (Cn.mk (n := 5) (G := rPopAt x0 x1 x2 x3) True.intro) := Cn.mk (n := 5) (G := rPopAt x0 x1 x2 x3) True.intro
instance n5_rLs {x0 x1 x2 x3 : _} : type_of% (Cn.mk (n := 5) (G := rLs x0 x1 x2 x3) True.intro) := Cn.mk (n := 5) (G := rLs x0 x1 x2 x3) True.intro
instance n5_rSlL {x0 x1 x2 x3 x4 x5 : _} : type_of% (Cn.mk (n := 5) (G := rSlL x0 x1 x2 x3 x4 x5) True.intro) := Cn.mk (n := 5) (G := rSlL x0 x1 x2 x3 x4 x5) True.intro
instance n5_rClear {x0 x1 x2 x3 : _} : type_of% (Cn.mk (n := 5) (G := rClear x0 x1 x2 x3) True.intro) := Cn.mk (n := 5) (G := rClear x0 x1 x2 x3) True.intro
instance n5_rCat {x0 x1 x2 x3 : _} : type_of% (Cn.mk (n := 5) (G := rCat x0 x1 x2 x3) True.intro) := Cn.mk (n := 5) (G := rCat x0 x1 x2 x3) True.intro
instance n5_rExtend {x0 x1 x2 x3 : _} : type_of% (Cn.mk (n := 5) (G := rExtend x0 x1 x2 x3) True.intro) := Cn.mk (n := 5) (G := rExtend x0 x1 x2 x3) True.intro
instance n6_kRaise {x0 x1 x2 x3 x4 x5 : _} : type_of% (Cn.mk (n := 6) (G := kRaise x0 x1 x2 x3 x4 x5) True.intro) := Cn.mk (n := 6) (G := kRaise x0 x1 x2 x3 x4 x5) True.intro
instance n6_rIsi {x0 x1 x2 x3 : _} : type_of% (Cn.mk (n := 6) (G := rIsi x0 x1 x2 x3) True.intro) := Cn.mk (n := 6) (G := rIsi x0 x1 x2 x3) True.intro
instance n6_kXf {x0 x1 x2 x3 x4 x5 x6 x7 : _} : type_of% (Cn.mk (n := 6) (G := kXf x0 x1 x2 x3 x4 x5 x6 x7) True.intro) := Cn.mk (n := 6) (G := kXf x0 x1 x2 x3 x4 x5 x6 x7) True.intro
instance n6_kDGet {x0 x1 x2 x3 : _} : type_of% (Cn.mk (n := 6) (G := kDGet x0 x1 x2 x3) True.intro) := Cn.mk (n := 6) (G := kDGet x0 x1 x2 x3) True.intro
instance n6_tDisp {x0 x1 x2 x3 : _} : type_of% (Cn.mk (n := 6) (G := tDisp x0 x1 x2 x3) True.intro) := Cn.mk (n := 6) (G := tDisp x0 x1 x2 x3) True.intro
instance n6_kDisp {x0 x1 x2 x3 : _} : type_of% (Cn.mk (n := 6) (G := kDisp x0 x1 x2 x3) True.intro) := Cn.mk (n := 6) (G := kDisp x0 x1 x2 x3) True.intro
instance n6_kDPut {x0 x1 x2 x3 x4 : _} : type_of% (Cn.mk (n := 6) (G := kDPut x0 x1 x2 x3 x4) True.intro) := Cn.mk (n := 6) (G := kDPut x0 x1 x2 x3 x4) True.intro
instance n6_tAug {x0 x1 x2 x3 x4 x5 : _} : type_of% (Cn.mk (n := 6) (G := tAug x0 x1 x2 x3 x4 x5) True.intro) := Cn.mk (n := 6) (G := tAug x0 x1 x2 x3 x4 x5) True.intro
instance n6_And {x0 x1 : _} : type_of% (Cn.mk (n := 6) (G := And x0 x1) True.intro) := Cn.mk (n := 6) (G := And x0 x1) True.intro
instance (priority := 2000) i_o_chC {s H Q x y c : _} : type_of% (Stp.mk (@o_chC s H Q x y c)) := Stp.mk (@o_chC s H Q x y c)
instance (priority := 2000) i_o_chV {s H Q x y c i : _} [h : Lk s i (.int c)] : type_of% (Stp.mk (@o_chV s H Q x y c i h.h)) := Stp.mk (@o_chV s H Q x y c i h.h)
class GetC (a : Addr) (L : List As) (o : outParam HO) : Prop where
  h : ∀ {H : Hp}, St L H → H a = some o
class SelC (a : Addr) (L : List As) (o : outParam HO) (R : outParam (List As)) : Prop where
  s : Sel (cell a o) L R
class SqC (K : PySem.W.Frag) (a : Addr) (L : List As) (xs : outParam (List V)) : Prop where
  h : ∀ {H : Hp}, St L H → SqL K H a xs
class SqTC (K : PySem.W.Frag) (a : Addr) (L : List As) (xs : outParam (List V)) : Prop where
  h : ∀ {H : Hp}, St L H → SqT K H a xs
section
variable {K : PySem.W.Frag} {D : Ends} {σ : L2.St} {L R : List As} {H : Hp} {Q : VK} {Rk : Hp → Prop} {a p C dx : Addr} {f m : Str} {fs fs' : List (Str × V)} {v y : V} {xs : List V} {tl : TA} {n : Int} {o : HO} {A : As} {φ G S T : Prop} {QT : Bool → Hp → Prop}
class KIs (K : PySem.W.Frag) (K0 : outParam PySem.W.Frag) : Prop where
  h : K = K0
instance (priority := low) : KIs K K := ⟨rfl⟩
instance {CX : CXT} {P : Program} {w : World} {K : PySem.W.Frag} {mg : Str → Option Value} {base : Heap} {N : List Str} {q : Str} {sc : Scope} {f : Addr} {cd : Value} {A : Around} {o : List Env} {s : Shared} {H : Hp} {E : XK} : KIs (cxOf CX P w K mg base N q sc f cd A o s H E).K K := ⟨rfl⟩
instance (priority := low) [h : GetC a L o] : GetC a (A :: L) o := ⟨fun hs => h.h (hs.perm (Sels.skip (Sels.all _)))⟩
instance : GetC a (cell a o :: L) o := ⟨fun hs => hs.get .here⟩
instance : GetC a (icell a o :: L) o := ⟨fun hs => hs.geti .here⟩
instance (priority := low) [h : SelC a L o R] : SelC a (A :: L) o (A :: R) := ⟨.there h.s⟩
instance : SelC a (cell a o :: L) o L := ⟨.here⟩
instance (priority := low) [h : SqC K a L xs] : SqC K a (A :: L) xs := ⟨fun hs => h.h (hs.perm (Sels.skip (Sels.all _)))⟩
instance : SqC K a (cell a (.lst xs) :: L) xs := ⟨fun hs => Or.inl (Or.inl (hs.get .here))⟩
instance {K0 : PySem.W.Frag} [e : KIs K K0] : SqC K a (sqA K0 a xs :: L) xs := ⟨fun hs => e.h ▸ sqA.U hs .here⟩
instance (priority := low) [h : SqTC K a L xs] : SqTC K a (A :: L) xs := ⟨fun hs => h.h (hs.perm (Sels.skip (Sels.all _)))⟩
instance : SqTC K a (icell a (.tup xs) :: L) xs := ⟨fun hs => Or.inl (Or.inl (hs.geti .here))⟩
class Lkp (fs : List (Str × V)) (f : Str) (v : outParam V) : Prop where
  h : fs.lookup f = some v
class NoL (fs : List (Str × V)) (m : Str) : Prop where
  h : fs.lookup m = none
class Ptf (f : Str) (y : V) (fs : List (Str × V)) (fs' : outParam (List (Str × V))) : Prop where
  h : putF f y fs = fs'
class LnF (fs : List (Str × V)) : Prop where
  h : fs.length < 1000
class Noa (φ : Prop) (K : PySem.W.Frag) (C : Addr) (f : Str) : Prop where
  h : φ → Cls K C ∧ NoAttr K C f
/-- one reading step that keeps the heap -/
class Hst (φ : Prop) (L : List As) (H : Hp) (G : Prop) (S : outParam Prop) : Prop where
  go : φ → St L H → S → G
instance [s : Stq G S] : Hst φ L H G S := ⟨fun _ _ h => s.go h⟩
instance [g : GetC a L (.ins C dx fs)] [n : NoL fs m] {E : XK} {sp : Sp} : Hst φ L H (kMeth C m sp E tl σ (.ref a) H Q) (tl σ H fun vs H2 => sp (.ref a :: vs) H2 Q E) := ⟨fun _ hs q => k_meth (g.h hs) n.h q⟩
instance [g : GetC a L (.ins C dx fs)] {K0 : PySem.W.Frag} [e : KIs K K0] [c : Noa φ K0 C f] [l : Lkp fs f v] : Hst φ L H (kFld K f (.ref a) H Q) (Q v H) := ⟨fun t hs q => by have ⟨c1, c2⟩ := c.h t; rw [← e.h] at c1 c2; exact k_fld (g.h hs) c1 c2 l.h q⟩
instance [g : SqC K p L xs] : Hst φ L H (rLn K [.ref p] H Q) (Q (.int xs.length) H) := ⟨fun _ hs q => c_ln (g.h hs) q⟩
instance [g : SqTC K p L xs] : Hst φ L H (rLn K [.ref p] H Q) (Q (.int xs.length) H) := ⟨fun _ hs q => c_lnT (g.h hs) q⟩
instance [g : SqC K p L xs] : Hst φ L H (kTru K (.ref p) H QT) (QT (!xs.isEmpty) H) := ⟨fun _ hs q => k_truL (g.h hs) q⟩
instance [g : SqC K p L xs] {R : Prop} : Hst φ L H (tyV K "list" (.ref p) H ∧ R) R := ⟨fun _ hs q => k_ty (g.h hs) q⟩
class Hsx (φ : Prop) (L : List As) (H : Hp) (G : Prop) (S : outParam Prop) : Prop where
  go : φ → St L H → S → G
instance (priority := low) : Hsx φ L H G G := ⟨fun _ _ h => h⟩
instance [s : Hst φ L H G S] [t : Hsx φ L H S T] : Hsx φ L H G T := ⟨fun a b h => s.go a b (t.go a b h)⟩
theorem Wk {S T : Prop} (t : φ) (hs : St L H) [s : Hst φ L H G S] [u : Hsx φ L H S T] (h : T) : G := s.go t hs (u.go t hs h)
class Stx (G : Prop) (S : outParam Prop) : Prop where
  go : S → G
instance (priority := low) : Stx G G := ⟨fun h => h⟩
instance [s : Stq G S] [t : Stx S T] : Stx G T := ⟨fun h => s.go (t.go h)⟩
theorem Wj {S T : Prop} [s : Stq G S] [u : Stx S T] (h : T) : G := s.go (u.go h)
class Swx (G : Prop) (S : outParam Prop) : Prop where
  go : S → G
instance (priority := low) : Swx G G := ⟨fun h => h⟩
instance [s : Stw G S] [t : Swx S T] : Swx G T := ⟨fun h => s.go (t.go h)⟩
theorem Wr {S T : Prop} [s : Stw G S] [u : Swx S T] (h : T) : G := s.go (u.go h)
class SelT (P : As) (L : List As) (R : outParam (List As)) : Prop where
  s : Sel P L R
class SelsU (Ps L : List As) (R : outParam (List As)) : Prop where
  s : Sels Ps L R
class SelsT (Ps L : List As) (R : outParam (List As)) : Prop where
  s : Sels Ps L R
section
variable {P A : As} {Ps L M R : List As}
instance (priority := low) [h : SelT P L R] : SelT P (A :: L) (A :: R) := ⟨.there h.s⟩
instance : SelT P (P :: L) L := ⟨.here⟩
instance (priority := low) [h : SelsU Ps L R] : SelsU Ps (A :: L) (A :: R) := ⟨.skip h.s⟩
instance : SelsU L L [] := ⟨.all L⟩
instance (priority := low) [h : SelsU Ps L R] : SelsT Ps L R := ⟨h.s⟩
instance [h : SelT P L M] [g : SelsT Ps M R] : SelsT (P :: Ps) L R := ⟨.cons h.s g.s⟩
instance : SelsT [] L L := ⟨.nil⟩
end
instance i_augV {D s H to tip i x : _} [h : Lk s i x] : type_of% (Stp.mk (@s_augV D s H to tip i x h.h)) := Stp.mk (@s_augV D s H to tip i x h.h)
theorem k_setC (t : φ) (hs : St L H) [s : SelC a L (.ins C dx fs) R] {K0 : PySem.W.Frag} [e : KIs K K0] [c : Noa φ K0 C f] [q : Ptf f y fs fs'] [l : LnF fs] (k : ∀ H', St (cell a (.ins C dx fs') :: R) H' → Rk H') : kSet K f y (.ref a) H Rk := by
  have ⟨c1, c2⟩ := c.h t
  rw [← e.h] at c1 c2
  exact k_setS hs s.s c1 c2 q.h l.h k
theorem Noa.no (t : φ) {K0 : PySem.W.Frag} [e : KIs K K0] [c : Noa φ K0 C f] : NoAttr K C f := e.h ▸ (c.h t).2
theorem Noa.cl (t : φ) {K0 : PySem.W.Frag} [e : KIs K K0] [c : Noa φ K0 C f] : Cls K C := e.h ▸ (c.h t).1
end
end Sl
/-! Promises that are kept where no text of a list is being made: what `repr` of a list wants. -/
set_option Elab.async false
set_option linter.all false
set_option maxRecDepth 100000
namespace L2
open PySem PySem.Spec PyProof.Rows

/-- a def's promise, asked for only where nothing guards -/
structure FnG (P : Program) (w : World) (K : PySem.W.Frag) (mg : Str → Option Value) (base : Heap) (CX : CXT) (k : Nat) (f : Addr) (fd : FuncData) (ps : List Str) (sp : Sp) : Prop where
  ar : ∀ vs H Q E, sp vs H Q E → vs.length = ps.length
  go : ∀ (A : Around) (outer : List Env) (s : Shared) (H : Hp) (args : Args) (us : List Value) (vs : List V) (Q : VK) (E : XK), A.guards = some [] → Room k A → Env0 P w K mg base A outer s H → BindsTo s fd args (ps.zip us) → Vals vs us → sp vs H Q E →
    codeAny (model P w) A (.call (.ref f) args) (CR CX outer P w H s Q E) s
section
variable {P : Program} {w : World} {K : PySem.W.Frag} {mg : Str → Option Value} {base : Heap} {CX : CXT} {k : Nat} {f : Addr} {fd : FuncData} {ps : List Str} {sp : Sp}
theorem FnOk.g (F : FnOk P w K mg base CX k f fd ps sp) : FnG P w K mg base CX k f fd ps sp :=
  ⟨F.len, fun A outer s H args us vs Q E _ => F.run A outer s H args us vs Q E⟩
theorem FnG.imp {sp' : Sp} (F : FnG P w K mg base CX k f fd ps sp) (h : ∀ vs H Q E, sp' vs H Q E → sp vs H Q E) : FnG P w K mg base CX k f fd ps sp' :=
  ⟨fun vs H Q E q => F.ar vs H Q E (h _ _ _ _ q), fun A outer s H args us vs Q E g hr e b v q => F.go A outer s H args us vs Q E g hr e b v (h _ _ _ _ q)⟩
end

/-- a fall out of a body, told to the caller -/
theorem told_of {CX : CXT} {P : Program} {w : World} {K : PySem.W.Frag} {mg : Str → Option Value} {base : Heap} {N : List Str} {qual : Str} {scope : Scope} {f : Addr} {cd : Value} {A : Around} {outer : List Env} {s s' : Shared} {H H' : Hp} {E : XK} {σ : St} {Q : VK} {v : V} {u : Value}
    (J : Inv (cxOf CX P w K mg base N qual scope f cd A outer s H E) [] σ H' s') (r : RelV v u) (q : Q v H') : CE outer P w H s Q u s' := ⟨v, H', J.os, J.bare, J.base, J.hok, r, q⟩

/-- the body keeps the promise; it may use that nothing guards -/
theorem fn_ofG {CX : CXT} {P : Program} {w : World} {K : PySem.W.Frag} {mg : Str → Option Value} {base : Heap} {k : Nat} {f : Addr} {name qual : Str} {params : Arguments} {body : List Stmt} {scope : Scope} {dV kV doc pm cdv ct oc : Value} {an od : Option Addr}
    {osl : Array (Option Value)} {N ps : List Str} {sp : Sp} (lk : K.lookup f = some ⟨oc, od, .func (PySem.W.fnOf name qual params body scope dV kV doc pm an cdv ct), osl⟩) (hcd : PySem.W.codeIn K cdv qual = true) (S : FnScope N ps scope)
    (ar : ∀ vs H Q E, sp vs H Q E → vs.length = ps.length)
    (hb : ∀ (A : Around) (outer : List Env) (s : Shared) (H : Hp) (vs : List V) (Q : VK) (E : XK), A.guards = some [] → Room k (A.deeper (envOfC qual scope s.heap.objs.size f cdv)) → sp vs H Q E →
      ∃ t, PSs (cxOf CX P w K mg base N qual scope f cdv A outer s H E) body t ∧ t { nx := fun _ H' => Q .non H', rt := Q } (start N vs) H) :
    FnG P w K mg base CX (k + 1) f (PySem.W.fnOf name qual params body scope dV kV doc pm an cdv ct) ps sp where
  ar := ar
  go A outer s H args us vs Q E g hr e0 hbd r hsp := by
    have KX : K.In s.heap := e0.mod.kin.keeps fun b o e => (e0.bs b o e).1
    refine codeAny_call_function hr.depth (KX _ _ lk) rfl S.co S.gen rfl (PySem.W.codeRec_of KX hcd) (hbd _ _ _ _ (wpAny_newFunctionEnv_cells S.kind (fun y hy => ?_) fun env he s1 x => ?_))
    · exact (S.par y.1 (List.of_mem_zip hy).1).imp id fun q => ⟨q, PySem.W.cellsFrom_some _ _ _ (.inl q)⟩
    · subst he
      obtain ⟨t, ht, hq⟩ := hb A outer s H vs Q E g (hr.deeper _) hsp
      refine ⟨(e0.mod.nolimit.keeps fun b o e => (e0.bs b o e).1).keeps x.toInCall.keep, codeAny_func (wpAny_mono (ht.run [] s1 (start N vs) H _ (inv_start S hr.hd e0 (ar _ _ _ _ hsp) r x) hq) (fun fl s' hs => ?_) fun e s' hs => hs)⟩
      match fl, hs with
      | .ret u, ⟨v, σ', H', J, rv, q⟩ => exact told_of J rv q
      | .next, ⟨σ', H', J, q⟩ => exact told_of (v := V.non) (u := Value.none) J rfl q
      | .brk, ⟨_, _, _, q⟩ => exact q.elim
      | .cont, ⟨_, _, _, q⟩ => exact q.elim
section
variable {P : Program} {w : World} {K : PySem.W.Frag} {mg : Str → Option Value} {base : Heap}
theorem Fun.okG {x qual : Str} {st : Stmt} {f : Addr} {fd : FuncData} {N ps : List Str} {k : Nat} {sp : Sp} (F : Fun K x qual st f fd) (S : FnScope N ps (defScope st)) (ar : ∀ vs H Q E, sp vs H Q E → vs.length = ps.length)
    (hb : ∀ (cdv : Value) (A : Around) (outer : List Env) (s : Shared) (H : Hp) (vs : List V) (Q : VK) (E : XK), A.guards = some [] → Room k (A.deeper (envOfC qual (defScope st) s.heap.objs.size f cdv)) → sp vs H Q E →
      ∃ t, PSs (cxOf (L2.CX P w) P w K mg base N qual (defScope st) f cdv A outer s H E) (defBody st) t ∧ t { nx := fun _ H' => Q .non H', rt := Q } (start N vs) H) : FnG P w K mg base (L2.CX P w) (k + 1) f fd ps sp := by
  obtain ⟨oc, od, kV, doc, pm, an, cdv, ct, osl, rfl, lk, hcd⟩ := F.ex
  exact fn_ofG lk hcd S ar fun A outer s H vs Q E g hr hsp => hb cdv A outer s H vs Q E g hr hsp
end
theorem gd_deeper {A : Around} {env : Env} (g : A.guards = some []) : (A.deeper env).guards = some [] := g

section
variable {X : Cx} {CX : CXT} {k : Nat} {f : Addr} {fd : FuncData} {ps : List Str} {sp : Sp} {dvs : List V} {ds : List Value} {E : XK} {x : Str} {p pos : Pos} {e : Expr} {es : List Expr} {t : TA}
/-- the text of a list -/
def rRepr (K : PySem.W.Frag) : List V → Hp → VK → Prop := fun xs H Q => ∃ a d, xs = [.ref a] ∧ Dp K H (.ref a) d ∧ d.hasDict = false ∧ d.showable = true ∧ d.depth ≤ 32 ∧ d.shown.length ≤ sizeLine ∧ Q (.str d.shown) H
theorem call_repr (g : X.A.guards = some []) (hu : X.A.units + 64 < cLine) : CallR X (.builtin "repr") (rRepr X.K) := by
  intro pins s σ H xs us Q I r ⟨a, d, e, hd, h0, h1, h2, h3, q⟩
  subst e
  obtain ⟨u, rfl, ru⟩ := vals1 r
  obtain ⟨as, hr⟩ := Dp.reads I d _ _ hd ru
  cases (show u = Value.ref a from ru)
  exact repr_of_reads' hr h1 (fun z => by rw [h0] at z; cases z) g (by omega) (fun _ _ z => z) (fun h' u tk hk => ⟨.str d.shown, H, I.kept hk, ⟨u, rfl⟩, q⟩) h3
theorem run_fnG {pins : List (Addr × Obj)} {σ : St} {H : Hp} {s : Shared} {Q : VK} {us : List Value} {vs : List V} (F : FnG X.prog X.w X.K X.mg X.base CX k f fd ps sp) (g : X.A.guards = some []) (hr : Room k X.A) (hb : Binds X.K fd ps ds) (hd : Vals dvs ds) (hx : Passes CX X E)
    (I : Inv X pins σ H s) (r : Vals vs us) (h : sp (vs ++ dvs) H Q E) : wpAny (model X.prog X.w) X.A (call (.ref f) us) (EP X pins σ Q) X.xe s := by
  have hl : (us ++ ds).length = ps.length := (r.append hd).length ▸ F.ar _ _ _ _ h
  refine wpAny_call (codeAny_mono (F.go X.A X.stack s H ⟨us, []⟩ (us ++ ds) (vs ++ dvs) Q E g hr I.env0 (hb s us I.kIn hl) (r.append hd) h) fun r s' hq => ?_)
  match r, hq with
  | .error e, hq => exact hx pins σ H s e s' I hq
  | .ok (.ret u), hq => exact I.after hq
  | .ok .next, hq => exact hq.elim
  | .ok .brk, hq => exact hq.elim
  | .ok .cont, hq => exact hq.elim
theorem pe_callG (F : FnG X.prog X.w X.K X.mg X.base CX k f fd ps sp) (g : X.A.guards = some []) (hr : Room k X.A) (hg : Gl X x) (hm : X.mg x = some (.ref f)) (hk : PySem.W.keepIn X.K (.ref f) = true) (hb : Binds X.K fd ps ds) (hd : Vals dvs ds) (hx : Passes CX X E)
    (ha : PA X (e :: es) t) (hdb : (x == ("__debug__" : Str)) = false := by decide) (he : starEach (e :: es) X.env = (false, eval e X.env) :: starEach es X.env := by rfl) (hpl : (backTo pos (starEach es X.env)).any (·.1) = false := by rfl) :
    PE X (.Call (.Name x p) (e :: es) [] pos) (tCall sp dvs E t) :=
  ⟨fun pins s σ H Q I h => wpAny_Call_Name_kw (ld_glob I hg hm (PySem.W.callWith_K (h₀ := X.base) I.ok.mod.kin hk (thn (ha.run pos pins s σ H _ I h) fun us s1 ⟨vs, H1, I1, r, q⟩ => ⟨I1.kIn, run_fnG F g hr hb hd hx I1 r q⟩) he hpl) hdb)⟩
end

section
variable {X : Cx} {CX : CXT} {k : Nat} {f : Addr} {fd : FuncData} {ps : List Str} {sp : Sp} {E : L2.St → XK} {x : Str} {p pos : Pos} {e : Expr} {es : List Expr} {t : TA}
theorem pe_callGS (F : FnG X.prog X.w X.K X.mg X.base CX k f fd ps sp) (g : X.A.guards = some []) (hr : Room k X.A) (hg : Gl X x) (hm : X.mg x = some (.ref f)) (hk : PySem.W.keepIn X.K (.ref f) = true) (hb : Binds X.K fd ps []) (hx : ∀ σ, PassesAt CX X σ (E σ))
    (ha : PA X (e :: es) t) (hdb : (x == ("__debug__" : Str)) = false := by decide) (he : starEach (e :: es) X.env = (false, eval e X.env) :: starEach es X.env := by rfl) (hpl : (backTo pos (starEach es X.env)).any (·.1) = false := by rfl) :
    PE X (.Call (.Name x p) (e :: es) [] pos) (tCallS sp E t) := by
  refine ⟨fun pins s σ H Q I h => wpAny_Call_Name_kw (ld_glob I hg hm (PySem.W.callWith_K (h₀ := X.base) I.ok.mod.kin hk (thn (ha.run pos pins s σ H _ I h) fun us s1 ⟨vs, H1, I1, r, q⟩ => ⟨I1.kIn, ?_⟩) he hpl) hdb)⟩
  have hl : us.length = ps.length := r.length ▸ F.ar _ _ _ _ q
  have b := hb s1 us I1.kIn (by rw [List.append_nil]; exact hl)
  rw [List.append_nil] at b
  refine wpAny_call (codeAny_mono (F.go X.A X.stack s1 H1 ⟨us, []⟩ us vs Q (E σ) g hr I1.env0 b r q) fun r s' hq => ?_)
  match r, hq with
  | .error e, hq => exact hx σ pins H1 s1 e s' I1 hq
  | .ok (.ret u), hq => exact I1.after hq
  | .ok .next, hq => exact hq.elim
  | .ok .brk, hq => exact hq.elim
  | .ok .cont, hq => exact hq.elim
end

/-! ### the law's call, from nothing -/
section
variable {P : Program} {w : World} {K : PySem.W.Frag} {mg mb : Str → Option Value} {CX : CXT} {k : Nat} {fa a : Addr} {fd : FuncData} {x : Str} {sp : Sp} {s₁ : Shared} {vs : List Value} {ns : List Int}
/-- the heap at the law's call: the script alone, if it is not one of the module's own lists -/
def H_in (K : PySem.W.Frag) (a : Addr) (vs : List Value) (ns : List Int) : Hp :=
  fun b => if K.lookup a = none ∧ b = a then some (.frz { cls := .type "list", data := .seq vs.toArray } (.lst (ns.map V.int))) else none
theorem H_in_some {b : Addr} {o : HO} (h : H_in K a vs ns b = some o) : K.lookup a = none ∧ b = a ∧ o = .frz { cls := .type "list", data := .seq vs.toArray } (.lst (ns.map V.int)) := by
  unfold H_in at h
  split at h
  · rename_i c; exact ⟨c.1, c.2, (Option.some.inj h).symm⟩
  · cases h
theorem H_in_none {b : Addr} (h : K.lookup a = none → b ≠ a) : H_in K a vs ns b = none := if_neg fun c => h c.1 c.2
theorem law_callG (KX : K.In s₁.heap) (hns : s₁.heap.Ns mainGlobals mg) (hb : s₁.heap.Ns builtinsNs mb) (hbb : ∀ x : Str, x ≠ "__name__" → mb x = bootBuiltins x) (hlim : s₁.heap.NoLimit) (hg : s₁.gens = #[])
    (ha : s₁.heap.get? a = some { cls := .type "list", data := .seq vs.toArray }) (hi : IntsAre vs ns) (hl : ns.length ≤ sizeLine) (hr : Room k callerA)
    (F : ∀ base : Heap, K.In base → base.Ns mainGlobals mg → FnG P w K mg base CX k fa fd [x] sp) (hbind : ∀ (s : Shared) (u : Value), BindsTo s fd ⟨[u], []⟩ [(x, u)])
    (hsp : ∀ H : Hp, Only H → SqL K H a (ns.map V.int) → sp [.ref a] H (fun v _ => v = .bl true) fun _ _ _ => False)
    (hCX : ∀ H e s', CX [] H s₁ (fun _ _ _ => False) e s' → False) :
    codeAny (model P w) callerA (.call (.ref fa) ⟨[.ref a], []⟩) (fun r s' => r = .ok (.ret (.bool true)) ∧ OldK s₁.heap s'.heap ∧ s'.os = s₁.os ∧ AllBare s'.gens) s₁ := by
  have rv := vals_ints hi
  have hO : Only (H_in K a vs ns) := fun b => by
    cases q : H_in K a vs ns b with
    | none => exact .inl rfl
    | some o => obtain ⟨_, _, rfl⟩ := H_in_some q; exact .inr ⟨_, _, rfl⟩
  have hok : HOk P w (H_in K a vs ns) s₁.heap := fun b o q => by
    obtain ⟨_, rfl, rfl⟩ := H_in_some q
    exact ⟨ha, by rw [List.length_map]; exact hl, vs, _, rv, ha⟩
  have hS : SqL K (H_in K a vs ns) a (ns.map V.int) := by
    cases hk : K.lookup a with
    | none => exact .inl (.inr ⟨_, if_pos ⟨hk, rfl⟩⟩)
    | some o =>
      have e := KX a o hk
      rw [ha] at e
      cases e
      exact .inr ⟨_, vs.toArray, _, hk, rfl, rfl, rfl, by rw [List.size_toArray, hi.length]; exact hl, by simpa using rv⟩
  have bK : ∀ {b : Addr} {o : Obj}, K.lookup b = some o → H_in K a vs ns b = none := fun {b o} e => H_in_none fun hk z => by subst z; rw [hk] at e; cases e
  have bN : ∀ {b : Addr} {m : Str → Option Value}, s₁.heap.Ns b m → (hidT s₁.heap (H_in K a vs ns)).Ns b m := fun {b m} ⟨o, es, ep, e, d, r⟩ =>
    ⟨o, es, ep, hidT_get e (H_in_none fun _ z => by subst z; rw [ha] at e; cases e; cases (show Data.seq vs.toArray _ = Data.dict es ep from d)), d, r⟩
  have hKb : K.In (hidT s₁.heap (H_in K a vs ns)) := fun b o e => hidT_get (KX b o e) (bK e)
  have hM : Mod K mg (hidT s₁.heap (H_in K a vs ns)) := ⟨hKb, bN hns, ⟨mb, bN hb, hbb⟩, let ⟨mc, h1, h2⟩ := hlim; ⟨mc, bN h1, h2⟩⟩
  refine codeAny_mono ((F _ hKb (bN hns)).go callerA [] s₁ _ ⟨[.ref a], []⟩ [.ref a] [.ref a] _ _ rfl hr ⟨rfl, hM, fun b o e => of_hidT e, Nat.le_of_eq (hidT_size _ _), trivial, fun b z => (List.not_mem_nil z).elim, hok, .of_eq hg⟩ (hbind s₁ (.ref a)) (.cons rfl .nil) (hsp _ hO hS)) fun r s' h => ?_
  match r, h with
  | .error e, h => exact (hCX _ e s' h).elim
  | .ok .next, h => exact h.elim
  | .ok .brk, h => exact h.elim
  | .ok .cont, h => exact h.elim
  | .ok (.ret u), ⟨v, H', os, bare, un, hok', r', q⟩ =>
    cases (show v = .bl true from q)
    cases (show u = Value.bool true from r')
    refine ⟨rfl, OldK.of_keep fun b o e => ?_, os, bare⟩
    cases q : H_in K a vs ns b with
    | none => exact un.keep b o e q (fun z => (List.not_mem_nil z).elim) (by simp)
    | some u =>
      obtain ⟨_, rfl, rfl⟩ := H_in_some q
      have e2 := (hok' b _ (un.frzs b _ _ q)).1
      rw [ha] at e; cases e
      exact e2
end
theorem walk_ofG {l : PySem.W.OpenLaw} {n k : Nat} {q : Program} {loose : List Str} {XP : (Str → Option Value) → Heap → Prop} {YP : World → Heap → Prop} {d : DefRec} {K : Params → PySem.W.Frag} {CX : World → CXT} {sp : World → Sp} {x : Str}
    (hn : l.most = some n) (hn2 : n ≤ sizeLine) (hdf : d.params.defaults = []) (hr : Room k callerA)
    (hY : ∀ (w : World) (h : Heap), YP w h → (K w.params).In h)
    (F : ∀ (w : World) (mg : Str → Option Value) (fa : Addr) (h : Heap), (K w.params).In h → h.Ns mainGlobals mg → mg d.name = some (.ref fa) →
      ∃ fd : FuncData, (∀ (s : Shared) (u : Value), BindsTo s fd ⟨[u], []⟩ [(x, u)]) ∧
        ∀ base : Heap, (K w.params).In base → base.Ns mainGlobals mg → FnG l.prog w (K w.params) mg base (CX w) k fa fd [x] (sp w))
    (hsp : ∀ (w : World) (H : Hp) (a : Addr) (ns : List Int), ns.length ≤ n → Only H → SqL (K w.params) H a (ns.map V.int) → sp w [.ref a] H (fun v _ => v = .bl true) fun _ _ _ => False)
    (hCX : ∀ (w : World) (H : Hp) (s : Shared) (e : Value) (s' : Shared), CX w [] H s (fun _ _ _ => False) e s' → False) :
    PySem.W.WalkO q loose XP YP l.row.toRowW d [] (fun f vs => PySem.call f vs) :=
  Att.attach_call hn hdf fun w s₀ s₁ mg mb fa o pm cd doc a vs ns G Y ho hd hcd hmg hobj hints hlen hg =>
    have KX := hY w _ Y
    let ⟨fd, hb, hF⟩ := F w mg fa _ KX G.T.g hmg
    law_callG KX G.T.g G.T.b G.T.builtins G.T.nolimit hg hobj hints (Nat.le_trans hlen hn2) hr hF hb (fun H hH hS => hsp w H a ns hlen hH hS) fun H e s' => hCX w H s₁ e s'
end L2
/-! ### how long a list's text is -/
namespace L2
open PySem PySem.Spec PyProof.Rows
theorem text_le : ∀ (ts : List Str) (k : Nat) (acc : Str) (B : Nat), (∀ t ∈ ts, t.length ≤ B) → (textFrom k acc ts).length ≤ acc.length + ts.length * (B + 2)
  | [], _, _, _, _ => by simp [textFrom]
  | t :: r, k, acc, B, h => by
    have e : (acc ++ (if k > 0 then ", " else "" : String) ++ t).length = acc.length + (if k > 0 then 2 else 0) + t.length := by
      rw [PySem.Str.length_append, PySem.Str.length_append]
      split <;> rfl
    have h1 := text_le r (k + 1) (acc ++ (if k > 0 then ", " else "" : String) ++ t) B fun u hu => h u (List.mem_cons_of_mem _ hu)
    have h2 := h t List.mem_cons_self
    have h3 : (if k > 0 then 2 else 0 : Nat) ≤ 2 := by split <;> omega
    show (textFrom (k + 1) _ r).length ≤ _
    rw [e] at h1
    rw [List.length_cons, Nat.add_mul]
    omega
theorem all_mem {B : Nat} : ∀ {ds : List PyData}, (∀ d ∈ ds, d.shown.length ≤ B) → ∀ t ∈ PyData.shownAll ds, t.length ≤ B
  | [], _, t, ht => by cases ht
  | d :: r, h, t, ht => by
    rcases List.mem_cons.mp (show t ∈ PyData.shown d :: PyData.shownAll r from ht) with rfl | ht
    · exact h d List.mem_cons_self
    · exact all_mem (fun x hx => h x (List.mem_cons_of_mem _ hx)) t ht
theorem all_len : ∀ (ds : List PyData), (PyData.shownAll ds).length = ds.length
  | [] => rfl
  | _ :: r => congrArg (· + 1) (all_len r)
/-- a list of things of B letters at the most -/
theorem list_le {ds : List PyData} {B : Nat} (h : ∀ d ∈ ds, d.shown.length ≤ B) : (PyData.list ds).shown.length ≤ 2 + ds.length * (B + 2) := by
  show (listText (PyData.shownAll ds)).length ≤ _
  unfold listText
  rw [PySem.Str.length_append]
  have h1 := text_le (PyData.shownAll ds) 0 "[" B (all_mem h)
  rw [all_len] at h1
  have e1 : (("[" : String) : Str).length = 1 := rfl
  have e2 : (("]" : String) : Str).length = 1 := rfl
  rw [e1] at h1
  rw [e2]
  omega
theorem bool_le (b : Bool) : (PyData.bool b).shown.length ≤ 8 := by cases b <;> decide
theorem sA_map {α : Type} {f : α → PyData} (h : ∀ x, (f x).showable = true) : ∀ l : List α, PyData.showableAll (l.map f) = true
  | [] => rfl
  | x :: r => by
    show ((f x).showable && PyData.showableAll (r.map f)) = true
    rw [h x, sA_map h r]
    rfl
theorem sA_mem {α : Type} {f : α → PyData} : ∀ {l : List α}, (∀ x ∈ l, (f x).showable = true) → PyData.showableAll (l.map f) = true
  | [], _ => rfl
  | x :: r, h => by
    show ((f x).showable && PyData.showableAll (r.map f)) = true
    rw [h x List.mem_cons_self, sA_mem fun y hy => h y (List.mem_cons_of_mem _ hy)]
    rfl
theorem nA_map {α : Type} {f : α → PyData} (h : ∀ x, (f x).hasDict = false) : ∀ l : List α, PyData.hasDictAll (l.map f) = false
  | [] => rfl
  | x :: r => by
    show ((f x).hasDict || PyData.hasDictAll (r.map f)) = false
    rw [h x, nA_map h r]
    rfl
theorem dp_bls {K : PySem.W.Frag} {H : Hp} : ∀ bs : List Bool, DpAll K H (bs.map V.bl) (bs.map PyData.bool)
  | [] => .nil
  | b :: r => .cons (.bl b) (dp_bls r)
theorem dp_ints {K : PySem.W.Frag} {H : Hp} : ∀ ns : List Int, DpAll K H (ns.map V.int) (ns.map PyData.int)
  | [] => .nil
  | n :: r => .cons (.int n) (dp_ints r)
end L2
namespace L2
open PySem PySem.Spec PyProof.Rows
theorem dA_map {α : Type} {f : α → PyData} (h : ∀ x, (f x).depth = 0) : ∀ l : List α, PyData.depthAll (l.map f) = 0
  | [] => rfl
  | x :: r => by
    show max (f x).depth (PyData.depthAll (r.map f)) = 0
    rw [h x, dA_map h r]
    rfl
end L2
namespace Sl
open PySem PySem.Spec PyProof.Rows L2 Sx Rd
section
variable {σ : L2.St} {H : Hp} {Q : VK} {g : TG} {tt : TT} {te : TE} {vs : List Nat} {tl : TA}
/-- [.. for k in range(lo, hi)] -/
def kLcR2 (g : TG) (tt : TT) (te : TE) (vs : List Nat) (σ : L2.St) (Q : VK) (xs : List V) (H : Hp) : Prop := (iRng2 (fun _ _ R => R xs H)) σ H fun J H1 => ∀ E, H1 E = none → ∃ W : Nat → Nat → Hp → Prop, (∃ m, W 0 m (upd H1 E (.lst []))) ∧ ∀ i m H, W i m H →
    (J.stop i H ∧ Q (.ref E) H) ∨ (J.go i H ∧ ∃ Nx : Hp → Prop, (∀ H', Nx H' → ∃ m', m' < m ∧ W (i + 1) m' H') ∧ ∀ x H', J.yld i H x H' → g x (wipe σ vs) H' fun σ2 H2 => wipe σ2 vs = wipe σ vs ∧ tt σ2 H2 fun b H3 =>
      if b = true then te σ2 H3 fun y H4 => ∃ acc, H4 E = some (.lst acc) ∧ acc.length < sizeLine ∧ Nx (upd H4 E (.lst (acc ++ [y]))) else Nx H3)
theorem e_lcR2 (h : tl σ H fun xs H1 => kLcR2 g tt te vs σ Q xs H1) : tLc (iRng2 tl) g tt te vs σ H Q := h
theorem k_lcF2S {lo hi : Int} (φ : Nat → List V → Prop) (Lf : Nat → List V → List As) (hs : St (Lf 0 []) H) (h0 : 0 ≤ lo) (h1 : lo ≤ hi) (h2 : hi < 100000) (f0 : φ 0 [])
    (st : ∀ E (i : Nat) acc H', (i : Int) < hi - lo → acc.length ≤ i → φ i acc → St (cell E (.lst acc) :: Lf i acc) H' → LcStep g tt te vs σ φ Lf E i (.int (lo + (i : Int))) acc H')
    (q : ∀ E acc H', acc.length ≤ (hi - lo).toNat → φ (hi - lo).toNat acc → St (cell E (.lst acc) :: Lf (hi - lo).toNat acc) H' → Q (.ref E) H') : kLcR2 g tt te vs σ Q [.int lo, .int hi] H := by
  refine ⟨lo, hi, rfl, ⟨by omega, by omega, by omega, by omega⟩, fun E hE => ?_⟩
  refine lc_range (lo := lo) (n := (hi - lo).toNat) (fun i H' => ∃ acc, acc.length ≤ i ∧ φ i acc ∧ St (cell E (.lst acc) :: Lf i acc) H') ⟨[], Nat.le_refl _, f0, hs.new hE⟩ (fun i H' hi ⟨acc, ha, f, h⟩ => ?_) fun H' ⟨acc, ha, f, h⟩ => q E acc H' ha f h
  exact st E i acc H' (by omega) ha f h _ _ (fun y H4 f4 h4 => ⟨acc, h4.get0, szl (by omega), acc ++ [y], by rw [List.length_append]; simp; omega, f4, h4.upd0 id⟩) fun H4 f4 h4 => ⟨acc, by omega, f4, h4⟩
end
end Sl
set_option Elab.async false
set_option maxRecDepth 100000
set_option maxHeartbeats 4000000
set_option linter.all false
set_option autoImplicit false
/-! Where an exception is handled: a list's iterator at its end, a list comprehension over a list; an own class's error made where nothing is handled, with its context told. -/
namespace Hx
open PySem PySem.Spec PyProof.Rows L2 HotX L2H
section
variable {prog : Program} {w : World} {A : Around} {E : Value → Shared → Prop} {s : Shared}
/-- the end of a list, seen while x is handled -/
theorem end_hot {it l x : Addr} {i : Nat} {its : Array Value} {Q : Option Value → Shared → Prop} (hot : HotAt A x s.heap) (st : s.heap.IsListIter it l i) (hl : s.heap.IsList l its) (hn : its[i]? = none)
    (q : ∀ k, (∀ b o, b ≠ it → s.heap.get? b = some o → Heap.get? k b = some o) → Q none { s with heap := k }) : wpAny (model prog w) A (pyNext (.ref it)) Q E s := by
  obtain ⟨hh, ox, vx, gx, dx, cx⟩ := hot
  obtain ⟨oi, gi, ci, di⟩ := id st
  obtain ⟨ol, gl, _, _, dl⟩ := hl
  have nx : x ≠ it := fun z => by
    rw [z, gi] at gx; cases gx; rw [di] at dx
    have e := Data.fields.inj dx
    rw [← e] at cx; simp at cx
  unfold pyNext
  refine wpAny_bind (wpAny_attempt (wpAny_callSpecial?_slot (name := Str.ofString "__next__") st.typeIs slot_listiter_next (wpAny_call_entry slot_listiter_next st.typeIs entry_listiter_next ?_ (args_listiter_next _))))
  show wpAny _ _ (field (.ref it) 0 >>= _) _ _ s; refine wpAny_bind (wpAny_field gi di (x := .ref l) rfl ?_)
  show wpAny _ _ (if (Value.ref l == Value.none) = true then _ else _) _ _ s; rw [if_neg (show ¬ ((Value.ref l == Value.none) = true) from Bool.false_ne_true)]
  show wpAny _ _ (field (.ref it) 1 >>= _) _ _ s; refine wpAny_bind (wpAny_field gi di (x := .int i 0) rfl ?_)
  show wpAny _ _ (seqItems? (.ref l) >>= _) _ _ s; refine wpAny_bind (wpAny_seqItems gl dl ?_)
  simp only [Int.toNat_natCast, hn]
  refine wpAny_bind (wpAny_rule (wpAny_bind (wpAny_setField gi di (by simp) ?_))); show wpAny _ _ (newExc (.type "StopIteration") [] >>= _) _ _ _
  refine wpAny_bind ?_; simp only [newExc, newTuple]
  refine wpAny_bind (wpAny_newObj_type ?_ (by size_fits)); refine wpAny_bind (m := firstArgMember _ _) (wpAny_of_eq (a := Value.none) (by first | rfl | (simp only [firstArgMember]; rfl)) ?_)
  refine wpAny_newObj_type ?_ (by size_fits)
  have up : ∀ b o, b ≠ it → s.heap.get? b = some o → (s.heap.update it (Obj.mapFields (·.setIfInBounds 0 Value.none))).get? b = some o := fun b o hb e => by rw [Heap.get?_update_other _ _ (Ne.symm hb)]; exact e
  have gx2 := Heap.get?_push_of_some (h := _) { cls := .type "tuple", data := .seq #[] } (up x ox nx gx)
  refine raiseNew_hot ⟨hh, ox, vx, Heap.get?_push_of_some _ gx2, dx, cx⟩ (Nat.ne_of_lt (Heap.lt_size gx2)) (Heap.get?_push_size _ rfl) rfl (by first | (simp; done) | (simp; omega)) ?_
  refine wpAny_bind (wpAny_isInstance (T := "StopIteration") (b := true) ⟨_, Heap.get?_update_self _ (Heap.get?_push_size _ rfl) rfl, rfl⟩ isSubtype_stop ?_)
  refine wpAny_pure (q _ fun b o hb e => ?_)
  rw [Heap.get?_update_other _ _ (Nat.ne_of_gt (Heap.lt_size (Heap.get?_push_of_some _ (up b o hb e))))]
  exact Heap.get?_push_of_some _ (Heap.get?_push_of_some _ (up b o hb e))
end
/-! ### a list comprehension over a list, where an exception is handled -/
theorem toE {α : Type} {t : Sem α} {Q R : α → Shared → Prop} {M : Model} {A : Around} {E : Value → Shared → Prop} {s : Shared} (h : wpAny M A t Q (fun _ _ => False) s) (m : ∀ a s, Q a s → R a s) : wpAny M A t R E s := wpAny_mono h m fun _ _ z => z.elim
section
variable {X : Cx}
theorem pe_lcH {elt tg iter : Expr} {ifs : List Expr} {scope : Scope} {own : List (Str × Nat)} {pos : Pos} {tl te : TE} {g : TG} {tt : TT} (hc : HotC X) (hN : X.N.Nodup) (hl : PE X iter tl) (ok : BlkOk X.N X.env.scope scope own)
    (hg : ∀ (s : Shared) (H : Hp) (C : Addr) (cl : List (Str × Addr)) (fp : List Addr), PG (X.blk s H scope (compEnvC scope cl C X.env) fp) tg g)
    (ht : ∀ (s : Shared) (H : Hp) (C : Addr) (cl : List (Str × Addr)) (fp : List Addr), PTs (X.blk s H scope (compEnvC scope cl C X.env) fp) ifs tt)
    (he : ∀ (s : Shared) (H : Hp) (C : Addr) (cl : List (Str × Addr)) (fp : List Addr), PE (X.blk s H scope (compEnvC scope cl C X.env) fp) elt te)
    (hs : ∀ x, foldedSetIterable iter X.env x = pure x := by intro _; rfl) : PE X (.ListComp elt [⟨tg, iter, ifs, 0⟩] scope pos) (tLc (iList X.K tl) g tt te (own.map (·.2))) := by
  obtain ⟨p, hot, hp⟩ := hc
  refine ⟨fun pins s σ H Q I h => ?_⟩
  rw [eval_ListComp]
  have hfree : ∀ y ∈ scope.names, y.2 = .free → ∃ c, X.env.cells.lookup y.1 = some c := fun y hy e => (ok.free y hy e).elim (fun k => I.ok.has _ (.inl k)) fun k => I.ok.has _ (.inr k)
  refine wpAny_comprehension_free (use := none) rfl hs (closure_ok hfree) ok.kind (fun y hy e => by rw [ok.uniq y hy, e]) (thn (hl.run pins s σ H _ I h) fun xv s1 ⟨x, H2, I1, r1, q1⟩ => ?_)
  obtain ⟨a, e, ⟨xs0, hq0⟩, q⟩ := q1
  subst e
  cases r1
  obtain ⟨its0, _, isl0, _⟩ := I1.list hq0
  refine wpAny_pyIter_list isl0.isList ?_
  generalize hit : s1.heap.objs.size = it
  have fit : FpOk X pins H2 it := I1.fpOk (Nat.le_of_eq hit) (I1.hok.fresh (Nat.le_of_eq hit))
  generalize hs2 : ({ s1 with heap := s1.heap.push { cls := .type "list_iterator", data := .fields #[.ref a, .int 0 0] } } : Shared) = s2
  have I2 : Inv X pins σ H2 s2 := by rw [← hs2]; exact I1.kept (t' := s1.toks) fun b o e => Heap.get?_push_of_some _ e
  have st2 : s2.heap.IsListIter it a 0 := by rw [← hs2, ← hit]; exact ⟨_, Heap.get?_push_size _ rfl, rfl, rfl⟩
  have lit : it < s2.heap.objs.size := by obtain ⟨o, e, _⟩ := st2; exact Heap.lt_size e
  refine wpAny_newObj_type (newEnv_comp ?_) (by show 0 ≤ sizeLine; decide)
  generalize hD : s2.heap.objs.size = D
  obtain ⟨W, ⟨m0, w0⟩, turn⟩ := q D (I2.hok.fresh (Nat.le_of_eq hD))
  generalize hs3 : ({ s2 with heap := s2.heap.push { cls := .type "list", data := .seq ([] : List Value).toArray } } : Shared) = s3
  have h3 : s3.heap = s2.heap.push { cls := .type "list", data := .seq ([] : List Value).toArray } := by rw [← hs3]
  have I3 : Inv X pins σ (upd H2 D (.lst [])) s3 := by
    rw [← hs3]
    refine I2.laid (t' := s2.toks) (fun b o e => Heap.get?_push_of_some _ e) (Nat.le_of_eq hD) ⟨Nat.zero_le _, [], 0, .nil, ?_⟩
    rw [← hD]; exact Heap.get?_push_size _ rfl
  have nit : upd H2 D (.lst []) it = none := by rw [upd_ne (by rw [← hD]; exact Nat.ne_of_lt lit)]; exact fit.1
  have f3 : FpOk X pins (upd H2 D (.lst [])) it := ⟨nit, fit.2⟩
  have I4 := block_start (fp := [it]) I3 ok hN fun b hb => by
    rw [List.mem_singleton.mp hb]; exact ⟨f3, by rw [h3, Heap.size_push]; exact Nat.lt_succ_of_lt lit⟩
  have pg := hg s3 (upd H2 D (.lst [])) s3.heap.objs.size (cellsFrom (s3.heap.objs.size + 1) scope.names (cloFrom X.env.cells scope.names [])) [it]
  have pt := ht s3 (upd H2 D (.lst [])) s3.heap.objs.size (cellsFrom (s3.heap.objs.size + 1) scope.names (cloFrom X.env.cells scope.names [])) [it]
  have pe := he s3 (upd H2 D (.lst [])) s3.heap.objs.size (cellsFrom (s3.heap.objs.size + 1) scope.names (cloFrom X.env.cells scope.names [])) [it]
  have P3 := I3.pin p (List.mem_append_left _ hp)
  have pit : p.1 ≠ it := f3.2.2.2.2.2 p (List.mem_append_left _ hp)
  show codeAny _ _ (.compStart (.ListComp elt [⟨tg, iter, ifs, 0⟩] scope pos) 0 (.ref it) (.ref D) (compEnvC scope (cellsFrom (s3.heap.objs.size + 1) scope.names (cloFrom X.env.cells scope.names [])) s3.heap.objs.size X.env)) (compPost (model X.prog X.w) X.A X.xe none _ (.ref D) s3.heap.objs.size) { s3 with heap := pushCells (s3.heap.push { cls := .type "dict", data := .dict #[] }) scope.names }
  have kc : ∀ b o, s3.heap.get? b = some o → (pushCells (s3.heap.push { cls := .type "dict", data := .dict #[] }) scope.names).get? b = some o := fun b o e => pushCells_keeps _ _ _ _ (Heap.get?_push_of_some _ e)
  generalize hce : compEnvC scope (cellsFrom (s3.heap.objs.size + 1) scope.names (cloFrom X.env.cells scope.names [])) s3.heap.objs.size X.env = ce at I4 pg pt pe ⊢
  have cL : ce.locals = s3.heap.objs.size := by subst hce; rfl
  generalize hH3 : upd H2 D (.lst []) = H3 at I3 I4 pg pt pe w0 nit f3 P3
  generalize hs4 : ({ s3 with heap := pushCells (s3.heap.push { cls := .type "dict", data := .dict #[] }) scope.names } : Shared) = s4 at I4 ⊢
  have g4 : ∀ b o, s3.heap.get? b = some o → s4.heap.get? b = some o := by rw [← hs4]; exact kc
  -- the handled exception's object stands in the block, too
  have I4 : Inv (X.blk s3 H3 scope ce [it]) [p] (wipe σ (own.map (·.2))) H3 s4 := I4.pins_of fun z hz => by
    rw [List.mem_singleton.mp hz]
    refine ⟨g4 _ _ P3.1, P3.2.1, by show p.1 ≠ ce.locals; rw [cL]; exact Nat.ne_of_lt (Heap.lt_size P3.1), fun hm => ?_, P3.2.2.2.2⟩
    exact (List.mem_cons.mp (I3.stkSub p.1 hm)).elim P3.2.2.1 P3.2.2.2.1
  have st4 : s4.heap.IsListIter it a 0 := st2.at fun o e => g4 _ _ (by rw [h3]; exact Heap.get?_push_of_some _ e)
  have stat : ∀ {σ' : L2.St} {H' : Hp} {s' : Shared}, Inv (X.blk s3 H3 scope ce [it]) [p] σ' H' s' → H' it = none → FpOk (X.blk s3 H3 scope ce [it]) [p] H' it := fun {σ' H' s'} J hn =>
    ⟨hn, (J.ok.exf it List.mem_cons_self).1, J.ok.exfs it List.mem_cons_self, .inl List.mem_cons_self, fun x c e => (J.ok.exf it List.mem_cons_self).2 x c e, fun z hz => by
      have hz : z ∈ [] ++ [p] := hz
      rw [List.nil_append] at hz
      rw [List.mem_singleton.mp hz]; exact pit⟩
  have loop : codeAny (model X.prog X.w) X.A (.compLoop (.ListComp elt [⟨tg, iter, ifs, 0⟩] scope pos) 0 (.ref it) (.ref D) ce) (compPost (model X.prog X.w) X.A X.xe none (EP X pins σ Q) (.ref D) s3.heap.objs.size) s4 := by
    refine compLoop_any (fun n s' => ∃ i H', Inv (X.blk s3 H3 scope ce [it]) [p] (wipe σ (own.map (·.2))) H' s' ∧ s'.heap.IsListIter it a i ∧ H' it = none ∧ W i n H') ?_ m0 ⟨0, H3, I4, st4, nit, w0⟩
    rintro n s5 ⟨i, H5, I5, st5, n5, w5⟩
    obtain ⟨f0, f1, f2, f4, f5, f6⟩ := stat I5 n5
    rcases turn i n H5 w5 with ⟨⟨xs, hq, hx⟩, qq⟩ | ⟨⟨xs, x, hq, hx⟩, Nx, hNx, step⟩
    · obtain ⟨its, rv, isl, hz⟩ := I5.list hq
      have hln := rv.length
      have P5 := I5.pin p (List.mem_append_right _ (List.mem_singleton.mpr rfl))
      obtain ⟨hA, vs, dv, cv⟩ := hot
      refine end_hot (x := p.1) ⟨hA, p.2, vs, P5.1, dv, cv⟩ st5 isl.isList (by simp; omega) fun k kb => ?_
      have I6 : Inv (X.blk s3 H3 scope ce [it]) [p] (wipe σ (own.map (·.2))) H5 { s5 with heap := k } := I5.turned (t' := s5.toks) kb f0 f1 f4 f5 f6
      have I7 : Inv X pins σ H5 { s5 with heap := k } := I3.call' (ch := [it]) I6.os I6.base I6.hok I6.bare fun b hb => by
        rw [List.mem_singleton.mp hb]; exact ⟨f3.2.2.2.1, f3.2.1, f3.2.2.2.2.1, f3.2.2.2.2.2⟩
      have nC : H5 s3.heap.objs.size = none := by have z : H5 ce.locals = none := I6.free; rw [cL] at z; exact z
      obtain ⟨m, hn, _⟩ := I6.loc
      have hn : Heap.Ns k ce.locals m := hn
      rw [cL] at hn
      obtain ⟨e0, e1, e2, e3, e4, e5⟩ := I3.fpOk (Nat.le_refl _) nC
      exact ⟨m, hn, fun h'' sb => ⟨.ref D, H5, I7.turned (t' := s5.toks) (fun b o hb e => (sb.2 b hb).trans e) e0 e1 e3 e4 e5, rfl, qq⟩⟩
    · obtain ⟨its, rv, isl, hz⟩ := I5.list hq
      obtain ⟨u, hu, ru⟩ := rv.get hx
      refine wpAny_pyNext_list_item st5 isl.isList (x := u) (by simpa using hu) fun k st6 sb => ?_
      have I6 : Inv (X.blk s3 H3 scope ce [it]) [p] (wipe σ (own.map (·.2))) H5 { s5 with heap := k } := I5.turned (t' := s5.toks) (fun b o hb e => (sb.2 b hb).trans e) f0 f1 f4 f5 f6
      obtain ⟨o, eo, co, dO⟩ := id st6
      refine go_of (s := { s5 with heap := k }) eo co dO (by decide) ?_
      have I7 : Inv (X.blk s3 H3 scope ce [it]) ([p] ++ [(it, o)]) (wipe σ (own.map (·.2))) H5 { s5 with heap := k } := I6.pins_of fun z hz => by
        rcases List.mem_append.mp hz with hz | hz
        · exact I6.pin z (List.mem_append_right _ hz)
        · rw [List.mem_singleton.mp hz]; exact ⟨eo, f0, f1, f2, fun v e => by rw [dO] at e; cases e⟩
      refine toE (pg.run _ _ _ H5 x u _ I7 ru (step x H5 ⟨rfl, fun ys hy => by rw [I6.list_inj hy hq]; exact hx⟩)) fun _ s8 ⟨σ8, H8, I8, hw8, q8⟩ => ?_
      refine toE (pt.run _ s8 σ8 H8 _ I8 q8) fun b s9 ⟨H9, I9, q9⟩ => ?_
      have fin : ∀ {s' : Shared} {H' : Hp}, Inv (X.blk s3 H3 scope ce [it]) ([p] ++ [(it, o)]) σ8 H' s' → Nx H' → ∃ m, m < n ∧ ∃ i H', Inv (X.blk s3 H3 scope ce [it]) [p] (wipe σ (own.map (·.2))) H' s' ∧ s'.heap.IsListIter it a i ∧ H' it = none ∧ W i m H' := fun {s' H'} J nx => by
        obtain ⟨m', hm, w'⟩ := hNx H' nx
        have Pi := J.pin (it, o) (List.mem_append_right _ (List.mem_append_right _ (List.mem_singleton.mpr rfl)))
        have hl : (wipe σ (own.map (·.2))).length = σ8.length := by rw [← hw8, wipe_length]
        exact ⟨m', hm, i + 1, H', J.unpinned.weak hl (fun j v e => by rw [← hw8] at e; exact (wipe_some e).1), ⟨o, Pi.1, co, dO⟩, Pi.2.1, w'⟩
      cases b with
      | false =>
        simp only [Bool.false_eq_true, if_false] at q9 ⊢
        exact fin I9 q9
      | true =>
        simp only [if_true] at q9 ⊢
        refine toE (pe.run _ s9 σ8 H9 _ I9 q9) fun z s10 ⟨yv, H10, I10, r10, acc, hD10, hz10, nx⟩ => ?_
        exact app_ok (X := X.blk s3 H3 scope ce [it]) I10 hD10 hz10 r10 fun s11 I11 => fin I11 nx
  exact codeAny_compStart_list loop (wpAny_pyIter_listiter st4 loop)
end
/-! ### an own class's error made where nothing is handled: its context is None -/
section
variable {X : Cx} {CX : CXT} {x : Str} {e : Expr} {es : List Expr} {ta : TA} {np pos : Pos} {C fI : Addr} {k : Nat} {fd : FuncData} {ps : List Str} {sp : Sp}
theorem made_N (T : OexC X.K C) (iC : PySem.W.findIn X.K (.ref C) "__init__" = some (some (.ref fI))) (tI : PySem.W.typeIn X.K (.ref fI) = some (.type "function")) (F1 : FnOk X.prog X.w X.K X.mg X.base CX k fI fd ps sp) (hr : Room (k + 1) X.A)
    (hb : Binds X.K fd ps []) (hx : Passes CX X (fun _ _ _ => False)) (hg : Gl X x) (hm : X.mg x = some (.ref C)) (ha : PA X (e :: es) ta) (hdb : (x == ("__debug__" : Str)) = false := by decide)
    (he : starEach (e :: es) X.env = (false, eval e X.env) :: starEach es X.env := by rfl) (hpl : (backTo pos (starEach es X.env)).any (·.1) = false := by rfl) : L2N.PMk X (.Call (.Name x np) (e :: es) [] pos) (tMkO C sp [] ta) := fun pins s σ H Q I h => by
  obtain ⟨nm, qn, N, bs, bm, sn, sub, ab, col, dd, k0, k1, k2, k3, k5, hC, hbm⟩ := T.cls
  refine wpAny_Call_Name_kw (ld_glob I hg hm (PySem.W.callWith_K (h₀ := X.base) I.ok.mod.kin T.kC (thn (ha.run pos pins s σ H _ I h) fun us s1 ⟨vs, H1, I1, r1, hz, q1⟩ => ⟨I1.kIn, ?_⟩) he hpl) hdb)
  show wpAny _ _ (call (.ref C) us) _ _ _; obtain ⟨m, g, dr, tk, os⟩ := s1
  have up : m.objs.size ≤ m.objs.size + 1 := Nat.le_succ _
  have hq := q1 (m.objs.size + 1) (I1.hok.fresh up)
  rw [List.append_nil] at hq
  have kk : ∀ b o, m.get? b = some o → ((m.push (PySem.W.kdv_tup us)).push (PySem.HandSPX.excO C m.objs.size)).get? b = some o := fun b o z => Heap.get?_push_of_some _ (Heap.get?_push_of_some _ z)
  have I2 := I1.laid (t' := tk) (a := m.objs.size + 1) (o := exo (m.objs.size + 1) C none) (h' := (m.push (PySem.W.kdv_tup us)).push (PySem.HandSPX.excO C m.objs.size)) kk up (exo_ok (by heap_get))
  have r2 : Vals (V.ref (m.objs.size + 1) :: vs) (Value.ref (m.objs.size + 1) :: us) := .cons rfl r1
  have ln : (Value.ref (m.objs.size + 1) :: us).length = ps.length := r2.length.symm.trans (F1.len _ _ _ _ hq)
  have b2 := hb _ (Value.ref (m.objs.size + 1) :: us) I2.kIn (by rw [List.append_nil]; exact ln)
  rw [List.append_nil] at b2
  refine wpAny_call (PySem.HandSPX.call_own F.excBase_ValueError (fun Y => PySem.HandSPX.refsVE_contains Y bm hbm) (I1.kIn _ _ hC) (PySem.W.looks_findIn I1.kIn iC) (fun self => PySem.W.bind_fn I1.kIn self tI) (by rw [← Paired.length r1, sizeLine_eq]; omega)
    (codeAny_mono (F1.run _ X.stack _ _ ⟨Value.ref (m.objs.size + 1) :: us, []⟩ (Value.ref (m.objs.size + 1) :: us) _ _ (fun _ _ _ => False) (hr.make C us []) (I2.env0.make C us []) b2 r2 hq) fun r s' hq' => ?_))
  match r, hq' with
  | .error er, hq' => exact hx pins σ _ _ er s' I2 hq'
  | .ok (.ret u), ⟨v, H2, os2, bare2, un2, hok2, rv, ev, d, fs, ea, ed, hd1, q2⟩ =>
    subst ev
    obtain ⟨h2, g2, d2, t2, os'⟩ := s'
    obtain ⟨t0, G, J, kG, ge, hoe, na⟩ := mk_end0 (d2 := d2) (t2 := t2) I1 up kk un2 hok2 os2 bare2 ea ed hd1
    exact ⟨rv, _, _, _, ⟨G, g2, d2, t2, os'⟩, _, .ref C, some d, rfl, J, kG, ge, hoe, ⟨rfl, rfl, fun vs hv => by cases hv; rfl⟩, rfl, rfl, na, rfl, bare2, raises_own T.exC T.tyC, q2⟩
  | .ok .next, hq' => exact False.elim hq'
  | .ok .brk, hq' => exact False.elim hq'
  | .ok .cont, hq' => exact False.elim hq'
end
section
variable {X : Cx} {W : WX} {x fld : Str} {C fI : Addr} {fd : FuncData} {ps : List Str} {e : Expr} {te : TE} {np pos pos' : Pos}
theorem raise_N (hc : X.calm = true) (E : Sx.EK X.prog X.w X.K X.mg X.base x fld C fI fd ps) (hr : Room 2 X.A) (tk : L2N.Takes X W) (hg : Gl X x) (he : PE X e te) (hdb : (x == ("__debug__" : Str)) = false := by decide)
    (hst : starEach [e] X.env = (false, eval e X.env) :: starEach [] X.env := by rfl) : PS X (.Raise (some (.Call (.Name x np) [e] [] pos)) none pos') (Sx.tRaiseE W C fld te) := ⟨fun pins s σ H D I h => by
  refine (L2N.ps_raise hc tk (made_N E.T.ox E.iC E.tI E.F1 hr E.b pass0 hg E.g (pa_cons (Sx.pe_up he) pa_nil hst) hdb hst rfl)).run pins s σ H D I ⟨_, h, fun v H1 ⟨hok, k⟩ => ⟨by show 1 ≤ 1000; decide, fun a ha => ?_⟩⟩
  refine ⟨a, v, rfl, hok, upd_same, fun d hd hda => ⟨rfl, d, [(fld, v)], upd_same, by rw [upd_ne hda, upd_same], by rw [upd_ne hda] at hd; exact hd, ?_⟩⟩
  rw [upd_ne hda] at hd
  rw [Sx.upd_del ha hda]; exact k d hd⟩
end
theorem takesN {X : Cx} : L2N.Takes X (fun _ _ _ _ => False) := fun _ _ ⟨_, _, _, _, _, _, _, _, _, _, _, _, _, _, _, _, z⟩ => z.elim
theorem hot_suite {X : Cx} {a : Addr} {o : Obj} {cls : Value} {d : Option Addr} {pn : List (Addr × Obj)} (hz : L2N.Zn cls d o) (hf : ∃ vs, o.data = .fields vs) : HotC (X.suite a ((a, o) :: pn)) := by
  obtain ⟨vs, e⟩ := hf
  exact ⟨(a, o), ⟨rfl, vs, e, hz.2.2 vs e⟩, List.mem_cons_self⟩
section
variable {P : Program} {w : World} {K : PySem.W.Frag} {mg : Str → Option Value} {base : Heap} {x qual : Str} {st : Stmt} {f : Addr} {fd : FuncData} {N ps : List Str} {k : Nat} {sp : Sp}
/-- a def that may raise, with the error's context told -/
theorem okN (F : Fun K x qual st f fd) (S : FnScope N ps (defScope st)) (ar : ∀ vs H Q E, sp vs H Q E → vs.length = ps.length) (hb : ∀ (cdv : Value) (A : Around) (outer : List Env) (s : Shared) (H : Hp) (vs : List V) (Q : VK) (E : XK), Room k (A.deeper (envOfC qual (defScope st) s.heap.objs.size f cdv)) → sp vs H Q E →
    ∃ t, PSs (cxOf (L2N.CX P w) P w K mg base N qual (defScope st) f cdv A outer s H E) (defBody st) t ∧ t { nx := fun _ H' => Q .non H', rt := Q } (L2.start N vs) H) : FnOk P w K mg base (L2N.CX P w) (k + 1) f fd ps sp := by
  obtain ⟨oc, od, kV, doc, pm, an, cdv, ct, osl, rfl, lk, hcd⟩ := F.ex; exact fn_of lk hcd S ar fun A outer s H vs Q E => hb cdv A outer s H vs Q E
/-- a def called where an exception is handled -/
theorem okH {CX : CXT} (F : Fun K x qual st f fd) (S : FnScope N ps (defScope st)) (ar : ∀ vs H Q E, sp vs H Q E → vs.length = ps.length) (hb : ∀ (cdv : Value) (A : Around) (outer : List Env) (s : Shared) (H : Hp) (vs : List V) (Q : VK) (E : XK) (p : Addr × Obj), Hot1 A p → RoomH k (A.deeper (envOfC qual (defScope st) s.heap.objs.size f cdv)) → sp vs H Q E →
    ∃ t, PSs (cxH CX P w K mg base N qual (defScope st) f cdv A outer s H E p) (defBody st) t ∧ t { nx := fun _ H' => Q .non H', rt := Q } (L2.start N vs) H) : FnH P w K mg base CX (k + 1) f fd ps sp := by
  obtain ⟨oc, od, kV, doc, pm, an, cdv, ct, osl, rfl, lk, hcd⟩ := F.ex; exact fn_ofH lk hcd S ar fun A outer s H vs Q E p h1 => hb cdv A outer s H vs Q E p h1
end
end Hx
set_option Elab.async false
set_option maxRecDepth 100000
set_option maxHeartbeats 100000000
set_option linter.all false
set_option synthInstance.maxSize 100000
set_option synthInstance.maxHeartbeats 0
namespace My
open PySem L2 Sx Rd Sl
def top (i : Nat) : Stmt := PySem.Challenge.pw_tickrings_k11_read_streams.main.body.getD i (.Pass ⟨0, 0, 0, 0⟩)
abbrev s_StreamFull_init : Stmt := inClass (top 2) 0
abbrev s_lost_mark : Stmt := top 4
abbrev s_is_mark : Stmt := top 5
abbrev s_lost_by : Stmt := top 6
abbrev s_joined : Stmt := top 7
abbrev s_bytes_among : Stmt := top 8
abbrev s_ReadStream_init : Stmt := inClass (top 10) 0
abbrev s_ReadStream_space : Stmt := inClass (top 10) 1
abbrev s_ReadStream_append : Stmt := inClass (top 10) 2
abbrev s_ReadStream_read : Stmt := inClass (top 10) 3
abbrev s_ReadStream_contents : Stmt := inClass (top 10) 4
abbrev s_ReadStream_append_one : Stmt := inClass (top 10) 5
abbrev s_law_state : Stmt := top 12
abbrev s_law_draw : Stmt := top 13
abbrev s_law_pick : Stmt := top 14
abbrev s_law_bytes : Stmt := top 15
abbrev s_law_append : Stmt := top 16
abbrev s_law_items : Stmt := top 17
abbrev s_law_appends : Stmt := top 18
abbrev s_law_split : Stmt := top 19
abbrev s_law_agrees : Stmt := top 20
abbrev s_law : Stmt := top 21
theorem sc_StreamFull_init : NdefX.NScope ["self", "space", "__class__"] ["self", "space"] ["__class__"] (defScope s_StreamFull_init) := NdefX.nscope_by (by decide +kernel)
theorem sc_lost_mark : FnScope ["many"] ["many"] (defScope s_lost_mark) := ⟨rfl, rfl, rfl, by decide +kernel, rfl, by decide +kernel, by decide +kernel⟩
theorem sc_is_mark : FnScope ["item"] ["item"] (defScope s_is_mark) := ⟨rfl, rfl, rfl, by decide +kernel, rfl, by decide +kernel, by decide +kernel⟩
theorem sc_lost_by : FnScope ["mark"] ["mark"] (defScope s_lost_by) := ⟨rfl, rfl, rfl, by decide +kernel, rfl, by decide +kernel, by decide +kernel⟩
theorem sc_joined : FnScope ["mark", "other"] ["mark", "other"] (defScope s_joined) := ⟨rfl, rfl, rfl, by decide +kernel, rfl, by decide +kernel, by decide +kernel⟩
theorem sc_bytes_among : FnScope ["items", "item"] ["items"] (defScope s_bytes_among) := ⟨rfl, rfl, rfl, by decide +kernel, rfl, by decide +kernel, by decide +kernel⟩
theorem sc_ReadStream_init : FnScope ["self", "room"] ["self", "room"] (defScope s_ReadStream_init) := ⟨rfl, rfl, rfl, by decide +kernel, rfl, by decide +kernel, by decide +kernel⟩
theorem sc_ReadStream_space : FnScope ["self"] ["self"] (defScope s_ReadStream_space) := ⟨rfl, rfl, rfl, by decide +kernel, rfl, by decide +kernel, by decide +kernel⟩
theorem sc_ReadStream_append : FnScope ["self", "items", "space", "item"] ["self", "items"] (defScope s_ReadStream_append) := ⟨rfl, rfl, rfl, by decide +kernel, rfl, by decide +kernel, by decide +kernel⟩
theorem sc_ReadStream_read : FnScope ["self", "n", "taken", "many", "item"] ["self", "n"] (defScope s_ReadStream_read) := ⟨rfl, rfl, rfl, by decide +kernel, rfl, by decide +kernel, by decide +kernel⟩
theorem sc_ReadStream_contents : FnScope ["self"] ["self"] (defScope s_ReadStream_contents) := ⟨rfl, rfl, rfl, by decide +kernel, rfl, by decide +kernel, by decide +kernel⟩
theorem sc_ReadStream_append_one : FnScope ["self", "item"] ["self", "item"] (defScope s_ReadStream_append_one) := ⟨rfl, rfl, rfl, by decide +kernel, rfl, by decide +kernel, by decide +kernel⟩
theorem sc_law_state : FnScope ["script", "seed", "cell"] ["script"] (defScope s_law_state) := ⟨rfl, rfl, rfl, by decide +kernel, rfl, by decide +kernel, by decide +kernel⟩
theorem sc_law_draw : FnScope ["state", "many", "cells", "value", "mixed"] ["state", "many"] (defScope s_law_draw) := ⟨rfl, rfl, rfl, by decide +kernel, rfl, by decide +kernel, by decide +kernel⟩
theorem sc_law_pick : FnScope ["state", "row"] ["state", "row"] (defScope s_law_pick) := ⟨rfl, rfl, rfl, by decide +kernel, rfl, by decide +kernel, by decide +kernel⟩
theorem sc_law_bytes : FnScope ["items", "item"] ["items"] (defScope s_law_bytes) := ⟨rfl, rfl, rfl, by decide +kernel, rfl, by decide +kernel, by decide +kernel⟩
theorem sc_law_append : FnScope ["rows", "items", "item"] ["rows", "items"] (defScope s_law_append) := ⟨rfl, rfl, rfl, by decide +kernel, rfl, by decide +kernel, by decide +kernel⟩
theorem sc_law_items : FnScope ["state", "items", "k"] ["state"] (defScope s_law_items) := ⟨rfl, rfl, rfl, by decide +kernel, rfl, by decide +kernel, by decide +kernel⟩
theorem sc_law_appends : FnScope ["stream", "rows", "items", "room", "before", "fits", "e", "due"] ["stream", "rows", "items", "room"] (defScope s_law_appends) := ⟨rfl, rfl, rfl, by decide +kernel, rfl, by decide +kernel, by decide +kernel⟩
theorem sc_law_split : FnScope ["rows", "n", "taken", "count", "item"] ["rows", "n"] (defScope s_law_split) := ⟨rfl, rfl, rfl, by decide +kernel, rfl, by decide +kernel, by decide +kernel⟩
theorem sc_law_agrees : FnScope ["stream", "rows", "room", "contents"] ["stream", "rows", "room"] (defScope s_law_agrees) := ⟨rfl, rfl, rfl, by decide +kernel, rfl, by decide +kernel, by decide +kernel⟩
theorem sc_law : FnScope ["script", "state", "room", "stream", "other", "rows", "cell", "n", "due", "told"] ["script"] (defScope s_law) := ⟨rfl, rfl, rfl, by decide +kernel, rfl, by decide +kernel, by decide +kernel⟩
/-- where things stand -/
structure Ads where
  (C_TickringsError C_StreamFull C_ReadStream : Addr)
  (f_StreamFull_init f_lost_mark f_is_mark f_lost_by f_joined f_bytes_among f_ReadStream_init f_ReadStream_space f_ReadStream_append f_ReadStream_read f_ReadStream_contents f_ReadStream_append_one f_law_state f_law_draw f_law_pick f_law_bytes f_law_append f_law_items f_law_appends f_law_split f_law_agrees f_law : Addr)
  (fd_StreamFull_init fd_lost_mark fd_is_mark fd_lost_by fd_joined fd_bytes_among fd_ReadStream_init fd_ReadStream_space fd_ReadStream_append fd_ReadStream_read fd_ReadStream_contents fd_ReadStream_append_one fd_law_state fd_law_draw fd_law_pick fd_law_bytes fd_law_append fd_law_items fd_law_appends fd_law_split fd_law_agrees fd_law : FuncData)
def F_ReadStream (x0 x1 : V) : List (Str × V) := [("room", x0), ("_items", x1)]
section
variable {x0 x1 v : V}
theorem F_ReadStream_room_l : (F_ReadStream x0 x1).lookup ("room" : Str) = some x0 := by unfold F_ReadStream; rw [look_hit]
instance : Sl.Lkp (F_ReadStream x0 x1) "room" x0 := ⟨F_ReadStream_room_l⟩
theorem F_ReadStream_room_p : putF "room" v (F_ReadStream x0 x1) = F_ReadStream v x1 := by unfold F_ReadStream; rw [putF_hit]; try rfl
instance : Sl.Ptf "room" v (F_ReadStream x0 x1) (F_ReadStream v x1) := ⟨F_ReadStream_room_p⟩
theorem F_ReadStream_items_l : (F_ReadStream x0 x1).lookup ("_items" : Str) = some x1 := by unfold F_ReadStream; rw [look_miss (by decide +kernel), look_hit]
instance : Sl.Lkp (F_ReadStream x0 x1) "_items" x1 := ⟨F_ReadStream_items_l⟩
theorem F_ReadStream_items_p : putF "_items" v (F_ReadStream x0 x1) = F_ReadStream x0 v := by unfold F_ReadStream; rw [putF_miss (by decide +kernel), putF_hit]; try rfl
instance : Sl.Ptf "_items" v (F_ReadStream x0 x1) (F_ReadStream x0 v) := ⟨F_ReadStream_items_p⟩
theorem F_ReadStream_m_space : (F_ReadStream x0 x1).lookup ("space" : Str) = none := by unfold F_ReadStream; rw [look_miss (by decide +kernel), look_miss (by decide +kernel)]; try rfl
instance : Sl.NoL (F_ReadStream x0 x1) "space" := ⟨F_ReadStream_m_space⟩
theorem F_ReadStream_m_append : (F_ReadStream x0 x1).lookup ("append" : Str) = none := by unfold F_ReadStream; rw [look_miss (by decide +kernel), look_miss (by decide +kernel)]; try rfl
instance : Sl.NoL (F_ReadStream x0 x1) "append" := ⟨F_ReadStream_m_append⟩
theorem F_ReadStream_m_read : (F_ReadStream x0 x1).lookup ("read" : Str) = none := by unfold F_ReadStream; rw [look_miss (by decide +kernel), look_miss (by decide +kernel)]; try rfl
instance : Sl.NoL (F_ReadStream x0 x1) "read" := ⟨F_ReadStream_m_read⟩
theorem F_ReadStream_m_contents : (F_ReadStream x0 x1).lookup ("contents" : Str) = none := by unfold F_ReadStream; rw [look_miss (by decide +kernel), look_miss (by decide +kernel)]; try rfl
instance : Sl.NoL (F_ReadStream x0 x1) "contents" := ⟨F_ReadStream_m_contents⟩
theorem F_ReadStream_m_append_one : (F_ReadStream x0 x1).lookup ("_append_one" : Str) = none := by unfold F_ReadStream; rw [look_miss (by decide +kernel), look_miss (by decide +kernel)]; try rfl
instance : Sl.NoL (F_ReadStream x0 x1) "_append_one" := ⟨F_ReadStream_m_append_one⟩
theorem F_ReadStream_len : (F_ReadStream x0 x1).length < 1000 := by show 2 < 1000; decide
instance : Sl.LnF (F_ReadStream x0 x1) := ⟨F_ReadStream_len⟩
theorem F_ReadStream_i1 : putF "_items" x1 ([(("room" : Str), x0)] : List (Str × V)) = [(("room" : Str), x0), (("_items" : Str), x1)] := by rw [putF_miss (by decide +kernel)]; rfl
theorem F_ReadStream_init : putF "_items" x1 (putF "room" x0 []) = F_ReadStream x0 x1 := by unfold F_ReadStream; rw [putF_nil, F_ReadStream_i1]
end
def sp_law0 (K : PySem.W.Frag) : Sp := A1 fun v H Q _ => ∃ (b : Addr) (ns : List Int), v = .ref b ∧ SqL K H b (ns.map V.int) ∧ ns.length ≤ 63 ∧ ∀ H1, Q (.bl true) H1
abbrev sp_law (K : PySem.W.Frag) (a : Ads) : Sp := sp_law0 K
/-- what the top has written -/
structure Txt (P : Program) (w : World) (K : PySem.W.Frag) (mg : Str → Option Value) (base : Heap) (a : Ads) : Prop where
  g_abs : mg "abs" = none
  g_int : mg "int" = none
  g_isinstance : mg "isinstance" = none
  g_len : mg "len" = none
  g_list : mg "list" = none
  g_range : mg "range" = none
  g_repr : mg "repr" = none
  g_tuple : mg "tuple" = none
  F_lost_mark : Fun K "lost_mark" "lost_mark" s_lost_mark a.f_lost_mark a.fd_lost_mark
  b_lost_mark : Binds K a.fd_lost_mark ["many"] []
  g_lost_mark : mg "lost_mark" = some (.ref a.f_lost_mark)
  F_is_mark : Fun K "is_mark" "is_mark" s_is_mark a.f_is_mark a.fd_is_mark
  b_is_mark : Binds K a.fd_is_mark ["item"] []
  g_is_mark : mg "is_mark" = some (.ref a.f_is_mark)
  F_lost_by : Fun K "lost_by" "lost_by" s_lost_by a.f_lost_by a.fd_lost_by
  b_lost_by : Binds K a.fd_lost_by ["mark"] []
  g_lost_by : mg "lost_by" = some (.ref a.f_lost_by)
  F_joined : Fun K "joined" "joined" s_joined a.f_joined a.fd_joined
  b_joined : Binds K a.fd_joined ["mark", "other"] []
  g_joined : mg "joined" = some (.ref a.f_joined)
  F_bytes_among : Fun K "bytes_among" "bytes_among" s_bytes_among a.f_bytes_among a.fd_bytes_among
  b_bytes_among : Binds K a.fd_bytes_among ["items"] []
  g_bytes_among : mg "bytes_among" = some (.ref a.f_bytes_among)
  F_ReadStream_init : Fun K "__init__" "ReadStream.__init__" s_ReadStream_init a.f_ReadStream_init a.fd_ReadStream_init
  b_ReadStream_init : Binds K a.fd_ReadStream_init ["self", "room"] []
  mk_ReadStream : Mk K a.C_ReadStream a.f_ReadStream_init
  F_ReadStream_space : Fun K "space" "ReadStream.space" s_ReadStream_space a.f_ReadStream_space a.fd_ReadStream_space
  b_ReadStream_space : Binds K a.fd_ReadStream_space ["self"] []
  m_ReadStream_space : Meth K a.C_ReadStream "space" a.f_ReadStream_space
  F_ReadStream_append : Fun K "append" "ReadStream.append" s_ReadStream_append a.f_ReadStream_append a.fd_ReadStream_append
  b_ReadStream_append : Binds K a.fd_ReadStream_append ["self", "items"] []
  m_ReadStream_append : Meth K a.C_ReadStream "append" a.f_ReadStream_append
  F_ReadStream_read : Fun K "read" "ReadStream.read" s_ReadStream_read a.f_ReadStream_read a.fd_ReadStream_read
  b_ReadStream_read : Binds K a.fd_ReadStream_read ["self", "n"] []
  m_ReadStream_read : Meth K a.C_ReadStream "read" a.f_ReadStream_read
  F_ReadStream_contents : Fun K "contents" "ReadStream.contents" s_ReadStream_contents a.f_ReadStream_contents a.fd_ReadStream_contents
  b_ReadStream_contents : Binds K a.fd_ReadStream_contents ["self"] []
  m_ReadStream_contents : Meth K a.C_ReadStream "contents" a.f_ReadStream_contents
  F_ReadStream_append_one : Fun K "_append_one" "ReadStream._append_one" s_ReadStream_append_one a.f_ReadStream_append_one a.fd_ReadStream_append_one
  b_ReadStream_append_one : Binds K a.fd_ReadStream_append_one ["self", "item"] []
  m_ReadStream_append_one : Meth K a.C_ReadStream "_append_one" a.f_ReadStream_append_one
  F_law_state : Fun K "_law_state" "_law_state" s_law_state a.f_law_state a.fd_law_state
  b_law_state : Binds K a.fd_law_state ["script"] []
  g_law_state : mg "_law_state" = some (.ref a.f_law_state)
  F_law_draw : Fun K "_law_draw" "_law_draw" s_law_draw a.f_law_draw a.fd_law_draw
  b_law_draw : Binds K a.fd_law_draw ["state", "many"] []
  g_law_draw : mg "_law_draw" = some (.ref a.f_law_draw)
  F_law_pick : Fun K "_law_pick" "_law_pick" s_law_pick a.f_law_pick a.fd_law_pick
  b_law_pick : Binds K a.fd_law_pick ["state", "row"] []
  g_law_pick : mg "_law_pick" = some (.ref a.f_law_pick)
  F_law_bytes : Fun K "_law_bytes" "_law_bytes" s_law_bytes a.f_law_bytes a.fd_law_bytes
  b_law_bytes : Binds K a.fd_law_bytes ["items"] []
  g_law_bytes : mg "_law_bytes" = some (.ref a.f_law_bytes)
  F_law_append : Fun K "_law_append" "_law_append" s_law_append a.f_law_append a.fd_law_append
  b_law_append : Binds K a.fd_law_append ["rows", "items"] []
  g_law_append : mg "_law_append" = some (.ref a.f_law_append)
  F_law_items : Fun K "_law_items" "_law_items" s_law_items a.f_law_items a.fd_law_items
  b_law_items : Binds K a.fd_law_items ["state"] []
  g_law_items : mg "_law_items" = some (.ref a.f_law_items)
  F_law_appends : Fun K "_law_appends" "_law_appends" s_law_appends a.f_law_appends a.fd_law_appends
  b_law_appends : Binds K a.fd_law_appends ["stream", "rows", "items", "room"] []
  g_law_appends : mg "_law_appends" = some (.ref a.f_law_appends)
  F_law_split : Fun K "_law_split" "_law_split" s_law_split a.f_law_split a.fd_law_split
  b_law_split : Binds K a.fd_law_split ["rows", "n"] []
  g_law_split : mg "_law_split" = some (.ref a.f_law_split)
  F_law_agrees : Fun K "_law_agrees" "_law_agrees" s_law_agrees a.f_law_agrees a.fd_law_agrees
  b_law_agrees : Binds K a.fd_law_agrees ["stream", "rows", "room"] []
  g_law_agrees : mg "_law_agrees" = some (.ref a.f_law_agrees)
  F_law : Fun K "law" "law" s_law a.f_law a.fd_law
  b_law : Binds K a.fd_law ["script"] []
  g_law : mg "law" = some (.ref a.f_law)
  g_TickringsError : mg "TickringsError" = some (.ref a.C_TickringsError)
  g_StreamFull : mg "StreamFull" = some (.ref a.C_StreamFull)
  g_ReadStream : mg "ReadStream" = some (.ref a.C_ReadStream)
  cl_ReadStream : Cls K a.C_ReadStream
  n_ReadStream_room : NoAttr K a.C_ReadStream "room"
  n_ReadStream_items : NoAttr K a.C_ReadStream "_items"
  e_StreamFull : EK P w K mg base "StreamFull" "space" a.C_StreamFull a.f_StreamFull_init a.fd_StreamFull_init ["self", "space"]
  is_StreamFull_TickringsError : PySem.W.kitOne K (.ref a.C_StreamFull) (.ref a.C_TickringsError) = some true
instance {P : Program} {w : World} {K : PySem.W.Frag} {mg : Str → Option Value} {base : Heap} {a : Ads} : Sl.Noa (Txt P w K mg base a) K a.C_ReadStream "room" := ⟨fun T => ⟨T.cl_ReadStream, T.n_ReadStream_room⟩⟩
instance {P : Program} {w : World} {K : PySem.W.Frag} {mg : Str → Option Value} {base : Heap} {a : Ads} : Sl.Noa (Txt P w K mg base a) K a.C_ReadStream "_items" := ⟨fun T => ⟨T.cl_ReadStream, T.n_ReadStream_items⟩⟩
local macro_rules | `(tactic| wtm_at "ne") => `(tactic| (first | with_reducible assumption | with_reducible exact Ne.symm (by with_reducible assumption)))
local macro_rules | `(tactic| wtm_at "nin") => `(tactic| (simp only [List.mem_cons, List.not_mem_nil, or_false, not_or, not_false_eq_true]; (repeat' refine And.intro ?_ ?_); (all_goals wtm_at "ne")))
local macro_rules | `(tactic| wtm_at "hl") => `(tactic| (first | (with_reducible assumption) | exact upd_same | ((with_reducible refine' (upd_ne ?hne).trans ?hgo); (case hne => wtm_at "ne"); (case hgo => wtm_at "hl"))))
local macro_rules | `(tactic| wtm_at "sq") => `(tactic| (first | (with_reducible assumption) | exact Or.inl (Or.inl (by wtm_at "hl"))))
local macro_rules | `(tactic| wtm_at "ar") => `(tactic| (first | omega | exact ⟨by omega, by omega⟩ | exact Or.inl ⟨by omega, by omega⟩ | exact Or.inr ⟨by omega, by omega⟩ | (show (0 : Int) < _; omega) | (show (0 : Int) < _ ∧ _ < (1073741824 : Int); omega)))
local macro_rules | `(tactic| wtm_at "cls") => `(tactic| (first | exact Txt.cl_ReadStream (by assumption)))
local macro_rules | `(tactic| wtm_at "noa") => do let T := Lean.mkIdent `T; `(tactic| (first | exact Sl.Noa.no $T | exact Sl.Noa.no (φ := Txt _ _ _ _ _ _) (by assumption)))
local macro_rules | `(tactic| wtm_at "lkp") => `(tactic| (first | with_reducible exact Sl.Lkp.h))
local macro_rules | `(tactic| wtm_at "ptf") => `(tactic| (first | with_reducible exact Sl.Ptf.h | exact rfl))
local macro_rules | `(tactic| wtm_at "lnF") => `(tactic| (first | with_reducible exact Sl.LnF.h | (refine PL.lt (n := 60) ?_ (by decide); (repeat refine PL.put ?_); exact PL.nil) | (simp only [List.length_cons, List.length_nil]; decide) | decide))
local macro_rules | `(tactic| wtm_at "nol") => `(tactic| (first | with_reducible exact Sl.NoL.h))
local macro_rules | `(tactic| wtm_at "kdl") => `(tactic| (first | fail))
local macro_rules | `(tactic| wtm_at "kdp") => `(tactic| (first | fail))
local macro_rules | `(tactic| wtm_at "kdn") => `(tactic| (first | fail))
local macro_rules | `(tactic| wtm_at "kdd") => do let h := Lean.mkIdent `hs; `(tactic| (first | fail))
local macro_rules | `(tactic| wtm_at "r_1") => `(tactic| (first
  | ((with_reducible refine' k_meth ?h1 ?h2 ?_); (case h1 => wtm_at "hl"); (case h2 => wtm_at "nol"))
  | ((with_reducible refine' k_fld ?h1 ?h2 ?h3 ?h4 ?_); (case h1 => wtm_at "hl"); (case h2 => wtm_at "cls"); (case h3 => wtm_at "noa"); (case h4 => wtm_at "lkp"))))
local macro_rules | `(tactic| wtm_at "r_2") => `(tactic| (
  (with_reducible refine' k_set ?h1 ?h2 ?h3 ?h4 ?h5 ?_); (case h1 => wtm_at "hl"); (case h2 => wtm_at "cls"); (case h3 => wtm_at "noa"); (case h4 => wtm_at "ptf"); (case h5 => wtm_at "lnF")))
local macro_rules | `(tactic| wtm_at "r_3") => `(tactic| (first
  | ((with_reducible refine' o_eq ?hs ?_); (case hs => exact rfl)) | ((with_reducible refine' o_ne ?hs ?_); (case hs => exact rfl)) | ((with_reducible refine' o_I ?hc ?_); (case hc => wtm_at "ar"))))
local macro_rules | `(tactic| wtm_at "r_4") => `(tactic| (first
  | ((with_reducible refine' c_ln ?h1 ?_); (case h1 => wtm_at "sq")) | ((with_reducible refine' o_ixL ?h1 ?h2 ?_); (case h1 => wtm_at "sq"); (case h2 => first | exact rfl | exact atI_zero _ _))
  | ((with_reducible refine' k_ty ?h1 ?_); (case h1 => wtm_at "sq")) | ((with_reducible refine' k_truL ?h1 ?_); (case h1 => wtm_at "sq"))))
local macro_rules | `(tactic| wtm_at "r_5") => `(tactic| (first
  | ((with_reducible refine' c_pop0 ?h1 ?h2 ?_); (case h1 => wtm_at "hl"); (case h2 => omega)) | ((with_reducible refine' o_slL ?h1 ?_); (case h1 => wtm_at "sq"))))
local macro_rules | `(tactic| wtm_at "r_6") => `(tactic| (first
  | ((with_reducible refine' c_isList ?h1 ?_); (case h1 => wtm_at "hl")) | ((with_reducible refine' c_isTup ?h1 ?_); (case h1 => wtm_at "hl")) | ((with_reducible refine' c_isTupB ?h1 ?_); (case h1 => wtm_at "hl"))
  | ((with_reducible refine' s_augV ?hv ?_); (case hv => exact rfl)) | ((with_reducible refine' k_xf ?h1 ?h2 ?_); (case h1 => wtm_at "hl"); (case h2 => exact look_hit _ _ _)) | ((with_reducible refine' k_dget ?h1 ?h2 ?_); (case h1 => wtm_at "hl"); (case h2 => with_reducible assumption))))
local macro_rules | `(tactic| wtm_at "r") => `(tactic| (repeat (first
  | with_reducible refine' Sl.Wr ?_ | ((with_reducible apply e_var); (case h => exact rfl))
  | ((with_reducible refine' Sl.cn 1 ?_); wtm_at "r_1") | ((with_reducible refine' Sl.cn 3 ?_); wtm_at "r_3") | ((with_reducible refine' Sl.cn 2 ?_); wtm_at "r_2")
  | ((with_reducible refine' Sl.cn 4 ?_); wtm_at "r_4") | ((with_reducible refine' Sl.cn 5 ?_); wtm_at "r_5") | ((with_reducible refine' Sl.cn 6 ?_); wtm_at "r_6")
  | with_reducible refine d_nx ?_ | with_reducible refine d_rt ?_ | with_reducible refine d_bk ?_ | with_reducible refine d_ct ?_)))
local macro_rules | `(tactic| wtm_at "nm") => `(tactic| (simp only [L2.start, List.length_cons, List.length_nil, List.map_cons, List.map_nil, List.set_cons_succ, List.set_cons_zero, List.replicate_succ, List.replicate_zero, List.cons_append, List.nil_append, Nat.add_sub_cancel]))
local macro_rules | `(tactic| wtm_at "sel") => `(tactic| (first | with_reducible exact Sl.SelT.s | with_reducible exact Sl.Sel.here | ((with_reducible refine' Sl.Sel.there ?t); (case t => wtm_at "sel_"))))
local macro_rules | `(tactic| wtm_at "sel_") => `(tactic| (first | with_reducible exact Sl.Sel.here | ((with_reducible refine' Sl.Sel.there ?t); (case t => wtm_at "sel_"))))
local macro_rules | `(tactic| wtm_at "selt") => `(tactic| (first | with_reducible exact Sl.Sels.all _ | ((with_reducible refine' Sl.Sels.skip ?t); (case t => wtm_at "selt"))))
local macro_rules | `(tactic| wtm_at "sels") => `(tactic| (first | with_reducible exact Sl.SelsT.s | with_reducible exact Sl.Sels.nil | ((with_reducible refine' Sl.Sels.cons ?a ?b); (case a => wtm_at "sel"); (case b => wtm_at "sels")) | wtm_at "selt"))
local macro_rules | `(tactic| wtm_at "selm") => `(tactic| ((try (simp only [])); (try simp only [List.map_append, List.map_cons, List.map_nil]); wtm_at "sels"))
local macro_rules | `(tactic| wtm_at "hg") => do
  let h := Lean.mkIdent `hs
  `(tactic| (first | (with_reducible assumption) | (with_reducible exact Sl.GetC.h $h) | ((with_reducible refine' Sl.St.get $h ?s); (case s => wtm_at "sel")) | ((with_reducible refine' Sl.St.geti $h ?s); (case s => wtm_at "sel"))))
local macro_rules | `(tactic| wtm_at "sg") => do
  let h := Lean.mkIdent `hs
  `(tactic| (first | (with_reducible assumption) | (with_reducible exact Sl.SqC.h $h) | (with_reducible exact Sl.SqTC.h $h) | exact Or.inl (Or.inl (by wtm_at "hg")) | (refine' Sl.sqA.U $h ?s; (case s => wtm_at "sel"))))
local macro_rules | `(tactic| wtm_at "le5") => `(tactic| (first | omega | (simp only [List.length_cons, List.length_nil, List.length_append, List.length_map]; omega) | (show _ ≤ _; decide) | (show _ < _; decide)))
local macro_rules | `(tactic| wtm_at "km") => `(tactic| fail)
local macro_rules | `(tactic| wtm_at "kf") => `(tactic| fail)
local macro_rules | `(tactic| wtm_at "x_1") => `(tactic| (first
  | ((with_reducible refine' k_meth ?h1 ?h2 ?_); (case h1 => wtm_at "hg"); (case h2 => wtm_at "nol")) | wtm_at "km"
  | ((with_reducible refine' k_fld ?h1 ?h2 ?h3 ?h4 ?_); (case h1 => wtm_at "hg"); (case h2 => wtm_at "cls"); (case h3 => wtm_at "noa"); (case h4 => wtm_at "lkp")) | wtm_at "kf"))
local macro_rules | `(tactic| wtm_at "x_2") => do
  let h := Lean.mkIdent `hs
  let T := Lean.mkIdent `T
  `(tactic| (first
  | ((with_reducible refine' Sl.k_newL $h ?h1 ?_); (case h1 => wtm_at "le5"); (clear $h; intro _ _ $h)) | ((with_reducible refine' Sl.k_newT $h ?h1 ?_); (case h1 => wtm_at "le5"); (clear $h; intro _ _ $h))
  | ((with_reducible refine' Sl.k_make $h ?_); (clear $h; intro _ _ _ $h)) | ((with_reducible refine' Sl.k_setC $T $h ?_); (clear $h; intro _ $h))
  | ((with_reducible refine' Sl.k_setS $h ?h1 ?h2 ?h3 ?h4 ?h5 ?_); (case h1 => wtm_at "sel"); (case h2 => wtm_at "cls"); (case h3 => wtm_at "noa"); (case h4 => wtm_at "ptf"); (case h5 => wtm_at "lnF"); (clear $h; intro _ $h))))
local macro_rules | `(tactic| wtm_at "x_3") => `(tactic| (first
  | ((with_reducible refine' o_eq ?hs ?_); (case hs => exact rfl)) | ((with_reducible refine' o_ne ?hs ?_); (case hs => exact rfl)) | ((with_reducible refine' o_I ?hc ?_); (case hc => wtm_at "ar"))))
local macro_rules | `(tactic| wtm_at "x_4") => `(tactic| (first
  | ((with_reducible refine' o_ixL ?h1 ?h2 ?_); (case h1 => wtm_at "sg"); (case h2 => first | exact rfl | exact atI_zero _ _)) | ((with_reducible refine' o_ixT ?h1 ?h2 ?_); (case h1 => wtm_at "sg"); (case h2 => first | exact rfl | exact atI_zero _ _))
  | ((with_reducible refine' c_ln ?h1 ?_); (case h1 => wtm_at "sg")) | ((with_reducible refine' c_lnT ?h1 ?_); (case h1 => wtm_at "sg")) | ((with_reducible refine' k_truL ?h1 ?_); (case h1 => wtm_at "sg"))
  | ((with_reducible refine' k_ty ?h1 ?_); (case h1 => wtm_at "sg")) | ((with_reducible refine' g_tup ?h1 ?h2 ?_); (case h1 => wtm_at "sg"); (case h2 => exact rfl))))
local macro_rules | `(tactic| wtm_at "x_5") => do
  let h := Lean.mkIdent `hs
  `(tactic| (first
  | ((with_reducible refine' Sl.c_appS $h ?h1 ?h2 ?_); (case h1 => wtm_at "sel"); (case h2 => wtm_at "le5"); (clear $h; intro _ $h)) | ((with_reducible refine' Sl.c_pop0S $h ?h1 ?h2 ?_); (case h1 => wtm_at "sel"); (case h2 => wtm_at "le5"); (clear $h; intro _ $h))
  | ((with_reducible refine' Sl.c_lsS $h ?h1 ?_); (case h1 => wtm_at "sg"); (clear $h; intro _ _ $h)) | ((with_reducible refine' Sl.o_slLS $h ?h1 ?_); (case h1 => wtm_at "sg"); (clear $h; intro _ _ $h)) | ((with_reducible refine' Sl.c_clrS $h ?h1 ?_); (case h1 => wtm_at "sel"); (clear $h; intro _ $h))
  | ((with_reducible refine' Sl.o_catS $h ?h1 ?h2 ?h3 ?_); (case h1 => wtm_at "hg"); (case h2 => wtm_at "hg"); (case h3 => wtm_at "le5"); (clear $h; intro _ _ $h)) | ((with_reducible refine' Sl.c_extS $h ?h1 ?h2 ?h3 ?_); (case h1 => wtm_at "sel"); (case h2 => wtm_at "hg"); (case h3 => wtm_at "le5"); (clear $h; intro _ $h))))
local macro_rules | `(tactic| wtm_at "x_6") => do
  let h := Lean.mkIdent `hs
  `(tactic| (first
  | ((with_reducible refine' Sl.k_raise $h ?h1 ?_); (case h1 => exact okV_int ⟨by omega, by omega⟩); (clear $h; intro _ _ $h))
  | ((with_reducible refine' c_isList ?h1 ?_); (case h1 => wtm_at "hg")) | ((with_reducible refine' c_isTup ?h1 ?_); (case h1 => wtm_at "hg")) | ((with_reducible refine' c_isTupB ?h1 ?_); (case h1 => wtm_at "hg"))
  | ((with_reducible refine' s_augV ?hv ?_); (case hv => exact rfl))
  | ((with_reducible refine' k_xf ?h1 ?h2 ?_); (case h1 => wtm_at "hg"); (case h2 => exact look_hit _ _ _)) | ((with_reducible refine' k_dget ?h1 ?h2 ?_); (case h1 => wtm_at "hg"); (case h2 => first | with_reducible assumption | wtm_at "kdl"))
  | ((with_reducible refine' Sl.e_disp $h ?_); (clear $h; intro _ _ $h)) | ((wtm_at "kdd"); (case s => wtm_at "sel"); (clear $h; intro _ $h))
  | ((with_reducible refine' Sl.k_dputS $h ?h1 ?h2 ?h3 ?_); (case h1 => wtm_at "sel"); (case h2 => wtm_at "kdn"); (case h3 => wtm_at "kdp"); (clear $h; intro _ $h))))
local macro_rules | `(tactic| wtm_at "x") => do
  let h := Lean.mkIdent `hs
  let T := Lean.mkIdent `T
  `(tactic| (repeat (first
  | with_reducible refine' Sl.Wk $T $h ?_ | with_reducible refine' Sl.Wj ?_ | ((with_reducible apply e_var); (case h => exact rfl))
  | ((with_reducible refine' Sl.cn 1 ?_); wtm_at "x_1") | ((with_reducible refine' Sl.cn 2 ?_); wtm_at "x_2") | ((with_reducible refine' Sl.cn 3 ?_); wtm_at "x_3")
  | ((with_reducible refine' Sl.cn 4 ?_); wtm_at "x_4") | ((with_reducible refine' Sl.cn 5 ?_); wtm_at "x_5") | ((with_reducible refine' Sl.cn 6 ?_); wtm_at "x_6")
  | with_reducible refine d_nx ?_ | with_reducible refine d_rt ?_ | with_reducible refine d_bk ?_ | with_reducible refine d_ct ?_)))
section
variable {P : Program} {w : World} {K : PySem.W.Frag} {mg : Str → Option Value} {base : Heap} {a : Ads}
/-! ### the script's numbers, drawn -/
def StAt (H : Hp) (st sl : Addr) : Prop := ∃ (ns : List Int) (m : Int), H st = some (.lst [.ref sl, .int m]) ∧ H sl = some (.lst (ns.map V.int)) ∧ ns.length ≤ 63 ∧ (∀ z ∈ ns, 0 ≤ z) ∧ 0 ≤ m ∧ m ≤ 2147483647
theorem StAt.ne {H : Hp} {st sl : Addr} (s : StAt H st sl) : st ≠ sl := by
  obtain ⟨ns, m, h1, h2, _⟩ := s
  refine ne_of h1 h2 fun z => ?_
  have z2 := HO.lst.inj z
  cases ns with
  | nil => cases z2
  | cons y ys => cases (List.cons.inj z2).1
theorem StAt.fp {H H1 : Hp} {st sl : Addr} {fp : List Addr} (s : StAt H st sl) (f : Fp fp H H1) (n1 : st ∉ fp) (n2 : sl ∉ fp) : StAt H1 st sl := by
  obtain ⟨ns, m, h1, h2, r⟩ := s
  exact ⟨ns, m, f _ _ h1 n1, f _ _ h2 n2, r⟩
theorem StAt.inn {H : Hp} {st sl : Addr} (s : StAt H st sl) : Inn H [st, sl] := by
  obtain ⟨ns, m, h1, h2, r⟩ := s
  exact .cons h1 (.cons h2 .nil)
theorem StAt.nd {H : Hp} {st sl : Addr} (s : StAt H st sl) : [st, sl].Nodup := by simp [s.ne]
/-- [draw for k in range(n)] -/
theorem k_lcD {σ : L2.St} {H : Hp} {Q : VK} {g : TG} {te : TE} {vs : List Nat} {n : Int} {st sl : Addr} (P : V → Prop) (h1 : 0 ≤ n) (h2 : n < 100000) (S : StAt H st sl)
    (hs : ∀ (i : Nat) (H' : Hp) (R : VK), (i : Int) < n → StAt H' st sl → Fp [st, sl] H H' → (∀ y H4, P y → StAt H4 st sl → Fp [st, sl] H' H4 → R y H4) →
      g (.int (i : Nat)) (wipe σ vs) H' fun σ2 H2 => wipe σ2 vs = wipe σ vs ∧ te σ2 H2 R)
    (q : ∀ E acc H', H E = none → acc.length = n.toNat → H' E = some (.lst acc) → (∀ y ∈ acc, P y) → StAt H' st sl → Fp [st, sl] H H' → st ≠ E → sl ≠ E → Q (.ref E) H') : kLcR g te vs σ Q (.int n) H := by
  obtain ⟨_, _, z1, z2, _⟩ := id S
  refine k_lcS (fun E i acc H' => (∀ y ∈ acc, P y) ∧ StAt H' st sl ∧ Fp [st, sl] H H') h1 h2 (fun E hE => ⟨by simp, S.fp (Fp.new (fp := []) hE) (by simp) (by simp), Fp.new hE⟩) (fun E i acc H' R hE hi hl e ⟨j1, j2, j3⟩ k => hs i H' R hi j2 j3 fun y H4 py S4 f4 => ?_) fun E acc H' hE hl e ⟨j1, j2, j3⟩ => q E acc H' hE hl e j1 j2 j3 (ne_of_none z1 hE) (ne_of_none z2 hE)
  have n1 := ne_of_none z1 hE
  have n2 := ne_of_none z2 hE
  refine k y H4 (f4 _ _ e (by simp [n1.symm, n2.symm])) ⟨fun x hx => ?_, S4.fp (Fp.at_ (fp := [E]) (by simp)) (by simp [n1]) (by simp [n2]), Fp.drop (fp := [E, st, sl]) (((j3.trans f4).mono (fun z hz => List.mem_cons_of_mem _ hz)).trans (Fp.at_ (by simp))) fun z hz => ?_⟩
  · rcases List.mem_append.mp hx with hx | hx
    · exact j1 x hx
    · rw [List.mem_singleton.mp hx]; exact py
  · rcases List.mem_cons.mp hz with rfl | hz
    · exact .inr hE
    · exact .inl hz
/-- [e for k in range(n) if draw] -/
theorem k_lcDF {σ : L2.St} {H : Hp} {Q : VK} {g : TG} {tt : TT} {te : TE} {vs : List Nat} {n : Int} {st sl : Addr} (P : V → Prop) (h1 : 0 ≤ n) (h2 : n < 100000) (S : StAt H st sl)
    (hs : ∀ (i : Nat) (H' : Hp) (R : VK) (N : Hp → Prop), (i : Int) < n → StAt H' st sl → Fp [st, sl] H H' → (∀ y H4, P y → StAt H4 st sl → Fp [st, sl] H' H4 → R y H4) → (∀ H4, StAt H4 st sl → Fp [st, sl] H' H4 → N H4) →
      g (.int (i : Nat)) (wipe σ vs) H' fun σ2 H2 => wipe σ2 vs = wipe σ vs ∧ tt σ2 H2 fun k H3 => if k = true then te σ2 H3 R else N H3)
    (q : ∀ E acc H', H E = none → acc.length ≤ n.toNat → H' E = some (.lst acc) → (∀ y ∈ acc, P y) → StAt H' st sl → Fp [st, sl] H H' → st ≠ E → sl ≠ E → Q (.ref E) H') : kLcF g tt te vs σ Q (.int n) H := by
  obtain ⟨_, _, z1, z2, _⟩ := id S
  refine k_lcSF (fun E i acc H' => (∀ y ∈ acc, P y) ∧ StAt H' st sl ∧ Fp [st, sl] H H') h1 h2 (fun E hE => ⟨by simp, S.fp (Fp.new (fp := []) hE) (by simp) (by simp), Fp.new hE⟩) (fun E i acc H' R N hE hi hl e ⟨j1, j2, j3⟩ k kn => ?_) fun E acc H' hE hl e ⟨j1, j2, j3⟩ => q E acc H' hE hl e j1 j2 j3 (ne_of_none z1 hE) (ne_of_none z2 hE)
  have n1 := ne_of_none z1 hE
  have n2 := ne_of_none z2 hE
  refine hs i H' R N hi j2 j3 (fun y H4 py S4 f4 => ?_) fun H4 S4 f4 => kn H4 (f4 _ _ e (by simp [n1.symm, n2.symm])) ⟨j1, S4, j3.trans f4⟩
  refine k y H4 (f4 _ _ e (by simp [n1.symm, n2.symm])) ⟨fun x hx => ?_, S4.fp (Fp.at_ (fp := [E]) (by simp)) (by simp [n1]) (by simp [n2]), Fp.drop (fp := [E, st, sl]) (((j3.trans f4).mono (fun z hz => List.mem_cons_of_mem _ hz)).trans (Fp.at_ (by simp))) fun z hz => ?_⟩
  · rcases List.mem_append.mp hx with hx | hx
    · exact j1 x hx
    · rw [List.mem_singleton.mp hx]; exact py
  · rcases List.mem_cons.mp hz with rfl | hz
    · exact .inr hE
    · exact .inl hz
def sp_law_state (K : PySem.W.Frag) (a : Ads) : Sp := A1 fun v H Q _ => ∃ (b : Addr) (ns : List Int), v = .ref b ∧ SqL K H b (ns.map V.int) ∧ ns.length ≤ 63 ∧
  ∀ st sl H1, H st = none → H sl = none → StAt H1 st sl → Fp [] H H1 → Q (.ref st) H1
def sp_law_draw (K : PySem.W.Frag) (a : Ads) : Sp := A2 fun s m H Q _ => ∃ (st sl : Addr) (k : Int), s = .ref st ∧ m = .int k ∧ StAt H st sl ∧ 1 ≤ k ∧ k < 1073741824 ∧
  ∀ r H1, 0 ≤ r → r < k → StAt H1 st sl → Fp [st, sl] H H1 → Q (.int r) H1
theorem ok_law_state (T : Txt P w K mg base a) : FnOk P w K mg base (L2.CX P w) 1 a.f_law_state a.fd_law_state ["script"] (sp_law_state K a) := by
  refine T.F_law_state.okX sc_law_state (fun vs H Q E h => A1.len h) (fun cdv A outer s H vs Q E hr h => ?_)
  have hu := hu_of hr
  obtain ⟨v_script, rfl, h⟩ := h
  refine ⟨_, (pss_cons (ps_set (i := 1) sc_law_state.nd rfl (by first | exact Or.inl rfl | exact Or.inr rfl) pe_int)
    (pss_cons (ps_for (passes_of rfl) rfl (pi_list (pv 0)) (pg_name (i := 2) sc_law_state.nd rfl (by first | exact Or.inl rfl | exact Or.inr rfl)) (pss_one (ps_set (i := 1) sc_law_state.nd rfl (by first | exact Or.inl rfl | exact Or.inr rfl) (pe_op op_mod (pe_callTy call_in (by rfl) T.g_int (by decide +kernel) (pa_cons (pe_op op_add (pe_op op_mul (pv 1) pe_int) (pv 2)) pa_nil)) pe_int))))
    (pss_one (ps_ret (pe_lst (pa_cons (pe_lc (own := [("cell", 2)]) (g := (gName 2)) (tt := tYes) (te := (tCB rAb (tCons (tVar 2) tNil))) rfl sc_law_state.nd (pi_list (pv 0)) (blkOk_by (N := ["script", "seed", "cell"]) (sc := defScope s_law_state) (own := [("cell", 2)]) (by decide +kernel)) (fun _ _ _ _ _ => by exact (pg_name (i := 2) sc_law_state.nd rfl (by first | exact Or.inl rfl | exact Or.inr rfl))) (fun _ _ _ _ _ => by exact pts_nil) (fun _ _ _ _ _ => by exact (pe_callB call_ab (by rfl) T.g_abs (by decide +kernel) (pa_cons (pv 2) pa_nil)))) (pa_cons (pe_op op_add (pv 1) pe_int) pa_nil))))))), ?_⟩
  obtain ⟨b, ns, rfl, hS, hn, k⟩ := h
  wtm_at "r"
  refine f_list (xs := ns.map V.int) (fun i σ H1 => ∃ (sd : Int) (u : Option V), σ = [some (.ref b), some (.int sd), u] ∧ H1 = H ∧ 0 ≤ sd ∧ sd < 1000003) rfl hS ⟨7, none, rfl, rfl, by omega, by omega⟩ (fun i σ H1 _ ⟨_, _, _, e, _⟩ => e ▸ hS) ?_ ?_
  · rintro i x σ H1 hx ⟨sd, u, rfl, rfl, h0, h1⟩
    obtain ⟨z, rfl⟩ : ∃ z, x = V.int z := by
      obtain ⟨z, _, e⟩ := List.mem_map.mp (List.mem_of_getElem? hx)
      exact ⟨z, e.symm⟩
    wtm_at "r"
    exact ⟨_, _, rfl, rfl, Int.emod_nonneg _ (by omega), Int.emod_lt_of_pos _ (by omega)⟩
  · rintro σ H1 ⟨sd, u, rfl, rfl, h0, h1⟩
    wtm_at "r"
    refine lc_pure (xs := ns.map V.int) (ys := (ns.map fun z => if z < 0 then -z else z).map V.int) rfl hS (by simp) (by simp <;> omega) (fun E i x y H2 R hE hx hy e hR => ?_) fun E hE => ?_
    · obtain ⟨z, hz, rfl⟩ : ∃ z, ns[i]? = some z ∧ V.int z = x := by rw [List.getElem?_map] at hx; simpa using hx
      have hy' : V.int (if z < 0 then -z else z) = y := by simpa [List.getElem?_map, hz] using hy
      refine ⟨rfl, ?_⟩
      wtm_at "r"
      rw [hy']
      exact hR
    · wtm_at "r"
      refine ⟨sz (by simp), fun st hst => ?_⟩
      have nE : st ≠ E := ne_of_none upd_same hst |>.symm
      have nst : H1 st = none := by rw [upd_ne nE] at hst; exact hst
      refine k st E _ nst hE ⟨_, _, upd_same, by rw [upd_ne nE.symm, upd_same], by simpa using hn, fun z hz => ?_, by omega, by omega⟩ ((Fp.new hE).trans (Fp.new hst))
      obtain ⟨y, _, rfl⟩ := List.mem_map.mp hz
      split <;> omega
theorem ok_law_draw (T : Txt P w K mg base a) : FnOk P w K mg base (L2.CX P w) 1 a.f_law_draw a.fd_law_draw ["state", "many"] (sp_law_draw K a) := by
  refine T.F_law_draw.okX sc_law_draw (fun vs H Q E h => A2.len h) (fun cdv A outer s H vs Q E hr h => ?_)
  have hu := hu_of hr
  obtain ⟨v_state, v_many, rfl, h⟩ := h
  refine ⟨_, (pss_cons (ps_set (i := 2) sc_law_draw.nd rfl (by first | exact Or.inl rfl | exact Or.inr rfl) (pe_ix ix_list (pv 0) pe_int (fun _ _ => rfl)))
    (pss_cons (ps_while (passes_of rfl) (PW.pt (pw_and (pt_cmpR op_gt (pe_callB call_ln (by rfl) T.g_len (by decide +kernel) (pa_cons (pv 2) pa_nil)) pe_int (nomark _)) (pw_and1 (pt_cmpR op_eq (pe_ix ix_list (pv 2) pe_int (fun _ _ => rfl)) pe_int (nomark _))))) (pss_one (ps_expr (pe_bm PySem.F.plainAttrs_list PySem.F.slot_list_pop PySem.F.type_list_pop mt_popAt (pv 2) (pa_cons pe_int pa_nil)))))
    (pss_cons (ps_if (pt_cmpR op_gt (pe_callB call_ln (by rfl) T.g_len (by decide +kernel) (pa_cons (pv 2) pa_nil)) pe_int (nomark _)) (pss_cons (ps_set (i := 3) sc_law_draw.nd rfl (by first | exact Or.inl rfl | exact Or.inr rfl) (pe_ix ix_list (pv 2) pe_int (fun _ _ => rfl)))
    (pss_cons (ps_asg (pe_op op_fdiv (pv 3) (pv 1)) (pg_sub (pv 2) pe_int set_list))
    (pss_one (ps_ret (pe_op op_mod (pe_callTy call_in (by rfl) T.g_int (by decide +kernel) (pa_cons (pv 3) pa_nil)) (pv 1)))))) pss_nil)
    (pss_cons (ps_set (i := 4) sc_law_draw.nd rfl (by first | exact Or.inl rfl | exact Or.inr rfl) (pe_op op_mod (pe_callTy call_in (by rfl) T.g_int (by decide +kernel) (pa_cons (pe_op op_add (pe_op op_mul (pe_ix ix_list (pv 0) pe_int (fun _ _ => rfl)) pe_int) pe_int) pa_nil)) pe_int))
    (pss_cons (ps_asg (pv 4) (pg_sub (pv 0) pe_int set_list))
    (pss_one (ps_ret (pe_op op_mod (pe_callTy call_in (by rfl) T.g_int (by decide +kernel) (pa_cons (pe_op op_fdiv (pv 4) pe_int) pa_nil)) (pv 1))))))))), ?_⟩
  obtain ⟨st, sl, kk, rfl, rfl, S, k1, k2, k⟩ := h
  obtain ⟨ns, m, hst, hsl, hn, hpos, m0, m1⟩ := id S
  have nss := S.ne
  wtm_at "r"
  refine w_by (fun q σ H1 => ∃ (ns1 : List Int), σ = [some (.ref st), some (.int kk), some (.ref sl), none, none] ∧ q = ns1.length ∧ H1 st = some (.lst [.ref sl, .int m]) ∧ H1 sl = some (.lst (ns1.map V.int)) ∧ ns1.length ≤ 63 ∧ (∀ z ∈ ns1, 0 ≤ z) ∧ Fp [st, sl] H H1) ns.length ⟨ns, rfl, rfl, hst, hsl, hn, hpos, Fp.refl _ _⟩ ?_
  rintro q σ H1 ⟨ns1, rfl, rfl, g1, g2, gn, gp, gf⟩
  wtm_at "r"
  rw [List.length_map]
  cases ns1 with
  | nil =>
    refine if_dF (by simp) ?_
    refine iteF ?_
    wtm_at "r"
    refine if_dF (by simp) ?_
    wtm_at "r"
    refine c_setL (j := 1) g1 rfl (by simp) ?_
    wtm_at "r"
    exact k _ _ (Int.emod_nonneg _ (by omega)) (Int.emod_lt_of_pos _ (by omega)) ⟨[], _, upd_same, by rw [upd_ne nss.symm]; exact g2, gn, gp, Int.emod_nonneg _ (by omega), by have := Int.emod_lt_of_pos (m * 48271 + 12345) (show (0 : Int) < 2147483647 by omega); omega⟩ (gf.trans (Fp.at_ (by simp)))
  | cons z zs =>
    rw [List.map_cons] at g2
    have gz : zs.length ≤ 62 := by simpa using gn
    have gl : ((zs.map V.int).length) < 100000 := by rw [List.length_map]; omega
    refine if_dT (by simp <;> omega) ?_
    wtm_at "r"
    refine if_d (fun e => ?_) (fun e => ?_)
    · refine ⟨_, fun _ _ h => h, ?_⟩
      wtm_at "r"
      exact ⟨zs.length, by simp, zs, rfl, rfl, by rw [upd_ne nss]; exact g1, upd_same, by omega, fun y hy => gp y (List.mem_cons_of_mem _ hy), gf.trans (Fp.at_ (by simp))⟩
    · wtm_at "r"
      refine if_dT (by simp <;> omega) ?_
      wtm_at "r"
      refine c_setL (j := 0) g2 rfl (by simp) ?_
      wtm_at "r"
      have hz := gp z List.mem_cons_self
      exact k _ _ (Int.emod_nonneg _ (by omega)) (Int.emod_lt_of_pos _ (by omega)) ⟨z / kk :: zs, m, by rw [upd_ne nss]; exact g1, upd_same, gn, fun y hy => by
        rcases List.mem_cons.mp hy with rfl | hy
        · exact Int.ediv_nonneg hz (by omega)
        · exact gp y (List.mem_cons_of_mem _ hy), m0, m1⟩ (gf.trans (Fp.at_ (by simp)))
/-! ### the drawn numbers, as an assertion -/
def stP (st : Addr) (H : Hp) (A : List Addr) : Prop := ∃ sl, A = [st, sl] ∧ StAt H st sl
def StA (st : Addr) : As := fpa (stP st) (fun H H' A ⟨sl, e, ns, m, h1, h2, r⟩ g => ⟨sl, e, ns, m, by rw [g.1 st (by simp [e])]; exact h1, by rw [g.1 sl (by simp [e])]; exact h2, r⟩)
  (fun H A ⟨sl, e, ns, m, h1, h2, r⟩ a s => by rw [e] at s; simp only [List.mem_cons, List.not_mem_nil, or_false] at s; rcases s with rfl | rfl <;> simp [h1, h2])
theorem c_draw {L R : List As} {H : Hp} {Q : VK} {E : XK} {st : Addr} {k : Int} (hs : Sl.St L H) (s : Sel (StA st) L R) (k1 : 1 ≤ k) (k2 : k < 1073741824) (q : ∀ r H', 0 ≤ r → r < k → Sl.St (StA st :: R) H' → Q (.int r) H') : sp_law_draw K a [.ref st, .int k] H Q E := by
  obtain ⟨A, ⟨sl, rfl, S⟩, up⟩ := fpa_U (hs.sel s)
  refine a2 ⟨st, sl, k, rfl, rfl, S, k1, k2, fun r H1 r1 r2 S1 f => q r H1 r1 r2 (up _ _ _ [st, sl] [st, sl] H1 f (fun x m => ⟨.inl m, fun o e => ?_⟩) ⟨sl, rfl, S1⟩ fun x m => .inl m)⟩
  obtain ⟨ns, m', h1, h2, _⟩ := S
  simp only [List.mem_cons, List.not_mem_nil, or_false] at m
  rcases m with rfl | rfl
  · rw [h1] at e; cases e; exact id
  · rw [h2] at e; cases e; exact id
theorem c_state {L : List As} {H : Hp} {Q : VK} {E : XK} {b : Addr} {ns : List Int} (hs : Sl.St L H) (h : SqL K H b (ns.map V.int)) (hn : ns.length ≤ 63) (q : ∀ st H', Sl.St (StA st :: L) H' → Fp [] H H' → Q (.ref st) H') : sp_law_state K a [.ref b] H Q E :=
  a1 ⟨b, ns, rfl, h, hn, fun st sl H1 n1 n2 S f => q st H1 (fpa_new hs f ⟨sl, rfl, S⟩ fun x m => by
    simp only [List.mem_cons, List.not_mem_nil, or_false] at m
    rcases m with rfl | rfl <;> assumption) f⟩
/-! ### items: bytes and marks -/
inductive It where
  | b (z : Int)
  | m (n : Int)
def isB : It → Bool
  | .b _ => true
  | .m _ => false
def ItV (H : Hp) (v : V) : It → Prop
  | .b z => v = .int z
  | .m n => ∃ t, v = .ref t ∧ H t = some (.tup [.str "lost", .int n])
/-- no tuple stands there -/
def NoT (H : Hp) (fp : List Addr) : Prop := ∀ a ∈ fp, ∀ xs, H a ≠ some (.tup xs)
theorem NoT.nil {H : Hp} : NoT H [] := fun _ h => by cases h
theorem NoT.cons {H : Hp} {a : Addr} {fp : List Addr} {xs : List V} (h : H a = some (.lst xs)) (n : NoT H fp) : NoT H (a :: fp) := fun y hy zs e => by
  rcases List.mem_cons.mp hy with rfl | hy
  · rw [h] at e; cases e
  · exact n y hy zs e
theorem NoT.free {H : Hp} {a : Addr} {fp : List Addr} (h : H a = none) (n : NoT H fp) : NoT H (a :: fp) := fun y hy zs e => by
  rcases List.mem_cons.mp hy with rfl | hy
  · rw [h] at e; cases e
  · exact n y hy zs e
theorem NoT.ins {H : Hp} {a C d : Addr} {fp : List Addr} {fs : List (Str × V)} (h : H a = some (.ins C d fs)) (n : NoT H fp) : NoT H (a :: fp) := fun y hy zs e => by
  rcases List.mem_cons.mp hy with rfl | hy
  · rw [h] at e; cases e
  · exact n y hy zs e
theorem NoT.app {H : Hp} {fp fq : List Addr} (n : NoT H fp) (m : NoT H fq) : NoT H (fp ++ fq) := fun y hy => (List.mem_append.mp hy).elim (n y) (m y)
theorem ItV.fp {H H1 : Hp} {fp : List Addr} {v : V} {x : It} (h : ItV H v x) (f : Fp fp H H1) (n : NoT H fp) : ItV H1 v x := by
  cases x with
  | b z => exact h
  | m k =>
    obtain ⟨t, e, g⟩ := h
    exact ⟨t, e, f _ _ g fun z => n t z _ g⟩
/-- a row of items -/
def Its (H : Hp) (vs : List V) (xs : List It) : Prop := vs.length = xs.length ∧ ∀ (i : Nat) (v : V) (x : It), vs[i]? = some v → xs[i]? = some x → ItV H v x
theorem Its.nil {H : Hp} : Its H [] [] := ⟨rfl, fun i v x h => by simp at h⟩
theorem Its.fp {H H1 : Hp} {fp : List Addr} {vs : List V} {xs : List It} (h : Its H vs xs) (f : Fp fp H H1) (n : NoT H fp) : Its H1 vs xs := ⟨h.1, fun i v x hv hx => (h.2 i v x hv hx).fp f n⟩
theorem Its.app {H : Hp} {vs : List V} {xs : List It} {v : V} {x : It} (h : Its H vs xs) (hx : ItV H v x) : Its H (vs ++ [v]) (xs ++ [x]) := by
  refine ⟨by rw [List.length_append, List.length_append, h.1]; rfl, fun i w y hw hy => ?_⟩
  by_cases c : i < vs.length
  · rw [List.getElem?_append_left c] at hw
    rw [List.getElem?_append_left (by rw [← h.1]; exact c)] at hy
    exact h.2 i w y hw hy
  · have e : i = vs.length := by
      have := (List.getElem?_eq_some_iff.mp hw).1
      rw [List.length_append, List.length_singleton] at this
      omega
    subst e
    rw [List.getElem?_concat_length] at hw
    rw [h.1, List.getElem?_concat_length] at hy
    rw [← Option.some.inj hw, ← Option.some.inj hy]
    exact hx
theorem Its.snoc {H : Hp} {vs : List V} {xs : List It} {x : It} (h : Its H vs (xs ++ [x])) : ∃ ws v, vs = ws ++ [v] ∧ Its H ws xs ∧ ItV H v x := by
  have hl := h.1
  rw [List.length_append, List.length_singleton] at hl
  have hne : vs ≠ [] := fun e => by rw [e] at hl; simp at hl
  obtain ⟨ws, v, rfl⟩ : ∃ ws v, vs = ws ++ [v] := ⟨vs.dropLast, vs.getLast hne, (List.dropLast_concat_getLast hne).symm⟩
  rw [List.length_append, List.length_singleton] at hl
  have hl2 : ws.length = xs.length := by omega
  refine ⟨ws, v, rfl, ⟨hl2, fun i w y hw hy => ?_⟩, ?_⟩
  · have hi := (List.getElem?_eq_some_iff.mp hw).1
    exact h.2 i w y (by rw [List.getElem?_append_left hi]; exact hw) (by rw [List.getElem?_append_left (by omega)]; exact hy)
  · exact h.2 ws.length v x (by rw [List.getElem?_concat_length]) (by rw [hl2, List.getElem?_concat_length])
theorem Its.cons {H : Hp} {vs : List V} {xs : List It} {x : It} (h : Its H vs (x :: xs)) : ∃ v ws, vs = v :: ws ∧ Its H ws xs ∧ ItV H v x := by
  cases vs with
  | nil => cases h.1
  | cons v ws => exact ⟨v, ws, rfl, ⟨by simpa using h.1, fun i w y hw hy => h.2 (i + 1) w y hw hy⟩, h.2 0 v x rfl rfl⟩
/-- the number of the bytes among them -/
def bys (xs : List It) : Nat := ((List.range xs.length).filter fun i => (xs[i]?).elim false isB).length
def byF (vs : List V) (xs : List It) (i : Nat) : Option V := if (xs[i]?).elim false isB = true then vs[i]? else none
theorem byF_len {vs : List V} {xs : List It} (h : vs.length = xs.length) : ((List.range vs.length).filterMap (byF vs xs)).length = bys xs := by
  unfold bys
  rw [h]
  refine fm_len fun i hi => ?_
  have hi2 : i < vs.length := by rw [h]; exact List.mem_range.mp hi
  unfold byF
  cases (xs[i]?).elim false isB with
  | true => rw [if_pos rfl, List.getElem?_eq_getElem hi2]; rfl
  | false => rfl
def sp_lost_mark (K : PySem.W.Frag) (a : Ads) : Sp := A1 fun v H Q _ => ∃ n : Int, v = .int n ∧ ∀ t H1, H t = none → H1 t = some (.tup [.str "lost", .int n]) → Fp [] H H1 → Q (.ref t) H1
def sp_is_mark (K : PySem.W.Frag) (a : Ads) : Sp := A1 fun v H Q _ => ∃ x : It, ItV H v x ∧ Q (.bl (!isB x)) H
def sp_lost_by (K : PySem.W.Frag) (a : Ads) : Sp := A1 fun v H Q _ => ∃ n : Int, ItV H v (.m n) ∧ Q (.int n) H
def sp_joined (K : PySem.W.Frag) (a : Ads) : Sp := A2 fun v u H Q _ => ∃ n k : Int, ItV H v (.m n) ∧ ItV H u (.m k) ∧ ∀ t H1, H t = none → H1 t = some (.tup [.str "lost", .int (n + k)]) → Fp [] H H1 → Q (.ref t) H1
def sp_bytes_among (K : PySem.W.Frag) (a : Ads) : Sp := A1 fun v H Q _ => ∃ (p : Addr) (vs : List V) (xs : List It), v = .ref p ∧ H p = some (.lst vs) ∧ Its H vs xs ∧ xs.length < 100000 ∧ ∀ H1, Fp [] H H1 → Q (.int (bys xs)) H1
theorem ok_lost_mark (T : Txt P w K mg base a) : FnOk P w K mg base (L2.CX P w) 1 a.f_lost_mark a.fd_lost_mark ["many"] (sp_lost_mark K a) := by
  refine T.F_lost_mark.okX sc_lost_mark (fun vs H Q E h => A1.len h) (fun cdv A outer s H vs Q E hr h => ?_)
  have hu := hu_of hr
  obtain ⟨v_many, rfl, h⟩ := h
  refine ⟨_, (pss_one (ps_ret (pe_tup (pa_cons pe_str (pa_cons (pv 0) pa_nil))))), ?_⟩
  obtain ⟨n, rfl, k⟩ := h
  wtm_at "r"
  refine ⟨sz (by simp), fun t ht => ?_⟩
  wtm_at "r"
  exact k t _ ht upd_same (Fp.new ht)
theorem ok_is_mark (T : Txt P w K mg base a) : FnOk P w K mg base (L2.CX P w) 1 a.f_is_mark a.fd_is_mark ["item"] (sp_is_mark K a) := by
  refine T.F_is_mark.okX sc_is_mark (fun vs H Q E h => A1.len h) (fun cdv A outer s H vs Q E hr h => ?_)
  have hu := hu_of hr
  obtain ⟨v_item, rfl, h⟩ := h
  refine ⟨_, (pss_one (ps_ret (pe_callB call_isi (by rfl) T.g_isinstance (by decide +kernel) (pa_cons (pv 0) (pa_cons (pe_bltn (v := .ty "tuple") rfl T.g_tuple (by decide +kernel) rfl) pa_nil))))), ?_⟩
  obtain ⟨x, hx, k⟩ := h
  wtm_at "r"
  cases x with
  | b z =>
    obtain rfl : v_item = .int z := hx
    wtm_at "r"
    exact k
  | m n =>
    obtain ⟨t, rfl, g⟩ := hx
    wtm_at "r"
    exact k
theorem ok_lost_by (T : Txt P w K mg base a) : FnOk P w K mg base (L2.CX P w) 1 a.f_lost_by a.fd_lost_by ["mark"] (sp_lost_by K a) := by
  refine T.F_lost_by.okX sc_lost_by (fun vs H Q E h => A1.len h) (fun cdv A outer s H vs Q E hr h => ?_)
  have hu := hu_of hr
  obtain ⟨v_mark, rfl, h⟩ := h
  refine ⟨_, (pss_one (ps_ret (pe_ix ix_tup (pv 0) pe_int (fun _ _ => rfl)))), ?_⟩
  obtain ⟨n, ⟨t, rfl, g⟩, k⟩ := h
  wtm_at "r"
  refine o_ixT (Or.inl (Or.inl g)) (show atI [V.str "lost", V.int n] ((1 : Nat) : Int) = some (.int n) from atI_nat rfl) ?_
  wtm_at "r"
  exact k
theorem ok_joined (T : Txt P w K mg base a) : FnOk P w K mg base (L2.CX P w) 2 a.f_joined a.fd_joined ["mark", "other"] (sp_joined K a) := by
  have G_lost_mark := ok_lost_mark T
  have G_lost_by := ok_lost_by T
  refine T.F_joined.okX sc_joined (fun vs H Q E h => A2.len h) (fun cdv A outer s H vs Q E hr h => ?_)
  have hu := hu_of hr
  obtain ⟨v_mark, v_other, rfl, h⟩ := h
  refine ⟨_, (pss_one (ps_ret (pe_callS G_lost_mark (hr.mono (by decide)) rfl T.g_lost_mark T.F_lost_mark.kp T.b_lost_mark (fun σ => passAt (takes_of rfl rfl rfl rfl) σ) (pa_cons (pe_op op_add (pe_callS G_lost_by (hr.mono (by decide)) rfl T.g_lost_by T.F_lost_by.kp T.b_lost_by (fun σ => passAt (takes_of rfl rfl rfl rfl) σ) (pa_cons (pv 0) pa_nil)) (pe_callS G_lost_by (hr.mono (by decide)) rfl T.g_lost_by T.F_lost_by.kp T.b_lost_by (fun σ => passAt (takes_of rfl rfl rfl rfl) σ) (pa_cons (pv 1) pa_nil))) pa_nil)))), ?_⟩
  obtain ⟨n, k2, h1, h2, k⟩ := h
  wtm_at "r"
  refine a1 ⟨n, h1, ?_⟩
  wtm_at "r"
  refine a1 ⟨k2, h2, ?_⟩
  wtm_at "r"
  exact a1 ⟨n + k2, rfl, fun t H1 ht g f => k t H1 ht g f⟩
theorem ok_bytes_among (T : Txt P w K mg base a) : FnOk P w K mg base (L2.CX P w) 2 a.f_bytes_among a.fd_bytes_among ["items"] (sp_bytes_among K a) := by
  have G_is_mark := ok_is_mark T
  refine T.F_bytes_among.okX sc_bytes_among (fun vs H Q E h => A1.len h) (fun cdv A outer s H vs Q E hr h => ?_)
  have hu := hu_of hr
  obtain ⟨v_items, rfl, h⟩ := h
  refine ⟨_, (pss_one (ps_ret (pe_callB call_ln (by rfl) T.g_len (by decide +kernel) (pa_cons (pe_lc (own := [("item", 1)]) (g := (gName 1)) (tt := (tNot (tB (tCallS (sp_is_mark K a) (WE (fun _ _ _ _ => False)) (tCons (tVar 1) tNil))))) (te := (tVar 1)) rfl sc_bytes_among.nd (pi_list (pv 0)) (blkOk_by (N := ["items", "item"]) (sc := defScope s_bytes_among) (own := [("item", 1)]) (by decide +kernel)) (fun _ _ _ _ _ => by exact (pg_name (i := 1) sc_bytes_among.nd rfl (by first | exact Or.inl rfl | exact Or.inr rfl))) (fun _ _ _ _ _ => by exact (pts_one (pt_not (pt_val (pe_callS G_is_mark (hr.mono (by decide)) rfl T.g_is_mark T.F_is_mark.kp T.b_is_mark (fun σ => passNo) (pa_cons (pv 1) pa_nil)))))) (fun _ _ _ _ _ => by exact (pv 1))) pa_nil)))), ?_⟩
  obtain ⟨p, vs, xs, rfl, hp, hi, hl, k⟩ := h
  have hlen := hi.1
  wtm_at "r"
  refine lc_filtN (xs := vs) (byF vs xs) rfl (Or.inl (Or.inl hp)) (by omega) (fun E2 i x H' R N hE hx hacc F kR kN => ?_) fun E2 H2 hE hacc F => ?_
  · have hi2 : i < vs.length := (List.getElem?_eq_some_iff.mp hx).1
    have ex : xs[i]? = some xs[i] := List.getElem?_eq_getElem (by omega)
    have hv := (hi.2 i x _ hx ex).fp F NoT.nil
    refine ⟨rfl, ?_⟩
    wtm_at "r"
    refine a1 ⟨_, hv, ?_⟩
    wtm_at "r"
    cases hb : isB xs[i] with
    | true =>
      refine iteT ?_
      wtm_at "r"
      exact kR _ _ (by unfold byF; rw [ex, Option.elim, hb, if_pos rfl, hx]) (Fp.refl _ _)
    | false =>
      refine iteF ?_
      exact kN (by unfold byF; rw [ex, Option.elim, hb, if_neg Bool.false_ne_true]) _ (Fp.refl _ _)
  · wtm_at "r"
    rw [byF_len hlen]
    exact k _ F
/-! ### one of a row of numbers, drawn -/
def sp_law_pick (K : PySem.W.Frag) (a : Ads) : Sp := A2 fun s r H Q _ => ∃ (st sl l : Addr) (xs : List Int), s = .ref st ∧ r = .ref l ∧ StAt H st sl ∧ H l = some (.lst (xs.map V.int)) ∧ st ≠ l ∧ sl ≠ l ∧ 1 ≤ xs.length ∧ xs.length ≤ 1000 ∧
  ∀ x H1, x ∈ xs → StAt H1 st sl → Fp [st, sl] H H1 → Q (.int x) H1
theorem ok_law_pick (T : Txt P w K mg base a) : FnOk P w K mg base (L2.CX P w) 2 a.f_law_pick a.fd_law_pick ["state", "row"] (sp_law_pick K a) := by
  have G_law_draw := ok_law_draw T
  refine T.F_law_pick.okX sc_law_pick (fun vs H Q E h => A2.len h) (fun cdv A outer s H vs Q E hr h => ?_)
  have hu := hu_of hr
  obtain ⟨v_state, v_row, rfl, h⟩ := h
  refine ⟨_, (pss_one (ps_ret (pe_ix ix_list (pv 1) (pe_callS G_law_draw (hr.mono (by decide)) rfl T.g_law_draw T.F_law_draw.kp T.b_law_draw (fun σ => passAt (takes_of rfl rfl rfl rfl) σ) (pa_cons (pv 0) (pa_cons (pe_callB call_ln (by rfl) T.g_len (by decide +kernel) (pa_cons (pv 1) pa_nil)) pa_nil))) (fun _ _ => rfl)))), ?_⟩
  obtain ⟨st, sl, l, xs, rfl, rfl, S, hl, n1, n2, h1, h2, k⟩ := h
  wtm_at "r"
  refine a2 ⟨st, sl, _, rfl, rfl, S, by rw [List.length_map]; omega, by rw [List.length_map]; omega, fun r H1 r0 r1 S1 f1 => ?_⟩
  rw [List.length_map] at r1
  obtain ⟨n, rfl⟩ : ∃ n : Nat, r = n := ⟨r.toNat, by omega⟩
  have hn : n < xs.length := by omega
  have e1 : xs[n]? = some xs[n] := List.getElem?_eq_getElem hn
  refine o_ixL (Or.inl (Or.inl (f1 _ _ hl (by simp [n1.symm, n2.symm])))) (atI_nat (by rw [List.getElem?_map, e1]; rfl)) ?_
  wtm_at "r"
  exact k _ H1 (List.mem_of_getElem? e1) S1 f1
theorem c_pick {L R M : List As} {H : Hp} {Q : VK} {E : XK} {st l : Addr} (xs : List Int) {vs : List V} (hs : Sl.St L H) (s : Sel (StA st) L R) (s2 : Sel (cell l (.lst vs)) R M) (e : vs = xs.map V.int) (h1 : 1 ≤ xs.length) (h2 : xs.length ≤ 1000)
    (q : ∀ x H', x ∈ xs → Sl.St (StA st :: R) H' → Q (.int x) H') : sp_law_pick K a [.ref st, .ref l] H Q E := by
  have h0 := hs.sel2 s s2
  obtain ⟨A, ⟨sl, rfl, S⟩, up⟩ := fpa_U (hs.sel s)
  have hl := h0.get (.there .here)
  obtain ⟨ns, m', g1, g2, _⟩ := id S
  have hd : st ≠ l ∧ sl ≠ l := by
    obtain ⟨S0, S1, S2, e0, d0, ⟨A, eA, sl', rfl, S'⟩, S3, S4, e1, d1, k1, k2⟩ := h0
    have hsl : sl' = sl := by
      obtain ⟨ns', m2, q1, _⟩ := S'
      rw [g1] at q1
      have := HO.lst.inj (Option.some.inj q1)
      simp at this
      exact this.1.symm
    subst hsl
    exact ⟨fun z => d0 st ((eA st).mpr (by simp)) ((e1 st).mpr (.inl ((k1.1 st).mpr z))), fun z => d0 sl' ((eA sl').mpr (by simp)) ((e1 sl').mpr (.inl ((k1.1 sl').mpr z)))⟩
  refine a2 ⟨st, sl, l, xs, rfl, rfl, S, by rw [hl, e], hd.1, hd.2, h1, h2, fun x H1 hx S1 f => q x H1 hx (up _ _ _ [st, sl] [st, sl] H1 f (fun x m => ⟨.inl m, fun o e => ?_⟩) ⟨sl, rfl, S1⟩ fun x m => .inl m)⟩
  simp only [List.mem_cons, List.not_mem_nil, or_false] at m
  rcases m with rfl | rfl
  · rw [g1] at e; cases e; exact id
  · rw [g2] at e; cases e; exact id
/-! ### items as data, as assertions -/
def dIt : It → PyData
  | .b z => .int z
  | .m n => .tuple [.str "lost", .int n]
theorem dIt_ld (x : It) : LD 3 (dIt x) := by
  cases x with
  | b z => exact LD.int z
  | m n =>
    refine LD.tup fun d hd => ?_
    simp only [List.mem_cons, List.not_mem_nil, or_false] at hd
    rcases hd with rfl | rfl
    · exact LD.str (by decide +kernel)
    · exact LD.int n
theorem dIts_ld (xs : List It) : LD 4 (.list (xs.map dIt)) := LD.list fun d hd => by
  obtain ⟨s, _, rfl⟩ := List.mem_map.mp hd
  exact dIt_ld s
theorem ItV.dp {K : PySem.W.Frag} {H : Hp} {v : V} {x : It} (h : ItV H v x) : Dp K H v (dIt x) := by
  cases x with
  | b z => obtain rfl : v = .int z := h; exact .int z
  | m n =>
    obtain ⟨t, rfl, g⟩ := h
    exact .tup (Or.inl (Or.inl g)) (.cons (.str _) (.cons (.int n) .nil))
theorem Its.dp {K : PySem.W.Frag} {H : Hp} : ∀ {vs : List V} {xs : List It}, Its H vs xs → DpAll K H vs (xs.map dIt)
  | vs, [], h => by rw [List.eq_nil_of_length_eq_zero h.1]; exact .nil
  | vs, x :: xs, h => by
    obtain ⟨v, ws, rfl, hw, hx⟩ := h.cons
    exact .cons hx.dp hw.dp
theorem ItV.imm {H H' : Hp} {v : V} {x : It} (h : ItV H v x) (g : ∀ a o, H a = some o → Imm o → H' a = some o) : ItV H' v x := by
  cases x with
  | b z => exact h
  | m n =>
    obtain ⟨t, e, h⟩ := h
    exact ⟨t, e, g _ _ h trivial⟩
theorem Its.imm {H H' : Hp} {vs : List V} {xs : List It} (h : Its H vs xs) (g : ∀ a o, H a = some o → Imm o → H' a = some o) : Its H' vs xs := ⟨h.1, fun i v x hv hx => (h.2 i v x hv hx).imm g⟩
def itA (v : V) (x : It) : As := per (fun H => ItV H v x) fun _ _ h g => h.imm g
def itsA (vs : List V) (xs : List It) : As := per (fun H => Its H vs xs) fun _ _ h g => h.imm g
section
variable {L R : List As} {H : Hp} {v : V} {x : It} {vs ws : List V} {xs ys : List It}
theorem itA.U (hs : Sl.St L H) (s : Sel (itA v x) L R) : ItV H v x := hs.perU s
theorem itsA.U (hs : Sl.St L H) (s : Sel (itsA vs xs) L R) : Its H vs xs := hs.perU s
theorem itA.I (hs : Sl.St L H) (h : ItV H v x) : Sl.St (itA v x :: L) H := hs.perI h
theorem itsA.I (hs : Sl.St L H) (h : Its H vs xs) : Sl.St (itsA vs xs :: L) H := hs.perI h
end
theorem bys_nil : bys [] = 0 := rfl
theorem snoc_cases {α : Type} (l : List α) : l = [] ∨ ∃ r x, l = r ++ [x] := by
  cases l with
  | nil => exact .inl rfl
  | cons y r => exact .inr ⟨(y :: r).dropLast, (y :: r).getLast (by simp), (List.dropLast_concat_getLast (by simp)).symm⟩
/-! ### counts of bytes -/
theorem bys_snoc (xs : List It) (x : It) : bys (xs ++ [x]) = bys xs + (if isB x = true then 1 else 0) := by
  unfold bys
  rw [List.length_append, List.length_singleton, List.range_succ, List.filter_append, List.length_append]
  congr 1
  · congr 1
    refine List.filter_congr fun i hi => ?_
    rw [List.getElem?_append_left (List.mem_range.mp hi)]
  · rw [List.filter_cons, List.getElem?_append_right (Nat.le_refl _), Nat.sub_self]
    show List.length (if isB x = true then _ else _) = _
    split <;> rfl
theorem bys_take {xs : List It} {i : Nat} {x : It} (h : xs[i]? = some x) : bys (xs.take (i + 1)) = bys (xs.take i) + (if isB x = true then 1 else 0) := by rw [take_snoc h, bys_snoc]
theorem snoc_ind {α : Type} {p : List α → Prop} (h0 : p []) (h1 : ∀ xs x, p xs → p (xs ++ [x])) (xs : List α) : p xs := by
  rw [← List.reverse_reverse xs]
  induction xs.reverse with
  | nil => exact h0
  | cons x r ih => rw [List.reverse_cons]; exact h1 _ _ ih
theorem bys_app (xs ys : List It) : bys (xs ++ ys) = bys xs + bys ys := by
  induction ys using snoc_ind with
  | h0 => rw [List.append_nil]; rfl
  | h1 ys y ih => rw [← List.append_assoc, bys_snoc, bys_snoc, ih, Nat.add_assoc]
theorem bys_le (xs : List It) : bys xs ≤ xs.length := by
  induction xs using snoc_ind with
  | h0 => exact Nat.le_refl _
  | h1 xs x ih => rw [bys_snoc, List.length_append, List.length_singleton]; split <;> omega
end
end My
set_option Elab.async false
set_option maxRecDepth 100000
set_option maxHeartbeats 100000000
set_option linter.all false
set_option synthInstance.maxSize 100000
set_option synthInstance.maxHeartbeats 0
namespace My
open PySem L2 Sx Rd Sl
local macro_rules | `(tactic| wtm_at "ne") => `(tactic| (first | with_reducible assumption | with_reducible exact Ne.symm (by with_reducible assumption)))
local macro_rules | `(tactic| wtm_at "nin") => `(tactic| (simp only [List.mem_cons, List.not_mem_nil, or_false, not_or, not_false_eq_true]; (repeat' refine And.intro ?_ ?_); (all_goals wtm_at "ne")))
local macro_rules | `(tactic| wtm_at "hl") => `(tactic| (first | (with_reducible assumption) | exact upd_same | ((with_reducible refine' (upd_ne ?hne).trans ?hgo); (case hne => wtm_at "ne"); (case hgo => wtm_at "hl"))))
local macro_rules | `(tactic| wtm_at "sq") => `(tactic| (first | (with_reducible assumption) | exact Or.inl (Or.inl (by wtm_at "hl"))))
local macro_rules | `(tactic| wtm_at "ar") => `(tactic| (first | omega | exact ⟨by omega, by omega⟩ | exact Or.inl ⟨by omega, by omega⟩ | exact Or.inr ⟨by omega, by omega⟩ | (show (0 : Int) < _; omega) | (show (0 : Int) < _ ∧ _ < (1073741824 : Int); omega)))
local macro_rules | `(tactic| wtm_at "cls") => `(tactic| (first | exact Txt.cl_ReadStream (by assumption)))
local macro_rules | `(tactic| wtm_at "noa") => do let T := Lean.mkIdent `T; `(tactic| (first | exact Sl.Noa.no $T | exact Sl.Noa.no (φ := Txt _ _ _ _ _ _) (by assumption)))
local macro_rules | `(tactic| wtm_at "lkp") => `(tactic| (first | with_reducible exact Sl.Lkp.h))
local macro_rules | `(tactic| wtm_at "ptf") => `(tactic| (first | with_reducible exact Sl.Ptf.h | exact rfl))
local macro_rules | `(tactic| wtm_at "lnF") => `(tactic| (first | with_reducible exact Sl.LnF.h | (refine PL.lt (n := 60) ?_ (by decide); (repeat refine PL.put ?_); exact PL.nil) | (simp only [List.length_cons, List.length_nil]; decide) | decide))
local macro_rules | `(tactic| wtm_at "nol") => `(tactic| (first | with_reducible exact Sl.NoL.h))
local macro_rules | `(tactic| wtm_at "kdl") => `(tactic| (first | fail))
local macro_rules | `(tactic| wtm_at "kdp") => `(tactic| (first | fail))
local macro_rules | `(tactic| wtm_at "kdn") => `(tactic| (first | fail))
local macro_rules | `(tactic| wtm_at "kdd") => do let h := Lean.mkIdent `hs; `(tactic| (first | fail))
local macro_rules | `(tactic| wtm_at "r_1") => `(tactic| (first
  | ((with_reducible refine' k_meth ?h1 ?h2 ?_); (case h1 => wtm_at "hl"); (case h2 => wtm_at "nol"))
  | ((with_reducible refine' k_fld ?h1 ?h2 ?h3 ?h4 ?_); (case h1 => wtm_at "hl"); (case h2 => wtm_at "cls"); (case h3 => wtm_at "noa"); (case h4 => wtm_at "lkp"))))
local macro_rules | `(tactic| wtm_at "r_2") => `(tactic| (
  (with_reducible refine' k_set ?h1 ?h2 ?h3 ?h4 ?h5 ?_); (case h1 => wtm_at "hl"); (case h2 => wtm_at "cls"); (case h3 => wtm_at "noa"); (case h4 => wtm_at "ptf"); (case h5 => wtm_at "lnF")))
local macro_rules | `(tactic| wtm_at "r_3") => `(tactic| (first
  | ((with_reducible refine' o_eq ?hs ?_); (case hs => exact rfl)) | ((with_reducible refine' o_ne ?hs ?_); (case hs => exact rfl)) | ((with_reducible refine' o_I ?hc ?_); (case hc => wtm_at "ar"))))
local macro_rules | `(tactic| wtm_at "r_4") => `(tactic| (first
  | ((with_reducible refine' c_ln ?h1 ?_); (case h1 => wtm_at "sq")) | ((with_reducible refine' o_ixL ?h1 ?h2 ?_); (case h1 => wtm_at "sq"); (case h2 => first | exact rfl | exact atI_zero _ _))
  | ((with_reducible refine' k_ty ?h1 ?_); (case h1 => wtm_at "sq")) | ((with_reducible refine' k_truL ?h1 ?_); (case h1 => wtm_at "sq"))))
local macro_rules | `(tactic| wtm_at "r_5") => `(tactic| (first
  | ((with_reducible refine' c_pop0 ?h1 ?h2 ?_); (case h1 => wtm_at "hl"); (case h2 => omega)) | ((with_reducible refine' o_slL ?h1 ?_); (case h1 => wtm_at "sq"))))
local macro_rules | `(tactic| wtm_at "r_6") => `(tactic| (first
  | ((with_reducible refine' c_isList ?h1 ?_); (case h1 => wtm_at "hl")) | ((with_reducible refine' c_isTup ?h1 ?_); (case h1 => wtm_at "hl")) | ((with_reducible refine' c_isTupB ?h1 ?_); (case h1 => wtm_at "hl"))
  | ((with_reducible refine' s_augV ?hv ?_); (case hv => exact rfl)) | ((with_reducible refine' k_xf ?h1 ?h2 ?_); (case h1 => wtm_at "hl"); (case h2 => exact look_hit _ _ _)) | ((with_reducible refine' k_dget ?h1 ?h2 ?_); (case h1 => wtm_at "hl"); (case h2 => with_reducible assumption))))
local macro_rules | `(tactic| wtm_at "r") => `(tactic| (repeat (first
  | with_reducible refine' Sl.Wr ?_ | ((with_reducible apply e_var); (case h => exact rfl))
  | ((with_reducible refine' Sl.cn 1 ?_); wtm_at "r_1") | ((with_reducible refine' Sl.cn 3 ?_); wtm_at "r_3") | ((with_reducible refine' Sl.cn 2 ?_); wtm_at "r_2")
  | ((with_reducible refine' Sl.cn 4 ?_); wtm_at "r_4") | ((with_reducible refine' Sl.cn 5 ?_); wtm_at "r_5") | ((with_reducible refine' Sl.cn 6 ?_); wtm_at "r_6")
  | with_reducible refine d_nx ?_ | with_reducible refine d_rt ?_ | with_reducible refine d_bk ?_ | with_reducible refine d_ct ?_)))
local macro_rules | `(tactic| wtm_at "nm") => `(tactic| (simp only [L2.start, List.length_cons, List.length_nil, List.map_cons, List.map_nil, List.set_cons_succ, List.set_cons_zero, List.replicate_succ, List.replicate_zero, List.cons_append, List.nil_append, Nat.add_sub_cancel]))
local macro_rules | `(tactic| wtm_at "sel") => `(tactic| (first | with_reducible exact Sl.SelT.s | with_reducible exact Sl.Sel.here | ((with_reducible refine' Sl.Sel.there ?t); (case t => wtm_at "sel_"))))
local macro_rules | `(tactic| wtm_at "sel_") => `(tactic| (first | with_reducible exact Sl.Sel.here | ((with_reducible refine' Sl.Sel.there ?t); (case t => wtm_at "sel_"))))
local macro_rules | `(tactic| wtm_at "selt") => `(tactic| (first | with_reducible exact Sl.Sels.all _ | ((with_reducible refine' Sl.Sels.skip ?t); (case t => wtm_at "selt"))))
local macro_rules | `(tactic| wtm_at "sels") => `(tactic| (first | with_reducible exact Sl.SelsT.s | with_reducible exact Sl.Sels.nil | ((with_reducible refine' Sl.Sels.cons ?a ?b); (case a => wtm_at "sel"); (case b => wtm_at "sels")) | wtm_at "selt"))
local macro_rules | `(tactic| wtm_at "selm") => `(tactic| ((try (simp only [])); (try simp only [List.map_append, List.map_cons, List.map_nil]); wtm_at "sels"))
local macro_rules | `(tactic| wtm_at "hg") => do
  let h := Lean.mkIdent `hs
  `(tactic| (first | (with_reducible assumption) | (with_reducible exact Sl.GetC.h $h) | ((with_reducible refine' Sl.St.get $h ?s); (case s => wtm_at "sel")) | ((with_reducible refine' Sl.St.geti $h ?s); (case s => wtm_at "sel"))))
local macro_rules | `(tactic| wtm_at "sg") => do
  let h := Lean.mkIdent `hs
  `(tactic| (first | (with_reducible assumption) | (with_reducible exact Sl.SqC.h $h) | (with_reducible exact Sl.SqTC.h $h) | exact Or.inl (Or.inl (by wtm_at "hg")) | (refine' Sl.sqA.U $h ?s; (case s => wtm_at "sel"))))
local macro_rules | `(tactic| wtm_at "le5") => `(tactic| (first | omega | (simp only [List.length_cons, List.length_nil, List.length_append, List.length_map]; omega) | (show _ ≤ _; decide) | (show _ < _; decide)))
local macro_rules | `(tactic| wtm_at "km") => `(tactic| fail)
local macro_rules | `(tactic| wtm_at "kf") => `(tactic| fail)
local macro_rules | `(tactic| wtm_at "x_1") => `(tactic| (first
  | ((with_reducible refine' k_meth ?h1 ?h2 ?_); (case h1 => wtm_at "hg"); (case h2 => wtm_at "nol")) | wtm_at "km"
  | ((with_reducible refine' k_fld ?h1 ?h2 ?h3 ?h4 ?_); (case h1 => wtm_at "hg"); (case h2 => wtm_at "cls"); (case h3 => wtm_at "noa"); (case h4 => wtm_at "lkp")) | wtm_at "kf"))
local macro_rules | `(tactic| wtm_at "x_2") => do
  let h := Lean.mkIdent `hs
  let T := Lean.mkIdent `T
  `(tactic| (first
  | ((with_reducible refine' Sl.k_newL $h ?h1 ?_); (case h1 => wtm_at "le5"); (clear $h; intro _ _ $h)) | ((with_reducible refine' Sl.k_newT $h ?h1 ?_); (case h1 => wtm_at "le5"); (clear $h; intro _ _ $h))
  | ((with_reducible refine' Sl.k_make $h ?_); (clear $h; intro _ _ _ $h)) | ((with_reducible refine' Sl.k_setC $T $h ?_); (clear $h; intro _ $h))
  | ((with_reducible refine' Sl.k_setS $h ?h1 ?h2 ?h3 ?h4 ?h5 ?_); (case h1 => wtm_at "sel"); (case h2 => wtm_at "cls"); (case h3 => wtm_at "noa"); (case h4 => wtm_at "ptf"); (case h5 => wtm_at "lnF"); (clear $h; intro _ $h))))
local macro_rules | `(tactic| wtm_at "x_3") => `(tactic| (first
  | ((with_reducible refine' o_eq ?hs ?_); (case hs => exact rfl)) | ((with_reducible refine' o_ne ?hs ?_); (case hs => exact rfl)) | ((with_reducible refine' o_I ?hc ?_); (case hc => wtm_at "ar"))))
local macro_rules | `(tactic| wtm_at "x_4") => `(tactic| (first
  | ((with_reducible refine' o_ixL ?h1 ?h2 ?_); (case h1 => wtm_at "sg"); (case h2 => first | exact rfl | exact atI_zero _ _)) | ((with_reducible refine' o_ixT ?h1 ?h2 ?_); (case h1 => wtm_at "sg"); (case h2 => first | exact rfl | exact atI_zero _ _))
  | ((with_reducible refine' c_ln ?h1 ?_); (case h1 => wtm_at "sg")) | ((with_reducible refine' c_lnT ?h1 ?_); (case h1 => wtm_at "sg")) | ((with_reducible refine' k_truL ?h1 ?_); (case h1 => wtm_at "sg"))
  | ((with_reducible refine' k_ty ?h1 ?_); (case h1 => wtm_at "sg")) | ((with_reducible refine' g_tup ?h1 ?h2 ?_); (case h1 => wtm_at "sg"); (case h2 => exact rfl))))
local macro_rules | `(tactic| wtm_at "x_5") => do
  let h := Lean.mkIdent `hs
  `(tactic| (first
  | ((with_reducible refine' Sl.c_appS $h ?h1 ?h2 ?_); (case h1 => wtm_at "sel"); (case h2 => wtm_at "le5"); (clear $h; intro _ $h)) | ((with_reducible refine' Sl.c_pop0S $h ?h1 ?h2 ?_); (case h1 => wtm_at "sel"); (case h2 => wtm_at "le5"); (clear $h; intro _ $h))
  | ((with_reducible refine' Sl.c_lsS $h ?h1 ?_); (case h1 => wtm_at "sg"); (clear $h; intro _ _ $h)) | ((with_reducible refine' Sl.o_slLS $h ?h1 ?_); (case h1 => wtm_at "sg"); (clear $h; intro _ _ $h)) | ((with_reducible refine' Sl.c_clrS $h ?h1 ?_); (case h1 => wtm_at "sel"); (clear $h; intro _ $h))
  | ((with_reducible refine' Sl.o_catS $h ?h1 ?h2 ?h3 ?_); (case h1 => wtm_at "hg"); (case h2 => wtm_at "hg"); (case h3 => wtm_at "le5"); (clear $h; intro _ _ $h)) | ((with_reducible refine' Sl.c_extS $h ?h1 ?h2 ?h3 ?_); (case h1 => wtm_at "sel"); (case h2 => wtm_at "hg"); (case h3 => wtm_at "le5"); (clear $h; intro _ $h))))
local macro_rules | `(tactic| wtm_at "x_6") => do
  let h := Lean.mkIdent `hs
  `(tactic| (first
  | ((with_reducible refine' Sl.k_raise $h ?h1 ?_); (case h1 => exact okV_int ⟨by omega, by omega⟩); (clear $h; intro _ _ $h))
  | ((with_reducible refine' c_isList ?h1 ?_); (case h1 => wtm_at "hg")) | ((with_reducible refine' c_isTup ?h1 ?_); (case h1 => wtm_at "hg")) | ((with_reducible refine' c_isTupB ?h1 ?_); (case h1 => wtm_at "hg"))
  | ((with_reducible refine' s_augV ?hv ?_); (case hv => exact rfl))
  | ((with_reducible refine' k_xf ?h1 ?h2 ?_); (case h1 => wtm_at "hg"); (case h2 => exact look_hit _ _ _)) | ((with_reducible refine' k_dget ?h1 ?h2 ?_); (case h1 => wtm_at "hg"); (case h2 => first | with_reducible assumption | wtm_at "kdl"))
  | ((with_reducible refine' Sl.e_disp $h ?_); (clear $h; intro _ _ $h)) | ((wtm_at "kdd"); (case s => wtm_at "sel"); (clear $h; intro _ $h))
  | ((with_reducible refine' Sl.k_dputS $h ?h1 ?h2 ?h3 ?_); (case h1 => wtm_at "sel"); (case h2 => wtm_at "kdn"); (case h3 => wtm_at "kdp"); (clear $h; intro _ $h))))
local macro_rules | `(tactic| wtm_at "x") => do
  let h := Lean.mkIdent `hs
  let T := Lean.mkIdent `T
  `(tactic| (repeat (first
  | with_reducible refine' Sl.Wk $T $h ?_ | with_reducible refine' Sl.Wj ?_ | ((with_reducible apply e_var); (case h => exact rfl))
  | ((with_reducible refine' Sl.cn 1 ?_); wtm_at "x_1") | ((with_reducible refine' Sl.cn 2 ?_); wtm_at "x_2") | ((with_reducible refine' Sl.cn 3 ?_); wtm_at "x_3")
  | ((with_reducible refine' Sl.cn 4 ?_); wtm_at "x_4") | ((with_reducible refine' Sl.cn 5 ?_); wtm_at "x_5") | ((with_reducible refine' Sl.cn 6 ?_); wtm_at "x_6")
  | with_reducible refine d_nx ?_ | with_reducible refine d_rt ?_ | with_reducible refine d_bk ?_ | with_reducible refine d_ct ?_)))
section
variable {P : Program} {w : World} {K : PySem.W.Frag} {mg : Str → Option Value} {base : Heap} {a : Ads}
theorem Its.take {H : Hp} {vs : List V} {xs : List It} (h : Its H vs xs) (i : Nat) : Its H (vs.take i) (xs.take i) := ⟨by rw [List.length_take, List.length_take, h.1], fun j v x hv hx => by
  rw [List.getElem?_take] at hv hx
  split at hv
  · rename_i c
    rw [if_pos c] at hx
    exact h.2 j v x hv hx
  · cases hv⟩
theorem Its.drop {H : Hp} {vs : List V} {xs : List It} (h : Its H vs xs) (i : Nat) : Its H (vs.drop i) (xs.drop i) := ⟨by rw [List.length_drop, List.length_drop, h.1], fun j v x hv hx => by
  rw [List.getElem?_drop] at hv hx
  exact h.2 (i + j) v x hv hx⟩
/-! ### read streams -/
def app1 (xs : List It) (x : It) : List It := match x, xs.getLast? with
  | .m k, some (.m n) => xs.dropLast ++ [.m (n + k)]
  | _, _ => xs ++ [x]
def appI (xs ys : List It) : List It := ys.foldl app1 xs
theorem app1_b (xs : List It) (z : Int) : app1 xs (.b z) = xs ++ [.b z] := rfl
theorem app1_nil (x : It) : app1 [] x = [x] := by cases x <;> rfl
theorem app1_bm (xs : List It) (z k : Int) : app1 (xs ++ [.b z]) (.m k) = xs ++ [.b z] ++ [.m k] := by simp [app1]
theorem app1_mm (xs : List It) (n k : Int) : app1 (xs ++ [.m n]) (.m k) = xs ++ [.m (n + k)] := by simp [app1]
theorem appI_snoc (xs ys : List It) (x : It) : appI xs (ys ++ [x]) = app1 (appI xs ys) x := by simp [appI]
theorem appI_take {xs ys : List It} {i : Nat} {x : It} (h : ys[i]? = some x) : appI xs (ys.take (i + 1)) = app1 (appI xs (ys.take i)) x := by rw [take_snoc h, appI_snoc]
theorem bys_app1 (xs : List It) (x : It) : bys (app1 xs x) = bys xs + (if isB x = true then 1 else 0) := by
  cases x with
  | b z => rw [app1_b, bys_snoc]
  | m k =>
    rcases snoc_cases xs with rfl | ⟨S, y, rfl⟩
    · rw [app1_nil]; rfl
    · cases y with
      | b z => rw [app1_bm, bys_snoc]
      | m n => rw [app1_mm, bys_snoc, bys_snoc]; rfl
theorem app1_len (xs : List It) (x : It) : (app1 xs x).length ≤ xs.length + 1 := by
  cases x with
  | b z => rw [app1_b]; simp
  | m k =>
    rcases snoc_cases xs with rfl | ⟨S, y, rfl⟩
    · rw [app1_nil]; simp
    · cases y with
      | b z => rw [app1_bm]; simp
      | m n => rw [app1_mm]; simp
theorem bys_appI (xs ys : List It) : bys (appI xs ys) = bys xs + bys ys := by
  induction ys using snoc_ind with
  | h0 => rfl
  | h1 ys y ih => rw [appI_snoc, bys_app1, bys_snoc, ih, Nat.add_assoc]
theorem appI_len (xs ys : List It) : (appI xs ys).length ≤ xs.length + ys.length := by
  induction ys using snoc_ind with
  | h0 => exact Nat.le_refl _
  | h1 ys y ih => rw [appI_snoc, List.length_append, List.length_singleton]; have := app1_len (appI xs ys) y; omega
/-- so many items are read for n bytes -/
def CutAt (n : Int) (xs : List It) (i : Nat) : Prop := i ≤ xs.length ∧ (∀ j, j < i → (bys (xs.take j) : Int) < n) ∧ (i = xs.length ∨ ¬ (bys (xs.take i) : Int) < n)
theorem CutAt.uniq {n : Int} {xs : List It} {i j : Nat} (h1 : CutAt n xs i) (h2 : CutAt n xs j) : i = j := by
  obtain ⟨a1, a2, a3⟩ := h1
  obtain ⟨b1, b2, b3⟩ := h2
  rcases Nat.lt_trichotomy i j with h | h | h
  · rcases a3 with e | e
    · omega
    · exact absurd (b2 i h) e
  · exact h
  · rcases b3 with e | e
    · omega
    · exact absurd (a2 j h) e
def RsA (a : Ads) (p : Addr) (room : Int) (xs : List It) : As := ex fun dx => ex fun il => ex fun vs => Sl.all [cell p (.ins a.C_ReadStream dx (F_ReadStream (.int room) (.ref il))), cell il (.lst vs), itsA vs xs]
section
variable {L R : List As} {H : Hp} {Q : VK} {E : XK} {p : Addr} {room : Int} {xs : List It}
theorem RsA.U (hs : Sl.St L H) (s : Sel (RsA a p room xs) L R) : ∃ dx il vs, Its H vs xs ∧ Sl.St (cell p (.ins a.C_ReadStream dx (F_ReadStream (.int room) (.ref il))) :: cell il (.lst vs) :: itsA vs xs :: R) H := by
  obtain ⟨dx, h⟩ := (hs.sel s).exU
  obtain ⟨il, h⟩ := h.exU
  obtain ⟨vs, h⟩ := h.exU
  have h := h.allU
  exact ⟨dx, il, vs, itsA.U h (.there (.there .here)), h⟩
theorem RsA.I {dx il : Addr} {vs : List V} (hs : Sl.St L H) (s : Sels [cell p (.ins a.C_ReadStream dx (F_ReadStream (.int room) (.ref il))), cell il (.lst vs), itsA vs xs] L R) : Sl.St (RsA a p room xs :: R) H :=
  Sl.St.exI dx (Sl.St.exI il (Sl.St.exI vs (Sl.St.allI (L := [_, _, _]) (hs.sels s))))
theorem RsA.I2 {dx il : Addr} {vs : List V} (hs : Sl.St L H) (hi : Its H vs xs) (s : Sels [cell p (.ins a.C_ReadStream dx (F_ReadStream (.int room) (.ref il))), cell il (.lst vs)] L R) : Sl.St (RsA a p room xs :: R) H := by
  cases s with
  | cons s0 s => cases s with
    | cons s1 s =>
      cases s with
      | nil => exact RsA.I (hs.perI hi : Sl.St (itsA vs xs :: L) H) (.cons (.there s0) (.cons (.there s1) (.cons .here .nil)))
theorem km_Rs {m : Str} {sp : Sp} {tl : TA} {σ : L2.St} (hs : Sl.St L H) (s : Sel (RsA a p room xs) L R) (hm : ∀ x0 x1, (F_ReadStream x0 x1).lookup m = none) (q : tl σ H fun vs H2 => sp (.ref p :: vs) H2 Q E) : kMeth a.C_ReadStream m sp E tl σ (.ref p) H Q := by
  obtain ⟨dx, il, vs, _, h⟩ := RsA.U hs s
  exact k_meth h.get0 (hm _ _) q
theorem kf_Rs_room {K : PySem.W.Frag} (hs : Sl.St L H) (s : Sel (RsA a p room xs) L R) (c : Cls K a.C_ReadStream) (n : NoAttr K a.C_ReadStream "room") (q : Q (.int room) H) : kFld K "room" (.ref p) H Q := by
  obtain ⟨dx, il, vs, _, h⟩ := RsA.U hs s
  exact k_fld h.get0 c n F_ReadStream_room_l q
end
local macro_rules | `(tactic| wtm_at "km") => do let h := Lean.mkIdent `hs; `(tactic| ((with_reducible refine' km_Rs $h ?s ?m ?_); (case s => wtm_at "sel"); (case m => intros; wtm_at "nol")))
local macro_rules | `(tactic| wtm_at "kf") => do let h := Lean.mkIdent `hs; `(tactic| ((with_reducible refine' kf_Rs_room $h ?s ?c ?n ?_); (case s => wtm_at "sel"); (case c => wtm_at "cls"); (case n => wtm_at "noa")))
theorem c_among {K : PySem.W.Frag} {L : List As} {H : Hp} {Q : VK} {E : XK} {q : Addr} {vs : List V} {xs : List It} (hs : Sl.St L H) (h : H q = some (.lst vs)) (hi : Its H vs xs) (hl : xs.length < 100000) (k : ∀ H', Sl.St L H' → Its H' vs xs → Q (.int (bys xs)) H') : sp_bytes_among K a [.ref q] H Q E :=
  a1 ⟨q, vs, xs, rfl, h, hi, hl, fun H1 f => k H1 (hs.keepF f) (hi.fp f NoT.nil)⟩
theorem c_joined {K : PySem.W.Frag} {L : List As} {H : Hp} {Q : VK} {E : XK} {v u : V} {n k : Int} (hs : Sl.St L H) (h1 : ItV H v (.m n)) (h2 : ItV H u (.m k)) (q : ∀ t H', Sl.St (tcell t [.str "lost", .int (n + k)] :: L) H' → Q (.ref t) H') : sp_joined K a [v, u] H Q E :=
  a2 ⟨n, k, h1, h2, fun t H1 _ g f => q t H1 (hs.newiF f g trivial)⟩
theorem atI_last {xs : List V} {x : V} : atI (xs ++ [x]) (-1) = some x := by
  unfold atI
  rw [ixN_last (by simp)]
  simp
def RsSp (a : Ads) (s : V) (H : Hp) (φ : Addr → Int → List It → List As → List As → Prop) : Prop := ∃ (p : Addr) (room : Int) (xs : List It) (L R : List As), s = .ref p ∧ Sl.St L H ∧ Sel (RsA a p room xs) L R ∧ xs.length < 90000 ∧ φ p room xs L R
def sp_ReadStream_init (K : PySem.W.Frag) (a : Ads) : Sp := A2 fun s v H Q E => ∃ (p dx : Addr) (room : Int) (L R : List As), s = .ref p ∧ v = .int room ∧ Sl.St L H ∧ Sel (cell p (.ins a.C_ReadStream dx [])) L R ∧ ∀ H', Sl.St (RsA a p room [] :: R) H' → Q .non H'
def sp_ReadStream_space (K : PySem.W.Frag) (a : Ads) : Sp := A1 fun s H Q E => RsSp a s H fun p room xs L R => ∀ H', Sl.St L H' → Q (.int (room - bys xs)) H'
def sp_ReadStream_contents (K : PySem.W.Frag) (a : Ads) : Sp := A1 fun s H Q E => RsSp a s H fun p room xs L R => ∀ l vs H', Its H' vs xs → Sl.St (cell l (.lst vs) :: L) H' → Q (.ref l) H'
def sp_ReadStream_append_one (K : PySem.W.Frag) (a : Ads) : Sp := A2 fun s v H Q E => RsSp a s H fun p room xs L R => ∃ x, ItV H v x ∧ ∀ H', Sl.St (RsA a p room (app1 xs x) :: R) H' → Q .non H'
def sp_ReadStream_append (K : PySem.W.Frag) (a : Ads) : Sp := A2 fun s v H Q E => ∃ (p q : Addr) (room : Int) (xs ys : List It) (vs : List V) (L R : List As), s = .ref p ∧ v = .ref q ∧ Sl.St L H ∧ Sels [RsA a p room xs, cell q (.lst vs), itsA vs ys] L R ∧ xs.length + ys.length < 90000 ∧ -100000 ≤ room ∧ room ≤ 100000 ∧
  (room - bys xs < bys ys → ∀ d H', Sl.St (icell d (.xd [("space", .int (room - bys xs))]) :: RsA a p room xs :: cell q (.lst vs) :: itsA vs ys :: R) H' → E (.ref a.C_StreamFull) (some d) H') ∧
  ((bys ys : Int) ≤ room - bys xs → ∀ H', Sl.St (RsA a p room (appI xs ys) :: cell q (.lst vs) :: itsA vs ys :: R) H' → Q .non H')
def sp_ReadStream_read (K : PySem.W.Frag) (a : Ads) : Sp := A2 fun s v H Q E => RsSp a s H fun p room xs L R => ∃ n : Int, v = .int n ∧ ∀ i, CutAt n xs i → ∀ l vs H', Its H' vs (xs.take i) → Sl.St (cell l (.lst vs) :: RsA a p room (xs.drop i) :: R) H' → Q (.ref l) H'
theorem ok_ReadStream_init (T : Txt P w K mg base a) : FnOk P w K mg base (L2.CX P w) 1 a.f_ReadStream_init a.fd_ReadStream_init ["self", "room"] (sp_ReadStream_init K a) := by
  refine T.F_ReadStream_init.okX sc_ReadStream_init (fun vs H Q E h => A2.len h) (fun cdv A outer s H vs Q E hr h => ?_)
  have hu := hu_of hr
  obtain ⟨v_self, v_room, rfl, h⟩ := h
  refine ⟨_, (pss_cons (ps_fld (pv 0) (pv 1) rfl)
    (pss_one (ps_fld (pv 0) (pe_lst pa_nil) rfl))), ?_⟩
  obtain ⟨p, dx, room, L, R, rfl, rfl, hs, se, k⟩ := h
  have hs := hs.sel se
  wtm_at "x"
  rw [F_ReadStream_init] at hs
  exact k _ (RsA.I2 hs Its.nil (by wtm_at "sels"))
theorem ok_ReadStream_space (T : Txt P w K mg base a) : FnOk P w K mg base (L2.CX P w) 3 a.f_ReadStream_space a.fd_ReadStream_space ["self"] (sp_ReadStream_space K a) := by
  have G_bytes_among := ok_bytes_among T
  refine T.F_ReadStream_space.okX sc_ReadStream_space (fun vs H Q E h => A1.len h) (fun cdv A outer s H vs Q E hr h => ?_)
  have hu := hu_of hr
  obtain ⟨v_self, rfl, h⟩ := h
  refine ⟨_, (pss_one (ps_ret (pe_op op_sub (pe_fld (pv 0) rfl) (pe_callS G_bytes_among (hr.mono (by decide)) rfl T.g_bytes_among T.F_bytes_among.kp T.b_bytes_among (fun σ => passAt (takes_of rfl rfl rfl rfl) σ) (pa_cons (pe_fld (pv 0) rfl) pa_nil))))), ?_⟩
  obtain ⟨p, room, xs, L, R, rfl, hs, se, hl, k⟩ := h
  have hU := RsA.U hs se
  clear hs
  obtain ⟨dx, il, vs, hi, hs⟩ := hU
  wtm_at "x"
  refine c_among hs (by wtm_at "hg") hi (by omega) fun H1 hs hi => ?_
  wtm_at "x"
  exact k _ (se.ent'.st (RsA.I hs (by wtm_at "sels")))
theorem ok_ReadStream_contents (T : Txt P w K mg base a) : FnOk P w K mg base (L2.CX P w) 1 a.f_ReadStream_contents a.fd_ReadStream_contents ["self"] (sp_ReadStream_contents K a) := by
  refine T.F_ReadStream_contents.okX sc_ReadStream_contents (fun vs H Q E h => A1.len h) (fun cdv A outer s H vs Q E hr h => ?_)
  have hu := hu_of hr
  obtain ⟨v_self, rfl, h⟩ := h
  refine ⟨_, (pss_one (ps_ret (pe_callTy call_ls (by rfl) T.g_list (by decide +kernel) (pa_cons (pe_fld (pv 0) rfl) pa_nil)))), ?_⟩
  obtain ⟨p, room, xs, L, R, rfl, hs, se, hl, k⟩ := h
  have hU := RsA.U hs se
  clear hs
  obtain ⟨dx, il, vs, hi, hs⟩ := hU
  wtm_at "x"
  exact k _ _ _ (itsA.U (vs := vs) (xs := xs) hs (by wtm_at "sel")) ((Ent.cons se.ent').st (Ent.swap.st (RsA.I hs (by wtm_at "sels"))))
theorem ok_ReadStream_append_one (T : Txt P w K mg base a) : FnOk P w K mg base (L2.CX P w) 3 a.f_ReadStream_append_one a.fd_ReadStream_append_one ["self", "item"] (sp_ReadStream_append_one K a) := by
  have G_is_mark := ok_is_mark T
  have G_joined := ok_joined T
  refine T.F_ReadStream_append_one.okX sc_ReadStream_append_one (fun vs H Q E h => A2.len h) (fun cdv A outer s H vs Q E hr h => ?_)
  have hu := hu_of hr
  obtain ⟨v_self, v_item, rfl, h⟩ := h
  refine ⟨_, (pss_one (ps_if (pt_up (PW.pt (pw_and (pt_val (pe_callS G_is_mark (hr.mono (by decide)) rfl T.g_is_mark T.F_is_mark.kp T.b_is_mark (fun σ => passAt (takes_of rfl rfl rfl rfl) σ) (pa_cons (pv 1) pa_nil))) (pw_and (pt_tr (pe_fld (pv 0) rfl) (by intro _; rfl)) (pw_and1 (pt_val (pe_callS G_is_mark (hr.mono (by decide)) rfl T.g_is_mark T.F_is_mark.kp T.b_is_mark (fun σ => passAt (takes_of rfl rfl rfl rfl) σ) (pa_cons (pe_ix ix_list (pe_fld (pv 0) rfl) (pe_un un_neg pe_int) (fun _ _ => rfl)) pa_nil)))))))) (pss_one (ps_asg (pe_callS G_joined (hr.mono (by decide)) rfl T.g_joined T.F_joined.kp T.b_joined (fun σ => passAt (takes_of rfl rfl rfl rfl) σ) (pa_cons (pe_ix ix_list (pe_fld (pv 0) rfl) (pe_un un_neg pe_int) (fun _ _ => rfl)) (pa_cons (pv 1) pa_nil))) (pg_sub (pe_fld (pv 0) rfl) (pe_un un_neg pe_int) set_list))) (pss_one (ps_expr (pe_bm PySem.F.plainAttrs_list PySem.F.slot_list_append PySem.F.type_list_append mt_append (pe_fld (pv 0) rfl) (pa_cons (pv 1) pa_nil)))))), ?_⟩
  obtain ⟨p, room, xs, L, R, rfl, hs, se, hl, x, iv, k⟩ := h
  have hU := RsA.U hs se
  clear hs
  obtain ⟨dx, il, vs, hi, hs⟩ := hU
  have hlen := hi.1
  have hs := itA.I hs iv
  wtm_at "x"
  refine t_up0 ?_
  wtm_at "x"
  refine a1 ⟨x, iv, ?_⟩
  wtm_at "x"
  have plain : app1 xs x = xs ++ [x] → ∀ H', Sl.St (cell il (.lst (vs ++ [v_item])) :: itA v_item x :: cell p (.ins a.C_ReadStream dx (F_ReadStream (.int room) (.ref il))) :: itsA vs xs :: R) H' → Q .non H' := fun e H' hs => by
    refine k _ ?_
    rw [e]
    exact RsA.I2 hs ((itsA.U (vs := vs) (xs := xs) hs (by wtm_at "sel")).app (itA.U (v := v_item) (x := x) hs (by wtm_at "sel"))) (by wtm_at "sels") |>.perm (by wtm_at "sels")
  cases x with
  | b z =>
    refine iteF ?_
    refine iteF ?_
    wtm_at "x"
    exact plain rfl _ (hs.perm (by wtm_at "sels"))
  | m m =>
    refine iteT ?_
    wtm_at "x"
    rcases snoc_cases xs with rfl | ⟨S, y, rfl⟩
    · obtain rfl : vs = [] := List.eq_nil_of_length_eq_zero hlen
      refine iteF ?_
      refine iteF ?_
      wtm_at "x"
      exact plain (app1_nil _) _ (hs.perm (by wtm_at "sels"))
    · obtain ⟨ws, u, rfl, hws, hu⟩ := hi.snoc
      refine if_b (fun _ => ?_) (fun c => absurd c (by simp))
      wtm_at "x"
      refine o_ixL (by wtm_at "sg") atI_last ?_
      wtm_at "x"
      refine a1 ⟨y, hu, ?_⟩
      wtm_at "x"
      cases y with
      | b z =>
        refine iteF ?_
        wtm_at "x"
        exact plain (app1_bm _ _ _) _ (hs.perm (by wtm_at "sels"))
      | m n =>
        refine iteT ?_
        wtm_at "x"
        refine o_ixL (by wtm_at "sg") atI_last ?_
        wtm_at "x"
        refine c_joined hs hu iv fun t H1 hs => ?_
        wtm_at "x"
        refine Sl.wr (a := il) (o := .lst (ws ++ [u])) (o' := .lst (ws ++ [.ref t])) hs (by wtm_at "sel") id (fun H2 hs => ?_) |> fun z => c_setE (hs.get (by wtm_at "sel")) z
        wtm_at "x"
        refine k _ ?_
        rw [app1_mm]
        have hw := itsA.U (vs := ws ++ [u]) (xs := S ++ [.m n]) hs (by wtm_at "sel")
        obtain ⟨ws', u', e, hw', _⟩ := hw.snoc
        obtain ⟨rfl, _⟩ := List.append_inj' e rfl
        exact (RsA.I2 hs (hw'.app (x := .m (n + m)) ⟨t, rfl, hs.geti (by wtm_at "sel")⟩) (by wtm_at "sels")).perm (by wtm_at "sels")
theorem ok_ReadStream_append (T : Txt P w K mg base a) : FnOk P w K mg base (L2.CX P w) 4 a.f_ReadStream_append a.fd_ReadStream_append ["self", "items"] (sp_ReadStream_append K a) := by
  have G_ReadStream_space := ok_ReadStream_space T
  have G_bytes_among := ok_bytes_among T
  have G_ReadStream_append_one := ok_ReadStream_append_one T
  refine T.F_ReadStream_append.okX sc_ReadStream_append (fun vs H Q E h => A2.len h) (fun cdv A outer s H vs Q E hr h => ?_)
  have hu := hu_of hr
  obtain ⟨v_self, v_items, rfl, h⟩ := h
  refine ⟨_, (pss_cons (ps_set (i := 2) sc_ReadStream_append.nd rfl (by first | exact Or.inl rfl | exact Or.inr rfl) (pe_meth0S (pv 0) T.cl_ReadStream T.m_ReadStream_space G_ReadStream_space (hr.mono (by decide)) T.b_ReadStream_space (fun σ => passAt (takes_of rfl rfl rfl rfl) σ)))
    (pss_cons (ps_if (pt_cmpR op_gt (pe_callS G_bytes_among (hr.mono (by decide)) rfl T.g_bytes_among T.F_bytes_among.kp T.b_bytes_among (fun σ => passAt (takes_of rfl rfl rfl rfl) σ) (pa_cons (pv 1) pa_nil)) (pv 2) (nomark _)) (pss_one (ps_raiseE rfl T.e_StreamFull (hr.mono (by decide)) (takes_of rfl rfl rfl rfl) rfl (pv 2))) pss_nil)
    (pss_one (ps_for (passes_of rfl) rfl (pi_list (pv 1)) (pg_name (i := 3) sc_ReadStream_append.nd rfl (by first | exact Or.inl rfl | exact Or.inr rfl)) (pss_one (ps_expr (pe_methS (pv 0) T.cl_ReadStream T.m_ReadStream_append_one G_ReadStream_append_one (hr.mono (by decide)) T.b_ReadStream_append_one (fun σ => passAt (takes_of rfl rfl rfl rfl) σ) (pa_cons (pv 3) pa_nil)))))))), ?_⟩
  obtain ⟨p, q, room, xs, ys, vs, L, R, rfl, rfl, hs, se, hl, r0, r1, k0, k1⟩ := h
  have hs := hs.sels se
  simp only [List.cons_append, List.nil_append] at hs
  have hxb := bys_le xs
  have hyb := bys_le ys
  wtm_at "x"
  refine a1 ⟨p, room, xs, _, _, rfl, hs, by wtm_at "sel", by omega, fun H1 hs => ?_⟩
  wtm_at "x"
  have hi := itsA.U (vs := vs) (xs := ys) hs (by wtm_at "sel")
  have hlen := hi.1
  refine c_among hs (by wtm_at "hg") hi (by omega) fun H2 hs hi => ?_
  wtm_at "x"
  refine if_d (fun c => ?_) (fun c => ?_)
  · wtm_at "x"
    exact ⟨okV_int ⟨by omega, by omega⟩, fun d hd => k0 c d _ (hs.newi (o := .xd _) hd trivial)⟩
  · wtm_at "x"
    refine k_forL (fun i σ H' => ∃ u, σ = [some (.ref p), some (.ref q), some (.int (room - bys xs)), u] ∧ Sl.St (RsA a p room (appI xs (ys.take i)) :: cell q (.lst vs) :: itsA vs ys :: R) H') (by wtm_at "sg") ⟨_, rfl, show Sl.St (RsA a p room xs :: cell q (.lst vs) :: itsA vs ys :: R) _ from hs.perm (by wtm_at "sels")⟩ (fun i σ H' _ ⟨_, _, hs⟩ => by wtm_at "sg") ?_ ?_
    · clear hs
      rintro i v σ H3 hv ⟨u, rfl, hs⟩
      have hi := itsA.U (vs := vs) (xs := ys) hs (by wtm_at "sel")
      have hlt : i < ys.length := by rw [← hlen]; exact (List.getElem?_eq_some_iff.mp hv).1
      have hy := List.getElem?_eq_getElem hlt
      have hal := appI_len xs (ys.take i)
      rw [List.length_take] at hal
      wtm_at "x"
      refine a2 ⟨p, room, appI xs (ys.take i), _, _, rfl, hs, by wtm_at "sel", by omega, ys[i], hi.2 i v _ hv hy, fun H4 hs => ?_⟩
      rw [← appI_take hy] at hs
      wtm_at "x"
      exact ⟨_, rfl, hs.perm (by wtm_at "sels")⟩
    · rintro σ H3 ⟨u, rfl, hs⟩
      rw [hlen, List.take_length] at hs
      wtm_at "x"
      exact k1 (by omega) _ (hs.perm (by wtm_at "sels"))
theorem okN_ReadStream_append (T : Txt P w K mg base a) : FnOk P w K mg base (L2N.CX P w) 4 a.f_ReadStream_append a.fd_ReadStream_append ["self", "items"] (sp_ReadStream_append K a) := by
  have G_ReadStream_space := ok_ReadStream_space T
  have G_bytes_among := ok_bytes_among T
  have G_ReadStream_append_one := ok_ReadStream_append_one T
  refine Hx.okN T.F_ReadStream_append sc_ReadStream_append (fun vs H Q E h => A2.len h) (fun cdv A outer s H vs Q E hr h => ?_)
  have hu := hu_of hr
  obtain ⟨v_self, v_items, rfl, h⟩ := h
  refine ⟨_, (pss_cons (ps_set (i := 2) sc_ReadStream_append.nd rfl (by first | exact Or.inl rfl | exact Or.inr rfl) (pe_meth0S (pv 0) T.cl_ReadStream T.m_ReadStream_space G_ReadStream_space (hr.mono (by decide)) T.b_ReadStream_space (fun σ => passNo)))
    (pss_cons (ps_if (pt_cmpR op_gt (pe_callS G_bytes_among (hr.mono (by decide)) rfl T.g_bytes_among T.F_bytes_among.kp T.b_bytes_among (fun σ => passNo) (pa_cons (pv 1) pa_nil)) (pv 2) (nomark _)) (pss_one (Hx.raise_N rfl T.e_StreamFull (hr.mono (by decide)) (L2N.takes_of rfl rfl rfl rfl) rfl (pv 2))) pss_nil)
    (pss_one (ps_for (passes_of rfl) rfl (pi_list (pv 1)) (pg_name (i := 3) sc_ReadStream_append.nd rfl (by first | exact Or.inl rfl | exact Or.inr rfl)) (pss_one (ps_expr (pe_methS (pv 0) T.cl_ReadStream T.m_ReadStream_append_one G_ReadStream_append_one (hr.mono (by decide)) T.b_ReadStream_append_one (fun σ => passNo) (pa_cons (pv 3) pa_nil)))))))), ?_⟩
  obtain ⟨p, q, room, xs, ys, vs, L, R, rfl, rfl, hs, se, hl, r0, r1, k0, k1⟩ := h
  have hs := hs.sels se
  simp only [List.cons_append, List.nil_append] at hs
  have hxb := bys_le xs
  have hyb := bys_le ys
  wtm_at "x"
  refine a1 ⟨p, room, xs, _, _, rfl, hs, by wtm_at "sel", by omega, fun H1 hs => ?_⟩
  wtm_at "x"
  have hi := itsA.U (vs := vs) (xs := ys) hs (by wtm_at "sel")
  have hlen := hi.1
  refine c_among hs (by wtm_at "hg") hi (by omega) fun H2 hs hi => ?_
  wtm_at "x"
  refine if_d (fun c => ?_) (fun c => ?_)
  · wtm_at "x"
    exact ⟨okV_int ⟨by omega, by omega⟩, fun d hd => k0 c d _ (hs.newi (o := .xd _) hd trivial)⟩
  · wtm_at "x"
    refine k_forL (fun i σ H' => ∃ u, σ = [some (.ref p), some (.ref q), some (.int (room - bys xs)), u] ∧ Sl.St (RsA a p room (appI xs (ys.take i)) :: cell q (.lst vs) :: itsA vs ys :: R) H') (by wtm_at "sg") ⟨_, rfl, show Sl.St (RsA a p room xs :: cell q (.lst vs) :: itsA vs ys :: R) _ from hs.perm (by wtm_at "sels")⟩ (fun i σ H' _ ⟨_, _, hs⟩ => by wtm_at "sg") ?_ ?_
    · clear hs
      rintro i v σ H3 hv ⟨u, rfl, hs⟩
      have hi := itsA.U (vs := vs) (xs := ys) hs (by wtm_at "sel")
      have hlt : i < ys.length := by rw [← hlen]; exact (List.getElem?_eq_some_iff.mp hv).1
      have hy := List.getElem?_eq_getElem hlt
      have hal := appI_len xs (ys.take i)
      rw [List.length_take] at hal
      wtm_at "x"
      refine a2 ⟨p, room, appI xs (ys.take i), _, _, rfl, hs, by wtm_at "sel", by omega, ys[i], hi.2 i v _ hv hy, fun H4 hs => ?_⟩
      rw [← appI_take hy] at hs
      wtm_at "x"
      exact ⟨_, rfl, hs.perm (by wtm_at "sels")⟩
    · rintro σ H3 ⟨u, rfl, hs⟩
      rw [hlen, List.take_length] at hs
      wtm_at "x"
      exact k1 (by omega) _ (hs.perm (by wtm_at "sels"))
theorem ok_ReadStream_read (T : Txt P w K mg base a) : FnOk P w K mg base (L2.CX P w) 2 a.f_ReadStream_read a.fd_ReadStream_read ["self", "n"] (sp_ReadStream_read K a) := by
  have G_is_mark := ok_is_mark T
  refine T.F_ReadStream_read.okX sc_ReadStream_read (fun vs H Q E h => A2.len h) (fun cdv A outer s H vs Q E hr h => ?_)
  have hu := hu_of hr
  obtain ⟨v_self, v_n, rfl, h⟩ := h
  refine ⟨_, (pss_cons (ps_set (i := 2) sc_ReadStream_read.nd rfl (by first | exact Or.inl rfl | exact Or.inr rfl) (pe_lst pa_nil))
    (pss_cons (ps_set (i := 3) sc_ReadStream_read.nd rfl (by first | exact Or.inl rfl | exact Or.inr rfl) pe_int)
    (pss_cons (ps_while (passes_of rfl) (PW.pt (pw_and (pt_cmpR op_lt (pv 3) (pv 1) (nomark _)) (pw_and1 (pt_tr (pe_fld (pv 0) rfl) (by intro _; rfl))))) (pss_cons (ps_set (i := 4) sc_ReadStream_read.nd rfl (by first | exact Or.inl rfl | exact Or.inr rfl) (pe_bm PySem.F.plainAttrs_list PySem.F.slot_list_pop PySem.F.type_list_pop mt_popAt (pe_fld (pv 0) rfl) (pa_cons pe_int pa_nil)))
    (pss_cons (ps_expr (pe_bm PySem.F.plainAttrs_list PySem.F.slot_list_append PySem.F.type_list_append mt_append (pv 2) (pa_cons (pv 4) pa_nil)))
    (pss_one (ps_if (pt_not (pt_val (pe_callS G_is_mark (hr.mono (by decide)) rfl T.g_is_mark T.F_is_mark.kp T.b_is_mark (fun σ => passAt (takes_of rfl rfl rfl rfl) σ) (pa_cons (pv 4) pa_nil)))) (pss_one (ps_aug (i := 3) sc_ReadStream_read.nd rfl (by first | exact Or.inl rfl | exact Or.inr rfl) pe_int ip_add)) pss_nil)))))
    (pss_one (ps_ret (pv 2)))))), ?_⟩
  obtain ⟨p, room, xs, L, R, rfl, hs, se, hl, n, rfl, k⟩ := h
  have hU := RsA.U hs se
  clear hs
  obtain ⟨dx, il, vs, hi, hs⟩ := hU
  have hlen := hi.1
  wtm_at "x"
  wtm_at "nm"
  refine w_by (fun m σ H' => ∃ (i : Nat) (u : Option V) (tk : Addr), σ = [some (.ref p), some (.int n), some (.ref tk), some (.int (bys (xs.take i))), u] ∧ m = xs.length - i ∧ i ≤ xs.length ∧ (∀ j, j < i → (bys (xs.take j) : Int) < n) ∧
    Sl.St (cell tk (.lst (vs.take i)) :: cell il (.lst (vs.drop i)) :: cell p (.ins a.C_ReadStream dx (F_ReadStream (.int room) (.ref il))) :: itsA vs xs :: R) H') xs.length ⟨0, _, _, rfl, rfl, by omega, fun j h => by omega, show Sl.St (cell _ (.lst []) :: cell il (.lst vs) :: cell p (.ins a.C_ReadStream dx (F_ReadStream (.int room) (.ref il))) :: itsA vs xs :: R) _ from hs.perm (by wtm_at "sels")⟩ ?_
  clear hs
  rintro m σ H' ⟨i, u, tk, rfl, rfl, hi1, hi2, hs⟩
  have hi := itsA.U (vs := vs) (xs := xs) hs (by wtm_at "sel")
  have done : CutAt n xs i → ∀ H', Sl.St (cell tk (.lst (vs.take i)) :: cell il (.lst (vs.drop i)) :: cell p (.ins a.C_ReadStream dx (F_ReadStream (.int room) (.ref il))) :: itsA vs xs :: R) H' → Q (.ref tk) H' := fun c H' hs => by
    have hi := itsA.U (vs := vs) (xs := xs) hs (by wtm_at "sel")
    exact k i c _ _ _ (hi.take i) ((RsA.I2 hs (hi.drop i) (by wtm_at "sels")).perm (by wtm_at "sels"))
  wtm_at "x"
  refine if_d (fun c => ?_) (fun c => ?_)
  · by_cases hlt : i < xs.length
    · have hx : xs[i]? = some xs[i] := List.getElem?_eq_getElem hlt
      have iv := hi.2 i _ _ (List.getElem?_eq_getElem (show i < vs.length by omega)) hx
      have ed : vs.drop i = vs[i] :: vs.drop (i + 1) := (List.getElem_cons_drop (by omega)).symm
      have et : vs.take (i + 1) = vs.take i ++ [vs[i]] := take_snoc (List.getElem?_eq_getElem (by omega))
      have h1 : (vs.drop (i + 1)).length < 100000 := by rw [List.length_drop]; omega
      have h2 : (vs.take i).length < 100000 := by rw [List.length_take]; omega
      have next : ∀ j, j < i + 1 → (bys (xs.take j) : Int) < n := fun j hj => by
        by_cases e : j = i
        · rw [e]; exact c
        · exact hi2 j (by omega)
      generalize vs[i] = y at iv ed et
      rw [ed] at hs
      have hs := itA.I hs iv
      wtm_at "x"
      refine iteT ?_
      refine ⟨_, fun σ2 H2 h => h, ?_⟩
      wtm_at "x"
      refine a1 ⟨xs[i], itA.U (v := y) (x := xs[i]) hs (by wtm_at "sel"), ?_⟩
      wtm_at "x"
      have eb := bys_take hx
      rw [← et] at hs
      cases hb : isB xs[i] with
      | true =>
        rw [hb, if_pos rfl] at eb
        refine iteT ?_
        wtm_at "x"
        exact ⟨xs.length - (i + 1), by omega, i + 1, _, tk, by rw [eb]; rfl, rfl, by omega, next, hs.perm (by wtm_at "sels")⟩
      | false =>
        rw [hb, if_neg Bool.false_ne_true, Nat.add_zero] at eb
        refine iteF ?_
        wtm_at "x"
        exact ⟨xs.length - (i + 1), by omega, i + 1, _, tk, by rw [eb]; rfl, rfl, by omega, next, hs.perm (by wtm_at "sels")⟩
    · obtain rfl : i = xs.length := by omega
      have ed : vs.drop xs.length = [] := by rw [← hlen, List.drop_length]
      rw [ed] at hs done
      wtm_at "x"
      refine iteF ?_
      wtm_at "x"
      exact done ⟨by omega, hi2, .inl rfl⟩ _ (hs.perm (by wtm_at "sels"))
  · refine iteF ?_
    wtm_at "x"
    exact done ⟨hi1, hi2, .inr c⟩ _ (hs.perm (by wtm_at "sels"))
end
end My
set_option Elab.async false
set_option maxRecDepth 100000
set_option maxHeartbeats 100000000
set_option linter.all false
set_option synthInstance.maxSize 100000
set_option synthInstance.maxHeartbeats 0
namespace My
open PySem L2 Sx Rd Sl
local macro_rules | `(tactic| wtm_at "ne") => `(tactic| (first | with_reducible assumption | with_reducible exact Ne.symm (by with_reducible assumption)))
local macro_rules | `(tactic| wtm_at "nin") => `(tactic| (simp only [List.mem_cons, List.not_mem_nil, or_false, not_or, not_false_eq_true]; (repeat' refine And.intro ?_ ?_); (all_goals wtm_at "ne")))
local macro_rules | `(tactic| wtm_at "hl") => `(tactic| (first | (with_reducible assumption) | exact upd_same | ((with_reducible refine' (upd_ne ?hne).trans ?hgo); (case hne => wtm_at "ne"); (case hgo => wtm_at "hl"))))
local macro_rules | `(tactic| wtm_at "sq") => `(tactic| (first | (with_reducible assumption) | exact Or.inl (Or.inl (by wtm_at "hl"))))
local macro_rules | `(tactic| wtm_at "ar") => `(tactic| (first | omega | exact ⟨by omega, by omega⟩ | exact Or.inl ⟨by omega, by omega⟩ | exact Or.inr ⟨by omega, by omega⟩ | (show (0 : Int) < _; omega) | (show (0 : Int) < _ ∧ _ < (1073741824 : Int); omega)))
local macro_rules | `(tactic| wtm_at "cls") => `(tactic| (first | exact Txt.cl_ReadStream (by assumption)))
local macro_rules | `(tactic| wtm_at "noa") => do let T := Lean.mkIdent `T; `(tactic| (first | exact Sl.Noa.no $T | exact Sl.Noa.no (φ := Txt _ _ _ _ _ _) (by assumption)))
local macro_rules | `(tactic| wtm_at "lkp") => `(tactic| (first | with_reducible exact Sl.Lkp.h))
local macro_rules | `(tactic| wtm_at "ptf") => `(tactic| (first | with_reducible exact Sl.Ptf.h | exact rfl))
local macro_rules | `(tactic| wtm_at "lnF") => `(tactic| (first | with_reducible exact Sl.LnF.h | (refine PL.lt (n := 60) ?_ (by decide); (repeat refine PL.put ?_); exact PL.nil) | (simp only [List.length_cons, List.length_nil]; decide) | decide))
local macro_rules | `(tactic| wtm_at "nol") => `(tactic| (first | with_reducible exact Sl.NoL.h))
local macro_rules | `(tactic| wtm_at "kdl") => `(tactic| (first | fail))
local macro_rules | `(tactic| wtm_at "kdp") => `(tactic| (first | fail))
local macro_rules | `(tactic| wtm_at "kdn") => `(tactic| (first | fail))
local macro_rules | `(tactic| wtm_at "kdd") => do let h := Lean.mkIdent `hs; `(tactic| (first | fail))
local macro_rules | `(tactic| wtm_at "r_1") => `(tactic| (first
  | ((with_reducible refine' k_meth ?h1 ?h2 ?_); (case h1 => wtm_at "hl"); (case h2 => wtm_at "nol"))
  | ((with_reducible refine' k_fld ?h1 ?h2 ?h3 ?h4 ?_); (case h1 => wtm_at "hl"); (case h2 => wtm_at "cls"); (case h3 => wtm_at "noa"); (case h4 => wtm_at "lkp"))))
local macro_rules | `(tactic| wtm_at "r_2") => `(tactic| (
  (with_reducible refine' k_set ?h1 ?h2 ?h3 ?h4 ?h5 ?_); (case h1 => wtm_at "hl"); (case h2 => wtm_at "cls"); (case h3 => wtm_at "noa"); (case h4 => wtm_at "ptf"); (case h5 => wtm_at "lnF")))
local macro_rules | `(tactic| wtm_at "r_3") => `(tactic| (first
  | ((with_reducible refine' o_eq ?hs ?_); (case hs => exact rfl)) | ((with_reducible refine' o_ne ?hs ?_); (case hs => exact rfl)) | ((with_reducible refine' o_I ?hc ?_); (case hc => wtm_at "ar"))))
local macro_rules | `(tactic| wtm_at "r_4") => `(tactic| (first
  | ((with_reducible refine' c_ln ?h1 ?_); (case h1 => wtm_at "sq")) | ((with_reducible refine' o_ixL ?h1 ?h2 ?_); (case h1 => wtm_at "sq"); (case h2 => first | exact rfl | exact atI_zero _ _))
  | ((with_reducible refine' k_ty ?h1 ?_); (case h1 => wtm_at "sq")) | ((with_reducible refine' k_truL ?h1 ?_); (case h1 => wtm_at "sq"))))
local macro_rules | `(tactic| wtm_at "r_5") => `(tactic| (first
  | ((with_reducible refine' c_pop0 ?h1 ?h2 ?_); (case h1 => wtm_at "hl"); (case h2 => omega)) | ((with_reducible refine' o_slL ?h1 ?_); (case h1 => wtm_at "sq"))))
local macro_rules | `(tactic| wtm_at "r_6") => `(tactic| (first
  | ((with_reducible refine' c_isList ?h1 ?_); (case h1 => wtm_at "hl")) | ((with_reducible refine' c_isTup ?h1 ?_); (case h1 => wtm_at "hl")) | ((with_reducible refine' c_isTupB ?h1 ?_); (case h1 => wtm_at "hl"))
  | ((with_reducible refine' s_augV ?hv ?_); (case hv => exact rfl)) | ((with_reducible refine' k_xf ?h1 ?h2 ?_); (case h1 => wtm_at "hl"); (case h2 => exact look_hit _ _ _)) | ((with_reducible refine' k_dget ?h1 ?h2 ?_); (case h1 => wtm_at "hl"); (case h2 => with_reducible assumption))))
local macro_rules | `(tactic| wtm_at "r") => `(tactic| (repeat (first
  | with_reducible refine' Sl.Wr ?_ | ((with_reducible apply e_var); (case h => exact rfl))
  | ((with_reducible refine' Sl.cn 1 ?_); wtm_at "r_1") | ((with_reducible refine' Sl.cn 3 ?_); wtm_at "r_3") | ((with_reducible refine' Sl.cn 2 ?_); wtm_at "r_2")
  | ((with_reducible refine' Sl.cn 4 ?_); wtm_at "r_4") | ((with_reducible refine' Sl.cn 5 ?_); wtm_at "r_5") | ((with_reducible refine' Sl.cn 6 ?_); wtm_at "r_6")
  | with_reducible refine d_nx ?_ | with_reducible refine d_rt ?_ | with_reducible refine d_bk ?_ | with_reducible refine d_ct ?_)))
local macro_rules | `(tactic| wtm_at "nm") => `(tactic| (simp only [L2.start, List.length_cons, List.length_nil, List.map_cons, List.map_nil, List.set_cons_succ, List.set_cons_zero, List.replicate_succ, List.replicate_zero, List.cons_append, List.nil_append, Nat.add_sub_cancel]))
local macro_rules | `(tactic| wtm_at "sel") => `(tactic| (first | with_reducible exact Sl.SelT.s | with_reducible exact Sl.Sel.here | ((with_reducible refine' Sl.Sel.there ?t); (case t => wtm_at "sel_"))))
local macro_rules | `(tactic| wtm_at "sel_") => `(tactic| (first | with_reducible exact Sl.Sel.here | ((with_reducible refine' Sl.Sel.there ?t); (case t => wtm_at "sel_"))))
local macro_rules | `(tactic| wtm_at "selt") => `(tactic| (first | with_reducible exact Sl.Sels.all _ | ((with_reducible refine' Sl.Sels.skip ?t); (case t => wtm_at "selt"))))
local macro_rules | `(tactic| wtm_at "sels") => `(tactic| (first | with_reducible exact Sl.SelsT.s | with_reducible exact Sl.Sels.nil | ((with_reducible refine' Sl.Sels.cons ?a ?b); (case a => wtm_at "sel"); (case b => wtm_at "sels")) | wtm_at "selt"))
local macro_rules | `(tactic| wtm_at "selm") => `(tactic| ((try (simp only [])); (try simp only [List.map_append, List.map_cons, List.map_nil]); wtm_at "sels"))
local macro_rules | `(tactic| wtm_at "hg") => do
  let h := Lean.mkIdent `hs
  `(tactic| (first | (with_reducible assumption) | (with_reducible exact Sl.GetC.h $h) | ((with_reducible refine' Sl.St.get $h ?s); (case s => wtm_at "sel")) | ((with_reducible refine' Sl.St.geti $h ?s); (case s => wtm_at "sel"))))
local macro_rules | `(tactic| wtm_at "sg") => do
  let h := Lean.mkIdent `hs
  `(tactic| (first | (with_reducible assumption) | (with_reducible exact Sl.SqC.h $h) | (with_reducible exact Sl.SqTC.h $h) | exact Or.inl (Or.inl (by wtm_at "hg")) | (refine' Sl.sqA.U $h ?s; (case s => wtm_at "sel"))))
local macro_rules | `(tactic| wtm_at "le5") => `(tactic| (first | omega | (simp only [List.length_cons, List.length_nil, List.length_append, List.length_map]; omega) | (show _ ≤ _; decide) | (show _ < _; decide)))
local macro_rules | `(tactic| wtm_at "km") => `(tactic| fail)
local macro_rules | `(tactic| wtm_at "kf") => `(tactic| fail)
local macro_rules | `(tactic| wtm_at "x_1") => `(tactic| (first
  | ((with_reducible refine' k_meth ?h1 ?h2 ?_); (case h1 => wtm_at "hg"); (case h2 => wtm_at "nol")) | wtm_at "km"
  | ((with_reducible refine' k_fld ?h1 ?h2 ?h3 ?h4 ?_); (case h1 => wtm_at "hg"); (case h2 => wtm_at "cls"); (case h3 => wtm_at "noa"); (case h4 => wtm_at "lkp")) | wtm_at "kf"))
local macro_rules | `(tactic| wtm_at "x_2") => do
  let h := Lean.mkIdent `hs
  let T := Lean.mkIdent `T
  `(tactic| (first
  | ((with_reducible refine' Sl.k_newL $h ?h1 ?_); (case h1 => wtm_at "le5"); (clear $h; intro _ _ $h)) | ((with_reducible refine' Sl.k_newT $h ?h1 ?_); (case h1 => wtm_at "le5"); (clear $h; intro _ _ $h))
  | ((with_reducible refine' Sl.k_make $h ?_); (clear $h; intro _ _ _ $h)) | ((with_reducible refine' Sl.k_setC $T $h ?_); (clear $h; intro _ $h))
  | ((with_reducible refine' Sl.k_setS $h ?h1 ?h2 ?h3 ?h4 ?h5 ?_); (case h1 => wtm_at "sel"); (case h2 => wtm_at "cls"); (case h3 => wtm_at "noa"); (case h4 => wtm_at "ptf"); (case h5 => wtm_at "lnF"); (clear $h; intro _ $h))))
local macro_rules | `(tactic| wtm_at "x_3") => `(tactic| (first
  | ((with_reducible refine' o_eq ?hs ?_); (case hs => exact rfl)) | ((with_reducible refine' o_ne ?hs ?_); (case hs => exact rfl)) | ((with_reducible refine' o_I ?hc ?_); (case hc => wtm_at "ar"))))
local macro_rules | `(tactic| wtm_at "x_4") => `(tactic| (first
  | ((with_reducible refine' o_ixL ?h1 ?h2 ?_); (case h1 => wtm_at "sg"); (case h2 => first | exact rfl | exact atI_zero _ _)) | ((with_reducible refine' o_ixT ?h1 ?h2 ?_); (case h1 => wtm_at "sg"); (case h2 => first | exact rfl | exact atI_zero _ _))
  | ((with_reducible refine' c_ln ?h1 ?_); (case h1 => wtm_at "sg")) | ((with_reducible refine' c_lnT ?h1 ?_); (case h1 => wtm_at "sg")) | ((with_reducible refine' k_truL ?h1 ?_); (case h1 => wtm_at "sg"))
  | ((with_reducible refine' k_ty ?h1 ?_); (case h1 => wtm_at "sg")) | ((with_reducible refine' g_tup ?h1 ?h2 ?_); (case h1 => wtm_at "sg"); (case h2 => exact rfl))))
local macro_rules | `(tactic| wtm_at "x_5") => do
  let h := Lean.mkIdent `hs
  `(tactic| (first
  | ((with_reducible refine' Sl.c_appS $h ?h1 ?h2 ?_); (case h1 => wtm_at "sel"); (case h2 => wtm_at "le5"); (clear $h; intro _ $h)) | ((with_reducible refine' Sl.c_pop0S $h ?h1 ?h2 ?_); (case h1 => wtm_at "sel"); (case h2 => wtm_at "le5"); (clear $h; intro _ $h))
  | ((with_reducible refine' Sl.c_lsS $h ?h1 ?_); (case h1 => wtm_at "sg"); (clear $h; intro _ _ $h)) | ((with_reducible refine' Sl.o_slLS $h ?h1 ?_); (case h1 => wtm_at "sg"); (clear $h; intro _ _ $h)) | ((with_reducible refine' Sl.c_clrS $h ?h1 ?_); (case h1 => wtm_at "sel"); (clear $h; intro _ $h))
  | ((with_reducible refine' Sl.o_catS $h ?h1 ?h2 ?h3 ?_); (case h1 => wtm_at "hg"); (case h2 => wtm_at "hg"); (case h3 => wtm_at "le5"); (clear $h; intro _ _ $h)) | ((with_reducible refine' Sl.c_extS $h ?h1 ?h2 ?h3 ?_); (case h1 => wtm_at "sel"); (case h2 => wtm_at "hg"); (case h3 => wtm_at "le5"); (clear $h; intro _ $h))))
local macro_rules | `(tactic| wtm_at "x_6") => do
  let h := Lean.mkIdent `hs
  `(tactic| (first
  | ((with_reducible refine' Sl.k_raise $h ?h1 ?_); (case h1 => exact okV_int ⟨by omega, by omega⟩); (clear $h; intro _ _ $h))
  | ((with_reducible refine' c_isList ?h1 ?_); (case h1 => wtm_at "hg")) | ((with_reducible refine' c_isTup ?h1 ?_); (case h1 => wtm_at "hg")) | ((with_reducible refine' c_isTupB ?h1 ?_); (case h1 => wtm_at "hg"))
  | ((with_reducible refine' s_augV ?hv ?_); (case hv => exact rfl))
  | ((with_reducible refine' k_xf ?h1 ?h2 ?_); (case h1 => wtm_at "hg"); (case h2 => exact look_hit _ _ _)) | ((with_reducible refine' k_dget ?h1 ?h2 ?_); (case h1 => wtm_at "hg"); (case h2 => first | with_reducible assumption | wtm_at "kdl"))
  | ((with_reducible refine' Sl.e_disp $h ?_); (clear $h; intro _ _ $h)) | ((wtm_at "kdd"); (case s => wtm_at "sel"); (clear $h; intro _ $h))
  | ((with_reducible refine' Sl.k_dputS $h ?h1 ?h2 ?h3 ?_); (case h1 => wtm_at "sel"); (case h2 => wtm_at "kdn"); (case h3 => wtm_at "kdp"); (clear $h; intro _ $h))))
local macro_rules | `(tactic| wtm_at "x") => do
  let h := Lean.mkIdent `hs
  let T := Lean.mkIdent `T
  `(tactic| (repeat (first
  | with_reducible refine' Sl.Wk $T $h ?_ | with_reducible refine' Sl.Wj ?_ | ((with_reducible apply e_var); (case h => exact rfl))
  | ((with_reducible refine' Sl.cn 1 ?_); wtm_at "x_1") | ((with_reducible refine' Sl.cn 2 ?_); wtm_at "x_2") | ((with_reducible refine' Sl.cn 3 ?_); wtm_at "x_3")
  | ((with_reducible refine' Sl.cn 4 ?_); wtm_at "x_4") | ((with_reducible refine' Sl.cn 5 ?_); wtm_at "x_5") | ((with_reducible refine' Sl.cn 6 ?_); wtm_at "x_6")
  | with_reducible refine d_nx ?_ | with_reducible refine d_rt ?_ | with_reducible refine d_bk ?_ | with_reducible refine d_ct ?_)))
local macro_rules | `(tactic| wtm_at "km") => do let h := Lean.mkIdent `hs; `(tactic| ((with_reducible refine' km_Rs $h ?s ?m ?_); (case s => wtm_at "sel"); (case m => intros; wtm_at "nol")))
local macro_rules | `(tactic| wtm_at "kf") => do let h := Lean.mkIdent `hs; `(tactic| ((with_reducible refine' kf_Rs_room $h ?s ?c ?n ?_); (case s => wtm_at "sel"); (case c => wtm_at "cls"); (case n => wtm_at "noa")))
section
variable {P : Program} {w : World} {K : PySem.W.Frag} {mg : Str → Option Value} {base : Heap} {a : Ads}
/-! ### the text of a list of items -/
def ItG : It → Prop
  | .b z => 0 ≤ z ∧ z < 256
  | .m n => 0 ≤ n ∧ n ≤ 200000
theorem int_le {z : Int} (h : z.natAbs < 10 ^ 20) : (PyData.int z).shown.length ≤ 32 := by
  have e := PySem.int_text_length_le10 (k := 20) (by decide) h
  have e2 : (PyData.int z).shown.length = (toString z).length := by
    show (Str.ofString (toString z)).length = _
    rw [PySem.ofString_length]
  omega
theorem dIt_short {x : It} (h : ItG x) : (dIt x).leavesShort 32 = true := by
  cases x with
  | b z =>
    obtain ⟨h1, h2⟩ := h
    exact decide_eq_true (int_le (by omega))
  | m n =>
    obtain ⟨h1, h2⟩ := h
    show (PyData.leavesShort 32 (.str "lost") && (PyData.leavesShort 32 (.int n) && true)) = true
    rw [show PyData.leavesShort 32 (.str "lost") = true by decide +kernel, show PyData.leavesShort 32 (.int n) = true from decide_eq_true (int_le (by omega))]
    rfl
theorem dIts_short : ∀ {xs : List It}, (∀ x ∈ xs, ItG x) → PyData.leavesShortAll 32 (xs.map dIt) = true
  | [], _ => rfl
  | x :: r, h => by
    show ((dIt x).leavesShort 32 && PyData.leavesShortAll 32 (r.map dIt)) = true
    rw [dIt_short (h x List.mem_cons_self), dIts_short fun y hy => h y (List.mem_cons_of_mem _ hy)]; rfl
theorem dIt_bulk (x : It) : (dIt x).bulk ≤ 6 := by
  cases x with
  | b z => exact Nat.zero_le _
  | m n => show PyData.bulk (.tuple [.str "lost", .int n]) ≤ 6; simp only [PyData.bulk, PyData.bulkAll]; decide
theorem dIts_bulk : ∀ xs : List It, PyData.bulkAll (xs.map dIt) ≤ 7 * xs.length
  | [] => Nat.le_refl _
  | x :: r => by
    have h1 := dIt_bulk x
    have h2 := dIts_bulk r
    show (dIt x).bulk + 1 + PyData.bulkAll (r.map dIt) ≤ 7 * (r.length + 1)
    omega
theorem dIts_le {xs : List It} (h : ∀ x ∈ xs, ItG x) (hl : xs.length ≤ 1000) : (PyData.list (xs.map dIt)).shown.length ≤ sizeLine := by
  have h1 := PyData.shown_le_bulk 32 (by decide) (.list (xs.map dIt)) (by simp only [PyData.leavesShort]; exact dIts_short h)
  have h2 := dIts_bulk xs
  have e : (PyData.list (xs.map dIt)).bulk = PyData.bulkAll (xs.map dIt) := by simp only [PyData.bulk]
  rw [e] at h1
  have e : sizeLine = 16777216 := by decide
  omega
theorem int_sh {z : Int} (h : z.natAbs < 2 ^ 64) : (PyData.int z).showable = true := by
  refine decide_eq_true ?_
  by_cases h0 : z.natAbs = 0
  · rw [h0]; decide
  · exact Nat.lt_of_lt_of_le ((Nat.log2_lt h0).mpr h) (by decide)
theorem dIt_sh {x : It} (h : ItG x) : (dIt x).showable = true := by
  cases x with
  | b z =>
    obtain ⟨h1, h2⟩ := h
    exact int_sh (by omega)
  | m n =>
    obtain ⟨h1, h2⟩ := h
    show (PyData.showable (.str "lost") && (PyData.showable (.int n) && true)) = true
    rw [show PyData.showable (.int n) = true from int_sh (by omega)]
    rfl
theorem dIt_hd (x : It) : (dIt x).hasDict = false := by cases x <;> simp [dIt, PyData.hasDict, PyData.hasDictAll]
theorem dIt_dp (x : It) : (dIt x).depth ≤ 3 := (dIt_ld x).2
theorem rRepr_its {K : PySem.W.Frag} {H : Hp} {Q : VK} {q : Addr} {vs : List V} {xs : List It} (h : H q = some (.lst vs)) (hi : Its H vs xs) (hg : ∀ x ∈ xs, ItG x) (hl : xs.length ≤ 1000) (k : Q (.str (PyData.list (xs.map dIt)).shown) H) : rRepr K [.ref q] H Q :=
  ⟨q, .list (xs.map dIt), rfl, .lst (Or.inl (Or.inl h)) hi.dp, by simp only [PyData.hasDict]; exact nA_map dIt_hd xs, by simp only [PyData.showable]; exact sA_mem fun x hx => dIt_sh (hg x hx), Nat.le_trans (dIts_ld xs).2 (by decide), dIts_le hg hl, k⟩
/-! ### the law's own -/
def sp_law_bytes (K : PySem.W.Frag) (a : Ads) : Sp := A1 fun v H Q _ => ∃ (p : Addr) (vs : List V) (xs : List It), v = .ref p ∧ H p = some (.lst vs) ∧ Its H vs xs ∧ xs.length < 100000 ∧ ∀ H1, Fp [] H H1 → Q (.int (bys xs)) H1
def sp_law_append (K : PySem.W.Frag) (a : Ads) : Sp := A2 fun r q H Q _ => ∃ (ra qa : Addr) (vs us : List V) (xs ys : List It) (L R : List As), r = .ref ra ∧ q = .ref qa ∧ Sl.St L H ∧ Sels [cell ra (.lst vs), itsA vs xs, cell qa (.lst us), itsA us ys] L R ∧ xs.length + ys.length < 90000 ∧
  ∀ l ws H', Sl.St (cell l (.lst ws) :: itsA ws (appI xs ys) :: cell ra (.lst vs) :: itsA vs xs :: cell qa (.lst us) :: itsA us ys :: R) H' → Q (.ref l) H'
def sp_law_items (K : PySem.W.Frag) (a : Ads) : Sp := A1 fun s H Q _ => ∃ (st : Addr) (L R : List As), s = .ref st ∧ Sl.St L H ∧ Sel (StA st) L R ∧ ∀ q vs ys H', (∀ y ∈ ys, ItG y) → ys.length ≤ 20 → Sl.St (cell q (.lst vs) :: itsA vs ys :: StA st :: R) H' → Q (.ref q) H'
def sp_law_appends (K : PySem.W.Frag) (a : Ads) : Sp := A4 fun s r q z H Q E => ∃ (p ra qa : Addr) (room : Int) (xs ys : List It) (vs us : List V) (L R : List As), s = .ref p ∧ r = .ref ra ∧ q = .ref qa ∧ z = .int room ∧ Sl.St L H ∧
  Sels [RsA a p room xs, cell ra (.lst vs), itsA vs xs, cell qa (.lst us), itsA us ys] L R ∧ xs.length ≤ 80000 ∧ ys.length ≤ 20 ∧ (∀ y ∈ ys, ItG y) ∧ 0 ≤ room ∧ room ≤ 100 ∧
  ∀ xs' rb ws H', xs'.length ≤ xs.length + 20 → Sl.St (RsA a p room xs' :: cell rb (.lst ws) :: itsA ws xs' :: R) H' → Q (.ref rb) H'
def sp_law_split (K : PySem.W.Frag) (a : Ads) : Sp := A2 fun r z H Q _ => ∃ (ra : Addr) (n : Int) (vs : List V) (xs : List It) (L R : List As), r = .ref ra ∧ z = .int n ∧ Sl.St L H ∧ Sels [cell ra (.lst vs), itsA vs xs] L R ∧ xs.length < 90000 ∧
  ∀ i l H', CutAt n xs i → Sl.St (cell l (.lst (vs.take i)) :: cell ra (.lst vs) :: itsA vs xs :: R) H' → Q (.ref l) H'
def sp_law_agrees (K : PySem.W.Frag) (a : Ads) : Sp := A3 fun s r z H Q _ => ∃ (p ra : Addr) (room : Int) (xs : List It) (vs : List V) (L R : List As), s = .ref p ∧ r = .ref ra ∧ z = .int room ∧ Sl.St L H ∧ Sels [RsA a p room xs, cell ra (.lst vs), itsA vs xs] L R ∧ xs.length < 90000 ∧
  ∀ H', Sl.St (RsA a p room xs :: cell ra (.lst vs) :: itsA vs xs :: R) H' → Q (.bl true) H'
theorem ok_law_bytes (T : Txt P w K mg base a) : FnOk P w K mg base (L2.CX P w) 1 a.f_law_bytes a.fd_law_bytes ["items"] (sp_law_bytes K a) := by
  refine T.F_law_bytes.okX sc_law_bytes (fun vs H Q E h => A1.len h) (fun cdv A outer s H vs Q E hr h => ?_)
  have hu := hu_of hr
  obtain ⟨v_items, rfl, h⟩ := h
  refine ⟨_, (pss_one (ps_ret (pe_callB call_ln (by rfl) T.g_len (by decide +kernel) (pa_cons (pe_lc (own := [("item", 1)]) (g := (gName 1)) (tt := (tNot (tB (tCB (rIsi K) (tCons (tVar 1) (tCons (tC (.ty "tuple")) tNil)))))) (te := (tVar 1)) rfl sc_law_bytes.nd (pi_list (pv 0)) (blkOk_by (N := ["items", "item"]) (sc := defScope s_law_bytes) (own := [("item", 1)]) (by decide +kernel)) (fun _ _ _ _ _ => by exact (pg_name (i := 1) sc_law_bytes.nd rfl (by first | exact Or.inl rfl | exact Or.inr rfl))) (fun _ _ _ _ _ => by exact (pts_one (pt_not (pt_val (pe_callB call_isi (by rfl) T.g_isinstance (by decide +kernel) (pa_cons (pv 1) (pa_cons (pe_bltn (v := .ty "tuple") rfl T.g_tuple (by decide +kernel) rfl) pa_nil))))))) (fun _ _ _ _ _ => by exact (pv 1))) pa_nil)))), ?_⟩
  obtain ⟨p, vs, xs, rfl, hp, hi, hl, k⟩ := h
  have hlen := hi.1
  wtm_at "r"
  refine lc_filtN (xs := vs) (byF vs xs) rfl (Or.inl (Or.inl hp)) (by omega) (fun E2 i x H' R N hE hx hacc F kR kN => ?_) fun E2 H2 hE hacc F => ?_
  · have hi2 : i < vs.length := (List.getElem?_eq_some_iff.mp hx).1
    have ex : xs[i]? = some xs[i] := List.getElem?_eq_getElem (by omega)
    have hv := (hi.2 i x _ hx ex).fp F NoT.nil
    refine ⟨rfl, ?_⟩
    wtm_at "r"
    cases hb : xs[i] with
    | b z =>
      rw [hb] at hv ex
      obtain rfl : x = .int z := hv
      wtm_at "r"
      refine iteT ?_
      wtm_at "r"
      exact kR _ _ (by unfold byF; rw [ex, Option.elim, if_pos (show isB (It.b z) = true from rfl), hx]) (Fp.refl _ _)
    | m n =>
      rw [hb] at hv ex
      obtain ⟨t, rfl, g⟩ := hv
      wtm_at "r"
      refine iteF ?_
      exact kN (by unfold byF; rw [ex, Option.elim, if_neg (show ¬ isB (It.m n) = true from Bool.false_ne_true)]) _ (Fp.refl _ _)
  · wtm_at "r"
    rw [byF_len hlen]
    exact k _ F
theorem okH_law_bytes (T : Txt P w K mg base a) : L2H.FnH P w K mg base (L2.CX P w) 1 a.f_law_bytes a.fd_law_bytes ["items"] (sp_law_bytes K a) := by
  refine Hx.okH T.F_law_bytes sc_law_bytes (fun vs H Q E h => A1.len h) (fun cdv A outer s H vs Q E hp hot hr h => ?_)
  have hu : (A.deeper (PyProof.Rows.envOfC (Str.ofString "_law_bytes") (defScope s_law_bytes) s.heap.objs.size a.f_law_bytes cdv)).units + 1 < cLine := by have := hr.un; omega
  obtain ⟨v_items, rfl, h⟩ := h
  refine ⟨_, (pss_one (ps_ret (pe_callB call_ln (by rfl) T.g_len (by decide +kernel) (pa_cons (Hx.pe_lcH (own := [("item", 1)]) (g := (gName 1)) (tt := (tNot (tB (tCB (rIsi K) (tCons (tVar 1) (tCons (tC (.ty "tuple")) tNil)))))) (te := (tVar 1)) ⟨hp, hot, List.mem_singleton.mpr rfl⟩ sc_law_bytes.nd (pv 0) (blkOk_by (N := ["items", "item"]) (sc := defScope s_law_bytes) (own := [("item", 1)]) (by decide +kernel)) (fun _ _ _ _ _ => by exact (pg_name (i := 1) sc_law_bytes.nd rfl (by first | exact Or.inl rfl | exact Or.inr rfl))) (fun _ _ _ _ _ => by exact (pts_one (pt_not (pt_val (pe_callB call_isi (by rfl) T.g_isinstance (by decide +kernel) (pa_cons (pv 1) (pa_cons (pe_bltn (v := .ty "tuple") rfl T.g_tuple (by decide +kernel) rfl) pa_nil))))))) (fun _ _ _ _ _ => by exact (pv 1))) pa_nil)))), ?_⟩
  obtain ⟨p, vs, xs, rfl, hp, hi, hl, k⟩ := h
  have hlen := hi.1
  wtm_at "r"
  refine lc_filtN (xs := vs) (byF vs xs) rfl (Or.inl (Or.inl hp)) (by omega) (fun E2 i x H' R N hE hx hacc F kR kN => ?_) fun E2 H2 hE hacc F => ?_
  · have hi2 : i < vs.length := (List.getElem?_eq_some_iff.mp hx).1
    have ex : xs[i]? = some xs[i] := List.getElem?_eq_getElem (by omega)
    have hv := (hi.2 i x _ hx ex).fp F NoT.nil
    refine ⟨rfl, ?_⟩
    wtm_at "r"
    cases hb : xs[i] with
    | b z =>
      rw [hb] at hv ex
      obtain rfl : x = .int z := hv
      wtm_at "r"
      refine iteT ?_
      wtm_at "r"
      exact kR _ _ (by unfold byF; rw [ex, Option.elim, if_pos (show isB (It.b z) = true from rfl), hx]) (Fp.refl _ _)
    | m n =>
      rw [hb] at hv ex
      obtain ⟨t, rfl, g⟩ := hv
      wtm_at "r"
      refine iteF ?_
      exact kN (by unfold byF; rw [ex, Option.elim, if_neg (show ¬ isB (It.m n) = true from Bool.false_ne_true)]) _ (Fp.refl _ _)
  · wtm_at "r"
    rw [byF_len hlen]
    exact k _ F
theorem ok_law_append (T : Txt P w K mg base a) : FnOk P w K mg base (L2.CX P w) 1 a.f_law_append a.fd_law_append ["rows", "items"] (sp_law_append K a) := by
  refine T.F_law_append.okX sc_law_append (fun vs H Q E h => A2.len h) (fun cdv A outer s H vs Q E hr h => ?_)
  have hu := hu_of hr
  obtain ⟨v_rows, v_items, rfl, h⟩ := h
  refine ⟨_, (pss_cons (ps_set (i := 0) sc_law_append.nd rfl (by first | exact Or.inl rfl | exact Or.inr rfl) (pe_callTy call_ls (by rfl) T.g_list (by decide +kernel) (pa_cons (pv 0) pa_nil)))
    (pss_cons (ps_for (passes_of rfl) rfl (pi_list (pv 1)) (pg_name (i := 2) sc_law_append.nd rfl (by first | exact Or.inl rfl | exact Or.inr rfl)) (pss_one (ps_if (pt_up (PW.pt (pw_and (pt_val (pe_callB call_isi (by rfl) T.g_isinstance (by decide +kernel) (pa_cons (pv 2) (pa_cons (pe_bltn (v := .ty "tuple") rfl T.g_tuple (by decide +kernel) rfl) pa_nil)))) (pw_and (pt_cmpR op_gt (pe_callB call_ln (by rfl) T.g_len (by decide +kernel) (pa_cons (pv 0) pa_nil)) pe_int (nomark _)) (pw_and1 (pt_val (pe_callB call_isi (by rfl) T.g_isinstance (by decide +kernel) (pa_cons (pe_ix ix_list (pv 0) (pe_op op_sub (pe_callB call_ln (by rfl) T.g_len (by decide +kernel) (pa_cons (pv 0) pa_nil)) pe_int) (fun _ _ => rfl)) (pa_cons (pe_bltn (v := .ty "tuple") rfl T.g_tuple (by decide +kernel) rfl) pa_nil))))))))) (pss_one (ps_asg (pe_tup (pa_cons pe_str (pa_cons (pe_op op_add (pe_ix ix_tup (pe_ix ix_list (pv 0) (pe_op op_sub (pe_callB call_ln (by rfl) T.g_len (by decide +kernel) (pa_cons (pv 0) pa_nil)) pe_int) (fun _ _ => rfl)) pe_int (fun _ _ => rfl)) (pe_ix ix_tup (pv 2) pe_int (fun _ _ => rfl))) pa_nil))) (pg_sub (pv 0) (pe_op op_sub (pe_callB call_ln (by rfl) T.g_len (by decide +kernel) (pa_cons (pv 0) pa_nil)) pe_int) set_list))) (pss_one (ps_expr (pe_bm PySem.F.plainAttrs_list PySem.F.slot_list_append PySem.F.type_list_append mt_append (pv 0) (pa_cons (pv 2) pa_nil)))))))
    (pss_one (ps_ret (pv 0))))), ?_⟩
  obtain ⟨ra, qa, vs, us, xs, ys, L, R, rfl, rfl, hs, se, hl, k⟩ := h
  have hs := hs.sels se
  simp only [List.cons_append, List.nil_append] at hs
  have hi := itsA.U (vs := vs) (xs := xs) hs (by wtm_at "sel")
  wtm_at "x"
  have hs := itsA.I hs (itsA.U (vs := vs) (xs := xs) hs (by wtm_at "sel"))
  wtm_at "nm"
  refine k_forL (fun i σ H' => ∃ (u : Option V) (ws : List V) (l : Addr), σ = [some (.ref l), some (.ref qa), u] ∧ Sl.St (cell l (.lst ws) :: itsA ws (appI xs (ys.take i)) :: cell ra (.lst vs) :: itsA vs xs :: cell qa (.lst us) :: itsA us ys :: R) H') (by wtm_at "sg") ⟨_, vs, _, rfl, show Sl.St (cell _ (.lst vs) :: itsA vs xs :: cell ra (.lst vs) :: itsA vs xs :: cell qa (.lst us) :: itsA us ys :: R) _ from hs.perm (by wtm_at "sels")⟩ (fun i σ H' _ ⟨_, _, _, _, hs⟩ => by wtm_at "sg") ?_ ?_
  · clear hs
    rintro i v σ H3 hv ⟨u, ws, l, rfl, hs⟩
    have hi := itsA.U (vs := us) (xs := ys) hs (by wtm_at "sel")
    have hw := itsA.U (vs := ws) (xs := appI xs (ys.take i)) hs (by wtm_at "sel")
    have hlt : i < ys.length := by rw [← hi.1]; exact (List.getElem?_eq_some_iff.mp hv).1
    have hy := List.getElem?_eq_getElem hlt
    have iv := hi.2 i v _ hv hy
    have ea := appI_take (xs := xs) hy
    have hal := appI_len xs (ys.take i)
    have hwl := hw.1
    rw [List.length_take] at hal
    generalize ys[i] = y at iv ea
    generalize appI xs (ys.take i) = zs at *
    have hs := itA.I hs iv
    have plain : app1 zs y = zs ++ [y] → ∀ H', Sl.St (cell l (.lst (ws ++ [v])) :: itA v y :: itsA ws zs :: cell ra (.lst vs) :: itsA vs xs :: cell qa (.lst us) :: itsA us ys :: R) H' → Sl.St (cell l (.lst (ws ++ [v])) :: itsA (ws ++ [v]) (appI xs (ys.take (i + 1))) :: cell ra (.lst vs) :: itsA vs xs :: cell qa (.lst us) :: itsA us ys :: R) H' := fun e H' hs => by
      rw [ea, e]
      have hs := itsA.I hs ((itsA.U (vs := ws) (xs := zs) hs (by wtm_at "sel")).app (itA.U (v := v) (x := y) hs (by wtm_at "sel")))
      exact hs.perm (by wtm_at "sels")
    wtm_at "x"
    refine t_up0 ?_
    cases y with
    | b z =>
      obtain rfl : v = .int z := iv
      wtm_at "x"
      refine iteF ?_
      refine iteF ?_
      wtm_at "x"
      exact ⟨_, _, _, rfl, plain rfl _ (hs.perm (by wtm_at "sels"))⟩
    | m m =>
      obtain ⟨t, rfl, g⟩ := iv
      have hs := hs.iadd g trivial
      wtm_at "x"
      refine iteT ?_
      wtm_at "x"
      rcases snoc_cases zs with rfl | ⟨S, y, rfl⟩
      · obtain rfl : ws = [] := List.eq_nil_of_length_eq_zero hwl
        refine if_dF (by simp) ?_
        refine iteF ?_
        wtm_at "x"
        exact ⟨_, _, _, rfl, plain (app1_nil _) _ (hs.perm (by wtm_at "sels"))⟩
      · obtain ⟨ws, u, rfl, hws, hu⟩ := hw.snoc
        have e1 : ((ws ++ [u]).length : Int) - 1 = ((ws.length : Nat) : Int) := by simp
        refine if_dT (by simp <;> omega) ?_
        wtm_at "x"
        rw [e1]
        refine o_ixL (by wtm_at "sg") (atI_nat List.getElem?_concat_length) ?_
        cases y with
        | b z =>
          obtain rfl : u = .int z := hu
          wtm_at "x"
          refine iteF ?_
          wtm_at "x"
          exact ⟨_, _, _, rfl, plain (app1_bm _ _ _) _ (hs.perm (by wtm_at "sels"))⟩
        | m n =>
          obtain ⟨t2, rfl, g2⟩ := hu
          have hs := hs.iadd g2 trivial
          wtm_at "x"
          refine iteT ?_
          wtm_at "x"
          rw [e1]
          refine o_ixL (by wtm_at "sg") (atI_nat List.getElem?_concat_length) ?_
          wtm_at "x"
          rename_i t3 H3'
          rw [e1]
          refine c_setLS (j := ws.length) hs (by wtm_at "sel") rfl (by simp) fun H2 hs => ?_
          rw [List.set_append_right _ _ (Nat.le_refl _), Nat.sub_self] at hs
          simp only [List.set_cons_zero] at hs
          wtm_at "x"
          refine ⟨_, ws ++ [.ref t3], _, rfl, ?_⟩
          rw [ea, app1_mm]
          have hw := itsA.U (vs := ws ++ [.ref t2]) (xs := S ++ [.m n]) hs (by wtm_at "sel")
          obtain ⟨ws', u', e, hw', _⟩ := hw.snoc
          obtain ⟨rfl, _⟩ := List.append_inj' e rfl
          have hs := itsA.I hs (hw'.app (x := .m (n + m)) ⟨_, rfl, hs.geti (by wtm_at "sel")⟩)
          exact hs.perm (by wtm_at "sels")
  · rintro σ H3 ⟨u, ws, l, rfl, hs⟩
    have hi := itsA.U (vs := us) (xs := ys) hs (by wtm_at "sel")
    rw [hi.1, List.take_length] at hs
    wtm_at "x"
    exact k _ _ _ (hs.perm (by wtm_at "sels"))
theorem ok_law_items (T : Txt P w K mg base a) : FnOk P w K mg base (L2.CX P w) 3 a.f_law_items a.fd_law_items ["state"] (sp_law_items K a) := by
  have G_law_pick := ok_law_pick T
  have G_law_draw := ok_law_draw T
  refine T.F_law_items.okX sc_law_items (fun vs H Q E h => A1.len h) (fun cdv A outer s H vs Q E hr h => ?_)
  have hu := hu_of hr
  obtain ⟨v_state, rfl, h⟩ := h
  refine ⟨_, (pss_cons (ps_set (i := 1) sc_law_items.nd rfl (by first | exact Or.inl rfl | exact Or.inr rfl) (pe_lst pa_nil))
    (pss_cons (ps_for (passes_of rfl) rfl (pi_range1 rfl T.g_range (pa_cons (pe_callS G_law_pick (hr.mono (by decide)) rfl T.g_law_pick T.F_law_pick.kp T.b_law_pick (fun σ => passAt (takes_of rfl rfl rfl rfl) σ) (pa_cons (pv 0) (pa_cons (pe_lst (pa_cons pe_int (pa_cons pe_int (pa_cons pe_int (pa_cons pe_int (pa_cons (pe_callS G_law_draw (hr.mono (by decide)) rfl T.g_law_draw T.F_law_draw.kp T.b_law_draw (fun σ => passAt (takes_of rfl rfl rfl rfl) σ) (pa_cons (pv 0) (pa_cons pe_int pa_nil))) pa_nil)))))) pa_nil))) pa_nil)) (pg_name (i := 2) sc_law_items.nd rfl (by first | exact Or.inl rfl | exact Or.inr rfl)) (pss_one (ps_if (pt_cmpR op_eq (pe_callS G_law_draw (hr.mono (by decide)) rfl T.g_law_draw T.F_law_draw.kp T.b_law_draw (fun σ => passAt (takes_of rfl rfl rfl rfl) σ) (pa_cons (pv 0) (pa_cons pe_int pa_nil))) pe_int (nomark _)) (pss_one (ps_expr (pe_bm PySem.F.plainAttrs_list PySem.F.slot_list_append PySem.F.type_list_append mt_append (pv 1) (pa_cons (pe_tup (pa_cons pe_str (pa_cons (pe_op op_add pe_int (pe_callS G_law_pick (hr.mono (by decide)) rfl T.g_law_pick T.F_law_pick.kp T.b_law_pick (fun σ => passAt (takes_of rfl rfl rfl rfl) σ) (pa_cons (pv 0) (pa_cons (pe_lst (pa_cons pe_int (pa_cons pe_int (pa_cons (pe_callS G_law_draw (hr.mono (by decide)) rfl T.g_law_draw T.F_law_draw.kp T.b_law_draw (fun σ => passAt (takes_of rfl rfl rfl rfl) σ) (pa_cons (pv 0) (pa_cons pe_int pa_nil))) pa_nil)))) pa_nil)))) pa_nil))) pa_nil)))) (pss_one (ps_expr (pe_bm PySem.F.plainAttrs_list PySem.F.slot_list_append PySem.F.type_list_append mt_append (pv 1) (pa_cons (pe_callS G_law_draw (hr.mono (by decide)) rfl T.g_law_draw T.F_law_draw.kp T.b_law_draw (fun σ => passAt (takes_of rfl rfl rfl rfl) σ) (pa_cons (pv 0) (pa_cons pe_int pa_nil))) pa_nil)))))))
    (pss_one (ps_ret (pv 1))))), ?_⟩
  obtain ⟨st, L, R, rfl, hs, se, k⟩ := h
  have hs := hs.sel se
  wtm_at "x"
  refine c_draw hs (by wtm_at "sel") (by omega) (by omega) fun r1 H1 ra1 rb1 hs => ?_
  wtm_at "x"
  refine c_pick [0, 1, 2, 3, r1] hs (by wtm_at "sel") (by wtm_at "sel") (by rfl) (by simp) (by simp) fun m1 H3 hm1 hs => ?_
  have hm1 : 0 ≤ m1 ∧ m1 ≤ 20 := by simp at hm1; omega
  wtm_at "nm"
  refine k_rng (fun i σ H' => ∃ (q : Addr) (u : Option V) (vs : List V) (ys : List It), σ = [some (.ref st), some (.ref q), u] ∧ (∀ y ∈ ys, ItG y) ∧ ys.length = i ∧ Sl.St (cell q (.lst vs) :: itsA vs ys :: StA st :: R) H') (by omega) (by omega) ⟨_, _, [], [], rfl, by simp, rfl, (itsA.I hs Its.nil).perm (by wtm_at "sels")⟩ ?_ ?_
  · clear hs
    rintro i σ H4 hi ⟨q, u, vs, ys, rfl, hg, hl, hs⟩
    have hv := itsA.U (vs := vs) (xs := ys) hs (by wtm_at "sel")
    have hvl := hv.1
    wtm_at "x"
    refine c_draw hs (by wtm_at "sel") (by omega) (by omega) fun r2 H5 ra2 rb2 hs => ?_
    wtm_at "x"
    refine if_d (fun c => ?_) (fun c => ?_)
    · wtm_at "x"
      refine c_draw hs (by wtm_at "sel") (by omega) (by omega) fun r3 H6 ra3 rb3 hs => ?_
      wtm_at "x"
      refine c_pick [0, 1, r3] hs (by wtm_at "sel") (by wtm_at "sel") (by rfl) (by simp) (by simp) fun m2 H7 hm2 hs => ?_
      have hm2 : 0 ≤ m2 ∧ m2 ≤ 100000 := by simp at hm2; omega
      wtm_at "x"
      have hv := itsA.U (vs := vs) (xs := ys) hs (by wtm_at "sel")
      have hs := itsA.I hs (hv.app (x := .m (1 + m2)) ⟨_, rfl, hs.geti (by wtm_at "sel")⟩)
      refine ⟨_, _, _, ys ++ [.m (1 + m2)], rfl, fun y hy => ?_, by simp [hl], hs.perm (by wtm_at "sels")⟩
      rcases List.mem_append.mp hy with hy | hy
      · exact hg y hy
      · rw [List.mem_singleton.mp hy]; exact ⟨by omega, by omega⟩
    · wtm_at "x"
      refine c_draw hs (by wtm_at "sel") (by omega) (by omega) fun r3 H6 ra3 rb3 hs => ?_
      wtm_at "x"
      have hv := itsA.U (vs := vs) (xs := ys) hs (by wtm_at "sel")
      have hs := itsA.I hs (hv.app (x := .b r3) rfl)
      refine ⟨_, _, _, ys ++ [.b r3], rfl, fun y hy => ?_, by simp [hl], hs.perm (by wtm_at "sels")⟩
      rcases List.mem_append.mp hy with hy | hy
      · exact hg y hy
      · rw [List.mem_singleton.mp hy]; exact ⟨ra3, rb3⟩
  · rintro σ H3 ⟨q, u, vs, ys, rfl, hg, hl, hs⟩
    wtm_at "x"
    exact k _ _ ys _ hg (by omega) hs
end
end My
set_option Elab.async false
set_option maxRecDepth 100000
set_option maxHeartbeats 100000000
set_option linter.all false
set_option synthInstance.maxSize 100000
set_option synthInstance.maxHeartbeats 0
namespace My
open PySem L2 Sx Rd Sl
local macro_rules | `(tactic| wtm_at "ne") => `(tactic| (first | with_reducible assumption | with_reducible exact Ne.symm (by with_reducible assumption)))
local macro_rules | `(tactic| wtm_at "nin") => `(tactic| (simp only [List.mem_cons, List.not_mem_nil, or_false, not_or, not_false_eq_true]; (repeat' refine And.intro ?_ ?_); (all_goals wtm_at "ne")))
local macro_rules | `(tactic| wtm_at "hl") => `(tactic| (first | (with_reducible assumption) | exact upd_same | ((with_reducible refine' (upd_ne ?hne).trans ?hgo); (case hne => wtm_at "ne"); (case hgo => wtm_at "hl"))))
local macro_rules | `(tactic| wtm_at "sq") => `(tactic| (first | (with_reducible assumption) | exact Or.inl (Or.inl (by wtm_at "hl"))))
local macro_rules | `(tactic| wtm_at "ar") => `(tactic| (first | omega | exact ⟨by omega, by omega⟩ | exact Or.inl ⟨by omega, by omega⟩ | exact Or.inr ⟨by omega, by omega⟩ | (show (0 : Int) < _; omega) | (show (0 : Int) < _ ∧ _ < (1073741824 : Int); omega)))
local macro_rules | `(tactic| wtm_at "cls") => `(tactic| (first | exact Txt.cl_ReadStream (by assumption)))
local macro_rules | `(tactic| wtm_at "noa") => do let T := Lean.mkIdent `T; `(tactic| (first | exact Sl.Noa.no $T | exact Sl.Noa.no (φ := Txt _ _ _ _ _ _) (by assumption)))
local macro_rules | `(tactic| wtm_at "lkp") => `(tactic| (first | with_reducible exact Sl.Lkp.h))
local macro_rules | `(tactic| wtm_at "ptf") => `(tactic| (first | with_reducible exact Sl.Ptf.h | exact rfl))
local macro_rules | `(tactic| wtm_at "lnF") => `(tactic| (first | with_reducible exact Sl.LnF.h | (refine PL.lt (n := 60) ?_ (by decide); (repeat refine PL.put ?_); exact PL.nil) | (simp only [List.length_cons, List.length_nil]; decide) | decide))
local macro_rules | `(tactic| wtm_at "nol") => `(tactic| (first | with_reducible exact Sl.NoL.h))
local macro_rules | `(tactic| wtm_at "kdl") => `(tactic| (first | fail))
local macro_rules | `(tactic| wtm_at "kdp") => `(tactic| (first | fail))
local macro_rules | `(tactic| wtm_at "kdn") => `(tactic| (first | fail))
local macro_rules | `(tactic| wtm_at "kdd") => do let h := Lean.mkIdent `hs; `(tactic| (first | fail))
local macro_rules | `(tactic| wtm_at "r_1") => `(tactic| (first
  | ((with_reducible refine' k_meth ?h1 ?h2 ?_); (case h1 => wtm_at "hl"); (case h2 => wtm_at "nol"))
  | ((with_reducible refine' k_fld ?h1 ?h2 ?h3 ?h4 ?_); (case h1 => wtm_at "hl"); (case h2 => wtm_at "cls"); (case h3 => wtm_at "noa"); (case h4 => wtm_at "lkp"))))
local macro_rules | `(tactic| wtm_at "r_2") => `(tactic| (
  (with_reducible refine' k_set ?h1 ?h2 ?h3 ?h4 ?h5 ?_); (case h1 => wtm_at "hl"); (case h2 => wtm_at "cls"); (case h3 => wtm_at "noa"); (case h4 => wtm_at "ptf"); (case h5 => wtm_at "lnF")))
local macro_rules | `(tactic| wtm_at "r_3") => `(tactic| (first
  | ((with_reducible refine' o_eq ?hs ?_); (case hs => exact rfl)) | ((with_reducible refine' o_ne ?hs ?_); (case hs => exact rfl)) | ((with_reducible refine' o_I ?hc ?_); (case hc => wtm_at "ar"))))
local macro_rules | `(tactic| wtm_at "r_4") => `(tactic| (first
  | ((with_reducible refine' c_ln ?h1 ?_); (case h1 => wtm_at "sq")) | ((with_reducible refine' o_ixL ?h1 ?h2 ?_); (case h1 => wtm_at "sq"); (case h2 => first | exact rfl | exact atI_zero _ _))
  | ((with_reducible refine' k_ty ?h1 ?_); (case h1 => wtm_at "sq")) | ((with_reducible refine' k_truL ?h1 ?_); (case h1 => wtm_at "sq"))))
local macro_rules | `(tactic| wtm_at "r_5") => `(tactic| (first
  | ((with_reducible refine' c_pop0 ?h1 ?h2 ?_); (case h1 => wtm_at "hl"); (case h2 => omega)) | ((with_reducible refine' o_slL ?h1 ?_); (case h1 => wtm_at "sq"))))
local macro_rules | `(tactic| wtm_at "r_6") => `(tactic| (first
  | ((with_reducible refine' c_isList ?h1 ?_); (case h1 => wtm_at "hl")) | ((with_reducible refine' c_isTup ?h1 ?_); (case h1 => wtm_at "hl")) | ((with_reducible refine' c_isTupB ?h1 ?_); (case h1 => wtm_at "hl"))
  | ((with_reducible refine' s_augV ?hv ?_); (case hv => exact rfl)) | ((with_reducible refine' k_xf ?h1 ?h2 ?_); (case h1 => wtm_at "hl"); (case h2 => exact look_hit _ _ _)) | ((with_reducible refine' k_dget ?h1 ?h2 ?_); (case h1 => wtm_at "hl"); (case h2 => with_reducible assumption))))
local macro_rules | `(tactic| wtm_at "r") => `(tactic| (repeat (first
  | with_reducible refine' Sl.Wr ?_ | ((with_reducible apply e_var); (case h => exact rfl))
  | ((with_reducible refine' Sl.cn 1 ?_); wtm_at "r_1") | ((with_reducible refine' Sl.cn 3 ?_); wtm_at "r_3") | ((with_reducible refine' Sl.cn 2 ?_); wtm_at "r_2")
  | ((with_reducible refine' Sl.cn 4 ?_); wtm_at "r_4") | ((with_reducible refine' Sl.cn 5 ?_); wtm_at "r_5") | ((with_reducible refine' Sl.cn 6 ?_); wtm_at "r_6")
  | with_reducible refine d_nx ?_ | with_reducible refine d_rt ?_ | with_reducible refine d_bk ?_ | with_reducible refine d_ct ?_)))
local macro_rules | `(tactic| wtm_at "nm") => `(tactic| (simp only [L2.start, List.length_cons, List.length_nil, List.map_cons, List.map_nil, List.set_cons_succ, List.set_cons_zero, List.replicate_succ, List.replicate_zero, List.cons_append, List.nil_append, Nat.add_sub_cancel]))
local macro_rules | `(tactic| wtm_at "sel") => `(tactic| (first | with_reducible exact Sl.SelT.s | with_reducible exact Sl.Sel.here | ((with_reducible refine' Sl.Sel.there ?t); (case t => wtm_at "sel_"))))
local macro_rules | `(tactic| wtm_at "sel_") => `(tactic| (first | with_reducible exact Sl.Sel.here | ((with_reducible refine' Sl.Sel.there ?t); (case t => wtm_at "sel_"))))
local macro_rules | `(tactic| wtm_at "selt") => `(tactic| (first | with_reducible exact Sl.Sels.all _ | ((with_reducible refine' Sl.Sels.skip ?t); (case t => wtm_at "selt"))))
local macro_rules | `(tactic| wtm_at "sels") => `(tactic| (first | with_reducible exact Sl.SelsT.s | with_reducible exact Sl.Sels.nil | ((with_reducible refine' Sl.Sels.cons ?a ?b); (case a => wtm_at "sel"); (case b => wtm_at "sels")) | wtm_at "selt"))
local macro_rules | `(tactic| wtm_at "selm") => `(tactic| ((try (simp only [])); (try simp only [List.map_append, List.map_cons, List.map_nil]); wtm_at "sels"))
local macro_rules | `(tactic| wtm_at "hg") => do
  let h := Lean.mkIdent `hs
  `(tactic| (first | (with_reducible assumption) | (with_reducible exact Sl.GetC.h $h) | ((with_reducible refine' Sl.St.get $h ?s); (case s => wtm_at "sel")) | ((with_reducible refine' Sl.St.geti $h ?s); (case s => wtm_at "sel"))))
local macro_rules | `(tactic| wtm_at "sg") => do
  let h := Lean.mkIdent `hs
  `(tactic| (first | (with_reducible assumption) | (with_reducible exact Sl.SqC.h $h) | (with_reducible exact Sl.SqTC.h $h) | exact Or.inl (Or.inl (by wtm_at "hg")) | (refine' Sl.sqA.U $h ?s; (case s => wtm_at "sel"))))
local macro_rules | `(tactic| wtm_at "le5") => `(tactic| (first | omega | (simp only [List.length_cons, List.length_nil, List.length_append, List.length_map]; omega) | (show _ ≤ _; decide) | (show _ < _; decide)))
local macro_rules | `(tactic| wtm_at "km") => `(tactic| fail)
local macro_rules | `(tactic| wtm_at "kf") => `(tactic| fail)
local macro_rules | `(tactic| wtm_at "x_1") => `(tactic| (first
  | ((with_reducible refine' k_meth ?h1 ?h2 ?_); (case h1 => wtm_at "hg"); (case h2 => wtm_at "nol")) | wtm_at "km"
  | ((with_reducible refine' k_fld ?h1 ?h2 ?h3 ?h4 ?_); (case h1 => wtm_at "hg"); (case h2 => wtm_at "cls"); (case h3 => wtm_at "noa"); (case h4 => wtm_at "lkp")) | wtm_at "kf"))
local macro_rules | `(tactic| wtm_at "x_2") => do
  let h := Lean.mkIdent `hs
  let T := Lean.mkIdent `T
  `(tactic| (first
  | ((with_reducible refine' Sl.k_newL $h ?h1 ?_); (case h1 => wtm_at "le5"); (clear $h; intro _ _ $h)) | ((with_reducible refine' Sl.k_newT $h ?h1 ?_); (case h1 => wtm_at "le5"); (clear $h; intro _ _ $h))
  | ((with_reducible refine' Sl.k_make $h ?_); (clear $h; intro _ _ _ $h)) | ((with_reducible refine' Sl.k_setC $T $h ?_); (clear $h; intro _ $h))
  | ((with_reducible refine' Sl.k_setS $h ?h1 ?h2 ?h3 ?h4 ?h5 ?_); (case h1 => wtm_at "sel"); (case h2 => wtm_at "cls"); (case h3 => wtm_at "noa"); (case h4 => wtm_at "ptf"); (case h5 => wtm_at "lnF"); (clear $h; intro _ $h))))
local macro_rules | `(tactic| wtm_at "x_3") => `(tactic| (first
  | ((with_reducible refine' o_eq ?hs ?_); (case hs => exact rfl)) | ((with_reducible refine' o_ne ?hs ?_); (case hs => exact rfl)) | ((with_reducible refine' o_I ?hc ?_); (case hc => wtm_at "ar"))))
local macro_rules | `(tactic| wtm_at "x_4") => `(tactic| (first
  | ((with_reducible refine' o_ixL ?h1 ?h2 ?_); (case h1 => wtm_at "sg"); (case h2 => first | exact rfl | exact atI_zero _ _)) | ((with_reducible refine' o_ixT ?h1 ?h2 ?_); (case h1 => wtm_at "sg"); (case h2 => first | exact rfl | exact atI_zero _ _))
  | ((with_reducible refine' c_ln ?h1 ?_); (case h1 => wtm_at "sg")) | ((with_reducible refine' c_lnT ?h1 ?_); (case h1 => wtm_at "sg")) | ((with_reducible refine' k_truL ?h1 ?_); (case h1 => wtm_at "sg"))
  | ((with_reducible refine' k_ty ?h1 ?_); (case h1 => wtm_at "sg")) | ((with_reducible refine' g_tup ?h1 ?h2 ?_); (case h1 => wtm_at "sg"); (case h2 => exact rfl))))
local macro_rules | `(tactic| wtm_at "x_5") => do
  let h := Lean.mkIdent `hs
  `(tactic| (first
  | ((with_reducible refine' Sl.c_appS $h ?h1 ?h2 ?_); (case h1 => wtm_at "sel"); (case h2 => wtm_at "le5"); (clear $h; intro _ $h)) | ((with_reducible refine' Sl.c_pop0S $h ?h1 ?h2 ?_); (case h1 => wtm_at "sel"); (case h2 => wtm_at "le5"); (clear $h; intro _ $h))
  | ((with_reducible refine' Sl.c_lsS $h ?h1 ?_); (case h1 => wtm_at "sg"); (clear $h; intro _ _ $h)) | ((with_reducible refine' Sl.o_slLS $h ?h1 ?_); (case h1 => wtm_at "sg"); (clear $h; intro _ _ $h)) | ((with_reducible refine' Sl.c_clrS $h ?h1 ?_); (case h1 => wtm_at "sel"); (clear $h; intro _ $h))
  | ((with_reducible refine' Sl.o_catS $h ?h1 ?h2 ?h3 ?_); (case h1 => wtm_at "hg"); (case h2 => wtm_at "hg"); (case h3 => wtm_at "le5"); (clear $h; intro _ _ $h)) | ((with_reducible refine' Sl.c_extS $h ?h1 ?h2 ?h3 ?_); (case h1 => wtm_at "sel"); (case h2 => wtm_at "hg"); (case h3 => wtm_at "le5"); (clear $h; intro _ $h))))
local macro_rules | `(tactic| wtm_at "x_6") => do
  let h := Lean.mkIdent `hs
  `(tactic| (first
  | ((with_reducible refine' Sl.k_raise $h ?h1 ?_); (case h1 => exact okV_int ⟨by omega, by omega⟩); (clear $h; intro _ _ $h))
  | ((with_reducible refine' c_isList ?h1 ?_); (case h1 => wtm_at "hg")) | ((with_reducible refine' c_isTup ?h1 ?_); (case h1 => wtm_at "hg")) | ((with_reducible refine' c_isTupB ?h1 ?_); (case h1 => wtm_at "hg"))
  | ((with_reducible refine' s_augV ?hv ?_); (case hv => exact rfl))
  | ((with_reducible refine' k_xf ?h1 ?h2 ?_); (case h1 => wtm_at "hg"); (case h2 => exact look_hit _ _ _)) | ((with_reducible refine' k_dget ?h1 ?h2 ?_); (case h1 => wtm_at "hg"); (case h2 => first | with_reducible assumption | wtm_at "kdl"))
  | ((with_reducible refine' Sl.e_disp $h ?_); (clear $h; intro _ _ $h)) | ((wtm_at "kdd"); (case s => wtm_at "sel"); (clear $h; intro _ $h))
  | ((with_reducible refine' Sl.k_dputS $h ?h1 ?h2 ?h3 ?_); (case h1 => wtm_at "sel"); (case h2 => wtm_at "kdn"); (case h3 => wtm_at "kdp"); (clear $h; intro _ $h))))
local macro_rules | `(tactic| wtm_at "x") => do
  let h := Lean.mkIdent `hs
  let T := Lean.mkIdent `T
  `(tactic| (repeat (first
  | with_reducible refine' Sl.Wk $T $h ?_ | with_reducible refine' Sl.Wj ?_ | ((with_reducible apply e_var); (case h => exact rfl))
  | ((with_reducible refine' Sl.cn 1 ?_); wtm_at "x_1") | ((with_reducible refine' Sl.cn 2 ?_); wtm_at "x_2") | ((with_reducible refine' Sl.cn 3 ?_); wtm_at "x_3")
  | ((with_reducible refine' Sl.cn 4 ?_); wtm_at "x_4") | ((with_reducible refine' Sl.cn 5 ?_); wtm_at "x_5") | ((with_reducible refine' Sl.cn 6 ?_); wtm_at "x_6")
  | with_reducible refine d_nx ?_ | with_reducible refine d_rt ?_ | with_reducible refine d_bk ?_ | with_reducible refine d_ct ?_)))
local macro_rules | `(tactic| wtm_at "km") => do let h := Lean.mkIdent `hs; `(tactic| ((with_reducible refine' km_Rs $h ?s ?m ?_); (case s => wtm_at "sel"); (case m => intros; wtm_at "nol")))
local macro_rules | `(tactic| wtm_at "kf") => do let h := Lean.mkIdent `hs; `(tactic| ((with_reducible refine' kf_Rs_room $h ?s ?c ?n ?_); (case s => wtm_at "sel"); (case c => wtm_at "cls"); (case n => wtm_at "noa")))
section
variable {P : Program} {w : World} {K : PySem.W.Frag} {mg : Str → Option Value} {base : Heap} {a : Ads}
theorem c_bytes {K : PySem.W.Frag} {L : List As} {H : Hp} {Q : VK} {E : XK} {q : Addr} {vs : List V} {xs : List It} (hs : Sl.St L H) (h : H q = some (.lst vs)) (hi : Its H vs xs) (hl : xs.length < 100000) (k : ∀ H', Sl.St L H' → Q (.int (bys xs)) H') : sp_law_bytes K a [.ref q] H Q E :=
  a1 ⟨q, vs, xs, rfl, h, hi, hl, fun H1 f => k H1 (hs.keepF f)⟩
theorem ok_law_appends (T : Txt P w K mg base a) : FnG P w K mg base (L2.CX P w) 5 a.f_law_appends a.fd_law_appends ["stream", "rows", "items", "room"] (sp_law_appends K a) := by
  have G_law_bytes := ok_law_bytes T
  have G_ReadStream_append := okN_ReadStream_append T
  have GH_law_bytes := okH_law_bytes T
  have G_law_append := ok_law_append T
  refine T.F_law_appends.okG sc_law_appends (fun vs H Q E h => A4.len h) (fun cdv A outer s H vs Q E hgd hr h => ?_)
  have hu := hu_of hr
  obtain ⟨v_stream, v_rows, v_items, v_room, rfl, h⟩ := h
  refine ⟨_, (pss_cons (ps_set (i := 4) sc_law_appends.nd rfl (by first | exact Or.inl rfl | exact Or.inr rfl) (pe_callB (call_repr hgd hr.units) (by rfl) T.g_repr (by decide +kernel) (pa_cons (pv 2) pa_nil)))
    (pss_cons (ps_set (i := 5) sc_law_appends.nd rfl (by first | exact Or.inl rfl | exact Or.inr rfl) (pe_cmpR op_le (pe_op op_add (pe_callS G_law_bytes (hr.mono (by decide)) rfl T.g_law_bytes T.F_law_bytes.kp T.b_law_bytes (fun σ => passAt (takes_of rfl rfl rfl rfl) σ) (pa_cons (pv 1) pa_nil)) (pe_callS G_law_bytes (hr.mono (by decide)) rfl T.g_law_bytes T.F_law_bytes.kp T.b_law_bytes (fun σ => passAt (takes_of rfl rfl rfl rfl) σ) (pa_cons (pv 2) pa_nil))) (pv 3) (nomark _)))
    (pss_cons (L2N.ps_try_as (i := 6) (tb := fun W1 => (tDrop (tMethS a.C_ReadStream "append" (sp_ReadStream_append K a) (WE W1) (tVar 0) (tCons (tVar 2) tNil)))) (ts := fun ae cls de => (tSeq (tIfS (tUpT (tOr (tB (tVar 5)) (tOr (tNot (tB (tCB (rIsED K a.C_StreamFull ae cls de) (tCons (tVar 6) (tCons (tC (.ref a.C_TickringsError)) tNil))))) (tOr (tTest (tOp rNe (tCB (rRepr K) (tCons (tVar 2) tNil)) (tVar 4))) (tTest (tOp rNe (tXf ae cls de a.C_StreamFull "space" (tVar 6)) (tOp (rI0 fun i j => .int (i - j)) (tVar 3) (tCallS (sp_law_bytes K a) (WE (fun _ _ _ _ => False)) (tCons (tVar 1) tNil))))))))) (tRet (tC .non)) tNext) (tRet (tVar 1)))) (Wout := (fun _ _ _ _ => False)) rfl rfl sc_law_appends.nd rfl rfl ⟨rfl, by decide, Or.inl T.e_StreamFull.g⟩ Hx.takesN
      (fun W1 pn xe tk1 po1 => by exact (pss_one (ps_expr (pe_methS (pv 0) T.cl_ReadStream T.m_ReadStream_append G_ReadStream_append (hr.mono (by decide)) T.b_ReadStream_append (fun σ => L2N.passAt tk1 σ) (pa_cons (pv 2) pa_nil)))))
      (fun ae oe cls de pn hz hf => by exact (pss_cons (ps_if (pt_up (PW.pt (pw_or (pt_val (pv 5)) (pw_or (pt_not (pt_val (pe_callB (call_isED T.e_StreamFull.isc hz.zc hf) (by rfl) T.g_isinstance (by decide +kernel) (pa_cons (pv 6) (pa_cons (pe_glob (v := .ref a.C_TickringsError) rfl T.g_TickringsError rfl) pa_nil))))) (pw_or (pt_cmpR op_ne (pe_callB (call_repr hgd hr.units) (by rfl) T.g_repr (by decide +kernel) (pa_cons (pv 2) pa_nil)) (pv 4) (nomark _)) (pw_or1 (pt_cmpR op_ne (pe_xf T.e_StreamFull.xf T.e_StreamFull.nof hz.zc hf (pv 6)) (pe_op op_sub (pv 3) (L2H.pe_callH GH_law_bytes (L2H.roomH_mark (hr.mono (j := 1) (by decide)) _) (Hx.hot_suite hz hf) rfl T.g_law_bytes T.F_law_bytes.kp T.b_law_bytes (fun σ => passNo) (pa_cons (pv 1) pa_nil))) (nomark _)))))))) (pss_one (ps_ret pe_non)) pss_nil)
    (pss_one (ps_ret (pv 1))))))
    (pss_cons (ps_if (PW.pt (pw_or (pt_not (pt_val (pv 5))) (pw_or1 (pt_cmpR op_ne (pe_callB (call_repr hgd hr.units) (by rfl) T.g_repr (by decide +kernel) (pa_cons (pv 2) pa_nil)) (pv 4) (nomark _))))) (pss_one (ps_ret pe_non)) pss_nil)
    (pss_cons (ps_set (i := 7) sc_law_appends.nd rfl (by first | exact Or.inl rfl | exact Or.inr rfl) (pe_callS G_law_append (hr.mono (by decide)) rfl T.g_law_append T.F_law_append.kp T.b_law_append (fun σ => passAt (takes_of rfl rfl rfl rfl) σ) (pa_cons (pv 1) (pa_cons (pv 2) pa_nil))))
    (pss_cons (ps_expr (pe_bm PySem.F.plainAttrs_list PySem.F.slot_list_append PySem.F.type_list_append mt_append (pv 2) (pa_cons pe_int pa_nil)))
    (pss_one (ps_ret (pv 7))))))))), ?_⟩
  obtain ⟨p, ra, qa, room, xs, ys, vs, us, L, R, rfl, rfl, rfl, rfl, hs, se, hx, hy, hg, r0, r1, k⟩ := h
  have hs := hs.sels se
  simp only [List.cons_append, List.nil_append] at hs
  wtm_at "x"
  refine rRepr_its (xs := ys) (by wtm_at "hg") (itsA.U (vs := us) (xs := ys) hs (by wtm_at "sel")) hg (by omega) ?_
  wtm_at "x"
  refine c_bytes hs (by wtm_at "hg") (itsA.U (vs := vs) (xs := xs) hs (by wtm_at "sel")) (by omega) fun H1 hs => ?_
  wtm_at "x"
  refine c_bytes hs (by wtm_at "hg") (itsA.U (vs := us) (xs := ys) hs (by wtm_at "sel")) (by omega) fun H2 hs => ?_
  wtm_at "x"
  refine a2 ⟨p, qa, room, xs, ys, us, _, _, rfl, rfl, hs, by wtm_at "sels", by omega, by omega, by omega, fun c d H3 hs => ?_, fun c H3 hs => ?_⟩
  · refine w_as T.e_StreamFull.exm fun ae hae => ?_
    wtm_at "x"
    refine t_up0 ?_
    wtm_at "x"
    refine if_dF (by omega) ?_
    wtm_at "x"
    refine c_isED (hs.geti (by wtm_at "sel")) T.is_StreamFull_TickringsError ?_
    wtm_at "x"
    refine iteF ?_
    wtm_at "x"
    refine rRepr_its (xs := ys) (by wtm_at "hg") (itsA.U (vs := us) (xs := ys) hs (by wtm_at "sel")) hg (by omega) ?_
    wtm_at "x"
    refine if_ndF rfl ?_
    wtm_at "x"
    refine c_bytes hs (by wtm_at "hg") (itsA.U (vs := vs) (xs := xs) hs (by wtm_at "sel")) (by omega) fun H4 hs => ?_
    wtm_at "x"
    refine if_ndF rfl ?_
    wtm_at "x"
    exact k xs _ _ _ (by omega) (hs.perm (by wtm_at "sels"))
  · wtm_at "x"
    refine if_ndF (by omega) ?_
    wtm_at "x"
    refine rRepr_its (xs := ys) (by wtm_at "hg") (itsA.U (vs := us) (xs := ys) hs (by wtm_at "sel")) hg (by omega) ?_
    wtm_at "x"
    refine if_ndF rfl ?_
    wtm_at "x"
    refine Rd.a2 ⟨ra, qa, vs, us, xs, ys, _, _, rfl, rfl, hs, by wtm_at "sels", by omega, fun l ws H5 hs => ?_⟩
    have hul := (itsA.U (vs := us) (xs := ys) hs (by wtm_at "sel")).1
    have hal := appI_len xs ys
    wtm_at "x"
    exact k (appI xs ys) _ _ _ (by omega) (hs.perm (by wtm_at "sels"))
theorem ok_law_split (T : Txt P w K mg base a) : FnOk P w K mg base (L2.CX P w) 1 a.f_law_split a.fd_law_split ["rows", "n"] (sp_law_split K a) := by
  refine T.F_law_split.okX sc_law_split (fun vs H Q E h => A2.len h) (fun cdv A outer s H vs Q E hr h => ?_)
  have hu := hu_of hr
  obtain ⟨v_rows, v_n, rfl, h⟩ := h
  refine ⟨_, (pss_cons (ps_set (i := 2) sc_law_split.nd rfl (by first | exact Or.inl rfl | exact Or.inr rfl) (pe_lst pa_nil))
    (pss_cons (ps_set (i := 3) sc_law_split.nd rfl (by first | exact Or.inl rfl | exact Or.inr rfl) pe_int)
    (pss_cons (ps_for (passes_of rfl) rfl (pi_list (pv 0)) (pg_name (i := 4) sc_law_split.nd rfl (by first | exact Or.inl rfl | exact Or.inr rfl)) (pss_cons (ps_if (pt_cmpR op_ge (pv 3) (pv 1) (nomark _)) (pss_one ps_break) pss_nil)
    (pss_cons (ps_expr (pe_bm PySem.F.plainAttrs_list PySem.F.slot_list_append PySem.F.type_list_append mt_append (pv 2) (pa_cons (pv 4) pa_nil)))
    (pss_one (ps_if (pt_not (pt_val (pe_callB call_isi (by rfl) T.g_isinstance (by decide +kernel) (pa_cons (pv 4) (pa_cons (pe_bltn (v := .ty "tuple") rfl T.g_tuple (by decide +kernel) rfl) pa_nil))))) (pss_one (ps_set (i := 3) sc_law_split.nd rfl (by first | exact Or.inl rfl | exact Or.inr rfl) (pe_op op_add (pv 3) pe_int))) pss_nil)))))
    (pss_one (ps_ret (pv 2)))))), ?_⟩
  obtain ⟨ra, n, vs, xs, L, R, rfl, rfl, hs, se, hl, k⟩ := h
  have hs := hs.sels se
  simp only [List.cons_append, List.nil_append] at hs
  have hi := itsA.U (vs := vs) (xs := xs) hs (by wtm_at "sel")
  have hlen := hi.1
  wtm_at "x"
  wtm_at "nm"
  refine k_forL (fun i σ H' => ∃ (tk : Addr) (u : Option V), σ = [some (.ref ra), some (.int n), some (.ref tk), some (.int (bys (xs.take i))), u] ∧ i ≤ xs.length ∧ (∀ j, j < i → (bys (xs.take j) : Int) < n) ∧
    Sl.St (cell tk (.lst (vs.take i)) :: cell ra (.lst vs) :: itsA vs xs :: R) H') (by wtm_at "sg") ⟨_, _, rfl, by omega, fun j h => by omega, show Sl.St (cell _ (.lst []) :: cell ra (.lst vs) :: itsA vs xs :: R) _ from hs.perm (by wtm_at "sels")⟩ (fun i σ H' _ ⟨_, _, _, _, _, hs⟩ => by wtm_at "sg") ?_ ?_
  · clear hs hi
    rintro i v σ H3 hv ⟨tk, u, rfl, hi1, hi2, hs⟩
    have hi := itsA.U (vs := vs) (xs := xs) hs (by wtm_at "sel")
    have hlt : i < xs.length := by rw [← hi.1]; exact (List.getElem?_eq_some_iff.mp hv).1
    have hx := List.getElem?_eq_getElem hlt
    have iv := hi.2 i v _ hv hx
    have et : vs.take (i + 1) = vs.take i ++ [v] := take_snoc hv
    have eb := bys_take hx
    have h2 : (vs.take i).length < 100000 := by rw [List.length_take]; omega
    wtm_at "x"
    refine if_d (fun c => ?_) (fun c => ?_)
    · wtm_at "x"
      exact k i _ _ ⟨hi1, hi2, .inr (by omega)⟩ (hs.perm (by wtm_at "sels"))
    · have next : ∀ j, j < i + 1 → (bys (xs.take j) : Int) < n := fun j hj => by
        by_cases e : j = i
        · rw [e]; omega
        · exact hi2 j (by omega)
      generalize xs[i] = x at *
      cases x with
      | b z =>
        obtain rfl : v = .int z := iv
        rw [if_pos (show isB (It.b z) = true from rfl)] at eb
        wtm_at "x"
        rw [← et] at hs
        refine iteT ?_
        wtm_at "x"
        exact ⟨_, _, by rw [eb]; rfl, by omega, next, hs.perm (by wtm_at "sels")⟩
      | m m =>
        obtain ⟨t, rfl, g⟩ := iv
        rw [if_neg (show ¬ isB (It.m m) = true from Bool.false_ne_true), Nat.add_zero] at eb
        have hs := hs.iadd g trivial
        wtm_at "x"
        rw [← et] at hs
        refine iteF ?_
        wtm_at "x"
        exact ⟨_, _, by rw [eb]; rfl, by omega, next, hs.perm (by wtm_at "sels")⟩
  · rintro σ H3 ⟨tk, u, rfl, hi1, hi2, hs⟩
    wtm_at "x"
    exact k _ _ _ ⟨hi1, hi2, .inl hlen⟩ (hs.perm (by wtm_at "sels"))
theorem ok_law_agrees (T : Txt P w K mg base a) : FnOk P w K mg base (L2.CX P w) 4 a.f_law_agrees a.fd_law_agrees ["stream", "rows", "room"] (sp_law_agrees K a) := by
  have G_ReadStream_contents := ok_ReadStream_contents T
  have G_ReadStream_space := ok_ReadStream_space T
  have G_law_bytes := ok_law_bytes T
  refine T.F_law_agrees.okX sc_law_agrees (fun vs H Q E h => A3.len h) (fun cdv A outer s H vs Q E hr h => ?_)
  have hu := hu_of hr
  obtain ⟨v_stream, v_rows, v_room, rfl, h⟩ := h
  refine ⟨_, (pss_cons (ps_set (i := 3) sc_law_agrees.nd rfl (by first | exact Or.inl rfl | exact Or.inr rfl) (pe_meth0S (pv 0) T.cl_ReadStream T.m_ReadStream_contents G_ReadStream_contents (hr.mono (by decide)) T.b_ReadStream_contents (fun σ => passAt (takes_of rfl rfl rfl rfl) σ)))
    (pss_cons (ps_if (PW.pt (pw_or (pt_not (pt_val (pe_callB call_isi (by rfl) T.g_isinstance (by decide +kernel) (pa_cons (pv 3) (pa_cons (pe_bltn (v := .ty "list") rfl T.g_list (by decide +kernel) rfl) pa_nil))))) (pw_or1 (pt_cmpR (op_neD hr.units) (pv 3) (pv 1) (nomark _))))) (pss_one (ps_ret pe_bl)) pss_nil)
    (pss_cons (ps_expr (pe_bm PySem.F.plainAttrs_list PySem.F.slot_list_append PySem.F.type_list_append mt_append (pv 3) (pa_cons pe_int pa_nil)))
    (pss_one (ps_ret (pe_and (pe_cmpR op_eq (pe_meth0S (pv 0) T.cl_ReadStream T.m_ReadStream_space G_ReadStream_space (hr.mono (by decide)) T.b_ReadStream_space (fun σ => passAt (takes_of rfl rfl rfl rfl) σ)) (pe_op op_sub (pv 2) (pe_callS G_law_bytes (hr.mono (by decide)) rfl T.g_law_bytes T.F_law_bytes.kp T.b_law_bytes (fun σ => passAt (takes_of rfl rfl rfl rfl) σ) (pa_cons (pv 1) pa_nil))) (nomark _)) (pe_and (pe_cmpR op_eq (pe_fld (pv 0) rfl) (pv 2) (nomark _)) (pe_one (pe_cmpR (op_eqD hr.units) (pe_meth0S (pv 0) T.cl_ReadStream T.m_ReadStream_contents G_ReadStream_contents (hr.mono (by decide)) T.b_ReadStream_contents (fun σ => passAt (takes_of rfl rfl rfl rfl) σ)) (pv 1) (nomark _)))))))))), ?_⟩
  obtain ⟨p, ra, room, xs, vs, L, R, rfl, rfl, rfl, hs, se, hl, k⟩ := h
  have hs := hs.sels se
  simp only [List.cons_append, List.nil_append] at hs
  wtm_at "x"
  refine Rd.a1 ⟨p, room, xs, _, _, rfl, hs, by wtm_at "sel", hl, fun l ws H1 hw hs => ?_⟩
  have hwl := hw.1
  wtm_at "x"
  refine iteF ?_
  wtm_at "x"
  refine o_neD (.lst (Or.inl (Or.inl (by wtm_at "hg"))) hw.dp) (.lst (Or.inl (Or.inl (by wtm_at "hg"))) (itsA.U (vs := vs) (xs := xs) hs (by wtm_at "sel")).dp) (dIts_ld _).sh ?_
  wtm_at "x"
  refine iteF ?_
  wtm_at "x"
  refine Rd.a1 ⟨p, room, xs, _, _, rfl, hs, by wtm_at "sel", hl, fun H2 hs => ?_⟩
  wtm_at "x"
  refine c_bytes hs (by wtm_at "hg") (itsA.U (vs := vs) (xs := xs) hs (by wtm_at "sel")) (by omega) fun H3 hs => ?_
  wtm_at "x"
  rw [decide_eq_true (rfl : V.int (room - (bys xs : Int)) = V.int (room - bys xs))]
  refine iteT ?_
  wtm_at "x"
  refine if_dT rfl ?_
  wtm_at "x"
  refine Rd.a1 ⟨p, room, xs, _, _, rfl, hs, by wtm_at "sel", hl, fun l2 ws2 H4 hw2 hs => ?_⟩
  wtm_at "x"
  refine o_eqD (.lst (Or.inl (Or.inl (by wtm_at "hg"))) hw2.dp) (.lst (Or.inl (Or.inl (by wtm_at "hg"))) (itsA.U (vs := vs) (xs := xs) hs (by wtm_at "sel")).dp) (dIts_ld _).sh ?_
  wtm_at "x"
  exact k _ (hs.perm (by wtm_at "sels"))
end
end My
set_option Elab.async false
set_option maxRecDepth 100000
set_option maxHeartbeats 100000000
set_option linter.all false
set_option synthInstance.maxSize 100000
set_option synthInstance.maxHeartbeats 0
namespace My
open PySem L2 Sx Rd Sl
local macro_rules | `(tactic| wtm_at "ne") => `(tactic| (first | with_reducible assumption | with_reducible exact Ne.symm (by with_reducible assumption)))
local macro_rules | `(tactic| wtm_at "nin") => `(tactic| (simp only [List.mem_cons, List.not_mem_nil, or_false, not_or, not_false_eq_true]; (repeat' refine And.intro ?_ ?_); (all_goals wtm_at "ne")))
local macro_rules | `(tactic| wtm_at "hl") => `(tactic| (first | (with_reducible assumption) | exact upd_same | ((with_reducible refine' (upd_ne ?hne).trans ?hgo); (case hne => wtm_at "ne"); (case hgo => wtm_at "hl"))))
local macro_rules | `(tactic| wtm_at "sq") => `(tactic| (first | (with_reducible assumption) | exact Or.inl (Or.inl (by wtm_at "hl"))))
local macro_rules | `(tactic| wtm_at "ar") => `(tactic| (first | omega | exact ⟨by omega, by omega⟩ | exact Or.inl ⟨by omega, by omega⟩ | exact Or.inr ⟨by omega, by omega⟩ | (show (0 : Int) < _; omega) | (show (0 : Int) < _ ∧ _ < (1073741824 : Int); omega)))
local macro_rules | `(tactic| wtm_at "cls") => `(tactic| (first | exact Txt.cl_ReadStream (by assumption)))
local macro_rules | `(tactic| wtm_at "noa") => do let T := Lean.mkIdent `T; `(tactic| (first | exact Sl.Noa.no $T | exact Sl.Noa.no (φ := Txt _ _ _ _ _ _) (by assumption)))
local macro_rules | `(tactic| wtm_at "lkp") => `(tactic| (first | with_reducible exact Sl.Lkp.h))
local macro_rules | `(tactic| wtm_at "ptf") => `(tactic| (first | with_reducible exact Sl.Ptf.h | exact rfl))
local macro_rules | `(tactic| wtm_at "lnF") => `(tactic| (first | with_reducible exact Sl.LnF.h | (refine PL.lt (n := 60) ?_ (by decide); (repeat refine PL.put ?_); exact PL.nil) | (simp only [List.length_cons, List.length_nil]; decide) | decide))
local macro_rules | `(tactic| wtm_at "nol") => `(tactic| (first | with_reducible exact Sl.NoL.h))
local macro_rules | `(tactic| wtm_at "kdl") => `(tactic| (first | fail))
local macro_rules | `(tactic| wtm_at "kdp") => `(tactic| (first | fail))
local macro_rules | `(tactic| wtm_at "kdn") => `(tactic| (first | fail))
local macro_rules | `(tactic| wtm_at "kdd") => do let h := Lean.mkIdent `hs; `(tactic| (first | fail))
local macro_rules | `(tactic| wtm_at "r_1") => `(tactic| (first
  | ((with_reducible refine' k_meth ?h1 ?h2 ?_); (case h1 => wtm_at "hl"); (case h2 => wtm_at "nol"))
  | ((with_reducible refine' k_fld ?h1 ?h2 ?h3 ?h4 ?_); (case h1 => wtm_at "hl"); (case h2 => wtm_at "cls"); (case h3 => wtm_at "noa"); (case h4 => wtm_at "lkp"))))
local macro_rules | `(tactic| wtm_at "r_2") => `(tactic| (
  (with_reducible refine' k_set ?h1 ?h2 ?h3 ?h4 ?h5 ?_); (case h1 => wtm_at "hl"); (case h2 => wtm_at "cls"); (case h3 => wtm_at "noa"); (case h4 => wtm_at "ptf"); (case h5 => wtm_at "lnF")))
local macro_rules | `(tactic| wtm_at "r_3") => `(tactic| (first
  | ((with_reducible refine' o_eq ?hs ?_); (case hs => exact rfl)) | ((with_reducible refine' o_ne ?hs ?_); (case hs => exact rfl)) | ((with_reducible refine' o_I ?hc ?_); (case hc => wtm_at "ar"))))
local macro_rules | `(tactic| wtm_at "r_4") => `(tactic| (first
  | ((with_reducible refine' c_ln ?h1 ?_); (case h1 => wtm_at "sq")) | ((with_reducible refine' o_ixL ?h1 ?h2 ?_); (case h1 => wtm_at "sq"); (case h2 => first | exact rfl | exact atI_zero _ _))
  | ((with_reducible refine' k_ty ?h1 ?_); (case h1 => wtm_at "sq")) | ((with_reducible refine' k_truL ?h1 ?_); (case h1 => wtm_at "sq"))))
local macro_rules | `(tactic| wtm_at "r_5") => `(tactic| (first
  | ((with_reducible refine' c_pop0 ?h1 ?h2 ?_); (case h1 => wtm_at "hl"); (case h2 => omega)) | ((with_reducible refine' o_slL ?h1 ?_); (case h1 => wtm_at "sq"))))
local macro_rules | `(tactic| wtm_at "r_6") => `(tactic| (first
  | ((with_reducible refine' c_isList ?h1 ?_); (case h1 => wtm_at "hl")) | ((with_reducible refine' c_isTup ?h1 ?_); (case h1 => wtm_at "hl")) | ((with_reducible refine' c_isTupB ?h1 ?_); (case h1 => wtm_at "hl"))
  | ((with_reducible refine' s_augV ?hv ?_); (case hv => exact rfl)) | ((with_reducible refine' k_xf ?h1 ?h2 ?_); (case h1 => wtm_at "hl"); (case h2 => exact look_hit _ _ _)) | ((with_reducible refine' k_dget ?h1 ?h2 ?_); (case h1 => wtm_at "hl"); (case h2 => with_reducible assumption))))
local macro_rules | `(tactic| wtm_at "r") => `(tactic| (repeat (first
  | with_reducible refine' Sl.Wr ?_ | ((with_reducible apply e_var); (case h => exact rfl))
  | ((with_reducible refine' Sl.cn 1 ?_); wtm_at "r_1") | ((with_reducible refine' Sl.cn 3 ?_); wtm_at "r_3") | ((with_reducible refine' Sl.cn 2 ?_); wtm_at "r_2")
  | ((with_reducible refine' Sl.cn 4 ?_); wtm_at "r_4") | ((with_reducible refine' Sl.cn 5 ?_); wtm_at "r_5") | ((with_reducible refine' Sl.cn 6 ?_); wtm_at "r_6")
  | with_reducible refine d_nx ?_ | with_reducible refine d_rt ?_ | with_reducible refine d_bk ?_ | with_reducible refine d_ct ?_)))
local macro_rules | `(tactic| wtm_at "nm") => `(tactic| (simp only [L2.start, List.length_cons, List.length_nil, List.map_cons, List.map_nil, List.set_cons_succ, List.set_cons_zero, List.replicate_succ, List.replicate_zero, List.cons_append, List.nil_append, Nat.add_sub_cancel]))
local macro_rules | `(tactic| wtm_at "sel") => `(tactic| (first | with_reducible exact Sl.SelT.s | with_reducible exact Sl.Sel.here | ((with_reducible refine' Sl.Sel.there ?t); (case t => wtm_at "sel_"))))
local macro_rules | `(tactic| wtm_at "sel_") => `(tactic| (first | with_reducible exact Sl.Sel.here | ((with_reducible refine' Sl.Sel.there ?t); (case t => wtm_at "sel_"))))
local macro_rules | `(tactic| wtm_at "selt") => `(tactic| (first | with_reducible exact Sl.Sels.all _ | ((with_reducible refine' Sl.Sels.skip ?t); (case t => wtm_at "selt"))))
local macro_rules | `(tactic| wtm_at "sels") => `(tactic| (first | with_reducible exact Sl.SelsT.s | with_reducible exact Sl.Sels.nil | ((with_reducible refine' Sl.Sels.cons ?a ?b); (case a => wtm_at "sel"); (case b => wtm_at "sels")) | wtm_at "selt"))
local macro_rules | `(tactic| wtm_at "selm") => `(tactic| ((try (simp only [])); (try simp only [List.map_append, List.map_cons, List.map_nil]); wtm_at "sels"))
local macro_rules | `(tactic| wtm_at "hg") => do
  let h := Lean.mkIdent `hs
  `(tactic| (first | (with_reducible assumption) | (with_reducible exact Sl.GetC.h $h) | ((with_reducible refine' Sl.St.get $h ?s); (case s => wtm_at "sel")) | ((with_reducible refine' Sl.St.geti $h ?s); (case s => wtm_at "sel"))))
local macro_rules | `(tactic| wtm_at "sg") => do
  let h := Lean.mkIdent `hs
  `(tactic| (first | (with_reducible assumption) | (with_reducible exact Sl.SqC.h $h) | (with_reducible exact Sl.SqTC.h $h) | exact Or.inl (Or.inl (by wtm_at "hg")) | (refine' Sl.sqA.U $h ?s; (case s => wtm_at "sel"))))
local macro_rules | `(tactic| wtm_at "le5") => `(tactic| (first | omega | (simp only [List.length_cons, List.length_nil, List.length_append, List.length_map]; omega) | (show _ ≤ _; decide) | (show _ < _; decide)))
local macro_rules | `(tactic| wtm_at "km") => `(tactic| fail)
local macro_rules | `(tactic| wtm_at "kf") => `(tactic| fail)
local macro_rules | `(tactic| wtm_at "x_1") => `(tactic| (first
  | ((with_reducible refine' k_meth ?h1 ?h2 ?_); (case h1 => wtm_at "hg"); (case h2 => wtm_at "nol")) | wtm_at "km"
  | ((with_reducible refine' k_fld ?h1 ?h2 ?h3 ?h4 ?_); (case h1 => wtm_at "hg"); (case h2 => wtm_at "cls"); (case h3 => wtm_at "noa"); (case h4 => wtm_at "lkp")) | wtm_at "kf"))
local macro_rules | `(tactic| wtm_at "x_2") => do
  let h := Lean.mkIdent `hs
  let T := Lean.mkIdent `T
  `(tactic| (first
  | ((with_reducible refine' Sl.k_newL $h ?h1 ?_); (case h1 => wtm_at "le5"); (clear $h; intro _ _ $h)) | ((with_reducible refine' Sl.k_newT $h ?h1 ?_); (case h1 => wtm_at "le5"); (clear $h; intro _ _ $h))
  | ((with_reducible refine' Sl.k_make $h ?_); (clear $h; intro _ _ _ $h)) | ((with_reducible refine' Sl.k_setC $T $h ?_); (clear $h; intro _ $h))
  | ((with_reducible refine' Sl.k_setS $h ?h1 ?h2 ?h3 ?h4 ?h5 ?_); (case h1 => wtm_at "sel"); (case h2 => wtm_at "cls"); (case h3 => wtm_at "noa"); (case h4 => wtm_at "ptf"); (case h5 => wtm_at "lnF"); (clear $h; intro _ $h))))
local macro_rules | `(tactic| wtm_at "x_3") => `(tactic| (first
  | ((with_reducible refine' o_eq ?hs ?_); (case hs => exact rfl)) | ((with_reducible refine' o_ne ?hs ?_); (case hs => exact rfl)) | ((with_reducible refine' o_I ?hc ?_); (case hc => wtm_at "ar"))))
local macro_rules | `(tactic| wtm_at "x_4") => `(tactic| (first
  | ((with_reducible refine' o_ixL ?h1 ?h2 ?_); (case h1 => wtm_at "sg"); (case h2 => first | exact rfl | exact atI_zero _ _)) | ((with_reducible refine' o_ixT ?h1 ?h2 ?_); (case h1 => wtm_at "sg"); (case h2 => first | exact rfl | exact atI_zero _ _))
  | ((with_reducible refine' c_ln ?h1 ?_); (case h1 => wtm_at "sg")) | ((with_reducible refine' c_lnT ?h1 ?_); (case h1 => wtm_at "sg")) | ((with_reducible refine' k_truL ?h1 ?_); (case h1 => wtm_at "sg"))
  | ((with_reducible refine' k_ty ?h1 ?_); (case h1 => wtm_at "sg")) | ((with_reducible refine' g_tup ?h1 ?h2 ?_); (case h1 => wtm_at "sg"); (case h2 => exact rfl))))
local macro_rules | `(tactic| wtm_at "x_5") => do
  let h := Lean.mkIdent `hs
  `(tactic| (first
  | ((with_reducible refine' Sl.c_appS $h ?h1 ?h2 ?_); (case h1 => wtm_at "sel"); (case h2 => wtm_at "le5"); (clear $h; intro _ $h)) | ((with_reducible refine' Sl.c_pop0S $h ?h1 ?h2 ?_); (case h1 => wtm_at "sel"); (case h2 => wtm_at "le5"); (clear $h; intro _ $h))
  | ((with_reducible refine' Sl.c_lsS $h ?h1 ?_); (case h1 => wtm_at "sg"); (clear $h; intro _ _ $h)) | ((with_reducible refine' Sl.o_slLS $h ?h1 ?_); (case h1 => wtm_at "sg"); (clear $h; intro _ _ $h)) | ((with_reducible refine' Sl.c_clrS $h ?h1 ?_); (case h1 => wtm_at "sel"); (clear $h; intro _ $h))
  | ((with_reducible refine' Sl.o_catS $h ?h1 ?h2 ?h3 ?_); (case h1 => wtm_at "hg"); (case h2 => wtm_at "hg"); (case h3 => wtm_at "le5"); (clear $h; intro _ _ $h)) | ((with_reducible refine' Sl.c_extS $h ?h1 ?h2 ?h3 ?_); (case h1 => wtm_at "sel"); (case h2 => wtm_at "hg"); (case h3 => wtm_at "le5"); (clear $h; intro _ $h))))
local macro_rules | `(tactic| wtm_at "x_6") => do
  let h := Lean.mkIdent `hs
  `(tactic| (first
  | ((with_reducible refine' Sl.k_raise $h ?h1 ?_); (case h1 => exact okV_int ⟨by omega, by omega⟩); (clear $h; intro _ _ $h))
  | ((with_reducible refine' c_isList ?h1 ?_); (case h1 => wtm_at "hg")) | ((with_reducible refine' c_isTup ?h1 ?_); (case h1 => wtm_at "hg")) | ((with_reducible refine' c_isTupB ?h1 ?_); (case h1 => wtm_at "hg"))
  | ((with_reducible refine' s_augV ?hv ?_); (case hv => exact rfl))
  | ((with_reducible refine' k_xf ?h1 ?h2 ?_); (case h1 => wtm_at "hg"); (case h2 => exact look_hit _ _ _)) | ((with_reducible refine' k_dget ?h1 ?h2 ?_); (case h1 => wtm_at "hg"); (case h2 => first | with_reducible assumption | wtm_at "kdl"))
  | ((with_reducible refine' Sl.e_disp $h ?_); (clear $h; intro _ _ $h)) | ((wtm_at "kdd"); (case s => wtm_at "sel"); (clear $h; intro _ $h))
  | ((with_reducible refine' Sl.k_dputS $h ?h1 ?h2 ?h3 ?_); (case h1 => wtm_at "sel"); (case h2 => wtm_at "kdn"); (case h3 => wtm_at "kdp"); (clear $h; intro _ $h))))
local macro_rules | `(tactic| wtm_at "x") => do
  let h := Lean.mkIdent `hs
  let T := Lean.mkIdent `T
  `(tactic| (repeat (first
  | with_reducible refine' Sl.Wk $T $h ?_ | with_reducible refine' Sl.Wj ?_ | ((with_reducible apply e_var); (case h => exact rfl))
  | ((with_reducible refine' Sl.cn 1 ?_); wtm_at "x_1") | ((with_reducible refine' Sl.cn 2 ?_); wtm_at "x_2") | ((with_reducible refine' Sl.cn 3 ?_); wtm_at "x_3")
  | ((with_reducible refine' Sl.cn 4 ?_); wtm_at "x_4") | ((with_reducible refine' Sl.cn 5 ?_); wtm_at "x_5") | ((with_reducible refine' Sl.cn 6 ?_); wtm_at "x_6")
  | with_reducible refine d_nx ?_ | with_reducible refine d_rt ?_ | with_reducible refine d_bk ?_ | with_reducible refine d_ct ?_)))
local macro_rules | `(tactic| wtm_at "km") => do let h := Lean.mkIdent `hs; `(tactic| ((with_reducible refine' km_Rs $h ?s ?m ?_); (case s => wtm_at "sel"); (case m => intros; wtm_at "nol")))
local macro_rules | `(tactic| wtm_at "kf") => do let h := Lean.mkIdent `hs; `(tactic| ((with_reducible refine' kf_Rs_room $h ?s ?c ?n ?_); (case s => wtm_at "sel"); (case c => wtm_at "cls"); (case n => wtm_at "noa")))
section
variable {P : Program} {w : World} {K : PySem.W.Frag} {mg : Str → Option Value} {base : Heap} {a : Ads}
theorem ok_law (T : Txt P w K mg base a) : FnG P w K mg base (L2.CX P w) 6 a.f_law a.fd_law ["script"] (sp_law K a) := by
  have G_law_state := ok_law_state T
  have G_law_draw := ok_law_draw T
  have G_ReadStream_init := ok_ReadStream_init T
  have G_law_pick := ok_law_pick T
  have G_law_split := ok_law_split T
  have G_ReadStream_read := ok_ReadStream_read T
  have G_law_appends := ok_law_appends T
  have G_law_items := ok_law_items T
  have G_law_agrees := ok_law_agrees T
  refine T.F_law.okG sc_law (fun vs H Q E h => A1.len h) (fun cdv A outer s H vs Q E hgd hr h => ?_)
  have hu := hu_of hr
  obtain ⟨v_script, rfl, h⟩ := h
  refine ⟨_, (pss_cons (ps_set (i := 1) sc_law.nd rfl (by first | exact Or.inl rfl | exact Or.inr rfl) (pe_callS G_law_state (hr.mono (by decide)) rfl T.g_law_state T.F_law_state.kp T.b_law_state (fun σ => passAt (takes_of rfl rfl rfl rfl) σ) (pa_cons (pv 0) pa_nil)))
    (pss_cons (ps_set (i := 2) sc_law.nd rfl (by first | exact Or.inl rfl | exact Or.inr rfl) (pe_op op_add pe_int (pe_callS G_law_draw (hr.mono (by decide)) rfl T.g_law_draw T.F_law_draw.kp T.b_law_draw (fun σ => passAt (takes_of rfl rfl rfl rfl) σ) (pa_cons (pv 1) (pa_cons pe_int pa_nil)))))
    (pss_cons (ps_set (i := 3) sc_law.nd rfl (by first | exact Or.inl rfl | exact Or.inr rfl) (pe_makeS T.mk_ReadStream G_ReadStream_init (hr.mono (by decide)) rfl T.g_ReadStream T.b_ReadStream_init (fun σ => passAt (takes_of rfl rfl rfl rfl) σ) (pa_cons (pv 2) pa_nil)))
    (pss_cons (ps_set (i := 4) sc_law.nd rfl (by first | exact Or.inl rfl | exact Or.inr rfl) (pe_makeS T.mk_ReadStream G_ReadStream_init (hr.mono (by decide)) rfl T.g_ReadStream T.b_ReadStream_init (fun σ => passAt (takes_of rfl rfl rfl rfl) σ) (pa_cons pe_int pa_nil)))
    (pss_cons (ps_set (i := 5) sc_law.nd rfl (by first | exact Or.inl rfl | exact Or.inr rfl) (pe_lst pa_nil))
    (pss_cons (ps_for (passes_of rfl) rfl (pi_list (pe_slice sl_list (pv 0) po_none (po_some pe_int))) (pg_name (i := 6) sc_law.nd rfl (by first | exact Or.inl rfl | exact Or.inr rfl)) (Evl.pss_cut (ps_if (pt_cmpR op_eq (pe_callS G_law_draw (hr.mono (by decide)) rfl T.g_law_draw T.F_law_draw.kp T.b_law_draw (fun σ => passAt (takes_of rfl rfl rfl rfl) σ) (pa_cons (pv 1) (pa_cons pe_int pa_nil))) pe_int (nomark _)) (pss_cons (ps_set (i := 7) sc_law.nd rfl (by first | exact Or.inl rfl | exact Or.inr rfl) (pe_callS G_law_pick (hr.mono (by decide)) rfl T.g_law_pick T.F_law_pick.kp T.b_law_pick (fun σ => passAt (takes_of rfl rfl rfl rfl) σ) (pa_cons (pv 1) (pa_cons (pe_lst (pa_cons pe_int (pa_cons pe_int (pa_cons pe_int (pa_cons pe_int (pa_cons (pe_callS G_law_draw (hr.mono (by decide)) rfl T.g_law_draw T.F_law_draw.kp T.b_law_draw (fun σ => passAt (takes_of rfl rfl rfl rfl) σ) (pa_cons (pv 1) (pa_cons pe_int pa_nil))) pa_nil)))))) pa_nil))))
    (pss_cons (ps_set (i := 8) sc_law.nd rfl (by first | exact Or.inl rfl | exact Or.inr rfl) (pe_callS G_law_split (hr.mono (by decide)) rfl T.g_law_split T.F_law_split.kp T.b_law_split (fun σ => passAt (takes_of rfl rfl rfl rfl) σ) (pa_cons (pv 5) (pa_cons (pv 7) pa_nil))))
    (pss_cons (ps_set (i := 9) sc_law.nd rfl (by first | exact Or.inl rfl | exact Or.inr rfl) (pe_methS (pv 3) T.cl_ReadStream T.m_ReadStream_read G_ReadStream_read (hr.mono (by decide)) T.b_ReadStream_read (fun σ => passAt (takes_of rfl rfl rfl rfl) σ) (pa_cons (pv 7) pa_nil)))
    (pss_cons (ps_if (PW.pt (pw_or (pt_not (pt_val (pe_callB call_isi (by rfl) T.g_isinstance (by decide +kernel) (pa_cons (pv 9) (pa_cons (pe_bltn (v := .ty "list") rfl T.g_list (by decide +kernel) rfl) pa_nil))))) (pw_or1 (pt_cmpR (op_neD hr.units) (pv 9) (pv 8) (nomark _))))) (pss_one (ps_ret pe_bl)) pss_nil)
    (pss_cons (ps_expr (pe_bm PySem.F.plainAttrs_list PySem.F.slot_list_append PySem.F.type_list_append mt_append (pv 9) (pa_cons pe_int pa_nil)))
    (pss_one (ps_set (i := 5) sc_law.nd rfl (by first | exact Or.inl rfl | exact Or.inr rfl) (pe_slice sl_list (pv 5) (po_some (pe_callB call_ln (by rfl) T.g_len (by decide +kernel) (pa_cons (pv 8) pa_nil))) po_none)))))))) (pss_cons (ps_set (i := 5) sc_law.nd rfl (by first | exact Or.inl rfl | exact Or.inr rfl) (pe_callGS G_law_appends hgd (hr.mono (by decide)) rfl T.g_law_appends T.F_law_appends.kp T.b_law_appends (fun σ => passAt (takes_of rfl rfl rfl rfl) σ) (pa_cons (pv 3) (pa_cons (pv 5) (pa_cons (pe_callS G_law_items (hr.mono (by decide)) rfl T.g_law_items T.F_law_items.kp T.b_law_items (fun σ => passAt (takes_of rfl rfl rfl rfl) σ) (pa_cons (pv 1) pa_nil)) (pa_cons (pv 2) pa_nil))))))
    (pss_one (ps_if (pt_cmpR op_isN (pv 5) pe_non (nomark _)) (pss_one (ps_ret pe_bl)) pss_nil))))
    (pss_one (ps_if (pt_not (pt_val (pe_callS G_law_agrees (hr.mono (by decide)) rfl T.g_law_agrees T.F_law_agrees.kp T.b_law_agrees (fun σ => passAt (takes_of rfl rfl rfl rfl) σ) (pa_cons (pv 3) (pa_cons (pv 5) (pa_cons (pv 2) pa_nil)))))) (pss_one (ps_ret pe_bl)) pss_nil))))
    (pss_one (ps_ret (pe_and (pe_callS G_law_agrees (hr.mono (by decide)) rfl T.g_law_agrees T.F_law_agrees.kp T.b_law_agrees (fun σ => passAt (takes_of rfl rfl rfl rfl) σ) (pa_cons (pv 3) (pa_cons (pv 5) (pa_cons (pv 2) pa_nil)))) (pe_one (pe_callS G_law_agrees (hr.mono (by decide)) rfl T.g_law_agrees T.F_law_agrees.kp T.b_law_agrees (fun σ => passAt (takes_of rfl rfl rfl rfl) σ) (pa_cons (pv 4) (pa_cons (pe_lst pa_nil) (pa_cons pe_int pa_nil)))))))))))))), ?_⟩
  obtain ⟨b, ns, rfl, hS, hn, k⟩ := h
  have hs : Sl.St [sqA K b (ns.map V.int)] H := sqA.new hS
  wtm_at "x"
  refine c_state hs hS hn fun st H1 hs _ => ?_
  wtm_at "x"
  refine c_draw hs (by wtm_at "sel") (by omega) (by omega) fun r1 H2 ra1 rb1 hs => ?_
  wtm_at "x"
  refine Rd.a2 ⟨_, _, _, _, _, rfl, rfl, hs, .here, fun H3 hs => ⟨rfl, ?_⟩⟩
  wtm_at "x"
  refine Rd.a2 ⟨_, _, _, _, _, rfl, rfl, hs, .here, fun H4 hs => ⟨rfl, ?_⟩⟩
  wtm_at "x"
  have hq := sqA.U (K := K) (xs := ns.map V.int) hs (by wtm_at "sel")
  rename_i c H12
  rw [show (some 63 : Option Int) = some ((63 : Nat) : Int) from rfl, cut_take] at hs
  have hlen : ((ns.map V.int).take 63).length ≤ 63 := by simp; omega
  generalize (ns.map V.int).take 63 = xs at hs hlen
  have hs := itsA.I hs (Its.nil)
  wtm_at "nm"
  refine k_forL (fun i σ H' => ∃ (p p2 ra : Addr) (vs : List V) (zs : List It) (u1 u2 u3 u4 : Option V), σ = [some (.ref b), some (.ref st), some (.int (16 + r1)), some (.ref p), some (.ref p2), some (.ref ra), u1, u2, u3, u4] ∧
    zs.length ≤ 20 * i ∧ Sl.St [cell c (.lst xs), RsA a p (16 + r1) zs, RsA a p2 16 [], cell ra (.lst vs), itsA vs zs, StA st] H') (by wtm_at "sg") ⟨_, _, _, [], [], _, _, _, _, rfl, by simp, hs.perm (by wtm_at "sels")⟩
    (fun i σ H' _ ⟨_, _, _, _, _, _, _, _, _, _, _, hs⟩ => by wtm_at "sg") ?_ ?_
  · clear hs hq
    rintro i x σ H' hx ⟨p, p2, ra, vs, zs, u1, u2, u3, u4, rfl, hz, hs⟩
    have hi : i < 63 := Nat.lt_of_lt_of_le (List.getElem?_eq_some_iff.mp hx).1 hlen
    have hzl := (itsA.U (vs := vs) (xs := zs) hs (by wtm_at "sel")).1
    wtm_at "x"
    refine s_cut (fun σ H' => ∃ (ra : Addr) (vs : List V) (zs : List It) (u1 u2 u3 u4 : Option V), σ = [some (.ref b), some (.ref st), some (.int (16 + r1)), some (.ref p), some (.ref p2), some (.ref ra), u1, u2, u3, u4] ∧
      zs.length ≤ 20 * (i + 1) ∧ Sl.St [cell c (.lst xs), RsA a p (16 + r1) zs, RsA a p2 16 [], cell ra (.lst vs), itsA vs zs, StA st] H') ?_ ?_
    · wtm_at "x"
      refine c_draw hs (by wtm_at "sel") (by omega) (by omega) fun r2 H2 ra2 rb2 hs => ?_
      wtm_at "x"
      refine if_d (fun e => ?_) (fun e => ?_)
      · wtm_at "x"
        refine c_draw hs (by wtm_at "sel") (by omega) (by omega) fun r3 H3 ra3 rb3 hs => ?_
        wtm_at "x"
        refine c_pick [0, 1, 2, 3, r3] hs (by wtm_at "sel") (by wtm_at "sel") (by rfl) (by simp) (by simp) fun n H5 hm3 hs => ?_
        wtm_at "x"
        wtm_at "nm"
        refine Rd.a2 ⟨ra, n, vs, zs, _, _, rfl, rfl, hs, by wtm_at "sels", by omega, fun j l H6 hj hs => ?_⟩
        have hjl := hj.1
        wtm_at "x"
        refine Rd.a2 ⟨p, 16 + r1, zs, _, _, rfl, hs, by wtm_at "sel", by omega, n, rfl, fun j2 hj2 l2 ws H7 hw hs => ?_⟩
        obtain rfl := hj2.uniq hj
        have hwl := hw.1
        rw [List.length_take] at hwl
        wtm_at "x"
        refine iteF ?_
        wtm_at "x"
        refine o_neD (.lst (Or.inl (Or.inl (by wtm_at "hg"))) hw.dp) (.lst (Or.inl (Or.inl (by wtm_at "hg"))) ((itsA.U (vs := vs) (xs := zs) hs (by wtm_at "sel")).take j2).dp) (dIts_ld _).sh ?_
        wtm_at "x"
        refine iteF ?_
        wtm_at "x"
        wtm_at "nm"
        have el : ((vs.take j2).length : Int) = ((j2 : Nat) : Int) := by rw [List.length_take]; omega
        rename_i l3 H8
        rw [el, cut_drop] at hs
        have hs := itsA.I hs ((itsA.U (vs := vs) (xs := zs) hs (by wtm_at "sel")).drop j2)
        exact ⟨_, _, zs.drop j2, _, _, _, _, rfl, by rw [List.length_drop]; omega, hs.perm (by wtm_at "sels")⟩
      · wtm_at "x"
        refine Rd.a1 ⟨st, _, _, rfl, hs, by wtm_at "sel", fun q us ys H5 hg hy hs => ?_⟩
        wtm_at "x"
        refine Rd.a4 ⟨p, ra, q, 16 + r1, zs, ys, vs, us, _, _, rfl, rfl, rfl, rfl, hs, by wtm_at "sels", by omega, hy, hg, by omega, by omega, fun zs' rb ws H6 hzs hs => ?_⟩
        wtm_at "x"
        refine ⟨rfl, ?_⟩
        wtm_at "x"
        refine if_dF (fun z => by cases z) ?_
        wtm_at "x"
        exact ⟨_, _, zs', _, _, _, _, rfl, by omega, hs.perm (by wtm_at "sels")⟩
    · clear hs
      rintro σ H5 ⟨ra, vs, zs, u1, u2, u3, u4, rfl, hz, hs⟩
      wtm_at "x"
      refine Rd.a3 ⟨p, ra, 16 + r1, zs, vs, _, _, rfl, rfl, rfl, hs, by wtm_at "sels", by omega, fun H8 hs => ?_⟩
      wtm_at "x"
      refine iteF ?_
      wtm_at "x"
      exact ⟨p, p2, ra, vs, zs, _, _, _, _, rfl, hz, hs.perm (by wtm_at "sels")⟩
  · clear hs hq
    rintro σ H' ⟨p, p2, ra, vs, zs, u1, u2, u3, u4, rfl, hz, hs⟩
    wtm_at "x"
    refine Rd.a3 ⟨p, ra, 16 + r1, zs, vs, _, _, rfl, rfl, rfl, hs, by wtm_at "sels", by omega, fun H8 hs => ?_⟩
    refine ⟨true, rfl, iteT ?_⟩
    wtm_at "x"
    have hs := itsA.I hs Its.nil
    refine Rd.a3 ⟨p2, _, 16, [], [], _, _, rfl, rfl, rfl, hs, by wtm_at "sels", by simp, fun H8 hs => ?_⟩
    exact k _
end
end My
set_option Elab.async false
set_option maxRecDepth 100000
set_option maxHeartbeats 100000000
set_option linter.all false
set_option synthInstance.maxSize 100000
set_option synthInstance.maxHeartbeats 0
namespace My
open PySem L2 Sx Rd Sl
local macro_rules | `(tactic| wtm_at "ne") => `(tactic| (first | with_reducible assumption | with_reducible exact Ne.symm (by with_reducible assumption)))
local macro_rules | `(tactic| wtm_at "nin") => `(tactic| (simp only [List.mem_cons, List.not_mem_nil, or_false, not_or, not_false_eq_true]; (repeat' refine And.intro ?_ ?_); (all_goals wtm_at "ne")))
local macro_rules | `(tactic| wtm_at "hl") => `(tactic| (first | (with_reducible assumption) | exact upd_same | ((with_reducible refine' (upd_ne ?hne).trans ?hgo); (case hne => wtm_at "ne"); (case hgo => wtm_at "hl"))))
local macro_rules | `(tactic| wtm_at "sq") => `(tactic| (first | (with_reducible assumption) | exact Or.inl (Or.inl (by wtm_at "hl"))))
local macro_rules | `(tactic| wtm_at "ar") => `(tactic| (first | omega | exact ⟨by omega, by omega⟩ | exact Or.inl ⟨by omega, by omega⟩ | exact Or.inr ⟨by omega, by omega⟩ | (show (0 : Int) < _; omega) | (show (0 : Int) < _ ∧ _ < (1073741824 : Int); omega)))
local macro_rules | `(tactic| wtm_at "cls") => `(tactic| (first | exact Txt.cl_ReadStream (by assumption)))
local macro_rules | `(tactic| wtm_at "noa") => do let T := Lean.mkIdent `T; `(tactic| (first | exact Sl.Noa.no $T | exact Sl.Noa.no (φ := Txt _ _ _ _ _ _) (by assumption)))
local macro_rules | `(tactic| wtm_at "lkp") => `(tactic| (first | with_reducible exact Sl.Lkp.h))
local macro_rules | `(tactic| wtm_at "ptf") => `(tactic| (first | with_reducible exact Sl.Ptf.h | exact rfl))
local macro_rules | `(tactic| wtm_at "lnF") => `(tactic| (first | with_reducible exact Sl.LnF.h | (refine PL.lt (n := 60) ?_ (by decide); (repeat refine PL.put ?_); exact PL.nil) | (simp only [List.length_cons, List.length_nil]; decide) | decide))
local macro_rules | `(tactic| wtm_at "nol") => `(tactic| (first | with_reducible exact Sl.NoL.h))
local macro_rules | `(tactic| wtm_at "kdl") => `(tactic| (first | fail))
local macro_rules | `(tactic| wtm_at "kdp") => `(tactic| (first | fail))
local macro_rules | `(tactic| wtm_at "kdn") => `(tactic| (first | fail))
local macro_rules | `(tactic| wtm_at "kdd") => do let h := Lean.mkIdent `hs; `(tactic| (first | fail))
local macro_rules | `(tactic| wtm_at "r_1") => `(tactic| (first
  | ((with_reducible refine' k_meth ?h1 ?h2 ?_); (case h1 => wtm_at "hl"); (case h2 => wtm_at "nol"))
  | ((with_reducible refine' k_fld ?h1 ?h2 ?h3 ?h4 ?_); (case h1 => wtm_at "hl"); (case h2 => wtm_at "cls"); (case h3 => wtm_at "noa"); (case h4 => wtm_at "lkp"))))
local macro_rules | `(tactic| wtm_at "r_2") => `(tactic| (
  (with_reducible refine' k_set ?h1 ?h2 ?h3 ?h4 ?h5 ?_); (case h1 => wtm_at "hl"); (case h2 => wtm_at "cls"); (case h3 => wtm_at "noa"); (case h4 => wtm_at "ptf"); (case h5 => wtm_at "lnF")))
local macro_rules | `(tactic| wtm_at "r_3") => `(tactic| (first
  | ((with_reducible refine' o_eq ?hs ?_); (case hs => exact rfl)) | ((with_reducible refine' o_ne ?hs ?_); (case hs => exact rfl)) | ((with_reducible refine' o_I ?hc ?_); (case hc => wtm_at "ar"))))
local macro_rules | `(tactic| wtm_at "r_4") => `(tactic| (first
  | ((with_reducible refine' c_ln ?h1 ?_); (case h1 => wtm_at "sq")) | ((with_reducible refine' o_ixL ?h1 ?h2 ?_); (case h1 => wtm_at "sq"); (case h2 => first | exact rfl | exact atI_zero _ _))
  | ((with_reducible refine' k_ty ?h1 ?_); (case h1 => wtm_at "sq")) | ((with_reducible refine' k_truL ?h1 ?_); (case h1 => wtm_at "sq"))))
local macro_rules | `(tactic| wtm_at "r_5") => `(tactic| (first
  | ((with_reducible refine' c_pop0 ?h1 ?h2 ?_); (case h1 => wtm_at "hl"); (case h2 => omega)) | ((with_reducible refine' o_slL ?h1 ?_); (case h1 => wtm_at "sq"))))
local macro_rules | `(tactic| wtm_at "r_6") => `(tactic| (first
  | ((with_reducible refine' c_isList ?h1 ?_); (case h1 => wtm_at "hl")) | ((with_reducible refine' c_isTup ?h1 ?_); (case h1 => wtm_at "hl")) | ((with_reducible refine' c_isTupB ?h1 ?_); (case h1 => wtm_at "hl"))
  | ((with_reducible refine' s_augV ?hv ?_); (case hv => exact rfl)) | ((with_reducible refine' k_xf ?h1 ?h2 ?_); (case h1 => wtm_at "hl"); (case h2 => exact look_hit _ _ _)) | ((with_reducible refine' k_dget ?h1 ?h2 ?_); (case h1 => wtm_at "hl"); (case h2 => with_reducible assumption))))
local macro_rules | `(tactic| wtm_at "r") => `(tactic| (repeat (first
  | with_reducible refine' Sl.Wr ?_ | ((with_reducible apply e_var); (case h => exact rfl))
  | ((with_reducible refine' Sl.cn 1 ?_); wtm_at "r_1") | ((with_reducible refine' Sl.cn 3 ?_); wtm_at "r_3") | ((with_reducible refine' Sl.cn 2 ?_); wtm_at "r_2")
  | ((with_reducible refine' Sl.cn 4 ?_); wtm_at "r_4") | ((with_reducible refine' Sl.cn 5 ?_); wtm_at "r_5") | ((with_reducible refine' Sl.cn 6 ?_); wtm_at "r_6")
  | with_reducible refine d_nx ?_ | with_reducible refine d_rt ?_ | with_reducible refine d_bk ?_ | with_reducible refine d_ct ?_)))
local macro_rules | `(tactic| wtm_at "nm") => `(tactic| (simp only [L2.start, List.length_cons, List.length_nil, List.map_cons, List.map_nil, List.set_cons_succ, List.set_cons_zero, List.replicate_succ, List.replicate_zero, List.cons_append, List.nil_append, Nat.add_sub_cancel]))
local macro_rules | `(tactic| wtm_at "sel") => `(tactic| (first | with_reducible exact Sl.SelT.s | with_reducible exact Sl.Sel.here | ((with_reducible refine' Sl.Sel.there ?t); (case t => wtm_at "sel_"))))
local macro_rules | `(tactic| wtm_at "sel_") => `(tactic| (first | with_reducible exact Sl.Sel.here | ((with_reducible refine' Sl.Sel.there ?t); (case t => wtm_at "sel_"))))
local macro_rules | `(tactic| wtm_at "selt") => `(tactic| (first | with_reducible exact Sl.Sels.all _ | ((with_reducible refine' Sl.Sels.skip ?t); (case t => wtm_at "selt"))))
local macro_rules | `(tactic| wtm_at "sels") => `(tactic| (first | with_reducible exact Sl.SelsT.s | with_reducible exact Sl.Sels.nil | ((with_reducible refine' Sl.Sels.cons ?a ?b); (case a => wtm_at "sel"); (case b => wtm_at "sels")) | wtm_at "selt"))
local macro_rules | `(tactic| wtm_at "selm") => `(tactic| ((try (simp only [])); (try simp only [List.map_append, List.map_cons, List.map_nil]); wtm_at "sels"))
local macro_rules | `(tactic| wtm_at "hg") => do
  let h := Lean.mkIdent `hs
  `(tactic| (first | (with_reducible assumption) | (with_reducible exact Sl.GetC.h $h) | ((with_reducible refine' Sl.St.get $h ?s); (case s => wtm_at "sel")) | ((with_reducible refine' Sl.St.geti $h ?s); (case s => wtm_at "sel"))))
local macro_rules | `(tactic| wtm_at "sg") => do
  let h := Lean.mkIdent `hs
  `(tactic| (first | (with_reducible assumption) | (with_reducible exact Sl.SqC.h $h) | (with_reducible exact Sl.SqTC.h $h) | exact Or.inl (Or.inl (by wtm_at "hg")) | (refine' Sl.sqA.U $h ?s; (case s => wtm_at "sel"))))
local macro_rules | `(tactic| wtm_at "le5") => `(tactic| (first | omega | (simp only [List.length_cons, List.length_nil, List.length_append, List.length_map]; omega) | (show _ ≤ _; decide) | (show _ < _; decide)))
local macro_rules | `(tactic| wtm_at "km") => `(tactic| fail)
local macro_rules | `(tactic| wtm_at "kf") => `(tactic| fail)
local macro_rules | `(tactic| wtm_at "x_1") => `(tactic| (first
  | ((with_reducible refine' k_meth ?h1 ?h2 ?_); (case h1 => wtm_at "hg"); (case h2 => wtm_at "nol")) | wtm_at "km"
  | ((with_reducible refine' k_fld ?h1 ?h2 ?h3 ?h4 ?_); (case h1 => wtm_at "hg"); (case h2 => wtm_at "cls"); (case h3 => wtm_at "noa"); (case h4 => wtm_at "lkp")) | wtm_at "kf"))
local macro_rules | `(tactic| wtm_at "x_2") => do
  let h := Lean.mkIdent `hs
  let T := Lean.mkIdent `T
  `(tactic| (first
  | ((with_reducible refine' Sl.k_newL $h ?h1 ?_); (case h1 => wtm_at "le5"); (clear $h; intro _ _ $h)) | ((with_reducible refine' Sl.k_newT $h ?h1 ?_); (case h1 => wtm_at "le5"); (clear $h; intro _ _ $h))
  | ((with_reducible refine' Sl.k_make $h ?_); (clear $h; intro _ _ _ $h)) | ((with_reducible refine' Sl.k_setC $T $h ?_); (clear $h; intro _ $h))
  | ((with_reducible refine' Sl.k_setS $h ?h1 ?h2 ?h3 ?h4 ?h5 ?_); (case h1 => wtm_at "sel"); (case h2 => wtm_at "cls"); (case h3 => wtm_at "noa"); (case h4 => wtm_at "ptf"); (case h5 => wtm_at "lnF"); (clear $h; intro _ $h))))
local macro_rules | `(tactic| wtm_at "x_3") => `(tactic| (first
  | ((with_reducible refine' o_eq ?hs ?_); (case hs => exact rfl)) | ((with_reducible refine' o_ne ?hs ?_); (case hs => exact rfl)) | ((with_reducible refine' o_I ?hc ?_); (case hc => wtm_at "ar"))))
local macro_rules | `(tactic| wtm_at "x_4") => `(tactic| (first
  | ((with_reducible refine' o_ixL ?h1 ?h2 ?_); (case h1 => wtm_at "sg"); (case h2 => first | exact rfl | exact atI_zero _ _)) | ((with_reducible refine' o_ixT ?h1 ?h2 ?_); (case h1 => wtm_at "sg"); (case h2 => first | exact rfl | exact atI_zero _ _))
  | ((with_reducible refine' c_ln ?h1 ?_); (case h1 => wtm_at "sg")) | ((with_reducible refine' c_lnT ?h1 ?_); (case h1 => wtm_at "sg")) | ((with_reducible refine' k_truL ?h1 ?_); (case h1 => wtm_at "sg"))
  | ((with_reducible refine' k_ty ?h1 ?_); (case h1 => wtm_at "sg")) | ((with_reducible refine' g_tup ?h1 ?h2 ?_); (case h1 => wtm_at "sg"); (case h2 => exact rfl))))
local macro_rules | `(tactic| wtm_at "x_5") => do
  let h := Lean.mkIdent `hs
  `(tactic| (first
  | ((with_reducible refine' Sl.c_appS $h ?h1 ?h2 ?_); (case h1 => wtm_at "sel"); (case h2 => wtm_at "le5"); (clear $h; intro _ $h)) | ((with_reducible refine' Sl.c_pop0S $h ?h1 ?h2 ?_); (case h1 => wtm_at "sel"); (case h2 => wtm_at "le5"); (clear $h; intro _ $h))
  | ((with_reducible refine' Sl.c_lsS $h ?h1 ?_); (case h1 => wtm_at "sg"); (clear $h; intro _ _ $h)) | ((with_reducible refine' Sl.o_slLS $h ?h1 ?_); (case h1 => wtm_at "sg"); (clear $h; intro _ _ $h)) | ((with_reducible refine' Sl.c_clrS $h ?h1 ?_); (case h1 => wtm_at "sel"); (clear $h; intro _ $h))
  | ((with_reducible refine' Sl.o_catS $h ?h1 ?h2 ?h3 ?_); (case h1 => wtm_at "hg"); (case h2 => wtm_at "hg"); (case h3 => wtm_at "le5"); (clear $h; intro _ _ $h)) | ((with_reducible refine' Sl.c_extS $h ?h1 ?h2 ?h3 ?_); (case h1 => wtm_at "sel"); (case h2 => wtm_at "hg"); (case h3 => wtm_at "le5"); (clear $h; intro _ $h))))
local macro_rules | `(tactic| wtm_at "x_6") => do
  let h := Lean.mkIdent `hs
  `(tactic| (first
  | ((with_reducible refine' Sl.k_raise $h ?h1 ?_); (case h1 => exact okV_int ⟨by omega, by omega⟩); (clear $h; intro _ _ $h))
  | ((with_reducible refine' c_isList ?h1 ?_); (case h1 => wtm_at "hg")) | ((with_reducible refine' c_isTup ?h1 ?_); (case h1 => wtm_at "hg")) | ((with_reducible refine' c_isTupB ?h1 ?_); (case h1 => wtm_at "hg"))
  | ((with_reducible refine' s_augV ?hv ?_); (case hv => exact rfl))
  | ((with_reducible refine' k_xf ?h1 ?h2 ?_); (case h1 => wtm_at "hg"); (case h2 => exact look_hit _ _ _)) | ((with_reducible refine' k_dget ?h1 ?h2 ?_); (case h1 => wtm_at "hg"); (case h2 => first | with_reducible assumption | wtm_at "kdl"))
  | ((with_reducible refine' Sl.e_disp $h ?_); (clear $h; intro _ _ $h)) | ((wtm_at "kdd"); (case s => wtm_at "sel"); (clear $h; intro _ $h))
  | ((with_reducible refine' Sl.k_dputS $h ?h1 ?h2 ?h3 ?_); (case h1 => wtm_at "sel"); (case h2 => wtm_at "kdn"); (case h3 => wtm_at "kdp"); (clear $h; intro _ $h))))
local macro_rules | `(tactic| wtm_at "x") => do
  let h := Lean.mkIdent `hs
  let T := Lean.mkIdent `T
  `(tactic| (repeat (first
  | with_reducible refine' Sl.Wk $T $h ?_ | with_reducible refine' Sl.Wj ?_ | ((with_reducible apply e_var); (case h => exact rfl))
  | ((with_reducible refine' Sl.cn 1 ?_); wtm_at "x_1") | ((with_reducible refine' Sl.cn 2 ?_); wtm_at "x_2") | ((with_reducible refine' Sl.cn 3 ?_); wtm_at "x_3")
  | ((with_reducible refine' Sl.cn 4 ?_); wtm_at "x_4") | ((with_reducible refine' Sl.cn 5 ?_); wtm_at "x_5") | ((with_reducible refine' Sl.cn 6 ?_); wtm_at "x_6")
  | with_reducible refine d_nx ?_ | with_reducible refine d_rt ?_ | with_reducible refine d_bk ?_ | with_reducible refine d_ct ?_)))
local macro_rules | `(tactic| wtm_at "km") => do let h := Lean.mkIdent `hs; `(tactic| ((with_reducible refine' km_Rs $h ?s ?m ?_); (case s => wtm_at "sel"); (case m => intros; wtm_at "nol")))
local macro_rules | `(tactic| wtm_at "kf") => do let h := Lean.mkIdent `hs; `(tactic| ((with_reducible refine' kf_Rs_room $h ?s ?c ?n ?_); (case s => wtm_at "sel"); (case c => wtm_at "cls"); (case n => wtm_at "noa")))
section
variable {P : Program} {w : World} {K : PySem.W.Frag} {mg : Str → Option Value} {base : Heap} {a : Ads}
end
/-- the top's facts -/
theorem all_mk {l : PySem.W.OpenLaw} {w : World} {K : PySem.W.Frag} {h : Heap} {mg : Str → Option Value} {fa : Addr} (hl : l.prog = PySem.Challenge.pw_tickrings_k11_read_streams) (X : K.In h) (G : h.Ns mainGlobals mg) (hfa : mg "law" = some (.ref fa))
    {C_TickringsError C_StreamFull C_ReadStream : Addr} {f_StreamFull_init f_lost_mark f_is_mark f_lost_by f_joined f_bytes_among f_ReadStream_init f_ReadStream_space f_ReadStream_append f_ReadStream_read f_ReadStream_contents f_ReadStream_append_one f_law_state f_law_draw f_law_pick f_law_bytes f_law_append f_law_items f_law_appends f_law_split f_law_agrees f_law : Addr}
    {oc_StreamFull_init : Value} {dc_StreamFull_init : Value} {pm_StreamFull_init : Value} {ct_StreamFull_init : Value} {kV_StreamFull_init : Value} {od_StreamFull_init : Option Addr} {an_StreamFull_init : Option Addr} {sl_StreamFull_init : Array (Option Value)} {nm_StreamFull : Str} {qn_StreamFull : Str} {N_StreamFull : Addr} {bs_StreamFull : List Value} {bm_StreamFull : List Value} {sub_StreamFull : List Value} {sn_StreamFull : List Str} {ab_StreamFull : Bool} {col_StreamFull : Option Bool} {dd_StreamFull : Option Addr} {k0_StreamFull k1_StreamFull k2_StreamFull k3_StreamFull k5_StreamFull : Option Value} {cda_StreamFull cc_StreamFull : Addr} {cl_StreamFull ccl_StreamFull : Value} {cld_StreamFull cdd_StreamFull : Option Addr} {csl_StreamFull ccs_StreamFull : Array (Option Value)} {vs_StreamFull : Array Value} {file_StreamFull : Str} {tf_StreamFull : Tok} {oc_lost_mark : Value} {dc_lost_mark : Value} {pm_lost_mark : Value} {cd_lost_mark : Value} {ct_lost_mark : Value} {kV_lost_mark : Value} {od_lost_mark : Option Addr} {an_lost_mark : Option Addr} {sl_lost_mark : Array (Option Value)} {oc_is_mark : Value} {dc_is_mark : Value} {pm_is_mark : Value} {cd_is_mark : Value} {ct_is_mark : Value} {kV_is_mark : Value} {od_is_mark : Option Addr} {an_is_mark : Option Addr} {sl_is_mark : Array (Option Value)} {oc_lost_by : Value} {dc_lost_by : Value} {pm_lost_by : Value} {cd_lost_by : Value} {ct_lost_by : Value} {kV_lost_by : Value} {od_lost_by : Option Addr} {an_lost_by : Option Addr} {sl_lost_by : Array (Option Value)} {oc_joined : Value} {dc_joined : Value} {pm_joined : Value} {cd_joined : Value} {ct_joined : Value} {kV_joined : Value} {od_joined : Option Addr} {an_joined : Option Addr} {sl_joined : Array (Option Value)} {oc_bytes_among : Value} {dc_bytes_among : Value} {pm_bytes_among : Value} {cd_bytes_among : Value} {ct_bytes_among : Value} {kV_bytes_among : Value} {od_bytes_among : Option Addr} {an_bytes_among : Option Addr} {sl_bytes_among : Array (Option Value)} {oc_ReadStream_init : Value} {dc_ReadStream_init : Value} {pm_ReadStream_init : Value} {cd_ReadStream_init : Value} {ct_ReadStream_init : Value} {kV_ReadStream_init : Value} {od_ReadStream_init : Option Addr} {an_ReadStream_init : Option Addr} {sl_ReadStream_init : Array (Option Value)} {oc_ReadStream_space : Value} {dc_ReadStream_space : Value} {pm_ReadStream_space : Value} {cd_ReadStream_space : Value} {ct_ReadStream_space : Value} {kV_ReadStream_space : Value} {od_ReadStream_space : Option Addr} {an_ReadStream_space : Option Addr} {sl_ReadStream_space : Array (Option Value)} {oc_ReadStream_append : Value} {dc_ReadStream_append : Value} {pm_ReadStream_append : Value} {cd_ReadStream_append : Value} {ct_ReadStream_append : Value} {kV_ReadStream_append : Value} {od_ReadStream_append : Option Addr} {an_ReadStream_append : Option Addr} {sl_ReadStream_append : Array (Option Value)} {oc_ReadStream_read : Value} {dc_ReadStream_read : Value} {pm_ReadStream_read : Value} {cd_ReadStream_read : Value} {ct_ReadStream_read : Value} {kV_ReadStream_read : Value} {od_ReadStream_read : Option Addr} {an_ReadStream_read : Option Addr} {sl_ReadStream_read : Array (Option Value)} {oc_ReadStream_contents : Value} {dc_ReadStream_contents : Value} {pm_ReadStream_contents : Value} {cd_ReadStream_contents : Value} {ct_ReadStream_contents : Value} {kV_ReadStream_contents : Value} {od_ReadStream_contents : Option Addr} {an_ReadStream_contents : Option Addr} {sl_ReadStream_contents : Array (Option Value)} {oc_ReadStream_append_one : Value} {dc_ReadStream_append_one : Value} {pm_ReadStream_append_one : Value} {cd_ReadStream_append_one : Value} {ct_ReadStream_append_one : Value} {kV_ReadStream_append_one : Value} {od_ReadStream_append_one : Option Addr} {an_ReadStream_append_one : Option Addr} {sl_ReadStream_append_one : Array (Option Value)} {oc_law_state : Value} {dc_law_state : Value} {pm_law_state : Value} {cd_law_state : Value} {ct_law_state : Value} {kV_law_state : Value} {od_law_state : Option Addr} {an_law_state : Option Addr} {sl_law_state : Array (Option Value)} {oc_law_draw : Value} {dc_law_draw : Value} {pm_law_draw : Value} {cd_law_draw : Value} {ct_law_draw : Value} {kV_law_draw : Value} {od_law_draw : Option Addr} {an_law_draw : Option Addr} {sl_law_draw : Array (Option Value)} {oc_law_pick : Value} {dc_law_pick : Value} {pm_law_pick : Value} {cd_law_pick : Value} {ct_law_pick : Value} {kV_law_pick : Value} {od_law_pick : Option Addr} {an_law_pick : Option Addr} {sl_law_pick : Array (Option Value)} {oc_law_bytes : Value} {dc_law_bytes : Value} {pm_law_bytes : Value} {cd_law_bytes : Value} {ct_law_bytes : Value} {kV_law_bytes : Value} {od_law_bytes : Option Addr} {an_law_bytes : Option Addr} {sl_law_bytes : Array (Option Value)} {oc_law_append : Value} {dc_law_append : Value} {pm_law_append : Value} {cd_law_append : Value} {ct_law_append : Value} {kV_law_append : Value} {od_law_append : Option Addr} {an_law_append : Option Addr} {sl_law_append : Array (Option Value)} {oc_law_items : Value} {dc_law_items : Value} {pm_law_items : Value} {cd_law_items : Value} {ct_law_items : Value} {kV_law_items : Value} {od_law_items : Option Addr} {an_law_items : Option Addr} {sl_law_items : Array (Option Value)} {oc_law_appends : Value} {dc_law_appends : Value} {pm_law_appends : Value} {cd_law_appends : Value} {ct_law_appends : Value} {kV_law_appends : Value} {od_law_appends : Option Addr} {an_law_appends : Option Addr} {sl_law_appends : Array (Option Value)} {oc_law_split : Value} {dc_law_split : Value} {pm_law_split : Value} {cd_law_split : Value} {ct_law_split : Value} {kV_law_split : Value} {od_law_split : Option Addr} {an_law_split : Option Addr} {sl_law_split : Array (Option Value)} {oc_law_agrees : Value} {dc_law_agrees : Value} {pm_law_agrees : Value} {cd_law_agrees : Value} {ct_law_agrees : Value} {kV_law_agrees : Value} {od_law_agrees : Option Addr} {an_law_agrees : Option Addr} {sl_law_agrees : Array (Option Value)} {oc_law : Value} {dc_law : Value} {pm_law : Value} {cd_law : Value} {ct_law : Value} {kV_law : Value} {od_law : Option Addr} {an_law : Option Addr} {sl_law : Array (Option Value)}
    (gC_TickringsError : PySem.W.nsIn K mainGlobals "TickringsError" = some (some (.ref C_TickringsError)))
    (gC_StreamFull : PySem.W.nsIn K mainGlobals "StreamFull" = some (some (.ref C_StreamFull)))
    (gC_ReadStream : PySem.W.nsIn K mainGlobals "ReadStream" = some (some (.ref C_ReadStream)))
    (x_StreamFull : K.lookup C_StreamFull = some (excClassObj nm_StreamFull qn_StreamFull C_StreamFull N_StreamFull bs_StreamFull bm_StreamFull true sn_StreamFull sub_StreamFull ab_StreamFull col_StreamFull dd_StreamFull k0_StreamFull k1_StreamFull k2_StreamFull k3_StreamFull k5_StreamFull "ValueError.__new__"))
    (hbm_StreamFull : PySem.HandSPX.refsVE bm_StreamFull = true)
    (sa_StreamFull : PySem.W.findIn K (.ref C_StreamFull) "__setattr__" = some (some (.builtin "object.__setattr__")))
    (ex_StreamFull : PySem.W.subIn K (.ref C_StreamFull) (.type "BaseException") = some true)
    (ty_StreamFull : PySem.W.typeIn K (.ref C_StreamFull) = some (.type "type"))
    (kp_StreamFull : PySem.W.keepIn K (.ref C_StreamFull) = true)
    (su_StreamFull : PySem.W.ks_superIn K C_StreamFull C_StreamFull "__init__" = some (some (.builtin "ValueError.__init__")))
    (ve_StreamFull : PySem.W.subIn K (.ref C_StreamFull) (.type "ValueError") = some true)
    (op_StreamFull : PySem.W.nsIn K cStatics "thirdparty.any" = some none)
    (sm_StreamFull : PySem.W.mroIn K C_StreamFull (.ref C_StreamFull) = some true)
    (ic_StreamFull : PySem.W.findIn K (.ref C_StreamFull) "__init__" = some (some (.ref f_StreamFull_init)))
    (ti_StreamFull : PySem.W.typeIn K (.ref f_StreamFull_init) = some (.type "function"))
    (l_StreamFull_init : K.lookup f_StreamFull_init = some ⟨oc_StreamFull_init, od_StreamFull_init, .func (PySem.W.fnX "__init__" "StreamFull.__init__" (defArgs s_StreamFull_init) (defBody s_StreamFull_init) (defScope s_StreamFull_init) [("__class__", cc_StreamFull)] .none kV_StreamFull_init dc_StreamFull_init pm_StreamFull_init an_StreamFull_init (.ref cda_StreamFull) ct_StreamFull_init), sl_StreamFull_init⟩)
    (c_StreamFull_init : PySem.W.codeIn K (.ref cda_StreamFull) "StreamFull.__init__" = true)
    (ce_StreamFull : K.lookup cc_StreamFull = some ⟨cl_StreamFull, cld_StreamFull, .cell (some (.ref C_StreamFull)), csl_StreamFull⟩)
    (co_StreamFull : K.lookup cda_StreamFull = some ⟨ccl_StreamFull, cdd_StreamFull, .fields vs_StreamFull, ccs_StreamFull⟩)
    (cv_StreamFull : vs_StreamFull[2]? = some (.str file_StreamFull tf_StreamFull))
    (cf_StreamFull : ((PySem.Challenge.pw_tickrings_k11_read_streams.main.file : Str) == file_StreamFull) = true)
    (no_StreamFull : PySem.W.findIn K (.ref C_StreamFull) "space" = some none)
    (ga_StreamFull : PySem.W.findIn K (.ref C_StreamFull) "__getattribute__" = some (some (.builtin "BaseException.__getattribute__")))
    (gg_StreamFull : PySem.W.findIn K (.ref C_StreamFull) "__getattr__" = some none)
    (hd_StreamFull : PySem.W.hasDictIn K C_StreamFull = true)
    (ha_StreamFull : PySem.W.findIn K (.ref C_StreamFull) "__class__" = some (some (.builtin "object.__class__")))
    (hn_StreamFull : PySem.W.specialIn K (.builtin "object.__class__") "__get__" = some (some (.builtin "getset_descriptor.__get__")))
    (ht_StreamFull : PySem.W.takesIn K (.builtin "object.__class__") = some true)
    (hm_StreamFull : PySem.W.mroIn K C_StreamFull (.type "object") = some true)
    (ow_StreamFull : PySem.W.subIn K (.ref C_StreamFull) (.ref C_StreamFull) = some true)
    (a_lost_mark : PySem.W.nsIn K mainGlobals "lost_mark" = some (some (.ref f_lost_mark)))
    (l_lost_mark : K.lookup f_lost_mark = some ⟨oc_lost_mark, od_lost_mark, .func (PySem.W.fnOf "lost_mark" "lost_mark" (defArgs s_lost_mark) (defBody s_lost_mark) (defScope s_lost_mark) .none kV_lost_mark dc_lost_mark pm_lost_mark an_lost_mark cd_lost_mark ct_lost_mark), sl_lost_mark⟩)
    (c_lost_mark : PySem.W.codeIn K cd_lost_mark "lost_mark" = true)
    (k_lost_mark : PySem.W.keepIn K (.ref f_lost_mark) = true)
    (a_is_mark : PySem.W.nsIn K mainGlobals "is_mark" = some (some (.ref f_is_mark)))
    (l_is_mark : K.lookup f_is_mark = some ⟨oc_is_mark, od_is_mark, .func (PySem.W.fnOf "is_mark" "is_mark" (defArgs s_is_mark) (defBody s_is_mark) (defScope s_is_mark) .none kV_is_mark dc_is_mark pm_is_mark an_is_mark cd_is_mark ct_is_mark), sl_is_mark⟩)
    (c_is_mark : PySem.W.codeIn K cd_is_mark "is_mark" = true)
    (k_is_mark : PySem.W.keepIn K (.ref f_is_mark) = true)
    (a_lost_by : PySem.W.nsIn K mainGlobals "lost_by" = some (some (.ref f_lost_by)))
    (l_lost_by : K.lookup f_lost_by = some ⟨oc_lost_by, od_lost_by, .func (PySem.W.fnOf "lost_by" "lost_by" (defArgs s_lost_by) (defBody s_lost_by) (defScope s_lost_by) .none kV_lost_by dc_lost_by pm_lost_by an_lost_by cd_lost_by ct_lost_by), sl_lost_by⟩)
    (c_lost_by : PySem.W.codeIn K cd_lost_by "lost_by" = true)
    (k_lost_by : PySem.W.keepIn K (.ref f_lost_by) = true)
    (a_joined : PySem.W.nsIn K mainGlobals "joined" = some (some (.ref f_joined)))
    (l_joined : K.lookup f_joined = some ⟨oc_joined, od_joined, .func (PySem.W.fnOf "joined" "joined" (defArgs s_joined) (defBody s_joined) (defScope s_joined) .none kV_joined dc_joined pm_joined an_joined cd_joined ct_joined), sl_joined⟩)
    (c_joined : PySem.W.codeIn K cd_joined "joined" = true)
    (k_joined : PySem.W.keepIn K (.ref f_joined) = true)
    (a_bytes_among : PySem.W.nsIn K mainGlobals "bytes_among" = some (some (.ref f_bytes_among)))
    (l_bytes_among : K.lookup f_bytes_among = some ⟨oc_bytes_among, od_bytes_among, .func (PySem.W.fnOf "bytes_among" "bytes_among" (defArgs s_bytes_among) (defBody s_bytes_among) (defScope s_bytes_among) .none kV_bytes_among dc_bytes_among pm_bytes_among an_bytes_among cd_bytes_among ct_bytes_among), sl_bytes_among⟩)
    (c_bytes_among : PySem.W.codeIn K cd_bytes_among "bytes_among" = true)
    (k_bytes_among : PySem.W.keepIn K (.ref f_bytes_among) = true)
    (a_ReadStream_init : PySem.W.findIn K (.ref C_ReadStream) "__init__" = some (some (.ref f_ReadStream_init)))
    (i_ReadStream_init : PySem.W.isFn K (.ref f_ReadStream_init) = true)
    (l_ReadStream_init : K.lookup f_ReadStream_init = some ⟨oc_ReadStream_init, od_ReadStream_init, .func (PySem.W.fnOf "__init__" "ReadStream.__init__" (defArgs s_ReadStream_init) (defBody s_ReadStream_init) (defScope s_ReadStream_init) .none kV_ReadStream_init dc_ReadStream_init pm_ReadStream_init an_ReadStream_init cd_ReadStream_init ct_ReadStream_init), sl_ReadStream_init⟩)
    (c_ReadStream_init : PySem.W.codeIn K cd_ReadStream_init "ReadStream.__init__" = true)
    (k_ReadStream_init : PySem.W.keepIn K (.ref f_ReadStream_init) = true)
    (a_ReadStream_space : PySem.W.findIn K (.ref C_ReadStream) "space" = some (some (.ref f_ReadStream_space)))
    (i_ReadStream_space : PySem.W.isFn K (.ref f_ReadStream_space) = true)
    (l_ReadStream_space : K.lookup f_ReadStream_space = some ⟨oc_ReadStream_space, od_ReadStream_space, .func (PySem.W.fnOf "space" "ReadStream.space" (defArgs s_ReadStream_space) (defBody s_ReadStream_space) (defScope s_ReadStream_space) .none kV_ReadStream_space dc_ReadStream_space pm_ReadStream_space an_ReadStream_space cd_ReadStream_space ct_ReadStream_space), sl_ReadStream_space⟩)
    (c_ReadStream_space : PySem.W.codeIn K cd_ReadStream_space "ReadStream.space" = true)
    (k_ReadStream_space : PySem.W.keepIn K (.ref f_ReadStream_space) = true)
    (a_ReadStream_append : PySem.W.findIn K (.ref C_ReadStream) "append" = some (some (.ref f_ReadStream_append)))
    (i_ReadStream_append : PySem.W.isFn K (.ref f_ReadStream_append) = true)
    (l_ReadStream_append : K.lookup f_ReadStream_append = some ⟨oc_ReadStream_append, od_ReadStream_append, .func (PySem.W.fnOf "append" "ReadStream.append" (defArgs s_ReadStream_append) (defBody s_ReadStream_append) (defScope s_ReadStream_append) .none kV_ReadStream_append dc_ReadStream_append pm_ReadStream_append an_ReadStream_append cd_ReadStream_append ct_ReadStream_append), sl_ReadStream_append⟩)
    (c_ReadStream_append : PySem.W.codeIn K cd_ReadStream_append "ReadStream.append" = true)
    (k_ReadStream_append : PySem.W.keepIn K (.ref f_ReadStream_append) = true)
    (a_ReadStream_read : PySem.W.findIn K (.ref C_ReadStream) "read" = some (some (.ref f_ReadStream_read)))
    (i_ReadStream_read : PySem.W.isFn K (.ref f_ReadStream_read) = true)
    (l_ReadStream_read : K.lookup f_ReadStream_read = some ⟨oc_ReadStream_read, od_ReadStream_read, .func (PySem.W.fnOf "read" "ReadStream.read" (defArgs s_ReadStream_read) (defBody s_ReadStream_read) (defScope s_ReadStream_read) .none kV_ReadStream_read dc_ReadStream_read pm_ReadStream_read an_ReadStream_read cd_ReadStream_read ct_ReadStream_read), sl_ReadStream_read⟩)
    (c_ReadStream_read : PySem.W.codeIn K cd_ReadStream_read "ReadStream.read" = true)
    (k_ReadStream_read : PySem.W.keepIn K (.ref f_ReadStream_read) = true)
    (a_ReadStream_contents : PySem.W.findIn K (.ref C_ReadStream) "contents" = some (some (.ref f_ReadStream_contents)))
    (i_ReadStream_contents : PySem.W.isFn K (.ref f_ReadStream_contents) = true)
    (l_ReadStream_contents : K.lookup f_ReadStream_contents = some ⟨oc_ReadStream_contents, od_ReadStream_contents, .func (PySem.W.fnOf "contents" "ReadStream.contents" (defArgs s_ReadStream_contents) (defBody s_ReadStream_contents) (defScope s_ReadStream_contents) .none kV_ReadStream_contents dc_ReadStream_contents pm_ReadStream_contents an_ReadStream_contents cd_ReadStream_contents ct_ReadStream_contents), sl_ReadStream_contents⟩)
    (c_ReadStream_contents : PySem.W.codeIn K cd_ReadStream_contents "ReadStream.contents" = true)
    (k_ReadStream_contents : PySem.W.keepIn K (.ref f_ReadStream_contents) = true)
    (a_ReadStream_append_one : PySem.W.findIn K (.ref C_ReadStream) "_append_one" = some (some (.ref f_ReadStream_append_one)))
    (i_ReadStream_append_one : PySem.W.isFn K (.ref f_ReadStream_append_one) = true)
    (l_ReadStream_append_one : K.lookup f_ReadStream_append_one = some ⟨oc_ReadStream_append_one, od_ReadStream_append_one, .func (PySem.W.fnOf "_append_one" "ReadStream._append_one" (defArgs s_ReadStream_append_one) (defBody s_ReadStream_append_one) (defScope s_ReadStream_append_one) .none kV_ReadStream_append_one dc_ReadStream_append_one pm_ReadStream_append_one an_ReadStream_append_one cd_ReadStream_append_one ct_ReadStream_append_one), sl_ReadStream_append_one⟩)
    (c_ReadStream_append_one : PySem.W.codeIn K cd_ReadStream_append_one "ReadStream._append_one" = true)
    (k_ReadStream_append_one : PySem.W.keepIn K (.ref f_ReadStream_append_one) = true)
    (a_law_state : PySem.W.nsIn K mainGlobals "_law_state" = some (some (.ref f_law_state)))
    (l_law_state : K.lookup f_law_state = some ⟨oc_law_state, od_law_state, .func (PySem.W.fnOf "_law_state" "_law_state" (defArgs s_law_state) (defBody s_law_state) (defScope s_law_state) .none kV_law_state dc_law_state pm_law_state an_law_state cd_law_state ct_law_state), sl_law_state⟩)
    (c_law_state : PySem.W.codeIn K cd_law_state "_law_state" = true)
    (k_law_state : PySem.W.keepIn K (.ref f_law_state) = true)
    (a_law_draw : PySem.W.nsIn K mainGlobals "_law_draw" = some (some (.ref f_law_draw)))
    (l_law_draw : K.lookup f_law_draw = some ⟨oc_law_draw, od_law_draw, .func (PySem.W.fnOf "_law_draw" "_law_draw" (defArgs s_law_draw) (defBody s_law_draw) (defScope s_law_draw) .none kV_law_draw dc_law_draw pm_law_draw an_law_draw cd_law_draw ct_law_draw), sl_law_draw⟩)
    (c_law_draw : PySem.W.codeIn K cd_law_draw "_law_draw" = true)
    (k_law_draw : PySem.W.keepIn K (.ref f_law_draw) = true)
    (a_law_pick : PySem.W.nsIn K mainGlobals "_law_pick" = some (some (.ref f_law_pick)))
    (l_law_pick : K.lookup f_law_pick = some ⟨oc_law_pick, od_law_pick, .func (PySem.W.fnOf "_law_pick" "_law_pick" (defArgs s_law_pick) (defBody s_law_pick) (defScope s_law_pick) .none kV_law_pick dc_law_pick pm_law_pick an_law_pick cd_law_pick ct_law_pick), sl_law_pick⟩)
    (c_law_pick : PySem.W.codeIn K cd_law_pick "_law_pick" = true)
    (k_law_pick : PySem.W.keepIn K (.ref f_law_pick) = true)
    (a_law_bytes : PySem.W.nsIn K mainGlobals "_law_bytes" = some (some (.ref f_law_bytes)))
    (l_law_bytes : K.lookup f_law_bytes = some ⟨oc_law_bytes, od_law_bytes, .func (PySem.W.fnOf "_law_bytes" "_law_bytes" (defArgs s_law_bytes) (defBody s_law_bytes) (defScope s_law_bytes) .none kV_law_bytes dc_law_bytes pm_law_bytes an_law_bytes cd_law_bytes ct_law_bytes), sl_law_bytes⟩)
    (c_law_bytes : PySem.W.codeIn K cd_law_bytes "_law_bytes" = true)
    (k_law_bytes : PySem.W.keepIn K (.ref f_law_bytes) = true)
    (a_law_append : PySem.W.nsIn K mainGlobals "_law_append" = some (some (.ref f_law_append)))
    (l_law_append : K.lookup f_law_append = some ⟨oc_law_append, od_law_append, .func (PySem.W.fnOf "_law_append" "_law_append" (defArgs s_law_append) (defBody s_law_append) (defScope s_law_append) .none kV_law_append dc_law_append pm_law_append an_law_append cd_law_append ct_law_append), sl_law_append⟩)
    (c_law_append : PySem.W.codeIn K cd_law_append "_law_append" = true)
    (k_law_append : PySem.W.keepIn K (.ref f_law_append) = true)
    (a_law_items : PySem.W.nsIn K mainGlobals "_law_items" = some (some (.ref f_law_items)))
    (l_law_items : K.lookup f_law_items = some ⟨oc_law_items, od_law_items, .func (PySem.W.fnOf "_law_items" "_law_items" (defArgs s_law_items) (defBody s_law_items) (defScope s_law_items) .none kV_law_items dc_law_items pm_law_items an_law_items cd_law_items ct_law_items), sl_law_items⟩)
    (c_law_items : PySem.W.codeIn K cd_law_items "_law_items" = true)
    (k_law_items : PySem.W.keepIn K (.ref f_law_items) = true)
    (a_law_appends : PySem.W.nsIn K mainGlobals "_law_appends" = some (some (.ref f_law_appends)))
    (l_law_appends : K.lookup f_law_appends = some ⟨oc_law_appends, od_law_appends, .func (PySem.W.fnOf "_law_appends" "_law_appends" (defArgs s_law_appends) (defBody s_law_appends) (defScope s_law_appends) .none kV_law_appends dc_law_appends pm_law_appends an_law_appends cd_law_appends ct_law_appends), sl_law_appends⟩)
    (c_law_appends : PySem.W.codeIn K cd_law_appends "_law_appends" = true)
    (k_law_appends : PySem.W.keepIn K (.ref f_law_appends) = true)
    (a_law_split : PySem.W.nsIn K mainGlobals "_law_split" = some (some (.ref f_law_split)))
    (l_law_split : K.lookup f_law_split = some ⟨oc_law_split, od_law_split, .func (PySem.W.fnOf "_law_split" "_law_split" (defArgs s_law_split) (defBody s_law_split) (defScope s_law_split) .none kV_law_split dc_law_split pm_law_split an_law_split cd_law_split ct_law_split), sl_law_split⟩)
    (c_law_split : PySem.W.codeIn K cd_law_split "_law_split" = true)
    (k_law_split : PySem.W.keepIn K (.ref f_law_split) = true)
    (a_law_agrees : PySem.W.nsIn K mainGlobals "_law_agrees" = some (some (.ref f_law_agrees)))
    (l_law_agrees : K.lookup f_law_agrees = some ⟨oc_law_agrees, od_law_agrees, .func (PySem.W.fnOf "_law_agrees" "_law_agrees" (defArgs s_law_agrees) (defBody s_law_agrees) (defScope s_law_agrees) .none kV_law_agrees dc_law_agrees pm_law_agrees an_law_agrees cd_law_agrees ct_law_agrees), sl_law_agrees⟩)
    (c_law_agrees : PySem.W.codeIn K cd_law_agrees "_law_agrees" = true)
    (k_law_agrees : PySem.W.keepIn K (.ref f_law_agrees) = true)
    (a_law : PySem.W.nsIn K mainGlobals "law" = some (some (.ref f_law)))
    (l_law : K.lookup f_law = some ⟨oc_law, od_law, .func (PySem.W.fnOf "law" "law" (defArgs s_law) (defBody s_law) (defScope s_law) .none kV_law dc_law pm_law an_law cd_law ct_law), sl_law⟩)
    (c_law : PySem.W.codeIn K cd_law "law" = true)
    (k_law : PySem.W.keepIn K (.ref f_law) = true)
    (pg_ReadStream : PySem.W.plainGet K C_ReadStream Str.empty = true)
    (hd_ReadStream : PySem.W.hasDictIn K C_ReadStream = true)
    (po_ReadStream : PySem.W.plainOver K C_ReadStream = true)
    (sa_ReadStream : PySem.W.findIn K (.ref C_ReadStream) "__setattr__" = some (some (.builtin "object.__setattr__")))
    (mk_ReadStream : PySem.W.makesIn K C_ReadStream = true)
    (kc_ReadStream : PySem.W.keepIn K (.ref C_ReadStream) = true)
    (n_ReadStream_room : PySem.W.findIn K (.ref C_ReadStream) "room" = some none)
    (n_ReadStream_items : PySem.W.findIn K (.ref C_ReadStream) "_items" = some none)
    (z_abs : PySem.W.nsIn K mainGlobals "abs" = some none)
    (z_int : PySem.W.nsIn K mainGlobals "int" = some none)
    (z_isinstance : PySem.W.nsIn K mainGlobals "isinstance" = some none)
    (z_len : PySem.W.nsIn K mainGlobals "len" = some none)
    (z_list : PySem.W.nsIn K mainGlobals "list" = some none)
    (z_range : PySem.W.nsIn K mainGlobals "range" = some none)
    (z_repr : PySem.W.nsIn K mainGlobals "repr" = some none)
    (z_super : PySem.W.nsIn K mainGlobals "super" = some none)
    (z_tuple : PySem.W.nsIn K mainGlobals "tuple" = some none)
    (is_StreamFull_TickringsError : PySem.W.kitOne K (.ref C_StreamFull) (.ref C_TickringsError) = some true)
    : ∃ fd : FuncData, (∀ (s : Shared) (v : Value), BindsTo s fd ⟨[v], []⟩ [("script", v)]) ∧ ∀ base : Heap, K.In base → base.Ns mainGlobals mg → FnG l.prog w K mg base (L2.CX l.prog w) 6 fa fd ["script"] (sp_law0 K) := by
  have e : f_law = fa := by
    have z := hfa.symm.trans (PySem.W.mg_of X G a_law)
    cases z
    rfl
  subst e
  have F_lost_mark := fun_mk (st := s_lost_mark) l_lost_mark c_lost_mark k_lost_mark
  have b_lost_mark := F_lost_mark.binds (ps := ["many"]) fun _ _ _ _ _ _ us hl => match us, hl with | [_], _ => rfl
  have F_is_mark := fun_mk (st := s_is_mark) l_is_mark c_is_mark k_is_mark
  have b_is_mark := F_is_mark.binds (ps := ["item"]) fun _ _ _ _ _ _ us hl => match us, hl with | [_], _ => rfl
  have F_lost_by := fun_mk (st := s_lost_by) l_lost_by c_lost_by k_lost_by
  have b_lost_by := F_lost_by.binds (ps := ["mark"]) fun _ _ _ _ _ _ us hl => match us, hl with | [_], _ => rfl
  have F_joined := fun_mk (st := s_joined) l_joined c_joined k_joined
  have b_joined := F_joined.binds (ps := ["mark", "other"]) fun _ _ _ _ _ _ us hl => match us, hl with | [_, _], _ => rfl
  have F_bytes_among := fun_mk (st := s_bytes_among) l_bytes_among c_bytes_among k_bytes_among
  have b_bytes_among := F_bytes_among.binds (ps := ["items"]) fun _ _ _ _ _ _ us hl => match us, hl with | [_], _ => rfl
  have F_ReadStream_init := fun_mk (st := s_ReadStream_init) l_ReadStream_init c_ReadStream_init k_ReadStream_init
  have b_ReadStream_init := F_ReadStream_init.binds (ps := ["self", "room"]) fun _ _ _ _ _ _ us hl => match us, hl with | [_, _], _ => rfl
  have F_ReadStream_space := fun_mk (st := s_ReadStream_space) l_ReadStream_space c_ReadStream_space k_ReadStream_space
  have b_ReadStream_space := F_ReadStream_space.binds (ps := ["self"]) fun _ _ _ _ _ _ us hl => match us, hl with | [_], _ => rfl
  have F_ReadStream_append := fun_mk (st := s_ReadStream_append) l_ReadStream_append c_ReadStream_append k_ReadStream_append
  have b_ReadStream_append := F_ReadStream_append.binds (ps := ["self", "items"]) fun _ _ _ _ _ _ us hl => match us, hl with | [_, _], _ => rfl
  have F_ReadStream_read := fun_mk (st := s_ReadStream_read) l_ReadStream_read c_ReadStream_read k_ReadStream_read
  have b_ReadStream_read := F_ReadStream_read.binds (ps := ["self", "n"]) fun _ _ _ _ _ _ us hl => match us, hl with | [_, _], _ => rfl
  have F_ReadStream_contents := fun_mk (st := s_ReadStream_contents) l_ReadStream_contents c_ReadStream_contents k_ReadStream_contents
  have b_ReadStream_contents := F_ReadStream_contents.binds (ps := ["self"]) fun _ _ _ _ _ _ us hl => match us, hl with | [_], _ => rfl
  have F_ReadStream_append_one := fun_mk (st := s_ReadStream_append_one) l_ReadStream_append_one c_ReadStream_append_one k_ReadStream_append_one
  have b_ReadStream_append_one := F_ReadStream_append_one.binds (ps := ["self", "item"]) fun _ _ _ _ _ _ us hl => match us, hl with | [_, _], _ => rfl
  have F_law_state := fun_mk (st := s_law_state) l_law_state c_law_state k_law_state
  have b_law_state := F_law_state.binds (ps := ["script"]) fun _ _ _ _ _ _ us hl => match us, hl with | [_], _ => rfl
  have F_law_draw := fun_mk (st := s_law_draw) l_law_draw c_law_draw k_law_draw
  have b_law_draw := F_law_draw.binds (ps := ["state", "many"]) fun _ _ _ _ _ _ us hl => match us, hl with | [_, _], _ => rfl
  have F_law_pick := fun_mk (st := s_law_pick) l_law_pick c_law_pick k_law_pick
  have b_law_pick := F_law_pick.binds (ps := ["state", "row"]) fun _ _ _ _ _ _ us hl => match us, hl with | [_, _], _ => rfl
  have F_law_bytes := fun_mk (st := s_law_bytes) l_law_bytes c_law_bytes k_law_bytes
  have b_law_bytes := F_law_bytes.binds (ps := ["items"]) fun _ _ _ _ _ _ us hl => match us, hl with | [_], _ => rfl
  have F_law_append := fun_mk (st := s_law_append) l_law_append c_law_append k_law_append
  have b_law_append := F_law_append.binds (ps := ["rows", "items"]) fun _ _ _ _ _ _ us hl => match us, hl with | [_, _], _ => rfl
  have F_law_items := fun_mk (st := s_law_items) l_law_items c_law_items k_law_items
  have b_law_items := F_law_items.binds (ps := ["state"]) fun _ _ _ _ _ _ us hl => match us, hl with | [_], _ => rfl
  have F_law_appends := fun_mk (st := s_law_appends) l_law_appends c_law_appends k_law_appends
  have b_law_appends := F_law_appends.binds (ps := ["stream", "rows", "items", "room"]) fun _ _ _ _ _ _ us hl => match us, hl with | [_, _, _, _], _ => rfl
  have F_law_split := fun_mk (st := s_law_split) l_law_split c_law_split k_law_split
  have b_law_split := F_law_split.binds (ps := ["rows", "n"]) fun _ _ _ _ _ _ us hl => match us, hl with | [_, _], _ => rfl
  have F_law_agrees := fun_mk (st := s_law_agrees) l_law_agrees c_law_agrees k_law_agrees
  have b_law_agrees := F_law_agrees.binds (ps := ["stream", "rows", "room"]) fun _ _ _ _ _ _ us hl => match us, hl with | [_, _, _], _ => rfl
  have F_law := fun_mk (st := s_law) l_law c_law k_law
  have b_law := F_law.binds (ps := ["script"]) fun _ _ _ _ _ _ us hl => match us, hl with | [_], _ => rfl
  let a : Ads := { C_TickringsError := C_TickringsError, C_StreamFull := C_StreamFull, C_ReadStream := C_ReadStream, f_StreamFull_init := f_StreamFull_init, f_lost_mark := f_lost_mark, f_is_mark := f_is_mark, f_lost_by := f_lost_by, f_joined := f_joined, f_bytes_among := f_bytes_among, f_ReadStream_init := f_ReadStream_init, f_ReadStream_space := f_ReadStream_space, f_ReadStream_append := f_ReadStream_append, f_ReadStream_read := f_ReadStream_read, f_ReadStream_contents := f_ReadStream_contents, f_ReadStream_append_one := f_ReadStream_append_one, f_law_state := f_law_state, f_law_draw := f_law_draw, f_law_pick := f_law_pick, f_law_bytes := f_law_bytes, f_law_append := f_law_append, f_law_items := f_law_items, f_law_appends := f_law_appends, f_law_split := f_law_split, f_law_agrees := f_law_agrees, f_law := f_law, fd_StreamFull_init := (PySem.W.fnX "__init__" "StreamFull.__init__" (defArgs s_StreamFull_init) (defBody s_StreamFull_init) (defScope s_StreamFull_init) [("__class__", cc_StreamFull)] .none kV_StreamFull_init dc_StreamFull_init pm_StreamFull_init an_StreamFull_init (.ref cda_StreamFull) ct_StreamFull_init), fd_lost_mark := (PySem.W.fnOf "lost_mark" "lost_mark" (defArgs s_lost_mark) (defBody s_lost_mark) (defScope s_lost_mark) .none kV_lost_mark dc_lost_mark pm_lost_mark an_lost_mark cd_lost_mark ct_lost_mark), fd_is_mark := (PySem.W.fnOf "is_mark" "is_mark" (defArgs s_is_mark) (defBody s_is_mark) (defScope s_is_mark) .none kV_is_mark dc_is_mark pm_is_mark an_is_mark cd_is_mark ct_is_mark), fd_lost_by := (PySem.W.fnOf "lost_by" "lost_by" (defArgs s_lost_by) (defBody s_lost_by) (defScope s_lost_by) .none kV_lost_by dc_lost_by pm_lost_by an_lost_by cd_lost_by ct_lost_by), fd_joined := (PySem.W.fnOf "joined" "joined" (defArgs s_joined) (defBody s_joined) (defScope s_joined) .none kV_joined dc_joined pm_joined an_joined cd_joined ct_joined), fd_bytes_among := (PySem.W.fnOf "bytes_among" "bytes_among" (defArgs s_bytes_among) (defBody s_bytes_among) (defScope s_bytes_among) .none kV_bytes_among dc_bytes_among pm_bytes_among an_bytes_among cd_bytes_among ct_bytes_among), fd_ReadStream_init := (PySem.W.fnOf "__init__" "ReadStream.__init__" (defArgs s_ReadStream_init) (defBody s_ReadStream_init) (defScope s_ReadStream_init) .none kV_ReadStream_init dc_ReadStream_init pm_ReadStream_init an_ReadStream_init cd_ReadStream_init ct_ReadStream_init), fd_ReadStream_space := (PySem.W.fnOf "space" "ReadStream.space" (defArgs s_ReadStream_space) (defBody s_ReadStream_space) (defScope s_ReadStream_space) .none kV_ReadStream_space dc_ReadStream_space pm_ReadStream_space an_ReadStream_space cd_ReadStream_space ct_ReadStream_space), fd_ReadStream_append := (PySem.W.fnOf "append" "ReadStream.append" (defArgs s_ReadStream_append) (defBody s_ReadStream_append) (defScope s_ReadStream_append) .none kV_ReadStream_append dc_ReadStream_append pm_ReadStream_append an_ReadStream_append cd_ReadStream_append ct_ReadStream_append), fd_ReadStream_read := (PySem.W.fnOf "read" "ReadStream.read" (defArgs s_ReadStream_read) (defBody s_ReadStream_read) (defScope s_ReadStream_read) .none kV_ReadStream_read dc_ReadStream_read pm_ReadStream_read an_ReadStream_read cd_ReadStream_read ct_ReadStream_read), fd_ReadStream_contents := (PySem.W.fnOf "contents" "ReadStream.contents" (defArgs s_ReadStream_contents) (defBody s_ReadStream_contents) (defScope s_ReadStream_contents) .none kV_ReadStream_contents dc_ReadStream_contents pm_ReadStream_contents an_ReadStream_contents cd_ReadStream_contents ct_ReadStream_contents), fd_ReadStream_append_one := (PySem.W.fnOf "_append_one" "ReadStream._append_one" (defArgs s_ReadStream_append_one) (defBody s_ReadStream_append_one) (defScope s_ReadStream_append_one) .none kV_ReadStream_append_one dc_ReadStream_append_one pm_ReadStream_append_one an_ReadStream_append_one cd_ReadStream_append_one ct_ReadStream_append_one), fd_law_state := (PySem.W.fnOf "_law_state" "_law_state" (defArgs s_law_state) (defBody s_law_state) (defScope s_law_state) .none kV_law_state dc_law_state pm_law_state an_law_state cd_law_state ct_law_state), fd_law_draw := (PySem.W.fnOf "_law_draw" "_law_draw" (defArgs s_law_draw) (defBody s_law_draw) (defScope s_law_draw) .none kV_law_draw dc_law_draw pm_law_draw an_law_draw cd_law_draw ct_law_draw), fd_law_pick := (PySem.W.fnOf "_law_pick" "_law_pick" (defArgs s_law_pick) (defBody s_law_pick) (defScope s_law_pick) .none kV_law_pick dc_law_pick pm_law_pick an_law_pick cd_law_pick ct_law_pick), fd_law_bytes := (PySem.W.fnOf "_law_bytes" "_law_bytes" (defArgs s_law_bytes) (defBody s_law_bytes) (defScope s_law_bytes) .none kV_law_bytes dc_law_bytes pm_law_bytes an_law_bytes cd_law_bytes ct_law_bytes), fd_law_append := (PySem.W.fnOf "_law_append" "_law_append" (defArgs s_law_append) (defBody s_law_append) (defScope s_law_append) .none kV_law_append dc_law_append pm_law_append an_law_append cd_law_append ct_law_append), fd_law_items := (PySem.W.fnOf "_law_items" "_law_items" (defArgs s_law_items) (defBody s_law_items) (defScope s_law_items) .none kV_law_items dc_law_items pm_law_items an_law_items cd_law_items ct_law_items), fd_law_appends := (PySem.W.fnOf "_law_appends" "_law_appends" (defArgs s_law_appends) (defBody s_law_appends) (defScope s_law_appends) .none kV_law_appends dc_law_appends pm_law_appends an_law_appends cd_law_appends ct_law_appends), fd_law_split := (PySem.W.fnOf "_law_split" "_law_split" (defArgs s_law_split) (defBody s_law_split) (defScope s_law_split) .none kV_law_split dc_law_split pm_law_split an_law_split cd_law_split ct_law_split), fd_law_agrees := (PySem.W.fnOf "_law_agrees" "_law_agrees" (defArgs s_law_agrees) (defBody s_law_agrees) (defScope s_law_agrees) .none kV_law_agrees dc_law_agrees pm_law_agrees an_law_agrees cd_law_agrees ct_law_agrees), fd_law := (PySem.W.fnOf "law" "law" (defArgs s_law) (defBody s_law) (defScope s_law) .none kV_law dc_law pm_law an_law cd_law ct_law) }
  refine ⟨a.fd_law, fun s v => .of_eq rfl, fun base hKb hGb => ?_⟩
  have E_StreamFull : ErrC l.prog K mg C_StreamFull := ⟨⟨⟨nm_StreamFull, qn_StreamFull, N_StreamFull, bs_StreamFull, bm_StreamFull, sn_StreamFull, sub_StreamFull, ab_StreamFull, col_StreamFull, dd_StreamFull, k0_StreamFull, k1_StreamFull, k2_StreamFull, k3_StreamFull, k5_StreamFull, x_StreamFull, hbm_StreamFull⟩, sa_StreamFull, ex_StreamFull, ty_StreamFull, kp_StreamFull⟩, su_StreamFull, ve_StreamFull, op_StreamFull, sm_StreamFull, PySem.W.mg_none_of X G z_super, by rw [hl]; decide +kernel⟩
  have J_StreamFull : ErrI l.prog K C_StreamFull cc_StreamFull cda_StreamFull f_StreamFull_init "__init__" "StreamFull.__init__" (defArgs s_StreamFull_init) (defBody s_StreamFull_init) (defScope s_StreamFull_init) a.fd_StreamFull_init := ⟨⟨_, _, _, _, _, _, _, _, _, rfl, l_StreamFull_init⟩, c_StreamFull_init, ⟨_, _, _, ce_StreamFull⟩, ⟨_, _, _, _, _, _, co_StreamFull, cv_StreamFull, by rw [hl]; exact cf_StreamFull⟩⟩
  have O_StreamFull : FnOk l.prog w K mg base CX0 1 f_StreamFull_init a.fd_StreamFull_init ["self", "space"] (spErr C_StreamFull "space") :=
    okErr E_StreamFull no_StreamFull J_StreamFull sc_StreamFull_init rfl rfl (by decide +kernel) (by decide +kernel) (by decide +kernel) (fun _ => rfl) (fun _ => rfl) (fun _ => rfl) (fun _ => rfl) (fun X hN hv => (pe_joined (.cons pe_str (.cons (pe_fmt (pv 1 hN hv)) (.cons pe_str .nil))))) (te3 (by decide +kernel) (by decide +kernel))
  have B_StreamFull : Binds K a.fd_StreamFull_init ["self", "space"] [] := .all fun us hl => match us, hl with | [_, _], _ => rfl
  have K_StreamFull : EK l.prog w K mg base "StreamFull" "space" C_StreamFull f_StreamFull_init a.fd_StreamFull_init ["self", "space"] := ⟨E_StreamFull, PySem.W.mg_of X G gC_StreamFull, ic_StreamFull, ti_StreamFull, O_StreamFull, B_StreamFull, no_StreamFull, ⟨ga_StreamFull, gg_StreamFull, ex_StreamFull, hd_StreamFull⟩, ⟨ga_StreamFull, gg_StreamFull, ex_StreamFull, hd_StreamFull, ha_StreamFull, hn_StreamFull, ht_StreamFull, hm_StreamFull⟩, ow_StreamFull⟩
  have T : Txt l.prog w K mg base a := {
    g_abs := PySem.W.mg_none_of X G z_abs,
    g_int := PySem.W.mg_none_of X G z_int,
    g_isinstance := PySem.W.mg_none_of X G z_isinstance,
    g_len := PySem.W.mg_none_of X G z_len,
    g_list := PySem.W.mg_none_of X G z_list,
    g_range := PySem.W.mg_none_of X G z_range,
    g_repr := PySem.W.mg_none_of X G z_repr,
    g_tuple := PySem.W.mg_none_of X G z_tuple,
    F_lost_mark := F_lost_mark,
    b_lost_mark := b_lost_mark,
    g_lost_mark := PySem.W.mg_of X G a_lost_mark,
    F_is_mark := F_is_mark,
    b_is_mark := b_is_mark,
    g_is_mark := PySem.W.mg_of X G a_is_mark,
    F_lost_by := F_lost_by,
    b_lost_by := b_lost_by,
    g_lost_by := PySem.W.mg_of X G a_lost_by,
    F_joined := F_joined,
    b_joined := b_joined,
    g_joined := PySem.W.mg_of X G a_joined,
    F_bytes_among := F_bytes_among,
    b_bytes_among := b_bytes_among,
    g_bytes_among := PySem.W.mg_of X G a_bytes_among,
    F_ReadStream_init := F_ReadStream_init,
    b_ReadStream_init := b_ReadStream_init,
    mk_ReadStream := ⟨mk_ReadStream, a_ReadStream_init, i_ReadStream_init, kc_ReadStream⟩,
    F_ReadStream_space := F_ReadStream_space,
    b_ReadStream_space := b_ReadStream_space,
    m_ReadStream_space := ⟨a_ReadStream_space, i_ReadStream_space, k_ReadStream_space⟩,
    F_ReadStream_append := F_ReadStream_append,
    b_ReadStream_append := b_ReadStream_append,
    m_ReadStream_append := ⟨a_ReadStream_append, i_ReadStream_append, k_ReadStream_append⟩,
    F_ReadStream_read := F_ReadStream_read,
    b_ReadStream_read := b_ReadStream_read,
    m_ReadStream_read := ⟨a_ReadStream_read, i_ReadStream_read, k_ReadStream_read⟩,
    F_ReadStream_contents := F_ReadStream_contents,
    b_ReadStream_contents := b_ReadStream_contents,
    m_ReadStream_contents := ⟨a_ReadStream_contents, i_ReadStream_contents, k_ReadStream_contents⟩,
    F_ReadStream_append_one := F_ReadStream_append_one,
    b_ReadStream_append_one := b_ReadStream_append_one,
    m_ReadStream_append_one := ⟨a_ReadStream_append_one, i_ReadStream_append_one, k_ReadStream_append_one⟩,
    F_law_state := F_law_state,
    b_law_state := b_law_state,
    g_law_state := PySem.W.mg_of X G a_law_state,
    F_law_draw := F_law_draw,
    b_law_draw := b_law_draw,
    g_law_draw := PySem.W.mg_of X G a_law_draw,
    F_law_pick := F_law_pick,
    b_law_pick := b_law_pick,
    g_law_pick := PySem.W.mg_of X G a_law_pick,
    F_law_bytes := F_law_bytes,
    b_law_bytes := b_law_bytes,
    g_law_bytes := PySem.W.mg_of X G a_law_bytes,
    F_law_append := F_law_append,
    b_law_append := b_law_append,
    g_law_append := PySem.W.mg_of X G a_law_append,
    F_law_items := F_law_items,
    b_law_items := b_law_items,
    g_law_items := PySem.W.mg_of X G a_law_items,
    F_law_appends := F_law_appends,
    b_law_appends := b_law_appends,
    g_law_appends := PySem.W.mg_of X G a_law_appends,
    F_law_split := F_law_split,
    b_law_split := b_law_split,
    g_law_split := PySem.W.mg_of X G a_law_split,
    F_law_agrees := F_law_agrees,
    b_law_agrees := b_law_agrees,
    g_law_agrees := PySem.W.mg_of X G a_law_agrees,
    F_law := F_law,
    b_law := b_law,
    g_law := PySem.W.mg_of X G a_law,
    g_TickringsError := PySem.W.mg_of X G gC_TickringsError,
    g_StreamFull := PySem.W.mg_of X G gC_StreamFull,
    g_ReadStream := PySem.W.mg_of X G gC_ReadStream,
    cl_ReadStream := ⟨pg_ReadStream, hd_ReadStream, po_ReadStream, sa_ReadStream⟩,
    n_ReadStream_room := n_ReadStream_room,
    n_ReadStream_items := n_ReadStream_items,
    e_StreamFull := K_StreamFull,
    is_StreamFull_TickringsError := is_StreamFull_TickringsError }
  exact FnG.imp (ok_law T) fun vs H Q E h => h
theorem walk {l : PySem.W.OpenLaw} {q : Program} {loose : List Str} {XP : (Str → Option Value) → Heap → Prop} {YP : World → Heap → Prop} {d : DefRec} {K : Params → PySem.W.Frag} (hn : l.most = some 63) (hdf : d.params.defaults = [])
    (hY : ∀ (w : World) (h : Heap), YP w h → (K w.params).In h)
    (F : ∀ (w : World) (mg : Str → Option Value) (fa : Addr) (h : Heap), (K w.params).In h → h.Ns mainGlobals mg → mg d.name = some (.ref fa) → ∃ fd : FuncData, (∀ (s : Shared) (u : Value), BindsTo s fd ⟨[u], []⟩ [("script", u)]) ∧
      ∀ base : Heap, (K w.params).In base → base.Ns mainGlobals mg → FnG l.prog w (K w.params) mg base (L2.CX l.prog w) 6 fa fd ["script"] (sp_law0 (K w.params))) :
    PySem.W.WalkO q loose XP YP l.row.toRowW d [] (fun f vs => PySem.call f vs) :=
  L2.walk_ofG (n := 63) (k := 6) (x := "script") (CX := fun w => L2.CX l.prog w) (sp := fun w => sp_law0 (K w.params)) hn (by decide) hdf ⟨rfl, by decide, by decide⟩ hY F (fun _ _ b ns hl _ hS => a1 ⟨b, ns, rfl, hS, hl, fun _ => rfl⟩) fun _ _ _ _ _ ⟨_, _, _, _, _, _, _, _, _, _, _, _, z⟩ => z
end My
open PySem PySem.W PyProof.Rows
set_option maxRecDepth 100000 in
set_option maxHeartbeats 0 in
theorem PySem.Challenge.cw_tickrings_k11_read_streams_holds : PySem.Challenge.rw_tickrings_k11_read_streams.Holds := by
  w_on; o_law; k_head; (case hw => w_witness2)
  k_fill
  refine My.walk (l := PySem.Challenge.rw_tickrings_k11_read_streams) rfl rfl (fun w h Y => PySem.W.kIn_of Y) ?F
  case F =>
    intro w mg fa h KX G hmg
    refine' My.all_mk rfl KX G hmg ?hgC_TickringsError ?hgC_StreamFull ?hgC_ReadStream ?hx_StreamFull ?hhbm_StreamFull ?hsa_StreamFull ?hex_StreamFull ?hty_StreamFull ?hkp_StreamFull ?hsu_StreamFull ?hve_StreamFull ?hop_StreamFull ?hsm_StreamFull ?hic_StreamFull ?hti_StreamFull ?hl_StreamFull_init ?hc_StreamFull_init ?hce_StreamFull ?hco_StreamFull ?hcv_StreamFull ?hcf_StreamFull ?hno_StreamFull ?hga_StreamFull ?hgg_StreamFull ?hhd_StreamFull ?hha_StreamFull ?hhn_StreamFull ?hht_StreamFull ?hhm_StreamFull ?how_StreamFull ?ha_lost_mark ?hl_lost_mark ?hc_lost_mark ?hk_lost_mark ?ha_is_mark ?hl_is_mark ?hc_is_mark ?hk_is_mark ?ha_lost_by ?hl_lost_by ?hc_lost_by ?hk_lost_by ?ha_joined ?hl_joined ?hc_joined ?hk_joined ?ha_bytes_among ?hl_bytes_among ?hc_bytes_among ?hk_bytes_among ?ha_ReadStream_init ?hi_ReadStream_init ?hl_ReadStream_init ?hc_ReadStream_init ?hk_ReadStream_init ?ha_ReadStream_space ?hi_ReadStream_space ?hl_ReadStream_space ?hc_ReadStream_space ?hk_ReadStream_space ?ha_ReadStream_append ?hi_ReadStream_append ?hl_ReadStream_append ?hc_ReadStream_append ?hk_ReadStream_append ?ha_ReadStream_read ?hi_ReadStream_read ?hl_ReadStream_read ?hc_ReadStream_read ?hk_ReadStream_read ?ha_ReadStream_contents ?hi_ReadStream_contents ?hl_ReadStream_contents ?hc_ReadStream_contents ?hk_ReadStream_contents ?ha_ReadStream_append_one ?hi_ReadStream_append_one ?hl_ReadStream_append_one ?hc_ReadStream_append_one ?hk_ReadStream_append_one ?ha_law_state ?hl_law_state ?hc_law_state ?hk_law_state ?ha_law_draw ?hl_law_draw ?hc_law_draw ?hk_law_draw ?ha_law_pick ?hl_law_pick ?hc_law_pick ?hk_law_pick ?ha_law_bytes ?hl_law_bytes ?hc_law_bytes ?hk_law_bytes ?ha_law_append ?hl_law_append ?hc_law_append ?hk_law_append ?ha_law_items ?hl_law_items ?hc_law_items ?hk_law_items ?ha_law_appends ?hl_law_appends ?hc_law_appends ?hk_law_appends ?ha_law_split ?hl_law_split ?hc_law_split ?hk_law_split ?ha_law_agrees ?hl_law_agrees ?hc_law_agrees ?hk_law_agrees ?ha_law ?hl_law ?hc_law ?hk_law ?hpg_ReadStream ?hhd_ReadStream ?hpo_ReadStream ?hsa_ReadStream ?hmk_ReadStream ?hkc_ReadStream ?hn_ReadStream_room ?hn_ReadStream_items ?hz_abs ?hz_int ?hz_isinstance ?hz_len ?hz_list ?hz_range ?hz_repr ?hz_super ?hz_tuple ?his_StreamFull_TickringsError
    (case hgC_TickringsError => k_is)
    (case hgC_StreamFull => k_is)
    (case hgC_ReadStream => k_is)
    (case hx_StreamFull => k_is)
    (case hhbm_StreamFull => first | rfl | decide +kernel)
    (case hsa_StreamFull => k_is)
    (case hex_StreamFull => k_is)
    (case hty_StreamFull => k_is)
    (case hkp_StreamFull => k_is)
    (case hsu_StreamFull => ks_is)
    (case hve_StreamFull => k_is)
    (case hop_StreamFull => k_is)
    (case hsm_StreamFull => k_is)
    (case hic_StreamFull => k_is)
    (case hti_StreamFull => k_is)
    (case hl_StreamFull_init => k_is)
    (case hc_StreamFull_init => k_is)
    (case hce_StreamFull => k_is)
    (case hco_StreamFull => k_is)
    (case hcv_StreamFull => exact rfl)
    (case hcf_StreamFull => first | rfl | decide +kernel)
    (case hno_StreamFull => k_is)
    (case hga_StreamFull => k_is)
    (case hgg_StreamFull => k_is)
    (case hhd_StreamFull => k_is)
    (case hha_StreamFull => k_is)
    (case hhn_StreamFull => k_is)
    (case hht_StreamFull => k_is)
    (case hhm_StreamFull => k_is)
    (case how_StreamFull => first | k_is | rfl)
    (case ha_lost_mark => k_is)
    (case hl_lost_mark => k_is)
    (case hc_lost_mark => k_is)
    (case hk_lost_mark => k_is)
    (case ha_is_mark => k_is)
    (case hl_is_mark => k_is)
    (case hc_is_mark => k_is)
    (case hk_is_mark => k_is)
    (case ha_lost_by => k_is)
    (case hl_lost_by => k_is)
    (case hc_lost_by => k_is)
    (case hk_lost_by => k_is)
    (case ha_joined => k_is)
    (case hl_joined => k_is)
    (case hc_joined => k_is)
    (case hk_joined => k_is)
    (case ha_bytes_among => k_is)
    (case hl_bytes_among => k_is)
    (case hc_bytes_among => k_is)
    (case hk_bytes_among => k_is)
    (case ha_ReadStream_init => k_is)
    (case hi_ReadStream_init => k_is)
    (case hl_ReadStream_init => k_is)
    (case hc_ReadStream_init => k_is)
    (case hk_ReadStream_init => k_is)
    (case ha_ReadStream_space => k_is)
    (case hi_ReadStream_space => k_is)
    (case hl_ReadStream_space => k_is)
    (case hc_ReadStream_space => k_is)
    (case hk_ReadStream_space => k_is)
    (case ha_ReadStream_append => k_is)
    (case hi_ReadStream_append => k_is)
    (case hl_ReadStream_append => k_is)
    (case hc_ReadStream_append => k_is)
    (case hk_ReadStream_append => k_is)
    (case ha_ReadStream_read => k_is)
    (case hi_ReadStream_read => k_is)
    (case hl_ReadStream_read => k_is)
    (case hc_ReadStream_read => k_is)
    (case hk_ReadStream_read => k_is)
    (case ha_ReadStream_contents => k_is)
    (case hi_ReadStream_contents => k_is)
    (case hl_ReadStream_contents => k_is)
    (case hc_ReadStream_contents => k_is)
    (case hk_ReadStream_contents => k_is)
    (case ha_ReadStream_append_one => k_is)
    (case hi_ReadStream_append_one => k_is)
    (case hl_ReadStream_append_one => k_is)
    (case hc_ReadStream_append_one => k_is)
    (case hk_ReadStream_append_one => k_is)
    (case ha_law_state => k_is)
    (case hl_law_state => k_is)
    (case hc_law_state => k_is)
    (case hk_law_state => k_is)
    (case ha_law_draw => k_is)
    (case hl_law_draw => k_is)
    (case hc_law_draw => k_is)
    (case hk_law_draw => k_is)
    (case ha_law_pick => k_is)
    (case hl_law_pick => k_is)
    (case hc_law_pick => k_is)
    (case hk_law_pick => k_is)
    (case ha_law_bytes => k_is)
    (case hl_law_bytes => k_is)
    (case hc_law_bytes => k_is)
    (case hk_law_bytes => k_is)
    (case ha_law_append => k_is)
    (case hl_law_append => k_is)
    (case hc_law_append => k_is)
    (case hk_law_append => k_is)
    (case ha_law_items => k_is)
    (case hl_law_items => k_is)
    (case hc_law_items => k_is)
    (case hk_law_items => k_is)
    (case ha_law_appends => k_is)
    (case hl_law_appends => k_is)
    (case hc_law_appends => k_is)
    (case hk_law_appends => k_is)
    (case ha_law_split => k_is)
    (case hl_law_split => k_is)
    (case hc_law_split => k_is)
    (case hk_law_split => k_is)
    (case ha_law_agrees => k_is)
    (case hl_law_agrees => k_is)
    (case hc_law_agrees => k_is)
    (case hk_law_agrees => k_is)
    (case ha_law => k_is)
    (case hl_law => k_is)
    (case hc_law => k_is)
    (case hk_law => k_is)
    (case hpg_ReadStream => k_is)
    (case hhd_ReadStream => k_is)
    (case hpo_ReadStream => k_is)
    (case hsa_ReadStream => k_is)
    (case hmk_ReadStream => k_is)
    (case hkc_ReadStream => k_is)
    (case hn_ReadStream_room => k_is)
    (case hn_ReadStream_items => k_is)
    (case hz_abs => k_is)
    (case hz_int => k_is)
    (case hz_isinstance => k_is)
    (case hz_len => k_is)
    (case hz_list => k_is)
    (case hz_range => k_is)
    (case hz_repr => k_is)
    (case hz_super => k_is)
    (case hz_tuple => k_is)
    (case his_StreamFull_TickringsError => first | k_is | decide +kernel | rfl)
#print axioms PySem.Challenge.cw_tickrings_k11_read_streams_holds
