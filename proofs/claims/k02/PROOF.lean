import PyProof.Rows.All
import Wide.All
import OpenK.AllK
import Wide.FinOn
import HandS.ForExc
import HandS.Nested
import HandS.ExcInit
import HandS.ExcField
import HandS.FStr
import HandS.IsInst
import HandS.ExcIs
import KE.KExcSuper
import KE.KExcIs
import HandS.ForMost
import HandS.Evl
import PySem.Challenge.RW_tickrings_k02_rings
set_option Elab.async false
set_option maxRecDepth 100000
set_option maxHeartbeats 4000000
set_option linter.all false
set_option autoImplicit false
/-! An own error class over another own class over ValueError, whose __init__ says super().__init__(..) and stores one field. -/
namespace Sx
open PySem PySem.Spec PyProof.Rows L2 PySem.W PySem.Calls NdefX
section
variable {prog : Program} {w : World} {A : Around} {E : Value → Shared → Prop} {h : Heap} {g : Array GenState} {d : Drawn} {t : Nat} {os : OsState}
/-- ValueError.__init__ bound to an exception, called -/
theorem call_mw {nm q : Str} {C N u e t0 : Addr} {bs bm : List Value} {hdct : Bool} {sn : List Str} {sub : List Value} {ab : Bool} {col : Option Bool} {dd : Option Addr} {k0 k1 k2 k3 k5 : Option Value} {rest : List Value} {Q : Value → Shared → Prop}
    (hC : h.get? C = some (excClassObj nm q C N bs bm hdct sn sub ab col dd k0 k1 k2 k3 k5 "ValueError.__new__")) (he : h.get? e = some (HandSPX.excO C t0)) (hu : h.get? u = some (kxs_mw "ValueError.__init__" e)) (hrest : rest.length ≤ sizeLine)
    (hq : ∀ h' t1, (∀ b o, b ≠ e → h.get? b = some o → h'.get? b = some o) → h'.get? e = some (HandSPX.excO C t1) → Q .none ⟨h', g, d, t, os⟩) :
    wpAny (model prog w) A (call (.ref u) rest) Q E ⟨h, g, d, t, os⟩ := by
  refine wpAny_call (codeAny_of_tree ?_)
  show wpAny _ A.in1 (callAny (.ref u) ⟨rest, []⟩) _ _ _
  simp only [callAny]
  refine wpAny_bind (wpAny_load hu ?_)
  simp only [kxs_mw, show (Value.type "method-wrapper" == Value.type "method" || Value.type "method-wrapper" == Value.type "builtin_function_or_method" || Value.type "method-wrapper" == Value.type "method-wrapper") = true by decide, if_true]
  refine W.KFB.if_so (by decide) ?_
  refine wpAny_bind (check_bound_init F.excBase_ValueError.toExcCallFacts hC he rfl ?_)
  refine wpAny_bind (wpAny_pure (wpAny_pure ?_))
  refine ⟨plainId_quiet F.excBase_ValueError.init.plain _, codeAny_builtin F.excBase_ValueError.initEntry ?_⟩
  exact exc_init_tree (cls := .ref C) (t0 := t0) (dv := none) (c2 := .none) (c3 := .none) (b4 := .bool false) he hrest fun h' k hx _ => hq h' _ k hx
end
/-- what the top has written of such a class -/
structure ErrC (P : Program) (K : PySem.W.Frag) (mg : Str → Option Value) (C : Addr) : Prop where
  ox : OexC K C
  sup : ks_superIn K C C "__init__" = some (some (.builtin "ValueError.__init__"))
  ve : PySem.W.subIn K (.ref C) (.type "ValueError") = some true
  op : PySem.W.nsIn K cStatics "thirdparty.any" = some none
  selfM : PySem.W.mroIn K C (.ref C) = some true
  sm : mg "super" = none
  top : (P.main.scope.names.lookup ("super" : Str)).isSome = false
/-- its __init__ -/
structure ErrI (P : Program) (K : PySem.W.Frag) (C cc cda fI : Addr) (name qual : Str) (params : Arguments) (body : List Stmt) (scope : Scope) (fd : FuncData) : Prop where
  fn : ∃ oc od osl dV kV doc pm an ct, fd = PySem.W.fnX name qual params body scope [("__class__", cc)] dV kV doc pm an (.ref cda) ct ∧ K.lookup fI = some ⟨oc, od, .func fd, osl⟩
  cd : PySem.W.codeIn K (.ref cda) qual = true
  cell : ∃ cl cld csl, K.lookup cc = some ⟨cl, cld, .cell (some (.ref C)), csl⟩
  code : ∃ ccl cdd vs ccs file tf, K.lookup cda = some ⟨ccl, cdd, .fields vs, ccs⟩ ∧ vs[2]? = some (.str file tf) ∧ ((P.main.file : Str) == file) = true
section
variable {P : Program} {w : World} {K : PySem.W.Frag} {mg : Str → Option Value} {base : Heap} {CX : CXT}
theorem fn_of_err {C cc cda f : Addr} {name qual : Str} {params : Arguments} {scope : Scope} {fd : FuncData} {ar : Arg} {N ps : List Str} {k : Nat} {sp : Sp} {p0 p1 p2 pos pos' : Pos} {e : Expr} {es : List Expr} {rest : List Stmt}
    (T : ErrC P K mg C) (I0 : ErrI P K C cc cda f name qual params (.Expr (.Call (.Attribute (.Call (.Name "super" p0) [] [] p1) "__init__" p2) (e :: es) [] pos) pos' :: rest) scope fd)
    (S : NScope N ps ["__class__"] scope) (hp : (params.posonlyargs ++ params.args).head? = some ar) (hp0 : ps[0]? = some ar.arg) (hsup : scope.names.lookup ("super" : Str) = some .globalImplicit)
    (len : ∀ vs H Q E, sp vs H Q E → vs.length = ps.length)
    (he : ∀ env, starEach (e :: es) env = (false, eval e env) :: starEach es env) (hpl : ∀ env, (backTo pos (starEach es env)).any (·.1) = false)
    {pl : Env → Sem Bool} (hmc : ∀ env : Env, eval (.Call (.Attribute (.Call (.Name "super" p0) [] [] p1) "__init__" p2) (e :: es) [] pos) env = (do
      let ov ← attributeBase (.Call (.Name "super" p0) [] [] p1) "__init__" env (eval (.Call (.Name "super" p0) [] [] p1) env)
      standAt p2.atName
      let (f, first) ← holding [ov] (getMethod ov "__init__" (pl env))
      callWith pos f first (backTo pos (starEach (e :: es) env)) []))
    (hsw : ∀ env, swapsWith (.Call (.Attribute (.Call (.Name "super" p0) [] [] p1) "__init__" p2) (e :: es) [] pos) none pos'.line env = pure false)
    (hbody : ∀ (A : Around) (outer : List Env) (s : Shared) (H : Hp) (vs : List V) (Q : VK) (E : XK), sp vs H Q E →
      ∃ ta t, PA (ncx CX P w K mg base N ⟨name, qual, params, .Expr (.Call (.Attribute (.Call (.Name "super" p0) [] [] p1) "__init__" p2) (e :: es) [] pos) pos' :: rest, scope, [("__class__", cc)], cda⟩ f A outer s H E) (e :: es) ta ∧
        PSs (ncx CX P w K mg base N ⟨name, qual, params, .Expr (.Call (.Attribute (.Call (.Name "super" p0) [] [] p1) "__init__" p2) (e :: es) [] pos) pos' :: rest, scope, [("__class__", cc)], cda⟩ f A outer s H E) rest t ∧
        ∃ a, vs[0]? = some (.ref a) ∧ H a = some (exo a C none) ∧
          ta (startF N vs [some (.ref C)]) H fun ws H1 => ws.length ≤ 1000 ∧ H1 a = some (exo a C none) ∧ t { nx := fun _ H' => Q .non H', rt := Q } (startF N vs [some (.ref C)]) H1) :
    FnOk P w K mg base CX (k + 1) f fd ps sp := by
  obtain ⟨⟨oc, od, osl, dV, kV, doc, pm, an, ct, rfl, lk⟩, hcd, ⟨cl, cld, csl, hcell⟩, ⟨ccl, cdd, vsC, ccs, file, tf, hcode, hvs, hfile⟩⟩ := I0
  refine ⟨len, fun A outer s H args us vs Q E hr e0 hb r hsp => ?_⟩
  have hl := len _ _ _ _ hsp
  have KX : K.In s.heap := e0.mod.kin.keeps fun b o e => (e0.bs b o e).1
  have lim : s.heap.NoLimit := e0.mod.nolimit.keeps fun b o e => (e0.bs b o e).1
  have C0 : CellsAt [(("__class__" : Str), cc)] ["__class__"] [some (V.ref C)] s.heap H := by
    refine ⟨rfl, fun y c q => ?_, fun x y c q1 q2 => ?_, fun i y q => ?_⟩
    · have hy : c = cc := by
        by_cases hyy : y = ("__class__" : Str)
        · subst hyy
          simpa [List.lookup] using q.symm
        · have : (y == ("__class__" : Str)) = false := by simpa using hyy
          simp [List.lookup, this] at q
      subst hy
      exact ⟨(e0.bs c _ (e0.mod.kin _ _ hcell)).2, _, ⟨_, KX _ _ hcell, rfl⟩⟩
    · have hx : x = ("__class__" : Str) := by
        by_cases hyy : x = ("__class__" : Str)
        · exact hyy
        · have : (x == ("__class__" : Str)) = false := by simpa using hyy
          simp [List.lookup, this] at q1
      have hy : y = ("__class__" : Str) := by
        by_cases hyy : y = ("__class__" : Str)
        · exact hyy
        · have : (y == ("__class__" : Str)) = false := by simpa using hyy
          simp [List.lookup, this] at q2
      rw [hx, hy]
    · match i, q with
      | 0, q =>
        have hy : ("__class__" : Str) = y := Option.some.inj q
        subst hy
        refine ⟨cc, by simp [List.lookup], fun v hv => ⟨.ref C, ?_, _, KX _ _ hcell, rfl⟩⟩
        have hv' : V.ref C = v := by simpa using hv
        subst hv'
        rfl
      | i + 1, q => simp at q
  let F : NF := ⟨name, qual, params, .Expr (.Call (.Attribute (.Call (.Name "super" p0) [] [] p1) "__init__" p2) (e :: es) [] pos) pos' :: rest, scope, [("__class__", cc)], cda⟩
  have hS : NScope N ps ["__class__"] F.scope := S
  refine ks_codeAny_call_defAt (body := F.body) (binds := ps.zip us) hr.depth (KX _ _ lk) rfl lim (codeRec_of KX hcd) rfl (hb) S.nocell (fun ⟨n, _⟩ hy => S.par n (List.of_mem_zip hy).1) (fun h₁ hns kp => ?_) S.co S.gen S.kind
  obtain ⟨ta, tb, hta, htb, a, hv0, hea, hq⟩ := hbody A outer s H vs Q E hsp
  have I : Inv (ncx CX P w K mg base N F f A outer s H E) [] (startF N vs [some (.ref C)]) H { s with heap := h₁, toks := s.toks + (ps.zip us).length } := inv_startN hS hr.hd e0 hl r C0 hns kp
  show PySem.wpAt _ (A.deeper (envF F f s.heap.objs.size)) (.func F.body (envF F f s.heap.objs.size)) (execs F.body (envF F f s.heap.objs.size)) _ _ _
  refine ks_wpAt_mono (Q := SP (ncx CX P w K mg base N F f A outer s H E) [] { nx := fun _ H' => Q .non H', rt := Q }) (ks_wpAt_execs_cons (ks_wpAt_Expr_any (ks_wpAt_MethodCall (pl := pl _) ?_ (hmc _)) (by show (scope.kind == ScopeKind.module && _) = false; rw [S.kind]; rfl) (hsw _))) (fun fl s' hs => ?_) fun e s' hs => hs
  · -- super()
    have KX1 : K.In h₁ := KX.keeps kp
    obtain ⟨nm, q, N', bs, bm, sn, sub, ab, col, dd, k0, k1, k2, k3, k5, hC, hbm⟩ := T.ox.cls
    have hcl : PySem.W.clsIn K C = some { name := nm, bases := bs, mro := .ref C :: bm, ns := N', qualname := q, hasDict := true, slotNames := sn, subclasses := sub, abstract := ab, collection := col, hasDel := false } := by unfold PySem.W.clsIn; rw [hC] <;> rfl
    obtain ⟨t1, ho⟩ := exo_at I.hok hea
    have hu0 : us[0]? = some (.ref a) := by
      obtain ⟨u, hu, ru⟩ := r.get hv0
      have : u = Value.ref a := ru
      rw [hu, this]
    have hself : (ps.zip us).reverse.lookup ar.arg = some (.ref a) := by
      have ndP : ps.Nodup := by
        have q := S.nd.sublist (List.take_sublist (ps.length + 1) N)
        have q2 := S.pre
        simp only [List.length_cons, List.length_nil, Nat.zero_add] at q2
        rw [q2] at q
        exact (List.nodup_append.mp q).1
      exact zip_look ndP hp0 hu0
    have gl : h₁.Ns mainGlobals mg := e0.mod.glob.keeps fun b o z => kp b o (e0.bs b o z).1
    obtain ⟨mb, hmb, hmbE⟩ := e0.mod.blt
    have bl : h₁.Ns builtinsNs mb := hmb.keeps fun b o z => kp b o (e0.bs b o z).1
    refine ks_wpAt_super_base (env := envF F f s.heap.objs.size) hsup (S.frk _ List.mem_cons_self) (by decide) rfl (KX1 _ _ lk) rfl hp rfl (KX1 _ _ hcode) rfl hvs hfile T.top ?_
    refine ks_loadName_global S.kind hsup (loadGlobal_builtin (env := envF F f s.heap.objs.size) gl T.sm bl ((hmbE _ (by decide +kernel)).trans (by decide +kernel : bootBuiltins "super" = some (.type "super"))) ⟨rfl, ?_⟩)
    refine wpAny_loadName_free S.kind (S.frk _ List.mem_cons_self) (by first | rfl | simp [List.lookup]) ⟨_, KX1 _ _ hcell, rfl⟩ ?_
    refine wpAny_loadName_local S.kind (S.par _ (List.mem_of_getElem? hp0)) hns hself ?_
    refine ks_wpAny_isType_cls (KX1 _ _ hC) rfl ⟨rfl, ?_⟩
    refine ks_wpAny_call_super (KX1 _ _ hC) rfl ho rfl (fun c e => by cases e) (PySem.W.looks_mroIn KX1 T.selfM) (fun h2 eso k2 => ?_)
    have I1 := I.kept (t' := s.toks + (ps.zip us).length) k2
    have KX2 : K.In h2 := KX1.keeps k2
    have hax : a ≠ C := by
      intro z
      have z1 := KX1 _ _ hC
      rw [← z, ho] at z1
      cases z1
    have ho2 : h2.get? a = some ({ cls := .ref C, dict := none, data := .fields #[.ref t1, .none, .none, .none, .bool false, .none] } : Obj) := k2 _ _ ho
    have J : PySem.W.InstAt h2 a ({ cls := .ref C, dict := none, data := .fields #[.ref t1, .none, .none, .none, .bool false, .none] } : Obj) C none := ⟨ho2, rfl, rfl, trivial⟩
    have hsupX := T.sup
    unfold ks_superIn at hsupX
    rw [hcl] at hsupX
    have hI : PySem.W.Looks (model P w) h2 (isInstance (.ref a) (.type "ValueError")) true := J.type.andThen (PySem.W.looks_subIn KX2 T.ve)
    refine kxs_getMethod kxs_ValueError eso (PySem.W.looks_opaque KX2 T.op) (l₀ := .ref C :: bm) ?_ rfl KX2 hsupX hI hax (by decide) ?_
    · exact fun A Q E s k q => wpAny_bind ((PySem.W.looks_clsIn KX2 hcl) A _ E s k (wpAny_pure q))
    · have k3 : ∀ b o, h2.get? b = some o → (h2.push (kxs_mw "ValueError.__init__" a)).get? b = some o := fun b o e => Heap.get?_push_of_some _ e
      have I2 := I1.kept (t' := s.toks + (ps.zip us).length + 1) k3
      have nu : H h2.objs.size = none := I1.hok.fresh (Nat.le_refl _)
      have hmw : (h2.push (kxs_mw "ValueError.__init__" a)).get? h2.objs.size = some (kxs_mw "ValueError.__init__" a) := Heap.get?_push_at rfl rfl
      have I3 := I2.pins_of (pins' := [(h2.objs.size, kxs_mw "ValueError.__init__" a)]) fun p hp => by
        have hp' : p = (h2.objs.size, kxs_mw "ValueError.__init__" a) := by simpa [ncx] using hp
        subst hp'
        exact ⟨hmw, nu, fun z => absurd I1.lt (by rw [← z]; exact Nat.lt_irrefl _), I1.nofs (Nat.le_refl _), fun v z => by cases z⟩
      refine kxs_callWith (i := "ValueError.__init__") (x := a) (by rw [he]; show (false || (backTo pos (starEach es _)).any (·.1)) = false; rw [hpl]; rfl) ?_
      rw [he]
      refine evalArgs_plain ?_
      show wpAny _ _ (spliced (backTo pos ((false, eval e (envF F f s.heap.objs.size)) :: starEach es (envF F f s.heap.objs.size)))) _ _ _
      rw [← he]
      refine thn (hta.run pos _ _ _ H _ I3 hq) fun us1 s1 hAP => ?_
      obtain ⟨ws, H1, I4, r4, hz, hea1, q4⟩ := hAP
      have hpin := (I4.pin (h2.objs.size, kxs_mw "ValueError.__init__" a) (by simp [ncx])).1
      refine ⟨hpin, ?_⟩
      obtain ⟨t2, ho4⟩ := exo_at I4.hok hea1
      have I5 := I4.pins_of (pins' := []) fun p hp => by simp [ncx] at hp
      obtain ⟨hp4, g4, d4, t4, os4⟩ := s1
      refine call_mw (I4.kIn _ _ hC) ho4 hpin (by show us1.length ≤ sizeLine; rw [← r4.length, sizeLine_eq]; omega) fun h' t5 k5 hx5 => ?_
      have I6 := I5.write (t' := t4) (x := a) (e := a) (o := exo a C none) (by rw [hea1]; exact True.intro) (.inl rfl) k5 ⟨_, hx5⟩ (exo_ok hx5)
      have eu : upd H1 a (exo a C none) = H1 := by
        funext b
        by_cases hb : b = a
        · rw [hb, upd_same, hea1]
        · rw [upd_ne hb]
      rw [eu] at I6
      exact wpAt_of_wpAny (htb.run [] _ _ H1 _ I6 q4)
  · have fin : ∀ {σ' : L2.St} {H' : Hp} {v : V} {u : Value}, Inv (ncx CX P w K mg base N F f A outer s H E) [] σ' H' s' → L2.RelV v u → Q v H' → CE outer P w H s Q u s' :=
      fun {σ' H' v u} J rv q => ⟨v, H', J.os, J.bare, J.base, J.hok, rv, q⟩
    cases fl with
    | ret u =>
      obtain ⟨v, σ', H', J, rv, q⟩ := hs
      exact fin J rv q
    | next =>
      obtain ⟨σ', H', J, q⟩ := hs
      exact fin (v := V.non) (u := Value.none) J rfl q
    | brk =>
      obtain ⟨_, _, _, q⟩ := hs
      exact False.elim q
    | cont =>
      obtain ⟨_, _, _, q⟩ := hs
      exact False.elim q
end

/-! ### the promise of such an __init__, its body, the raise -/
def okV (x : V) : Prop := (∃ y : Str, x = .str y ∧ y.length ≤ 1000) ∨ ∃ i : Int, x = .int i ∧ i.natAbs.log2 < 1920
theorem okV_int {i : Int} (h : -(2 ^ 64) < i ∧ i < 2 ^ 64) : okV (.int i) := by
  refine .inr ⟨i, rfl, ?_⟩
  have h1 : i.natAbs < 2 ^ 64 := by omega
  by_cases h0 : i.natAbs = 0
  · rw [h0]; decide
  · exact Nat.lt_of_lt_of_le ((Nat.log2_lt h0).mpr h1) (by decide)
def spErr (C : Addr) (fld : Str) : Sp := fun vs H Q _ => ∃ a x, vs = [.ref a, x] ∧ okV x ∧ H a = some (exo a C none) ∧ ∀ d, H d = none → d ≠ a → Q .non (upd (upd H d (exd d [(fld, x)])) a (exo a C (some d)))
section
variable {P : Program} {w : World} {K : PySem.W.Frag} {mg : Str → Option Value} {base : Heap} {CX : CXT}
theorem okErr {C cc cda f : Addr} {name qual fld : Str} {params : Arguments} {scope : Scope} {fd : FuncData} {ar : Arg} {prm : Str} {p0 p1 p2 pos pos' q0 q1 q2 q3 : Pos} {e : Expr} {te : TE}
    (T : ErrC P K mg C) (hno : PySem.W.findIn K (.ref C) fld = some none)
    (I0 : ErrI P K C cc cda f name qual params [.Expr (.Call (.Attribute (.Call (.Name "super" p0) [] [] p1) "__init__" p2) [e] [] pos) pos', .Assign [.Attribute (.Name "self" q0) fld q1] (.Name prm q2) q3] scope fd)
    (S : NScope ["self", prm, "__class__"] ["self", prm] ["__class__"] scope) (hp : (params.posonlyargs ++ params.args).head? = some ar) (hp0 : ar.arg = "self") (hsup : scope.names.lookup ("super" : Str) = some .globalImplicit)
    (hd : (prm == ("__debug__" : Str)) = false) (hcd : (prm == ("__classdict__" : Str)) = false)
    (he : ∀ env, starEach [e] env = (false, eval e env) :: starEach [] env)
    {pl : Env → Sem Bool} (hmc : ∀ env : Env, eval (.Call (.Attribute (.Call (.Name "super" p0) [] [] p1) "__init__" p2) [e] [] pos) env = (do
      let ov ← attributeBase (.Call (.Name "super" p0) [] [] p1) "__init__" env (eval (.Call (.Name "super" p0) [] [] p1) env)
      standAt p2.atName
      let (f, first) ← holding [ov] (getMethod ov "__init__" (pl env))
      callWith pos f first (backTo pos (starEach [e] env)) []))
    (hsw : ∀ env, swapsWith (.Call (.Attribute (.Call (.Name "super" p0) [] [] p1) "__init__" p2) [e] [] pos) none pos'.line env = pure false)
    (hsw2 : ∀ env, swapsWith (.Name prm q2) (some (.Attribute (.Name "self" q0) fld q1)) q3.line env = pure false)
    (hPE : ∀ X : Cx, X.N[1]? = some prm → Vis X.env.scope prm → PE X e te)
    (hte : ∀ (σ : L2.St) (H : Hp) (Q : VK) (x : V), σ[1]? = some (some x) → okV x → (∀ z, Q (.str z) H) → te σ H Q) :
    FnOk P w K mg base CX 1 f fd ["self", prm] (spErr C fld) := by
  refine fn_of_err T I0 S hp (by rw [hp0]; rfl) hsup (fun vs H Q E h => ?_) he (fun env => rfl) hmc hsw fun A outer s H vs Q E h => ?_
  · obtain ⟨a, x, rfl, _⟩ := h
    rfl
  · obtain ⟨a, x, rfl, hok, hea, k⟩ := h
    refine ⟨tCons te tNil, tOst K fld (tVar 0) (tVar 1), pa_cons (hPE _ rfl (Or.inl (S.par _ (by simp)))) pa_nil (he _), pss_one (ps_ost (pv 0 rfl (Or.inl (S.par _ (by simp)))) (pv 1 rfl (Or.inl (S.par _ (by simp))) hd hcd) (hsw2 _)), a, rfl, hea, ?_⟩
    refine hte _ _ _ x rfl hok fun z => ?_
    refine ⟨by show 1 ≤ 1000; decide, hea, ?_⟩
    exact ⟨x, rfl, _, rfl, a, C, rfl, T.ox, hno, .inl ⟨hea, fun d hd hda => k d hd hda⟩⟩
/-- f"pre{x}" and f"pre{x}suf" -/
theorem te2 {pre : Str} {i : Nat} (hpre : pre.length ≤ 1000) (σ : L2.St) (H : Hp) (Q : VK) (x : V) (hx : σ[i]? = some (some x)) (ho : okV x) (q : ∀ z, Q (.str z) H) :
    tJs [tC (.str pre), tFmt (tVar i)] Str.empty σ H (fun out H1 => Q (.str out) H1) := by
  have hs : ∀ n : Nat, n ≤ 10000 → n ≤ sizeLine := fun n h => by rw [sizeLine_eq]; omega
  have l0 : (Str.empty ++ pre).length ≤ 1000 := by rw [Str.length_append]; show 0 + _ ≤ _; omega
  refine ⟨pre, rfl, hs _ (by omega), x, hx, ?_⟩
  rcases ho with ⟨y, rfl, hy⟩ | ⟨j, rfl, hj⟩
  · exact .inl ⟨y, rfl, hs _ (by omega), y, rfl, hs _ (by rw [Str.length_append]; omega), q _⟩
  · have l1 := int_text_len_1921 hj
    exact .inr ⟨j, rfl, hj, _, rfl, hs _ (by rw [Str.length_append]; exact Nat.le_trans (Nat.add_le_add l0 l1) (by decide)), q _⟩
theorem te3 {pre suf : Str} {i : Nat} (hpre : pre.length ≤ 1000) (hsuf : suf.length ≤ 1000) (σ : L2.St) (H : Hp) (Q : VK) (x : V) (hx : σ[i]? = some (some x)) (ho : okV x) (q : ∀ z, Q (.str z) H) :
    tJs [tC (.str pre), tFmt (tVar i), tC (.str suf)] Str.empty σ H (fun out H1 => Q (.str out) H1) := by
  have hs : ∀ n : Nat, n ≤ 10000 → n ≤ sizeLine := fun n h => by rw [sizeLine_eq]; omega
  have l0 : (Str.empty ++ pre).length ≤ 1000 := by rw [Str.length_append]; show 0 + _ ≤ _; omega
  refine ⟨pre, rfl, hs _ (by omega), x, hx, ?_⟩
  rcases ho with ⟨y, rfl, hy⟩ | ⟨j, rfl, hj⟩
  · have l2 : (Str.empty ++ pre ++ y).length ≤ 2000 := by rw [Str.length_append]; omega
    exact .inl ⟨y, rfl, hs _ (by omega), y, rfl, hs _ (by omega), suf, rfl, hs _ (by rw [Str.length_append]; omega), q _⟩
  · have l1 := int_text_len_1921 hj
    have l2 : (Str.empty ++ pre ++ Str.ofString (toString j)).length ≤ 2921 := by rw [Str.length_append]; omega
    exact .inr ⟨j, rfl, hj, _, rfl, hs _ (Nat.le_trans l2 (by decide)), suf, rfl, hs _ (by rw [Str.length_append]; exact Nat.le_trans (Nat.add_le_add l2 hsuf) (by decide)), q _⟩
end
/-- an own error class, ready to be raised and caught -/
structure EK (P : Program) (w : World) (K : PySem.W.Frag) (mg : Str → Option Value) (base : Heap) (x fld : Str) (C fI : Addr) (fd : FuncData) (ps : List Str) : Prop where
  T : ErrC P K mg C
  g : mg x = some (.ref C)
  iC : PySem.W.findIn K (.ref C) "__init__" = some (some (.ref fI))
  tI : PySem.W.typeIn K (.ref fI) = some (.type "function")
  F1 : FnOk P w K mg base CX0 1 fI fd ps (spErr C fld)
  b : Binds K fd ps []
  nof : PySem.W.findIn K (.ref C) fld = some none
  xf : XfC K C
  isc : ExcC K C
  own : PySem.W.subIn K (.ref C) (.ref C) = some true
theorem EK.exm {P : Program} {w : World} {K : PySem.W.Frag} {mg : Str → Option Value} {base : Heap} {x fld : Str} {C fI : Addr} {fd : FuncData} {ps : List Str} (E : EK P w K mg base x fld C fI fd ps) : PySem.W.exmOne K (.ref C) (.ref C) = some true :=
  PySem.W.exm_ref E.T.ox.exC E.xf.hdC E.T.ox.tyC E.own
section
variable {X : Cx} {W : WX} {x fld : Str} {C fI : Addr} {fd : FuncData} {ps : List Str} {e o : Expr} {te ta : TE} {p pos pos' apos : Pos}
theorem upd_del {fs : List (Str × V)} {H : Hp} {a d : Addr} {o u v : HO} (ha : H a = none) (hda : d ≠ a) : upd (del (upd (upd (upd H a o) d u) a v) a) d (.xd fs) = upd H d (.xd fs) := by
  funext b
  by_cases hb : b = d
  · subst hb; rw [upd_same, upd_same]
  · rw [upd_ne hb, upd_ne hb]
    by_cases hba : b = a
    · subst hba; rw [del_same, ha]
    · rw [del_ne hba, upd_ne hba, upd_ne hb, upd_ne hba]
/-- a reading made to bear a weaker wish -/
def tUp (te : TE) : TE := fun σ H Q => ∃ Q0 : VK, te σ H Q0 ∧ ∀ v H1, Q0 v H1 → Q v H1
theorem pe_up (h : PE X e te) : PE X e (tUp te) := ⟨fun pins s σ H Q I ⟨Q0, q, m⟩ => thn (h.run pins s σ H Q0 I q) fun _ _ ⟨v, H1, J, r, z⟩ => ⟨v, H1, J, r, m _ _ z⟩⟩
/-- raise X(e) -/
def tRaiseE (W : WX) (C : Addr) (fld : Str) (te : TE) : TS := fun _ σ H => te σ H fun v H1 => okV v ∧ ∀ d, H1 d = none → W (.ref C) (some d) σ (upd H1 d (.xd [(fld, v)]))
theorem ps_raiseE (hc : X.calm = true) (E : EK X.prog X.w X.K X.mg X.base x fld C fI fd ps) (hr : Room 2 X.A) (tk : Takes X W) (hg : Gl X x) (he : PE X e te) (hdb : (x == ("__debug__" : Str)) = false := by decide)
    (hst : starEach [e] X.env = (false, eval e X.env) :: starEach [] X.env := by rfl) :
    PS X (.Raise (some (.Call (.Name x p) [e] [] pos)) none pos') (tRaiseE W C fld te) := by
  refine ⟨fun pins s σ H D I h => ?_⟩
  refine (ps_raise hc tk (pmk_oex E.T.ox E.iC E.tI E.F1 hr E.b .nil pass0 hg E.g (pa_cons (pe_up he) pa_nil hst) hdb hst rfl)).run pins s σ H D I ?_
  refine ⟨_, h, fun v H1 ⟨hok, k⟩ => ⟨by show 1 ≤ 1000; decide, fun a ha => ⟨a, v, rfl, hok, upd_same, fun d hd hda => ⟨rfl, d, [(fld, v)], upd_same, by rw [upd_ne hda, upd_same], ?_, ?_⟩⟩⟩⟩
  · rw [upd_ne hda] at hd
    exact hd
  · rw [upd_ne hda] at hd
    rw [upd_del ha hda]
    exact k d hd
/-! ### calls of what may raise, the wish at the slots -/
variable {CX : CXT} {k : Nat} {f : Addr} {sp : Sp} {m : Str} {es : List Expr} {t : TA} {ES : L2.St → XK}
def tMethS (C : Addr) (m : Str) (sp : Sp) (ES : L2.St → XK) (ta : TE) (t : TA) : TE := fun σ H Q => ta σ H fun x H1 => ∃ a dx fs, x = .ref a ∧ H1 a = some (.ins C dx fs) ∧ fs.lookup m = none ∧ t σ H1 fun vs H2 => sp (x :: vs) H2 Q (ES σ)
theorem pe_methS {pl : Sem Bool} (he : PE X o ta) (c : Cls X.K C) (hm : Meth X.K C m f) (F : FnOk X.prog X.w X.K X.mg X.base CX k f fd ps sp) (hr : Room k X.A) (hb : Binds X.K fd ps []) (hx : ∀ σ, PassesAt CX X σ (ES σ)) (ha : PA X (e :: es) t)
    (hst : starEach (e :: es) X.env = (false, eval e X.env) :: starEach es X.env := by rfl) (hpl : (backTo pos (starEach es X.env)).any (·.1) = false := by rfl)
    (ht : eval (.Call (.Attribute o m apos) (e :: es) [] pos) X.env = (do
      let ov ← eval o X.env
      standAt apos.atName
      let (f, first) ← holding [ov] (getMethod ov m pl)
      callWith pos f first (backTo pos (starEach (e :: es) X.env)) (backToKw pos (keywordEach [] X.env))) := by rfl) :
    PE X (.Call (.Attribute o m apos) (e :: es) [] pos) (tMethS C m sp ES ta t) := by
  refine ⟨fun pins s σ H Q I h => ?_⟩
  refine PySem.W.methodCall_KW (pl := pl) (thn (he.run pins s σ H _ I h) fun u s1 ⟨x, H1, I1, rx, a, dx, fs, ex, ea, l, q⟩ => ?_) ht
  subst ex
  obtain rfl : u = Value.ref a := rx
  refine getmeth_ok I1 ea c hm l ?_
  refine PySem.W.callWith_K (first := [.ref a]) (h₀ := X.base) I.ok.mod.kin hm.kp (thn (ha.run pos pins s1 σ H1 _ I1 q) fun us s2 ⟨vs, H2, I2, r, q2⟩ => ⟨I2.kIn, ?_⟩) hst hpl
  exact run_fnS (us := .ref a :: us) (vs := .ref a :: vs) F hr hb (hx σ) I2 (.cons rfl r) q2
theorem pe_meth0S {pl : Sem Bool} (he : PE X o ta) (c : Cls X.K C) (hm : Meth X.K C m f) (F : FnOk X.prog X.w X.K X.mg X.base CX k f fd ps sp) (hr : Room k X.A) (hb : Binds X.K fd ps []) (hx : ∀ σ, PassesAt CX X σ (ES σ))
    (ht : eval (.Call (.Attribute o m apos) [] [] pos) X.env = (do
      let ov ← eval o X.env
      standAt apos.atName
      let (f, first) ← holding [ov] (getMethod ov m pl)
      callWith pos f first (backTo pos (starEach [] X.env)) (backToKw pos (keywordEach [] X.env))) := by rfl) :
    PE X (.Call (.Attribute o m apos) [] [] pos) (tMethS C m sp ES ta tNil) := by
  refine ⟨fun pins s σ H Q I h => ?_⟩
  refine PySem.W.methodCall_KW (pl := pl) (thn (he.run pins s σ H _ I h) fun u s1 ⟨x, H1, I1, rx, a, dx, fs, ex, ea, l, q⟩ => ?_) ht
  subst ex
  obtain rfl : u = Value.ref a := rx
  refine getmeth_ok I1 ea c hm l ?_
  exact PySem.W.callWith_K0 (first := [.ref a]) I1.kIn hm.kp (run_fnS (us := [.ref a]) (vs := [.ref a]) F hr hb (hx σ) I1 (.cons rfl .nil) q)
theorem pe_call0S (F : FnOk X.prog X.w X.K X.mg X.base CX k f fd ps sp) (hr : Room k X.A) (hg : Gl X x) (hm : X.mg x = some (.ref f)) (hk : PySem.W.keepIn X.K (.ref f) = true) (hb : Binds X.K fd ps []) (hx : ∀ σ, PassesAt CX X σ (ES σ))
    (hdb : (x == ("__debug__" : Str)) = false := by decide) : PE X (.Call (.Name x p) [] [] pos) (tCallS sp ES tNil) := by
  refine ⟨fun pins s σ H Q I h => ?_⟩
  refine wpAny_Call_Name_kw (ld_glob I hg hm ?_ hdb)
  exact PySem.W.callWith_K0 I.kIn hk (run_fnS (us := []) (vs := []) F hr hb (hx σ) I .nil h)
theorem run_makeS {pins : List (Addr × Obj)} {σ : L2.St} {H : Hp} {s : Shared} {Q : VK} {us : List Value} {vs : List V} (M : Mk X.K C f) (F : FnOk X.prog X.w X.K X.mg X.base CX k f fd ps sp) (hr : Room (k + 1) X.A) (hb : Binds X.K fd ps []) (hp : ∀ (σ : L2.St), PassesAt CX X σ (ES σ))
    (I : Inv X pins σ H s) (r : Vals vs us) (h : ∀ x dx, H x = none → H dx = none → dx ≠ x → sp (.ref x :: vs) (upd (upd H dx (.own x)) x (.ins C dx [])) (fun v H2 => v = .non ∧ Q (.ref x) H2) (ES σ)) :
    wpAny (model X.prog X.w) X.A (call (.ref C) us) (EP X pins σ Q) X.xe s := by
  have hq := h (s.heap.objs.size + 1) s.heap.objs.size (I.hok.fresh (Nat.le_succ _)) (I.hok.fresh (Nat.le_refl _)) (Nat.ne_of_lt (Nat.lt_succ_self _))
  have I2 := Inv.made (C := C) I
  have r2 : Vals (V.ref (s.heap.objs.size + 1) :: vs) (Value.ref (s.heap.objs.size + 1) :: us) := .cons rfl r
  have hl : (Value.ref (s.heap.objs.size + 1) :: us).length = ps.length := by rw [← r2.length]; exact F.len _ _ _ _ hq
  have b := hb _ (Value.ref (s.heap.objs.size + 1) :: us) I2.kIn (by rw [List.append_nil]; exact hl)
  rw [List.append_nil] at b
  refine wpAny_call (make_map (f := f) I.kIn M.makes M.init (beq_iff_eq.mp M.fn) (codeAny_mono (F.run _ X.stack _ _ ⟨Value.ref (s.heap.objs.size + 1) :: us, []⟩ (Value.ref (s.heap.objs.size + 1) :: us) _ _ (ES σ) (hr.make C us [])
    (I2.env0.make C us []) b r2 hq) fun r s' hq' => ?_))
  cases r with
  | error e => exact hp σ pins _ _ e s' I2 hq'
  | ok fl =>
    cases fl with
    | ret u =>
      obtain ⟨v, H', I3, rv, ev, q3⟩ := I2.after hq'
      subst ev
      exact ⟨rv, ⟨V.ref (s.heap.objs.size + 1), H', I3, rfl, q3⟩⟩
    | next => exact False.elim hq'
    | brk => exact False.elim hq'
    | cont => exact False.elim hq'
def tMakeS (C : Addr) (sp : Sp) (ES : L2.St → XK) (t : TA) : TE := fun σ H Q => t σ H fun vs H1 => ∀ x dx, H1 x = none → H1 dx = none → dx ≠ x → sp (.ref x :: vs) (upd (upd H1 dx (.own x)) x (.ins C dx [])) (fun v H2 => v = .non ∧ Q (.ref x) H2) (ES σ)
theorem pe_makeS (M : Mk X.K C f) (F : FnOk X.prog X.w X.K X.mg X.base CX k f fd ps sp) (hr : Room (k + 1) X.A) (hg : Gl X x) (hm : X.mg x = some (.ref C)) (hb : Binds X.K fd ps []) (hx : ∀ σ, PassesAt CX X σ (ES σ))
    (ha : PA X (e :: es) t) (hdb : (x == ("__debug__" : Str)) = false := by decide) (he : starEach (e :: es) X.env = (false, eval e X.env) :: starEach es X.env := by rfl) (hpl : (backTo pos (starEach es X.env)).any (·.1) = false := by rfl) :
    PE X (.Call (.Name x p) (e :: es) [] pos) (tMakeS C sp ES t) := by
  refine ⟨fun pins s σ H Q I h => ?_⟩
  refine wpAny_Call_Name_kw (ld_glob I hg hm ?_ hdb)
  refine PySem.W.callWith_K (h₀ := X.base) I.ok.mod.kin M.kp (thn (ha.run pos pins s σ H _ I h) fun us s1 ⟨vs, H1, I1, r, q⟩ => ⟨I1.kIn, ?_⟩) he hpl
  exact run_makeS M F hr hb hx I1 r q
theorem pe_make0S (M : Mk X.K C f) (F : FnOk X.prog X.w X.K X.mg X.base CX k f fd ps sp) (hr : Room (k + 1) X.A) (hg : Gl X x) (hm : X.mg x = some (.ref C)) (hb : Binds X.K fd ps []) (hx : ∀ σ, PassesAt CX X σ (ES σ))
    (hdb : (x == ("__debug__" : Str)) = false := by decide) : PE X (.Call (.Name x p) [] [] pos) (tMakeS C sp ES tNil) := by
  refine ⟨fun pins s σ H Q I h => ?_⟩
  refine wpAny_Call_Name_kw (ld_glob I hg hm ?_ hdb)
  exact PySem.W.callWith_K0 I.kIn M.kp (run_makeS (us := []) (vs := []) M F hr hb hx I .nil h)
/-! ### isinstance(e, T), e a caught error that has its dict -/
def rIsED (K : PySem.W.Frag) (D a : Addr) (cls : Value) (d : Option Addr) : List V → Hp → VK → Prop := fun xs H Q => ∃ (c : V) (cv : Value) (b : Bool) (dd : Addr) (fs : List (Str × V)), xs = [.ref a, c] ∧ cls = .ref D ∧ d = some dd ∧ H dd = some (.xd fs) ∧ (∀ u, RelV c u → u = cv) ∧ PySem.W.kitOne K (.ref D) cv = some b ∧ Q (.bl b) H
theorem call_isED {a D : Addr} {oe : Obj} {cls : Value} {d : Option Addr} {pn : List (Addr × Obj)} (C : ExcC X.K D) (hz : Zc cls d oe) (hf : ∃ vs, oe.data = .fields vs) : CallR (X.suite a ((a, oe) :: pn)) (.builtin "isinstance") (rIsED X.K D a cls d) := by
  intro pins s σ H xs us Q I r h
  obtain ⟨c, cv, b, dd, fs, rfl, rfl, rfl, hdd, hcv, e, q⟩ := h
  cases r with
  | cons rx rr =>
    cases rr with
    | cons rt rr =>
      cases rr
      cases rx
      have ec := hcv _ rt
      subst ec
      obtain ⟨hget, _⟩ := I.pin (a, oe) (List.mem_append.mpr (.inl List.mem_cons_self))
      obtain ⟨vs, hv⟩ := hf
      have hx : ObjOk X.prog X.w H s.heap dd (.xd fs) := I.hok dd _ hdd
      obtain ⟨mA, hns, hr⟩ := hx
      obtain ⟨od, ho, hl⟩ := lookIn_ns hns
      have J : PySem.W.InstAt s.heap a oe D (some od) := by
        obtain ⟨oc, od', oda, osl⟩ := oe
        obtain ⟨h1, h2⟩ := hz
        dsimp only at h1 h2 hv
        subst h1 h2 hv
        exact ⟨hget, rfl, rfl, ho⟩
      exact PySem.W.kia_one (PySem.W.kitx_exc (by obtain ⟨cd, hc, _⟩ := PySem.W.any_some C.hd; rw [hc]; rfl) C.hg C.hk C.hs C.ha C.hn C.ht C.hm) I.kIn J e (fun z => nomatch z) fun tk => ⟨.bl b, H, I.kept (t' := tk) fun _ _ z => z, rfl, q⟩
end
end Sx
set_option Elab.async false
set_option maxRecDepth 100000
set_option maxHeartbeats 4000000
set_option linter.all false
set_option autoImplicit false
/-! Readings, one step a lemma; heaps by footprints. -/
namespace Rd
open PySem PySem.Spec PyProof.Rows L2 Sx
/-! ### promises by the number of arguments -/
def A0 (φ : Hp → VK → XK → Prop) : Sp := fun vs H Q E => vs = [] ∧ φ H Q E
def A1 (φ : V → Hp → VK → XK → Prop) : Sp := fun vs H Q E => ∃ x, vs = [x] ∧ φ x H Q E
def A2 (φ : V → V → Hp → VK → XK → Prop) : Sp := fun vs H Q E => ∃ x y, vs = [x, y] ∧ φ x y H Q E
def A3 (φ : V → V → V → Hp → VK → XK → Prop) : Sp := fun vs H Q E => ∃ x y z, vs = [x, y, z] ∧ φ x y z H Q E
def A4 (φ : V → V → V → V → Hp → VK → XK → Prop) : Sp := fun vs H Q E => ∃ x y z u, vs = [x, y, z, u] ∧ φ x y z u H Q E
def A5 (φ : V → V → V → V → V → Hp → VK → XK → Prop) : Sp := fun vs H Q E => ∃ x y z u w, vs = [x, y, z, u, w] ∧ φ x y z u w H Q E
def A6 (φ : V → V → V → V → V → V → Hp → VK → XK → Prop) : Sp := fun vs H Q E => ∃ x y z u w o, vs = [x, y, z, u, w, o] ∧ φ x y z u w o H Q E
theorem A0.len {φ : Hp → VK → XK → Prop} {vs : List V} {H : Hp} {Q : VK} {E : XK} (h : A0 φ vs H Q E) : vs.length = 0 := by obtain ⟨rfl, _⟩ := h; rfl
theorem A1.len {φ : V → Hp → VK → XK → Prop} {vs : List V} {H : Hp} {Q : VK} {E : XK} (h : A1 φ vs H Q E) : vs.length = 1 := by obtain ⟨_, rfl, _⟩ := h; rfl
theorem A2.len {φ : V → V → Hp → VK → XK → Prop} {vs : List V} {H : Hp} {Q : VK} {E : XK} (h : A2 φ vs H Q E) : vs.length = 2 := by obtain ⟨_, _, rfl, _⟩ := h; rfl
theorem A3.len {φ : V → V → V → Hp → VK → XK → Prop} {vs : List V} {H : Hp} {Q : VK} {E : XK} (h : A3 φ vs H Q E) : vs.length = 3 := by obtain ⟨_, _, _, rfl, _⟩ := h; rfl
theorem A4.len {φ : V → V → V → V → Hp → VK → XK → Prop} {vs : List V} {H : Hp} {Q : VK} {E : XK} (h : A4 φ vs H Q E) : vs.length = 4 := by obtain ⟨_, _, _, _, rfl, _⟩ := h; rfl
theorem A5.len {φ : V → V → V → V → V → Hp → VK → XK → Prop} {vs : List V} {H : Hp} {Q : VK} {E : XK} (h : A5 φ vs H Q E) : vs.length = 5 := by obtain ⟨_, _, _, _, _, rfl, _⟩ := h; rfl
theorem A6.len {φ : V → V → V → V → V → V → Hp → VK → XK → Prop} {vs : List V} {H : Hp} {Q : VK} {E : XK} (h : A6 φ vs H Q E) : vs.length = 6 := by obtain ⟨_, _, _, _, _, _, rfl, _⟩ := h; rfl
theorem a0 {φ : Hp → VK → XK → Prop} {H : Hp} {Q : VK} {E : XK} (h : φ H Q E) : A0 φ [] H Q E := ⟨rfl, h⟩
theorem a1 {φ : V → Hp → VK → XK → Prop} {x : V} {H : Hp} {Q : VK} {E : XK} (h : φ x H Q E) : A1 φ [x] H Q E := ⟨x, rfl, h⟩
theorem a2 {φ : V → V → Hp → VK → XK → Prop} {x y : V} {H : Hp} {Q : VK} {E : XK} (h : φ x y H Q E) : A2 φ [x, y] H Q E := ⟨x, y, rfl, h⟩
theorem a3 {φ : V → V → V → Hp → VK → XK → Prop} {x y z : V} {H : Hp} {Q : VK} {E : XK} (h : φ x y z H Q E) : A3 φ [x, y, z] H Q E := ⟨x, y, z, rfl, h⟩
theorem a4 {φ : V → V → V → V → Hp → VK → XK → Prop} {x y z u : V} {H : Hp} {Q : VK} {E : XK} (h : φ x y z u H Q E) : A4 φ [x, y, z, u] H Q E := ⟨x, y, z, u, rfl, h⟩
theorem a5 {φ : V → V → V → V → V → Hp → VK → XK → Prop} {x y z u w : V} {H : Hp} {Q : VK} {E : XK} (h : φ x y z u w H Q E) : A5 φ [x, y, z, u, w] H Q E := ⟨x, y, z, u, w, rfl, h⟩
theorem a6 {φ : V → V → V → V → V → V → Hp → VK → XK → Prop} {x y z u w o : V} {H : Hp} {Q : VK} {E : XK} (h : φ x y z u w o H Q E) : A6 φ [x, y, z, u, w, o] H Q E := ⟨x, y, z, u, w, o, rfl, h⟩
/-! ### attribute lists -/
theorem putF_hit (f : Str) (v y : V) (r : List (Str × V)) : putF f v ((f, y) :: r) = (f, v) :: r := if_pos rfl
theorem putF_miss {f g : Str} (h : ¬ g = f) (v y : V) (r : List (Str × V)) : putF f v ((g, y) :: r) = (g, y) :: putF f v r := if_neg h
theorem putF_nil (f : Str) (v : V) : putF f v [] = [(f, v)] := rfl
theorem look_hit (f : Str) (y : V) (r : List (Str × V)) : ((f, y) :: r).lookup f = some y := by rw [lookup_put, if_pos rfl]
theorem look_miss {f g : Str} (h : ¬ g = f) (y : V) (r : List (Str × V)) : ((f, y) :: r).lookup g = r.lookup g := by rw [lookup_put, if_neg h]
/-! ### steps -/
section
variable {K : PySem.W.Frag} {D : Ends} {σ : L2.St} {H : Hp} {t u : TS} {te ta tb tc : TE} {tt tu : TT} {g : TG} {Q : VK} {QT : Bool → Hp → Prop} {v x y : V} {i : Nat} {r : R2} {tl tr : TA} {QA : List V → Hp → Prop}
theorem s_seq (h : t { D with nx := u D } σ H) : tSeq t u D σ H := h
theorem s_asg (h : te σ H fun x H1 => g x σ H1 D.nx) : tAsg te g D σ H := h
theorem g_name {R : L2.St → Hp → Prop} (h : R (σ.set i (some v)) H) : gName i v σ H R := h
theorem s_ret (h : te σ H D.rt) : tRet te D σ H := h
theorem s_retN (h : D.rt .non H) : tRetN D σ H := h
theorem s_drop (h : te σ H fun _ H1 => D.nx σ H1) : tDrop te D σ H := h
theorem s_if (h : tt σ H fun b H1 => if b = true then t D σ H1 else u D σ H1) : tIfS tt t u D σ H := h
theorem s_next (h : D.nx σ H) : tNext D σ H := h
theorem s_cont (h : D.ct σ H) : tCont D σ H := h
theorem s_break (h : D.bk σ H) : tBreak D σ H := h
theorem d_nx {a c d : L2.St → Hp → Prop} {b : V → Hp → Prop} (h : a σ H) : (Ends.mk a b c d).nx σ H := h
theorem d_rt {a c d : L2.St → Hp → Prop} {b : V → Hp → Prop} (h : b v H) : (Ends.mk a b c d).rt v H := h
theorem d_bk {a c d : L2.St → Hp → Prop} {b : V → Hp → Prop} (h : c σ H) : (Ends.mk a b c d).bk σ H := h
theorem d_ct {a c d : L2.St → Hp → Prop} {b : V → Hp → Prop} (h : d σ H) : (Ends.mk a b c d).ct σ H := h
def kSet (K : PySem.W.Frag) (f : Str) (y x : V) (H : Hp) (R : Hp → Prop) : Prop := ∃ a C dx fs, x = .ref a ∧ H a = some (.ins C dx fs) ∧ Cls K C ∧ NoAttr K C f ∧ fs.length < 1000 ∧ R (upd H a (.ins C dx (putF f y fs)))
theorem s_fld {f : Str} (h : tb σ H fun y H1 => ta σ H1 fun x H2 => kSet K f y x H2 (D.nx σ)) : sFld K ta tb f D σ H := h
theorem k_set {f : Str} {R : Hp → Prop} {a C dx : Addr} {fs fs' : List (Str × V)} (h : H a = some (.ins C dx fs)) (c : Cls K C) (n : NoAttr K C f) (hp : putF f y fs = fs') (l : fs.length < 1000) (q : R (upd H a (.ins C dx fs'))) : kSet K f y (.ref a) H R := ⟨a, C, dx, fs, rfl, h, c, n, l, hp ▸ q⟩
theorem e_var (h : σ[i]? = some (some v)) (q : Q v H) : tVar i σ H Q := ⟨v, h, q⟩
theorem e_c (q : Q v H) : tC v σ H Q := q
theorem e_op (h : ta σ H fun x H1 => tb σ H1 fun y H2 => r x y H2 Q) : tOp r ta tb σ H Q := h
theorem e_un {ru : V → Hp → VK → Prop} (h : ta σ H fun x H1 => ru x H1 Q) : tUn ru ta σ H Q := h
theorem o_I0 {gg : Int → Int → V} {m n : Int} (q : Q (gg m n) H) : rI0 gg (.int m) (.int n) H Q := ⟨m, n, rfl, rfl, q⟩
theorem o_I {Cc : Int → Int → Prop} {gg : Int → Int → V} {m n : Int} (c : Cc m n) (q : Q (gg m n) H) : rI Cc gg (.int m) (.int n) H Q := ⟨m, n, rfl, rfl, c, q⟩
theorem o_U {gg : Int → V} {m : Int} (q : Q (gg m) H) : rU gg (.int m) H Q := ⟨m, rfl, q⟩
theorem o_eq (s : scal x y = true) (q : Q (.bl (decide (x = y))) H) : rEq x y H Q := ⟨s, q⟩
theorem o_ne (s : scal x y = true) (q : Q (.bl (!decide (x = y))) H) : rNe x y H Q := ⟨s, q⟩
theorem o_ixL {p : Addr} {xs : List V} {n : Int} (h : SqL K H p xs) (a : atI xs n = some v) (q : Q v H) : rIxL K (.ref p) (.int n) H Q := ⟨p, xs, n, v, rfl, rfl, h, a, q⟩
theorem o_ixT {p : Addr} {xs : List V} {n : Int} (h : SqT K H p xs) (a : atI xs n = some v) (q : Q v H) : rIxT K (.ref p) (.int n) H Q := ⟨p, xs, n, v, rfl, rfl, h, a, q⟩
def kFld (K : PySem.W.Frag) (f : Str) (x : V) (H : Hp) (Q : VK) : Prop := ∃ a C dx fs v, x = .ref a ∧ H a = some (.ins C dx fs) ∧ Cls K C ∧ NoAttr K C f ∧ fs.lookup f = some v ∧ Q v H
theorem e_fld {f : Str} (h : ta σ H fun x H1 => kFld K f x H1 Q) : tFld K ta f σ H Q := h
theorem k_fld {f : Str} {a C dx : Addr} {fs : List (Str × V)} (h : H a = some (.ins C dx fs)) (c : Cls K C) (n : NoAttr K C f) (l : fs.lookup f = some v) (q : Q v H) : kFld K f (.ref a) H Q := ⟨a, C, dx, fs, v, rfl, h, c, n, l, q⟩
def kMeth (C : Addr) (m : Str) (sp : Sp) (E : XK) (t : TA) (σ : L2.St) (x : V) (H : Hp) (Q : VK) : Prop := ∃ a dx fs, x = .ref a ∧ H a = some (.ins C dx fs) ∧ fs.lookup m = none ∧ t σ H fun vs H2 => sp (x :: vs) H2 Q E
theorem e_meth {C : Addr} {m : Str} {sp : Sp} {ES : L2.St → XK} (h : ta σ H fun x H1 => kMeth C m sp (ES σ) tl σ x H1 Q) : tMethS C m sp ES ta tl σ H Q := h
theorem k_meth {C a dx : Addr} {m : Str} {sp : Sp} {E : XK} {fs : List (Str × V)} (h : H a = some (.ins C dx fs)) (l : fs.lookup m = none) (q : tl σ H fun vs H2 => sp (.ref a :: vs) H2 Q E) : kMeth C m sp E tl σ (.ref a) H Q := ⟨a, dx, fs, rfl, h, l, q⟩
theorem e_call {sp : Sp} {ES : L2.St → XK} (h : tl σ H fun vs H1 => sp vs H1 Q (ES σ)) : tCallS sp ES tl σ H Q := h
theorem e_make {C : Addr} {sp : Sp} {ES : L2.St → XK} (h : tl σ H fun vs H1 => ∀ x dx, H1 x = none → H1 dx = none → dx ≠ x → sp (.ref x :: vs) (upd (upd H1 dx (.own x)) x (.ins C dx [])) (fun v H2 => v = .non ∧ Q (.ref x) H2) (ES σ)) : tMakeS C sp ES tl σ H Q := h
theorem e_cb {rc : List V → Hp → VK → Prop} (h : tl σ H fun vs H1 => rc vs H1 Q) : tCB rc tl σ H Q := h
theorem l_nil (h : QA [] H) : tNil σ H QA := h
theorem l_cons (h : ta σ H fun x H1 => tl σ H1 fun xs H2 => QA (x :: xs) H2) : tCons ta tl σ H QA := h
theorem e_lst (h : tl σ H fun xs H1 => xs.length ≤ sizeLine ∧ ∀ p, H1 p = none → Q (.ref p) (upd H1 p (.lst xs))) : tLst tl σ H Q := h
theorem e_tup (h : tl σ H fun xs H1 => xs.length ≤ sizeLine ∧ ∀ p, H1 p = none → Q (.ref p) (upd H1 p (.tup xs))) : tTup tl σ H Q := h
theorem e_bm {T : String} {rm : V → List V → Hp → VK → Prop} (h : ta σ H fun x H1 => tyV K T x H1 ∧ tl σ H1 fun xs H2 => rm x xs H2 Q) : tBM K T rm ta tl σ H Q := h
theorem e_bm0 {T : String} {rm : V → List V → Hp → VK → Prop} (h : ta σ H fun x H1 => tyV K T x H1 ∧ rm x [] H1 Q) : tBM0 K T rm ta σ H Q := h
theorem e_not (h : ta σ H fun x H1 => ∃ c, x = .bl c ∧ Q (.bl (!c)) H1) : tNotV ta σ H Q := h
theorem e_if (h : tt σ H fun c H1 => if c = true then ta σ H1 Q else tb σ H1 Q) : tIf tt ta tb σ H Q := h
def kT (x : V) (H : Hp) (QT : Bool → Hp → Prop) : Prop := ∃ k, x = .bl k ∧ QT k H
theorem k_t {b : Bool} (q : QT b H) : kT (.bl b) H QT := ⟨b, rfl, q⟩
theorem t_test (h : te σ H fun x H1 => kT x H1 QT) : tTest te σ H QT := h
theorem t_B (h : te σ H fun x H1 => kT x H1 QT) : tB te σ H QT := h
theorem t_and (h : tt σ H fun c H1 => if c = true then tu σ H1 QT else QT false H1) : tAnd tt tu σ H QT := h
theorem t_or (h : tt σ H fun c H1 => if c = true then QT true H1 else tu σ H1 QT) : tOr tt tu σ H QT := h
theorem t_not (h : tt σ H fun c H1 => QT (!c) H1) : tNot tt σ H QT := h
theorem e_and (h : ta σ H fun x H1 => ∃ c, x = .bl c ∧ if c = true then tb σ H1 Q else Q (.bl false) H1) : tAndV ta tb σ H Q := h
theorem e_or (h : ta σ H fun x H1 => ∃ c, x = .bl c ∧ if c = true then Q (.bl true) H1 else tb σ H1 Q) : tOrV ta tb σ H Q := h
theorem e_chain {r' : R2} (h : ta σ H fun x H1 => tb σ H1 fun y H2 => r x y H2 fun z H3 => kT z H3 fun k H4 => if k = true then tc σ H4 fun w' H5 => r' y w' H5 Q else Q (.bl false) H4) : tChain r r' ta tb tc σ H Q := by
  refine h
theorem s_raise {W : WX} {C : Addr} {fld : Str} (h : te σ H fun v H1 => okV v ∧ ∀ d, H1 d = none → W (.ref C) (some d) σ (upd H1 d (.xd [(fld, v)]))) : tRaiseE W C fld te D σ H := h
theorem e_sl {rs : V → Option Int → Option Int → Hp → VK → Prop} {to th : TO} (h : te σ H fun x H1 => to σ H1 fun l H2 => th σ H2 fun u H3 => rs x l u H3 Q) : tSl rs te to th σ H Q := h
theorem p_no {QO : Option Int → Hp → Prop} (h : QO none H) : tNoPart σ H QO := h
def kI (x : V) (H : Hp) (QO : Option Int → Hp → Prop) : Prop := ∃ n, x = .int n ∧ QO (some n) H
theorem k_i {QO : Option Int → Hp → Prop} {n : Int} (q : QO (some n) H) : kI (.int n) H QO := ⟨n, rfl, q⟩
theorem p_some {QO : Option Int → Hp → Prop} (h : te σ H fun x H1 => kI x H1 QO) : tPart te σ H QO := h
/-! ### ifs -/
theorem if_d {c A B : Prop} [Decidable c] (h1 : c → A) (h2 : ¬ c → B) : if decide c = true then A else B := by
  by_cases h : c
  · rw [if_pos (decide_eq_true h)]; exact h1 h
  · rw [if_neg (by rw [decide_eq_false h]; exact Bool.false_ne_true)]; exact h2 h
theorem if_nd {c A B : Prop} [Decidable c] (h1 : ¬ c → A) (h2 : c → B) : if (!decide c) = true then A else B := by
  by_cases h : c
  · rw [decide_eq_true h]; exact iteF (h2 h)
  · rw [decide_eq_false h]; exact iteT (h1 h)
theorem if_dT {c A B : Prop} [Decidable c] (h : c) (q : A) : if decide c = true then A else B := by rw [if_pos (decide_eq_true h)]; exact q
theorem if_dF {c A B : Prop} [Decidable c] (h : ¬ c) (q : B) : if decide c = true then A else B := if_d (fun z => absurd z h) fun _ => q
theorem if_ndT {c A B : Prop} [Decidable c] (h : ¬ c) (q : A) : if (!decide c) = true then A else B := if_nd (fun _ => q) fun z => absurd z h
theorem if_ndF {c A B : Prop} [Decidable c] (h : c) (q : B) : if (!decide c) = true then A else B := if_nd (fun z => absurd h z) fun _ => q
theorem if_b {b : Bool} {A B : Prop} (h1 : b = true → A) (h2 : b = false → B) : if b = true then A else B := by
  cases b with
  | true => exact iteT (h1 rfl)
  | false => exact iteF (h2 rfl)
end
/-! ### lists of values -/
theorem upd_rw {H : Hp} {a : Addr} {o : HO} (h : H a = some o) : upd H a o = H := by
  funext b
  by_cases hb : b = a
  · rw [hb, upd_same, h]
  · rw [upd_ne hb]
theorem sz {n : Nat} (h : n ≤ 100000) : n ≤ sizeLine := by rw [sizeLine_eq]; omega
theorem szl {n : Nat} (h : n < 100000) : n < sizeLine := by rw [sizeLine_eq]; omega
/-! ### what a step may touch -/
/-- all that was tracked, but at fp, is as it was -/
def Fp (fp : List Addr) (H H' : Hp) : Prop := ∀ b o, H b = some o → b ∉ fp → H' b = some o
theorem Fp.refl (fp : List Addr) (H : Hp) : Fp fp H H := fun _ _ h _ => h
theorem Fp.trans {fp : List Addr} {H H1 H2 : Hp} (a : Fp fp H H1) (b : Fp fp H1 H2) : Fp fp H H2 := fun c o h n => b c o (a c o h n) n
theorem Fp.mono {fp fq : List Addr} {H H' : Hp} (a : Fp fp H H') (s : ∀ x, x ∈ fp → x ∈ fq) : Fp fq H H' := fun c o h n => a c o h fun z => n (s c z)
theorem Fp.new {fp : List Addr} {H : Hp} {a : Addr} {o : HO} (h : H a = none) : Fp fp H (upd H a o) := fun c u e _ => by rw [upd_ne (ne_of_none e h)]; exact e
theorem Fp.at_ {fp : List Addr} {H : Hp} {a : Addr} {o : HO} (h : a ∈ fp) : Fp fp H (upd H a o) := fun c u e n => by
  rw [upd_ne (fun z => n (by rw [z]; exact h))]
  exact e
/-- what was new in H does not count -/
theorem Fp.drop {fp fq : List Addr} {H H' : Hp} (a : Fp fp H H') (s : ∀ x, x ∈ fp → x ∈ fq ∨ H x = none) : Fp fq H H' := fun c o h n => a c o h fun z => by
  rcases s c z with q | q
  · exact n q
  · rw [q] at h; cases h
theorem Fp.free {fp : List Addr} {H H' : Hp} (e : Fp fp H H') {l : Addr} (n : l ∉ fp) (h : H' l = none) : H l = none := by
  cases q : H l with
  | none => rfl
  | some o => rw [e l o q n] at h; cases h
theorem Fp.seq {K : PySem.W.Frag} {fp : List Addr} {H H' : Hp} {a : Addr} {xs : List V} (e : Fp fp H H') (n : a ∉ fp) (h : SqL K H a xs) : SqL K H' a xs := by
  rcases h with (h | ⟨o, h⟩) | h
  · exact .inl (.inl (e _ _ h n))
  · exact .inl (.inr ⟨o, e _ _ h n⟩)
  · exact .inr h
theorem Fp.tup {K : PySem.W.Frag} {fp : List Addr} {H H' : Hp} {a : Addr} {xs : List V} (e : Fp fp H H') (n : a ∉ fp) (h : SqT K H a xs) : SqT K H' a xs := by
  rcases h with (h | ⟨o, h⟩) | h
  · exact .inl (.inl (e _ _ h n))
  · exact .inl (.inr ⟨o, e _ _ h n⟩)
  · exact .inr h

/-! ### built-ins by name -/
section
variable {X : Cx} {K : PySem.W.Frag} {H : Hp} {Q : VK} {v : V}
def rLn (K : PySem.W.Frag) : List V → Hp → VK → Prop := fun xs H Q => ∃ p ys, xs = [.ref p] ∧ (SqL K H p ys ∨ SqT K H p ys) ∧ Q (.int ys.length) H
theorem call_ln : CallR X (.builtin "len") (rLn X.K) := call_len_seq
theorem c_ln {p : Addr} {ys : List V} (h : SqL K H p ys) (q : Q (.int ys.length) H) : rLn K [.ref p] H Q := ⟨p, ys, rfl, .inl h, q⟩
theorem c_lnT {p : Addr} {ys : List V} (h : SqT K H p ys) (q : Q (.int ys.length) H) : rLn K [.ref p] H Q := ⟨p, ys, rfl, .inr h, q⟩
def rAb : List V → Hp → VK → Prop := fun xs H Q => ∃ i, xs = [.int i] ∧ Q (.int (if i < 0 then -i else i)) H
theorem call_ab : CallR X (.builtin "abs") rAb := call_abs
theorem c_ab {i : Int} (q : Q (.int (if i < 0 then -i else i)) H) : rAb [.int i] H Q := ⟨i, rfl, q⟩
def rIn1 : List V → Hp → VK → Prop := fun xs H Q => ∃ i, xs = [.int i] ∧ Q (.int i) H
theorem call_in : CallR X (.type "int") rIn1 := fun pins s σ H xs us Q I r ⟨i, e, q⟩ => call_int1 pins s σ H xs us Q I r (.inl ⟨i, e, q⟩)
theorem c_in {i : Int} (q : Q (.int i) H) : rIn1 [.int i] H Q := ⟨i, rfl, q⟩
def rMx : List V → Hp → VK → Prop := fun xs H Q => ∃ i j, xs = [.int i, .int j] ∧ Q (.int (if j > i then j else i)) H
theorem call_mx (hc : X.calm = true) : CallR X (.builtin "max") rMx := call_max2 hc
theorem c_mx {i j : Int} (q : Q (.int (if j > i then j else i)) H) : rMx [.int i, .int j] H Q := ⟨i, j, rfl, q⟩
def rMn : List V → Hp → VK → Prop := fun xs H Q => ∃ i j, xs = [.int i, .int j] ∧ Q (.int (if j < i then j else i)) H
theorem call_mn (hc : X.calm = true) : CallR X (.builtin "min") rMn := call_min2 hc
theorem c_mn {i j : Int} (q : Q (.int (if j < i then j else i)) H) : rMn [.int i, .int j] H Q := ⟨i, j, rfl, q⟩
def rLs (K : PySem.W.Frag) : List V → Hp → VK → Prop := fun xs H Q => ∃ p ys, xs = [.ref p] ∧ (SqL K H p ys ∨ SqT K H p ys) ∧ ∀ l, H l = none → Q (.ref l) (upd H l (.lst ys))
theorem call_ls : CallR X (.type "list") (rLs X.K) := call_list_of
theorem c_ls {p : Addr} {ys : List V} (h : SqL K H p ys) (q : ∀ l, H l = none → Q (.ref l) (upd H l (.lst ys))) : rLs K [.ref p] H Q := ⟨p, ys, rfl, .inl h, q⟩
theorem c_app {l : Addr} {xs : List V} (h : H l = some (.lst xs)) (z : xs.length < sizeLine) (q : Q .non (upd H l (.lst (xs ++ [v])))) : rAppend (.ref l) [v] H Q := ⟨l, xs, v, rfl, rfl, h, z, q⟩
theorem c_pop0 {l : Addr} {x : V} {xs : List V} (h : H l = some (.lst (x :: xs))) (z : xs.length < 100000) (q : Q x (upd H l (.lst xs))) : rPopAt (.ref l) [.int 0] H Q :=
  ⟨l, x :: xs, 0, 0, x, rfl, rfl, h, by decide, by decide, by
    unfold seqIndex?
    first | rfl | simp, rfl, q⟩
theorem c_setL {p : Addr} {xs : List V} {n : Int} {j : Nat} {R : Hp → Prop} (h : H p = some (.lst xs)) (e : n = (j : Int)) (hj : j < xs.length) (q : R (upd H p (.lst (xs.set j v)))) : rSetL (.ref p) (.int n) v H R := by
  subst e
  exact ⟨p, xs, _, j, rfl, rfl, h, Evl.ixN_nat hj, q⟩
theorem g_sub {to ti : TE} {ts : TSet} {σ : L2.St} {R : L2.St → Hp → Prop} (h : to σ H fun o H1 => ti σ H1 fun i H2 => ts o i v H2 fun H3 => R σ H3) : gSub to ti ts v σ H R := h
theorem o_cat {l b : Addr} {xs zs : List V} (h : H l = some (.lst xs)) (h' : H b = some (.lst zs)) (z : xs.length + zs.length ≤ sizeLine) (q : ∀ p, H p = none → Q (.ref p) (upd H p (.lst (xs ++ zs)))) : rCat (.ref l) (.ref b) H Q := ⟨l, b, xs, zs, rfl, rfl, h, h', z, q⟩
theorem o_slL {a : Addr} {xs : List V} {lo hi : Option Int} (h : SqL K H a xs) (q : ∀ p, H p = none → Q (.ref p) (upd H p (.lst (cutV xs lo hi)))) : rSlL K (.ref a) lo hi H Q := ⟨a, xs, rfl, h, q⟩
/-- data of one level, as PyData -/
def toD : V → PyData
  | .bl b => .bool b
  | .int i => .int i
  | .str x => .str x
  | _ => .none
def flat : V → Bool
  | .non => true | .bl _ => true | .int _ => true | .str x => PyData.strOk x | _ => false
theorem dp_flat {x : V} (h : flat x = true) : Dp K H x (toD x) := by
  cases x with
  | non => exact .non
  | bl b => exact .bl b
  | int i => exact .int i
  | str z => exact .str z
  | byt _ => cases h
  | flt _ => cases h
  | ref _ => cases h
  | ty _ => cases h
theorem dp_flats : ∀ {xs : List V}, (∀ x ∈ xs, flat x = true) → DpAll K H xs (xs.map toD)
  | [], _ => .nil
  | x :: xs, h => .cons (dp_flat (h x List.mem_cons_self)) (dp_flats fun y hy => h y (List.mem_cons_of_mem _ hy))
theorem lay_flat {x : V} (h : flat x = true) : (toD x).canLay0 = true := by
  cases x with
  | str z => show PyData.strOk z = true; exact h
  | non => rfl
  | bl b => rfl
  | int i => rfl
  | byt _ => cases h
  | flt _ => cases h
  | ref _ => cases h
  | ty _ => cases h
theorem lay_flats : ∀ {xs : List V}, (∀ x ∈ xs, flat x = true) → PyData.canLayAll0 (xs.map toD) = true
  | [], _ => rfl
  | x :: xs, h => by
    show ((toD x).canLay0 && PyData.canLayAll0 (xs.map toD)) = true
    rw [lay_flat (h x List.mem_cons_self), lay_flats fun y hy => h y (List.mem_cons_of_mem _ hy)]
    rfl
theorem depth_flat (x : V) : (toD x).depth ≤ 1 := by
  cases x <;> first | decide | (simp [toD, PyData.depth])
theorem depth_flats : ∀ xs : List V, PyData.depthAll (xs.map toD) ≤ 1
  | [] => by simp [PyData.depthAll]
  | x :: xs => by
    have h1 := depth_flat x
    have h2 := depth_flats xs
    show PyData.depthAll (toD x :: xs.map toD) ≤ 1
    simp only [PyData.depthAll]
    omega
theorem shaped_flat {x : V} (h : flat x = true) : SeqAt.shaped (toD x) = true := by
  show ((toD x).canLay0 && decide ((toD x).depth ≤ 64)) = true
  rw [lay_flat h, decide_eq_true (Nat.le_trans (depth_flat x) (by decide))]
  rfl
theorem shaped_flats {xs : List V} (h : ∀ x ∈ xs, flat x = true) : SeqAt.shaped (.list (xs.map toD)) = true := by
  have d1 := depth_flats xs
  show (PyData.canLay0 (.list (xs.map toD)) && decide (PyData.depth (.list (xs.map toD)) ≤ 64)) = true
  have e1 : PyData.canLay0 (.list (xs.map toD)) = PyData.canLayAll0 (xs.map toD) := by simp only [PyData.canLay0]
  have e2 : PyData.depth (.list (xs.map toD)) ≤ 64 := by simp only [PyData.depth]; omega
  rw [e1, lay_flats h, decide_eq_true e2]
  rfl
theorem shaped_flatT {xs : List V} (h : ∀ x ∈ xs, flat x = true) : SeqAt.shaped (.tuple (xs.map toD)) = true := by
  have d1 := depth_flats xs
  show (PyData.canLay0 (.tuple (xs.map toD)) && decide (PyData.depth (.tuple (xs.map toD)) ≤ 64)) = true
  have e1 : PyData.canLay0 (.tuple (xs.map toD)) = PyData.canLayAll0 (xs.map toD) := by simp only [PyData.canLay0]
  have e2 : PyData.depth (.tuple (xs.map toD)) ≤ 64 := by simp only [PyData.depth]; omega
  rw [e1, lay_flats h, decide_eq_true e2]
  rfl
/-- the same data on both sides -/
theorem eqv_self {d : PyData} (h : SeqAt.shaped d = true) : PyData.eqv d d = true := by
  have h1 : d.canLay0 = true := SeqAt.canLay_of_shaped h
  first | exact SeqAt.eqv_refl d h1 | exact P3.eqv_refl d h1 | exact eqv_refl d h1
theorem o_eqD {x y : V} {d : PyData} (h1 : Dp K H x d) (h2 : Dp K H y d) (s : SeqAt.shaped d = true) (q : Q (.bl true) H) : rEqD K x y H Q := ⟨d, d, h1, h2, s, s, by rw [eqv_self s]; exact q⟩
theorem o_neD {x y : V} {d : PyData} (h1 : Dp K H x d) (h2 : Dp K H y d) (s : SeqAt.shaped d = true) (q : Q (.bl false) H) : rNeD K x y H Q := ⟨d, d, h1, h2, s, s, by rw [eqv_self s]; exact q⟩
/-- two lists of plain values that are one list -/
theorem o_neL {a b : Addr} {xs : List V} (h1 : SqL K H a xs) (h2 : SqL K H b xs) (f : ∀ x ∈ xs, flat x = true) (q : Q (.bl false) H) : rNeD K (.ref a) (.ref b) H Q :=
  o_neD (.lst h1 (dp_flats f)) (.lst h2 (dp_flats f)) (shaped_flats f) q
theorem o_eqL {a b : Addr} {xs : List V} (h1 : SqL K H a xs) (h2 : SqL K H b xs) (f : ∀ x ∈ xs, flat x = true) (q : Q (.bl true) H) : rEqD K (.ref a) (.ref b) H Q :=
  o_eqD (.lst h1 (dp_flats f)) (.lst h2 (dp_flats f)) (shaped_flats f) q
theorem o_neT {a b : Addr} {xs : List V} (h1 : SqT K H a xs) (h2 : SqT K H b xs) (f : ∀ x ∈ xs, flat x = true) (q : Q (.bl false) H) : rNeD K (.ref a) (.ref b) H Q :=
  o_neD (.tup h1 (dp_flats f)) (.tup h2 (dp_flats f)) (shaped_flatT f) q
theorem flat_ints (ns : List Int) : ∀ x ∈ ns.map V.int, flat x = true := fun x hx => by
  obtain ⟨n, _, rfl⟩ := List.mem_map.mp hx
  rfl
end

/-! ### loops and comprehensions -/
section
variable {K : PySem.W.Frag} {D : Ends} {σ : L2.St} {H : Hp} {tb : TS} {te tl : TE} {tt tc : TT} {g : TG} {Q : VK} {j : Nat} {b : Addr} {xs ys : List V} {vs : List Nat}
theorem f_list (Pv : Nat → L2.St → Hp → Prop) (hv : σ[j]? = some (some (.ref b))) (hS : SqL K H b xs) (h0 : Pv 0 σ H) (hl : ∀ i σ' H', i ≤ xs.length → Pv i σ' H' → SqL K H' b xs)
    (hs : ∀ i x σ' H', xs[i]? = some x → Pv i σ' H' → g x σ' H' fun σ2 H2 => tb { D with nx := Pv (i + 1), ct := Pv (i + 1), bk := D.nx } σ2 H2) (hd : ∀ σ' H', Pv xs.length σ' H' → D.nx σ' H') : tFor (iList K (tVar j)) g tb D σ H :=
  ⟨_, hv, b, rfl, ⟨_, hS⟩, for_list Pv h0 hl hs hd⟩
/-- over a list that an expression hands back -/
theorem f_listE (h : tl σ H fun x H1 => ∃ (p : Addr) (xs : List V) (Pv : Nat → L2.St → Hp → Prop), x = .ref p ∧ SqL K H1 p xs ∧ Pv 0 σ H1 ∧ (∀ i σ' H', i ≤ xs.length → Pv i σ' H' → SqL K H' p xs) ∧
    (∀ i x σ' H', xs[i]? = some x → Pv i σ' H' → g x σ' H' fun σ2 H2 => tb { D with nx := Pv (i + 1), ct := Pv (i + 1), bk := D.nx } σ2 H2) ∧ ∀ σ' H', Pv xs.length σ' H' → D.nx σ' H') (up : ∀ R R' : VK, (∀ x H1, R x H1 → R' x H1) → tl σ H R → tl σ H R') : tFor (iList K tl) g tb D σ H :=
  up _ _ (fun _ _ ⟨p, xs, Pv, e, hS, h0, hl, hs, hd⟩ => ⟨p, e, ⟨xs, hS⟩, for_list Pv h0 hl hs hd⟩) h
/-- for i in range(n) -/
def kRng (g : TG) (tb : TS) (D : Ends) (σ : L2.St) (x : V) (H1 : Hp) : Prop := iRng1 (fun _ _ R => R [x] H1) σ H1 fun J H1 => ∃ W : Nat → Nat → L2.St → Hp → Prop, (∃ m, W 0 m σ H1) ∧ ∀ i m σ H, W i m σ H →
  (J.stop i H ∧ D.nx σ H) ∨ (J.go i H ∧ ∃ N : L2.St → Hp → Prop, (∀ σ' H', N σ' H' → ∃ m', m' < m ∧ W (i + 1) m' σ' H') ∧ ∀ x H', J.yld i H x H' → g x σ H' fun σ2 H2 => tb { D with nx := N, ct := N, bk := D.nx } σ2 H2)
theorem f_rng1 (h : te σ H fun x H1 => kRng g tb D σ x H1) : tFor (iRng1 (tCons te tNil)) g tb D σ H := h
theorem k_rng (Pv : Nat → L2.St → Hp → Prop) {n : Int} (h1 : -(2 ^ 62) ≤ n) (h2 : n < 2 ^ 62) (h0 : Pv 0 σ H)
    (hs : ∀ i σ' H', i < n.toNat → Pv i σ' H' → g (.int (i : Nat)) σ' H' fun σ2 H2 => tb { D with nx := Pv (i + 1), ct := Pv (i + 1), bk := D.nx } σ2 H2) (hd : ∀ σ' H', Pv n.toNat σ' H' → D.nx σ' H') : kRng g tb D σ (.int n) H :=
  ⟨n, rfl, h1, h2, for_range (lo := 0) (n := n.toNat) Pv h0 (fun i σ' H' hi p => by
    have e0 : (0 : Int) + (i : Int) = (i : Int) := Int.zero_add _
    rw [e0]
    exact hs i σ' H' hi p) hd⟩
theorem w_by (W : Nat → L2.St → Hp → Prop) (m0 : Nat) (h0 : W m0 σ H) (hs : ∀ m σ' H', W m σ' H' → tc σ' H' fun k H1 => if k = true then ∃ N : L2.St → Hp → Prop, (∀ σ2 H2, N σ2 H2 → ∃ m', m' < m ∧ W m' σ2 H2) ∧ tb { D with nx := N, ct := N, bk := D.nx } σ' H1 else D.nx σ' H1) :
    tWhile tc tb D σ H := ⟨W, ⟨m0, h0⟩, hs⟩
theorem take_snoc {α : Type} {l : List α} {i : Nat} {x : α} (h : l[i]? = some x) : l.take (i + 1) = l.take i ++ [x] := by
  obtain ⟨hi, rfl⟩ := List.getElem?_eq_some_iff.mp h
  rw [List.take_succ, List.getElem?_eq_getElem hi]
  rfl
/-- [e for x in xs], e without a trace in the heap -/
theorem lc_pure (hv : σ[j]? = some (some (.ref b))) (hS : SqL K H b xs) (hlen : ys.length = xs.length) (hz : xs.length < 100000)
    (hs : ∀ (E : Addr) (i : Nat) (x y : V) (H' : Hp) (R : VK), H E = none → xs[i]? = some x → ys[i]? = some y → H' = upd H E (.lst (ys.take i)) → R y H' → g x (wipe σ vs) H' fun σ2 H2 => wipe σ2 vs = wipe σ vs ∧ te σ2 H2 R)
    (q : ∀ E, H E = none → Q (.ref E) (upd H E (.lst ys))) : tLc (iList K (tVar j)) g tYes te vs σ H Q := by
  refine ⟨_, hv, b, rfl, ⟨_, hS⟩, fun E hE => ?_⟩
  refine lc_list (K := K) (a := b) (xs := xs) (fun i H' => H' = upd H E (.lst (ys.take i))) (by rw [List.take_zero]) (fun i H' hi e => ?_) (fun i x H' hx e => ?_) fun H' e => ?_
  · subst e; exact (Fp.new (fp := []) hE).seq (by simp) hS
  · have hi : i < xs.length := (List.getElem?_eq_some_iff.mp hx).1
    have hy : ys[i]? = some ys[i] := List.getElem?_eq_getElem (by omega)
    have z := hs E i x _ H' (fun y H4 => ∃ acc, H4 E = some (.lst acc) ∧ acc.length < sizeLine ∧ upd H4 E (.lst (acc ++ [y])) = upd H E (.lst (ys.take (i + 1)))) hE hx hy e
      ⟨ys.take i, by rw [e]; exact upd_same, szl (by rw [List.length_take]; omega), by rw [e, upd_upd, take_snoc hy]⟩
    exact z
  · rw [e, ← hlen, List.take_length]
    exact q E hE
theorem lc_pureR {n : Int} (h1 : 0 ≤ n) (h2 : n < 100000) (hlen : (ys.length : Int) = n)
    (hs : ∀ (E : Addr) (i : Nat) (y : V) (H' : Hp) (R : VK), H E = none → (i : Int) < n → ys[i]? = some y → H' = upd H E (.lst (ys.take i)) → R y H' → g (.int (i : Nat)) (wipe σ vs) H' fun σ2 H2 => wipe σ2 vs = wipe σ vs ∧ te σ2 H2 R)
    (q : ∀ E, H E = none → Q (.ref E) (upd H E (.lst ys))) : (iRng1 (fun _ _ R => R [V.int n] H)) σ H fun J H1 => ∀ E, H1 E = none → ∃ W : Nat → Nat → Hp → Prop, (∃ m, W 0 m (upd H1 E (.lst []))) ∧ ∀ i m H, W i m H →
    (J.stop i H ∧ Q (.ref E) H) ∨ (J.go i H ∧ ∃ Nx : Hp → Prop, (∀ H', Nx H' → ∃ m', m' < m ∧ W (i + 1) m' H') ∧ ∀ x H', J.yld i H x H' → g x (wipe σ vs) H' fun σ2 H2 => wipe σ2 vs = wipe σ vs ∧ tYes σ2 H2 fun b H3 =>
      if b = true then te σ2 H3 fun y H4 => ∃ acc, H4 E = some (.lst acc) ∧ acc.length < sizeLine ∧ Nx (upd H4 E (.lst (acc ++ [y]))) else Nx H3) := by
  refine ⟨n, rfl, by omega, by omega, fun E hE => ?_⟩
  refine lc_range (lo := 0) (n := n.toNat) (fun i H' => H' = upd H E (.lst (ys.take i))) (by rw [List.take_zero]) (fun i H' hi e => ?_) fun H' e => ?_
  · have hy : ys[i]? = some ys[i] := List.getElem?_eq_getElem (by omega)
    have e0 : (0 : Int) + (i : Int) = (i : Int) := Int.zero_add _
    rw [e0]
    exact hs E i _ H' (fun y H4 => ∃ acc, H4 E = some (.lst acc) ∧ acc.length < sizeLine ∧ upd H4 E (.lst (acc ++ [y])) = upd H E (.lst (ys.take (i + 1)))) hE (by omega) hy e
      ⟨ys.take i, by rw [e]; exact upd_same, szl (by rw [List.length_take]; omega), by rw [e, upd_upd, take_snoc hy]⟩
  · have : n.toNat = ys.length := by omega
    rw [e, this, List.take_length]
    exact q E hE
def kLcR (g : TG) (te : TE) (vs : List Nat) (σ : L2.St) (Q : VK) (x : V) (H : Hp) : Prop := (iRng1 (fun _ _ R => R [x] H)) σ H fun J H1 => ∀ E, H1 E = none → ∃ W : Nat → Nat → Hp → Prop, (∃ m, W 0 m (upd H1 E (.lst []))) ∧ ∀ i m H, W i m H →
    (J.stop i H ∧ Q (.ref E) H) ∨ (J.go i H ∧ ∃ Nx : Hp → Prop, (∀ H', Nx H' → ∃ m', m' < m ∧ W (i + 1) m' H') ∧ ∀ x H', J.yld i H x H' → g x (wipe σ vs) H' fun σ2 H2 => wipe σ2 vs = wipe σ vs ∧ tYes σ2 H2 fun b H3 =>
      if b = true then te σ2 H3 fun y H4 => ∃ acc, H4 E = some (.lst acc) ∧ acc.length < sizeLine ∧ Nx (upd H4 E (.lst (acc ++ [y]))) else Nx H3)
theorem e_lcR (h : tl σ H fun x H1 => kLcR g te vs σ Q x H1) : tLc (iRng1 (tCons tl tNil)) g tYes te vs σ H Q := h
theorem k_lcR {n : Int} (h1 : 0 ≤ n) (h2 : n < 100000) (hlen : (ys.length : Int) = n)
    (hs : ∀ (E : Addr) (i : Nat) (y : V) (H' : Hp) (R : VK), H E = none → (i : Int) < n → ys[i]? = some y → H' = upd H E (.lst (ys.take i)) → R y H' → g (.int (i : Nat)) (wipe σ vs) H' fun σ2 H2 => wipe σ2 vs = wipe σ vs ∧ te σ2 H2 R)
    (q : ∀ E, H E = none → Q (.ref E) (upd H E (.lst ys))) : kLcR g te vs σ Q (.int n) H := lc_pureR h1 h2 hlen hs q
end

theorem atI_zero {α : Type} (x : α) (xs : List α) : atI (x :: xs) 0 = some x := by
  have h : (x :: xs)[0]? = some x := rfl
  exact atI_nat (j := 0) h
theorem int_inj {i j : Int} (h : V.int i = V.int j) : i = j := V.int.inj h
theorem int_ne {i j : Int} (h : ¬ V.int i = V.int j) : i ≠ j := fun z => h (by rw [z])

theorem k_ty {K : PySem.W.Frag} {H : Hp} {p : Addr} {xs : List V} {R : Prop} (h : SqL K H p xs) (q : R) : tyV K "list" (.ref p) H ∧ R := ⟨Or.inl ⟨rfl, xs, h⟩, q⟩

theorem o_rep {K : PySem.W.Frag} {H : Hp} {Q : VK} {l : Addr} {n : Int} {xs : List V} (h : H l = some (.lst xs)) (h1 : 0 ≤ n) (h2 : xs.length * n.toNat ≤ 100000) (h3 : n < 2 ^ 63) (q : ∀ p, H p = none → Q (.ref p) (upd H p (.lst (List.replicate n.toNat xs).flatten))) : rRep (.ref l) (.int n) H Q :=
  ⟨l, n, xs, rfl, rfl, h, by omega, h3, sz h2, q⟩

theorem c_isBool {K : PySem.W.Frag} {H : Hp} {Q : VK} {b : Bool} (q : Q (.bl true) H) : rIsi K [.bl b, .ty "bool"] H Q := ⟨.bl b, .ty "bool", .type "bool", .type "bool", true, rfl, .ty _, .base (.bl b), kit_ty (by decide +kernel), q⟩
theorem c_isInt {K : PySem.W.Frag} {H : Hp} {Q : VK} {n : Int} (q : Q (.bl true) H) : rIsi K [.int n, .ty "int"] H Q := ⟨.int n, .ty "int", .type "int", .type "int", true, rfl, .ty _, .base (.int n), kit_ty (by decide +kernel), q⟩
theorem c_isBoolN {K : PySem.W.Frag} {H : Hp} {Q : VK} {n : Int} (q : Q (.bl false) H) : rIsi K [.int n, .ty "bool"] H Q := ⟨.int n, .ty "bool", .type "int", .type "bool", false, rfl, .ty _, .base (.int n), kit_ty (by decide +kernel), q⟩

section
variable {K : PySem.W.Frag} {H : Hp} {Q : VK} {σ : L2.St} {te : TE} {C D ae dd CT : Addr} {f : Str} {fs : List (Str × V)} {v : V} {cls : Value} {de : Option Addr}
def kXf (a : Addr) (cls : Value) (d : Option Addr) (C : Addr) (f : Str) (x : V) (H1 : Hp) (Q : VK) : Prop := x = .ref a ∧ cls = .ref C ∧ ∃ (dd : Addr) (fs : List (Str × V)) (v : V), d = some dd ∧ H1 dd = some (.xd fs) ∧ fs.lookup f = some v ∧ Q v H1
theorem e_xf (h : te σ H fun x H1 => kXf ae cls de C f x H1 Q) : tXf ae cls de C f te σ H Q := h
theorem k_xf (h : H dd = some (.xd fs)) (l : fs.lookup f = some v) (q : Q v H) : kXf ae (.ref C) (some dd) C f (.ref ae) H Q := ⟨rfl, rfl, dd, fs, v, rfl, h, l, q⟩
theorem c_isED (h : H dd = some (.xd fs)) (k : PySem.W.kitOne K (.ref D) (.ref CT) = some true) (q : Q (.bl true) H) : rIsED K D ae (.ref D) (some dd) [.ref ae, .ref CT] H Q :=
  ⟨.ref CT, .ref CT, true, dd, fs, rfl, rfl, rfl, h, fun u r => r, k, q⟩
theorem c_isEDty {n : String} (h : H dd = some (.xd fs)) (k : PySem.W.kitOne K (.ref D) (.type n) = some true) (q : Q (.bl true) H) : rIsED K D ae (.ref D) (some dd) [.ref ae, .ty n] H Q :=
  ⟨.ty n, .type n, true, dd, fs, rfl, rfl, rfl, h, fun u r => r, k, q⟩
theorem w_as {c : Value} {i : Nat} {ts : Addr → Value → Option Addr → TS} {Wout : WX} {D : Ends} (e : PySem.W.exmOne K cls c = some true)
    (h : ∀ a, H a = none → ts a cls de { nx := fun σ' H' => D.nx (σ'.set i none) H', rt := D.rt, bk := fun σ' H' => D.bk (σ'.set i none) H', ct := fun σ' H' => D.ct (σ'.set i none) H' } (σ.set i (some (.ref a))) H) : WE (wAs K c i ts Wout D) σ cls de H :=
  ⟨true, e, fun _ => h, fun z => Bool.noConfusion z⟩
end

theorem s_cut {D : Ends} {σ : L2.St} {H : Hp} {t u : TS} (Mid : L2.St → Hp → Prop) (h1 : t { D with nx := Mid } σ H) (h2 : ∀ σ' H', Mid σ' H' → u D σ' H') : Evl.tCut t u D σ H := ⟨Mid, h1, h2⟩

/-- a test whose outcomes are told once -/
def tUpT (t : TT) : TT := fun σ H Q => ∃ P : Bool → Hp → Prop, t σ H P ∧ ∀ b H1, P b H1 → Q b H1
theorem pt_up {X : Cx} {e : Expr} {t : TT} (h : PT X e t) : PT X e (tUpT t) := ⟨fun pins s σ H Q I ⟨P, q, m⟩ => thn (h.run pins s σ H P I q) fun _ _ ⟨H1, J, z⟩ => ⟨H1, J, m _ _ z⟩⟩
theorem t_up {t : TT} {σ : L2.St} {H : Hp} {Q : Bool → Hp → Prop} (P : Bool → Hp → Prop) (h : t σ H P) (k : ∀ b H1, P b H1 → Q b H1) : tUpT t σ H Q := ⟨P, h, k⟩
theorem cut1 {x : V} {xs : List V} : cutV (x :: xs) (some 1) none = xs := by
  unfold cutV
  simp [HT.sIx]
end Rd
set_option Elab.async false
set_option maxRecDepth 100000
set_option maxHeartbeats 100000000
set_option linter.all false
namespace My
open PySem L2 Sx Rd
def top (i : Nat) : Stmt := PySem.Challenge.pw_tickrings_k02_rings.main.body.getD i (.Pass ⟨0, 0, 0, 0⟩)
abbrev s_RingError_init : Stmt := inClass (top 2) 0
abbrev s_Ring_init : Stmt := inClass (top 4) 0
abbrev s_Ring_held : Stmt := inClass (top 4) 1
abbrev s_Ring_is_full : Stmt := inClass (top 4) 2
abbrev s_Ring_put : Stmt := inClass (top 4) 3
abbrev s_Ring_first : Stmt := inClass (top 4) 4
abbrev s_Ring_take : Stmt := inClass (top 4) 5
abbrev s_Ring_listed : Stmt := inClass (top 4) 6
abbrev s_Ring_next : Stmt := inClass (top 4) 7
abbrev s_law_state : Stmt := top 6
abbrev s_law_draw : Stmt := top 7
abbrev s_law_same : Stmt := top 8
abbrev s_law_put : Stmt := top 9
abbrev s_law_taken : Stmt := top 10
abbrev s_law : Stmt := top 11
theorem sc_RingError_init : NdefX.NScope ["self", "held", "__class__"] ["self", "held"] ["__class__"] (defScope s_RingError_init) := NdefX.nscope_by (by decide +kernel)
theorem sc_Ring_init : FnScope ["self", "cells"] ["self", "cells"] (defScope s_Ring_init) := ⟨rfl, rfl, rfl, by decide +kernel, rfl, by decide +kernel, by decide +kernel⟩
theorem sc_Ring_held : FnScope ["self", "many"] ["self"] (defScope s_Ring_held) := ⟨rfl, rfl, rfl, by decide +kernel, rfl, by decide +kernel, by decide +kernel⟩
theorem sc_Ring_is_full : FnScope ["self"] ["self"] (defScope s_Ring_is_full) := ⟨rfl, rfl, rfl, by decide +kernel, rfl, by decide +kernel, by decide +kernel⟩
theorem sc_Ring_put : FnScope ["self", "value"] ["self", "value"] (defScope s_Ring_put) := ⟨rfl, rfl, rfl, by decide +kernel, rfl, by decide +kernel, by decide +kernel⟩
theorem sc_Ring_first : FnScope ["self"] ["self"] (defScope s_Ring_first) := ⟨rfl, rfl, rfl, by decide +kernel, rfl, by decide +kernel, by decide +kernel⟩
theorem sc_Ring_take : FnScope ["self", "value"] ["self"] (defScope s_Ring_take) := ⟨rfl, rfl, rfl, by decide +kernel, rfl, by decide +kernel, by decide +kernel⟩
theorem sc_Ring_listed : FnScope ["self", "cells", "at"] ["self"] (defScope s_Ring_listed) := ⟨rfl, rfl, rfl, by decide +kernel, rfl, by decide +kernel, by decide +kernel⟩
theorem sc_Ring_next : FnScope ["self", "counter"] ["self", "counter"] (defScope s_Ring_next) := ⟨rfl, rfl, rfl, by decide +kernel, rfl, by decide +kernel, by decide +kernel⟩
theorem sc_law_state : FnScope ["script", "seed", "cell"] ["script"] (defScope s_law_state) := ⟨rfl, rfl, rfl, by decide +kernel, rfl, by decide +kernel, by decide +kernel⟩
theorem sc_law_draw : FnScope ["state", "many", "cells", "value", "mixed"] ["state", "many"] (defScope s_law_draw) := ⟨rfl, rfl, rfl, by decide +kernel, rfl, by decide +kernel, by decide +kernel⟩
theorem sc_law_same : FnScope ["ring", "plain", "cells", "counts", "full"] ["ring", "plain", "cells", "counts"] (defScope s_law_same) := ⟨rfl, rfl, rfl, by decide +kernel, rfl, by decide +kernel, by decide +kernel⟩
theorem sc_law_put : FnScope ["ring", "value", "e"] ["ring", "value"] (defScope s_law_put) := ⟨rfl, rfl, rfl, by decide +kernel, rfl, by decide +kernel, by decide +kernel⟩
theorem sc_law_taken : FnScope ["ring", "remove", "e"] ["ring", "remove"] (defScope s_law_taken) := ⟨rfl, rfl, rfl, by decide +kernel, rfl, by decide +kernel, by decide +kernel⟩
theorem sc_law : FnScope ["script", "state", "cells", "ring", "plain", "counts", "putting", "k", "turn", "due", "remove", "answer"] ["script"] (defScope s_law) := ⟨rfl, rfl, rfl, by decide +kernel, rfl, by decide +kernel, by decide +kernel⟩
/-- where things stand -/
structure Ads where
  (C_TickringsError C_RingError C_Ring : Addr)
  (f_RingError_init f_Ring_init f_Ring_held f_Ring_is_full f_Ring_put f_Ring_first f_Ring_take f_Ring_listed f_Ring_next f_law_state f_law_draw f_law_same f_law_put f_law_taken f_law : Addr)
  (fd_RingError_init fd_Ring_init fd_Ring_held fd_Ring_is_full fd_Ring_put fd_Ring_first fd_Ring_take fd_Ring_listed fd_Ring_next fd_law_state fd_law_draw fd_law_same fd_law_put fd_law_taken fd_law : FuncData)
def F_Ring (x0 x1 x2 : V) : List (Str × V) := [("_cells", x0), ("written", x1), ("taken", x2)]
section
variable {x0 x1 x2 v : V}
theorem F_Ring_cells_l : (F_Ring x0 x1 x2).lookup ("_cells" : Str) = some x0 := by unfold F_Ring; rw [look_hit]
theorem F_Ring_cells_p : putF "_cells" v (F_Ring x0 x1 x2) = F_Ring v x1 x2 := by unfold F_Ring; rw [putF_hit]; try rfl
theorem F_Ring_written_l : (F_Ring x0 x1 x2).lookup ("written" : Str) = some x1 := by unfold F_Ring; rw [look_miss (by decide +kernel), look_hit]
theorem F_Ring_written_p : putF "written" v (F_Ring x0 x1 x2) = F_Ring x0 v x2 := by unfold F_Ring; rw [putF_miss (by decide +kernel), putF_hit]; try rfl
theorem F_Ring_taken_l : (F_Ring x0 x1 x2).lookup ("taken" : Str) = some x2 := by unfold F_Ring; rw [look_miss (by decide +kernel), look_miss (by decide +kernel), look_hit]
theorem F_Ring_taken_p : putF "taken" v (F_Ring x0 x1 x2) = F_Ring x0 x1 v := by unfold F_Ring; rw [putF_miss (by decide +kernel), putF_miss (by decide +kernel), putF_hit]; try rfl
theorem F_Ring_m_held : (F_Ring x0 x1 x2).lookup ("held" : Str) = none := by unfold F_Ring; rw [look_miss (by decide +kernel), look_miss (by decide +kernel), look_miss (by decide +kernel)]; try rfl
theorem F_Ring_m_is_full : (F_Ring x0 x1 x2).lookup ("is_full" : Str) = none := by unfold F_Ring; rw [look_miss (by decide +kernel), look_miss (by decide +kernel), look_miss (by decide +kernel)]; try rfl
theorem F_Ring_m_put : (F_Ring x0 x1 x2).lookup ("put" : Str) = none := by unfold F_Ring; rw [look_miss (by decide +kernel), look_miss (by decide +kernel), look_miss (by decide +kernel)]; try rfl
theorem F_Ring_m_first : (F_Ring x0 x1 x2).lookup ("first" : Str) = none := by unfold F_Ring; rw [look_miss (by decide +kernel), look_miss (by decide +kernel), look_miss (by decide +kernel)]; try rfl
theorem F_Ring_m_take : (F_Ring x0 x1 x2).lookup ("take" : Str) = none := by unfold F_Ring; rw [look_miss (by decide +kernel), look_miss (by decide +kernel), look_miss (by decide +kernel)]; try rfl
theorem F_Ring_m_listed : (F_Ring x0 x1 x2).lookup ("listed" : Str) = none := by unfold F_Ring; rw [look_miss (by decide +kernel), look_miss (by decide +kernel), look_miss (by decide +kernel)]; try rfl
theorem F_Ring_m_next : (F_Ring x0 x1 x2).lookup ("_next" : Str) = none := by unfold F_Ring; rw [look_miss (by decide +kernel), look_miss (by decide +kernel), look_miss (by decide +kernel)]; try rfl
theorem F_Ring_len : (F_Ring x0 x1 x2).length < 1000 := by show 3 < 1000; decide
theorem F_Ring_init : putF "taken" x2 (putF "written" x1 (putF "_cells" x0 [])) = F_Ring x0 x1 x2 := by unfold F_Ring; rw [putF_nil, putF_miss (by decide +kernel), putF_nil, putF_miss (by decide +kernel), putF_miss (by decide +kernel), putF_nil]
end
def sp_law0 (K : PySem.W.Frag) : Sp := A1 fun v H Q _ => ∃ (b : Addr) (ns : List Int), v = .ref b ∧ SqL K H b (ns.map V.int) ∧ ns.length ≤ 63 ∧ ∀ H1, Q (.bl true) H1
abbrev sp_law (K : PySem.W.Frag) (a : Ads) : Sp := sp_law0 K
/-- what the top has written -/
structure Txt (P : Program) (w : World) (K : PySem.W.Frag) (mg : Str → Option Value) (base : Heap) (a : Ads) : Prop where
  g_abs : mg "abs" = none
  g_bool : mg "bool" = none
  g_int : mg "int" = none
  g_isinstance : mg "isinstance" = none
  g_len : mg "len" = none
  g_range : mg "range" = none
  F_Ring_init : Fun K "__init__" "Ring.__init__" s_Ring_init a.f_Ring_init a.fd_Ring_init
  b_Ring_init : Binds K a.fd_Ring_init ["self", "cells"] []
  mk_Ring : Mk K a.C_Ring a.f_Ring_init
  F_Ring_held : Fun K "held" "Ring.held" s_Ring_held a.f_Ring_held a.fd_Ring_held
  b_Ring_held : Binds K a.fd_Ring_held ["self"] []
  m_Ring_held : Meth K a.C_Ring "held" a.f_Ring_held
  F_Ring_is_full : Fun K "is_full" "Ring.is_full" s_Ring_is_full a.f_Ring_is_full a.fd_Ring_is_full
  b_Ring_is_full : Binds K a.fd_Ring_is_full ["self"] []
  m_Ring_is_full : Meth K a.C_Ring "is_full" a.f_Ring_is_full
  F_Ring_put : Fun K "put" "Ring.put" s_Ring_put a.f_Ring_put a.fd_Ring_put
  b_Ring_put : Binds K a.fd_Ring_put ["self", "value"] []
  m_Ring_put : Meth K a.C_Ring "put" a.f_Ring_put
  F_Ring_first : Fun K "first" "Ring.first" s_Ring_first a.f_Ring_first a.fd_Ring_first
  b_Ring_first : Binds K a.fd_Ring_first ["self"] []
  m_Ring_first : Meth K a.C_Ring "first" a.f_Ring_first
  F_Ring_take : Fun K "take" "Ring.take" s_Ring_take a.f_Ring_take a.fd_Ring_take
  b_Ring_take : Binds K a.fd_Ring_take ["self"] []
  m_Ring_take : Meth K a.C_Ring "take" a.f_Ring_take
  F_Ring_listed : Fun K "listed" "Ring.listed" s_Ring_listed a.f_Ring_listed a.fd_Ring_listed
  b_Ring_listed : Binds K a.fd_Ring_listed ["self"] []
  m_Ring_listed : Meth K a.C_Ring "listed" a.f_Ring_listed
  F_Ring_next : Fun K "_next" "Ring._next" s_Ring_next a.f_Ring_next a.fd_Ring_next
  b_Ring_next : Binds K a.fd_Ring_next ["self", "counter"] []
  m_Ring_next : Meth K a.C_Ring "_next" a.f_Ring_next
  F_law_state : Fun K "_law_state" "_law_state" s_law_state a.f_law_state a.fd_law_state
  b_law_state : Binds K a.fd_law_state ["script"] []
  g_law_state : mg "_law_state" = some (.ref a.f_law_state)
  F_law_draw : Fun K "_law_draw" "_law_draw" s_law_draw a.f_law_draw a.fd_law_draw
  b_law_draw : Binds K a.fd_law_draw ["state", "many"] []
  g_law_draw : mg "_law_draw" = some (.ref a.f_law_draw)
  F_law_same : Fun K "_law_same" "_law_same" s_law_same a.f_law_same a.fd_law_same
  b_law_same : Binds K a.fd_law_same ["ring", "plain", "cells", "counts"] []
  g_law_same : mg "_law_same" = some (.ref a.f_law_same)
  F_law_put : Fun K "_law_put" "_law_put" s_law_put a.f_law_put a.fd_law_put
  b_law_put : Binds K a.fd_law_put ["ring", "value"] []
  g_law_put : mg "_law_put" = some (.ref a.f_law_put)
  F_law_taken : Fun K "_law_taken" "_law_taken" s_law_taken a.f_law_taken a.fd_law_taken
  b_law_taken : Binds K a.fd_law_taken ["ring", "remove"] []
  g_law_taken : mg "_law_taken" = some (.ref a.f_law_taken)
  F_law : Fun K "law" "law" s_law a.f_law a.fd_law
  b_law : Binds K a.fd_law ["script"] []
  g_law : mg "law" = some (.ref a.f_law)
  g_TickringsError : mg "TickringsError" = some (.ref a.C_TickringsError)
  g_RingError : mg "RingError" = some (.ref a.C_RingError)
  g_Ring : mg "Ring" = some (.ref a.C_Ring)
  cl_Ring : Cls K a.C_Ring
  n_Ring_cells : NoAttr K a.C_Ring "_cells"
  n_Ring_written : NoAttr K a.C_Ring "written"
  n_Ring_taken : NoAttr K a.C_Ring "taken"
  e_RingError : EK P w K mg base "RingError" "held" a.C_RingError a.f_RingError_init a.fd_RingError_init ["self", "held"]
  is_RingError_TickringsError : PySem.W.kitOne K (.ref a.C_RingError) (.ref a.C_TickringsError) = some true
local macro_rules | `(tactic| walk_at "ne") => `(tactic| (first | assumption | exact Ne.symm (by assumption)))
local macro_rules | `(tactic| walk_at "hl") => `(tactic| (first | (with_reducible assumption) | exact upd_same | ((with_reducible refine' (upd_ne ?hne).trans ?hgo); (case hne => walk_at "ne"); (case hgo => walk_at "hl"))))
local macro_rules | `(tactic| walk_at "sq") => `(tactic| (first | (with_reducible assumption) | exact Or.inl (Or.inl (by walk_at "hl"))))
local macro_rules | `(tactic| walk_at "ar") => `(tactic| (first | omega | exact ⟨by omega, by omega⟩ | exact Or.inl ⟨by omega, by omega⟩ | exact Or.inr ⟨by omega, by omega⟩ | (show (0 : Int) < _; omega) | (show (0 : Int) < _ ∧ _ < (1073741824 : Int); omega)))
local macro_rules | `(tactic| walk_at "cls") => `(tactic| (first | exact Txt.cl_Ring (by assumption)))
local macro_rules | `(tactic| walk_at "noa") => `(tactic| (first | exact Txt.n_Ring_cells (by assumption) | exact Txt.n_Ring_written (by assumption) | exact Txt.n_Ring_taken (by assumption)))
local macro_rules | `(tactic| walk_at "lkp") => `(tactic| (first | (with_reducible exact F_Ring_cells_l) | (with_reducible exact F_Ring_written_l) | (with_reducible exact F_Ring_taken_l)))
local macro_rules | `(tactic| walk_at "ptf") => `(tactic| (first | (with_reducible exact F_Ring_cells_p) | (with_reducible exact F_Ring_written_p) | (with_reducible exact F_Ring_taken_p) | exact rfl))
local macro_rules | `(tactic| walk_at "lnF") => `(tactic| (first | (with_reducible exact F_Ring_len) | decide | (show (0 : Nat) < 1000; decide) | (show (1 : Nat) < 1000; decide) | (show (2 : Nat) < 1000; decide) | skip))
local macro_rules | `(tactic| walk_at "nol") => `(tactic| (first | (with_reducible exact F_Ring_m_held) | (with_reducible exact F_Ring_m_is_full) | (with_reducible exact F_Ring_m_put) | (with_reducible exact F_Ring_m_first) | (with_reducible exact F_Ring_m_take) | (with_reducible exact F_Ring_m_listed) | (with_reducible exact F_Ring_m_next)))
local macro_rules | `(tactic| walk_at "r1") => `(tactic| (first
  | with_reducible refine s_seq ?_ | with_reducible refine s_asg ?_ | with_reducible refine g_name ?_ | with_reducible refine s_ret ?_ | with_reducible refine s_if ?_ | with_reducible refine s_drop ?_
  | with_reducible refine d_nx ?_ | with_reducible refine d_rt ?_ | with_reducible refine d_bk ?_ | with_reducible refine d_ct ?_ | with_reducible refine s_next ?_ | with_reducible refine s_retN ?_ | with_reducible refine s_cont ?_ | with_reducible refine s_break ?_
  | ((with_reducible refine' e_var ?hv ?_); (case hv => exact rfl))
  | with_reducible refine e_c ?_ | with_reducible refine e_op ?_ | with_reducible refine e_un ?_ | with_reducible refine o_I0 ?_ | with_reducible refine o_U ?_
  | ((with_reducible refine' o_I ?hc ?_); (case hc => walk_at "ar"))
  | ((with_reducible refine' o_eq ?hs ?_); (case hs => exact rfl))
  | ((with_reducible refine' o_ne ?hs ?_); (case hs => exact rfl))
  | ((with_reducible refine' o_ixL ?h1 ?h2 ?_); (case h1 => walk_at "sq"); (case h2 => first | exact rfl | exact atI_zero _ _))
  | with_reducible refine e_fld ?_ | with_reducible refine s_fld ?_ | with_reducible refine e_meth ?_ | with_reducible refine e_call ?_ | with_reducible refine e_make ?_
  | ((with_reducible refine' k_fld ?h1 ?h2 ?h3 ?h4 ?_); (case h1 => walk_at "hl"); (case h2 => walk_at "cls"); (case h3 => walk_at "noa"); (case h4 => walk_at "lkp"))
  | ((with_reducible refine' k_set ?h1 ?h2 ?h3 ?h4 ?h5 ?_); (case h1 => walk_at "hl"); (case h2 => walk_at "cls"); (case h3 => walk_at "noa"); (case h4 => walk_at "ptf"); (case h5 => walk_at "lnF"))
  | ((with_reducible refine' k_meth ?h1 ?h2 ?_); (case h1 => walk_at "hl"); (case h2 => walk_at "nol"))
  | with_reducible refine e_cb ?_ | with_reducible refine l_cons ?_ | with_reducible refine l_nil ?_ | with_reducible refine e_lst ?_ | with_reducible refine e_tup ?_
  | with_reducible refine e_bm ?_ | with_reducible refine e_bm0 ?_ | with_reducible refine e_not ?_ | with_reducible refine e_if ?_
  | with_reducible refine t_test ?_ | with_reducible refine t_B ?_ | with_reducible refine k_t ?_ | with_reducible refine t_and ?_ | with_reducible refine t_or ?_ | with_reducible refine t_not ?_
  | with_reducible refine e_chain ?_ | with_reducible refine s_raise ?_ | with_reducible refine e_sl ?_ | with_reducible refine p_no ?_ | with_reducible refine p_some ?_ | with_reducible refine g_sub ?_
  | ((with_reducible refine' c_ln ?h1 ?_); (case h1 => walk_at "sq"))
  | ((with_reducible refine' c_pop0 ?h1 ?h2 ?_); (case h1 => walk_at "hl"); (case h2 => omega))
  | ((with_reducible refine' k_ty ?h1 ?_); (case h1 => walk_at "sq"))
  | with_reducible refine c_isBool ?_ | with_reducible refine c_isInt ?_ | with_reducible refine c_isBoolN ?_
  | with_reducible refine e_xf ?_
  | ((with_reducible refine' k_xf ?h1 ?h2 ?_); (case h1 => walk_at "hl"); (case h2 => exact look_hit _ _ _))
  | with_reducible refine k_i ?_
  | ((with_reducible refine' o_slL ?h1 ?_); (case h1 => walk_at "sq"))
  | with_reducible refine c_ab ?_ | with_reducible refine c_in ?_ | with_reducible refine c_mx ?_ | with_reducible refine c_mn ?_
  | with_reducible refine a1 ?_ | with_reducible refine a2 ?_ | with_reducible refine a3 ?_ | with_reducible refine a4 ?_ | with_reducible refine a5 ?_ | with_reducible refine a6 ?_ | with_reducible refine a0 ?_))
local macro_rules | `(tactic| walk_at "r") => `(tactic| (repeat walk_at "r1"))
section
variable {P : Program} {w : World} {K : PySem.W.Frag} {mg : Str → Option Value} {base : Heap} {a : Ads}
/-! ### the script's numbers, drawn -/
def StAt (H : Hp) (st sl : Addr) : Prop := ∃ (ns : List Int) (m : Int), H st = some (.lst [.ref sl, .int m]) ∧ H sl = some (.lst (ns.map V.int)) ∧ ns.length ≤ 63 ∧ (∀ z ∈ ns, 0 ≤ z) ∧ 0 ≤ m ∧ m ≤ 2147483647
theorem StAt.ne {H : Hp} {st sl : Addr} (s : StAt H st sl) : st ≠ sl := by
  obtain ⟨ns, m, h1, h2, _⟩ := s
  refine ne_of h1 h2 fun z => ?_
  have z2 := HO.lst.inj z
  cases ns with
  | nil => cases z2
  | cons y ys => cases (List.cons.inj z2).1
theorem StAt.fp {H H1 : Hp} {st sl : Addr} {fp : List Addr} (s : StAt H st sl) (f : Fp fp H H1) (n1 : st ∉ fp) (n2 : sl ∉ fp) : StAt H1 st sl := by
  obtain ⟨ns, m, h1, h2, r⟩ := s
  exact ⟨ns, m, f _ _ h1 n1, f _ _ h2 n2, r⟩
def sp_law_state (K : PySem.W.Frag) (a : Ads) : Sp := A1 fun v H Q _ => ∃ (b : Addr) (ns : List Int), v = .ref b ∧ SqL K H b (ns.map V.int) ∧ ns.length ≤ 63 ∧
  ∀ st sl H1, H st = none → H sl = none → StAt H1 st sl → Fp [] H H1 → Q (.ref st) H1
def sp_law_draw (K : PySem.W.Frag) (a : Ads) : Sp := A2 fun s m H Q _ => ∃ (st sl : Addr) (k : Int), s = .ref st ∧ m = .int k ∧ StAt H st sl ∧ 1 ≤ k ∧ k < 1073741824 ∧
  ∀ r H1, 0 ≤ r → r < k → StAt H1 st sl → Fp [st, sl] H H1 → Q (.int r) H1
theorem ok_law_state (T : Txt P w K mg base a) : FnOk P w K mg base (L2.CX P w) 1 a.f_law_state a.fd_law_state ["script"] (sp_law_state K a) := by
  refine T.F_law_state.okX sc_law_state (fun vs H Q E h => A1.len h) (fun cdv A outer s H vs Q E hr h => ?_)
  have hu := hu_of hr
  obtain ⟨v_script, rfl, h⟩ := h
  refine ⟨_, (pss_cons (ps_set (i := 1) sc_law_state.nd rfl (by first | exact Or.inl rfl | exact Or.inr rfl) pe_int)
    (pss_cons (ps_for (passes_of rfl) rfl (pi_list (pv 0)) (pg_name (i := 2) sc_law_state.nd rfl (by first | exact Or.inl rfl | exact Or.inr rfl)) (pss_one (ps_set (i := 1) sc_law_state.nd rfl (by first | exact Or.inl rfl | exact Or.inr rfl) (pe_op op_mod (pe_callTy call_in (by rfl) T.g_int (by decide +kernel) (pa_cons (pe_op op_add (pe_op op_mul (pv 1) pe_int) (pv 2)) pa_nil)) pe_int))))
    (pss_one (ps_ret (pe_lst (pa_cons (pe_lc (own := [("cell", 2)]) (g := (gName 2)) (tt := tYes) (te := (tCB rAb (tCons (tVar 2) tNil))) rfl sc_law_state.nd (pi_list (pv 0)) (blkOk_by (N := ["script", "seed", "cell"]) (sc := defScope s_law_state) (own := [("cell", 2)]) (by decide +kernel)) (fun _ _ _ _ _ => by exact (pg_name (i := 2) sc_law_state.nd rfl (by first | exact Or.inl rfl | exact Or.inr rfl))) (fun _ _ _ _ _ => by exact pts_nil) (fun _ _ _ _ _ => by exact (pe_callB call_ab (by rfl) T.g_abs (by decide +kernel) (pa_cons (pv 2) pa_nil)))) (pa_cons (pe_op op_add (pv 1) pe_int) pa_nil))))))), ?_⟩
  obtain ⟨b, ns, rfl, hS, hn, k⟩ := h
  walk_at "r"
  refine f_list (xs := ns.map V.int) (fun i σ H1 => ∃ (sd : Int) (u : Option V), σ = [some (.ref b), some (.int sd), u] ∧ H1 = H ∧ 0 ≤ sd ∧ sd < 1000003) rfl hS ⟨7, none, rfl, rfl, by omega, by omega⟩ (fun i σ H1 _ ⟨_, _, _, e, _⟩ => e ▸ hS) ?_ ?_
  · rintro i x σ H1 hx ⟨sd, u, rfl, rfl, h0, h1⟩
    obtain ⟨z, rfl⟩ : ∃ z, x = V.int z := by
      obtain ⟨z, _, e⟩ := List.mem_map.mp (List.mem_of_getElem? hx)
      exact ⟨z, e.symm⟩
    walk_at "r"
    exact ⟨_, _, rfl, rfl, Int.emod_nonneg _ (by omega), Int.emod_lt_of_pos _ (by omega)⟩
  · rintro σ H1 ⟨sd, u, rfl, rfl, h0, h1⟩
    walk_at "r"
    refine lc_pure (xs := ns.map V.int) (ys := (ns.map fun z => if z < 0 then -z else z).map V.int) rfl hS (by simp) (by simp <;> omega) (fun E i x y H2 R hE hx hy e hR => ?_) fun E hE => ?_
    · obtain ⟨z, hz, rfl⟩ : ∃ z, ns[i]? = some z ∧ V.int z = x := by rw [List.getElem?_map] at hx; simpa using hx
      have hy' : V.int (if z < 0 then -z else z) = y := by simpa [List.getElem?_map, hz] using hy
      refine ⟨rfl, ?_⟩
      walk_at "r"
      rw [hy']
      exact hR
    · walk_at "r"
      refine ⟨sz (by simp), fun st hst => ?_⟩
      have nE : st ≠ E := ne_of_none upd_same hst |>.symm
      have nst : H1 st = none := by rw [upd_ne nE] at hst; exact hst
      refine k st E _ nst hE ⟨_, _, upd_same, by rw [upd_ne nE.symm, upd_same], by simpa using hn, fun z hz => ?_, by omega, by omega⟩ ((Fp.new hE).trans (Fp.new hst))
      obtain ⟨y, _, rfl⟩ := List.mem_map.mp hz
      split <;> omega
theorem ok_law_draw (T : Txt P w K mg base a) : FnOk P w K mg base (L2.CX P w) 1 a.f_law_draw a.fd_law_draw ["state", "many"] (sp_law_draw K a) := by
  refine T.F_law_draw.okX sc_law_draw (fun vs H Q E h => A2.len h) (fun cdv A outer s H vs Q E hr h => ?_)
  have hu := hu_of hr
  obtain ⟨v_state, v_many, rfl, h⟩ := h
  refine ⟨_, (pss_cons (ps_set (i := 2) sc_law_draw.nd rfl (by first | exact Or.inl rfl | exact Or.inr rfl) (pe_ix ix_list (pv 0) pe_int (fun _ _ => rfl)))
    (pss_cons (ps_while (passes_of rfl) (PW.pt (pw_and (pt_cmpR op_gt (pe_callB call_ln (by rfl) T.g_len (by decide +kernel) (pa_cons (pv 2) pa_nil)) pe_int (nomark _)) (pw_and1 (pt_cmpR op_eq (pe_ix ix_list (pv 2) pe_int (fun _ _ => rfl)) pe_int (nomark _))))) (pss_one (ps_expr (pe_bm PySem.F.plainAttrs_list PySem.F.slot_list_pop PySem.F.type_list_pop mt_popAt (pv 2) (pa_cons pe_int pa_nil)))))
    (pss_cons (ps_if (pt_cmpR op_gt (pe_callB call_ln (by rfl) T.g_len (by decide +kernel) (pa_cons (pv 2) pa_nil)) pe_int (nomark _)) (pss_cons (ps_set (i := 3) sc_law_draw.nd rfl (by first | exact Or.inl rfl | exact Or.inr rfl) (pe_ix ix_list (pv 2) pe_int (fun _ _ => rfl)))
    (pss_cons (ps_asg (pe_op op_fdiv (pv 3) (pv 1)) (pg_sub (pv 2) pe_int set_list))
    (pss_one (ps_ret (pe_op op_mod (pe_callTy call_in (by rfl) T.g_int (by decide +kernel) (pa_cons (pv 3) pa_nil)) (pv 1)))))) pss_nil)
    (pss_cons (ps_set (i := 4) sc_law_draw.nd rfl (by first | exact Or.inl rfl | exact Or.inr rfl) (pe_op op_mod (pe_callTy call_in (by rfl) T.g_int (by decide +kernel) (pa_cons (pe_op op_add (pe_op op_mul (pe_ix ix_list (pv 0) pe_int (fun _ _ => rfl)) pe_int) pe_int) pa_nil)) pe_int))
    (pss_cons (ps_asg (pv 4) (pg_sub (pv 0) pe_int set_list))
    (pss_one (ps_ret (pe_op op_mod (pe_callTy call_in (by rfl) T.g_int (by decide +kernel) (pa_cons (pe_op op_fdiv (pv 4) pe_int) pa_nil)) (pv 1))))))))), ?_⟩
  obtain ⟨st, sl, kk, rfl, rfl, S, k1, k2, k⟩ := h
  obtain ⟨ns, m, hst, hsl, hn, hpos, m0, m1⟩ := id S
  have nss := S.ne
  walk_at "r"
  refine w_by (fun q σ H1 => ∃ (ns1 : List Int), σ = [some (.ref st), some (.int kk), some (.ref sl), none, none] ∧ q = ns1.length ∧ H1 st = some (.lst [.ref sl, .int m]) ∧ H1 sl = some (.lst (ns1.map V.int)) ∧ ns1.length ≤ 63 ∧ (∀ z ∈ ns1, 0 ≤ z) ∧ Fp [st, sl] H H1) ns.length ⟨ns, rfl, rfl, hst, hsl, hn, hpos, Fp.refl _ _⟩ ?_
  rintro q σ H1 ⟨ns1, rfl, rfl, g1, g2, gn, gp, gf⟩
  walk_at "r"
  rw [List.length_map]
  cases ns1 with
  | nil =>
    refine if_dF (by simp) ?_
    refine iteF ?_
    walk_at "r"
    refine if_dF (by simp) ?_
    walk_at "r"
    refine c_setL (j := 1) g1 rfl (by simp) ?_
    walk_at "r"
    exact k _ _ (Int.emod_nonneg _ (by omega)) (Int.emod_lt_of_pos _ (by omega)) ⟨[], _, upd_same, by rw [upd_ne nss.symm]; exact g2, gn, gp, Int.emod_nonneg _ (by omega), by have := Int.emod_lt_of_pos (m * 48271 + 12345) (show (0 : Int) < 2147483647 by omega); omega⟩ (gf.trans (Fp.at_ (by simp)))
  | cons z zs =>
    rw [List.map_cons] at g2
    have gz : zs.length ≤ 62 := by simpa using gn
    have gl : ((zs.map V.int).length) < 100000 := by rw [List.length_map]; omega
    refine if_dT (by simp <;> omega) ?_
    walk_at "r"
    refine if_d (fun e => ?_) (fun e => ?_)
    · refine ⟨_, fun _ _ h => h, ?_⟩
      walk_at "r"
      exact ⟨zs.length, by simp, zs, rfl, rfl, by rw [upd_ne nss]; exact g1, upd_same, by omega, fun y hy => gp y (List.mem_cons_of_mem _ hy), gf.trans (Fp.at_ (by simp))⟩
    · walk_at "r"
      refine if_dT (by simp <;> omega) ?_
      walk_at "r"
      refine c_setL (j := 0) g2 rfl (by simp) ?_
      walk_at "r"
      have hz := gp z List.mem_cons_self
      exact k _ _ (Int.emod_nonneg _ (by omega)) (Int.emod_lt_of_pos _ (by omega)) ⟨z / kk :: zs, m, by rw [upd_ne nss]; exact g1, upd_same, gn, fun y hy => by
        rcases List.mem_cons.mp hy with rfl | hy
        · exact Int.ediv_nonneg hz (by omega)
        · exact gp y (List.mem_cons_of_mem _ hy), m0, m1⟩ (gf.trans (Fp.at_ (by simp)))
/-! ### rings of cells -/
theorem mod2 {x M : Nat} (h : x < 2 * M) : x % M = if x < M then x else x - M := by
  by_cases c : x < M
  · rw [if_pos c, Nat.mod_eq_of_lt c]
  · rw [if_neg c, Nat.mod_eq_sub_mod (by omega), Nat.mod_eq_of_lt (by omega)]
structure RingAt (C : Addr) (H : Hp) (p l : Addr) (n wr tk : Nat) (xs : List V) : Prop where
  ob : ∃ dx, H p = some (.ins C dx (F_Ring (.ref l) (.int wr) (.int tk)))
  ls : ∃ cs : List V, H l = some (.lst cs) ∧ cs.length = n ∧ ∀ i x, xs[i]? = some x → cs[(tk + i) % n]? = some x
  n1 : 1 ≤ n
  nz : n ≤ 256
  wl : wr < 2 * n
  tl : tk < 2 * n
  ln : xs.length ≤ n
  wt : wr = (tk + xs.length) % (2 * n)
theorem RingAt.ne {C p l : Addr} {H : Hp} {n wr tk : Nat} {xs : List V} (R : RingAt C H p l n wr tk xs) : p ≠ l := by
  obtain ⟨⟨dx, ho⟩, ⟨cs, hl, _⟩, _⟩ := R
  exact ne_of ho hl (by intro z; cases z)
theorem RingAt.fp {C p l : Addr} {H H1 : Hp} {n wr tk : Nat} {xs : List V} {fp : List Addr} (R : RingAt C H p l n wr tk xs) (f : Fp fp H H1) (n1 : p ∉ fp) (n2 : l ∉ fp) : RingAt C H1 p l n wr tk xs := by
  obtain ⟨⟨dx, ho⟩, ⟨cs, hl, h⟩, a1, a2, a3, a4, a5, a6⟩ := R
  exact ⟨⟨dx, f _ _ ho n1⟩, ⟨cs, f _ _ hl n2, h⟩, a1, a2, a3, a4, a5, a6⟩
def sp_Ring_init (K : PySem.W.Frag) (a : Ads) : Sp := A2 fun s c H Q _ => ∃ (p dx : Addr) (n : Nat), s = .ref p ∧ c = .int n ∧ 1 ≤ n ∧ n ≤ 256 ∧ H p = some (.ins a.C_Ring dx []) ∧
  ∀ l H1, H l = none → RingAt a.C_Ring H1 p l n 0 0 [] → Fp [p] H H1 → Q .non H1
def sp_Ring_held (K : PySem.W.Frag) (a : Ads) : Sp := A1 fun s H Q _ => ∃ (p l : Addr) (n wr tk : Nat) (xs : List V), s = .ref p ∧ RingAt a.C_Ring H p l n wr tk xs ∧ Q (.int xs.length) H
def sp_Ring_is_full (K : PySem.W.Frag) (a : Ads) : Sp := A1 fun s H Q _ => ∃ (p l : Addr) (n wr tk : Nat) (xs : List V), s = .ref p ∧ RingAt a.C_Ring H p l n wr tk xs ∧ Q (.bl (decide (xs.length = n))) H
def sp_Ring_next (K : PySem.W.Frag) (a : Ads) : Sp := A2 fun s c H Q _ => ∃ (p l : Addr) (n wr tk j : Nat) (xs : List V), s = .ref p ∧ c = .int j ∧ RingAt a.C_Ring H p l n wr tk xs ∧ Q (.int ((j + 1) % (2 * n) : Nat)) H
def sp_Ring_put (K : PySem.W.Frag) (a : Ads) : Sp := A2 fun s v H Q E => ∃ (p l : Addr) (n wr tk : Nat) (xs : List V), s = .ref p ∧ RingAt a.C_Ring H p l n wr tk xs ∧
  (xs.length = n → ∀ d, H d = none → E (.ref a.C_RingError) (some d) (upd H d (.xd [("held", .int n)]))) ∧
  (xs.length < n → ∀ H1, RingAt a.C_Ring H1 p l n ((wr + 1) % (2 * n)) tk (xs ++ [v]) → Fp [p, l] H H1 → Q .non H1)
def sp_Ring_first (K : PySem.W.Frag) (a : Ads) : Sp := A1 fun s H Q E => ∃ (p l : Addr) (n wr tk : Nat) (xs : List V), s = .ref p ∧ RingAt a.C_Ring H p l n wr tk xs ∧
  (xs = [] → ∀ d, H d = none → E (.ref a.C_RingError) (some d) (upd H d (.xd [("held", .int 0)]))) ∧
  (∀ x ys, xs = x :: ys → Q x H)
def sp_Ring_take (K : PySem.W.Frag) (a : Ads) : Sp := A1 fun s H Q E => ∃ (p l : Addr) (n wr tk : Nat) (xs : List V), s = .ref p ∧ RingAt a.C_Ring H p l n wr tk xs ∧
  (xs = [] → ∀ d, H d = none → E (.ref a.C_RingError) (some d) (upd H d (.xd [("held", .int 0)]))) ∧
  (∀ x ys, xs = x :: ys → ∀ H1, RingAt a.C_Ring H1 p l n wr ((tk + 1) % (2 * n)) ys → Fp [p, l] H H1 → Q x H1)
def sp_Ring_listed (K : PySem.W.Frag) (a : Ads) : Sp := A1 fun s H Q _ => ∃ (p l : Addr) (n wr tk : Nat) (xs : List V), s = .ref p ∧ RingAt a.C_Ring H p l n wr tk xs ∧
  ∀ q, H q = none → Q (.ref q) (upd H q (.lst xs))
theorem ok_Ring_init (T : Txt P w K mg base a) : FnOk P w K mg base (L2.CX P w) 1 a.f_Ring_init a.fd_Ring_init ["self", "cells"] (sp_Ring_init K a) := by
  refine T.F_Ring_init.okX sc_Ring_init (fun vs H Q E h => A2.len h) (fun cdv A outer s H vs Q E hr h => ?_)
  have hu := hu_of hr
  obtain ⟨v_self, v_cells, rfl, h⟩ := h
  refine ⟨_, (pss_cons (ps_fld (pv 0) (pe_op op_rep (pe_lst (pa_cons pe_non pa_nil)) (pv 1)) rfl)
    (pss_cons (ps_fld (pv 0) pe_int rfl)
    (pss_one (ps_fld (pv 0) pe_int rfl)))), ?_⟩
  obtain ⟨p, dx, n, rfl, rfl, n1, nz, hp, k⟩ := h
  walk_at "r"
  refine ⟨sz (by decide), fun q hq => ?_⟩
  walk_at "r"
  refine o_rep (K := K) upd_same (by omega) (by simp; omega) (by omega) fun l hl => ?_
  have ql : q ≠ l := ne_of_none upd_same hl
  have pq : p ≠ q := ne_of_none hp hq
  have hl0 : H l = none := by rw [upd_ne ql.symm] at hl; exact hl
  have pl : p ≠ l := ne_of_none hp hl0
  walk_at "r"
  have ef : (List.replicate (n : Int).toNat [V.non]).flatten = List.replicate n V.non := by
    have e : (n : Int).toNat = n := Int.toNat_natCast n
    rw [e, List.flatten_replicate_singleton]
  refine k l _ hl0 ⟨⟨dx, by rw [upd_same, F_Ring_init]; rfl⟩, ⟨List.replicate n .non, by rw [upd_ne pl.symm, upd_ne pl.symm, upd_ne pl.symm, upd_same, ef], List.length_replicate, fun i x hx => by simp at hx⟩, n1, nz, by omega, by omega, by simp, by simp⟩ ?_
  exact ((((Fp.new hq).trans (Fp.new hl)).trans (Fp.at_ (by simp))).trans (Fp.at_ (by simp))).trans (Fp.at_ (by simp))
theorem ok_Ring_held (T : Txt P w K mg base a) : FnOk P w K mg base (L2.CX P w) 1 a.f_Ring_held a.fd_Ring_held ["self"] (sp_Ring_held K a) := by
  refine T.F_Ring_held.okX sc_Ring_held (fun vs H Q E h => A1.len h) (fun cdv A outer s H vs Q E hr h => ?_)
  have hu := hu_of hr
  obtain ⟨v_self, rfl, h⟩ := h
  refine ⟨_, (pss_cons (ps_set (i := 1) sc_Ring_held.nd rfl (by first | exact Or.inl rfl | exact Or.inr rfl) (pe_op op_sub (pe_fld (pv 0) rfl) (pe_fld (pv 0) rfl)))
    (pss_cons (ps_if (pt_cmpR op_lt (pv 1) pe_int (nomark _)) (pss_one (ps_ret (pe_op op_add (pv 1) (pe_op op_mul pe_int (pe_callB call_ln (by rfl) T.g_len (by decide +kernel) (pa_cons (pe_fld (pv 0) rfl) pa_nil)))))) pss_nil)
    (pss_one (ps_ret (pv 1))))), ?_⟩
  obtain ⟨p, l, n, wr, tk, xs, rfl, R, k⟩ := h
  obtain ⟨⟨dx, ho⟩, ⟨cs, hl, hcs, _⟩, n1, nz, wl, tl, ln, wt⟩ := id R
  have e2 := mod2 (x := tk + xs.length) (M := 2 * n) (by omega)
  walk_at "r"
  refine if_d (fun c => ?_) (fun c => ?_)
  · walk_at "r"
    have e : (wr : Int) - tk + 2 * (cs.length : Int) = xs.length := by rw [hcs]; split at e2 <;> omega
    rw [e]
    exact k
  · walk_at "r"
    have e : (wr : Int) - tk = xs.length := by split at e2 <;> omega
    rw [e]
    exact k
theorem ok_Ring_is_full (T : Txt P w K mg base a) : FnOk P w K mg base (L2.CX P w) 2 a.f_Ring_is_full a.fd_Ring_is_full ["self"] (sp_Ring_is_full K a) := by
  have G_Ring_held := ok_Ring_held T
  refine T.F_Ring_is_full.okX sc_Ring_is_full (fun vs H Q E h => A1.len h) (fun cdv A outer s H vs Q E hr h => ?_)
  have hu := hu_of hr
  obtain ⟨v_self, rfl, h⟩ := h
  refine ⟨_, (pss_one (ps_ret (pe_cmpR op_eq (pe_meth0S (pv 0) T.cl_Ring T.m_Ring_held G_Ring_held (hr.mono (by decide)) T.b_Ring_held (fun σ => passAt (takes_of rfl rfl rfl rfl) σ)) (pe_callB call_ln (by rfl) T.g_len (by decide +kernel) (pa_cons (pe_fld (pv 0) rfl) pa_nil)) (nomark _)))), ?_⟩
  obtain ⟨p, l, n, wr, tk, xs, rfl, R, k⟩ := h
  obtain ⟨⟨dx, ho⟩, ⟨cs, hl, hcs, _⟩, n1, nz, wl, tl, ln, wt⟩ := id R
  walk_at "r"
  refine a1 ⟨p, l, n, wr, tk, xs, rfl, R, ?_⟩
  walk_at "r"
  have e : decide (V.int (xs.length : Int) = V.int (cs.length : Int)) = decide (xs.length = n) := by
    rw [hcs]
    exact decide_eq_decide.mpr ⟨fun z => Int.ofNat.inj (V.int.inj z), fun z => by rw [z]⟩
  rw [e]
  exact k
theorem ok_Ring_next (T : Txt P w K mg base a) : FnOk P w K mg base (L2.CX P w) 1 a.f_Ring_next a.fd_Ring_next ["self", "counter"] (sp_Ring_next K a) := by
  refine T.F_Ring_next.okX sc_Ring_next (fun vs H Q E h => A2.len h) (fun cdv A outer s H vs Q E hr h => ?_)
  have hu := hu_of hr
  obtain ⟨v_self, v_counter, rfl, h⟩ := h
  refine ⟨_, (pss_one (ps_ret (pe_op op_mod (pe_op op_add (pv 1) pe_int) (pe_op op_mul pe_int (pe_callB call_ln (by rfl) T.g_len (by decide +kernel) (pa_cons (pe_fld (pv 0) rfl) pa_nil)))))), ?_⟩
  obtain ⟨p, l, n, wr, tk, j, xs, rfl, rfl, R, k⟩ := h
  obtain ⟨⟨dx, ho⟩, ⟨cs, hl, hcs, _⟩, n1, nz, wl, tl, ln, wt⟩ := id R
  walk_at "r"
  have e : ((j : Int) + 1) % (2 * (cs.length : Int)) = ((j + 1) % (2 * n) : Nat) := by rw [hcs]; push_cast; rfl
  rw [e]
  exact k
theorem ok_Ring_put (T : Txt P w K mg base a) : FnOk P w K mg base (L2.CX P w) 3 a.f_Ring_put a.fd_Ring_put ["self", "value"] (sp_Ring_put K a) := by
  have G_Ring_is_full := ok_Ring_is_full T
  have G_Ring_next := ok_Ring_next T
  refine T.F_Ring_put.okX sc_Ring_put (fun vs H Q E h => A2.len h) (fun cdv A outer s H vs Q E hr h => ?_)
  have hu := hu_of hr
  obtain ⟨v_self, v_value, rfl, h⟩ := h
  refine ⟨_, (pss_cons (ps_if (pt_val (pe_meth0S (pv 0) T.cl_Ring T.m_Ring_is_full G_Ring_is_full (hr.mono (by decide)) T.b_Ring_is_full (fun σ => passAt (takes_of rfl rfl rfl rfl) σ))) (pss_one (ps_raiseE rfl T.e_RingError (hr.mono (by decide)) (takes_of rfl rfl rfl rfl) rfl (pe_callB call_ln (by rfl) T.g_len (by decide +kernel) (pa_cons (pe_fld (pv 0) rfl) pa_nil)))) pss_nil)
    (pss_cons (ps_asg (pv 1) (pg_sub (pe_fld (pv 0) rfl) (pe_op op_mod (pe_fld (pv 0) rfl) (pe_callB call_ln (by rfl) T.g_len (by decide +kernel) (pa_cons (pe_fld (pv 0) rfl) pa_nil))) set_list))
    (pss_one (ps_fld (pv 0) (pe_methS (pv 0) T.cl_Ring T.m_Ring_next G_Ring_next (hr.mono (by decide)) T.b_Ring_next (fun σ => passAt (takes_of rfl rfl rfl rfl) σ) (pa_cons (pe_fld (pv 0) rfl) pa_nil)) rfl)))), ?_⟩
  obtain ⟨p, l, n, wr, tk, xs, rfl, R, kf, k⟩ := h
  obtain ⟨⟨dx, ho⟩, ⟨cs, hl, hcs, hat⟩, n1, nz, wl, tl, ln, wt⟩ := id R
  have npl := R.ne
  walk_at "r"
  refine a1 ⟨p, l, n, wr, tk, xs, rfl, R, ?_⟩
  walk_at "r"
  refine if_d (fun c => ?_) (fun c => ?_)
  · walk_at "r"
    rw [hcs]
    exact ⟨okV_int ⟨by omega, by omega⟩, fun d hd => kf c d hd⟩
  · walk_at "r"
    have hx : xs.length < n := by omega
    have ew : (wr : Int) % (cs.length : Int) = ((wr % n : Nat) : Int) := by rw [hcs]; push_cast; rfl
    rw [ew]
    refine c_setL (j := wr % n) hl rfl (by rw [hcs]; exact Nat.mod_lt _ (by omega)) ?_
    walk_at "r"
    have em : wr % n = (tk + xs.length) % n := by rw [wt, Nat.mod_mod_of_dvd _ (Nat.dvd_mul_left n 2)]
    have hn0 : 0 < n := by omega
    -- what the cells hold now
    have hat2 : ∀ i x, (xs ++ [v_value])[i]? = some x → (cs.set (wr % n) v_value)[(tk + i) % n]? = some x := fun i x hi => by
      by_cases hlt : i < xs.length
      · rw [List.getElem?_append_left hlt] at hi
        have hne : wr % n ≠ (tk + i) % n := fun z => by
          rw [em] at z
          have z2 := Nat.sub_mod_eq_zero_of_mod_eq z
          have z3 : tk + xs.length - (tk + i) = xs.length - i := by omega
          rw [z3, Nat.mod_eq_of_lt (by omega)] at z2
          omega
        rw [List.getElem?_set_ne hne]
        exact hat i x hi
      · have hi2 : i = xs.length := by
          have h2 := (List.getElem?_eq_some_iff.mp hi).1
          rw [List.length_append, List.length_singleton] at h2
          omega
        subst hi2
        rw [List.getElem?_append_right (Nat.le_refl _), Nat.sub_self] at hi
        have hv : v_value = x := by simpa using hi
        subst hv
        rw [← em, List.getElem?_set_self (by rw [hcs]; exact Nat.mod_lt _ hn0)]
    refine a2 ⟨p, l, n, wr, tk, wr, xs, rfl, rfl, ⟨⟨dx, by rw [upd_ne npl]; exact ho⟩, ⟨cs.set (wr % n) v_value, upd_same, by rw [List.length_set, hcs], fun i x hi => ?_⟩, n1, nz, wl, tl, ln, wt⟩, ?_⟩
    · refine hat2 i x ?_
      rw [List.getElem?_append_left (List.getElem?_eq_some_iff.mp hi).1]
      exact hi
    walk_at "r"
    refine k hx _ ⟨⟨dx, upd_same⟩, ⟨cs.set (wr % n) v_value, by rw [upd_ne npl.symm]; exact upd_same, by rw [List.length_set, hcs], hat2⟩, n1, nz, Nat.mod_lt _ (by omega), tl, by rw [List.length_append, List.length_singleton]; omega, ?_⟩ ((Fp.at_ (by simp)).trans (Fp.at_ (by simp)))
    rw [List.length_append, List.length_singleton, wt, Nat.mod_add_mod, Nat.add_assoc]
theorem ok_Ring_first (T : Txt P w K mg base a) : FnOk P w K mg base (L2.CX P w) 3 a.f_Ring_first a.fd_Ring_first ["self"] (sp_Ring_first K a) := by
  have G_Ring_held := ok_Ring_held T
  refine T.F_Ring_first.okX sc_Ring_first (fun vs H Q E h => A1.len h) (fun cdv A outer s H vs Q E hr h => ?_)
  have hu := hu_of hr
  obtain ⟨v_self, rfl, h⟩ := h
  refine ⟨_, (pss_cons (ps_if (pt_cmpR op_eq (pe_meth0S (pv 0) T.cl_Ring T.m_Ring_held G_Ring_held (hr.mono (by decide)) T.b_Ring_held (fun σ => passAt (takes_of rfl rfl rfl rfl) σ)) pe_int (nomark _)) (pss_one (ps_raiseE rfl T.e_RingError (hr.mono (by decide)) (takes_of rfl rfl rfl rfl) rfl pe_int)) pss_nil)
    (pss_one (ps_ret (pe_ix ix_list (pe_fld (pv 0) rfl) (pe_op op_mod (pe_fld (pv 0) rfl) (pe_callB call_ln (by rfl) T.g_len (by decide +kernel) (pa_cons (pe_fld (pv 0) rfl) pa_nil))) (fun _ _ => rfl))))), ?_⟩
  obtain ⟨p, l, n, wr, tk, xs, rfl, R, kf, k⟩ := h
  obtain ⟨⟨dx, ho⟩, ⟨cs, hl, hcs, hat⟩, n1, nz, wl, tl, ln, wt⟩ := id R
  walk_at "r"
  refine a1 ⟨p, l, n, wr, tk, xs, rfl, R, ?_⟩
  walk_at "r"
  refine if_d (fun c => ?_) (fun c => ?_)
  · walk_at "r"
    have c2 : xs = [] := List.eq_nil_of_length_eq_zero (Int.ofNat.inj (V.int.inj c))
    exact ⟨okV_int ⟨by omega, by omega⟩, fun d hd => kf c2 d hd⟩
  · walk_at "r"
    cases hx : xs with
    | nil => exact absurd (by rw [hx]; rfl) c
    | cons x ys =>
      have ew : (tk : Int) % (cs.length : Int) = ((tk % n : Nat) : Int) := by rw [hcs]; push_cast; rfl
      rw [ew]
      have hc := hat 0 x (by rw [hx]; rfl)
      refine o_ixL (Or.inl (Or.inl hl)) (atI_nat hc) ?_
      walk_at "r"
      exact k x ys hx
theorem ok_Ring_take (T : Txt P w K mg base a) : FnOk P w K mg base (L2.CX P w) 4 a.f_Ring_take a.fd_Ring_take ["self"] (sp_Ring_take K a) := by
  have G_Ring_first := ok_Ring_first T
  have G_Ring_next := ok_Ring_next T
  refine T.F_Ring_take.okX sc_Ring_take (fun vs H Q E h => A1.len h) (fun cdv A outer s H vs Q E hr h => ?_)
  have hu := hu_of hr
  obtain ⟨v_self, rfl, h⟩ := h
  refine ⟨_, (pss_cons (ps_set (i := 1) sc_Ring_take.nd rfl (by first | exact Or.inl rfl | exact Or.inr rfl) (pe_meth0S (pv 0) T.cl_Ring T.m_Ring_first G_Ring_first (hr.mono (by decide)) T.b_Ring_first (fun σ => passAt (takes_of rfl rfl rfl rfl) σ)))
    (pss_cons (ps_fld (pv 0) (pe_methS (pv 0) T.cl_Ring T.m_Ring_next G_Ring_next (hr.mono (by decide)) T.b_Ring_next (fun σ => passAt (takes_of rfl rfl rfl rfl) σ) (pa_cons (pe_fld (pv 0) rfl) pa_nil)) rfl)
    (pss_one (ps_ret (pv 1))))), ?_⟩
  obtain ⟨p, l, n, wr, tk, xs, rfl, R, kf, k⟩ := h
  obtain ⟨⟨dx, ho⟩, ⟨cs, hl, hcs, hat⟩, n1, nz, wl, tl, ln, wt⟩ := id R
  have npl := R.ne
  walk_at "r"
  refine a1 ⟨p, l, n, wr, tk, xs, rfl, R, fun e d hd => kf e d hd, fun x ys hx => ?_⟩
  walk_at "r"
  refine a2 ⟨p, l, n, wr, tk, tk, xs, rfl, rfl, R, ?_⟩
  walk_at "r"
  have hln : xs.length = ys.length + 1 := by rw [hx]; rfl
  refine k x ys hx _ ⟨⟨dx, upd_same⟩, ⟨cs, by rw [upd_ne npl.symm]; exact hl, hcs, fun i y hi => ?_⟩, n1, nz, wl, Nat.mod_lt _ (by omega), by omega, ?_⟩ (Fp.at_ (by simp))
  · have h2 := hat (i + 1) y (by rw [hx]; exact hi)
    have e : ((tk + 1) % (2 * n) + i) % n = (tk + (i + 1)) % n := by
      rw [← Nat.mod_add_mod ((tk + 1) % (2 * n)) n i, Nat.mod_mod_of_dvd _ (Nat.dvd_mul_left n 2), Nat.mod_add_mod]
      congr 1
      omega
    rw [e]
    exact h2
  · rw [Nat.mod_add_mod, wt, hln]
    congr 1
    omega
theorem ok_Ring_listed (T : Txt P w K mg base a) : FnOk P w K mg base (L2.CX P w) 2 a.f_Ring_listed a.fd_Ring_listed ["self"] (sp_Ring_listed K a) := by
  have G_Ring_held := ok_Ring_held T
  refine T.F_Ring_listed.okX sc_Ring_listed (fun vs H Q E h => A1.len h) (fun cdv A outer s H vs Q E hr h => ?_)
  have hu := hu_of hr
  obtain ⟨v_self, rfl, h⟩ := h
  refine ⟨_, (pss_cons (ps_set (i := 1) sc_Ring_listed.nd rfl (by first | exact Or.inl rfl | exact Or.inr rfl) (pe_callB call_ln (by rfl) T.g_len (by decide +kernel) (pa_cons (pe_fld (pv 0) rfl) pa_nil)))
    (pss_one (ps_ret (pe_lc (own := [("at", 2)]) (g := (gName 2)) (tt := tYes) (te := (tOp (rIxL K) (tFld K (tVar 0) "_cells") (tOp (rI (fun _ j => 0 < j) fun i j => .int (i % j)) (tOp (rI0 fun i j => .int (i + j)) (tFld K (tVar 0) "taken") (tVar 2)) (tVar 1)))) rfl sc_Ring_listed.nd (pi_range1 rfl T.g_range (pa_cons (pe_meth0S (pv 0) T.cl_Ring T.m_Ring_held G_Ring_held (hr.mono (by decide)) T.b_Ring_held (fun σ => passAt (takes_of rfl rfl rfl rfl) σ)) pa_nil)) (blkOk_by (N := ["self", "cells", "at"]) (sc := defScope s_Ring_listed) (own := [("at", 2)]) (by decide +kernel)) (fun _ _ _ _ _ => by exact (pg_name (i := 2) sc_Ring_listed.nd rfl (by first | exact Or.inl rfl | exact Or.inr rfl))) (fun _ _ _ _ _ => by exact pts_nil) (fun _ _ _ _ _ => by exact (pe_ix ix_list (pe_fld (pv 0) rfl) (pe_op op_mod (pe_op op_add (pe_fld (pv 0) rfl) (pv 2)) (pv 1)) (fun _ _ => rfl))))))), ?_⟩
  obtain ⟨p, l, n, wr, tk, xs, rfl, R, k⟩ := h
  obtain ⟨⟨dx, ho⟩, ⟨cs, hl, hcs, hat⟩, n1, nz, wl, tl, ln, wt⟩ := id R
  walk_at "r"
  refine e_lcR ?_
  walk_at "r"
  refine a1 ⟨p, l, n, wr, tk, xs, rfl, R, ?_⟩
  refine k_lcR (ys := xs) (by omega) (by omega) rfl (fun D i y H2 RR hD hi hy e hR => ?_) fun D hD => ?_
  · refine ⟨rfl, ?_⟩
    have npD : p ≠ D := ne_of_none ho hD
    have nlD : l ≠ D := ne_of_none hl hD
    subst e
    walk_at "r"
    have ew : ((tk : Int) + (i : Int)) % (cs.length : Int) = (((tk + i) % n : Nat) : Int) := by rw [hcs]; push_cast; rfl
    rw [ew]
    refine o_ixL (Or.inl (Or.inl (by rw [upd_ne nlD]; exact hl))) (atI_nat (hat i y hy)) ?_
    exact hR
  · exact k D hD
/-! ### the law's helpers -/
def sp_law_same (K : PySem.W.Frag) (a : Ads) : Sp := A4 fun r q c t H Q _ => ∃ (p l pl ct : Addr) (n wr tk c0 c1 : Nat) (xs : List V), r = .ref p ∧ q = .ref pl ∧ c = .int n ∧ t = .ref ct ∧ RingAt a.C_Ring H p l n wr tk xs ∧ H pl = some (.lst xs) ∧ (∀ x ∈ xs, flat x = true) ∧
  H ct = some (.lst [.int c0, .int c1]) ∧ wr = c0 % (2 * n) ∧ tk = c1 % (2 * n) ∧ ∀ H1, Fp [] H H1 → Q (.bl true) H1
def sp_law_put (K : PySem.W.Frag) (a : Ads) : Sp := A2 fun r v H Q _ => ∃ (p l : Addr) (n wr tk : Nat) (xs : List V), r = .ref p ∧ RingAt a.C_Ring H p l n wr tk xs ∧
  (xs.length = n → ∀ H1, Fp [] H H1 → Q (.int n) H1) ∧ (xs.length < n → ∀ H1, RingAt a.C_Ring H1 p l n ((wr + 1) % (2 * n)) tk (xs ++ [v]) → Fp [p, l] H H1 → Q .non H1)
def sp_law_taken (K : PySem.W.Frag) (a : Ads) : Sp := A2 fun r m H Q _ => ∃ (p l : Addr) (n wr tk : Nat) (xs : List V) (b : Bool), r = .ref p ∧ m = .bl b ∧ RingAt a.C_Ring H p l n wr tk xs ∧
  (xs = [] → ∀ u H1, H u = none → H1 u = some (.tup [.str "empty", .int 0]) → Fp [] H H1 → Q (.ref u) H1) ∧
  (∀ x ys, xs = x :: ys → b = false → ∀ u H1, H u = none → H1 u = some (.tup [.str "value", x]) → Fp [] H H1 → Q (.ref u) H1) ∧
  (∀ x ys, xs = x :: ys → b = true → ∀ u H1, H u = none → H1 u = some (.tup [.str "value", x]) → RingAt a.C_Ring H1 p l n wr ((tk + 1) % (2 * n)) ys → Fp [p, l] H H1 → Q (.ref u) H1)
theorem ok_law_same (T : Txt P w K mg base a) : FnOk P w K mg base (L2.CX P w) 3 a.f_law_same a.fd_law_same ["ring", "plain", "cells", "counts"] (sp_law_same K a) := by
  have G_Ring_held := ok_Ring_held T
  have G_Ring_listed := ok_Ring_listed T
  have G_Ring_is_full := ok_Ring_is_full T
  refine T.F_law_same.okX sc_law_same (fun vs H Q E h => A4.len h) (fun cdv A outer s H vs Q E hr h => ?_)
  have hu := hu_of hr
  obtain ⟨v_ring, v_plain, v_cells, v_counts, rfl, h⟩ := h
  refine ⟨_, (pss_cons (ps_if (PW.pt (pw_or (pt_cmpR op_ne (pe_meth0S (pv 0) T.cl_Ring T.m_Ring_held G_Ring_held (hr.mono (by decide)) T.b_Ring_held (fun σ => passAt (takes_of rfl rfl rfl rfl) σ)) (pe_callB call_ln (by rfl) T.g_len (by decide +kernel) (pa_cons (pv 1) pa_nil)) (nomark _)) (pw_or1 (pt_cmpR (op_neD hr.units) (pe_meth0S (pv 0) T.cl_Ring T.m_Ring_listed G_Ring_listed (hr.mono (by decide)) T.b_Ring_listed (fun σ => passAt (takes_of rfl rfl rfl rfl) σ)) (pv 1) (nomark _))))) (pss_one (ps_ret pe_bl)) pss_nil)
    (pss_cons (ps_set (i := 4) sc_law_same.nd rfl (by first | exact Or.inl rfl | exact Or.inr rfl) (pe_meth0S (pv 0) T.cl_Ring T.m_Ring_is_full G_Ring_is_full (hr.mono (by decide)) T.b_Ring_is_full (fun σ => passAt (takes_of rfl rfl rfl rfl) σ)))
    (pss_cons (ps_if (PW.pt (pw_or (pt_not (pt_val (pe_callB call_isi (by rfl) T.g_isinstance (by decide +kernel) (pa_cons (pv 4) (pa_cons (pe_bltn (v := .ty "bool") rfl T.g_bool (by decide +kernel) rfl) pa_nil))))) (pw_or1 (pt_cmpR op_ne (pv 4) (pe_cmpR op_eq (pe_callB call_ln (by rfl) T.g_len (by decide +kernel) (pa_cons (pv 1) pa_nil)) (pv 2) (nomark _)) (nomark _))))) (pss_one (ps_ret pe_bl)) pss_nil)
    (pss_cons (ps_expr (pe_bm PySem.F.plainAttrs_list PySem.F.slot_list_append PySem.F.type_list_append mt_append (pe_meth0S (pv 0) T.cl_Ring T.m_Ring_listed G_Ring_listed (hr.mono (by decide)) T.b_Ring_listed (fun σ => passAt (takes_of rfl rfl rfl rfl) σ)) (pa_cons pe_int pa_nil)))
    (pss_one (ps_ret (pe_cmpR (op_eqD hr.units) (pe_lst (pa_cons (pe_fld (pv 0) rfl) (pa_cons (pe_fld (pv 0) rfl) pa_nil))) (pe_lst (pa_cons (pe_op op_mod (pe_callTy call_in (by rfl) T.g_int (by decide +kernel) (pa_cons (pe_ix ix_list (pv 3) pe_int (fun _ _ => rfl)) pa_nil)) (pe_op op_mul pe_int (pv 2))) (pa_cons (pe_op op_mod (pe_callTy call_in (by rfl) T.g_int (by decide +kernel) (pa_cons (pe_ix ix_list (pv 3) pe_int (fun _ _ => rfl)) pa_nil)) (pe_op op_mul pe_int (pv 2))) pa_nil))) (nomark _)))))))), ?_⟩
  obtain ⟨p, l, pl, ct, n, wr, tk, c0, c1, xs, rfl, rfl, rfl, rfl, R, hpl, hf, hct, e0, e1, k⟩ := h
  obtain ⟨⟨dx, ho⟩, ⟨cs, hl, _⟩, n1, nz, _⟩ := id R
  walk_at "r"
  refine a1 ⟨p, l, n, wr, tk, xs, rfl, R, ?_⟩
  walk_at "r"
  refine if_ndF rfl ?_
  walk_at "r"
  refine a1 ⟨p, l, n, wr, tk, xs, rfl, R, fun q hq => ?_⟩
  have npq : p ≠ q := ne_of_none ho hq
  have nlq : l ≠ q := ne_of_none hl hq
  have nplq : pl ≠ q := ne_of_none hpl hq
  have nctq : ct ≠ q := ne_of_none hct hq
  have f1 : Fp [] H (upd H q (.lst xs)) := Fp.new hq
  have R1 := R.fp f1 (by simp) (by simp)
  walk_at "r"
  refine o_neL (xs := xs) (Or.inl (Or.inl upd_same)) (Or.inl (Or.inl (by rw [upd_ne nplq]; exact hpl))) hf ?_
  walk_at "r"
  refine iteF ?_
  walk_at "r"
  refine a1 ⟨p, l, n, wr, tk, xs, rfl, R1, ?_⟩
  walk_at "r"
  refine iteF ?_
  walk_at "r"
  have eb : decide (V.bl (decide (xs.length = n)) = V.bl (decide (V.int (xs.length : Int) = V.int (n : Int)))) = true := by
    refine decide_eq_true (congrArg V.bl (decide_eq_decide.mpr ⟨fun z => by rw [z], fun z => Int.ofNat.inj (V.int.inj z)⟩))
  rw [eb]
  refine iteF ?_
  walk_at "r"
  refine a1 ⟨p, l, n, wr, tk, xs, rfl, R1, fun q2 hq2 => ?_⟩
  have f2 : Fp [] (upd H q (.lst xs)) (upd (upd H q (.lst xs)) q2 (.lst xs)) := Fp.new hq2
  have hq20 : H q2 = none := f1.free (by simp) hq2
  have npq2 : p ≠ q2 := ne_of_none ho hq20
  have nctq2 : ct ≠ q2 := ne_of_none hct hq20
  walk_at "r"
  refine c_app upd_same (szl (by omega)) ?_
  walk_at "r"
  have q0 : ((c0 : Int)) % (2 * (n : Int)) = (wr : Int) := by rw [e0]; push_cast; rfl
  have q1 : ((c1 : Int)) % (2 * (n : Int)) = (tk : Int) := by rw [e1]; push_cast; rfl
  refine ⟨sz (by simp), fun r1 hr1 => ?_⟩
  have f2b : Fp [] (upd H q (.lst xs)) (upd (upd (upd H q (.lst xs)) q2 (.lst xs)) q2 (.lst (xs ++ [.int 7]))) := by rw [upd_upd]; exact Fp.new hq2
  have nct : upd (upd (upd H q (.lst xs)) q2 (.lst xs)) q2 (.lst (xs ++ [.int 7])) ct = some (.lst [.int c0, .int c1]) := by rw [upd_ne nctq2, upd_ne nctq2, upd_ne nctq]; exact hct
  have nctr := ne_of_none nct hr1
  walk_at "r"
  rw [q0, q1]
  refine ⟨sz (by simp), fun r2 hr2 => ?_⟩
  have nr : r1 ≠ r2 := ne_of_none upd_same hr2
  refine o_eqL (xs := [.int wr, .int tk]) (Or.inl (Or.inl (by rw [upd_ne nr, upd_same]))) (Or.inl (Or.inl upd_same)) (by simp [flat]) ?_
  walk_at "r"
  exact k _ (((f1.trans f2b).trans (Fp.new hr1)).trans (Fp.new hr2))
theorem ok_law_put (T : Txt P w K mg base a) : FnOk P w K mg base (L2.CX P w) 4 a.f_law_put a.fd_law_put ["ring", "value"] (sp_law_put K a) := by
  have G_Ring_put := ok_Ring_put T
  refine T.F_law_put.okX sc_law_put (fun vs H Q E h => A2.len h) (fun cdv A outer s H vs Q E hr h => ?_)
  have hu := hu_of hr
  obtain ⟨v_ring, v_value, rfl, h⟩ := h
  refine ⟨_, (pss_cons (ps_try_as (i := 2) (tb := fun W1 => (tDrop (tMethS a.C_Ring "put" (sp_Ring_put K a) (WE W1) (tVar 0) (tCons (tVar 1) tNil)))) (ts := fun ae cls de => (tSeq (tIfS (tNot (tB (tCB (rIsED K a.C_RingError ae cls de) (tCons (tVar 2) (tCons (tC (.ref a.C_TickringsError)) tNil))))) (tRet (tUn (rU fun i => .int (-i)) (tC (.int 1)))) tNext) (tRet (tXf ae cls de a.C_RingError "held" (tVar 2))))) (Wout := (fun cls d _ H1 => E cls d H1)) rfl rfl sc_law_put.nd rfl rfl ⟨rfl, by decide, Or.inl T.e_RingError.g⟩ (takes_of rfl rfl rfl rfl)
      (fun W1 pn xe tk1 po1 => by exact (pss_one (ps_expr (pe_methS (pv 0) T.cl_Ring T.m_Ring_put G_Ring_put (hr.mono (by decide)) T.b_Ring_put (fun σ => passAt tk1 σ) (pa_cons (pv 1) pa_nil)))))
      (fun ae oe cls de pn hz hf => by exact (pss_cons (ps_if (pt_not (pt_val (pe_callB (call_isED T.e_RingError.isc hz hf) (by rfl) T.g_isinstance (by decide +kernel) (pa_cons (pv 2) (pa_cons (pe_glob (v := .ref a.C_TickringsError) rfl T.g_TickringsError rfl) pa_nil))))) (pss_one (ps_ret (pe_un un_neg pe_int))) pss_nil)
    (pss_one (ps_ret (pe_xf T.e_RingError.xf T.e_RingError.nof hz hf (pv 2)))))))
    (pss_one (ps_ret pe_non))), ?_⟩
  obtain ⟨p, l, n, wr, tk, xs, rfl, R, kf, k⟩ := h
  obtain ⟨⟨dx, ho⟩, _⟩ := id R
  refine s_seq ?_
  walk_at "r"
  refine a2 ⟨p, l, n, wr, tk, xs, rfl, R, fun e d hd => ?_, fun e H1 R1 f1 => ?_⟩
  · refine w_as T.e_RingError.exm fun ae hae => ?_
    walk_at "r"
    refine c_isED upd_same T.is_RingError_TickringsError ?_
    walk_at "r"
    refine iteF ?_
    walk_at "r"
    exact kf e _ (Fp.new hd)
  · walk_at "r"
    exact k e H1 R1 f1
theorem ok_law_taken (T : Txt P w K mg base a) : FnOk P w K mg base (L2.CX P w) 5 a.f_law_taken a.fd_law_taken ["ring", "remove"] (sp_law_taken K a) := by
  have G_Ring_take := ok_Ring_take T
  have G_Ring_first := ok_Ring_first T
  refine T.F_law_taken.okX sc_law_taken (fun vs H Q E h => A2.len h) (fun cdv A outer s H vs Q E hr h => ?_)
  have hu := hu_of hr
  obtain ⟨v_ring, v_remove, rfl, h⟩ := h
  refine ⟨_, (pss_one (ps_try_as (i := 2) (tb := fun W1 => (tSeq (tIfS (tB (tVar 1)) (tRet (tTup (tCons (tC (.str "value")) (tCons (tMethS a.C_Ring "take" (sp_Ring_take K a) (WE W1) (tVar 0) tNil) tNil)))) tNext) (tRet (tTup (tCons (tC (.str "value")) (tCons (tMethS a.C_Ring "first" (sp_Ring_first K a) (WE W1) (tVar 0) tNil) tNil)))))) (ts := fun ae cls de => (tRet (tTup (tCons (tC (.str "empty")) (tCons (tXf ae cls de a.C_RingError "held" (tVar 2)) tNil))))) (Wout := (fun cls d _ H1 => E cls d H1)) rfl rfl sc_law_taken.nd rfl rfl ⟨rfl, by decide, Or.inl T.e_RingError.g⟩ (takes_of rfl rfl rfl rfl)
      (fun W1 pn xe tk1 po1 => by exact (pss_cons (ps_if (pt_val (pv 1)) (pss_one (ps_ret (pe_tup (pa_cons pe_str (pa_cons (pe_meth0S (pv 0) T.cl_Ring T.m_Ring_take G_Ring_take (hr.mono (by decide)) T.b_Ring_take (fun σ => passAt tk1 σ)) pa_nil))))) pss_nil)
    (pss_one (ps_ret (pe_tup (pa_cons pe_str (pa_cons (pe_meth0S (pv 0) T.cl_Ring T.m_Ring_first G_Ring_first (hr.mono (by decide)) T.b_Ring_first (fun σ => passAt tk1 σ)) pa_nil)))))))
      (fun ae oe cls de pn hz hf => by exact (pss_one (ps_ret (pe_tup (pa_cons pe_str (pa_cons (pe_xf T.e_RingError.xf T.e_RingError.nof hz hf (pv 2)) pa_nil)))))))), ?_⟩
  obtain ⟨p, l, n, wr, tk, xs, b, rfl, rfl, R, k0, k1, k2⟩ := h
  obtain ⟨⟨dx, ho⟩, _⟩ := id R
  walk_at "r"
  have en := T.e_RingError.exm
  cases b with
  | true =>
    refine iteT ?_
    walk_at "r"
    refine a1 ⟨p, l, n, wr, tk, xs, rfl, R, fun e d hd => ?_, fun x ys e H1 R1 f1 => ?_⟩
    · refine w_as en fun ae hae => ?_
      walk_at "r"
      exact ⟨sz (by simp), fun u hu2 => k0 e u _ ((Fp.new (fp := []) hd).free (by simp) hu2) upd_same ((Fp.new hd).trans (Fp.new hu2))⟩
    · walk_at "r"
      refine ⟨sz (by simp), fun u hu2 => ?_⟩
      have hu0 : H u = none := by
        cases q : H u with
        | none => rfl
        | some o =>
          by_cases h1 : u = p
          · obtain ⟨⟨dx1, ho1⟩, _⟩ := R1
            rw [h1, ho1] at hu2
            cases hu2
          · by_cases h2 : u = l
            · obtain ⟨_, ⟨cs1, hl1, _⟩, _⟩ := R1
              rw [h2, hl1] at hu2
              cases hu2
            · rw [f1 u o q (by simp [h1, h2])] at hu2
              cases hu2
      have fu : Fp [] H1 (upd H1 u (.tup [.str "value", x])) := Fp.new hu2
      exact k2 x ys e rfl u _ hu0 upd_same (R1.fp fu (by simp) (by simp)) (f1.trans (fu.mono (by simp)))
  | false =>
    refine iteF ?_
    walk_at "r"
    refine a1 ⟨p, l, n, wr, tk, xs, rfl, R, fun e d hd => ?_, fun x ys e => ?_⟩
    · refine w_as en fun ae hae => ?_
      walk_at "r"
      exact ⟨sz (by simp), fun u hu2 => k0 e u _ ((Fp.new (fp := []) hd).free (by simp) hu2) upd_same ((Fp.new hd).trans (Fp.new hu2))⟩
    · walk_at "r"
      exact ⟨sz (by simp), fun u hu2 => k1 x ys e rfl u _ hu2 upd_same (Fp.new hu2)⟩
/-! ### the law -/
structure Wd (C : Addr) (H : Hp) (st sl p l pl ct : Addr) (n wr tk c0 c1 : Nat) (xs : List V) : Prop where
  S : StAt H st sl
  R : RingAt C H p l n wr tk xs
  hp : H pl = some (.lst xs)
  hc : H ct = some (.lst [.int c0, .int c1])
  nd : [st, sl, p, l, pl, ct].Nodup
  fl : ∀ x ∈ xs, flat x = true
  ew : wr = c0 % (2 * n)
  et : tk = c1 % (2 * n)
theorem Wd.fp {C st sl p l pl ct : Addr} {H H1 : Hp} {n wr tk c0 c1 : Nat} {xs : List V} (W : Wd C H st sl p l pl ct n wr tk c0 c1 xs) (f : Fp [] H H1) : Wd C H1 st sl p l pl ct n wr tk c0 c1 xs :=
  ⟨W.S.fp f (by simp) (by simp), W.R.fp f (by simp) (by simp), f _ _ W.hp (by simp), f _ _ W.hc (by simp), W.nd, W.fl, W.ew, W.et⟩
structure Dj (st sl p l pl ct : Addr) : Prop where
  a2 : st ≠ p
  a3 : st ≠ l
  a4 : st ≠ pl
  a5 : st ≠ ct
  b2 : sl ≠ p
  b3 : sl ≠ l
  b4 : sl ≠ pl
  b5 : sl ≠ ct
  c3 : p ≠ l
  c4 : p ≠ pl
  c5 : p ≠ ct
  d4 : l ≠ pl
  d5 : l ≠ ct
  e5 : pl ≠ ct
theorem Wd.dj {C st sl p l pl ct : Addr} {H : Hp} {n wr tk c0 c1 : Nat} {xs : List V} (W : Wd C H st sl p l pl ct n wr tk c0 c1 xs) : Dj st sl p l pl ct := by
  have nd := W.nd
  simp only [List.nodup_cons, List.mem_cons, List.not_mem_nil, or_false, not_or] at nd
  obtain ⟨⟨a1, a2, a3, a4, a5⟩, ⟨b2, b3, b4, b5⟩, ⟨c3, c4, c5⟩, ⟨d4, d5⟩, e5, _⟩ := nd
  exact ⟨a2, a3, a4, a5, b2, b3, b4, b5, c3, c4, c5, d4, d5, e5⟩
theorem Wd.draw {C st sl p l pl ct : Addr} {H H1 : Hp} {n wr tk c0 c1 : Nat} {xs : List V} (W : Wd C H st sl p l pl ct n wr tk c0 c1 xs) (S : StAt H1 st sl) (f : Fp [st, sl] H H1) : Wd C H1 st sl p l pl ct n wr tk c0 c1 xs := by
  have d := W.dj
  exact ⟨S, W.R.fp f (by simp [Ne.symm d.a2, Ne.symm d.b2]) (by simp [Ne.symm d.a3, Ne.symm d.b3]), f _ _ W.hp (by simp [Ne.symm d.a4, Ne.symm d.b4]), f _ _ W.hc (by simp [Ne.symm d.a5, Ne.symm d.b5]), W.nd, W.fl, W.ew, W.et⟩
theorem ok_law (T : Txt P w K mg base a) : FnOk P w K mg base (L2.CX P w) 6 a.f_law a.fd_law ["script"] (sp_law K a) := by
  have G_law_state := ok_law_state T
  have G_law_draw := ok_law_draw T
  have G_Ring_init := ok_Ring_init T
  have G_law_put := ok_law_put T
  have G_law_taken := ok_law_taken T
  have G_law_same := ok_law_same T
  refine T.F_law.okX sc_law (fun vs H Q E h => A1.len h) (fun cdv A outer s H vs Q E hr h => ?_)
  have hu := hu_of hr
  obtain ⟨v_script, rfl, h⟩ := h
  refine ⟨_, (pss_cons (ps_set (i := 1) sc_law.nd rfl (by first | exact Or.inl rfl | exact Or.inr rfl) (pe_callS G_law_state (hr.mono (by decide)) rfl T.g_law_state T.F_law_state.kp T.b_law_state (fun σ => passAt (takes_of rfl rfl rfl rfl) σ) (pa_cons (pv 0) pa_nil)))
    (pss_cons (ps_set (i := 2) sc_law.nd rfl (by first | exact Or.inl rfl | exact Or.inr rfl) (pe_op op_add pe_int (pe_callS G_law_draw (hr.mono (by decide)) rfl T.g_law_draw T.F_law_draw.kp T.b_law_draw (fun σ => passAt (takes_of rfl rfl rfl rfl) σ) (pa_cons (pv 1) (pa_cons pe_int pa_nil)))))
    (Evl.pss_cut (ps_if (pt_cmpR op_eq (pe_callS G_law_draw (hr.mono (by decide)) rfl T.g_law_draw T.F_law_draw.kp T.b_law_draw (fun σ => passAt (takes_of rfl rfl rfl rfl) σ) (pa_cons (pv 1) (pa_cons pe_int pa_nil))) pe_int (nomark _)) (pss_one (ps_set (i := 2) sc_law.nd rfl (by first | exact Or.inl rfl | exact Or.inr rfl) (pe_op op_add pe_int (pe_callS G_law_draw (hr.mono (by decide)) rfl T.g_law_draw T.F_law_draw.kp T.b_law_draw (fun σ => passAt (takes_of rfl rfl rfl rfl) σ) (pa_cons (pv 1) (pa_cons pe_int pa_nil)))))) pss_nil)
    (pss_cons (ps_set (i := 3) sc_law.nd rfl (by first | exact Or.inl rfl | exact Or.inr rfl) (pe_makeS T.mk_Ring G_Ring_init (hr.mono (by decide)) rfl T.g_Ring T.b_Ring_init (fun σ => passAt (takes_of rfl rfl rfl rfl) σ) (pa_cons (pv 2) pa_nil)))
    (pss_cons (ps_set (i := 4) sc_law.nd rfl (by first | exact Or.inl rfl | exact Or.inr rfl) (pe_lst pa_nil))
    (pss_cons (ps_set (i := 5) sc_law.nd rfl (by first | exact Or.inl rfl | exact Or.inr rfl) (pe_lst (pa_cons pe_int (pa_cons pe_int pa_nil))))
    (pss_cons (ps_set (i := 6) sc_law.nd rfl (by first | exact Or.inl rfl | exact Or.inr rfl) pe_int)
    (pss_cons (ps_for (passes_of rfl) rfl (pi_range1 rfl T.g_range (pa_cons (pe_op op_add pe_int (pe_callS G_law_draw (hr.mono (by decide)) rfl T.g_law_draw T.F_law_draw.kp T.b_law_draw (fun σ => passAt (takes_of rfl rfl rfl rfl) σ) (pa_cons (pv 1) (pa_cons pe_int pa_nil)))) pa_nil)) (pg_name (i := 7) sc_law.nd rfl (by first | exact Or.inl rfl | exact Or.inr rfl)) (Evl.pss_cut (ps_if (pt_cmpR op_eq (pv 6) pe_int (nomark _)) (pss_cons (ps_set (i := 6) sc_law.nd rfl (by first | exact Or.inl rfl | exact Or.inr rfl) (pe_op op_add pe_int (pe_callS G_law_draw (hr.mono (by decide)) rfl T.g_law_draw T.F_law_draw.kp T.b_law_draw (fun σ => passAt (takes_of rfl rfl rfl rfl) σ) (pa_cons (pv 1) (pa_cons (pe_op op_add (pe_op op_mul pe_int (pv 2)) pe_int) pa_nil)))))
    (pss_one (ps_set (i := 8) sc_law.nd rfl (by first | exact Or.inl rfl | exact Or.inr rfl) (pe_callS G_law_draw (hr.mono (by decide)) rfl T.g_law_draw T.F_law_draw.kp T.b_law_draw (fun σ => passAt (takes_of rfl rfl rfl rfl) σ) (pa_cons (pv 1) (pa_cons pe_int pa_nil)))))) pss_nil)
    (pss_cons (ps_set (i := 6) sc_law.nd rfl (by first | exact Or.inl rfl | exact Or.inr rfl) (pe_op op_sub (pv 6) pe_int))
    (Evl.pss_cut (ps_if (pt_up (PW.pt (pw_or (pt_cmpR op_eq (pv 8) pe_int (nomark _)) (pw_or1 (PW.pt (pw_and (pt_cmpR op_eq (pv 8) pe_int (nomark _)) (pw_and1 (pt_cmpR op_eq (pe_callS G_law_draw (hr.mono (by decide)) rfl T.g_law_draw T.F_law_draw.kp T.b_law_draw (fun σ => passAt (takes_of rfl rfl rfl rfl) σ) (pa_cons (pv 1) (pa_cons pe_int pa_nil))) pe_int (nomark _))))))))) (pss_cons (ps_set (i := 9) sc_law.nd rfl (by first | exact Or.inl rfl | exact Or.inr rfl) pe_non)
    (Evl.pss_cut (ps_if (pt_cmpR op_eq (pe_callB call_ln (by rfl) T.g_len (by decide +kernel) (pa_cons (pv 4) pa_nil)) (pv 2) (nomark _)) (pss_one (ps_set (i := 9) sc_law.nd rfl (by first | exact Or.inl rfl | exact Or.inr rfl) (pv 2))) (pss_cons (ps_expr (pe_bm PySem.F.plainAttrs_list PySem.F.slot_list_append PySem.F.type_list_append mt_append (pv 4) (pa_cons (pv 7) pa_nil)))
    (pss_one (ps_asg (pe_op op_add (pe_ix ix_list (pv 5) pe_int (fun _ _ => rfl)) pe_int) (pg_sub (pv 5) pe_int set_list)))))
    (pss_one (ps_if (pt_cmpR op_ne (pe_callS G_law_put (hr.mono (by decide)) rfl T.g_law_put T.F_law_put.kp T.b_law_put (fun σ => passAt (takes_of rfl rfl rfl rfl) σ) (pa_cons (pv 3) (pa_cons (pv 7) pa_nil))) (pv 9) (nomark _)) (pss_one (ps_ret pe_bl)) pss_nil)))) (pss_cons (ps_set (i := 10) sc_law.nd rfl (by first | exact Or.inl rfl | exact Or.inr rfl) (pe_cmpR op_gt (pe_callS G_law_draw (hr.mono (by decide)) rfl T.g_law_draw T.F_law_draw.kp T.b_law_draw (fun σ => passAt (takes_of rfl rfl rfl rfl) σ) (pa_cons (pv 1) (pa_cons pe_int pa_nil))) pe_int (nomark _)))
    (pss_cons (ps_set (i := 11) sc_law.nd rfl (by first | exact Or.inl rfl | exact Or.inr rfl) (pe_tup (pa_cons pe_str (pa_cons pe_int pa_nil))))
    (Evl.pss_cut (ps_if (pt_cmpR op_gt (pe_callB call_ln (by rfl) T.g_len (by decide +kernel) (pa_cons (pv 4) pa_nil)) pe_int (nomark _)) (pss_cons (ps_set (i := 11) sc_law.nd rfl (by first | exact Or.inl rfl | exact Or.inr rfl) (pe_tup (pa_cons pe_str (pa_cons (pe_ix ix_list (pv 4) pe_int (fun _ _ => rfl)) pa_nil))))
    (pss_one (ps_if (pt_val (pv 10)) (pss_cons (ps_set (i := 4) sc_law.nd rfl (by first | exact Or.inl rfl | exact Or.inr rfl) (pe_slice sl_list (pv 4) (po_some pe_int) po_none))
    (pss_one (ps_asg (pe_op op_add (pe_ix ix_list (pv 5) pe_int (fun _ _ => rfl)) pe_int) (pg_sub (pv 5) pe_int set_list)))) pss_nil))) pss_nil)
    (pss_one (ps_if (pt_cmpR (op_neD hr.units) (pe_callS G_law_taken (hr.mono (by decide)) rfl T.g_law_taken T.F_law_taken.kp T.b_law_taken (fun σ => passAt (takes_of rfl rfl rfl rfl) σ) (pa_cons (pv 3) (pa_cons (pv 10) pa_nil))) (pv 11) (nomark _)) (pss_one (ps_ret pe_bl)) pss_nil))))))
    (pss_one (ps_if (pt_not (pt_val (pe_callS G_law_same (hr.mono (by decide)) rfl T.g_law_same T.F_law_same.kp T.b_law_same (fun σ => passAt (takes_of rfl rfl rfl rfl) σ) (pa_cons (pv 3) (pa_cons (pv 4) (pa_cons (pv 2) (pa_cons (pv 5) pa_nil))))))) (pss_one (ps_ret pe_bl)) pss_nil))))))
    (pss_one (ps_ret pe_bl)))))))))), ?_⟩
  obtain ⟨b, ns, rfl, hS, hn, k⟩ := h
  walk_at "r"
  refine a1 ⟨b, ns, rfl, hS, hn, fun st sl H1 hst hsl S1 f1 => ?_⟩
  walk_at "r"
  refine a2 ⟨st, sl, 5, rfl, rfl, S1, by omega, by omega, fun r1 H2 h0 h1 S2 f2 => ?_⟩
  walk_at "r"
  refine s_cut (fun σ H3 => ∃ n : Nat, σ = [some (.ref b), some (.ref st), some (.int n), none, none, none, none, none, none, none, none, none] ∧ 1 ≤ n ∧ n ≤ 256 ∧ StAt H3 st sl) ?_ ?_
  · walk_at "r"
    refine a2 ⟨st, sl, 6, rfl, rfl, S2, by omega, by omega, fun r2 H3 h2 h3 S3 f3 => ?_⟩
    walk_at "r"
    refine if_d (fun c => ?_) (fun c => ?_)
    · walk_at "r"
      refine a2 ⟨st, sl, 256, rfl, rfl, S3, by omega, by omega, fun r3 H4 h4 h5 S4 f4 => ?_⟩
      walk_at "r"
      exact ⟨(1 + r3).toNat, by rw [Int.toNat_of_nonneg (by omega)]; rfl, by omega, by omega, S4⟩
    · walk_at "r"
      exact ⟨(1 + r1).toNat, by rw [Int.toNat_of_nonneg (by omega)]; rfl, by omega, by omega, S3⟩
  rintro σ H3 ⟨n, rfl, n1, n2, S3⟩
  obtain ⟨sns, sm, gst, gsl, _⟩ := id S3
  walk_at "r"
  intro p dp np ndp nedp
  have g1 : upd (upd H3 dp (.own p)) p (.ins a.C_Ring dp []) p = some (.ins a.C_Ring dp []) := upd_same
  refine a2 ⟨p, dp, n, rfl, rfl, n1, n2, g1, fun l H4 hl R4 f4 => ⟨rfl, ?_⟩⟩
  have q3 : Fp [] H3 H4 := (((Fp.new ndp).trans (Fp.new (by rw [upd_ne nedp.symm]; exact np))).trans f4).drop fun z hz => by
    rcases List.mem_singleton.mp hz with rfl
    exact .inr np
  have S4 := S3.fp q3 (by simp) (by simp)
  have npl4 := R4.ne
  obtain ⟨⟨dxp, hop⟩, ⟨cs0, hl0, _⟩, _⟩ := id R4
  have n_sp : st ≠ p := ne_of_none gst np
  have n_slp : sl ≠ p := ne_of_none gsl np
  have hl3 : H3 l = none := by
    cases q : H3 l with
    | none => rfl
    | some o =>
      have z : upd (upd H3 dp (.own p)) p (.ins a.C_Ring dp []) l = some o := by
        rw [upd_ne (ne_of_none q np), upd_ne (ne_of_none q ndp)]
        exact q
      rw [hl] at z
      cases z
  have n_sl : st ≠ l := ne_of_none gst hl3
  have n_sll : sl ≠ l := ne_of_none gsl hl3
  walk_at "r"
  refine ⟨sz (by simp), fun pl hpl => ?_⟩
  walk_at "r"
  refine ⟨sz (by simp), fun ct hct => ?_⟩
  walk_at "r"
  have W0 : Wd a.C_Ring (upd (upd H4 pl (.lst [])) ct (.lst [.int 0, .int 0])) st sl p l pl ct n 0 0 0 0 [] := by
    have hct4 : H4 ct = none := (Fp.new (fp := []) hpl).free (by simp) hct
    have e5 : pl ≠ ct := ne_of_none upd_same hct
    have g4 := q3 _ _ gst (by simp)
    have g5 := q3 _ _ gsl (by simp)
    have ff : Fp [] H4 (upd (upd H4 pl (.lst [])) ct (.lst [.int 0, .int 0])) := (Fp.new hpl).trans (Fp.new hct)
    refine ⟨S4.fp ff (by simp) (by simp), R4.fp ff (by simp) (by simp), by rw [upd_ne e5, upd_same], upd_same, ?_, by simp, by simp, by simp⟩
    have m1 := ne_of_none g4 hpl; have m2 := ne_of_none g4 hct4; have m3 := ne_of_none g5 hpl; have m4 := ne_of_none g5 hct4
    have m5 := ne_of_none hop hpl; have m6 := ne_of_none hop hct4; have m7 := ne_of_none hl0 hpl; have m8 := ne_of_none hl0 hct4
    have m9 := S4.ne
    simp [n_sp, n_slp, n_sl, n_sll, npl4, m1, m2, m3, m4, m5, m6, m7, m8, m9, e5]
  generalize upd (upd H4 pl (.lst [])) ct (.lst [.int 0, .int 0]) = H5 at W0 ⊢
  refine f_rng1 ?_
  walk_at "r"
  refine a2 ⟨st, sl, 120, rfl, rfl, W0.S, by omega, by omega, fun r3 H6 h4 h5 S6 f6 => ?_⟩
  walk_at "r"
  refine k_rng (fun i σ H' => ∃ (pl' : Addr) (wr tk c0 c1 : Nat) (xs : List V) (put : Int) (kv tv dv rv av : Option V), σ = [some (.ref b), some (.ref st), some (.int n), some (.ref p), some (.ref pl'), some (.ref ct), some (.int put), kv, tv, dv, rv, av] ∧
    0 ≤ put ∧ (put = 0 ∨ ∃ tn : Int, tv = some (.int tn)) ∧ Wd a.C_Ring H' st sl p l pl' ct n wr tk c0 c1 xs) (by omega) (by omega) ?_ ?_ ?_
  · exact ⟨pl, 0, 0, 0, 0, [], 0, none, none, none, none, none, rfl, by omega, .inl rfl, W0.draw S6 f6⟩
  · rintro i σ H' hi ⟨pl', wr, tk, c0, c1, xs, put, kv, tv, dv, rv, av, rfl, hput, htv, W⟩
    walk_at "r"
    refine s_cut (fun σ H3 => ∃ put tn : Int, σ = [some (.ref b), some (.ref st), some (.int n), some (.ref p), some (.ref pl'), some (.ref ct), some (.int put), some (.int i), some (.int tn), dv, rv, av] ∧ 1 ≤ put ∧ Wd a.C_Ring H3 st sl p l pl' ct n wr tk c0 c1 xs) ?_ ?_
    · walk_at "r"
      refine if_d (fun c => ?_) (fun c => ?_)
      · walk_at "r"
        refine a2 ⟨st, sl, _, rfl, rfl, W.S, by omega, by omega, fun r4 H7 h6 h7 S7 f7 => ?_⟩
        walk_at "r"
        refine a2 ⟨st, sl, _, rfl, rfl, S7, by omega, by omega, fun r5 H8 h8 h9 S8 f8 => ?_⟩
        walk_at "r"
        exact ⟨_, _, rfl, by omega, (W.draw S7 f7).draw S8 f8⟩
      · have c' := int_ne c
        rcases htv with z | ⟨tn, rfl⟩
        · exact absurd z c'
        · walk_at "r"
          exact ⟨put, tn, rfl, by omega, W⟩
    clear W
    rintro σ H3 ⟨put, tn, rfl, hput, W⟩
    walk_at "r"
    refine s_cut (fun σ H3 => ∃ (pl2 : Addr) (wr tk c0 c1 : Nat) (xs : List V) (dv rv av : Option V), σ = [some (.ref b), some (.ref st), some (.int n), some (.ref p), some (.ref pl2), some (.ref ct), some (.int (put - 1)), some (.int i), some (.int tn), dv, rv, av] ∧ Wd a.C_Ring H3 st sl p l pl2 ct n wr tk c0 c1 xs) ?_ ?_
    · walk_at "r"
      refine t_up (fun _ H7 => Wd a.C_Ring H7 st sl p l pl' ct n wr tk c0 c1 xs) ?_ fun c H7 W7 => ?_
      · walk_at "r"
        refine if_d (fun _ => ?_) (fun _ => ?_)
        · exact W
        walk_at "r"
        refine if_d (fun _ => ?_) (fun _ => ?_)
        rotate_left
        · exact W
        walk_at "r"
        refine a2 ⟨st, sl, _, rfl, rfl, W.S, by omega, by omega, fun r5 H8 h8 h9 S8 f8 => ?_⟩
        walk_at "r"
        exact W.draw S8 f8
      have d := W7.dj
      have dd1 := d.e5
      have hW := W7.hp
      have hC := W7.hc
      have hz := W7.R.nz
      have hln := W7.R.ln
      refine if_b (fun _ => ?_) (fun _ => ?_)
      · -- a put
        walk_at "r"
        refine s_cut (fun σ H3 => (xs.length = n ∧ H3 = H7 ∧ σ = [some (.ref b), some (.ref st), some (.int n), some (.ref p), some (.ref pl'), some (.ref ct), some (.int (put - 1)), some (.int i), some (.int tn), some (.int n), rv, av]) ∨
          (xs.length < n ∧ H3 = upd (upd H7 pl' (.lst (xs ++ [.int i]))) ct (.lst [.int (c0 + 1 : Nat), .int c1]) ∧ σ = [some (.ref b), some (.ref st), some (.int n), some (.ref p), some (.ref pl'), some (.ref ct), some (.int (put - 1)), some (.int i), some (.int tn), some .non, rv, av])) ?_ ?_
        · walk_at "r"
          refine if_d (fun c => ?_) (fun c => ?_)
          · walk_at "r"
            exact .inl ⟨Int.ofNat.inj (V.int.inj c), rfl, rfl⟩
          · walk_at "r"
            refine c_app hW (szl (by omega)) ?_
            have hne : xs.length ≠ n := fun z => c (by rw [z])
            walk_at "r"
            have hC2 : upd H7 pl' (.lst (xs ++ [.int i])) ct = some (.lst [.int c0, .int c1]) := by rw [upd_ne d.e5.symm]; exact hC
            walk_at "r"
            refine c_setL (j := 0) hC2 rfl (by simp) ?_
            walk_at "r"
            exact .inr ⟨by omega, rfl, rfl⟩
        · rintro σ H3 (⟨hx, rfl, rfl⟩ | ⟨hx, rfl, rfl⟩)
          · walk_at "r"
            refine a2 ⟨p, l, n, wr, tk, xs, rfl, W7.R, fun _ H8 f8 => ?_, fun z => by omega⟩
            walk_at "r"
            refine if_ndF rfl ?_
            walk_at "r"
            exact ⟨pl', wr, tk, c0, c1, xs, _, _, _, rfl, W7.fp f8⟩
          · walk_at "r"
            have f9 : Fp [pl', ct] H7 (upd (upd H7 pl' (.lst (xs ++ [.int i]))) ct (.lst [.int (c0 + 1 : Nat), .int c1])) := (Fp.at_ (by simp)).trans (Fp.at_ (by simp))
            refine a2 ⟨p, l, n, wr, tk, xs, rfl, W7.R.fp f9 (by simp [d.c4, d.c5]) (by simp [d.d4, d.d5]), fun z => by omega, fun _ H8 R8 f8 => ?_⟩
            walk_at "r"
            refine if_ndF rfl ?_
            walk_at "r"
            refine ⟨pl', _, tk, c0 + 1, c1, _, _, _, _, rfl, (W7.S.fp f9 (by simp [d.a4, d.a5]) (by simp [d.b4, d.b5])).fp f8 (by simp [d.a2, d.a3]) (by simp [d.b2, d.b3]), R8, ?_, ?_, W7.nd, ?_, ?_, W7.et⟩
            · exact f8 _ _ (by rw [upd_ne d.e5]; exact upd_same) (by simp [Ne.symm d.c4, Ne.symm d.d4])
            · exact f8 _ _ upd_same (by simp [Ne.symm d.c5, Ne.symm d.d5])
            · intro x hx
              rcases List.mem_append.mp hx with h | h
              · exact W7.fl x h
              · rw [List.mem_singleton.mp h]; rfl
            · rw [W7.ew, Nat.mod_add_mod]
      · -- a take
        walk_at "r"
        refine a2 ⟨st, sl, 4, rfl, rfl, W7.S, by omega, by omega, fun r6 H8 h8 h9 S8 f8 => ?_⟩
        have W8 := W7.draw S8 f8
        walk_at "r"
        refine ⟨sz (by decide), fun u0 hu0 => ?_⟩
        have W9 := W8.fp (Fp.new (o := .tup [.str "empty", .int 0]) hu0)
        have g0 : upd H8 u0 (.tup [.str "empty", .int 0]) u0 = some (.tup [.str "empty", .int 0]) := upd_same
        generalize upd H8 u0 (.tup [.str "empty", .int 0]) = H9 at W9 g0 ⊢
        walk_at "r"
        refine s_cut (fun σ H3 => (xs = [] ∧ ∃ u, σ = [some (.ref b), some (.ref st), some (.int n), some (.ref p), some (.ref pl'), some (.ref ct), some (.int (put - 1)), some (.int i), some (.int tn), dv, some (.bl (decide (0 < r6))), some (.ref u)] ∧ H3 u = some (.tup [.str "empty", .int 0]) ∧ Wd a.C_Ring H3 st sl p l pl' ct n wr tk c0 c1 xs) ∨
          (∃ x ys u, xs = x :: ys ∧ ¬ 0 < r6 ∧ σ = [some (.ref b), some (.ref st), some (.int n), some (.ref p), some (.ref pl'), some (.ref ct), some (.int (put - 1)), some (.int i), some (.int tn), dv, some (.bl (decide (0 < r6))), some (.ref u)] ∧ H3 u = some (.tup [.str "value", x]) ∧ Wd a.C_Ring H3 st sl p l pl' ct n wr tk c0 c1 xs) ∨
          (∃ x ys u pl2, xs = x :: ys ∧ 0 < r6 ∧ σ = [some (.ref b), some (.ref st), some (.int n), some (.ref p), some (.ref pl2), some (.ref ct), some (.int (put - 1)), some (.int i), some (.int tn), dv, some (.bl (decide (0 < r6))), some (.ref u)] ∧ H3 u = some (.tup [.str "value", x]) ∧
            StAt H3 st sl ∧ RingAt a.C_Ring H3 p l n wr tk xs ∧ H3 pl2 = some (.lst ys) ∧ H3 ct = some (.lst [.int c0, .int (c1 + 1 : Nat)]) ∧ [st, sl, p, l, pl2, ct].Nodup)) ?_ ?_
        · walk_at "r"
          have hW9 := W9.hp
          walk_at "r"
          cases hx : xs with
          | nil =>
            subst hx
            refine if_dF (by simp) ?_
            walk_at "r"
            exact .inl ⟨rfl, u0, rfl, g0, W9⟩
          | cons x ys =>
            subst hx
            refine if_dT (by simp) ?_
            walk_at "r"
            refine ⟨sz (by simp), fun u1 hu1 => ?_⟩
            have W10 := W9.fp (Fp.new (o := .tup [.str "value", x]) hu1)
            have g1 : upd H9 u1 (.tup [.str "value", x]) u1 = some (.tup [.str "value", x]) := upd_same
            generalize upd H9 u1 (.tup [.str "value", x]) = H10 at W10 g1 ⊢
            walk_at "r"
            refine if_d (fun c => ?_) (fun c => ?_)
            · have hW10 := W10.hp
              have hC10 := W10.hc
              walk_at "r"
              intro pl2 hpl2
              rw [cut1]
              have f11 : Fp [] H10 (upd H10 pl2 (.lst ys)) := Fp.new hpl2
              have W11 := W10.fp f11
              have hC11 := W11.hc
              have g11 := f11 _ _ g1 (by simp)
              have e11 : upd H10 pl2 (.lst ys) pl2 = some (.lst ys) := upd_same
              have nd1 : st ≠ pl2 := by obtain ⟨_, _, z, _⟩ := W10.S; exact ne_of_none z hpl2
              have nd2 : sl ≠ pl2 := by obtain ⟨_, _, _, z, _⟩ := W10.S; exact ne_of_none z hpl2
              have nd3 : p ≠ pl2 := by obtain ⟨⟨_, z⟩, _⟩ := W10.R; exact ne_of_none z hpl2
              have nd4 : l ≠ pl2 := by obtain ⟨_, ⟨_, z, _⟩, _⟩ := W10.R; exact ne_of_none z hpl2
              have nd5 : ct ≠ pl2 := ne_of_none hC10 hpl2
              generalize upd H10 pl2 (.lst ys) = H11 at W11 hC11 g11 e11 ⊢
              walk_at "r"
              refine c_setL (j := 1) hC11 rfl (by simp) ?_
              walk_at "r"
              have f12 : Fp [ct] H11 (upd H11 ct (.lst [.int c0, .int (c1 + 1 : Nat)])) := Fp.at_ (by simp)
              have nu : u1 ≠ ct := ne_of g11 hC11 (by intro z; cases z)
              refine .inr (.inr ⟨x, ys, u1, pl2, rfl, c, rfl, by rw [show (H11 : Hp) = H11 from rfl]; exact f12 _ _ g11 (by simp [nu]), W11.S.fp f12 (by simp [d.a5]) (by simp [d.b5]), W11.R.fp f12 (by simp [d.c5]) (by simp [d.d5]), f12 _ _ e11 (by simp [Ne.symm nd5]), upd_same, ?_⟩)
              have m9 := W11.S.ne
              simp [m9, d.a2, d.a3, d.a5, d.b2, d.b3, d.b5, d.c3, d.c5, d.d5, nd1, nd2, nd3, nd4, Ne.symm nd5]
            · walk_at "r"
              exact .inr (.inl ⟨x, ys, u1, rfl, c, rfl, g1, W10⟩)
        · rintro σ H3 (⟨rfl, u, rfl, gu, W⟩ | ⟨x, ys, u, rfl, c, rfl, gu, W⟩ | ⟨x, ys, u, pl2, rfl, c, rfl, gu, S3, R3, hp3, hc3, nd3⟩)
          · walk_at "r"
            refine a2 ⟨p, l, n, wr, tk, [], _, rfl, rfl, W.R, fun _ v H12 hv gv f12 => ?_, (fun _ _ z => by cases z), fun _ _ z => by cases z⟩
            walk_at "r"
            refine o_neT (xs := [.str "empty", .int 0]) (Or.inl (Or.inl gv)) (Or.inl (Or.inl (f12 _ _ gu (by simp)))) (by decide +kernel) ?_
            walk_at "r"
            refine iteF ?_
            walk_at "r"
            exact ⟨pl', wr, tk, c0, c1, [], _, _, _, rfl, W.fp f12⟩
          · walk_at "r"
            refine a2 ⟨p, l, n, wr, tk, x :: ys, _, rfl, rfl, W.R, (fun z => by cases z), fun x' ys' e hb v H12 hv gv f12 => ?_, fun _ _ _ z => absurd (of_decide_eq_true z) c⟩
            obtain ⟨rfl, rfl⟩ := List.cons.inj e
            walk_at "r"
            have hfx := W.fl x List.mem_cons_self
            refine o_neT (xs := [.str "value", x]) (Or.inl (Or.inl gv)) (Or.inl (Or.inl (f12 _ _ gu (by simp)))) (fun y hy => ?_) ?_
            · rcases List.mem_cons.mp hy with rfl | hy
              · decide +kernel
              · rw [List.mem_singleton.mp hy]; exact hfx
            walk_at "r"
            refine iteF ?_
            walk_at "r"
            exact ⟨pl', wr, tk, c0, c1, x :: ys, _, _, _, rfl, W.fp f12⟩
          · walk_at "r"
            refine a2 ⟨p, l, n, wr, tk, x :: ys, _, rfl, rfl, R3, (fun z => by cases z), (fun _ _ _ z => absurd c (of_decide_eq_false z)), fun x' ys' e hb v H12 hv gv R12 f12 => ?_⟩
            obtain ⟨rfl, rfl⟩ := List.cons.inj e
            walk_at "r"
            have nup : u ≠ p := by obtain ⟨⟨_, z⟩, _⟩ := R3; exact ne_of gu z (by intro z; cases z)
            have nul : u ≠ l := by obtain ⟨_, ⟨_, z, _⟩, _⟩ := R3; exact ne_of gu z (by intro z; cases z)
            have hfx := W9.fl x List.mem_cons_self
            refine o_neT (xs := [.str "value", x]) (Or.inl (Or.inl gv)) (Or.inl (Or.inl (f12 _ _ gu (by simp [nup, nul])))) (fun y hy => ?_) ?_
            · rcases List.mem_cons.mp hy with rfl | hy
              · decide +kernel
              · rw [List.mem_singleton.mp hy]; exact hfx
            walk_at "r"
            refine iteF ?_
            walk_at "r"
            have nd := nd3
            simp only [List.nodup_cons, List.mem_cons, List.not_mem_nil, or_false, not_or] at nd
            obtain ⟨⟨_, z2, z3, z4, z5⟩, ⟨y2, y3, y4, y5⟩, ⟨x3, x4, x5⟩, ⟨w4, w5⟩, v5, _⟩ := nd
            refine ⟨pl2, wr, _, c0, c1 + 1, ys, _, _, _, rfl, S3.fp f12 (by simp [z2, z3]) (by simp [y2, y3]), R12, f12 _ _ hp3 (by simp [Ne.symm x4, Ne.symm w4]), f12 _ _ hc3 (by simp [Ne.symm x5, Ne.symm w5]), nd3, fun y hy => W9.fl y (List.mem_cons_of_mem _ hy), W9.ew, ?_⟩
            rw [W9.et, Nat.mod_add_mod]
    · clear W
      rintro σ H3 ⟨pl2, wr, tk, c0, c1, xs, dv, rv, av, rfl, W⟩
      walk_at "r"
      refine a4 ⟨p, l, pl2, ct, n, wr, tk, c0, c1, xs, rfl, rfl, rfl, rfl, W.R, W.hp, W.fl, W.hc, W.ew, W.et, fun H8 f8 => ?_⟩
      walk_at "r"
      refine iteF ?_
      walk_at "r"
      exact ⟨pl2, wr, tk, c0, c1, xs, _, _, _, _, _, _, rfl, by omega, .inr ⟨tn, rfl⟩, W.fp f8⟩
  · rintro σ H' ⟨pl', wr, tk, c0, c1, xs, put, kv, tv, dv, rv, av, rfl, hput, htv, W⟩
    walk_at "r"
    exact k _
end
/-- the top's facts -/
theorem all_mk {l : PySem.W.OpenLaw} {w : World} {K : PySem.W.Frag} {h : Heap} {mg : Str → Option Value} {fa : Addr} (hl : l.prog = PySem.Challenge.pw_tickrings_k02_rings) (X : K.In h) (G : h.Ns mainGlobals mg) (hfa : mg "law" = some (.ref fa))
    {C_TickringsError C_RingError C_Ring : Addr} {f_RingError_init f_Ring_init f_Ring_held f_Ring_is_full f_Ring_put f_Ring_first f_Ring_take f_Ring_listed f_Ring_next f_law_state f_law_draw f_law_same f_law_put f_law_taken f_law : Addr}
    {oc_RingError_init : Value} {dc_RingError_init : Value} {pm_RingError_init : Value} {ct_RingError_init : Value} {kV_RingError_init : Value} {od_RingError_init : Option Addr} {an_RingError_init : Option Addr} {sl_RingError_init : Array (Option Value)} {nm_RingError : Str} {qn_RingError : Str} {N_RingError : Addr} {bs_RingError : List Value} {bm_RingError : List Value} {sub_RingError : List Value} {sn_RingError : List Str} {ab_RingError : Bool} {col_RingError : Option Bool} {dd_RingError : Option Addr} {k0_RingError k1_RingError k2_RingError k3_RingError k5_RingError : Option Value} {cda_RingError cc_RingError : Addr} {cl_RingError ccl_RingError : Value} {cld_RingError cdd_RingError : Option Addr} {csl_RingError ccs_RingError : Array (Option Value)} {vs_RingError : Array Value} {file_RingError : Str} {tf_RingError : Tok} {oc_Ring_init : Value} {dc_Ring_init : Value} {pm_Ring_init : Value} {cd_Ring_init : Value} {ct_Ring_init : Value} {kV_Ring_init : Value} {od_Ring_init : Option Addr} {an_Ring_init : Option Addr} {sl_Ring_init : Array (Option Value)} {oc_Ring_held : Value} {dc_Ring_held : Value} {pm_Ring_held : Value} {cd_Ring_held : Value} {ct_Ring_held : Value} {kV_Ring_held : Value} {od_Ring_held : Option Addr} {an_Ring_held : Option Addr} {sl_Ring_held : Array (Option Value)} {oc_Ring_is_full : Value} {dc_Ring_is_full : Value} {pm_Ring_is_full : Value} {cd_Ring_is_full : Value} {ct_Ring_is_full : Value} {kV_Ring_is_full : Value} {od_Ring_is_full : Option Addr} {an_Ring_is_full : Option Addr} {sl_Ring_is_full : Array (Option Value)} {oc_Ring_put : Value} {dc_Ring_put : Value} {pm_Ring_put : Value} {cd_Ring_put : Value} {ct_Ring_put : Value} {kV_Ring_put : Value} {od_Ring_put : Option Addr} {an_Ring_put : Option Addr} {sl_Ring_put : Array (Option Value)} {oc_Ring_first : Value} {dc_Ring_first : Value} {pm_Ring_first : Value} {cd_Ring_first : Value} {ct_Ring_first : Value} {kV_Ring_first : Value} {od_Ring_first : Option Addr} {an_Ring_first : Option Addr} {sl_Ring_first : Array (Option Value)} {oc_Ring_take : Value} {dc_Ring_take : Value} {pm_Ring_take : Value} {cd_Ring_take : Value} {ct_Ring_take : Value} {kV_Ring_take : Value} {od_Ring_take : Option Addr} {an_Ring_take : Option Addr} {sl_Ring_take : Array (Option Value)} {oc_Ring_listed : Value} {dc_Ring_listed : Value} {pm_Ring_listed : Value} {cd_Ring_listed : Value} {ct_Ring_listed : Value} {kV_Ring_listed : Value} {od_Ring_listed : Option Addr} {an_Ring_listed : Option Addr} {sl_Ring_listed : Array (Option Value)} {oc_Ring_next : Value} {dc_Ring_next : Value} {pm_Ring_next : Value} {cd_Ring_next : Value} {ct_Ring_next : Value} {kV_Ring_next : Value} {od_Ring_next : Option Addr} {an_Ring_next : Option Addr} {sl_Ring_next : Array (Option Value)} {oc_law_state : Value} {dc_law_state : Value} {pm_law_state : Value} {cd_law_state : Value} {ct_law_state : Value} {kV_law_state : Value} {od_law_state : Option Addr} {an_law_state : Option Addr} {sl_law_state : Array (Option Value)} {oc_law_draw : Value} {dc_law_draw : Value} {pm_law_draw : Value} {cd_law_draw : Value} {ct_law_draw : Value} {kV_law_draw : Value} {od_law_draw : Option Addr} {an_law_draw : Option Addr} {sl_law_draw : Array (Option Value)} {oc_law_same : Value} {dc_law_same : Value} {pm_law_same : Value} {cd_law_same : Value} {ct_law_same : Value} {kV_law_same : Value} {od_law_same : Option Addr} {an_law_same : Option Addr} {sl_law_same : Array (Option Value)} {oc_law_put : Value} {dc_law_put : Value} {pm_law_put : Value} {cd_law_put : Value} {ct_law_put : Value} {kV_law_put : Value} {od_law_put : Option Addr} {an_law_put : Option Addr} {sl_law_put : Array (Option Value)} {oc_law_taken : Value} {dc_law_taken : Value} {pm_law_taken : Value} {cd_law_taken : Value} {ct_law_taken : Value} {kV_law_taken : Value} {od_law_taken : Option Addr} {an_law_taken : Option Addr} {sl_law_taken : Array (Option Value)} {oc_law : Value} {dc_law : Value} {pm_law : Value} {cd_law : Value} {ct_law : Value} {kV_law : Value} {od_law : Option Addr} {an_law : Option Addr} {sl_law : Array (Option Value)}
    (gC_TickringsError : PySem.W.nsIn K mainGlobals "TickringsError" = some (some (.ref C_TickringsError)))
    (gC_RingError : PySem.W.nsIn K mainGlobals "RingError" = some (some (.ref C_RingError)))
    (gC_Ring : PySem.W.nsIn K mainGlobals "Ring" = some (some (.ref C_Ring)))
    (x_RingError : K.lookup C_RingError = some (excClassObj nm_RingError qn_RingError C_RingError N_RingError bs_RingError bm_RingError true sn_RingError sub_RingError ab_RingError col_RingError dd_RingError k0_RingError k1_RingError k2_RingError k3_RingError k5_RingError "ValueError.__new__"))
    (hbm_RingError : PySem.HandSPX.refsVE bm_RingError = true)
    (sa_RingError : PySem.W.findIn K (.ref C_RingError) "__setattr__" = some (some (.builtin "object.__setattr__")))
    (ex_RingError : PySem.W.subIn K (.ref C_RingError) (.type "BaseException") = some true)
    (ty_RingError : PySem.W.typeIn K (.ref C_RingError) = some (.type "type"))
    (kp_RingError : PySem.W.keepIn K (.ref C_RingError) = true)
    (su_RingError : PySem.W.ks_superIn K C_RingError C_RingError "__init__" = some (some (.builtin "ValueError.__init__")))
    (ve_RingError : PySem.W.subIn K (.ref C_RingError) (.type "ValueError") = some true)
    (op_RingError : PySem.W.nsIn K cStatics "thirdparty.any" = some none)
    (sm_RingError : PySem.W.mroIn K C_RingError (.ref C_RingError) = some true)
    (ic_RingError : PySem.W.findIn K (.ref C_RingError) "__init__" = some (some (.ref f_RingError_init)))
    (ti_RingError : PySem.W.typeIn K (.ref f_RingError_init) = some (.type "function"))
    (l_RingError_init : K.lookup f_RingError_init = some ⟨oc_RingError_init, od_RingError_init, .func (PySem.W.fnX "__init__" "RingError.__init__" (defArgs s_RingError_init) (defBody s_RingError_init) (defScope s_RingError_init) [("__class__", cc_RingError)] .none kV_RingError_init dc_RingError_init pm_RingError_init an_RingError_init (.ref cda_RingError) ct_RingError_init), sl_RingError_init⟩)
    (c_RingError_init : PySem.W.codeIn K (.ref cda_RingError) "RingError.__init__" = true)
    (ce_RingError : K.lookup cc_RingError = some ⟨cl_RingError, cld_RingError, .cell (some (.ref C_RingError)), csl_RingError⟩)
    (co_RingError : K.lookup cda_RingError = some ⟨ccl_RingError, cdd_RingError, .fields vs_RingError, ccs_RingError⟩)
    (cv_RingError : vs_RingError[2]? = some (.str file_RingError tf_RingError))
    (cf_RingError : ((PySem.Challenge.pw_tickrings_k02_rings.main.file : Str) == file_RingError) = true)
    (no_RingError : PySem.W.findIn K (.ref C_RingError) "held" = some none)
    (ga_RingError : PySem.W.findIn K (.ref C_RingError) "__getattribute__" = some (some (.builtin "BaseException.__getattribute__")))
    (gg_RingError : PySem.W.findIn K (.ref C_RingError) "__getattr__" = some none)
    (hd_RingError : PySem.W.hasDictIn K C_RingError = true)
    (ha_RingError : PySem.W.findIn K (.ref C_RingError) "__class__" = some (some (.builtin "object.__class__")))
    (hn_RingError : PySem.W.specialIn K (.builtin "object.__class__") "__get__" = some (some (.builtin "getset_descriptor.__get__")))
    (ht_RingError : PySem.W.takesIn K (.builtin "object.__class__") = some true)
    (hm_RingError : PySem.W.mroIn K C_RingError (.type "object") = some true)
    (ow_RingError : PySem.W.subIn K (.ref C_RingError) (.ref C_RingError) = some true)
    (a_Ring_init : PySem.W.findIn K (.ref C_Ring) "__init__" = some (some (.ref f_Ring_init)))
    (i_Ring_init : PySem.W.isFn K (.ref f_Ring_init) = true)
    (l_Ring_init : K.lookup f_Ring_init = some ⟨oc_Ring_init, od_Ring_init, .func (PySem.W.fnOf "__init__" "Ring.__init__" (defArgs s_Ring_init) (defBody s_Ring_init) (defScope s_Ring_init) .none kV_Ring_init dc_Ring_init pm_Ring_init an_Ring_init cd_Ring_init ct_Ring_init), sl_Ring_init⟩)
    (c_Ring_init : PySem.W.codeIn K cd_Ring_init "Ring.__init__" = true)
    (k_Ring_init : PySem.W.keepIn K (.ref f_Ring_init) = true)
    (a_Ring_held : PySem.W.findIn K (.ref C_Ring) "held" = some (some (.ref f_Ring_held)))
    (i_Ring_held : PySem.W.isFn K (.ref f_Ring_held) = true)
    (l_Ring_held : K.lookup f_Ring_held = some ⟨oc_Ring_held, od_Ring_held, .func (PySem.W.fnOf "held" "Ring.held" (defArgs s_Ring_held) (defBody s_Ring_held) (defScope s_Ring_held) .none kV_Ring_held dc_Ring_held pm_Ring_held an_Ring_held cd_Ring_held ct_Ring_held), sl_Ring_held⟩)
    (c_Ring_held : PySem.W.codeIn K cd_Ring_held "Ring.held" = true)
    (k_Ring_held : PySem.W.keepIn K (.ref f_Ring_held) = true)
    (a_Ring_is_full : PySem.W.findIn K (.ref C_Ring) "is_full" = some (some (.ref f_Ring_is_full)))
    (i_Ring_is_full : PySem.W.isFn K (.ref f_Ring_is_full) = true)
    (l_Ring_is_full : K.lookup f_Ring_is_full = some ⟨oc_Ring_is_full, od_Ring_is_full, .func (PySem.W.fnOf "is_full" "Ring.is_full" (defArgs s_Ring_is_full) (defBody s_Ring_is_full) (defScope s_Ring_is_full) .none kV_Ring_is_full dc_Ring_is_full pm_Ring_is_full an_Ring_is_full cd_Ring_is_full ct_Ring_is_full), sl_Ring_is_full⟩)
    (c_Ring_is_full : PySem.W.codeIn K cd_Ring_is_full "Ring.is_full" = true)
    (k_Ring_is_full : PySem.W.keepIn K (.ref f_Ring_is_full) = true)
    (a_Ring_put : PySem.W.findIn K (.ref C_Ring) "put" = some (some (.ref f_Ring_put)))
    (i_Ring_put : PySem.W.isFn K (.ref f_Ring_put) = true)
    (l_Ring_put : K.lookup f_Ring_put = some ⟨oc_Ring_put, od_Ring_put, .func (PySem.W.fnOf "put" "Ring.put" (defArgs s_Ring_put) (defBody s_Ring_put) (defScope s_Ring_put) .none kV_Ring_put dc_Ring_put pm_Ring_put an_Ring_put cd_Ring_put ct_Ring_put), sl_Ring_put⟩)
    (c_Ring_put : PySem.W.codeIn K cd_Ring_put "Ring.put" = true)
    (k_Ring_put : PySem.W.keepIn K (.ref f_Ring_put) = true)
    (a_Ring_first : PySem.W.findIn K (.ref C_Ring) "first" = some (some (.ref f_Ring_first)))
    (i_Ring_first : PySem.W.isFn K (.ref f_Ring_first) = true)
    (l_Ring_first : K.lookup f_Ring_first = some ⟨oc_Ring_first, od_Ring_first, .func (PySem.W.fnOf "first" "Ring.first" (defArgs s_Ring_first) (defBody s_Ring_first) (defScope s_Ring_first) .none kV_Ring_first dc_Ring_first pm_Ring_first an_Ring_first cd_Ring_first ct_Ring_first), sl_Ring_first⟩)
    (c_Ring_first : PySem.W.codeIn K cd_Ring_first "Ring.first" = true)
    (k_Ring_first : PySem.W.keepIn K (.ref f_Ring_first) = true)
    (a_Ring_take : PySem.W.findIn K (.ref C_Ring) "take" = some (some (.ref f_Ring_take)))
    (i_Ring_take : PySem.W.isFn K (.ref f_Ring_take) = true)
    (l_Ring_take : K.lookup f_Ring_take = some ⟨oc_Ring_take, od_Ring_take, .func (PySem.W.fnOf "take" "Ring.take" (defArgs s_Ring_take) (defBody s_Ring_take) (defScope s_Ring_take) .none kV_Ring_take dc_Ring_take pm_Ring_take an_Ring_take cd_Ring_take ct_Ring_take), sl_Ring_take⟩)
    (c_Ring_take : PySem.W.codeIn K cd_Ring_take "Ring.take" = true)
    (k_Ring_take : PySem.W.keepIn K (.ref f_Ring_take) = true)
    (a_Ring_listed : PySem.W.findIn K (.ref C_Ring) "listed" = some (some (.ref f_Ring_listed)))
    (i_Ring_listed : PySem.W.isFn K (.ref f_Ring_listed) = true)
    (l_Ring_listed : K.lookup f_Ring_listed = some ⟨oc_Ring_listed, od_Ring_listed, .func (PySem.W.fnOf "listed" "Ring.listed" (defArgs s_Ring_listed) (defBody s_Ring_listed) (defScope s_Ring_listed) .none kV_Ring_listed dc_Ring_listed pm_Ring_listed an_Ring_listed cd_Ring_listed ct_Ring_listed), sl_Ring_listed⟩)
    (c_Ring_listed : PySem.W.codeIn K cd_Ring_listed "Ring.listed" = true)
    (k_Ring_listed : PySem.W.keepIn K (.ref f_Ring_listed) = true)
    (a_Ring_next : PySem.W.findIn K (.ref C_Ring) "_next" = some (some (.ref f_Ring_next)))
    (i_Ring_next : PySem.W.isFn K (.ref f_Ring_next) = true)
    (l_Ring_next : K.lookup f_Ring_next = some ⟨oc_Ring_next, od_Ring_next, .func (PySem.W.fnOf "_next" "Ring._next" (defArgs s_Ring_next) (defBody s_Ring_next) (defScope s_Ring_next) .none kV_Ring_next dc_Ring_next pm_Ring_next an_Ring_next cd_Ring_next ct_Ring_next), sl_Ring_next⟩)
    (c_Ring_next : PySem.W.codeIn K cd_Ring_next "Ring._next" = true)
    (k_Ring_next : PySem.W.keepIn K (.ref f_Ring_next) = true)
    (a_law_state : PySem.W.nsIn K mainGlobals "_law_state" = some (some (.ref f_law_state)))
    (l_law_state : K.lookup f_law_state = some ⟨oc_law_state, od_law_state, .func (PySem.W.fnOf "_law_state" "_law_state" (defArgs s_law_state) (defBody s_law_state) (defScope s_law_state) .none kV_law_state dc_law_state pm_law_state an_law_state cd_law_state ct_law_state), sl_law_state⟩)
    (c_law_state : PySem.W.codeIn K cd_law_state "_law_state" = true)
    (k_law_state : PySem.W.keepIn K (.ref f_law_state) = true)
    (a_law_draw : PySem.W.nsIn K mainGlobals "_law_draw" = some (some (.ref f_law_draw)))
    (l_law_draw : K.lookup f_law_draw = some ⟨oc_law_draw, od_law_draw, .func (PySem.W.fnOf "_law_draw" "_law_draw" (defArgs s_law_draw) (defBody s_law_draw) (defScope s_law_draw) .none kV_law_draw dc_law_draw pm_law_draw an_law_draw cd_law_draw ct_law_draw), sl_law_draw⟩)
    (c_law_draw : PySem.W.codeIn K cd_law_draw "_law_draw" = true)
    (k_law_draw : PySem.W.keepIn K (.ref f_law_draw) = true)
    (a_law_same : PySem.W.nsIn K mainGlobals "_law_same" = some (some (.ref f_law_same)))
    (l_law_same : K.lookup f_law_same = some ⟨oc_law_same, od_law_same, .func (PySem.W.fnOf "_law_same" "_law_same" (defArgs s_law_same) (defBody s_law_same) (defScope s_law_same) .none kV_law_same dc_law_same pm_law_same an_law_same cd_law_same ct_law_same), sl_law_same⟩)
    (c_law_same : PySem.W.codeIn K cd_law_same "_law_same" = true)
    (k_law_same : PySem.W.keepIn K (.ref f_law_same) = true)
    (a_law_put : PySem.W.nsIn K mainGlobals "_law_put" = some (some (.ref f_law_put)))
    (l_law_put : K.lookup f_law_put = some ⟨oc_law_put, od_law_put, .func (PySem.W.fnOf "_law_put" "_law_put" (defArgs s_law_put) (defBody s_law_put) (defScope s_law_put) .none kV_law_put dc_law_put pm_law_put an_law_put cd_law_put ct_law_put), sl_law_put⟩)
    (c_law_put : PySem.W.codeIn K cd_law_put "_law_put" = true)
    (k_law_put : PySem.W.keepIn K (.ref f_law_put) = true)
    (a_law_taken : PySem.W.nsIn K mainGlobals "_law_taken" = some (some (.ref f_law_taken)))
    (l_law_taken : K.lookup f_law_taken = some ⟨oc_law_taken, od_law_taken, .func (PySem.W.fnOf "_law_taken" "_law_taken" (defArgs s_law_taken) (defBody s_law_taken) (defScope s_law_taken) .none kV_law_taken dc_law_taken pm_law_taken an_law_taken cd_law_taken ct_law_taken), sl_law_taken⟩)
    (c_law_taken : PySem.W.codeIn K cd_law_taken "_law_taken" = true)
    (k_law_taken : PySem.W.keepIn K (.ref f_law_taken) = true)
    (a_law : PySem.W.nsIn K mainGlobals "law" = some (some (.ref f_law)))
    (l_law : K.lookup f_law = some ⟨oc_law, od_law, .func (PySem.W.fnOf "law" "law" (defArgs s_law) (defBody s_law) (defScope s_law) .none kV_law dc_law pm_law an_law cd_law ct_law), sl_law⟩)
    (c_law : PySem.W.codeIn K cd_law "law" = true)
    (k_law : PySem.W.keepIn K (.ref f_law) = true)
    (pg_Ring : PySem.W.plainGet K C_Ring Str.empty = true)
    (hd_Ring : PySem.W.hasDictIn K C_Ring = true)
    (po_Ring : PySem.W.plainOver K C_Ring = true)
    (sa_Ring : PySem.W.findIn K (.ref C_Ring) "__setattr__" = some (some (.builtin "object.__setattr__")))
    (mk_Ring : PySem.W.makesIn K C_Ring = true)
    (kc_Ring : PySem.W.keepIn K (.ref C_Ring) = true)
    (n_Ring_cells : PySem.W.findIn K (.ref C_Ring) "_cells" = some none)
    (n_Ring_written : PySem.W.findIn K (.ref C_Ring) "written" = some none)
    (n_Ring_taken : PySem.W.findIn K (.ref C_Ring) "taken" = some none)
    (z_abs : PySem.W.nsIn K mainGlobals "abs" = some none)
    (z_bool : PySem.W.nsIn K mainGlobals "bool" = some none)
    (z_int : PySem.W.nsIn K mainGlobals "int" = some none)
    (z_isinstance : PySem.W.nsIn K mainGlobals "isinstance" = some none)
    (z_len : PySem.W.nsIn K mainGlobals "len" = some none)
    (z_range : PySem.W.nsIn K mainGlobals "range" = some none)
    (z_super : PySem.W.nsIn K mainGlobals "super" = some none)
    (is_RingError_TickringsError : PySem.W.kitOne K (.ref C_RingError) (.ref C_TickringsError) = some true)
    : ∃ fd : FuncData, (∀ (s : Shared) (v : Value), BindsTo s fd ⟨[v], []⟩ [("script", v)]) ∧ ∀ base : Heap, K.In base → base.Ns mainGlobals mg → FnOk l.prog w K mg base (L2.CX l.prog w) 6 fa fd ["script"] (sp_law0 K) := by
  have e : f_law = fa := by
    have z := hfa.symm.trans (PySem.W.mg_of X G a_law)
    cases z
    rfl
  subst e
  have F_Ring_init := fun_mk (st := s_Ring_init) l_Ring_init c_Ring_init k_Ring_init
  have b_Ring_init := F_Ring_init.binds (ps := ["self", "cells"]) fun _ _ _ _ _ _ us hl => match us, hl with | [_, _], _ => rfl
  have F_Ring_held := fun_mk (st := s_Ring_held) l_Ring_held c_Ring_held k_Ring_held
  have b_Ring_held := F_Ring_held.binds (ps := ["self"]) fun _ _ _ _ _ _ us hl => match us, hl with | [_], _ => rfl
  have F_Ring_is_full := fun_mk (st := s_Ring_is_full) l_Ring_is_full c_Ring_is_full k_Ring_is_full
  have b_Ring_is_full := F_Ring_is_full.binds (ps := ["self"]) fun _ _ _ _ _ _ us hl => match us, hl with | [_], _ => rfl
  have F_Ring_put := fun_mk (st := s_Ring_put) l_Ring_put c_Ring_put k_Ring_put
  have b_Ring_put := F_Ring_put.binds (ps := ["self", "value"]) fun _ _ _ _ _ _ us hl => match us, hl with | [_, _], _ => rfl
  have F_Ring_first := fun_mk (st := s_Ring_first) l_Ring_first c_Ring_first k_Ring_first
  have b_Ring_first := F_Ring_first.binds (ps := ["self"]) fun _ _ _ _ _ _ us hl => match us, hl with | [_], _ => rfl
  have F_Ring_take := fun_mk (st := s_Ring_take) l_Ring_take c_Ring_take k_Ring_take
  have b_Ring_take := F_Ring_take.binds (ps := ["self"]) fun _ _ _ _ _ _ us hl => match us, hl with | [_], _ => rfl
  have F_Ring_listed := fun_mk (st := s_Ring_listed) l_Ring_listed c_Ring_listed k_Ring_listed
  have b_Ring_listed := F_Ring_listed.binds (ps := ["self"]) fun _ _ _ _ _ _ us hl => match us, hl with | [_], _ => rfl
  have F_Ring_next := fun_mk (st := s_Ring_next) l_Ring_next c_Ring_next k_Ring_next
  have b_Ring_next := F_Ring_next.binds (ps := ["self", "counter"]) fun _ _ _ _ _ _ us hl => match us, hl with | [_, _], _ => rfl
  have F_law_state := fun_mk (st := s_law_state) l_law_state c_law_state k_law_state
  have b_law_state := F_law_state.binds (ps := ["script"]) fun _ _ _ _ _ _ us hl => match us, hl with | [_], _ => rfl
  have F_law_draw := fun_mk (st := s_law_draw) l_law_draw c_law_draw k_law_draw
  have b_law_draw := F_law_draw.binds (ps := ["state", "many"]) fun _ _ _ _ _ _ us hl => match us, hl with | [_, _], _ => rfl
  have F_law_same := fun_mk (st := s_law_same) l_law_same c_law_same k_law_same
  have b_law_same := F_law_same.binds (ps := ["ring", "plain", "cells", "counts"]) fun _ _ _ _ _ _ us hl => match us, hl with | [_, _, _, _], _ => rfl
  have F_law_put := fun_mk (st := s_law_put) l_law_put c_law_put k_law_put
  have b_law_put := F_law_put.binds (ps := ["ring", "value"]) fun _ _ _ _ _ _ us hl => match us, hl with | [_, _], _ => rfl
  have F_law_taken := fun_mk (st := s_law_taken) l_law_taken c_law_taken k_law_taken
  have b_law_taken := F_law_taken.binds (ps := ["ring", "remove"]) fun _ _ _ _ _ _ us hl => match us, hl with | [_, _], _ => rfl
  have F_law := fun_mk (st := s_law) l_law c_law k_law
  have b_law := F_law.binds (ps := ["script"]) fun _ _ _ _ _ _ us hl => match us, hl with | [_], _ => rfl
  let a : Ads := { C_TickringsError := C_TickringsError, C_RingError := C_RingError, C_Ring := C_Ring, f_RingError_init := f_RingError_init, f_Ring_init := f_Ring_init, f_Ring_held := f_Ring_held, f_Ring_is_full := f_Ring_is_full, f_Ring_put := f_Ring_put, f_Ring_first := f_Ring_first, f_Ring_take := f_Ring_take, f_Ring_listed := f_Ring_listed, f_Ring_next := f_Ring_next, f_law_state := f_law_state, f_law_draw := f_law_draw, f_law_same := f_law_same, f_law_put := f_law_put, f_law_taken := f_law_taken, f_law := f_law, fd_RingError_init := (PySem.W.fnX "__init__" "RingError.__init__" (defArgs s_RingError_init) (defBody s_RingError_init) (defScope s_RingError_init) [("__class__", cc_RingError)] .none kV_RingError_init dc_RingError_init pm_RingError_init an_RingError_init (.ref cda_RingError) ct_RingError_init), fd_Ring_init := (PySem.W.fnOf "__init__" "Ring.__init__" (defArgs s_Ring_init) (defBody s_Ring_init) (defScope s_Ring_init) .none kV_Ring_init dc_Ring_init pm_Ring_init an_Ring_init cd_Ring_init ct_Ring_init), fd_Ring_held := (PySem.W.fnOf "held" "Ring.held" (defArgs s_Ring_held) (defBody s_Ring_held) (defScope s_Ring_held) .none kV_Ring_held dc_Ring_held pm_Ring_held an_Ring_held cd_Ring_held ct_Ring_held), fd_Ring_is_full := (PySem.W.fnOf "is_full" "Ring.is_full" (defArgs s_Ring_is_full) (defBody s_Ring_is_full) (defScope s_Ring_is_full) .none kV_Ring_is_full dc_Ring_is_full pm_Ring_is_full an_Ring_is_full cd_Ring_is_full ct_Ring_is_full), fd_Ring_put := (PySem.W.fnOf "put" "Ring.put" (defArgs s_Ring_put) (defBody s_Ring_put) (defScope s_Ring_put) .none kV_Ring_put dc_Ring_put pm_Ring_put an_Ring_put cd_Ring_put ct_Ring_put), fd_Ring_first := (PySem.W.fnOf "first" "Ring.first" (defArgs s_Ring_first) (defBody s_Ring_first) (defScope s_Ring_first) .none kV_Ring_first dc_Ring_first pm_Ring_first an_Ring_first cd_Ring_first ct_Ring_first), fd_Ring_take := (PySem.W.fnOf "take" "Ring.take" (defArgs s_Ring_take) (defBody s_Ring_take) (defScope s_Ring_take) .none kV_Ring_take dc_Ring_take pm_Ring_take an_Ring_take cd_Ring_take ct_Ring_take), fd_Ring_listed := (PySem.W.fnOf "listed" "Ring.listed" (defArgs s_Ring_listed) (defBody s_Ring_listed) (defScope s_Ring_listed) .none kV_Ring_listed dc_Ring_listed pm_Ring_listed an_Ring_listed cd_Ring_listed ct_Ring_listed), fd_Ring_next := (PySem.W.fnOf "_next" "Ring._next" (defArgs s_Ring_next) (defBody s_Ring_next) (defScope s_Ring_next) .none kV_Ring_next dc_Ring_next pm_Ring_next an_Ring_next cd_Ring_next ct_Ring_next), fd_law_state := (PySem.W.fnOf "_law_state" "_law_state" (defArgs s_law_state) (defBody s_law_state) (defScope s_law_state) .none kV_law_state dc_law_state pm_law_state an_law_state cd_law_state ct_law_state), fd_law_draw := (PySem.W.fnOf "_law_draw" "_law_draw" (defArgs s_law_draw) (defBody s_law_draw) (defScope s_law_draw) .none kV_law_draw dc_law_draw pm_law_draw an_law_draw cd_law_draw ct_law_draw), fd_law_same := (PySem.W.fnOf "_law_same" "_law_same" (defArgs s_law_same) (defBody s_law_same) (defScope s_law_same) .none kV_law_same dc_law_same pm_law_same an_law_same cd_law_same ct_law_same), fd_law_put := (PySem.W.fnOf "_law_put" "_law_put" (defArgs s_law_put) (defBody s_law_put) (defScope s_law_put) .none kV_law_put dc_law_put pm_law_put an_law_put cd_law_put ct_law_put), fd_law_taken := (PySem.W.fnOf "_law_taken" "_law_taken" (defArgs s_law_taken) (defBody s_law_taken) (defScope s_law_taken) .none kV_law_taken dc_law_taken pm_law_taken an_law_taken cd_law_taken ct_law_taken), fd_law := (PySem.W.fnOf "law" "law" (defArgs s_law) (defBody s_law) (defScope s_law) .none kV_law dc_law pm_law an_law cd_law ct_law) }
  refine ⟨a.fd_law, fun s v => .of_eq rfl, fun base hKb hGb => ?_⟩
  have E_RingError : ErrC l.prog K mg C_RingError := ⟨⟨⟨nm_RingError, qn_RingError, N_RingError, bs_RingError, bm_RingError, sn_RingError, sub_RingError, ab_RingError, col_RingError, dd_RingError, k0_RingError, k1_RingError, k2_RingError, k3_RingError, k5_RingError, x_RingError, hbm_RingError⟩, sa_RingError, ex_RingError, ty_RingError, kp_RingError⟩, su_RingError, ve_RingError, op_RingError, sm_RingError, PySem.W.mg_none_of X G z_super, by rw [hl]; decide +kernel⟩
  have J_RingError : ErrI l.prog K C_RingError cc_RingError cda_RingError f_RingError_init "__init__" "RingError.__init__" (defArgs s_RingError_init) (defBody s_RingError_init) (defScope s_RingError_init) a.fd_RingError_init := ⟨⟨_, _, _, _, _, _, _, _, _, rfl, l_RingError_init⟩, c_RingError_init, ⟨_, _, _, ce_RingError⟩, ⟨_, _, _, _, _, _, co_RingError, cv_RingError, by rw [hl]; exact cf_RingError⟩⟩
  have O_RingError : FnOk l.prog w K mg base CX0 1 f_RingError_init a.fd_RingError_init ["self", "held"] (spErr C_RingError "held") :=
    okErr E_RingError no_RingError J_RingError sc_RingError_init rfl rfl (by decide +kernel) (by decide +kernel) (by decide +kernel) (fun _ => rfl) (fun _ => rfl) (fun _ => rfl) (fun _ => rfl) (fun X hN hv => (pe_joined (.cons pe_str (.cons (pe_fmt (pv 1 hN hv)) (.cons pe_str .nil))))) (te3 (by decide +kernel) (by decide +kernel))
  have B_RingError : Binds K a.fd_RingError_init ["self", "held"] [] := .all fun us hl => match us, hl with | [_, _], _ => rfl
  have K_RingError : EK l.prog w K mg base "RingError" "held" C_RingError f_RingError_init a.fd_RingError_init ["self", "held"] := ⟨E_RingError, PySem.W.mg_of X G gC_RingError, ic_RingError, ti_RingError, O_RingError, B_RingError, no_RingError, ⟨ga_RingError, gg_RingError, ex_RingError, hd_RingError⟩, ⟨ga_RingError, gg_RingError, ex_RingError, hd_RingError, ha_RingError, hn_RingError, ht_RingError, hm_RingError⟩, ow_RingError⟩
  have T : Txt l.prog w K mg base a := {
    g_abs := PySem.W.mg_none_of X G z_abs,
    g_bool := PySem.W.mg_none_of X G z_bool,
    g_int := PySem.W.mg_none_of X G z_int,
    g_isinstance := PySem.W.mg_none_of X G z_isinstance,
    g_len := PySem.W.mg_none_of X G z_len,
    g_range := PySem.W.mg_none_of X G z_range,
    F_Ring_init := F_Ring_init,
    b_Ring_init := b_Ring_init,
    mk_Ring := ⟨mk_Ring, a_Ring_init, i_Ring_init, kc_Ring⟩,
    F_Ring_held := F_Ring_held,
    b_Ring_held := b_Ring_held,
    m_Ring_held := ⟨a_Ring_held, i_Ring_held, k_Ring_held⟩,
    F_Ring_is_full := F_Ring_is_full,
    b_Ring_is_full := b_Ring_is_full,
    m_Ring_is_full := ⟨a_Ring_is_full, i_Ring_is_full, k_Ring_is_full⟩,
    F_Ring_put := F_Ring_put,
    b_Ring_put := b_Ring_put,
    m_Ring_put := ⟨a_Ring_put, i_Ring_put, k_Ring_put⟩,
    F_Ring_first := F_Ring_first,
    b_Ring_first := b_Ring_first,
    m_Ring_first := ⟨a_Ring_first, i_Ring_first, k_Ring_first⟩,
    F_Ring_take := F_Ring_take,
    b_Ring_take := b_Ring_take,
    m_Ring_take := ⟨a_Ring_take, i_Ring_take, k_Ring_take⟩,
    F_Ring_listed := F_Ring_listed,
    b_Ring_listed := b_Ring_listed,
    m_Ring_listed := ⟨a_Ring_listed, i_Ring_listed, k_Ring_listed⟩,
    F_Ring_next := F_Ring_next,
    b_Ring_next := b_Ring_next,
    m_Ring_next := ⟨a_Ring_next, i_Ring_next, k_Ring_next⟩,
    F_law_state := F_law_state,
    b_law_state := b_law_state,
    g_law_state := PySem.W.mg_of X G a_law_state,
    F_law_draw := F_law_draw,
    b_law_draw := b_law_draw,
    g_law_draw := PySem.W.mg_of X G a_law_draw,
    F_law_same := F_law_same,
    b_law_same := b_law_same,
    g_law_same := PySem.W.mg_of X G a_law_same,
    F_law_put := F_law_put,
    b_law_put := b_law_put,
    g_law_put := PySem.W.mg_of X G a_law_put,
    F_law_taken := F_law_taken,
    b_law_taken := b_law_taken,
    g_law_taken := PySem.W.mg_of X G a_law_taken,
    F_law := F_law,
    b_law := b_law,
    g_law := PySem.W.mg_of X G a_law,
    g_TickringsError := PySem.W.mg_of X G gC_TickringsError,
    g_RingError := PySem.W.mg_of X G gC_RingError,
    g_Ring := PySem.W.mg_of X G gC_Ring,
    cl_Ring := ⟨pg_Ring, hd_Ring, po_Ring, sa_Ring⟩,
    n_Ring_cells := n_Ring_cells,
    n_Ring_written := n_Ring_written,
    n_Ring_taken := n_Ring_taken,
    e_RingError := K_RingError,
    is_RingError_TickringsError := is_RingError_TickringsError }
  exact FnOk.imp (ok_law T) fun vs H Q E h => h
theorem walk {l : PySem.W.OpenLaw} {q : Program} {loose : List Str} {XP : (Str → Option Value) → Heap → Prop} {YP : World → Heap → Prop} {d : DefRec} {K : Params → PySem.W.Frag} (hn : l.most = some 63) (hdf : d.params.defaults = [])
    (hY : ∀ (w : World) (h : Heap), YP w h → (K w.params).In h)
    (F : ∀ (w : World) (mg : Str → Option Value) (fa : Addr) (h : Heap), (K w.params).In h → h.Ns mainGlobals mg → mg d.name = some (.ref fa) → ∃ fd : FuncData, (∀ (s : Shared) (u : Value), BindsTo s fd ⟨[u], []⟩ [("script", u)]) ∧
      ∀ base : Heap, (K w.params).In base → base.Ns mainGlobals mg → FnOk l.prog w (K w.params) mg base (L2.CX l.prog w) 6 fa fd ["script"] (sp_law0 (K w.params))) :
    PySem.W.WalkO q loose XP YP l.row.toRowW d [] (fun f vs => PySem.call f vs) :=
  L2.walk_of (n := 63) (k := 6) (x := "script") (CX := fun w => L2.CX l.prog w) (sp := fun w => sp_law0 (K w.params)) hn (by decide) hdf ⟨rfl, by decide, by decide⟩ hY F (fun _ _ b ns hl _ hS => a1 ⟨b, ns, rfl, hS, hl, fun _ => rfl⟩) fun _ _ _ _ _ ⟨_, _, _, _, _, _, _, _, _, _, _, _, z⟩ => z
end My
open PySem PySem.W PyProof.Rows
set_option maxRecDepth 100000 in
set_option maxHeartbeats 0 in
theorem PySem.Challenge.cw_tickrings_k02_rings_holds : PySem.Challenge.rw_tickrings_k02_rings.Holds := by
  w_on; o_law; k_head; (case hw => w_witness2)
  k_fill
  refine My.walk (l := PySem.Challenge.rw_tickrings_k02_rings) rfl rfl (fun w h Y => PySem.W.kIn_of Y) ?F
  case F =>
    intro w mg fa h KX G hmg
    refine' My.all_mk rfl KX G hmg ?hgC_TickringsError ?hgC_RingError ?hgC_Ring ?hx_RingError ?hhbm_RingError ?hsa_RingError ?hex_RingError ?hty_RingError ?hkp_RingError ?hsu_RingError ?hve_RingError ?hop_RingError ?hsm_RingError ?hic_RingError ?hti_RingError ?hl_RingError_init ?hc_RingError_init ?hce_RingError ?hco_RingError ?hcv_RingError ?hcf_RingError ?hno_RingError ?hga_RingError ?hgg_RingError ?hhd_RingError ?hha_RingError ?hhn_RingError ?hht_RingError ?hhm_RingError ?how_RingError ?ha_Ring_init ?hi_Ring_init ?hl_Ring_init ?hc_Ring_init ?hk_Ring_init ?ha_Ring_held ?hi_Ring_held ?hl_Ring_held ?hc_Ring_held ?hk_Ring_held ?ha_Ring_is_full ?hi_Ring_is_full ?hl_Ring_is_full ?hc_Ring_is_full ?hk_Ring_is_full ?ha_Ring_put ?hi_Ring_put ?hl_Ring_put ?hc_Ring_put ?hk_Ring_put ?ha_Ring_first ?hi_Ring_first ?hl_Ring_first ?hc_Ring_first ?hk_Ring_first ?ha_Ring_take ?hi_Ring_take ?hl_Ring_take ?hc_Ring_take ?hk_Ring_take ?ha_Ring_listed ?hi_Ring_listed ?hl_Ring_listed ?hc_Ring_listed ?hk_Ring_listed ?ha_Ring_next ?hi_Ring_next ?hl_Ring_next ?hc_Ring_next ?hk_Ring_next ?ha_law_state ?hl_law_state ?hc_law_state ?hk_law_state ?ha_law_draw ?hl_law_draw ?hc_law_draw ?hk_law_draw ?ha_law_same ?hl_law_same ?hc_law_same ?hk_law_same ?ha_law_put ?hl_law_put ?hc_law_put ?hk_law_put ?ha_law_taken ?hl_law_taken ?hc_law_taken ?hk_law_taken ?ha_law ?hl_law ?hc_law ?hk_law ?hpg_Ring ?hhd_Ring ?hpo_Ring ?hsa_Ring ?hmk_Ring ?hkc_Ring ?hn_Ring_cells ?hn_Ring_written ?hn_Ring_taken ?hz_abs ?hz_bool ?hz_int ?hz_isinstance ?hz_len ?hz_range ?hz_super ?his_RingError_TickringsError
    (case hgC_TickringsError => k_is)
    (case hgC_RingError => k_is)
    (case hgC_Ring => k_is)
    (case hx_RingError => k_is)
    (case hhbm_RingError => first | rfl | decide +kernel)
    (case hsa_RingError => k_is)
    (case hex_RingError => k_is)
    (case hty_RingError => k_is)
    (case hkp_RingError => k_is)
    (case hsu_RingError => ks_is)
    (case hve_RingError => k_is)
    (case hop_RingError => k_is)
    (case hsm_RingError => k_is)
    (case hic_RingError => k_is)
    (case hti_RingError => k_is)
    (case hl_RingError_init => k_is)
    (case hc_RingError_init => k_is)
    (case hce_RingError => k_is)
    (case hco_RingError => k_is)
    (case hcv_RingError => exact rfl)
    (case hcf_RingError => first | rfl | decide +kernel)
    (case hno_RingError => k_is)
    (case hga_RingError => k_is)
    (case hgg_RingError => k_is)
    (case hhd_RingError => k_is)
    (case hha_RingError => k_is)
    (case hhn_RingError => k_is)
    (case hht_RingError => k_is)
    (case hhm_RingError => k_is)
    (case how_RingError => first | k_is | rfl)
    (case ha_Ring_init => k_is)
    (case hi_Ring_init => k_is)
    (case hl_Ring_init => k_is)
    (case hc_Ring_init => k_is)
    (case hk_Ring_init => k_is)
    (case ha_Ring_held => k_is)
    (case hi_Ring_held => k_is)
    (case hl_Ring_held => k_is)
    (case hc_Ring_held => k_is)
    (case hk_Ring_held => k_is)
    (case ha_Ring_is_full => k_is)
    (case hi_Ring_is_full => k_is)
    (case hl_Ring_is_full => k_is)
    (case hc_Ring_is_full => k_is)
    (case hk_Ring_is_full => k_is)
    (case ha_Ring_put => k_is)
    (case hi_Ring_put => k_is)
    (case hl_Ring_put => k_is)
    (case hc_Ring_put => k_is)
    (case hk_Ring_put => k_is)
    (case ha_Ring_first => k_is)
    (case hi_Ring_first => k_is)
    (case hl_Ring_first => k_is)
    (case hc_Ring_first => k_is)
    (case hk_Ring_first => k_is)
    (case ha_Ring_take => k_is)
    (case hi_Ring_take => k_is)
    (case hl_Ring_take => k_is)
    (case hc_Ring_take => k_is)
    (case hk_Ring_take => k_is)
    (case ha_Ring_listed => k_is)
    (case hi_Ring_listed => k_is)
    (case hl_Ring_listed => k_is)
    (case hc_Ring_listed => k_is)
    (case hk_Ring_listed => k_is)
    (case ha_Ring_next => k_is)
    (case hi_Ring_next => k_is)
    (case hl_Ring_next => k_is)
    (case hc_Ring_next => k_is)
    (case hk_Ring_next => k_is)
    (case ha_law_state => k_is)
    (case hl_law_state => k_is)
    (case hc_law_state => k_is)
    (case hk_law_state => k_is)
    (case ha_law_draw => k_is)
    (case hl_law_draw => k_is)
    (case hc_law_draw => k_is)
    (case hk_law_draw => k_is)
    (case ha_law_same => k_is)
    (case hl_law_same => k_is)
    (case hc_law_same => k_is)
    (case hk_law_same => k_is)
    (case ha_law_put => k_is)
    (case hl_law_put => k_is)
    (case hc_law_put => k_is)
    (case hk_law_put => k_is)
    (case ha_law_taken => k_is)
    (case hl_law_taken => k_is)
    (case hc_law_taken => k_is)
    (case hk_law_taken => k_is)
    (case ha_law => k_is)
    (case hl_law => k_is)
    (case hc_law => k_is)
    (case hk_law => k_is)
    (case hpg_Ring => k_is)
    (case hhd_Ring => k_is)
    (case hpo_Ring => k_is)
    (case hsa_Ring => k_is)
    (case hmk_Ring => k_is)
    (case hkc_Ring => k_is)
    (case hn_Ring_cells => k_is)
    (case hn_Ring_written => k_is)
    (case hn_Ring_taken => k_is)
    (case hz_abs => k_is)
    (case hz_bool => k_is)
    (case hz_int => k_is)
    (case hz_isinstance => k_is)
    (case hz_len => k_is)
    (case hz_range => k_is)
    (case hz_super => k_is)
    (case his_RingError_TickringsError => first | k_is | decide +kernel | rfl)
#print axioms PySem.Challenge.cw_tickrings_k02_rings_holds
