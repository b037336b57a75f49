import PyProof.Rows.All
import Wide.All
import OpenK.AllK
import Wide.FinOn
import HandS.ForExc
import HandS.Nested
import HandS.ExcInit
import HandS.ExcField
import HandS.FStr
import HandS.MakeKwOnly
import HandS.IsInst
import HandS.ExcIs
import KE.KExcSuper
import KE.KExcIs
import HandS.ForMost
import HandS.Evl
import HandS.NoneIn
import HandS.TupAny
import PySem.Challenge.RW_tickrings_k15_sending
set_option Elab.async false
set_option maxRecDepth 100000
set_option maxHeartbeats 4000000
set_option linter.all false
set_option autoImplicit false
/-! An own error class over another own class over ValueError, whose __init__ says super().__init__(..) and stores one field. -/
namespace Sx
open PySem PySem.Spec PyProof.Rows L2 PySem.W PySem.Calls NdefX
section
variable {prog : Program} {w : World} {A : Around} {E : Value → Shared → Prop} {h : Heap} {g : Array GenState} {d : Drawn} {t : Nat} {os : OsState}
/-- ValueError.__init__ bound to an exception, called -/
theorem call_mw {nm q : Str} {C N u e t0 : Addr} {bs bm : List Value} {hdct : Bool} {sn : List Str} {sub : List Value} {ab : Bool} {col : Option Bool} {dd : Option Addr} {k0 k1 k2 k3 k5 : Option Value} {rest : List Value} {Q : Value → Shared → Prop}
    (hC : h.get? C = some (excClassObj nm q C N bs bm hdct sn sub ab col dd k0 k1 k2 k3 k5 "ValueError.__new__")) (he : h.get? e = some (HandSPX.excO C t0)) (hu : h.get? u = some (kxs_mw "ValueError.__init__" e)) (hrest : rest.length ≤ sizeLine)
    (hq : ∀ h' t1, (∀ b o, b ≠ e → h.get? b = some o → h'.get? b = some o) → h'.get? e = some (HandSPX.excO C t1) → Q .none ⟨h', g, d, t, os⟩) :
    wpAny (model prog w) A (call (.ref u) rest) Q E ⟨h, g, d, t, os⟩ := by
  refine wpAny_call (codeAny_of_tree ?_)
  show wpAny _ A.in1 (callAny (.ref u) ⟨rest, []⟩) _ _ _
  simp only [callAny]
  refine wpAny_bind (wpAny_load hu ?_)
  simp only [kxs_mw, show (Value.type "method-wrapper" == Value.type "method" || Value.type "method-wrapper" == Value.type "builtin_function_or_method" || Value.type "method-wrapper" == Value.type "method-wrapper") = true by decide, if_true]
  refine W.KFB.if_so (by decide) ?_
  refine wpAny_bind (check_bound_init F.excBase_ValueError.toExcCallFacts hC he rfl ?_)
  refine wpAny_bind (wpAny_pure (wpAny_pure ?_))
  refine ⟨plainId_quiet F.excBase_ValueError.init.plain _, codeAny_builtin F.excBase_ValueError.initEntry ?_⟩
  exact exc_init_tree (cls := .ref C) (t0 := t0) (dv := none) (c2 := .none) (c3 := .none) (b4 := .bool false) he hrest fun h' k hx _ => hq h' _ k hx
end
/-- what the top has written of such a class -/
structure ErrC (P : Program) (K : PySem.W.Frag) (mg : Str → Option Value) (C : Addr) : Prop where
  ox : OexC K C
  sup : ks_superIn K C C "__init__" = some (some (.builtin "ValueError.__init__"))
  ve : PySem.W.subIn K (.ref C) (.type "ValueError") = some true
  op : PySem.W.nsIn K cStatics "thirdparty.any" = some none
  selfM : PySem.W.mroIn K C (.ref C) = some true
  sm : mg "super" = none
  top : (P.main.scope.names.lookup ("super" : Str)).isSome = false
/-- its __init__ -/
structure ErrI (P : Program) (K : PySem.W.Frag) (C cc cda fI : Addr) (name qual : Str) (params : Arguments) (body : List Stmt) (scope : Scope) (fd : FuncData) : Prop where
  fn : ∃ oc od osl dV kV doc pm an ct, fd = PySem.W.fnX name qual params body scope [("__class__", cc)] dV kV doc pm an (.ref cda) ct ∧ K.lookup fI = some ⟨oc, od, .func fd, osl⟩
  cd : PySem.W.codeIn K (.ref cda) qual = true
  cell : ∃ cl cld csl, K.lookup cc = some ⟨cl, cld, .cell (some (.ref C)), csl⟩
  code : ∃ ccl cdd vs ccs file tf, K.lookup cda = some ⟨ccl, cdd, .fields vs, ccs⟩ ∧ vs[2]? = some (.str file tf) ∧ ((P.main.file : Str) == file) = true
section
variable {P : Program} {w : World} {K : PySem.W.Frag} {mg : Str → Option Value} {base : Heap} {CX : CXT}
theorem fn_of_err {C cc cda f : Addr} {name qual : Str} {params : Arguments} {scope : Scope} {fd : FuncData} {ar : Arg} {N ps : List Str} {k : Nat} {sp : Sp} {p0 p1 p2 pos pos' : Pos} {e : Expr} {es : List Expr} {rest : List Stmt}
    (T : ErrC P K mg C) (I0 : ErrI P K C cc cda f name qual params (.Expr (.Call (.Attribute (.Call (.Name "super" p0) [] [] p1) "__init__" p2) (e :: es) [] pos) pos' :: rest) scope fd)
    (S : NScope N ps ["__class__"] scope) (hp : (params.posonlyargs ++ params.args).head? = some ar) (hp0 : ps[0]? = some ar.arg) (hsup : scope.names.lookup ("super" : Str) = some .globalImplicit)
    (len : ∀ vs H Q E, sp vs H Q E → vs.length = ps.length)
    (he : ∀ env, starEach (e :: es) env = (false, eval e env) :: starEach es env) (hpl : ∀ env, (backTo pos (starEach es env)).any (·.1) = false)
    {pl : Env → Sem Bool} (hmc : ∀ env : Env, eval (.Call (.Attribute (.Call (.Name "super" p0) [] [] p1) "__init__" p2) (e :: es) [] pos) env = (do
      let ov ← attributeBase (.Call (.Name "super" p0) [] [] p1) "__init__" env (eval (.Call (.Name "super" p0) [] [] p1) env)
      standAt p2.atName
      let (f, first) ← holding [ov] (getMethod ov "__init__" (pl env))
      callWith pos f first (backTo pos (starEach (e :: es) env)) []))
    (hsw : ∀ env, swapsWith (.Call (.Attribute (.Call (.Name "super" p0) [] [] p1) "__init__" p2) (e :: es) [] pos) none pos'.line env = pure false)
    (hbody : ∀ (A : Around) (outer : List Env) (s : Shared) (H : Hp) (vs : List V) (Q : VK) (E : XK), sp vs H Q E →
      ∃ ta t, PA (ncx CX P w K mg base N ⟨name, qual, params, .Expr (.Call (.Attribute (.Call (.Name "super" p0) [] [] p1) "__init__" p2) (e :: es) [] pos) pos' :: rest, scope, [("__class__", cc)], cda⟩ f A outer s H E) (e :: es) ta ∧
        PSs (ncx CX P w K mg base N ⟨name, qual, params, .Expr (.Call (.Attribute (.Call (.Name "super" p0) [] [] p1) "__init__" p2) (e :: es) [] pos) pos' :: rest, scope, [("__class__", cc)], cda⟩ f A outer s H E) rest t ∧
        ∃ a, vs[0]? = some (.ref a) ∧ H a = some (exo a C none) ∧
          ta (startF N vs [some (.ref C)]) H fun ws H1 => ws.length ≤ 1000 ∧ H1 a = some (exo a C none) ∧ t { nx := fun _ H' => Q .non H', rt := Q } (startF N vs [some (.ref C)]) H1) :
    FnOk P w K mg base CX (k + 1) f fd ps sp := by
  obtain ⟨⟨oc, od, osl, dV, kV, doc, pm, an, ct, rfl, lk⟩, hcd, ⟨cl, cld, csl, hcell⟩, ⟨ccl, cdd, vsC, ccs, file, tf, hcode, hvs, hfile⟩⟩ := I0
  refine ⟨len, fun A outer s H args us vs Q E hr e0 hb r hsp => ?_⟩
  have hl := len _ _ _ _ hsp
  have KX : K.In s.heap := e0.mod.kin.keeps fun b o e => (e0.bs b o e).1
  have lim : s.heap.NoLimit := e0.mod.nolimit.keeps fun b o e => (e0.bs b o e).1
  have C0 : CellsAt [(("__class__" : Str), cc)] ["__class__"] [some (V.ref C)] s.heap H := by
    refine ⟨rfl, fun y c q => ?_, fun x y c q1 q2 => ?_, fun i y q => ?_⟩
    · have hy : c = cc := by
        by_cases hyy : y = ("__class__" : Str)
        · subst hyy
          simpa [List.lookup] using q.symm
        · have : (y == ("__class__" : Str)) = false := by simpa using hyy
          simp [List.lookup, this] at q
      subst hy
      exact ⟨(e0.bs c _ (e0.mod.kin _ _ hcell)).2, _, ⟨_, KX _ _ hcell, rfl⟩⟩
    · have hx : x = ("__class__" : Str) := by
        by_cases hyy : x = ("__class__" : Str)
        · exact hyy
        · have : (x == ("__class__" : Str)) = false := by simpa using hyy
          simp [List.lookup, this] at q1
      have hy : y = ("__class__" : Str) := by
        by_cases hyy : y = ("__class__" : Str)
        · exact hyy
        · have : (y == ("__class__" : Str)) = false := by simpa using hyy
          simp [List.lookup, this] at q2
      rw [hx, hy]
    · match i, q with
      | 0, q =>
        have hy : ("__class__" : Str) = y := Option.some.inj q
        subst hy
        refine ⟨cc, by simp [List.lookup], fun v hv => ⟨.ref C, ?_, _, KX _ _ hcell, rfl⟩⟩
        have hv' : V.ref C = v := by simpa using hv
        subst hv'
        rfl
      | i + 1, q => simp at q
  let F : NF := ⟨name, qual, params, .Expr (.Call (.Attribute (.Call (.Name "super" p0) [] [] p1) "__init__" p2) (e :: es) [] pos) pos' :: rest, scope, [("__class__", cc)], cda⟩
  have hS : NScope N ps ["__class__"] F.scope := S
  refine ks_codeAny_call_defAt (body := F.body) (binds := ps.zip us) hr.depth (KX _ _ lk) rfl lim (codeRec_of KX hcd) rfl (hb) S.nocell (fun ⟨n, _⟩ hy => S.par n (List.of_mem_zip hy).1) (fun h₁ hns kp => ?_) S.co S.gen S.kind
  obtain ⟨ta, tb, hta, htb, a, hv0, hea, hq⟩ := hbody A outer s H vs Q E hsp
  have I : Inv (ncx CX P w K mg base N F f A outer s H E) [] (startF N vs [some (.ref C)]) H { s with heap := h₁, toks := s.toks + (ps.zip us).length } := inv_startN hS hr.hd e0 hl r C0 hns kp
  show PySem.wpAt _ (A.deeper (envF F f s.heap.objs.size)) (.func F.body (envF F f s.heap.objs.size)) (execs F.body (envF F f s.heap.objs.size)) _ _ _
  refine ks_wpAt_mono (Q := SP (ncx CX P w K mg base N F f A outer s H E) [] { nx := fun _ H' => Q .non H', rt := Q }) (ks_wpAt_execs_cons (ks_wpAt_Expr_any (ks_wpAt_MethodCall (pl := pl _) ?_ (hmc _)) (by show (scope.kind == ScopeKind.module && _) = false; rw [S.kind]; rfl) (hsw _))) (fun fl s' hs => ?_) fun e s' hs => hs
  · -- super()
    have KX1 : K.In h₁ := KX.keeps kp
    obtain ⟨nm, q, N', bs, bm, sn, sub, ab, col, dd, k0, k1, k2, k3, k5, hC, hbm⟩ := T.ox.cls
    have hcl : PySem.W.clsIn K C = some { name := nm, bases := bs, mro := .ref C :: bm, ns := N', qualname := q, hasDict := true, slotNames := sn, subclasses := sub, abstract := ab, collection := col, hasDel := false } := by unfold PySem.W.clsIn; rw [hC] <;> rfl
    obtain ⟨t1, ho⟩ := exo_at I.hok hea
    have hu0 : us[0]? = some (.ref a) := by
      obtain ⟨u, hu, ru⟩ := r.get hv0
      have : u = Value.ref a := ru
      rw [hu, this]
    have hself : (ps.zip us).reverse.lookup ar.arg = some (.ref a) := by
      have ndP : ps.Nodup := by
        have q := S.nd.sublist (List.take_sublist (ps.length + 1) N)
        have q2 := S.pre
        simp only [List.length_cons, List.length_nil, Nat.zero_add] at q2
        rw [q2] at q
        exact (List.nodup_append.mp q).1
      exact zip_look ndP hp0 hu0
    have gl : h₁.Ns mainGlobals mg := e0.mod.glob.keeps fun b o z => kp b o (e0.bs b o z).1
    obtain ⟨mb, hmb, hmbE⟩ := e0.mod.blt
    have bl : h₁.Ns builtinsNs mb := hmb.keeps fun b o z => kp b o (e0.bs b o z).1
    refine ks_wpAt_super_base (env := envF F f s.heap.objs.size) hsup (S.frk _ List.mem_cons_self) (by decide) rfl (KX1 _ _ lk) rfl hp rfl (KX1 _ _ hcode) rfl hvs hfile T.top ?_
    refine ks_loadName_global S.kind hsup (loadGlobal_builtin (env := envF F f s.heap.objs.size) gl T.sm bl ((hmbE _ (by decide +kernel)).trans (by decide +kernel : bootBuiltins "super" = some (.type "super"))) ⟨rfl, ?_⟩)
    refine wpAny_loadName_free S.kind (S.frk _ List.mem_cons_self) (by first | rfl | simp [List.lookup]) ⟨_, KX1 _ _ hcell, rfl⟩ ?_
    refine wpAny_loadName_local S.kind (S.par _ (List.mem_of_getElem? hp0)) hns hself ?_
    refine ks_wpAny_isType_cls (KX1 _ _ hC) rfl ⟨rfl, ?_⟩
    refine ks_wpAny_call_super (KX1 _ _ hC) rfl ho rfl (fun c e => by cases e) (PySem.W.looks_mroIn KX1 T.selfM) (fun h2 eso k2 => ?_)
    have I1 := I.kept (t' := s.toks + (ps.zip us).length) k2
    have KX2 : K.In h2 := KX1.keeps k2
    have hax : a ≠ C := by
      intro z
      have z1 := KX1 _ _ hC
      rw [← z, ho] at z1
      cases z1
    have ho2 : h2.get? a = some ({ cls := .ref C, dict := none, data := .fields #[.ref t1, .none, .none, .none, .bool false, .none] } : Obj) := k2 _ _ ho
    have J : PySem.W.InstAt h2 a ({ cls := .ref C, dict := none, data := .fields #[.ref t1, .none, .none, .none, .bool false, .none] } : Obj) C none := ⟨ho2, rfl, rfl, trivial⟩
    have hsupX := T.sup
    unfold ks_superIn at hsupX
    rw [hcl] at hsupX
    have hI : PySem.W.Looks (model P w) h2 (isInstance (.ref a) (.type "ValueError")) true := J.type.andThen (PySem.W.looks_subIn KX2 T.ve)
    refine kxs_getMethod kxs_ValueError eso (PySem.W.looks_opaque KX2 T.op) (l₀ := .ref C :: bm) ?_ rfl KX2 hsupX hI hax (by decide) ?_
    · exact fun A Q E s k q => wpAny_bind ((PySem.W.looks_clsIn KX2 hcl) A _ E s k (wpAny_pure q))
    · have k3 : ∀ b o, h2.get? b = some o → (h2.push (kxs_mw "ValueError.__init__" a)).get? b = some o := fun b o e => Heap.get?_push_of_some _ e
      have I2 := I1.kept (t' := s.toks + (ps.zip us).length + 1) k3
      have nu : H h2.objs.size = none := I1.hok.fresh (Nat.le_refl _)
      have hmw : (h2.push (kxs_mw "ValueError.__init__" a)).get? h2.objs.size = some (kxs_mw "ValueError.__init__" a) := Heap.get?_push_at rfl rfl
      have I3 := I2.pins_of (pins' := [(h2.objs.size, kxs_mw "ValueError.__init__" a)]) fun p hp => by
        have hp' : p = (h2.objs.size, kxs_mw "ValueError.__init__" a) := by simpa [ncx] using hp
        subst hp'
        exact ⟨hmw, nu, fun z => absurd I1.lt (by rw [← z]; exact Nat.lt_irrefl _), I1.nofs (Nat.le_refl _), fun v z => by cases z⟩
      refine kxs_callWith (i := "ValueError.__init__") (x := a) (by rw [he]; show (false || (backTo pos (starEach es _)).any (·.1)) = false; rw [hpl]; rfl) ?_
      rw [he]
      refine evalArgs_plain ?_
      show wpAny _ _ (spliced (backTo pos ((false, eval e (envF F f s.heap.objs.size)) :: starEach es (envF F f s.heap.objs.size)))) _ _ _
      rw [← he]
      refine thn (hta.run pos _ _ _ H _ I3 hq) fun us1 s1 hAP => ?_
      obtain ⟨ws, H1, I4, r4, hz, hea1, q4⟩ := hAP
      have hpin := (I4.pin (h2.objs.size, kxs_mw "ValueError.__init__" a) (by simp [ncx])).1
      refine ⟨hpin, ?_⟩
      obtain ⟨t2, ho4⟩ := exo_at I4.hok hea1
      have I5 := I4.pins_of (pins' := []) fun p hp => by simp [ncx] at hp
      obtain ⟨hp4, g4, d4, t4, os4⟩ := s1
      refine call_mw (I4.kIn _ _ hC) ho4 hpin (by show us1.length ≤ sizeLine; rw [← r4.length, sizeLine_eq]; omega) fun h' t5 k5 hx5 => ?_
      have I6 := I5.write (t' := t4) (x := a) (e := a) (o := exo a C none) (by rw [hea1]; exact True.intro) (.inl rfl) k5 ⟨_, hx5⟩ (exo_ok hx5)
      have eu : upd H1 a (exo a C none) = H1 := by
        funext b
        by_cases hb : b = a
        · rw [hb, upd_same, hea1]
        · rw [upd_ne hb]
      rw [eu] at I6
      exact wpAt_of_wpAny (htb.run [] _ _ H1 _ I6 q4)
  · have fin : ∀ {σ' : L2.St} {H' : Hp} {v : V} {u : Value}, Inv (ncx CX P w K mg base N F f A outer s H E) [] σ' H' s' → L2.RelV v u → Q v H' → CE outer P w H s Q u s' :=
      fun {σ' H' v u} J rv q => ⟨v, H', J.os, J.bare, J.base, J.hok, rv, q⟩
    cases fl with
    | ret u =>
      obtain ⟨v, σ', H', J, rv, q⟩ := hs
      exact fin J rv q
    | next =>
      obtain ⟨σ', H', J, q⟩ := hs
      exact fin (v := V.non) (u := Value.none) J rfl q
    | brk =>
      obtain ⟨_, _, _, q⟩ := hs
      exact False.elim q
    | cont =>
      obtain ⟨_, _, _, q⟩ := hs
      exact False.elim q
end

/-! ### the promise of such an __init__, its body, the raise -/
def okV (x : V) : Prop := (∃ y : Str, x = .str y ∧ y.length ≤ 1000) ∨ ∃ i : Int, x = .int i ∧ i.natAbs.log2 < 1920
theorem okV_int {i : Int} (h : -(2 ^ 64) < i ∧ i < 2 ^ 64) : okV (.int i) := by
  refine .inr ⟨i, rfl, ?_⟩
  have h1 : i.natAbs < 2 ^ 64 := by omega
  by_cases h0 : i.natAbs = 0
  · rw [h0]; decide
  · exact Nat.lt_of_lt_of_le ((Nat.log2_lt h0).mpr h1) (by decide)
def spErr (C : Addr) (fld : Str) : Sp := fun vs H Q _ => ∃ a x, vs = [.ref a, x] ∧ okV x ∧ H a = some (exo a C none) ∧ ∀ d, H d = none → d ≠ a → Q .non (upd (upd H d (exd d [(fld, x)])) a (exo a C (some d)))
section
variable {P : Program} {w : World} {K : PySem.W.Frag} {mg : Str → Option Value} {base : Heap} {CX : CXT}
theorem okErr {C cc cda f : Addr} {name qual fld : Str} {params : Arguments} {scope : Scope} {fd : FuncData} {ar : Arg} {prm : Str} {p0 p1 p2 pos pos' q0 q1 q2 q3 : Pos} {e : Expr} {te : TE}
    (T : ErrC P K mg C) (hno : PySem.W.findIn K (.ref C) fld = some none)
    (I0 : ErrI P K C cc cda f name qual params [.Expr (.Call (.Attribute (.Call (.Name "super" p0) [] [] p1) "__init__" p2) [e] [] pos) pos', .Assign [.Attribute (.Name "self" q0) fld q1] (.Name prm q2) q3] scope fd)
    (S : NScope ["self", prm, "__class__"] ["self", prm] ["__class__"] scope) (hp : (params.posonlyargs ++ params.args).head? = some ar) (hp0 : ar.arg = "self") (hsup : scope.names.lookup ("super" : Str) = some .globalImplicit)
    (hd : (prm == ("__debug__" : Str)) = false) (hcd : (prm == ("__classdict__" : Str)) = false)
    (he : ∀ env, starEach [e] env = (false, eval e env) :: starEach [] env)
    {pl : Env → Sem Bool} (hmc : ∀ env : Env, eval (.Call (.Attribute (.Call (.Name "super" p0) [] [] p1) "__init__" p2) [e] [] pos) env = (do
      let ov ← attributeBase (.Call (.Name "super" p0) [] [] p1) "__init__" env (eval (.Call (.Name "super" p0) [] [] p1) env)
      standAt p2.atName
      let (f, first) ← holding [ov] (getMethod ov "__init__" (pl env))
      callWith pos f first (backTo pos (starEach [e] env)) []))
    (hsw : ∀ env, swapsWith (.Call (.Attribute (.Call (.Name "super" p0) [] [] p1) "__init__" p2) [e] [] pos) none pos'.line env = pure false)
    (hsw2 : ∀ env, swapsWith (.Name prm q2) (some (.Attribute (.Name "self" q0) fld q1)) q3.line env = pure false)
    (hPE : ∀ X : Cx, X.N[1]? = some prm → Vis X.env.scope prm → PE X e te)
    (hte : ∀ (σ : L2.St) (H : Hp) (Q : VK) (x : V), σ[1]? = some (some x) → okV x → (∀ z, Q (.str z) H) → te σ H Q) :
    FnOk P w K mg base CX 1 f fd ["self", prm] (spErr C fld) := by
  refine fn_of_err T I0 S hp (by rw [hp0]; rfl) hsup (fun vs H Q E h => ?_) he (fun env => rfl) hmc hsw fun A outer s H vs Q E h => ?_
  · obtain ⟨a, x, rfl, _⟩ := h
    rfl
  · obtain ⟨a, x, rfl, hok, hea, k⟩ := h
    refine ⟨tCons te tNil, tOst K fld (tVar 0) (tVar 1), pa_cons (hPE _ rfl (Or.inl (S.par _ (by simp)))) pa_nil (he _), pss_one (ps_ost (pv 0 rfl (Or.inl (S.par _ (by simp)))) (pv 1 rfl (Or.inl (S.par _ (by simp))) hd hcd) (hsw2 _)), a, rfl, hea, ?_⟩
    refine hte _ _ _ x rfl hok fun z => ?_
    refine ⟨by show 1 ≤ 1000; decide, hea, ?_⟩
    exact ⟨x, rfl, _, rfl, a, C, rfl, T.ox, hno, .inl ⟨hea, fun d hd hda => k d hd hda⟩⟩
/-- f"pre{x}" and f"pre{x}suf" -/
theorem te2 {pre : Str} {i : Nat} (hpre : pre.length ≤ 1000) (σ : L2.St) (H : Hp) (Q : VK) (x : V) (hx : σ[i]? = some (some x)) (ho : okV x) (q : ∀ z, Q (.str z) H) :
    tJs [tC (.str pre), tFmt (tVar i)] Str.empty σ H (fun out H1 => Q (.str out) H1) := by
  have hs : ∀ n : Nat, n ≤ 10000 → n ≤ sizeLine := fun n h => by rw [sizeLine_eq]; omega
  have l0 : (Str.empty ++ pre).length ≤ 1000 := by rw [Str.length_append]; show 0 + _ ≤ _; omega
  refine ⟨pre, rfl, hs _ (by omega), x, hx, ?_⟩
  rcases ho with ⟨y, rfl, hy⟩ | ⟨j, rfl, hj⟩
  · exact .inl ⟨y, rfl, hs _ (by omega), y, rfl, hs _ (by rw [Str.length_append]; omega), q _⟩
  · have l1 := int_text_len_1921 hj
    exact .inr ⟨j, rfl, hj, _, rfl, hs _ (by rw [Str.length_append]; exact Nat.le_trans (Nat.add_le_add l0 l1) (by decide)), q _⟩
theorem te3 {pre suf : Str} {i : Nat} (hpre : pre.length ≤ 1000) (hsuf : suf.length ≤ 1000) (σ : L2.St) (H : Hp) (Q : VK) (x : V) (hx : σ[i]? = some (some x)) (ho : okV x) (q : ∀ z, Q (.str z) H) :
    tJs [tC (.str pre), tFmt (tVar i), tC (.str suf)] Str.empty σ H (fun out H1 => Q (.str out) H1) := by
  have hs : ∀ n : Nat, n ≤ 10000 → n ≤ sizeLine := fun n h => by rw [sizeLine_eq]; omega
  have l0 : (Str.empty ++ pre).length ≤ 1000 := by rw [Str.length_append]; show 0 + _ ≤ _; omega
  refine ⟨pre, rfl, hs _ (by omega), x, hx, ?_⟩
  rcases ho with ⟨y, rfl, hy⟩ | ⟨j, rfl, hj⟩
  · have l2 : (Str.empty ++ pre ++ y).length ≤ 2000 := by rw [Str.length_append]; omega
    exact .inl ⟨y, rfl, hs _ (by omega), y, rfl, hs _ (by omega), suf, rfl, hs _ (by rw [Str.length_append]; omega), q _⟩
  · have l1 := int_text_len_1921 hj
    have l2 : (Str.empty ++ pre ++ Str.ofString (toString j)).length ≤ 2921 := by rw [Str.length_append]; omega
    exact .inr ⟨j, rfl, hj, _, rfl, hs _ (Nat.le_trans l2 (by decide)), suf, rfl, hs _ (by rw [Str.length_append]; exact Nat.le_trans (Nat.add_le_add l2 hsuf) (by decide)), q _⟩
end
/-- an own error class, ready to be raised and caught -/
structure EK (P : Program) (w : World) (K : PySem.W.Frag) (mg : Str → Option Value) (base : Heap) (x fld : Str) (C fI : Addr) (fd : FuncData) (ps : List Str) : Prop where
  T : ErrC P K mg C
  g : mg x = some (.ref C)
  iC : PySem.W.findIn K (.ref C) "__init__" = some (some (.ref fI))
  tI : PySem.W.typeIn K (.ref fI) = some (.type "function")
  F1 : FnOk P w K mg base CX0 1 fI fd ps (spErr C fld)
  b : Binds K fd ps []
  nof : PySem.W.findIn K (.ref C) fld = some none
  xf : XfC K C
  isc : ExcC K C
  own : PySem.W.subIn K (.ref C) (.ref C) = some true
theorem EK.exm {P : Program} {w : World} {K : PySem.W.Frag} {mg : Str → Option Value} {base : Heap} {x fld : Str} {C fI : Addr} {fd : FuncData} {ps : List Str} (E : EK P w K mg base x fld C fI fd ps) : PySem.W.exmOne K (.ref C) (.ref C) = some true :=
  PySem.W.exm_ref E.T.ox.exC E.xf.hdC E.T.ox.tyC E.own
section
variable {X : Cx} {W : WX} {x fld : Str} {C fI : Addr} {fd : FuncData} {ps : List Str} {e o : Expr} {te ta : TE} {p pos pos' apos : Pos}
theorem upd_del {fs : List (Str × V)} {H : Hp} {a d : Addr} {o u v : HO} (ha : H a = none) (hda : d ≠ a) : upd (del (upd (upd (upd H a o) d u) a v) a) d (.xd fs) = upd H d (.xd fs) := by
  funext b
  by_cases hb : b = d
  · subst hb; rw [upd_same, upd_same]
  · rw [upd_ne hb, upd_ne hb]
    by_cases hba : b = a
    · subst hba; rw [del_same, ha]
    · rw [del_ne hba, upd_ne hba, upd_ne hb, upd_ne hba]
/-- a reading made to bear a weaker wish -/
def tUp (te : TE) : TE := fun σ H Q => ∃ Q0 : VK, te σ H Q0 ∧ ∀ v H1, Q0 v H1 → Q v H1
theorem pe_up (h : PE X e te) : PE X e (tUp te) := ⟨fun pins s σ H Q I ⟨Q0, q, m⟩ => thn (h.run pins s σ H Q0 I q) fun _ _ ⟨v, H1, J, r, z⟩ => ⟨v, H1, J, r, m _ _ z⟩⟩
/-- raise X(e) -/
def tRaiseE (W : WX) (C : Addr) (fld : Str) (te : TE) : TS := fun _ σ H => te σ H fun v H1 => okV v ∧ ∀ d, H1 d = none → W (.ref C) (some d) σ (upd H1 d (.xd [(fld, v)]))
theorem ps_raiseE (hc : X.calm = true) (E : EK X.prog X.w X.K X.mg X.base x fld C fI fd ps) (hr : Room 2 X.A) (tk : Takes X W) (hg : Gl X x) (he : PE X e te) (hdb : (x == ("__debug__" : Str)) = false := by decide)
    (hst : starEach [e] X.env = (false, eval e X.env) :: starEach [] X.env := by rfl) :
    PS X (.Raise (some (.Call (.Name x p) [e] [] pos)) none pos') (tRaiseE W C fld te) := by
  refine ⟨fun pins s σ H D I h => ?_⟩
  refine (ps_raise hc tk (pmk_oex E.T.ox E.iC E.tI E.F1 hr E.b .nil pass0 hg E.g (pa_cons (pe_up he) pa_nil hst) hdb hst rfl)).run pins s σ H D I ?_
  refine ⟨_, h, fun v H1 ⟨hok, k⟩ => ⟨by show 1 ≤ 1000; decide, fun a ha => ⟨a, v, rfl, hok, upd_same, fun d hd hda => ⟨rfl, d, [(fld, v)], upd_same, by rw [upd_ne hda, upd_same], ?_, ?_⟩⟩⟩⟩
  · rw [upd_ne hda] at hd
    exact hd
  · rw [upd_ne hda] at hd
    rw [upd_del ha hda]
    exact k d hd
/-! ### calls of what may raise, the wish at the slots -/
variable {CX : CXT} {k : Nat} {f : Addr} {sp : Sp} {m : Str} {es : List Expr} {t : TA} {ES : L2.St → XK}
def tMethS (C : Addr) (m : Str) (sp : Sp) (ES : L2.St → XK) (ta : TE) (t : TA) : TE := fun σ H Q => ta σ H fun x H1 => ∃ a dx fs, x = .ref a ∧ H1 a = some (.ins C dx fs) ∧ fs.lookup m = none ∧ t σ H1 fun vs H2 => sp (x :: vs) H2 Q (ES σ)
theorem pe_methS {pl : Sem Bool} (he : PE X o ta) (c : Cls X.K C) (hm : Meth X.K C m f) (F : FnOk X.prog X.w X.K X.mg X.base CX k f fd ps sp) (hr : Room k X.A) (hb : Binds X.K fd ps []) (hx : ∀ σ, PassesAt CX X σ (ES σ)) (ha : PA X (e :: es) t)
    (hst : starEach (e :: es) X.env = (false, eval e X.env) :: starEach es X.env := by rfl) (hpl : (backTo pos (starEach es X.env)).any (·.1) = false := by rfl)
    (ht : eval (.Call (.Attribute o m apos) (e :: es) [] pos) X.env = (do
      let ov ← eval o X.env
      standAt apos.atName
      let (f, first) ← holding [ov] (getMethod ov m pl)
      callWith pos f first (backTo pos (starEach (e :: es) X.env)) (backToKw pos (keywordEach [] X.env))) := by rfl) :
    PE X (.Call (.Attribute o m apos) (e :: es) [] pos) (tMethS C m sp ES ta t) := by
  refine ⟨fun pins s σ H Q I h => ?_⟩
  refine PySem.W.methodCall_KW (pl := pl) (thn (he.run pins s σ H _ I h) fun u s1 ⟨x, H1, I1, rx, a, dx, fs, ex, ea, l, q⟩ => ?_) ht
  subst ex
  obtain rfl : u = Value.ref a := rx
  refine getmeth_ok I1 ea c hm l ?_
  refine PySem.W.callWith_K (first := [.ref a]) (h₀ := X.base) I.ok.mod.kin hm.kp (thn (ha.run pos pins s1 σ H1 _ I1 q) fun us s2 ⟨vs, H2, I2, r, q2⟩ => ⟨I2.kIn, ?_⟩) hst hpl
  exact run_fnS (us := .ref a :: us) (vs := .ref a :: vs) F hr hb (hx σ) I2 (.cons rfl r) q2
theorem pe_meth0S {pl : Sem Bool} (he : PE X o ta) (c : Cls X.K C) (hm : Meth X.K C m f) (F : FnOk X.prog X.w X.K X.mg X.base CX k f fd ps sp) (hr : Room k X.A) (hb : Binds X.K fd ps []) (hx : ∀ σ, PassesAt CX X σ (ES σ))
    (ht : eval (.Call (.Attribute o m apos) [] [] pos) X.env = (do
      let ov ← eval o X.env
      standAt apos.atName
      let (f, first) ← holding [ov] (getMethod ov m pl)
      callWith pos f first (backTo pos (starEach [] X.env)) (backToKw pos (keywordEach [] X.env))) := by rfl) :
    PE X (.Call (.Attribute o m apos) [] [] pos) (tMethS C m sp ES ta tNil) := by
  refine ⟨fun pins s σ H Q I h => ?_⟩
  refine PySem.W.methodCall_KW (pl := pl) (thn (he.run pins s σ H _ I h) fun u s1 ⟨x, H1, I1, rx, a, dx, fs, ex, ea, l, q⟩ => ?_) ht
  subst ex
  obtain rfl : u = Value.ref a := rx
  refine getmeth_ok I1 ea c hm l ?_
  exact PySem.W.callWith_K0 (first := [.ref a]) I1.kIn hm.kp (run_fnS (us := [.ref a]) (vs := [.ref a]) F hr hb (hx σ) I1 (.cons rfl .nil) q)
theorem pe_call0S (F : FnOk X.prog X.w X.K X.mg X.base CX k f fd ps sp) (hr : Room k X.A) (hg : Gl X x) (hm : X.mg x = some (.ref f)) (hk : PySem.W.keepIn X.K (.ref f) = true) (hb : Binds X.K fd ps []) (hx : ∀ σ, PassesAt CX X σ (ES σ))
    (hdb : (x == ("__debug__" : Str)) = false := by decide) : PE X (.Call (.Name x p) [] [] pos) (tCallS sp ES tNil) := by
  refine ⟨fun pins s σ H Q I h => ?_⟩
  refine wpAny_Call_Name_kw (ld_glob I hg hm ?_ hdb)
  exact PySem.W.callWith_K0 I.kIn hk (run_fnS (us := []) (vs := []) F hr hb (hx σ) I .nil h)
theorem run_makeS {pins : List (Addr × Obj)} {σ : L2.St} {H : Hp} {s : Shared} {Q : VK} {us : List Value} {vs : List V} (M : Mk X.K C f) (F : FnOk X.prog X.w X.K X.mg X.base CX k f fd ps sp) (hr : Room (k + 1) X.A) (hb : Binds X.K fd ps []) (hp : ∀ (σ : L2.St), PassesAt CX X σ (ES σ))
    (I : Inv X pins σ H s) (r : Vals vs us) (h : ∀ x dx, H x = none → H dx = none → dx ≠ x → sp (.ref x :: vs) (upd (upd H dx (.own x)) x (.ins C dx [])) (fun v H2 => v = .non ∧ Q (.ref x) H2) (ES σ)) :
    wpAny (model X.prog X.w) X.A (call (.ref C) us) (EP X pins σ Q) X.xe s := by
  have hq := h (s.heap.objs.size + 1) s.heap.objs.size (I.hok.fresh (Nat.le_succ _)) (I.hok.fresh (Nat.le_refl _)) (Nat.ne_of_lt (Nat.lt_succ_self _))
  have I2 := Inv.made (C := C) I
  have r2 : Vals (V.ref (s.heap.objs.size + 1) :: vs) (Value.ref (s.heap.objs.size + 1) :: us) := .cons rfl r
  have hl : (Value.ref (s.heap.objs.size + 1) :: us).length = ps.length := by rw [← r2.length]; exact F.len _ _ _ _ hq
  have b := hb _ (Value.ref (s.heap.objs.size + 1) :: us) I2.kIn (by rw [List.append_nil]; exact hl)
  rw [List.append_nil] at b
  refine wpAny_call (make_map (f := f) I.kIn M.makes M.init (beq_iff_eq.mp M.fn) (codeAny_mono (F.run _ X.stack _ _ ⟨Value.ref (s.heap.objs.size + 1) :: us, []⟩ (Value.ref (s.heap.objs.size + 1) :: us) _ _ (ES σ) (hr.make C us [])
    (I2.env0.make C us []) b r2 hq) fun r s' hq' => ?_))
  cases r with
  | error e => exact hp σ pins _ _ e s' I2 hq'
  | ok fl =>
    cases fl with
    | ret u =>
      obtain ⟨v, H', I3, rv, ev, q3⟩ := I2.after hq'
      subst ev
      exact ⟨rv, ⟨V.ref (s.heap.objs.size + 1), H', I3, rfl, q3⟩⟩
    | next => exact False.elim hq'
    | brk => exact False.elim hq'
    | cont => exact False.elim hq'
def tMakeS (C : Addr) (sp : Sp) (ES : L2.St → XK) (t : TA) : TE := fun σ H Q => t σ H fun vs H1 => ∀ x dx, H1 x = none → H1 dx = none → dx ≠ x → sp (.ref x :: vs) (upd (upd H1 dx (.own x)) x (.ins C dx [])) (fun v H2 => v = .non ∧ Q (.ref x) H2) (ES σ)
theorem pe_makeS (M : Mk X.K C f) (F : FnOk X.prog X.w X.K X.mg X.base CX k f fd ps sp) (hr : Room (k + 1) X.A) (hg : Gl X x) (hm : X.mg x = some (.ref C)) (hb : Binds X.K fd ps []) (hx : ∀ σ, PassesAt CX X σ (ES σ))
    (ha : PA X (e :: es) t) (hdb : (x == ("__debug__" : Str)) = false := by decide) (he : starEach (e :: es) X.env = (false, eval e X.env) :: starEach es X.env := by rfl) (hpl : (backTo pos (starEach es X.env)).any (·.1) = false := by rfl) :
    PE X (.Call (.Name x p) (e :: es) [] pos) (tMakeS C sp ES t) := by
  refine ⟨fun pins s σ H Q I h => ?_⟩
  refine wpAny_Call_Name_kw (ld_glob I hg hm ?_ hdb)
  refine PySem.W.callWith_K (h₀ := X.base) I.ok.mod.kin M.kp (thn (ha.run pos pins s σ H _ I h) fun us s1 ⟨vs, H1, I1, r, q⟩ => ⟨I1.kIn, ?_⟩) he hpl
  exact run_makeS M F hr hb hx I1 r q
theorem pe_make0S (M : Mk X.K C f) (F : FnOk X.prog X.w X.K X.mg X.base CX k f fd ps sp) (hr : Room (k + 1) X.A) (hg : Gl X x) (hm : X.mg x = some (.ref C)) (hb : Binds X.K fd ps []) (hx : ∀ σ, PassesAt CX X σ (ES σ))
    (hdb : (x == ("__debug__" : Str)) = false := by decide) : PE X (.Call (.Name x p) [] [] pos) (tMakeS C sp ES tNil) := by
  refine ⟨fun pins s σ H Q I h => ?_⟩
  refine wpAny_Call_Name_kw (ld_glob I hg hm ?_ hdb)
  exact PySem.W.callWith_K0 I.kIn M.kp (run_makeS (us := []) (vs := []) M F hr hb hx I .nil h)
/-! ### isinstance(e, T), e a caught error that has its dict -/
def rIsED (K : PySem.W.Frag) (D a : Addr) (cls : Value) (d : Option Addr) : List V → Hp → VK → Prop := fun xs H Q => ∃ (c : V) (cv : Value) (b : Bool) (dd : Addr) (fs : List (Str × V)), xs = [.ref a, c] ∧ cls = .ref D ∧ d = some dd ∧ H dd = some (.xd fs) ∧ (∀ u, RelV c u → u = cv) ∧ PySem.W.kitOne K (.ref D) cv = some b ∧ Q (.bl b) H
theorem call_isED {a D : Addr} {oe : Obj} {cls : Value} {d : Option Addr} {pn : List (Addr × Obj)} (C : ExcC X.K D) (hz : Zc cls d oe) (hf : ∃ vs, oe.data = .fields vs) : CallR (X.suite a ((a, oe) :: pn)) (.builtin "isinstance") (rIsED X.K D a cls d) := by
  intro pins s σ H xs us Q I r h
  obtain ⟨c, cv, b, dd, fs, rfl, rfl, rfl, hdd, hcv, e, q⟩ := h
  cases r with
  | cons rx rr =>
    cases rr with
    | cons rt rr =>
      cases rr
      cases rx
      have ec := hcv _ rt
      subst ec
      obtain ⟨hget, _⟩ := I.pin (a, oe) (List.mem_append.mpr (.inl List.mem_cons_self))
      obtain ⟨vs, hv⟩ := hf
      have hx : ObjOk X.prog X.w H s.heap dd (.xd fs) := I.hok dd _ hdd
      obtain ⟨mA, hns, hr⟩ := hx
      obtain ⟨od, ho, hl⟩ := lookIn_ns hns
      have J : PySem.W.InstAt s.heap a oe D (some od) := by
        obtain ⟨oc, od', oda, osl⟩ := oe
        obtain ⟨h1, h2⟩ := hz
        dsimp only at h1 h2 hv
        subst h1 h2 hv
        exact ⟨hget, rfl, rfl, ho⟩
      exact PySem.W.kia_one (PySem.W.kitx_exc (by obtain ⟨cd, hc, _⟩ := PySem.W.any_some C.hd; rw [hc]; rfl) C.hg C.hk C.hs C.ha C.hn C.ht C.hm) I.kIn J e (fun z => nomatch z) fun tk => ⟨.bl b, H, I.kept (t' := tk) fun _ _ z => z, rfl, q⟩
end

/-! ### C(k = v, ..), the parameters keyword-only -/
section
variable {X : Cx} {CX : CXT} {k : Nat} {f C : Addr} {fd : FuncData} {ps ks : List Str} {sp : Sp} {ES : L2.St → XK} {x : Str} {p pos : Pos} {kws : List Keyword} {tk : TA} {gV : List V → List V → List V}
def tMakeKS (C : Addr) (m : Nat) (sp : Sp) (gV : List V → List V → List V) (ES : L2.St → XK) (tk : TA) : TE := fun σ H Q => tk σ H fun zs H2 => zs.length = m ∧ ∀ x dx, H2 x = none → H2 dx = none → dx ≠ x →
  sp (gV [.ref x] zs) (upd (upd H2 dx (.own x)) x (.ins C dx [])) (fun v H3 => v = .non ∧ Q (.ref x) H3) (ES σ)
theorem pe_makeKS (M : Mk X.K C f) (F : FnOk X.prog X.w X.K X.mg X.base CX k f fd ps sp) (hr : Room (k + 1) X.A) (hg : Gl X x) (hm : X.mg x = some (.ref C)) (hbn : ∃ g, KBn X.K fd ps 1 ks g gV) (hx : ∀ σ, PassesAt CX X σ (ES σ)) (hkw : PK X kws tk)
    (hall : (backToKw pos (keywordEach kws X.env)).all (·.1.isSome) = true := by rfl) (hks : (backToKw pos (keywordEach kws X.env)).filterMap (·.1) = ks := by rfl) (hdb : (x == ("__debug__" : Str)) = false := by decide)
    (hpl : ((backTo pos (starEach [] X.env)).any (·.1) || (backToKw pos (keywordEach kws X.env)).any (·.1.isNone)) = false := by rfl) :
    PE X (.Call (.Name x p) [] kws pos) (tMakeKS C ks.length sp gV ES tk) := by
  obtain ⟨g, hb⟩ := hbn
  refine ⟨fun pins s σ H Q I h => ?_⟩
  refine wpAny_Call_Name_kw (ld_glob I hg hm ?_ hdb)
  refine PySem.W.callWith_KW0 (h₀ := X.base) I.ok.mod.kin M.kp hall ?_ hpl
  refine thn (hkw.run pos pins s σ H _ I h) fun ws s2 ⟨zs, H2, I2, rz, l2, q2⟩ => ⟨I2.kIn, ?_⟩
  rw [hks]
  have hq := q2 (s2.heap.objs.size + 1) s2.heap.objs.size (I2.hok.fresh (Nat.le_succ _)) (I2.hok.fresh (Nat.le_refl _)) (Nat.ne_of_lt (Nat.lt_succ_self _))
  have I3 := Inv.made (C := C) I2
  have r1 : Vals [V.ref (s2.heap.objs.size + 1)] [Value.ref (s2.heap.objs.size + 1)] := .cons rfl .nil
  have r2 := hb.rel r1 rz
  refine wpAny_call (make_map (f := f) I2.kIn M.makes M.init (beq_iff_eq.mp M.fn) (codeAny_mono (F.run _ X.stack _ _ ⟨[Value.ref (s2.heap.objs.size + 1)], ks.zip ws⟩ (g [Value.ref (s2.heap.objs.size + 1)] ws) _ _ (ES σ) (hr.make C [] (ks.zip ws))
    (I3.env0.make C [] (ks.zip ws)) (hb.to _ [Value.ref (s2.heap.objs.size + 1)] ws I3.kIn rfl (rz.length.symm.trans l2)) r2 hq) fun r s' hq' => ?_))
  cases r with
  | error e => exact hx σ pins _ _ e s' I3 hq'
  | ok fl =>
    cases fl with
    | ret u =>
      obtain ⟨v, H', I4, rv, ev, q3⟩ := I3.after hq'
      subst ev
      exact ⟨rv, ⟨V.ref (s2.heap.objs.size + 1), H', I4, rfl, q3⟩⟩
    | next => exact False.elim hq'
    | brk => exact False.elim hq'
    | cont => exact False.elim hq'
end
theorem passNo {X : Cx} {σ : L2.St} : PassesAt (L2.CX X.prog X.w) X σ (WE (fun _ _ _ _ => False) σ) := by
  intro pins H s e s' I c
  obtain ⟨_, _, _, _, _, _, _, _, _, _, _, _, z⟩ := c
  exact z.elim
end Sx
set_option Elab.async false
set_option maxRecDepth 100000
set_option maxHeartbeats 4000000
set_option linter.all false
set_option autoImplicit false
/-! Readings, one step a lemma; heaps by footprints. -/
namespace Rd
open PySem PySem.Spec PyProof.Rows L2 Sx
/-! ### promises by the number of arguments -/
def A0 (φ : Hp → VK → XK → Prop) : Sp := fun vs H Q E => vs = [] ∧ φ H Q E
def A1 (φ : V → Hp → VK → XK → Prop) : Sp := fun vs H Q E => ∃ x, vs = [x] ∧ φ x H Q E
def A2 (φ : V → V → Hp → VK → XK → Prop) : Sp := fun vs H Q E => ∃ x y, vs = [x, y] ∧ φ x y H Q E
def A3 (φ : V → V → V → Hp → VK → XK → Prop) : Sp := fun vs H Q E => ∃ x y z, vs = [x, y, z] ∧ φ x y z H Q E
def A4 (φ : V → V → V → V → Hp → VK → XK → Prop) : Sp := fun vs H Q E => ∃ x y z u, vs = [x, y, z, u] ∧ φ x y z u H Q E
def A5 (φ : V → V → V → V → V → Hp → VK → XK → Prop) : Sp := fun vs H Q E => ∃ x y z u w, vs = [x, y, z, u, w] ∧ φ x y z u w H Q E
def A6 (φ : V → V → V → V → V → V → Hp → VK → XK → Prop) : Sp := fun vs H Q E => ∃ x y z u w o, vs = [x, y, z, u, w, o] ∧ φ x y z u w o H Q E
theorem A0.len {φ : Hp → VK → XK → Prop} {vs : List V} {H : Hp} {Q : VK} {E : XK} (h : A0 φ vs H Q E) : vs.length = 0 := by obtain ⟨rfl, _⟩ := h; rfl
theorem A1.len {φ : V → Hp → VK → XK → Prop} {vs : List V} {H : Hp} {Q : VK} {E : XK} (h : A1 φ vs H Q E) : vs.length = 1 := by obtain ⟨_, rfl, _⟩ := h; rfl
theorem A2.len {φ : V → V → Hp → VK → XK → Prop} {vs : List V} {H : Hp} {Q : VK} {E : XK} (h : A2 φ vs H Q E) : vs.length = 2 := by obtain ⟨_, _, rfl, _⟩ := h; rfl
theorem A3.len {φ : V → V → V → Hp → VK → XK → Prop} {vs : List V} {H : Hp} {Q : VK} {E : XK} (h : A3 φ vs H Q E) : vs.length = 3 := by obtain ⟨_, _, _, rfl, _⟩ := h; rfl
theorem A4.len {φ : V → V → V → V → Hp → VK → XK → Prop} {vs : List V} {H : Hp} {Q : VK} {E : XK} (h : A4 φ vs H Q E) : vs.length = 4 := by obtain ⟨_, _, _, _, rfl, _⟩ := h; rfl
theorem A5.len {φ : V → V → V → V → V → Hp → VK → XK → Prop} {vs : List V} {H : Hp} {Q : VK} {E : XK} (h : A5 φ vs H Q E) : vs.length = 5 := by obtain ⟨_, _, _, _, _, rfl, _⟩ := h; rfl
theorem A6.len {φ : V → V → V → V → V → V → Hp → VK → XK → Prop} {vs : List V} {H : Hp} {Q : VK} {E : XK} (h : A6 φ vs H Q E) : vs.length = 6 := by obtain ⟨_, _, _, _, _, _, rfl, _⟩ := h; rfl
theorem a0 {φ : Hp → VK → XK → Prop} {H : Hp} {Q : VK} {E : XK} (h : φ H Q E) : A0 φ [] H Q E := ⟨rfl, h⟩
theorem a1 {φ : V → Hp → VK → XK → Prop} {x : V} {H : Hp} {Q : VK} {E : XK} (h : φ x H Q E) : A1 φ [x] H Q E := ⟨x, rfl, h⟩
theorem a2 {φ : V → V → Hp → VK → XK → Prop} {x y : V} {H : Hp} {Q : VK} {E : XK} (h : φ x y H Q E) : A2 φ [x, y] H Q E := ⟨x, y, rfl, h⟩
theorem a3 {φ : V → V → V → Hp → VK → XK → Prop} {x y z : V} {H : Hp} {Q : VK} {E : XK} (h : φ x y z H Q E) : A3 φ [x, y, z] H Q E := ⟨x, y, z, rfl, h⟩
theorem a4 {φ : V → V → V → V → Hp → VK → XK → Prop} {x y z u : V} {H : Hp} {Q : VK} {E : XK} (h : φ x y z u H Q E) : A4 φ [x, y, z, u] H Q E := ⟨x, y, z, u, rfl, h⟩
theorem a5 {φ : V → V → V → V → V → Hp → VK → XK → Prop} {x y z u w : V} {H : Hp} {Q : VK} {E : XK} (h : φ x y z u w H Q E) : A5 φ [x, y, z, u, w] H Q E := ⟨x, y, z, u, w, rfl, h⟩
theorem a6 {φ : V → V → V → V → V → V → Hp → VK → XK → Prop} {x y z u w o : V} {H : Hp} {Q : VK} {E : XK} (h : φ x y z u w o H Q E) : A6 φ [x, y, z, u, w, o] H Q E := ⟨x, y, z, u, w, o, rfl, h⟩
def A7 (φ : V → V → V → V → V → V → V → Hp → VK → XK → Prop) : Sp := fun vs H Q E => ∃ x0 x1 x2 x3 x4 x5 x6, vs = [x0, x1, x2, x3, x4, x5, x6] ∧ φ x0 x1 x2 x3 x4 x5 x6 H Q E
theorem A7.len {φ : V → V → V → V → V → V → V → Hp → VK → XK → Prop} {vs : List V} {H : Hp} {Q : VK} {E : XK} (h : A7 φ vs H Q E) : vs.length = 7 := by obtain ⟨_, _, _, _, _, _, _, rfl, _⟩ := h; rfl
theorem a7 {φ : V → V → V → V → V → V → V → Hp → VK → XK → Prop} {x0 x1 x2 x3 x4 x5 x6 : V} {H : Hp} {Q : VK} {E : XK} (h : φ x0 x1 x2 x3 x4 x5 x6 H Q E) : A7 φ [x0, x1, x2, x3, x4, x5, x6] H Q E := ⟨x0, x1, x2, x3, x4, x5, x6, rfl, h⟩
def A8 (φ : V → V → V → V → V → V → V → V → Hp → VK → XK → Prop) : Sp := fun vs H Q E => ∃ x0 x1 x2 x3 x4 x5 x6 x7, vs = [x0, x1, x2, x3, x4, x5, x6, x7] ∧ φ x0 x1 x2 x3 x4 x5 x6 x7 H Q E
theorem A8.len {φ : V → V → V → V → V → V → V → V → Hp → VK → XK → Prop} {vs : List V} {H : Hp} {Q : VK} {E : XK} (h : A8 φ vs H Q E) : vs.length = 8 := by obtain ⟨_, _, _, _, _, _, _, _, rfl, _⟩ := h; rfl
theorem a8 {φ : V → V → V → V → V → V → V → V → Hp → VK → XK → Prop} {x0 x1 x2 x3 x4 x5 x6 x7 : V} {H : Hp} {Q : VK} {E : XK} (h : φ x0 x1 x2 x3 x4 x5 x6 x7 H Q E) : A8 φ [x0, x1, x2, x3, x4, x5, x6, x7] H Q E := ⟨x0, x1, x2, x3, x4, x5, x6, x7, rfl, h⟩
def A9 (φ : V → V → V → V → V → V → V → V → V → Hp → VK → XK → Prop) : Sp := fun vs H Q E => ∃ x0 x1 x2 x3 x4 x5 x6 x7 x8, vs = [x0, x1, x2, x3, x4, x5, x6, x7, x8] ∧ φ x0 x1 x2 x3 x4 x5 x6 x7 x8 H Q E
theorem A9.len {φ : V → V → V → V → V → V → V → V → V → Hp → VK → XK → Prop} {vs : List V} {H : Hp} {Q : VK} {E : XK} (h : A9 φ vs H Q E) : vs.length = 9 := by obtain ⟨_, _, _, _, _, _, _, _, _, rfl, _⟩ := h; rfl
theorem a9 {φ : V → V → V → V → V → V → V → V → V → Hp → VK → XK → Prop} {x0 x1 x2 x3 x4 x5 x6 x7 x8 : V} {H : Hp} {Q : VK} {E : XK} (h : φ x0 x1 x2 x3 x4 x5 x6 x7 x8 H Q E) : A9 φ [x0, x1, x2, x3, x4, x5, x6, x7, x8] H Q E := ⟨x0, x1, x2, x3, x4, x5, x6, x7, x8, rfl, h⟩
def A10 (φ : V → V → V → V → V → V → V → V → V → V → Hp → VK → XK → Prop) : Sp := fun vs H Q E => ∃ x0 x1 x2 x3 x4 x5 x6 x7 x8 x9, vs = [x0, x1, x2, x3, x4, x5, x6, x7, x8, x9] ∧ φ x0 x1 x2 x3 x4 x5 x6 x7 x8 x9 H Q E
theorem A10.len {φ : V → V → V → V → V → V → V → V → V → V → Hp → VK → XK → Prop} {vs : List V} {H : Hp} {Q : VK} {E : XK} (h : A10 φ vs H Q E) : vs.length = 10 := by obtain ⟨_, _, _, _, _, _, _, _, _, _, rfl, _⟩ := h; rfl
theorem a10 {φ : V → V → V → V → V → V → V → V → V → V → Hp → VK → XK → Prop} {x0 x1 x2 x3 x4 x5 x6 x7 x8 x9 : V} {H : Hp} {Q : VK} {E : XK} (h : φ x0 x1 x2 x3 x4 x5 x6 x7 x8 x9 H Q E) : A10 φ [x0, x1, x2, x3, x4, x5, x6, x7, x8, x9] H Q E := ⟨x0, x1, x2, x3, x4, x5, x6, x7, x8, x9, rfl, h⟩
def A11 (φ : V → V → V → V → V → V → V → V → V → V → V → Hp → VK → XK → Prop) : Sp := fun vs H Q E => ∃ x0 x1 x2 x3 x4 x5 x6 x7 x8 x9 x10, vs = [x0, x1, x2, x3, x4, x5, x6, x7, x8, x9, x10] ∧ φ x0 x1 x2 x3 x4 x5 x6 x7 x8 x9 x10 H Q E
theorem A11.len {φ : V → V → V → V → V → V → V → V → V → V → V → Hp → VK → XK → Prop} {vs : List V} {H : Hp} {Q : VK} {E : XK} (h : A11 φ vs H Q E) : vs.length = 11 := by obtain ⟨_, _, _, _, _, _, _, _, _, _, _, rfl, _⟩ := h; rfl
theorem a11 {φ : V → V → V → V → V → V → V → V → V → V → V → Hp → VK → XK → Prop} {x0 x1 x2 x3 x4 x5 x6 x7 x8 x9 x10 : V} {H : Hp} {Q : VK} {E : XK} (h : φ x0 x1 x2 x3 x4 x5 x6 x7 x8 x9 x10 H Q E) : A11 φ [x0, x1, x2, x3, x4, x5, x6, x7, x8, x9, x10] H Q E := ⟨x0, x1, x2, x3, x4, x5, x6, x7, x8, x9, x10, rfl, h⟩
def A12 (φ : V → V → V → V → V → V → V → V → V → V → V → V → Hp → VK → XK → Prop) : Sp := fun vs H Q E => ∃ x0 x1 x2 x3 x4 x5 x6 x7 x8 x9 x10 x11, vs = [x0, x1, x2, x3, x4, x5, x6, x7, x8, x9, x10, x11] ∧ φ x0 x1 x2 x3 x4 x5 x6 x7 x8 x9 x10 x11 H Q E
theorem A12.len {φ : V → V → V → V → V → V → V → V → V → V → V → V → Hp → VK → XK → Prop} {vs : List V} {H : Hp} {Q : VK} {E : XK} (h : A12 φ vs H Q E) : vs.length = 12 := by obtain ⟨_, _, _, _, _, _, _, _, _, _, _, _, rfl, _⟩ := h; rfl
theorem a12 {φ : V → V → V → V → V → V → V → V → V → V → V → V → Hp → VK → XK → Prop} {x0 x1 x2 x3 x4 x5 x6 x7 x8 x9 x10 x11 : V} {H : Hp} {Q : VK} {E : XK} (h : φ x0 x1 x2 x3 x4 x5 x6 x7 x8 x9 x10 x11 H Q E) : A12 φ [x0, x1, x2, x3, x4, x5, x6, x7, x8, x9, x10, x11] H Q E := ⟨x0, x1, x2, x3, x4, x5, x6, x7, x8, x9, x10, x11, rfl, h⟩
/-! ### attribute lists -/
theorem putF_hit (f : Str) (v y : V) (r : List (Str × V)) : putF f v ((f, y) :: r) = (f, v) :: r := if_pos rfl
theorem putF_miss {f g : Str} (h : ¬ g = f) (v y : V) (r : List (Str × V)) : putF f v ((g, y) :: r) = (g, y) :: putF f v r := if_neg h
theorem putF_nil (f : Str) (v : V) : putF f v [] = [(f, v)] := rfl
theorem look_hit (f : Str) (y : V) (r : List (Str × V)) : ((f, y) :: r).lookup f = some y := by rw [lookup_put, if_pos rfl]
theorem look_miss {f g : Str} (h : ¬ g = f) (y : V) (r : List (Str × V)) : ((f, y) :: r).lookup g = r.lookup g := by rw [lookup_put, if_neg h]
/-! ### steps -/
section
variable {K : PySem.W.Frag} {D : Ends} {σ : L2.St} {H : Hp} {t u : TS} {te ta tb tc : TE} {tt tu : TT} {g : TG} {Q : VK} {QT : Bool → Hp → Prop} {v x y : V} {i : Nat} {r : R2} {tl tr : TA} {QA : List V → Hp → Prop}
theorem s_seq (h : t { D with nx := u D } σ H) : tSeq t u D σ H := h
theorem s_asg (h : te σ H fun x H1 => g x σ H1 D.nx) : tAsg te g D σ H := h
theorem g_name {R : L2.St → Hp → Prop} (h : R (σ.set i (some v)) H) : gName i v σ H R := h
theorem s_ret (h : te σ H D.rt) : tRet te D σ H := h
theorem s_retN (h : D.rt .non H) : tRetN D σ H := h
theorem s_drop (h : te σ H fun _ H1 => D.nx σ H1) : tDrop te D σ H := h
theorem s_if (h : tt σ H fun b H1 => if b = true then t D σ H1 else u D σ H1) : tIfS tt t u D σ H := h
theorem s_next (h : D.nx σ H) : tNext D σ H := h
theorem s_cont (h : D.ct σ H) : tCont D σ H := h
theorem s_break (h : D.bk σ H) : tBreak D σ H := h
theorem d_nx {a c d : L2.St → Hp → Prop} {b : V → Hp → Prop} (h : a σ H) : (Ends.mk a b c d).nx σ H := h
theorem d_rt {a c d : L2.St → Hp → Prop} {b : V → Hp → Prop} (h : b v H) : (Ends.mk a b c d).rt v H := h
theorem d_bk {a c d : L2.St → Hp → Prop} {b : V → Hp → Prop} (h : c σ H) : (Ends.mk a b c d).bk σ H := h
theorem d_ct {a c d : L2.St → Hp → Prop} {b : V → Hp → Prop} (h : d σ H) : (Ends.mk a b c d).ct σ H := h
def kSet (K : PySem.W.Frag) (f : Str) (y x : V) (H : Hp) (R : Hp → Prop) : Prop := ∃ a C dx fs, x = .ref a ∧ H a = some (.ins C dx fs) ∧ Cls K C ∧ NoAttr K C f ∧ fs.length < 1000 ∧ R (upd H a (.ins C dx (putF f y fs)))
theorem s_fld {f : Str} (h : tb σ H fun y H1 => ta σ H1 fun x H2 => kSet K f y x H2 (D.nx σ)) : sFld K ta tb f D σ H := h
theorem k_set {f : Str} {R : Hp → Prop} {a C dx : Addr} {fs fs' : List (Str × V)} (h : H a = some (.ins C dx fs)) (c : Cls K C) (n : NoAttr K C f) (hp : putF f y fs = fs') (l : fs.length < 1000) (q : R (upd H a (.ins C dx fs'))) : kSet K f y (.ref a) H R := ⟨a, C, dx, fs, rfl, h, c, n, l, hp ▸ q⟩
theorem e_var (h : σ[i]? = some (some v)) (q : Q v H) : tVar i σ H Q := ⟨v, h, q⟩
theorem e_c (q : Q v H) : tC v σ H Q := q
theorem e_op (h : ta σ H fun x H1 => tb σ H1 fun y H2 => r x y H2 Q) : tOp r ta tb σ H Q := h
theorem e_un {ru : V → Hp → VK → Prop} (h : ta σ H fun x H1 => ru x H1 Q) : tUn ru ta σ H Q := h
theorem o_I0 {gg : Int → Int → V} {m n : Int} (q : Q (gg m n) H) : rI0 gg (.int m) (.int n) H Q := ⟨m, n, rfl, rfl, q⟩
theorem o_I {Cc : Int → Int → Prop} {gg : Int → Int → V} {m n : Int} (c : Cc m n) (q : Q (gg m n) H) : rI Cc gg (.int m) (.int n) H Q := ⟨m, n, rfl, rfl, c, q⟩
theorem o_U {gg : Int → V} {m : Int} (q : Q (gg m) H) : rU gg (.int m) H Q := ⟨m, rfl, q⟩
theorem o_eq (s : scal x y = true) (q : Q (.bl (decide (x = y))) H) : rEq x y H Q := ⟨s, q⟩
theorem o_ne (s : scal x y = true) (q : Q (.bl (!decide (x = y))) H) : rNe x y H Q := ⟨s, q⟩
theorem o_ixL {p : Addr} {xs : List V} {n : Int} (h : SqL K H p xs) (a : atI xs n = some v) (q : Q v H) : rIxL K (.ref p) (.int n) H Q := ⟨p, xs, n, v, rfl, rfl, h, a, q⟩
theorem o_ixT {p : Addr} {xs : List V} {n : Int} (h : SqT K H p xs) (a : atI xs n = some v) (q : Q v H) : rIxT K (.ref p) (.int n) H Q := ⟨p, xs, n, v, rfl, rfl, h, a, q⟩
def kFld (K : PySem.W.Frag) (f : Str) (x : V) (H : Hp) (Q : VK) : Prop := ∃ a C dx fs v, x = .ref a ∧ H a = some (.ins C dx fs) ∧ Cls K C ∧ NoAttr K C f ∧ fs.lookup f = some v ∧ Q v H
theorem e_fld {f : Str} (h : ta σ H fun x H1 => kFld K f x H1 Q) : tFld K ta f σ H Q := h
theorem k_fld {f : Str} {a C dx : Addr} {fs : List (Str × V)} (h : H a = some (.ins C dx fs)) (c : Cls K C) (n : NoAttr K C f) (l : fs.lookup f = some v) (q : Q v H) : kFld K f (.ref a) H Q := ⟨a, C, dx, fs, v, rfl, h, c, n, l, q⟩
def kMeth (C : Addr) (m : Str) (sp : Sp) (E : XK) (t : TA) (σ : L2.St) (x : V) (H : Hp) (Q : VK) : Prop := ∃ a dx fs, x = .ref a ∧ H a = some (.ins C dx fs) ∧ fs.lookup m = none ∧ t σ H fun vs H2 => sp (x :: vs) H2 Q E
theorem e_meth {C : Addr} {m : Str} {sp : Sp} {ES : L2.St → XK} (h : ta σ H fun x H1 => kMeth C m sp (ES σ) tl σ x H1 Q) : tMethS C m sp ES ta tl σ H Q := h
theorem k_meth {C a dx : Addr} {m : Str} {sp : Sp} {E : XK} {fs : List (Str × V)} (h : H a = some (.ins C dx fs)) (l : fs.lookup m = none) (q : tl σ H fun vs H2 => sp (.ref a :: vs) H2 Q E) : kMeth C m sp E tl σ (.ref a) H Q := ⟨a, dx, fs, rfl, h, l, q⟩
theorem e_call {sp : Sp} {ES : L2.St → XK} (h : tl σ H fun vs H1 => sp vs H1 Q (ES σ)) : tCallS sp ES tl σ H Q := h
theorem e_make {C : Addr} {sp : Sp} {ES : L2.St → XK} (h : tl σ H fun vs H1 => ∀ x dx, H1 x = none → H1 dx = none → dx ≠ x → sp (.ref x :: vs) (upd (upd H1 dx (.own x)) x (.ins C dx [])) (fun v H2 => v = .non ∧ Q (.ref x) H2) (ES σ)) : tMakeS C sp ES tl σ H Q := h
theorem e_cb {rc : List V → Hp → VK → Prop} (h : tl σ H fun vs H1 => rc vs H1 Q) : tCB rc tl σ H Q := h
theorem l_nil (h : QA [] H) : tNil σ H QA := h
theorem l_cons (h : ta σ H fun x H1 => tl σ H1 fun xs H2 => QA (x :: xs) H2) : tCons ta tl σ H QA := h
theorem e_lst (h : tl σ H fun xs H1 => xs.length ≤ sizeLine ∧ ∀ p, H1 p = none → Q (.ref p) (upd H1 p (.lst xs))) : tLst tl σ H Q := h
theorem e_tup (h : tl σ H fun xs H1 => xs.length ≤ sizeLine ∧ ∀ p, H1 p = none → Q (.ref p) (upd H1 p (.tup xs))) : tTup tl σ H Q := h
theorem e_bm {T : String} {rm : V → List V → Hp → VK → Prop} (h : ta σ H fun x H1 => tyV K T x H1 ∧ tl σ H1 fun xs H2 => rm x xs H2 Q) : tBM K T rm ta tl σ H Q := h
theorem e_bm0 {T : String} {rm : V → List V → Hp → VK → Prop} (h : ta σ H fun x H1 => tyV K T x H1 ∧ rm x [] H1 Q) : tBM0 K T rm ta σ H Q := h
theorem e_not (h : ta σ H fun x H1 => ∃ c, x = .bl c ∧ Q (.bl (!c)) H1) : tNotV ta σ H Q := h
theorem e_if (h : tt σ H fun c H1 => if c = true then ta σ H1 Q else tb σ H1 Q) : tIf tt ta tb σ H Q := h
def kT (x : V) (H : Hp) (QT : Bool → Hp → Prop) : Prop := ∃ k, x = .bl k ∧ QT k H
theorem k_t {b : Bool} (q : QT b H) : kT (.bl b) H QT := ⟨b, rfl, q⟩
theorem t_test (h : te σ H fun x H1 => kT x H1 QT) : tTest te σ H QT := h
theorem t_B (h : te σ H fun x H1 => kT x H1 QT) : tB te σ H QT := h
theorem t_and (h : tt σ H fun c H1 => if c = true then tu σ H1 QT else QT false H1) : tAnd tt tu σ H QT := h
theorem t_or (h : tt σ H fun c H1 => if c = true then QT true H1 else tu σ H1 QT) : tOr tt tu σ H QT := h
theorem t_not (h : tt σ H fun c H1 => QT (!c) H1) : tNot tt σ H QT := h
theorem e_and (h : ta σ H fun x H1 => ∃ c, x = .bl c ∧ if c = true then tb σ H1 Q else Q (.bl false) H1) : tAndV ta tb σ H Q := h
theorem e_or (h : ta σ H fun x H1 => ∃ c, x = .bl c ∧ if c = true then Q (.bl true) H1 else tb σ H1 Q) : tOrV ta tb σ H Q := h
theorem e_chain {r' : R2} (h : ta σ H fun x H1 => tb σ H1 fun y H2 => r x y H2 fun z H3 => kT z H3 fun k H4 => if k = true then tc σ H4 fun w' H5 => r' y w' H5 Q else Q (.bl false) H4) : tChain r r' ta tb tc σ H Q := by
  refine h
theorem s_raise {W : WX} {C : Addr} {fld : Str} (h : te σ H fun v H1 => okV v ∧ ∀ d, H1 d = none → W (.ref C) (some d) σ (upd H1 d (.xd [(fld, v)]))) : tRaiseE W C fld te D σ H := h
theorem e_sl {rs : V → Option Int → Option Int → Hp → VK → Prop} {to th : TO} (h : te σ H fun x H1 => to σ H1 fun l H2 => th σ H2 fun u H3 => rs x l u H3 Q) : tSl rs te to th σ H Q := h
theorem p_no {QO : Option Int → Hp → Prop} (h : QO none H) : tNoPart σ H QO := h
def kI (x : V) (H : Hp) (QO : Option Int → Hp → Prop) : Prop := ∃ n, x = .int n ∧ QO (some n) H
theorem k_i {QO : Option Int → Hp → Prop} {n : Int} (q : QO (some n) H) : kI (.int n) H QO := ⟨n, rfl, q⟩
theorem p_some {QO : Option Int → Hp → Prop} (h : te σ H fun x H1 => kI x H1 QO) : tPart te σ H QO := h
/-! ### ifs -/
theorem if_d {c A B : Prop} [Decidable c] (h1 : c → A) (h2 : ¬ c → B) : if decide c = true then A else B := by
  by_cases h : c
  · rw [if_pos (decide_eq_true h)]; exact h1 h
  · rw [if_neg (by rw [decide_eq_false h]; exact Bool.false_ne_true)]; exact h2 h
theorem if_nd {c A B : Prop} [Decidable c] (h1 : ¬ c → A) (h2 : c → B) : if (!decide c) = true then A else B := by
  by_cases h : c
  · rw [decide_eq_true h]; exact iteF (h2 h)
  · rw [decide_eq_false h]; exact iteT (h1 h)
theorem if_dT {c A B : Prop} [Decidable c] (h : c) (q : A) : if decide c = true then A else B := by rw [if_pos (decide_eq_true h)]; exact q
theorem if_dF {c A B : Prop} [Decidable c] (h : ¬ c) (q : B) : if decide c = true then A else B := if_d (fun z => absurd z h) fun _ => q
theorem if_ndT {c A B : Prop} [Decidable c] (h : ¬ c) (q : A) : if (!decide c) = true then A else B := if_nd (fun _ => q) fun z => absurd z h
theorem if_ndF {c A B : Prop} [Decidable c] (h : c) (q : B) : if (!decide c) = true then A else B := if_nd (fun z => absurd h z) fun _ => q
theorem if_b {b : Bool} {A B : Prop} (h1 : b = true → A) (h2 : b = false → B) : if b = true then A else B := by
  cases b with
  | true => exact iteT (h1 rfl)
  | false => exact iteF (h2 rfl)
end
/-! ### lists of values -/
theorem upd_rw {H : Hp} {a : Addr} {o : HO} (h : H a = some o) : upd H a o = H := by
  funext b
  by_cases hb : b = a
  · rw [hb, upd_same, h]
  · rw [upd_ne hb]
theorem sz {n : Nat} (h : n ≤ 100000) : n ≤ sizeLine := by rw [sizeLine_eq]; omega
theorem szl {n : Nat} (h : n < 100000) : n < sizeLine := by rw [sizeLine_eq]; omega
/-! ### what a step may touch -/
/-- all that was tracked, but at fp, is as it was -/
def Fp (fp : List Addr) (H H' : Hp) : Prop := ∀ b o, H b = some o → b ∉ fp → H' b = some o
theorem Fp.refl (fp : List Addr) (H : Hp) : Fp fp H H := fun _ _ h _ => h
theorem Fp.trans {fp : List Addr} {H H1 H2 : Hp} (a : Fp fp H H1) (b : Fp fp H1 H2) : Fp fp H H2 := fun c o h n => b c o (a c o h n) n
theorem Fp.mono {fp fq : List Addr} {H H' : Hp} (a : Fp fp H H') (s : ∀ x, x ∈ fp → x ∈ fq) : Fp fq H H' := fun c o h n => a c o h fun z => n (s c z)
theorem Fp.new {fp : List Addr} {H : Hp} {a : Addr} {o : HO} (h : H a = none) : Fp fp H (upd H a o) := fun c u e _ => by rw [upd_ne (ne_of_none e h)]; exact e
theorem Fp.at_ {fp : List Addr} {H : Hp} {a : Addr} {o : HO} (h : a ∈ fp) : Fp fp H (upd H a o) := fun c u e n => by
  rw [upd_ne (fun z => n (by rw [z]; exact h))]
  exact e
/-- what was new in H does not count -/
theorem Fp.drop {fp fq : List Addr} {H H' : Hp} (a : Fp fp H H') (s : ∀ x, x ∈ fp → x ∈ fq ∨ H x = none) : Fp fq H H' := fun c o h n => a c o h fun z => by
  rcases s c z with q | q
  · exact n q
  · rw [q] at h; cases h
theorem Fp.free {fp : List Addr} {H H' : Hp} (e : Fp fp H H') {l : Addr} (n : l ∉ fp) (h : H' l = none) : H l = none := by
  cases q : H l with
  | none => rfl
  | some o => rw [e l o q n] at h; cases h
theorem Fp.seq {K : PySem.W.Frag} {fp : List Addr} {H H' : Hp} {a : Addr} {xs : List V} (e : Fp fp H H') (n : a ∉ fp) (h : SqL K H a xs) : SqL K H' a xs := by
  rcases h with (h | ⟨o, h⟩) | h
  · exact .inl (.inl (e _ _ h n))
  · exact .inl (.inr ⟨o, e _ _ h n⟩)
  · exact .inr h
theorem Fp.tup {K : PySem.W.Frag} {fp : List Addr} {H H' : Hp} {a : Addr} {xs : List V} (e : Fp fp H H') (n : a ∉ fp) (h : SqT K H a xs) : SqT K H' a xs := by
  rcases h with (h | ⟨o, h⟩) | h
  · exact .inl (.inl (e _ _ h n))
  · exact .inl (.inr ⟨o, e _ _ h n⟩)
  · exact .inr h

/-! ### built-ins by name -/
section
variable {X : Cx} {K : PySem.W.Frag} {H : Hp} {Q : VK} {v : V}
def rLn (K : PySem.W.Frag) : List V → Hp → VK → Prop := fun xs H Q => ∃ p ys, xs = [.ref p] ∧ (SqL K H p ys ∨ SqT K H p ys) ∧ Q (.int ys.length) H
theorem call_ln : CallR X (.builtin "len") (rLn X.K) := call_len_seq
theorem c_ln {p : Addr} {ys : List V} (h : SqL K H p ys) (q : Q (.int ys.length) H) : rLn K [.ref p] H Q := ⟨p, ys, rfl, .inl h, q⟩
theorem c_lnT {p : Addr} {ys : List V} (h : SqT K H p ys) (q : Q (.int ys.length) H) : rLn K [.ref p] H Q := ⟨p, ys, rfl, .inr h, q⟩
def rAb : List V → Hp → VK → Prop := fun xs H Q => ∃ i, xs = [.int i] ∧ Q (.int (if i < 0 then -i else i)) H
theorem call_ab : CallR X (.builtin "abs") rAb := call_abs
theorem c_ab {i : Int} (q : Q (.int (if i < 0 then -i else i)) H) : rAb [.int i] H Q := ⟨i, rfl, q⟩
def rIn1 : List V → Hp → VK → Prop := fun xs H Q => ∃ i, xs = [.int i] ∧ Q (.int i) H
theorem call_in : CallR X (.type "int") rIn1 := fun pins s σ H xs us Q I r ⟨i, e, q⟩ => call_int1 pins s σ H xs us Q I r (.inl ⟨i, e, q⟩)
theorem c_in {i : Int} (q : Q (.int i) H) : rIn1 [.int i] H Q := ⟨i, rfl, q⟩
def rMx : List V → Hp → VK → Prop := fun xs H Q => ∃ i j, xs = [.int i, .int j] ∧ Q (.int (if j > i then j else i)) H
theorem call_mx (hc : X.calm = true) : CallR X (.builtin "max") rMx := call_max2 hc
theorem c_mx {i j : Int} (q : Q (.int (if j > i then j else i)) H) : rMx [.int i, .int j] H Q := ⟨i, j, rfl, q⟩
def rMn : List V → Hp → VK → Prop := fun xs H Q => ∃ i j, xs = [.int i, .int j] ∧ Q (.int (if j < i then j else i)) H
theorem call_mn (hc : X.calm = true) : CallR X (.builtin "min") rMn := call_min2 hc
theorem c_mn {i j : Int} (q : Q (.int (if j < i then j else i)) H) : rMn [.int i, .int j] H Q := ⟨i, j, rfl, q⟩
def rLs (K : PySem.W.Frag) : List V → Hp → VK → Prop := fun xs H Q => ∃ p ys, xs = [.ref p] ∧ (SqL K H p ys ∨ SqT K H p ys) ∧ ∀ l, H l = none → Q (.ref l) (upd H l (.lst ys))
theorem call_ls : CallR X (.type "list") (rLs X.K) := call_list_of
theorem c_ls {p : Addr} {ys : List V} (h : SqL K H p ys) (q : ∀ l, H l = none → Q (.ref l) (upd H l (.lst ys))) : rLs K [.ref p] H Q := ⟨p, ys, rfl, .inl h, q⟩
theorem c_app {l : Addr} {xs : List V} (h : H l = some (.lst xs)) (z : xs.length < sizeLine) (q : Q .non (upd H l (.lst (xs ++ [v])))) : rAppend (.ref l) [v] H Q := ⟨l, xs, v, rfl, rfl, h, z, q⟩
theorem c_pop0 {l : Addr} {x : V} {xs : List V} (h : H l = some (.lst (x :: xs))) (z : xs.length < 100000) (q : Q x (upd H l (.lst xs))) : rPopAt (.ref l) [.int 0] H Q :=
  ⟨l, x :: xs, 0, 0, x, rfl, rfl, h, by decide, by decide, by
    unfold seqIndex?
    first | rfl | simp, rfl, q⟩
theorem c_setL {p : Addr} {xs : List V} {n : Int} {j : Nat} {R : Hp → Prop} (h : H p = some (.lst xs)) (e : n = (j : Int)) (hj : j < xs.length) (q : R (upd H p (.lst (xs.set j v)))) : rSetL (.ref p) (.int n) v H R := by
  subst e
  exact ⟨p, xs, _, j, rfl, rfl, h, Evl.ixN_nat hj, q⟩
theorem g_sub {to ti : TE} {ts : TSet} {σ : L2.St} {R : L2.St → Hp → Prop} (h : to σ H fun o H1 => ti σ H1 fun i H2 => ts o i v H2 fun H3 => R σ H3) : gSub to ti ts v σ H R := h
theorem o_cat {l b : Addr} {xs zs : List V} (h : H l = some (.lst xs)) (h' : H b = some (.lst zs)) (z : xs.length + zs.length ≤ sizeLine) (q : ∀ p, H p = none → Q (.ref p) (upd H p (.lst (xs ++ zs)))) : rCat (.ref l) (.ref b) H Q := ⟨l, b, xs, zs, rfl, rfl, h, h', z, q⟩
theorem o_slL {a : Addr} {xs : List V} {lo hi : Option Int} (h : SqL K H a xs) (q : ∀ p, H p = none → Q (.ref p) (upd H p (.lst (cutV xs lo hi)))) : rSlL K (.ref a) lo hi H Q := ⟨a, xs, rfl, h, q⟩
/-- data of one level, as PyData -/
def toD : V → PyData
  | .bl b => .bool b
  | .int i => .int i
  | .str x => .str x
  | _ => .none
def flat : V → Bool
  | .non => true | .bl _ => true | .int _ => true | .str x => PyData.strOk x | _ => false
theorem dp_flat {x : V} (h : flat x = true) : Dp K H x (toD x) := by
  cases x with
  | non => exact .non
  | bl b => exact .bl b
  | int i => exact .int i
  | str z => exact .str z
  | byt _ => cases h
  | flt _ => cases h
  | ref _ => cases h
  | ty _ => cases h
theorem dp_flats : ∀ {xs : List V}, (∀ x ∈ xs, flat x = true) → DpAll K H xs (xs.map toD)
  | [], _ => .nil
  | x :: xs, h => .cons (dp_flat (h x List.mem_cons_self)) (dp_flats fun y hy => h y (List.mem_cons_of_mem _ hy))
theorem lay_flat {x : V} (h : flat x = true) : (toD x).canLay0 = true := by
  cases x with
  | str z => show PyData.strOk z = true; exact h
  | non => rfl
  | bl b => rfl
  | int i => rfl
  | byt _ => cases h
  | flt _ => cases h
  | ref _ => cases h
  | ty _ => cases h
theorem lay_flats : ∀ {xs : List V}, (∀ x ∈ xs, flat x = true) → PyData.canLayAll0 (xs.map toD) = true
  | [], _ => rfl
  | x :: xs, h => by
    show ((toD x).canLay0 && PyData.canLayAll0 (xs.map toD)) = true
    rw [lay_flat (h x List.mem_cons_self), lay_flats fun y hy => h y (List.mem_cons_of_mem _ hy)]
    rfl
theorem depth_flat (x : V) : (toD x).depth ≤ 1 := by
  cases x <;> first | decide | (simp [toD, PyData.depth])
theorem depth_flats : ∀ xs : List V, PyData.depthAll (xs.map toD) ≤ 1
  | [] => by simp [PyData.depthAll]
  | x :: xs => by
    have h1 := depth_flat x
    have h2 := depth_flats xs
    show PyData.depthAll (toD x :: xs.map toD) ≤ 1
    simp only [PyData.depthAll]
    omega
theorem shaped_flat {x : V} (h : flat x = true) : SeqAt.shaped (toD x) = true := by
  show ((toD x).canLay0 && decide ((toD x).depth ≤ 64)) = true
  rw [lay_flat h, decide_eq_true (Nat.le_trans (depth_flat x) (by decide))]
  rfl
theorem shaped_flats {xs : List V} (h : ∀ x ∈ xs, flat x = true) : SeqAt.shaped (.list (xs.map toD)) = true := by
  have d1 := depth_flats xs
  show (PyData.canLay0 (.list (xs.map toD)) && decide (PyData.depth (.list (xs.map toD)) ≤ 64)) = true
  have e1 : PyData.canLay0 (.list (xs.map toD)) = PyData.canLayAll0 (xs.map toD) := by simp only [PyData.canLay0]
  have e2 : PyData.depth (.list (xs.map toD)) ≤ 64 := by simp only [PyData.depth]; omega
  rw [e1, lay_flats h, decide_eq_true e2]
  rfl
theorem shaped_flatT {xs : List V} (h : ∀ x ∈ xs, flat x = true) : SeqAt.shaped (.tuple (xs.map toD)) = true := by
  have d1 := depth_flats xs
  show (PyData.canLay0 (.tuple (xs.map toD)) && decide (PyData.depth (.tuple (xs.map toD)) ≤ 64)) = true
  have e1 : PyData.canLay0 (.tuple (xs.map toD)) = PyData.canLayAll0 (xs.map toD) := by simp only [PyData.canLay0]
  have e2 : PyData.depth (.tuple (xs.map toD)) ≤ 64 := by simp only [PyData.depth]; omega
  rw [e1, lay_flats h, decide_eq_true e2]
  rfl
/-- the same data on both sides -/
theorem eqv_self {d : PyData} (h : SeqAt.shaped d = true) : PyData.eqv d d = true := by
  have h1 : d.canLay0 = true := SeqAt.canLay_of_shaped h
  first | exact SeqAt.eqv_refl d h1 | exact P3.eqv_refl d h1 | exact eqv_refl d h1
theorem o_eqD {x y : V} {d : PyData} (h1 : Dp K H x d) (h2 : Dp K H y d) (s : SeqAt.shaped d = true) (q : Q (.bl true) H) : rEqD K x y H Q := ⟨d, d, h1, h2, s, s, by rw [eqv_self s]; exact q⟩
theorem o_neD {x y : V} {d : PyData} (h1 : Dp K H x d) (h2 : Dp K H y d) (s : SeqAt.shaped d = true) (q : Q (.bl false) H) : rNeD K x y H Q := ⟨d, d, h1, h2, s, s, by rw [eqv_self s]; exact q⟩
/-- two lists of plain values that are one list -/
theorem o_neL {a b : Addr} {xs : List V} (h1 : SqL K H a xs) (h2 : SqL K H b xs) (f : ∀ x ∈ xs, flat x = true) (q : Q (.bl false) H) : rNeD K (.ref a) (.ref b) H Q :=
  o_neD (.lst h1 (dp_flats f)) (.lst h2 (dp_flats f)) (shaped_flats f) q
theorem o_eqL {a b : Addr} {xs : List V} (h1 : SqL K H a xs) (h2 : SqL K H b xs) (f : ∀ x ∈ xs, flat x = true) (q : Q (.bl true) H) : rEqD K (.ref a) (.ref b) H Q :=
  o_eqD (.lst h1 (dp_flats f)) (.lst h2 (dp_flats f)) (shaped_flats f) q
theorem o_neT {a b : Addr} {xs : List V} (h1 : SqT K H a xs) (h2 : SqT K H b xs) (f : ∀ x ∈ xs, flat x = true) (q : Q (.bl false) H) : rNeD K (.ref a) (.ref b) H Q :=
  o_neD (.tup h1 (dp_flats f)) (.tup h2 (dp_flats f)) (shaped_flatT f) q
theorem flat_ints (ns : List Int) : ∀ x ∈ ns.map V.int, flat x = true := fun x hx => by
  obtain ⟨n, _, rfl⟩ := List.mem_map.mp hx
  rfl
end

/-! ### loops and comprehensions -/
section
variable {K : PySem.W.Frag} {D : Ends} {σ : L2.St} {H : Hp} {tb : TS} {te tl : TE} {tt tc : TT} {g : TG} {Q : VK} {j : Nat} {b : Addr} {xs ys : List V} {vs : List Nat}
theorem f_list (Pv : Nat → L2.St → Hp → Prop) (hv : σ[j]? = some (some (.ref b))) (hS : SqL K H b xs) (h0 : Pv 0 σ H) (hl : ∀ i σ' H', i ≤ xs.length → Pv i σ' H' → SqL K H' b xs)
    (hs : ∀ i x σ' H', xs[i]? = some x → Pv i σ' H' → g x σ' H' fun σ2 H2 => tb { D with nx := Pv (i + 1), ct := Pv (i + 1), bk := D.nx } σ2 H2) (hd : ∀ σ' H', Pv xs.length σ' H' → D.nx σ' H') : tFor (iList K (tVar j)) g tb D σ H :=
  ⟨_, hv, b, rfl, ⟨_, hS⟩, for_list Pv h0 hl hs hd⟩
/-- over a list that an expression hands back -/
theorem f_listE (h : tl σ H fun x H1 => ∃ (p : Addr) (xs : List V) (Pv : Nat → L2.St → Hp → Prop), x = .ref p ∧ SqL K H1 p xs ∧ Pv 0 σ H1 ∧ (∀ i σ' H', i ≤ xs.length → Pv i σ' H' → SqL K H' p xs) ∧
    (∀ i x σ' H', xs[i]? = some x → Pv i σ' H' → g x σ' H' fun σ2 H2 => tb { D with nx := Pv (i + 1), ct := Pv (i + 1), bk := D.nx } σ2 H2) ∧ ∀ σ' H', Pv xs.length σ' H' → D.nx σ' H') (up : ∀ R R' : VK, (∀ x H1, R x H1 → R' x H1) → tl σ H R → tl σ H R') : tFor (iList K tl) g tb D σ H :=
  up _ _ (fun _ _ ⟨p, xs, Pv, e, hS, h0, hl, hs, hd⟩ => ⟨p, e, ⟨xs, hS⟩, for_list Pv h0 hl hs hd⟩) h
/-- over the first n of a list -/
theorem f_listS {n : Int} (hv : σ[j]? = some (some (.ref b))) (hS : SqL K H b xs)
    (h : ∀ c, H c = none → ∃ Pv : Nat → L2.St → Hp → Prop, Pv 0 σ (upd H c (.lst (cutV xs none (some n)))) ∧ (∀ i σ' H', i ≤ (cutV xs none (some n)).length → Pv i σ' H' → SqL K H' c (cutV xs none (some n))) ∧
      (∀ i x σ' H', (cutV xs none (some n))[i]? = some x → Pv i σ' H' → g x σ' H' fun σ2 H2 => tb { D with nx := Pv (i + 1), ct := Pv (i + 1), bk := D.nx } σ2 H2) ∧ ∀ σ' H', Pv (cutV xs none (some n)).length σ' H' → D.nx σ' H') :
    tFor (iList K (tSl (rSlL K) (tVar j) tNoPart (tPart (tC (.int n))))) g tb D σ H := by
  show tSl (rSlL K) (tVar j) tNoPart (tPart (tC (.int n))) σ H _
  refine e_sl (e_var hv (p_no (p_some (e_c (k_i (o_slL hS fun c hc => ?_))))))
  obtain ⟨Pv, h0, hl, hs, hd⟩ := h c hc
  exact ⟨c, rfl, ⟨_, Or.inl (Or.inl upd_same)⟩, for_list Pv h0 hl hs hd⟩
theorem Fp.add {fp : List Addr} {H H1 H2 : Hp} (F : Fp [] H H1) (f : Fp fp H1 H2) (n : ∀ z ∈ fp, H z = none) : Fp [] H H2 := fun c o h m => f c o (F c o h (by simp)) fun z => by rw [n c z] at h; cases h
/-- for i in range(n) -/
def kRng (g : TG) (tb : TS) (D : Ends) (σ : L2.St) (x : V) (H1 : Hp) : Prop := iRng1 (fun _ _ R => R [x] H1) σ H1 fun J H1 => ∃ W : Nat → Nat → L2.St → Hp → Prop, (∃ m, W 0 m σ H1) ∧ ∀ i m σ H, W i m σ H →
  (J.stop i H ∧ D.nx σ H) ∨ (J.go i H ∧ ∃ N : L2.St → Hp → Prop, (∀ σ' H', N σ' H' → ∃ m', m' < m ∧ W (i + 1) m' σ' H') ∧ ∀ x H', J.yld i H x H' → g x σ H' fun σ2 H2 => tb { D with nx := N, ct := N, bk := D.nx } σ2 H2)
theorem f_rng1 (h : te σ H fun x H1 => kRng g tb D σ x H1) : tFor (iRng1 (tCons te tNil)) g tb D σ H := h
theorem k_rng (Pv : Nat → L2.St → Hp → Prop) {n : Int} (h1 : -(2 ^ 62) ≤ n) (h2 : n < 2 ^ 62) (h0 : Pv 0 σ H)
    (hs : ∀ i σ' H', i < n.toNat → Pv i σ' H' → g (.int (i : Nat)) σ' H' fun σ2 H2 => tb { D with nx := Pv (i + 1), ct := Pv (i + 1), bk := D.nx } σ2 H2) (hd : ∀ σ' H', Pv n.toNat σ' H' → D.nx σ' H') : kRng g tb D σ (.int n) H :=
  ⟨n, rfl, h1, h2, for_range (lo := 0) (n := n.toNat) Pv h0 (fun i σ' H' hi p => by
    have e0 : (0 : Int) + (i : Int) = (i : Int) := Int.zero_add _
    rw [e0]
    exact hs i σ' H' hi p) hd⟩
theorem w_by (W : Nat → L2.St → Hp → Prop) (m0 : Nat) (h0 : W m0 σ H) (hs : ∀ m σ' H', W m σ' H' → tc σ' H' fun k H1 => if k = true then ∃ N : L2.St → Hp → Prop, (∀ σ2 H2, N σ2 H2 → ∃ m', m' < m ∧ W m' σ2 H2) ∧ tb { D with nx := N, ct := N, bk := D.nx } σ' H1 else D.nx σ' H1) :
    tWhile tc tb D σ H := ⟨W, ⟨m0, h0⟩, hs⟩
theorem take_snoc {α : Type} {l : List α} {i : Nat} {x : α} (h : l[i]? = some x) : l.take (i + 1) = l.take i ++ [x] := by
  obtain ⟨hi, rfl⟩ := List.getElem?_eq_some_iff.mp h
  rw [List.take_succ, List.getElem?_eq_getElem hi]
  rfl
/-- [e for x in xs], e without a trace in the heap -/
theorem lc_pure (hv : σ[j]? = some (some (.ref b))) (hS : SqL K H b xs) (hlen : ys.length = xs.length) (hz : xs.length < 100000)
    (hs : ∀ (E : Addr) (i : Nat) (x y : V) (H' : Hp) (R : VK), H E = none → xs[i]? = some x → ys[i]? = some y → H' = upd H E (.lst (ys.take i)) → R y H' → g x (wipe σ vs) H' fun σ2 H2 => wipe σ2 vs = wipe σ vs ∧ te σ2 H2 R)
    (q : ∀ E, H E = none → Q (.ref E) (upd H E (.lst ys))) : tLc (iList K (tVar j)) g tYes te vs σ H Q := by
  refine ⟨_, hv, b, rfl, ⟨_, hS⟩, fun E hE => ?_⟩
  refine lc_list (K := K) (a := b) (xs := xs) (fun i H' => H' = upd H E (.lst (ys.take i))) (by rw [List.take_zero]) (fun i H' hi e => ?_) (fun i x H' hx e => ?_) fun H' e => ?_
  · subst e; exact (Fp.new (fp := []) hE).seq (by simp) hS
  · have hi : i < xs.length := (List.getElem?_eq_some_iff.mp hx).1
    have hy : ys[i]? = some ys[i] := List.getElem?_eq_getElem (by omega)
    have z := hs E i x _ H' (fun y H4 => ∃ acc, H4 E = some (.lst acc) ∧ acc.length < sizeLine ∧ upd H4 E (.lst (acc ++ [y])) = upd H E (.lst (ys.take (i + 1)))) hE hx hy e
      ⟨ys.take i, by rw [e]; exact upd_same, szl (by rw [List.length_take]; omega), by rw [e, upd_upd, take_snoc hy]⟩
    exact z
  · rw [e, ← hlen, List.take_length]
    exact q E hE
theorem lc_pureR {n : Int} (h1 : 0 ≤ n) (h2 : n < 100000) (hlen : (ys.length : Int) = n)
    (hs : ∀ (E : Addr) (i : Nat) (y : V) (H' : Hp) (R : VK), H E = none → (i : Int) < n → ys[i]? = some y → H' = upd H E (.lst (ys.take i)) → R y H' → g (.int (i : Nat)) (wipe σ vs) H' fun σ2 H2 => wipe σ2 vs = wipe σ vs ∧ te σ2 H2 R)
    (q : ∀ E, H E = none → Q (.ref E) (upd H E (.lst ys))) : (iRng1 (fun _ _ R => R [V.int n] H)) σ H fun J H1 => ∀ E, H1 E = none → ∃ W : Nat → Nat → Hp → Prop, (∃ m, W 0 m (upd H1 E (.lst []))) ∧ ∀ i m H, W i m H →
    (J.stop i H ∧ Q (.ref E) H) ∨ (J.go i H ∧ ∃ Nx : Hp → Prop, (∀ H', Nx H' → ∃ m', m' < m ∧ W (i + 1) m' H') ∧ ∀ x H', J.yld i H x H' → g x (wipe σ vs) H' fun σ2 H2 => wipe σ2 vs = wipe σ vs ∧ tYes σ2 H2 fun b H3 =>
      if b = true then te σ2 H3 fun y H4 => ∃ acc, H4 E = some (.lst acc) ∧ acc.length < sizeLine ∧ Nx (upd H4 E (.lst (acc ++ [y]))) else Nx H3) := by
  refine ⟨n, rfl, by omega, by omega, fun E hE => ?_⟩
  refine lc_range (lo := 0) (n := n.toNat) (fun i H' => H' = upd H E (.lst (ys.take i))) (by rw [List.take_zero]) (fun i H' hi e => ?_) fun H' e => ?_
  · have hy : ys[i]? = some ys[i] := List.getElem?_eq_getElem (by omega)
    have e0 : (0 : Int) + (i : Int) = (i : Int) := Int.zero_add _
    rw [e0]
    exact hs E i _ H' (fun y H4 => ∃ acc, H4 E = some (.lst acc) ∧ acc.length < sizeLine ∧ upd H4 E (.lst (acc ++ [y])) = upd H E (.lst (ys.take (i + 1)))) hE (by omega) hy e
      ⟨ys.take i, by rw [e]; exact upd_same, szl (by rw [List.length_take]; omega), by rw [e, upd_upd, take_snoc hy]⟩
  · have : n.toNat = ys.length := by omega
    rw [e, this, List.take_length]
    exact q E hE
def kLcR (g : TG) (te : TE) (vs : List Nat) (σ : L2.St) (Q : VK) (x : V) (H : Hp) : Prop := (iRng1 (fun _ _ R => R [x] H)) σ H fun J H1 => ∀ E, H1 E = none → ∃ W : Nat → Nat → Hp → Prop, (∃ m, W 0 m (upd H1 E (.lst []))) ∧ ∀ i m H, W i m H →
    (J.stop i H ∧ Q (.ref E) H) ∨ (J.go i H ∧ ∃ Nx : Hp → Prop, (∀ H', Nx H' → ∃ m', m' < m ∧ W (i + 1) m' H') ∧ ∀ x H', J.yld i H x H' → g x (wipe σ vs) H' fun σ2 H2 => wipe σ2 vs = wipe σ vs ∧ tYes σ2 H2 fun b H3 =>
      if b = true then te σ2 H3 fun y H4 => ∃ acc, H4 E = some (.lst acc) ∧ acc.length < sizeLine ∧ Nx (upd H4 E (.lst (acc ++ [y]))) else Nx H3)
theorem fm_snoc {α : Type} {f : α → Option V} {l : List α} {i : Nat} {x : α} (h : l[i]? = some x) : (l.take (i + 1)).filterMap f = (l.take i).filterMap f ++ (f x).toList := by
  rw [take_snoc h, List.filterMap_append]
  cases e : f x <;> simp [e]
/-- [e for x in xs if t], where t and e may make new objects -/
theorem lc_filt (f : V → Option V) (hv : σ[j]? = some (some (.ref b))) (hS : SqL K H b xs) (hz : xs.length < 100000)
    (hs : ∀ (E : Addr) (i : Nat) (x : V) (H' : Hp) (R : VK) (N : Hp → Prop), H E = none → xs[i]? = some x → H' E = some (.lst ((xs.take i).filterMap f)) → Fp [] H H' → (∀ y H4, f x = some y → Fp [] H' H4 → R y H4) → (f x = none → ∀ H4, Fp [] H' H4 → N H4) →
      g x (wipe σ vs) H' fun σ2 H2 => wipe σ2 vs = wipe σ vs ∧ tt σ2 H2 fun k H3 => if k = true then te σ2 H3 R else N H3)
    (q : ∀ E H', H E = none → H' E = some (.lst (xs.filterMap f)) → Fp [] H H' → Q (.ref E) H') : tLc (iList K (tVar j)) g tt te vs σ H Q := by
  refine ⟨_, hv, b, rfl, ⟨_, hS⟩, fun E hE => ?_⟩
  refine lc_list (K := K) (a := b) (xs := xs) (fun i H' => H' E = some (.lst ((xs.take i).filterMap f)) ∧ Fp [] H H') ⟨by rw [List.take_zero]; exact upd_same, Fp.new hE⟩ (fun i H' hi e => ?_) (fun i x H' hx e => ?_) fun H' e => ?_
  · exact e.2.seq (by simp) hS
  · have hi : i < xs.length := (List.getElem?_eq_some_iff.mp hx).1
    exact hs E i x H' (fun y H4 => ∃ acc, H4 E = some (.lst acc) ∧ acc.length < sizeLine ∧ (upd H4 E (.lst (acc ++ [y]))) E = some (.lst ((xs.take (i + 1)).filterMap f)) ∧ Fp [] H (upd H4 E (.lst (acc ++ [y])))) (fun H4 => H4 E = some (.lst ((xs.take (i + 1)).filterMap f)) ∧ Fp [] H H4) hE hx e.1 e.2
      (fun y H4 ey f4 => ⟨_, f4 _ _ e.1 (by simp), szl (Nat.lt_of_le_of_lt (List.length_filterMap_le _ _) (by rw [List.length_take]; omega)), by rw [upd_same, fm_snoc hx, ey]; rfl, Fp.drop (fp := [E]) (((e.2.trans f4).mono (by simp)).trans (Fp.at_ (by simp))) fun z hz => by rcases List.mem_singleton.mp hz with rfl; exact .inr hE⟩)
      (fun ey H4 f4 => ⟨by rw [fm_snoc hx, ey]; simpa using f4 _ _ e.1 (by simp), e.2.trans f4⟩)
  · rw [List.take_length] at e
    exact q E H' hE e.1 e.2
def kLcF (g : TG) (tt : TT) (te : TE) (vs : List Nat) (σ : L2.St) (Q : VK) (x : V) (H : Hp) : Prop := (iRng1 (fun _ _ R => R [x] H)) σ H fun J H1 => ∀ E, H1 E = none → ∃ W : Nat → Nat → Hp → Prop, (∃ m, W 0 m (upd H1 E (.lst []))) ∧ ∀ i m H, W i m H →
    (J.stop i H ∧ Q (.ref E) H) ∨ (J.go i H ∧ ∃ Nx : Hp → Prop, (∀ H', Nx H' → ∃ m', m' < m ∧ W (i + 1) m' H') ∧ ∀ x H', J.yld i H x H' → g x (wipe σ vs) H' fun σ2 H2 => wipe σ2 vs = wipe σ vs ∧ tt σ2 H2 fun b H3 =>
      if b = true then te σ2 H3 fun y H4 => ∃ acc, H4 E = some (.lst acc) ∧ acc.length < sizeLine ∧ Nx (upd H4 E (.lst (acc ++ [y]))) else Nx H3)
theorem e_lcF (h : tl σ H fun x H1 => kLcF g tt te vs σ Q x H1) : tLc (iRng1 (tCons tl tNil)) g tt te vs σ H Q := h
theorem fm_range {f : Nat → Option V} {i : Nat} : (List.range (i + 1)).filterMap f = (List.range i).filterMap f ++ (f i).toList := by
  rw [List.range_succ, List.filterMap_append]
  cases e : f i <;> simp [e]
/-- [e for i in range(n) if t] -/
theorem k_lcF {n : Int} (f : Nat → Option V) (h1 : 0 ≤ n) (h2 : n < 100000)
    (hs : ∀ (E : Addr) (i : Nat) (H' : Hp) (R : VK) (N : Hp → Prop), H E = none → (i : Int) < n → H' E = some (.lst ((List.range i).filterMap f)) → Fp [] H H' → (∀ y H4, f i = some y → Fp [] H' H4 → R y H4) → (f i = none → ∀ H4, Fp [] H' H4 → N H4) →
      g (.int (i : Nat)) (wipe σ vs) H' fun σ2 H2 => wipe σ2 vs = wipe σ vs ∧ tt σ2 H2 fun k H3 => if k = true then te σ2 H3 R else N H3)
    (q : ∀ E H', H E = none → H' E = some (.lst ((List.range n.toNat).filterMap f)) → Fp [] H H' → Q (.ref E) H') : kLcF g tt te vs σ Q (.int n) H := by
  refine ⟨n, rfl, by omega, by omega, fun E hE => ?_⟩
  refine lc_range (lo := 0) (n := n.toNat) (fun i H' => H' E = some (.lst ((List.range i).filterMap f)) ∧ Fp [] H H') ⟨upd_same, Fp.new hE⟩ (fun i H' hi e => ?_) fun H' e => q E H' hE e.1 e.2
  have e0 : (0 : Int) + (i : Int) = (i : Int) := Int.zero_add _
  rw [e0]
  exact hs E i H' (fun y H4 => ∃ acc, H4 E = some (.lst acc) ∧ acc.length < sizeLine ∧ (upd H4 E (.lst (acc ++ [y]))) E = some (.lst ((List.range (i + 1)).filterMap f)) ∧ Fp [] H (upd H4 E (.lst (acc ++ [y])))) (fun H4 => H4 E = some (.lst ((List.range (i + 1)).filterMap f)) ∧ Fp [] H H4) hE (by omega) e.1 e.2
    (fun y H4 ey f4 => ⟨_, f4 _ _ e.1 (by simp), szl (Nat.lt_of_le_of_lt (List.length_filterMap_le _ _) (by rw [List.length_range]; omega)), by rw [upd_same, fm_range, ey]; rfl, Fp.drop (fp := [E]) (((e.2.trans f4).mono (by simp)).trans (Fp.at_ (by simp))) fun z hz => by rcases List.mem_singleton.mp hz with rfl; exact .inr hE⟩)
    (fun ey H4 f4 => ⟨by rw [fm_range, ey]; simpa using f4 _ _ e.1 (by simp), e.2.trans f4⟩)
theorem e_lcR (h : tl σ H fun x H1 => kLcR g te vs σ Q x H1) : tLc (iRng1 (tCons tl tNil)) g tYes te vs σ H Q := h
theorem k_lcR {n : Int} (h1 : 0 ≤ n) (h2 : n < 100000) (hlen : (ys.length : Int) = n)
    (hs : ∀ (E : Addr) (i : Nat) (y : V) (H' : Hp) (R : VK), H E = none → (i : Int) < n → ys[i]? = some y → H' = upd H E (.lst (ys.take i)) → R y H' → g (.int (i : Nat)) (wipe σ vs) H' fun σ2 H2 => wipe σ2 vs = wipe σ vs ∧ te σ2 H2 R)
    (q : ∀ E, H E = none → Q (.ref E) (upd H E (.lst ys))) : kLcR g te vs σ Q (.int n) H := lc_pureR h1 h2 hlen hs q
end

theorem atI_zero {α : Type} (x : α) (xs : List α) : atI (x :: xs) 0 = some x := by
  have h : (x :: xs)[0]? = some x := rfl
  exact atI_nat (j := 0) h
theorem int_inj {i j : Int} (h : V.int i = V.int j) : i = j := V.int.inj h
theorem int_ne {i j : Int} (h : ¬ V.int i = V.int j) : i ≠ j := fun z => h (by rw [z])

theorem k_ty {K : PySem.W.Frag} {H : Hp} {p : Addr} {xs : List V} {R : Prop} (h : SqL K H p xs) (q : R) : tyV K "list" (.ref p) H ∧ R := ⟨Or.inl ⟨rfl, xs, h⟩, q⟩

theorem o_rep {K : PySem.W.Frag} {H : Hp} {Q : VK} {l : Addr} {n : Int} {xs : List V} (h : H l = some (.lst xs)) (h1 : 0 ≤ n) (h2 : xs.length * n.toNat ≤ 100000) (h3 : n < 2 ^ 63) (q : ∀ p, H p = none → Q (.ref p) (upd H p (.lst (List.replicate n.toNat xs).flatten))) : rRep (.ref l) (.int n) H Q :=
  ⟨l, n, xs, rfl, rfl, h, by omega, h3, sz h2, q⟩

theorem c_isBool {K : PySem.W.Frag} {H : Hp} {Q : VK} {b : Bool} (q : Q (.bl true) H) : rIsi K [.bl b, .ty "bool"] H Q := ⟨.bl b, .ty "bool", .type "bool", .type "bool", true, rfl, .ty _, .base (.bl b), kit_ty (by decide +kernel), q⟩
theorem c_isInt {K : PySem.W.Frag} {H : Hp} {Q : VK} {n : Int} (q : Q (.bl true) H) : rIsi K [.int n, .ty "int"] H Q := ⟨.int n, .ty "int", .type "int", .type "int", true, rfl, .ty _, .base (.int n), kit_ty (by decide +kernel), q⟩
theorem c_isBoolN {K : PySem.W.Frag} {H : Hp} {Q : VK} {n : Int} (q : Q (.bl false) H) : rIsi K [.int n, .ty "bool"] H Q := ⟨.int n, .ty "bool", .type "int", .type "bool", false, rfl, .ty _, .base (.int n), kit_ty (by decide +kernel), q⟩
theorem c_isList {K : PySem.W.Frag} {H : Hp} {Q : VK} {a : Addr} {xs : List V} (h : H a = some (.lst xs)) (q : Q (.bl true) H) : rIsi K [.ref a, .ty "list"] H Q := ⟨.ref a, .ty "list", .type "list", .type "list", true, rfl, .ty _, .base (.lst h), kit_ty (by decide +kernel), q⟩
theorem c_isTup {K : PySem.W.Frag} {H : Hp} {Q : VK} {a : Addr} {xs : List V} (h : H a = some (.tup xs)) (q : Q (.bl true) H) : rIsi K [.ref a, .ty "tuple"] H Q := ⟨.ref a, .ty "tuple", .type "tuple", .type "tuple", true, rfl, .ty _, .base (.tup h), kit_ty (by decide +kernel), q⟩
theorem c_isTupB {K : PySem.W.Frag} {H : Hp} {Q : VK} {a : Addr} {xs : List V} (h : H a = some (.tup xs)) (q : Q (.bl false) H) : rIsi K [.ref a, .ty "bool"] H Q := ⟨.ref a, .ty "bool", .type "tuple", .type "bool", false, rfl, .ty _, .base (.tup h), kit_ty (by decide +kernel), q⟩
/-- is True, is False -/
def rIsB : V → V → Hp → VK → Prop := fun x y H Q => ∃ a b, x = .bl a ∧ y = .bl b ∧ Q (.bl (decide (a = b))) H
def rNotB : V → V → Hp → VK → Prop := fun x y H Q => ∃ a b, x = .bl a ∧ y = .bl b ∧ Q (.bl (!decide (a = b))) H
theorem bo_beq (a b : Bool) : (Value.bool a == Value.bool b) = decide (a = b) := by cases a <;> cases b <;> decide +kernel
theorem op_isB {X : Cx} : OpR X (compareOp .Is) rIsB := by
  intro pins s σ H x y v u Q I rx ry h
  obtain ⟨a, b, rfl, rfl, q⟩ := h
  cases (show v = Value.bool a from rx)
  cases (show u = Value.bool b from ry)
  exact wpAny_is_plain rfl (fin_bl I q (bo_beq a b).symm)
theorem op_notB {X : Cx} : OpR X (compareOp .IsNot) rNotB := by
  intro pins s σ H x y v u Q I rx ry h
  obtain ⟨a, b, rfl, rfl, q⟩ := h
  cases (show v = Value.bool a from rx)
  cases (show u = Value.bool b from ry)
  exact wpAny_isNot_plain rfl (fin_bl I q (congrArg not (bo_beq a b).symm))
theorem o_isB {H : Hp} {Q : VK} {a b : Bool} (q : Q (.bl (decide (a = b))) H) : rIsB (.bl a) (.bl b) H Q := ⟨a, b, rfl, rfl, q⟩
theorem o_notB {H : Hp} {Q : VK} {a b : Bool} (q : Q (.bl (!decide (a = b))) H) : rNotB (.bl a) (.bl b) H Q := ⟨a, b, rfl, rfl, q⟩
theorem c_isTupI {K : PySem.W.Frag} {H : Hp} {Q : VK} {n : Int} (q : Q (.bl false) H) : rIsi K [.int n, .ty "tuple"] H Q := ⟨.int n, .ty "tuple", .type "int", .type "tuple", false, rfl, .ty _, .base (.int n), kit_ty (by decide +kernel), q⟩
theorem c_isNonB {K : PySem.W.Frag} {H : Hp} {Q : VK} (q : Q (.bl false) H) : rIsi K [.non, .ty "bool"] H Q := ⟨.non, .ty "bool", .type "NoneType", .type "bool", false, rfl, .ty _, .base .non, kit_ty (by decide +kernel), q⟩
theorem c_isNonT {K : PySem.W.Frag} {H : Hp} {Q : VK} (q : Q (.bl false) H) : rIsi K [.non, .ty "tuple"] H Q := ⟨.non, .ty "tuple", .type "NoneType", .type "tuple", false, rfl, .ty _, .base .non, kit_ty (by decide +kernel), q⟩
theorem k_bl {c : Bool} {P : Bool → Prop} (h : P c) : ∃ c', V.bl c = V.bl c' ∧ P c' := ⟨c, rfl, h⟩

section
variable {K : PySem.W.Frag} {H : Hp} {Q : VK} {σ : L2.St} {te : TE} {C D ae dd CT : Addr} {f : Str} {fs : List (Str × V)} {v : V} {cls : Value} {de : Option Addr}
def kXf (a : Addr) (cls : Value) (d : Option Addr) (C : Addr) (f : Str) (x : V) (H1 : Hp) (Q : VK) : Prop := x = .ref a ∧ cls = .ref C ∧ ∃ (dd : Addr) (fs : List (Str × V)) (v : V), d = some dd ∧ H1 dd = some (.xd fs) ∧ fs.lookup f = some v ∧ Q v H1
theorem e_xf (h : te σ H fun x H1 => kXf ae cls de C f x H1 Q) : tXf ae cls de C f te σ H Q := h
theorem k_xf (h : H dd = some (.xd fs)) (l : fs.lookup f = some v) (q : Q v H) : kXf ae (.ref C) (some dd) C f (.ref ae) H Q := ⟨rfl, rfl, dd, fs, v, rfl, h, l, q⟩
theorem c_isED (h : H dd = some (.xd fs)) (k : PySem.W.kitOne K (.ref D) (.ref CT) = some true) (q : Q (.bl true) H) : rIsED K D ae (.ref D) (some dd) [.ref ae, .ref CT] H Q :=
  ⟨.ref CT, .ref CT, true, dd, fs, rfl, rfl, rfl, h, fun u r => r, k, q⟩
theorem c_isEDty {n : String} (h : H dd = some (.xd fs)) (k : PySem.W.kitOne K (.ref D) (.type n) = some true) (q : Q (.bl true) H) : rIsED K D ae (.ref D) (some dd) [.ref ae, .ty n] H Q :=
  ⟨.ty n, .type n, true, dd, fs, rfl, rfl, rfl, h, fun u r => r, k, q⟩
theorem w_as {c : Value} {i : Nat} {ts : Addr → Value → Option Addr → TS} {Wout : WX} {D : Ends} (e : PySem.W.exmOne K cls c = some true)
    (h : ∀ a, H a = none → ts a cls de { nx := fun σ' H' => D.nx (σ'.set i none) H', rt := D.rt, bk := fun σ' H' => D.bk (σ'.set i none) H', ct := fun σ' H' => D.ct (σ'.set i none) H' } (σ.set i (some (.ref a))) H) : WE (wAs K c i ts Wout D) σ cls de H :=
  ⟨true, e, fun _ => h, fun z => Bool.noConfusion z⟩
end

theorem s_cut {D : Ends} {σ : L2.St} {H : Hp} {t u : TS} (Mid : L2.St → Hp → Prop) (h1 : t { D with nx := Mid } σ H) (h2 : ∀ σ' H', Mid σ' H' → u D σ' H') : Evl.tCut t u D σ H := ⟨Mid, h1, h2⟩

/-- a test whose outcomes are told once -/
def tUpT (t : TT) : TT := fun σ H Q => ∃ P : Bool → Hp → Prop, t σ H P ∧ ∀ b H1, P b H1 → Q b H1
theorem pt_up {X : Cx} {e : Expr} {t : TT} (h : PT X e t) : PT X e (tUpT t) := ⟨fun pins s σ H Q I ⟨P, q, m⟩ => thn (h.run pins s σ H P I q) fun _ _ ⟨H1, J, z⟩ => ⟨H1, J, m _ _ z⟩⟩
theorem t_up {t : TT} {σ : L2.St} {H : Hp} {Q : Bool → Hp → Prop} (P : Bool → Hp → Prop) (h : t σ H P) (k : ∀ b H1, P b H1 → Q b H1) : tUpT t σ H Q := ⟨P, h, k⟩
theorem cut1 {x : V} {xs : List V} : cutV (x :: xs) (some 1) none = xs := by
  unfold cutV
  simp [HT.sIx]

/-! ### dicts by texts -/
section
variable {K : PySem.W.Frag} {D : Ends} {σ : L2.St} {H : Hp} {Q : VK} {td ty tv te : TE} {a : Addr} {kvs : List (Key × V)} {s : Str} {v : V} {x y c : Int} {i : Nat}
theorem val_hit (k : Key) (v : V) (r : List (Key × V)) : valV ((k, v) :: r) k = some v := by simp [valV]
theorem val_miss {k k' : Key} (h : ¬ k = k') (v : V) (r : List (Key × V)) : valV ((k, v) :: r) k' = valV r k' := by simp [valV, h]
theorem val_nil (k : Key) : valV ([] : List (Key × V)) k = none := rfl
def kDGet (x y : V) (H : Hp) (Q : VK) : Prop := ∃ a v, x = .ref a ∧ DGet H a y (some v) ∧ Q v H
theorem e_dget (h : td σ H fun x H1 => ty σ H1 fun y H2 => kDGet x y H2 Q) : tDGet td ty σ H Q := h
theorem k_dget (h : H a = some (.dK kvs)) (l : valV kvs (Sum.inr s) = some v) (q : Q v H) : kDGet (.ref a) (.str s) H Q := ⟨a, v, rfl, .inl ⟨kvs, Sum.inr s, .inl h, rfl, l.symm⟩, q⟩
def kDPut (v x y : V) (H : Hp) (R : Hp → Prop) : Prop := ∃ a H4, x = .ref a ∧ DPut H a y v H4 ∧ R H4
theorem s_dput (h : tv σ H fun v H1 => td σ H1 fun x H2 => ty σ H2 fun y H3 => kDPut v x y H3 (D.nx σ)) : sDPut td ty tv D σ H := h
theorem k_dput {R : Hp → Prop} (h : H a = some (.dK kvs)) (hl : kvs.length < 100000) (q : R (upd H a (.dK (putK kvs (Sum.inr s) v)))) : kDPut v (.ref a) (.str s) H R := ⟨a, _, rfl, DPut.k (k := Sum.inr s) h (szl hl), q⟩
theorem c_sum {ns : List Int} (h : SqL K H a (ns.map V.int)) (q : Q (.int ns.sum) H) : rSum K [.ref a] H Q := ⟨a, ns, rfl, h, q⟩
/-! ### x ≤ y ≤ c -/
theorem o_chC (q : Q (.bl (decide (x ≤ y ∧ y ≤ c))) H) :
    rI0 (fun i j => V.bl (decide (i ≤ j))) (.int x) (.int y) H fun z H3 => kT z H3 fun k H4 => if k = true then tC (.int c) σ H4 fun w' H5 => rI0 (fun i j => V.bl (decide (i ≤ j))) (.int y) w' H5 Q else Q (.bl false) H4 := by
  refine o_I0 (k_t ?_)
  refine if_d (fun h => e_c (o_I0 ?_)) (fun h => ?_)
  · rw [show decide (y ≤ c) = decide (x ≤ y ∧ y ≤ c) from decide_eq_decide.mpr ⟨fun z => ⟨h, z⟩, fun z => z.2⟩]; exact q
  · rw [show false = decide (x ≤ y ∧ y ≤ c) from (decide_eq_false fun z => h z.1).symm]; exact q
theorem o_chV (hv : σ[i]? = some (some (.int c))) (q : Q (.bl (decide (x ≤ y ∧ y ≤ c))) H) :
    rI0 (fun i j => V.bl (decide (i ≤ j))) (.int x) (.int y) H fun z H3 => kT z H3 fun k H4 => if k = true then tVar i σ H4 fun w' H5 => rI0 (fun i j => V.bl (decide (i ≤ j))) (.int y) w' H5 Q else Q (.bl false) H4 := by
  refine o_I0 (k_t ?_)
  refine if_d (fun h => e_var hv (o_I0 ?_)) (fun h => ?_)
  · rw [show decide (y ≤ c) = decide (x ≤ y ∧ y ≤ c) from decide_eq_decide.mpr ⟨fun z => ⟨h, z⟩, fun z => z.2⟩]; exact q
  · rw [show false = decide (x ≤ y ∧ y ≤ c) from (decide_eq_false fun z => h z.1).symm]; exact q
theorem e_makeK {C : Addr} {m : Nat} {sp : Sp} {gV : List V → List V → List V} {ES : L2.St → XK} {tk : TA} (h : tk σ H fun zs H2 => zs.length = m ∧ ∀ x dx, H2 x = none → H2 dx = none → dx ≠ x →
  sp (gV [.ref x] zs) (upd (upd H2 dx (.own x)) x (.ins C dx [])) (fun v H3 => v = .non ∧ Q (.ref x) H3) (ES σ)) : tMakeKS C m sp gV ES tk σ H Q := h
def kTup (K : PySem.W.Frag) (n : Nat) (t : TGs) (v : V) (σ : L2.St) (H : Hp) (R : L2.St → Hp → Prop) : Prop := ∃ a xs, v = .ref a ∧ SqT K H a xs ∧ xs.length = n ∧ t xs σ H R
theorem g_tup {n : Nat} {t : TGs} {R : L2.St → Hp → Prop} {xs : List V} (h : SqT K H a xs) (hn : xs.length = n) (q : t xs σ H R) : gTup K n t (.ref a) σ H R := ⟨a, xs, rfl, h, hn, q⟩
theorem g_cons {t : TG} {u : TGs} {R : L2.St → Hp → Prop} {r : List V} (q : t v σ H fun σ' H' => u r σ' H' R) : gCons t u (v :: r) σ H R := ⟨v, r, rfl, q⟩
theorem g_nil {R : L2.St → Hp → Prop} (q : R σ H) : gNil [] σ H R := ⟨rfl, q⟩
end

def PL (fs : List (Str × V)) (n : Nat) : Prop := fs.length ≤ n
theorem PL.nil {n : Nat} : PL [] n := Nat.zero_le _
theorem putF_length (f : Str) (v : V) : ∀ fs : List (Str × V), (putF f v fs).length ≤ fs.length + 1
  | [] => Nat.le_refl _
  | (g, y) :: r => by
    by_cases h : g = f
    · rw [show putF f v ((g, y) :: r) = (g, v) :: r from if_pos h]
      exact Nat.le_succ _
    · rw [putF_miss h]
      exact Nat.succ_le_succ (putF_length f v r)
theorem PL.put {f : Str} {v : V} {fs : List (Str × V)} {n : Nat} (h : PL fs n) : PL (putF f v fs) (n + 1) := Nat.le_trans (putF_length f v fs) (Nat.succ_le_succ h)
theorem PL.lt {fs : List (Str × V)} {n : Nat} (h : PL fs n) (hn : n < 1000) : fs.length < 1000 := Nat.lt_of_le_of_lt h hn

/-- objects that stand -/
def Obs (H : Hp) (l : List (Addr × HO)) : Prop := ∀ p ∈ l, H p.1 = some p.2
theorem Obs.nil {H : Hp} : Obs H [] := fun p hp => by cases hp
theorem Obs.fp {H H1 : Hp} {l : List (Addr × HO)} {fp : List Addr} (u : Obs H l) (f : Fp fp H H1) (n : ∀ p ∈ l, p.1 ∉ fp) : Obs H1 l := fun p hp => f _ _ (u p hp) (n p hp)
theorem Obs.fp0 {H H1 : Hp} {l : List (Addr × HO)} (u : Obs H l) (f : Fp [] H H1) : Obs H1 l := u.fp f fun _ _ => by simp
theorem Obs.add {H : Hp} {l : List (Addr × HO)} {t : Addr} {o : HO} (u : Obs H l) (h : H t = none) : Obs (upd H t o) ((t, o) :: l) := fun p hp => by
  rcases List.mem_cons.mp hp with rfl | hp
  · exact upd_same
  · exact Fp.new (fp := []) h _ _ (u p hp) (by simp)
theorem Obs.cons {H : Hp} {l : List (Addr × HO)} {t : Addr} {o : HO} (u : Obs H l) (h : H t = some o) : Obs H ((t, o) :: l) := fun p hp => by
  rcases List.mem_cons.mp hp with rfl | hp
  · exact h
  · exact u p hp
/-- xs[i], read for an augmented assignment -/
theorem get_list {X : Cx} : PGet X (rIxL X.K) := by
  intro pins s σ H o i ov iv Q I rx ry h
  obtain ⟨p, xs, n, z, rfl, rfl, hq, he, q⟩ := h
  cases rx
  obtain ⟨t, rfl⟩ := ry
  obtain ⟨its, r, pl, hz⟩ := I.list hq
  obtain ⟨j, h1, h2, h3, h4, h5⟩ := atI_get he
  obtain ⟨w, ew, rw'⟩ := r.get h2
  have hl := r.length
  have hn := line63
  have fin : EP X pins σ Q w s := ⟨z, H, I, rw', q⟩
  by_cases h0 : 0 ≤ n
  · have hj : n.toNat = j := by
      rw [seqIndex_of h0 h5] at h1
      exact Option.some.inj h1
    refine L2.thn (wpAny_getItem_list (x := w) (Q := fun r s' => r = w ∧ EP X pins σ Q r s') pl.isList h0 (by omega) (by rw [hj]; simpa using ew) ⟨rfl, fin⟩) fun _ _ e => e.2
  · have hj : (n + (its.toArray.size : Int)).toNat = j := by
      rw [seqIndex_neg (by omega) h4] at h1
      rw [List.size_toArray, ← hl]
      exact Option.some.inj h1
    refine L2.thn (wpAny_getItem_list_neg (x := w) (Q := fun r s' => r = w ∧ EP X pins σ Q r s') pl.isList (by omega) (by rw [List.size_toArray] <;> omega) (by omega) (by rw [hj]; simpa using ew) ⟨rfl, fin⟩) fun _ _ e => e.2
theorem s_augS {D : Ends} {σ : L2.St} {H : Hp} {to ti te : TE} {tget : V → V → Hp → VK → Prop} {tip : TIp} {tset : TSet} (h : to σ H fun o H1 => ti σ H1 fun i H2 => tget o i H2 fun x H3 => te σ H3 fun y H4 => tip x y H4 fun z H5 => tset o i z H5 fun H6 => D.nx σ H6) : tAugS to ti te tget tip tset D σ H := h
theorem ip_I {f : Int → Int → Int} {m n : Int} {H : Hp} {Q : VK} (q : Q (.int (f m n)) H) : ipI f (.int m) (.int n) H Q := ⟨m, n, rfl, rfl, q⟩
def kAug (i : Nat) (te : TE) (tip : TIp) (σ : L2.St) (x : V) (H : Hp) (N : L2.St → Hp → Prop) : Prop := te σ H fun y H1 => tip x y H1 fun z H2 => N (σ.set i (some z)) H2
theorem s_augV {D : Ends} {σ : L2.St} {H : Hp} {te : TE} {tip : TIp} {i : Nat} {x : V} (hx : σ[i]? = some (some x)) (h : te σ H fun y H1 => tip x y H1 fun z H2 => D.nx (σ.set i (some z)) H2) : tAug i te tip D σ H := ⟨x, hx, h⟩

/-! ### comprehensions over enumerate(list), over a list that is made -/
section
variable {K : PySem.W.Frag} {σ : L2.St} {H : Hp} {Q : VK} {g : TG} {tt : TT} {te ta : TE} {vs : List Nat} {tl : TA} {a : Addr} {xs : List V}
def lcT (J : It) (g : TG) (tt : TT) (te : TE) (vs : List Nat) (σ : L2.St) (Q : VK) (H1 : Hp) : Prop := ∀ E, H1 E = none → ∃ W : Nat → Nat → Hp → Prop, (∃ m, W 0 m (upd H1 E (.lst []))) ∧ ∀ i m H, W i m H →
    (J.stop i H ∧ Q (.ref E) H) ∨ (J.go i H ∧ ∃ Nx : Hp → Prop, (∀ H', Nx H' → ∃ m', m' < m ∧ W (i + 1) m' H') ∧ ∀ x H', J.yld i H x H' → g x (wipe σ vs) H' fun σ2 H2 => wipe σ2 vs = wipe σ vs ∧ tt σ2 H2 fun b H3 =>
      if b = true then te σ2 H3 fun y H4 => ∃ acc, H4 E = some (.lst acc) ∧ acc.length < sizeLine ∧ Nx (upd H4 E (.lst (acc ++ [y]))) else Nx H3)
def kLcE (K : PySem.W.Frag) (g : TG) (tt : TT) (te : TE) (vs : List Nat) (σ : L2.St) (Q : VK) (ys : List V) (H1 : Hp) : Prop := ∃ a xs, ys = [.ref a] ∧ SqL K H1 a xs ∧ lcT (Ite K a) g tt te vs σ Q H1
theorem e_lcE (h : tl σ H fun ys H1 => kLcE K g tt te vs σ Q ys H1) : tLc (iEnum K tl) g tt te vs σ H Q := h
theorem k_lcE (F : Nat → Option V) (hS : SqL K H a xs) (hz : xs.length < 100000)
    (hs : ∀ (E T : Addr) (i : Nat) (x : V) (H' : Hp) (R : VK) (N : Hp → Prop), H E = none → xs[i]? = some x → H' T = some (.tup [.int (i : Nat), x]) → H' E = some (.lst ((List.range i).filterMap F)) → Fp [] H H' → (∀ y H4, F i = some y → Fp [] H' H4 → R y H4) → (F i = none → ∀ H4, Fp [] H' H4 → N H4) →
      g (.ref T) (wipe σ vs) H' fun σ2 H2 => wipe σ2 vs = wipe σ vs ∧ tt σ2 H2 fun k H3 => if k = true then te σ2 H3 R else N H3)
    (q : ∀ E H', H E = none → H' E = some (.lst ((List.range xs.length).filterMap F)) → Fp [] H H' → Q (.ref E) H') : kLcE K g tt te vs σ Q [.ref a] H := by
  refine ⟨a, xs, rfl, hS, fun E hE => ?_⟩
  refine ⟨fun i m H' => m = xs.length - i ∧ i ≤ xs.length ∧ H' E = some (.lst ((List.range i).filterMap F)) ∧ Fp [] H H', ⟨_, rfl, Nat.zero_le _, upd_same, Fp.new hE⟩, ?_⟩
  rintro i m H' ⟨rfl, hi, e1, e2⟩
  have hq : SqL K H' a xs := e2.seq (by simp) hS
  by_cases hlt : i < xs.length
  · refine .inr ⟨⟨xs, xs[i], hq, List.getElem?_eq_getElem hlt⟩, fun H4 => H4 E = some (.lst ((List.range (i + 1)).filterMap F)) ∧ Fp [] H H4, fun H4 z => ⟨_, by omega, rfl, by omega, z.1, z.2⟩, ?_⟩
    rintro v H2 ⟨T, x, rfl, hT, rfl, hx⟩
    have hx2 := hx xs hq
    have fT : Fp [] H' (upd H' T (.tup [.int (i : Nat), x])) := Fp.new hT
    have f2 := e2.trans fT
    have E2 := fT _ _ e1 (by simp)
    exact hs E T i x _ (fun y H4 => ∃ acc, H4 E = some (.lst acc) ∧ acc.length < sizeLine ∧ (upd H4 E (.lst (acc ++ [y]))) E = some (.lst ((List.range (i + 1)).filterMap F)) ∧ Fp [] H (upd H4 E (.lst (acc ++ [y])))) (fun H4 => H4 E = some (.lst ((List.range (i + 1)).filterMap F)) ∧ Fp [] H H4) hE hx2 upd_same E2 f2
      (fun y H4 ey f4 => ⟨_, f4 _ _ E2 (by simp), szl (Nat.lt_of_le_of_lt (List.length_filterMap_le _ _) (by rw [List.length_range]; omega)), by rw [upd_same, fm_range, ey]; rfl, Fp.drop (fp := [E]) (((f2.trans f4).mono (by simp)).trans (Fp.at_ (by simp))) fun z hz => by rcases List.mem_singleton.mp hz with rfl; exact .inr hE⟩)
      (fun ey H4 f4 => ⟨by rw [fm_range, ey]; simpa using f4 _ _ E2 (by simp), f2.trans f4⟩)
  · have hi2 : i = xs.length := by omega
    subst hi2
    exact .inl ⟨⟨xs, hq, Nat.le_refl _⟩, q E H' hE e1 e2⟩
def kLcL (K : PySem.W.Frag) (g : TG) (tt : TT) (te : TE) (vs : List Nat) (σ : L2.St) (Q : VK) (x : V) (H : Hp) : Prop := (iList K fun _ _ R => R x H) σ H fun J H1 => lcT J g tt te vs σ Q H1
theorem e_lcL (h : ta σ H fun x H1 => kLcL K g tt te vs σ Q x H1) : tLc (iList K ta) g tt te vs σ H Q := h
theorem k_lcL (f : V → Option V) (hS : SqL K H a xs) (hz : xs.length < 100000)
    (hs : ∀ (E : Addr) (i : Nat) (x : V) (H' : Hp) (R : VK) (N : Hp → Prop), H E = none → xs[i]? = some x → H' E = some (.lst ((xs.take i).filterMap f)) → Fp [] H H' → (∀ y H4, f x = some y → Fp [] H' H4 → R y H4) → (f x = none → ∀ H4, Fp [] H' H4 → N H4) →
      g x (wipe σ vs) H' fun σ2 H2 => wipe σ2 vs = wipe σ vs ∧ tt σ2 H2 fun k H3 => if k = true then te σ2 H3 R else N H3)
    (q : ∀ E H', H E = none → H' E = some (.lst (xs.filterMap f)) → Fp [] H H' → Q (.ref E) H') : kLcL K g tt te vs σ Q (.ref a) H := by
  refine ⟨a, rfl, ⟨_, hS⟩, fun E hE => ?_⟩
  refine lc_list (K := K) (a := a) (xs := xs) (fun i H' => H' E = some (.lst ((xs.take i).filterMap f)) ∧ Fp [] H H') ⟨by rw [List.take_zero]; exact upd_same, Fp.new hE⟩ (fun i H' hi e => ?_) (fun i x H' hx e => ?_) fun H' e => ?_
  · exact e.2.seq (by simp) hS
  · have hi : i < xs.length := (List.getElem?_eq_some_iff.mp hx).1
    exact hs E i x H' (fun y H4 => ∃ acc, H4 E = some (.lst acc) ∧ acc.length < sizeLine ∧ (upd H4 E (.lst (acc ++ [y]))) E = some (.lst ((xs.take (i + 1)).filterMap f)) ∧ Fp [] H (upd H4 E (.lst (acc ++ [y])))) (fun H4 => H4 E = some (.lst ((xs.take (i + 1)).filterMap f)) ∧ Fp [] H H4) hE hx e.1 e.2
      (fun y H4 ey f4 => ⟨_, f4 _ _ e.1 (by simp), szl (Nat.lt_of_le_of_lt (List.length_filterMap_le _ _) (by rw [List.length_take]; omega)), by rw [upd_same, fm_snoc hx, ey]; rfl, Fp.drop (fp := [E]) (((e.2.trans f4).mono (by simp)).trans (Fp.at_ (by simp))) fun z hz => by rcases List.mem_singleton.mp hz with rfl; exact .inr hE⟩)
      (fun ey H4 f4 => ⟨by rw [fm_snoc hx, ey]; simpa using f4 _ _ e.1 (by simp), e.2.trans f4⟩)
  · rw [List.take_length] at e
    exact q E H' hE e.1 e.2
end
theorem cut_take {xs : List V} {n : Nat} : cutV xs none (some (n : Int)) = xs.take n := by
  unfold cutV
  rw [HT.sIx_nat, HT.sIx_none, List.drop_zero, Nat.sub_zero, List.take_eq_take_iff]
  omega
theorem cut_drop {xs : List V} {n : Nat} : cutV xs (some (n : Int)) none = xs.drop n := by
  unfold cutV
  rw [HT.sIx_nat, HT.sIx_none]
  by_cases h : n ≤ xs.length
  · rw [Nat.min_eq_left h, List.take_of_length_le (by rw [List.length_drop]; exact Nat.le_refl _)]
  · rw [Nat.min_eq_right (by omega), List.drop_of_length_le (Nat.le_refl _), List.drop_of_length_le (by omega), List.take_nil]
theorem c_ext {l b : Addr} {xs zs : List V} {H : Hp} {Q : VK} (h : H l = some (.lst xs)) (h' : H b = some (.lst zs)) (z : xs.length + zs.length ≤ 100000) (q : Q .non (upd H l (.lst (xs ++ zs)))) : rExtend (.ref l) [.ref b] H Q := ⟨l, b, xs, zs, rfl, rfl, h, h', sz z, q⟩
/-- [e for k in range(n)], e with its own doing -/
theorem k_lcS {σ : L2.St} {H : Hp} {Q : VK} {g : TG} {te : TE} {vs : List Nat} {n : Int} (J : Addr → Nat → List V → Hp → Prop) (h1 : 0 ≤ n) (h2 : n < 100000) (h0 : ∀ E, H E = none → J E 0 [] (upd H E (.lst [])))
    (hs : ∀ (E : Addr) (i : Nat) (acc : List V) (H' : Hp) (R : VK), H E = none → (i : Int) < n → acc.length = i → H' E = some (.lst acc) → J E i acc H' → (∀ y H4, H4 E = some (.lst acc) → J E (i + 1) (acc ++ [y]) (upd H4 E (.lst (acc ++ [y]))) → R y H4) →
      g (.int (i : Nat)) (wipe σ vs) H' fun σ2 H2 => wipe σ2 vs = wipe σ vs ∧ te σ2 H2 R)
    (q : ∀ E acc H', H E = none → acc.length = n.toNat → H' E = some (.lst acc) → J E n.toNat acc H' → Q (.ref E) H') : kLcR g te vs σ Q (.int n) H := by
  refine ⟨n, rfl, by omega, by omega, fun E hE => ?_⟩
  refine lc_range (lo := 0) (n := n.toNat) (fun i H' => ∃ acc, acc.length = i ∧ H' E = some (.lst acc) ∧ J E i acc H') ⟨[], rfl, upd_same, h0 E hE⟩ (fun i H' hi ⟨acc, ha, e, j⟩ => ?_) fun H' ⟨acc, ha, e, j⟩ => q E acc H' hE ha e j
  have e0 : (0 : Int) + (i : Int) = (i : Int) := Int.zero_add _
  rw [e0]
  exact hs E i acc H' (fun y H4 => ∃ acc, H4 E = some (.lst acc) ∧ acc.length < sizeLine ∧ ∃ acc2, acc2.length = i + 1 ∧ (upd H4 E (.lst (acc ++ [y]))) E = some (.lst acc2) ∧ J E (i + 1) acc2 (upd H4 E (.lst (acc ++ [y])))) hE (by omega) ha e j
    fun y H4 e4 j4 => ⟨acc, e4, szl (by omega), _, by rw [List.length_append, ha]; rfl, upd_same, j4⟩
theorem ints_of : ∀ {acc : List V}, (∀ y ∈ acc, ∃ z, y = V.int z) → ∃ ys : List Int, acc = ys.map V.int
  | [], _ => ⟨[], rfl⟩
  | y :: r, h => by
    obtain ⟨z, rfl⟩ := h y List.mem_cons_self
    obtain ⟨ys, rfl⟩ := ints_of fun x hx => h x (List.mem_cons_of_mem _ hx)
    exact ⟨z :: ys, rfl⟩
/-! ### what stands -/
def Inn (H : Hp) (L : List Addr) : Prop := ∀ y ∈ L, ∃ o, H y = some o
theorem Inn.nil {H : Hp} : Inn H [] := fun _ h => by cases h
theorem Inn.cons {H : Hp} {L : List Addr} {x : Addr} {o : HO} (h : H x = some o) (I : Inn H L) : Inn H (x :: L) := fun y hy => by
  rcases List.mem_cons.mp hy with rfl | hy
  · exact ⟨_, h⟩
  · exact I y hy
theorem Inn.app {H : Hp} {L M : List Addr} (I : Inn H L) (J : Inn H M) : Inn H (L ++ M) := fun y hy => (List.mem_append.mp hy).elim (I y) (J y)
theorem Inn.fresh {H : Hp} {L : List Addr} {x : Addr} (I : Inn H L) (h : H x = none) : x ∉ L := fun z => by
  obtain ⟨o, e⟩ := I x z
  rw [h] at e
  cases e
theorem Inn.ne {H : Hp} {L : List Addr} {x y : Addr} (I : Inn H L) (hy : y ∈ L) (h : H x = none) : x ≠ y := fun z => I.fresh h (z ▸ hy)
theorem Inn.fp {H H1 : Hp} {L : List Addr} (I : Inn H L) (f : Fp [] H H1) : Inn H1 L := fun y hy => by
  obtain ⟨o, e⟩ := I y hy
  exact ⟨o, f _ _ e (by simp)⟩
theorem Inn.mono {H : Hp} {L M : List Addr} (I : Inn H L) (h : ∀ x ∈ M, x ∈ L) : Inn H M := fun y hy => I y (h y hy)
theorem nd_new {L : List Addr} {x : Addr} (n : L.Nodup) (h : x ∉ L) : (x :: L).Nodup := List.nodup_cons.mpr ⟨h, n⟩
theorem nin_c {L : List Addr} {x y : Addr} (n : x ≠ y) (h : x ∉ L) : x ∉ y :: L := fun z => (List.mem_cons.mp z).elim n h
def kTru (K : PySem.W.Frag) (x : V) (H : Hp) (QT : Bool → Hp → Prop) : Prop := ∃ k, TruV K x H k ∧ QT k H
def tTr (K : PySem.W.Frag) (ta : TE) : TT := fun σ H Q => ta σ H fun x H' => kTru K x H' Q
theorem pt_tr {X : Cx} {a : Expr} {ta : TE} (ha : PE X a ta) (he : ∀ whole, isTrue a X.env whole = (do let v ← whole; standAt a.pos; holding [v] (truthy v))) : PT X a (tTr X.K ta) := pt_truth ha he
theorem t_tru {K : PySem.W.Frag} {σ : L2.St} {te : TE} {H : Hp} {QT : Bool → Hp → Prop} (h : te σ H fun x H1 => kTru K x H1 QT) : tTr K te σ H QT := h
theorem k_truL {K : PySem.W.Frag} {H : Hp} {QT : Bool → Hp → Prop} {p : Addr} {xs : List V} (h : SqL K H p xs) (q : QT (!xs.isEmpty) H) : kTru K (.ref p) H QT := ⟨_, Or.inl ⟨xs, h, rfl⟩, q⟩
/-- [e for k in range(n) if t], t and e with their own doing -/
theorem k_lcSF {σ : L2.St} {H : Hp} {Q : VK} {g : TG} {tt : TT} {te : TE} {vs : List Nat} {n : Int} (J : Addr → Nat → List V → Hp → Prop) (h1 : 0 ≤ n) (h2 : n < 100000) (h0 : ∀ E, H E = none → J E 0 [] (upd H E (.lst [])))
    (hs : ∀ (E : Addr) (i : Nat) (acc : List V) (H' : Hp) (R : VK) (N : Hp → Prop), H E = none → (i : Int) < n → acc.length ≤ i → H' E = some (.lst acc) → J E i acc H' → (∀ y H4, H4 E = some (.lst acc) → J E (i + 1) (acc ++ [y]) (upd H4 E (.lst (acc ++ [y]))) → R y H4) → (∀ H4, H4 E = some (.lst acc) → J E (i + 1) acc H4 → N H4) →
      g (.int (i : Nat)) (wipe σ vs) H' fun σ2 H2 => wipe σ2 vs = wipe σ vs ∧ tt σ2 H2 fun k H3 => if k = true then te σ2 H3 R else N H3)
    (q : ∀ E acc H', H E = none → acc.length ≤ n.toNat → H' E = some (.lst acc) → J E n.toNat acc H' → Q (.ref E) H') : kLcF g tt te vs σ Q (.int n) H := by
  refine ⟨n, rfl, by omega, by omega, fun E hE => ?_⟩
  refine lc_range (lo := 0) (n := n.toNat) (fun i H' => ∃ acc, acc.length ≤ i ∧ H' E = some (.lst acc) ∧ J E i acc H') ⟨[], Nat.le_refl _, upd_same, h0 E hE⟩ (fun i H' hi ⟨acc, ha, e, j⟩ => ?_) fun H' ⟨acc, ha, e, j⟩ => q E acc H' hE ha e j
  have e0 : (0 : Int) + (i : Int) = (i : Int) := Int.zero_add _
  rw [e0]
  exact hs E i acc H' (fun y H4 => ∃ acc, H4 E = some (.lst acc) ∧ acc.length < sizeLine ∧ ∃ acc2, acc2.length ≤ i + 1 ∧ (upd H4 E (.lst (acc ++ [y]))) E = some (.lst acc2) ∧ J E (i + 1) acc2 (upd H4 E (.lst (acc ++ [y])))) (fun H4 => ∃ acc2, acc2.length ≤ i + 1 ∧ H4 E = some (.lst acc2) ∧ J E (i + 1) acc2 H4) hE (by omega) ha e j
    (fun y H4 e4 j4 => ⟨acc, e4, szl (by omega), _, by rw [List.length_append]; simp; omega, upd_same, j4⟩) fun H4 e4 j4 => ⟨acc, by omega, e4, j4⟩
/-- for x in a list that an expression hands back -/
def kForL (K : PySem.W.Frag) (g : TG) (tb : TS) (D : Ends) (σ : L2.St) (x : V) (H1 : Hp) : Prop := (iList K fun _ _ R => R x H1) σ H1 fun J H1 => ∃ W : Nat → Nat → L2.St → Hp → Prop, (∃ m, W 0 m σ H1) ∧ ∀ i m σ H, W i m σ H →
  (J.stop i H ∧ D.nx σ H) ∨ (J.go i H ∧ ∃ N : L2.St → Hp → Prop, (∀ σ' H', N σ' H' → ∃ m', m' < m ∧ W (i + 1) m' σ' H') ∧ ∀ x H', J.yld i H x H' → g x σ H' fun σ2 H2 => tb { D with nx := N, ct := N, bk := D.nx } σ2 H2)
theorem f_lst {K : PySem.W.Frag} {g : TG} {tb : TS} {D : Ends} {σ : L2.St} {H : Hp} {te : TE} (h : te σ H fun x H1 => kForL K g tb D σ x H1) : tFor (iList K te) g tb D σ H := h
theorem k_forL {K : PySem.W.Frag} {g : TG} {tb : TS} {D : Ends} {σ : L2.St} {H : Hp} {p : Addr} {xs : List V} (Pv : Nat → L2.St → Hp → Prop) (hS : SqL K H p xs) (h0 : Pv 0 σ H) (hl : ∀ i σ' H', i ≤ xs.length → Pv i σ' H' → SqL K H' p xs)
    (hs : ∀ i x σ' H', xs[i]? = some x → Pv i σ' H' → g x σ' H' fun σ2 H2 => tb { D with nx := Pv (i + 1), ct := Pv (i + 1), bk := D.nx } σ2 H2) (hd : ∀ σ' H', Pv xs.length σ' H' → D.nx σ' H') : kForL K g tb D σ (.ref p) H :=
  ⟨p, rfl, ⟨xs, hS⟩, for_list Pv h0 hl hs hd⟩
theorem t_yes {σ : L2.St} {H : Hp} {QT : Bool → Hp → Prop} (h : QT true H) : tYes σ H QT := h
theorem ixN_last {n : Nat} (h : 0 < n) : ixN n (-1) = some (n - 1) := by
  unfold ixN
  rw [if_neg (by decide), if_pos (by omega)]
  congr 1
  omega
/-- xs[-1] = v -/
theorem c_setE {p : Addr} {xs : List V} {x v : V} {H : Hp} {R : Hp → Prop} (h : H p = some (.lst (xs ++ [x]))) (q : R (upd H p (.lst (xs ++ [v])))) : rSetL (.ref p) (.int (-1)) v H R := by
  refine ⟨p, xs ++ [x], -1, xs.length, rfl, rfl, h, by rw [ixN_last (by simp)]; simp, ?_⟩
  rw [List.set_append_right _ _ (Nat.le_refl _), Nat.sub_self]
  exact q
/-- [e for x in xs if t] by places, xs in a name -/
theorem lc_filtN {K : PySem.W.Frag} {σ : L2.St} {H : Hp} {Q : VK} {g : TG} {tt : TT} {te : TE} {vs : List Nat} {j : Nat} {b : Addr} {xs : List V} (F : Nat → Option V) (hv : σ[j]? = some (some (.ref b))) (hS : SqL K H b xs) (hz : xs.length < 100000)
    (hs : ∀ (E : Addr) (i : Nat) (x : V) (H' : Hp) (R : VK) (N : Hp → Prop), H E = none → xs[i]? = some x → H' E = some (.lst ((List.range i).filterMap F)) → Fp [] H H' → (∀ y H4, F i = some y → Fp [] H' H4 → R y H4) → (F i = none → ∀ H4, Fp [] H' H4 → N H4) →
      g x (wipe σ vs) H' fun σ2 H2 => wipe σ2 vs = wipe σ vs ∧ tt σ2 H2 fun k H3 => if k = true then te σ2 H3 R else N H3)
    (q : ∀ E H', H E = none → H' E = some (.lst ((List.range xs.length).filterMap F)) → Fp [] H H' → Q (.ref E) H') : tLc (iList K (tVar j)) g tt te vs σ H Q := by
  refine ⟨_, hv, b, rfl, ⟨_, hS⟩, fun E hE => ?_⟩
  refine lc_list (K := K) (a := b) (xs := xs) (fun i H' => H' E = some (.lst ((List.range i).filterMap F)) ∧ Fp [] H H') ⟨upd_same, Fp.new hE⟩ (fun i H' hi e => ?_) (fun i x H' hx e => ?_) fun H' e => q E H' hE e.1 e.2
  · exact e.2.seq (by simp) hS
  · have hi : i < xs.length := (List.getElem?_eq_some_iff.mp hx).1
    exact hs E i x H' (fun y H4 => ∃ acc, H4 E = some (.lst acc) ∧ acc.length < sizeLine ∧ (upd H4 E (.lst (acc ++ [y]))) E = some (.lst ((List.range (i + 1)).filterMap F)) ∧ Fp [] H (upd H4 E (.lst (acc ++ [y])))) (fun H4 => H4 E = some (.lst ((List.range (i + 1)).filterMap F)) ∧ Fp [] H H4) hE hx e.1 e.2
      (fun y H4 ey f4 => ⟨_, f4 _ _ e.1 (by simp), szl (Nat.lt_of_le_of_lt (List.length_filterMap_le _ _) (by rw [List.length_range]; omega)), by rw [upd_same, fm_range, ey]; rfl, Fp.drop (fp := [E]) (((e.2.trans f4).mono (by simp)).trans (Fp.at_ (by simp))) fun z hz => by rcases List.mem_singleton.mp hz with rfl; exact .inr hE⟩)
      (fun ey H4 f4 => ⟨by rw [fm_range, ey]; simpa using f4 _ _ e.1 (by simp), e.2.trans f4⟩)
theorem fm_len {F : Nat → Option V} {p : Nat → Bool} : ∀ {l : List Nat}, (∀ i ∈ l, (F i).isSome = p i) → (l.filterMap F).length = (l.filter p).length
  | [], _ => rfl
  | i :: r, h => by
    have h1 := h i List.mem_cons_self
    have ih := fm_len (F := F) (p := p) (l := r) fun x hx => h x (List.mem_cons_of_mem _ hx)
    cases e : F i with
    | none =>
      rw [e] at h1
      rw [List.filterMap_cons_none e, List.filter_cons_of_neg (by rw [← h1]; exact Bool.false_ne_true), ih]
    | some y =>
      rw [e] at h1
      rw [List.filterMap_cons_some e, List.filter_cons_of_pos h1.symm, List.length_cons, List.length_cons, ih]
/-! ### data in data -/
def LD (k : Nat) (d : PyData) : Prop := d.canLay0 = true ∧ d.depth ≤ k
theorem LD.int {k : Nat} (z : Int) : LD (k + 1) (.int z) := ⟨rfl, by simp [PyData.depth]⟩
theorem LD.bl {k : Nat} (b : Bool) : LD (k + 1) (.bool b) := ⟨rfl, by simp [PyData.depth]⟩
theorem LD.non {k : Nat} : LD (k + 1) .none := ⟨rfl, by simp [PyData.depth]⟩
theorem LD.str {k : Nat} {x : Str} (h : PyData.strOk x = true) : LD (k + 1) (.str x) := ⟨h, by simp [PyData.depth]⟩
theorem LD.all {k : Nat} : ∀ {ds : List PyData}, (∀ d ∈ ds, LD k d) → PyData.canLayAll0 ds = true ∧ PyData.depthAll ds ≤ k
  | [], _ => ⟨rfl, by simp [PyData.depthAll]⟩
  | d :: r, h => by
    obtain ⟨h1, h2⟩ := h d List.mem_cons_self
    obtain ⟨i1, i2⟩ := LD.all (ds := r) fun x hx => h x (List.mem_cons_of_mem _ hx)
    refine ⟨?_, ?_⟩
    · show (d.canLay0 && PyData.canLayAll0 r) = true
      rw [h1, i1]; rfl
    · simp only [PyData.depthAll]; omega
theorem LD.list {k : Nat} {ds : List PyData} (h : ∀ d ∈ ds, LD k d) : LD (k + 1) (.list ds) := by
  obtain ⟨h1, h2⟩ := LD.all h
  exact ⟨by simp only [PyData.canLay0]; exact h1, by simp only [PyData.depth]; omega⟩
theorem LD.tup {k : Nat} {ds : List PyData} (h : ∀ d ∈ ds, LD k d) : LD (k + 1) (.tuple ds) := by
  obtain ⟨h1, h2⟩ := LD.all h
  exact ⟨by simp only [PyData.canLay0]; exact h1, by simp only [PyData.depth]; omega⟩
theorem LD.sh {k : Nat} {d : PyData} (h : LD k d) (hk : k ≤ 64 := by decide) : SeqAt.shaped d = true := by
  show (d.canLay0 && decide (d.depth ≤ 64)) = true
  rw [h.1, decide_eq_true (Nat.le_trans h.2 hk)]; rfl
def dInts (ns : List Int) : PyData := .list (ns.map PyData.int)
theorem dp_ints {K : PySem.W.Frag} {H : Hp} : ∀ ns : List Int, DpAll K H (ns.map V.int) (ns.map PyData.int)
  | [] => .nil
  | n :: r => .cons (.int n) (dp_ints r)
theorem LD.ints {k : Nat} (ns : List Int) : LD (k + 2) (dInts ns) := LD.list fun d hd => by
  obtain ⟨n, _, rfl⟩ := List.mem_map.mp hd
  exact LD.int n
theorem g_unl {K : PySem.W.Frag} {H : Hp} {σ : L2.St} {n : Nat} {t : TGs} {R : L2.St → Hp → Prop} {a : Addr} {xs : List V} (h : SqL K H a xs) (hn : xs.length = n) (q : t xs σ H R) : gUnl K n t (.ref a) σ H R := ⟨a, xs, rfl, h, hn, q⟩
theorem c_clr {l : Addr} {xs : List V} {H : Hp} {Q : VK} (h : H l = some (.lst xs)) (q : Q .non (upd H l (.lst []))) : rClear (.ref l) [] H Q := ⟨l, xs, rfl, rfl, h, q⟩
/-- [e for x in xs], e with its own doing -/
theorem k_lcLS {K : PySem.W.Frag} {σ : L2.St} {H : Hp} {Q : VK} {g : TG} {te : TE} {vs : List Nat} {a : Addr} {xs : List V} (J : Addr → Nat → List V → Hp → Prop) (hS : SqL K H a xs) (hz : xs.length < 100000) (h0 : ∀ E, H E = none → J E 0 [] (upd H E (.lst [])))
    (hl : ∀ E i acc H', J E i acc H' → SqL K H' a xs)
    (hs : ∀ (E : Addr) (i : Nat) (x : V) (acc : List V) (H' : Hp) (R : VK), H E = none → xs[i]? = some x → acc.length = i → H' E = some (.lst acc) → J E i acc H' → (∀ y H4, H4 E = some (.lst acc) → J E (i + 1) (acc ++ [y]) (upd H4 E (.lst (acc ++ [y]))) → R y H4) →
      g x (wipe σ vs) H' fun σ2 H2 => wipe σ2 vs = wipe σ vs ∧ te σ2 H2 R)
    (q : ∀ E acc H', H E = none → acc.length = xs.length → H' E = some (.lst acc) → J E xs.length acc H' → Q (.ref E) H') : kLcL K g tYes te vs σ Q (.ref a) H := by
  refine ⟨a, rfl, ⟨_, hS⟩, fun E hE => ?_⟩
  refine lc_list (K := K) (a := a) (xs := xs) (fun i H' => ∃ acc, acc.length = i ∧ H' E = some (.lst acc) ∧ J E i acc H') ⟨[], rfl, upd_same, h0 E hE⟩ (fun i H' hi ⟨acc, _, _, j⟩ => hl E i acc H' j) (fun i x H' hx ⟨acc, ha, e, j⟩ => ?_) fun H' ⟨acc, ha, e, j⟩ => q E acc H' hE ha e j
  have hi : i < xs.length := (List.getElem?_eq_some_iff.mp hx).1
  exact hs E i x acc H' (fun y H4 => ∃ acc, H4 E = some (.lst acc) ∧ acc.length < sizeLine ∧ ∃ acc2, acc2.length = i + 1 ∧ (upd H4 E (.lst (acc ++ [y]))) E = some (.lst acc2) ∧ J E (i + 1) acc2 (upd H4 E (.lst (acc ++ [y])))) hE hx ha e j
    fun y H4 e4 j4 => ⟨acc, e4, szl (by omega), _, by rw [List.length_append, ha]; rfl, upd_same, j4⟩
end Rd
set_option Elab.async false
set_option maxRecDepth 100000
set_option maxHeartbeats 4000000
set_option linter.all false
set_option autoImplicit false
/-! A small separation logic over the heap of the hand layer. -/
namespace Sl
open PySem PySem.Spec PyProof.Rows L2 Sx Rd
/-- what never changes -/
def Imm : HO → Prop
  | .tup _ => True | .frz _ _ => True | .rng _ _ => True | .xd _ => True | .met _ _ => True
  | _ => False
def Agree (S : Addr → Prop) (H H' : Hp) : Prop := (∀ a, S a → H' a = H a) ∧ ∀ a o, H a = some o → Imm o → H' a = some o
structure As where
  at_ : Hp → (Addr → Prop) → Prop
  loc : ∀ {H H' : Hp} {S : Addr → Prop}, at_ H S → Agree S H H' → at_ H' S
  dom : ∀ {H : Hp} {S : Addr → Prop}, at_ H S → ∀ a, S a → H a ≠ none
def emp : As := ⟨fun _ S => ∀ a, ¬ S a, fun h _ => h, fun h a s => absurd s (h a)⟩
def cell (a : Addr) (o : HO) : As := ⟨fun H S => (∀ b, S b ↔ b = a) ∧ H a = some o, fun h g => ⟨h.1, by rw [g.1 a ((h.1 a).mpr rfl)]; exact h.2⟩, fun h b s => by
  rw [(h.1 b).mp s, h.2]; simp⟩
def icell (a : Addr) (o : HO) : As := ⟨fun H S => (∀ b, ¬ S b) ∧ H a = some o ∧ Imm o, fun h g => ⟨h.1, g.2 _ _ h.2.1 h.2.2, h.2.2⟩, fun h b s => absurd s (h.1 b)⟩
abbrev tcell (a : Addr) (xs : List V) : As := icell a (.tup xs)
def pur (φ : Prop) : As := ⟨fun _ S => (∀ a, ¬ S a) ∧ φ, fun h _ => h, fun h a s => absurd s (h.1 a)⟩
def ex {α : Type} (P : α → As) : As := ⟨fun H S => ∃ x, (P x).at_ H S, fun ⟨x, h⟩ g => ⟨x, (P x).loc h g⟩, fun ⟨x, h⟩ => (P x).dom h⟩
def star (P Q : As) : As := ⟨fun H S => ∃ S1 S2 : Addr → Prop, (∀ a, S a ↔ S1 a ∨ S2 a) ∧ (∀ a, S1 a → ¬ S2 a) ∧ P.at_ H S1 ∧ Q.at_ H S2,
  fun ⟨S1, S2, e, d, h1, h2⟩ g => ⟨S1, S2, e, d, P.loc h1 ⟨fun a s => g.1 a ((e a).mpr (.inl s)), g.2⟩, Q.loc h2 ⟨fun a s => g.1 a ((e a).mpr (.inr s)), g.2⟩⟩,
  fun ⟨S1, S2, e, d, h1, h2⟩ a s => by
    rcases (e a).mp s with s | s
    · exact P.dom h1 a s
    · exact Q.dom h2 a s⟩
/-- many, apart from each other -/
def all : List As → As
  | [] => emp
  | P :: L => star P (all L)
def St (L : List As) (H : Hp) : Prop := ∃ S, (all L).at_ H S
/-- what entails what, for the same cells or fewer -/
def Ent (L M : List As) : Prop := ∀ H S, (all L).at_ H S → ∃ S', (∀ a, S' a → S a) ∧ (all M).at_ H S'
theorem Ent.refl (L : List As) : Ent L L := fun _ S h => ⟨S, fun _ s => s, h⟩
theorem Ent.trans {L M N : List As} (a : Ent L M) (b : Ent M N) : Ent L N := fun H S h => by
  obtain ⟨S1, i1, h1⟩ := a H S h
  obtain ⟨S2, i2, h2⟩ := b H S1 h1
  exact ⟨S2, fun x s => i1 x (i2 x s), h2⟩
theorem Ent.cons {P : As} {L M : List As} (a : Ent L M) : Ent (P :: L) (P :: M) := fun H S ⟨S1, S2, e, d, h1, h2⟩ => by
  obtain ⟨S3, i3, h3⟩ := a H S2 h2
  exact ⟨fun x => S1 x ∨ S3 x, fun x s => (e x).mpr (s.imp id (i3 x)), S1, S3, fun _ => Iff.rfl, fun x s t => d x s (i3 x t), h1, h3⟩
theorem Ent.swap {P Q : As} {L : List As} : Ent (P :: Q :: L) (Q :: P :: L) := fun H S ⟨S1, S2, e, d, h1, S3, S4, e2, d2, h3, h4⟩ =>
  ⟨S, fun _ s => s, S3, fun x => S1 x ∨ S4 x, fun x => by rw [e x, e2 x]; exact ⟨fun h => by rcases h with h | h | h <;> simp [h], fun h => by rcases h with h | h | h <;> simp [h]⟩,
    fun x s t => by
      rcases t with t | t
      · exact d x t ((e2 x).mpr (.inl s))
      · exact d2 x s t, h3, S1, S4, fun _ => Iff.rfl, fun x s t => d x s ((e2 x).mpr (.inr t)), h1, h4⟩
theorem Ent.drop {P : As} {L : List As} : Ent (P :: L) L := fun H S ⟨S1, S2, e, d, h1, h2⟩ => ⟨S2, fun x s => (e x).mpr (.inr s), h2⟩
theorem Ent.st {L M : List As} {H : Hp} (a : Ent L M) (h : St L H) : St M H := let ⟨S, h⟩ := h; let ⟨S', _, h'⟩ := a H S h; ⟨S', h'⟩
theorem Ent.app {L M : List As} (a : Ent L M) : ∀ R : List As, Ent (R ++ L) (R ++ M)
  | [] => a
  | _ :: R => (a.app R).cons
/-- P stands in L, R is the rest -/
inductive Sel (P : As) : List As → List As → Prop
  | here {R : List As} : Sel P (P :: R) R
  | there {Q : As} {L R : List As} : Sel P L R → Sel P (Q :: L) (Q :: R)
theorem Sel.ent {P : As} {L R : List As} (s : Sel P L R) : Ent L (P :: R) := by
  induction s with
  | here => exact Ent.refl _
  | there s ih => exact (Ent.cons ih).trans Ent.swap
theorem Sel.ent' {P : As} {L R : List As} (s : Sel P L R) : Ent (P :: R) L := by
  induction s with
  | here => exact Ent.refl _
  | there s ih => exact Ent.swap.trans (Ent.cons ih)
inductive Sels : List As → List As → List As → Prop
  | nil {L : List As} : Sels [] L L
  | cons {P : As} {Ps L M R : List As} : Sel P L M → Sels Ps M R → Sels (P :: Ps) L R
theorem Sels.all : ∀ L : List As, Sels L L []
  | [] => .nil
  | _ :: L => .cons .here (Sels.all L)
theorem Sels.skip {Q : As} {Ps L R : List As} (s : Sels Ps L R) : Sels Ps (Q :: L) (Q :: R) := by
  induction s with
  | nil => exact .nil
  | cons a _ ih => exact .cons (.there a) ih
theorem Sels.ent {Ps L R : List As} (s : Sels Ps L R) : Ent L (Ps ++ R) := by
  induction s with
  | nil => exact Ent.refl _
  | cons a _ ih => exact a.ent.trans ih.cons
theorem Sels.ent' {Ps L R : List As} (s : Sels Ps L R) : Ent (Ps ++ R) L := by
  induction s with
  | nil => exact Ent.refl _
  | cons a _ ih => exact ih.cons.trans a.ent'
section
variable {L M R : List As} {H : Hp} {a p : Addr} {o o' : HO} {P Q : As} {φ : Prop} {xs : List V}
theorem St.sel (h : St L H) (s : Sel P L R) : St (P :: R) H := s.ent.st h
theorem St.sels {Ps : List As} (h : St L H) (s : Sels Ps L R) : St (Ps ++ R) H := s.ent.st h
theorem St.get0 (h : St (cell a o :: R) H) : H a = some o := by
  obtain ⟨S, S1, S2, e, d, h1, h2⟩ := h
  exact h1.2
theorem St.get (h : St L H) (s : Sel (cell a o) L R) : H a = some o := (h.sel s).get0
theorem St.geti (h : St L H) (s : Sel (icell a o) L R) : H a = some o := by
  obtain ⟨S, S1, S2, e, d, h1, h2⟩ := h.sel s
  exact h1.2.1
theorem St.upd0 (h : St (cell a o :: R) H) (i : ¬ Imm o) : St (cell a o' :: R) (upd H a o') := by
  obtain ⟨S, S1, S2, e, d, ⟨h0, h1⟩, h2⟩ := h
  refine ⟨S, S1, S2, e, d, ⟨h0, upd_same⟩, (all R).loc h2 ⟨fun b s => upd_ne fun z => ?_, fun b u g j => ?_⟩⟩
  · exact d a ((h0 a).mpr rfl) (z ▸ s)
  · rw [upd_ne fun z => ?_, g]
    subst z
    rw [h1] at g
    cases g
    exact i j
theorem St.upd (h : St L H) (s : Sel (cell a o) L R) (i : ¬ Imm o) : St (cell a o' :: R) (upd H a o') := (h.sel s).upd0 i
theorem St.agree_new (n : H p = none) {S : Addr → Prop} (dm : ∀ b, S b → H b ≠ none) : Agree S H (L2.upd H p o) := ⟨fun b s => upd_ne fun z => dm b s (z ▸ n), fun b u g _ => by rw [upd_ne fun z => ?_, g]; subst z; rw [n] at g; cases g⟩
theorem St.new (h : St L H) (n : H p = none) : St (cell p o :: L) (L2.upd H p o) := by
  obtain ⟨S, h⟩ := h
  have dm := (all L).dom h
  refine ⟨fun b => b = p ∨ S b, fun b => b = p, S, fun _ => Iff.rfl, fun b z s => dm b s (z ▸ n), ⟨fun _ => Iff.rfl, upd_same⟩, (all L).loc h (St.agree_new n dm)⟩
theorem St.newi (h : St L H) (n : H p = none) (i : Imm o) : St (icell p o :: L) (L2.upd H p o) := by
  obtain ⟨S, h⟩ := h
  have dm := (all L).dom h
  exact ⟨S, fun _ => False, S, fun _ => ⟨.inr, fun z => z.elim (fun f => f.elim) id⟩, fun _ f => f.elim, ⟨fun _ f => f, upd_same, i⟩, (all L).loc h (St.agree_new n dm)⟩
theorem St.keep (h : St L H) (n : H p = none) : St L (L2.upd H p o) := by
  obtain ⟨S, h⟩ := h
  exact ⟨S, (all L).loc h (St.agree_new n ((all L).dom h))⟩
theorem St.cons0 {L : List As} (h : St (P :: L) H) : St L H := Ent.drop.st h
theorem St.drop (h : St L H) (s : Sel P L R) : St R H := (h.sel s).cons0
theorem St.dup (h : St L H) (s : Sel (icell a o) L R) : St (icell a o :: L) H := by
  obtain ⟨S, S1, S2, e, d, h1, h2⟩ := h.sel s
  obtain ⟨S0, h0⟩ := h
  exact ⟨S0, S1, S0, fun b => ⟨.inr, fun z => z.elim (fun f => absurd f (h1.1 b)) id⟩, fun b f => absurd f (h1.1 b), h1, h0⟩
theorem ent_ex {α : Type} {P : α → As} (x : α) : Ent (P x :: R) (ex P :: R) := fun H S ⟨S1, S2, e, d, h1, h2⟩ => ⟨S, fun _ s => s, S1, S2, e, d, ⟨x, h1⟩, h2⟩
theorem St.exU {α : Type} {P : α → As} (h : St (ex P :: R) H) : ∃ x, St (P x :: R) H := by
  obtain ⟨S, S1, S2, e, d, ⟨x, h1⟩, h2⟩ := h
  exact ⟨x, S, S1, S2, e, d, h1, h2⟩
theorem St.exI {α : Type} {P : α → As} (x : α) (h : St (P x :: R) H) : St (ex P :: R) H := (ent_ex x).st h
theorem St.purU (h : St (pur φ :: R) H) : φ ∧ St R H := by
  refine ⟨?_, h.cons0⟩
  obtain ⟨S, S1, S2, e, d, ⟨_, f⟩, h2⟩ := h
  exact f
theorem St.purI (f : φ) (h : St R H) : St (pur φ :: R) H := by
  obtain ⟨S, h⟩ := h
  exact ⟨S, fun _ => False, S, fun _ => ⟨.inr, fun z => z.elim (fun f => f.elim) id⟩, fun _ f => f.elim, ⟨fun _ f => f, f⟩, h⟩
theorem star_assoc1 {P Q T : As} {H : Hp} {S : Addr → Prop} (h : (star (star P Q) T).at_ H S) : (star P (star Q T)).at_ H S := by
  obtain ⟨S1, S2, e, d, ⟨S3, S4, e2, d2, h3, h4⟩, h2⟩ := h
  refine ⟨S3, fun x => S4 x ∨ S2 x, fun x => by rw [e x, e2 x]; exact or_assoc, fun x s t => ?_, h3, S4, S2, fun _ => Iff.rfl, fun x s t => d x ((e2 x).mpr (.inr s)) t, h4, h2⟩
  rcases t with t | t
  · exact d2 x s t
  · exact d x ((e2 x).mpr (.inl s)) t
theorem star_assoc2 {P Q T : As} {H : Hp} {S : Addr → Prop} (h : (star P (star Q T)).at_ H S) : (star (star P Q) T).at_ H S := by
  obtain ⟨S1, S2, e, d, h1, S3, S4, e2, d2, h3, h4⟩ := h
  refine ⟨fun x => S1 x ∨ S3 x, S4, fun x => by rw [e x, e2 x]; exact or_assoc.symm, fun x s t => ?_, ⟨S1, S3, fun _ => Iff.rfl, fun x s t => d x s ((e2 x).mpr (.inl t)), h1, h3⟩, h4⟩
  rcases s with s | s
  · exact d x s ((e2 x).mpr (.inr t))
  · exact d2 x s t
theorem ent_allU : ∀ (L R : List As), Ent (all L :: R) (L ++ R)
  | [], R => Ent.drop
  | P :: L, R => fun H S h => by
    have h' := star_assoc1 h
    exact (Ent.cons (ent_allU L R)) H S h'
theorem ent_allI : ∀ (L R : List As), Ent (L ++ R) (all L :: R)
  | [], R => fun H S h => ⟨S, fun _ s => s, fun _ => False, S, fun _ => ⟨.inr, fun z => z.elim (fun f => f.elim) id⟩, fun _ f => f.elim, fun _ f => f, h⟩
  | P :: L, R => fun H S h => by
    obtain ⟨S', i, h'⟩ := (Ent.cons (ent_allI L R)) H S h
    exact ⟨S', i, star_assoc2 h'⟩
theorem St.allU (h : St (all L :: R) H) : St (L ++ R) H := (ent_allU L R).st h
theorem St.allI (h : St (L ++ R) H) : St (all L :: R) H := (ent_allI L R).st h
/-- a new thing in a question -/
theorem nw {Rk : V → Hp → Prop} (h : St L H) (q : ∀ p H', St (cell p o :: L) H' → Rk (.ref p) H') : ∀ p, H p = none → Rk (.ref p) (L2.upd H p o) := fun p n => q p _ (h.new n)
theorem nwT {Rk : V → Hp → Prop} (h : St L H) (q : ∀ p H', St (tcell p xs :: L) H' → Rk (.ref p) H') : ∀ p, H p = none → Rk (.ref p) (L2.upd H p (.tup xs)) := fun p n => q p _ (h.newi n trivial)
theorem wr {Rk : Hp → Prop} (h : St L H) (s : Sel (cell a o) L R) (i : ¬ Imm o) (q : ∀ H', St (cell a o' :: R) H' → Rk H') : Rk (L2.upd H a o') := q _ (h.upd s i)
end
/-! ### promises over footprints, framed -/
/-- an assertion from a predicate with a list of cells -/
def fpa (P : Hp → List Addr → Prop) (l : ∀ (H H' : Hp) (A : List Addr), P H A → Agree (fun a => a ∈ A) H H' → P H' A) (d : ∀ (H : Hp) (A : List Addr), P H A → ∀ a, a ∈ A → H a ≠ none) : As :=
  ⟨fun H S => ∃ A : List Addr, (∀ a, S a ↔ a ∈ A) ∧ P H A, fun ⟨A, e, h⟩ g => ⟨A, e, l _ _ _ h ⟨fun a s => g.1 a ((e a).mpr s), g.2⟩⟩, fun ⟨A, e, h⟩ a s => d _ _ h a ((e a).mp s)⟩
theorem Agree.of_fp {A : List Addr} {S : Addr → Prop} {H H' : Hp} (f : Fp A H H') (im : ∀ a ∈ A, ∀ o, H a = some o → ¬ Imm o) (dm : ∀ b, S b → H b ≠ none) (dj : ∀ b, S b → b ∉ A) : Agree S H H' :=
  ⟨fun b s => by
    cases e : H b with
    | none => exact absurd e (dm b s)
    | some o => exact f b o e (dj b s), fun b o e i => f b o e fun m => im b m o e i⟩
end Sl
namespace Sl
open PySem PySem.Spec PyProof.Rows L2 Sx Rd
/-! ### steps -/
section
variable {K : PySem.W.Frag} {D : Ends} {σ : L2.St} {L R : List As} {H : Hp} {Q : VK} {Rk : Hp → Prop} {a b l p C dx : Addr} {f : Str} {fs fs' : List (Str × V)} {v x y : V} {xs ys : List V} {tl : TA} {te ta tb tv td ty : TE} {i j : Nat} {n : Int}
theorem k_setS (hs : St L H) (s : Sel (cell a (.ins C dx fs)) L R) (c : Cls K C) (n : NoAttr K C f) (hp : putF f y fs = fs') (l : fs.length < 1000) (q : ∀ H', St (cell a (.ins C dx fs') :: R) H' → Rk H') : kSet K f y (.ref a) H Rk :=
  k_set (hs.get s) c n hp l (q _ (hs.upd s id))
def kAug (K : PySem.W.Frag) (tv : TE) (rd : V → V → Hp → VK → Prop) (f : Str) (σ : L2.St) (x : V) (H1 : Hp) (R : Hp → Prop) : Prop := ∃ a C dx fs v, x = .ref a ∧ H1 a = some (.ins C dx fs) ∧ Cls K C ∧ NoAttr K C f ∧ fs.lookup f = some v ∧
  tv σ H1 fun y H2 => rd v y H2 fun z H3 => ∃ dx' fs', H3 a = some (.ins C dx' fs') ∧ fs'.length < 1000 ∧ R (upd H3 a (.ins C dx' (putF f z fs')))
theorem s_aug {rd : V → V → Hp → VK → Prop} (h : ta σ H fun x H1 => kAug K tv rd f σ x H1 (D.nx σ)) : sFldAug K ta tv rd f D σ H := h
/-- self.f += e, e an int that touches nothing -/
theorem k_augA {m : Int} (hs : St L H) (s : Sel (cell a (.ins C dx fs)) L R) (c : Cls K C) (na : NoAttr K C f) (lk : fs.lookup f = some (.int m)) (hp : putF f (.int (m + n)) fs = fs') (l : fs.length < 1000)
    (ht : ∀ Q' : VK, Q' (.int n) H → tv σ H Q') (q : ∀ H', St (cell a (.ins C dx fs') :: R) H' → Rk H') : kAug K tv rAdd f σ (.ref a) H Rk :=
  ⟨a, C, dx, fs, _, rfl, hs.get s, c, na, lk, ht _ ⟨m, n, rfl, rfl, dx, fs, hs.get s, l, by rw [hp]; exact q _ (hs.upd s id)⟩⟩
theorem c_appS (hs : St L H) (s : Sel (cell l (.lst xs)) L R) (z : xs.length < 100000) (q : ∀ H', St (cell l (.lst (xs ++ [v])) :: R) H' → Q .non H') : rAppend (.ref l) [v] H Q := c_app (hs.get s) (szl z) (q _ (hs.upd s id))
theorem c_pop0S (hs : St L H) (s : Sel (cell l (.lst (x :: xs))) L R) (z : xs.length < 100000) (q : ∀ H', St (cell l (.lst xs) :: R) H' → Q x H') : rPopAt (.ref l) [.int 0] H Q := c_pop0 (hs.get s) z (q _ (hs.upd s id))
theorem c_popS (hs : St L H) (s : Sel (cell l (.lst (xs ++ [x]))) L R) (q : ∀ H', St (cell l (.lst xs) :: R) H' → Q x H') : rPop (.ref l) [] H Q :=
  ⟨l, _, x, rfl, rfl, hs.get s, by simp, by rw [List.dropLast_concat]; exact q _ (hs.upd s id)⟩
theorem c_extS (hs : St L H) (s : Sel (cell l (.lst xs)) L R) (h : H b = some (.lst ys)) (z : xs.length + ys.length ≤ 100000) (q : ∀ H', St (cell l (.lst (xs ++ ys)) :: R) H' → Q .non H') : rExtend (.ref l) [.ref b] H Q :=
  ⟨l, b, xs, ys, rfl, rfl, hs.get s, h, sz z, q _ (hs.upd s id)⟩
theorem c_clrS (hs : St L H) (s : Sel (cell l (.lst xs)) L R) (q : ∀ H', St (cell l (.lst []) :: R) H' → Q .non H') : rClear (.ref l) [] H Q := ⟨l, xs, rfl, rfl, hs.get s, q _ (hs.upd s id)⟩
theorem c_setLS (hs : St L H) (s : Sel (cell l (.lst xs)) L R) (e : n = (j : Int)) (hj : j < xs.length) (q : ∀ H', St (cell l (.lst (xs.set j v)) :: R) H' → Rk H') : rSetL (.ref l) (.int n) v H Rk := c_setL (hs.get s) e hj (q _ (hs.upd s id))
def kNewL (xs : List V) (H : Hp) (Q : VK) : Prop := xs.length ≤ sizeLine ∧ ∀ p, H p = none → Q (.ref p) (upd H p (.lst xs))
theorem e_lstS (h : tl σ H fun xs H1 => kNewL xs H1 Q) : tLst tl σ H Q := h
theorem k_newL (hs : St L H) (z : xs.length ≤ 100000) (q : ∀ p H', St (cell p (.lst xs) :: L) H' → Q (.ref p) H') : kNewL xs H Q := ⟨sz z, fun p n => q p _ (hs.new n)⟩
def kNewT (xs : List V) (H : Hp) (Q : VK) : Prop := xs.length ≤ sizeLine ∧ ∀ p, H p = none → Q (.ref p) (upd H p (.tup xs))
theorem e_tupS (h : tl σ H fun xs H1 => kNewT xs H1 Q) : tTup tl σ H Q := h
theorem k_newT (hs : St L H) (z : xs.length ≤ 100000) (q : ∀ p H', St (tcell p xs :: L) H' → Q (.ref p) H') : kNewT xs H Q := ⟨sz z, fun p n => q p _ (hs.newi n trivial)⟩
theorem o_catS {zs : List V} (hs : St L H) (h : H l = some (.lst xs)) (h' : H b = some (.lst zs)) (z : xs.length + zs.length ≤ 100000) (q : ∀ p H', St (cell p (.lst (xs ++ zs)) :: L) H' → Q (.ref p) H') : rCat (.ref l) (.ref b) H Q := o_cat h h' (sz z) fun p n => q p _ (hs.new n)
theorem o_catAS {zs : List V} (hs : St L H) (h : SqT K H l xs) (h' : SqT K H b zs) (z : xs.length + zs.length ≤ 100000) (n1 : xs ≠ []) (n2 : zs ≠ []) (q : ∀ p H', St (tcell p (xs ++ zs) :: L) H' → Q (.ref p) H') : rCatA K (.ref l) (.ref b) H Q :=
  ⟨l, b, xs, zs, rfl, rfl, h, h', sz z, fun e => absurd e n1, fun _ e => absurd e n2, fun _ _ p n => q p _ (hs.newi n trivial)⟩
theorem o_slLS {lo hi : Option Int} (hs : St L H) (h : SqL K H a xs) (q : ∀ p H', St (cell p (.lst (cutV xs lo hi)) :: L) H' → Q (.ref p) H') : rSlL K (.ref a) lo hi H Q := o_slL h fun p n => q p _ (hs.new n)
theorem o_repS {Kx : PySem.W.Frag} (hs : St L H) (h : H l = some (.lst [v])) (h1 : 0 ≤ n) (h2 : n ≤ 100000) (q : ∀ p H', St (cell p (.lst (List.replicate n.toNat v)) :: L) H' → Q (.ref p) H') : rRep (.ref l) (.int n) H Q :=
  Rd.o_rep (K := Kx) h h1 (by simp; omega) (by omega) fun p n' => by
    have e : ∀ k : Nat, (List.replicate k [v]).flatten = List.replicate k v := fun k => by
      induction k with
      | zero => rfl
      | succ k ih => rw [List.replicate_succ, List.flatten_cons, ih]; rfl
    rw [e]; exact q p _ (hs.new n')
theorem c_lsS (hs : St L H) (h : SqL K H p ys) (q : ∀ l H', St (cell l (.lst ys) :: L) H' → Q (.ref l) H') : rLs K [.ref p] H Q := c_ls h fun l n => q l _ (hs.new n)
def kMake (C : Addr) (sp : Sp) (E : XK) (vs : List V) (H1 : Hp) (Q : VK) : Prop := ∀ x dx, H1 x = none → H1 dx = none → dx ≠ x → sp (.ref x :: vs) (upd (upd H1 dx (.own x)) x (.ins C dx [])) (fun v H2 => v = .non ∧ Q (.ref x) H2) E
theorem e_makeS {sp : Sp} {ES : L2.St → XK} (h : tl σ H fun vs H1 => kMake C sp (ES σ) vs H1 Q) : tMakeS C sp ES tl σ H Q := h
theorem k_make {sp : Sp} {E : XK} {vs : List V} (hs : St L H) (q : ∀ x dx H', St (cell x (.ins C dx []) :: L) H' → sp (.ref x :: vs) H' (fun v H2 => v = .non ∧ Q (.ref x) H2) E) : kMake C sp E vs H Q := fun x dx n1 n2 ne =>
  q x dx _ ((hs.keep n2).new (by rw [upd_ne ne.symm]; exact n1))
def kMakeK (C : Addr) (m : Nat) (sp : Sp) (gV : List V → List V → List V) (E : XK) (zs : List V) (H2 : Hp) (Q : VK) : Prop := zs.length = m ∧ ∀ x dx, H2 x = none → H2 dx = none → dx ≠ x →
  sp (gV [.ref x] zs) (upd (upd H2 dx (.own x)) x (.ins C dx [])) (fun v H3 => v = .non ∧ Q (.ref x) H3) E
theorem e_makeKS {m : Nat} {sp : Sp} {gV : List V → List V → List V} {ES : L2.St → XK} (h : tl σ H fun zs H2 => kMakeK C m sp gV (ES σ) zs H2 Q) : tMakeKS C m sp gV ES tl σ H Q := h
theorem k_makeK {m : Nat} {sp : Sp} {gV : List V → List V → List V} {E : XK} {zs : List V} (hs : St L H) (hm : zs.length = m) (q : ∀ x dx H', St (cell x (.ins C dx []) :: L) H' → sp (gV [.ref x] zs) H' (fun v H2 => v = .non ∧ Q (.ref x) H2) E) : kMakeK C m sp gV E zs H Q :=
  ⟨hm, fun x dx n1 n2 ne => q x dx _ ((hs.keep n2).new (by rw [upd_ne ne.symm]; exact n1))⟩
def kNewD (H : Hp) (Q : VK) : Prop := ∀ p, H p = none → Q (.ref p) (upd H p (.dK []))
theorem e_dnew (h : kNewD H Q) : tDNewK σ H Q := h
theorem k_newD (hs : St L H) (q : ∀ p H', St (cell p (.dK []) :: L) H' → Q (.ref p) H') : kNewD H Q := fun p n => q p _ (hs.new n)
theorem k_dputS {kvs kvs' : List (Key × V)} {s : Str} (hs : St L H) (se : Sel (cell a (.dK kvs)) L R) (hl : kvs.length < 100000) (e : putK kvs (Sum.inr s) v = kvs') (q : ∀ H', St (cell a (.dK kvs') :: R) H' → Rk H') : kDPut v (.ref a) (.str s) H Rk :=
  k_dput (hs.get se) hl (by rw [e]; exact q _ (hs.upd se id))
def kRaise (W : WX) (C : Addr) (fld : Str) (σ : L2.St) (v : V) (H1 : Hp) : Prop := okV v ∧ ∀ d, H1 d = none → W (.ref C) (some d) σ (upd H1 d (.xd [(fld, v)]))
theorem s_raiseS {W : WX} {fld : Str} (h : te σ H fun v H1 => kRaise W C fld σ v H1) : tRaiseE W C fld te D σ H := h
theorem k_raise {W : WX} {fld : Str} (hs : St L H) (o : okV v) (q : ∀ d H', St (icell d (.xd [(fld, v)]) :: L) H' → W (.ref C) (some d) σ H') : kRaise W C fld σ v H := ⟨o, fun d n => q d _ (hs.newi n trivial)⟩
/-! ### persistent facts -/
def per (φ : Hp → Prop) (m : ∀ (H H' : Hp), φ H → (∀ a o, H a = some o → Imm o → H' a = some o) → φ H') : As := ⟨fun H S => (∀ a, ¬ S a) ∧ φ H, fun h g => ⟨h.1, m _ _ h.2 g.2⟩, fun h a s => absurd s (h.1 a)⟩
theorem St.perU {φ : Hp → Prop} {m : ∀ (H H' : Hp), φ H → (∀ a o, H a = some o → Imm o → H' a = some o) → φ H'} (h : St L H) (s : Sel (per φ m) L R) : φ H := by
  obtain ⟨S, S1, S2, e, d, h1, h2⟩ := h.sel s
  exact h1.2
theorem St.perI {φ : Hp → Prop} {m : ∀ (H H' : Hp), φ H → (∀ a o, H a = some o → Imm o → H' a = some o) → φ H'} (h : St L H) (f : φ H) : St (per φ m :: L) H := by
  obtain ⟨S, h⟩ := h
  exact ⟨S, fun _ => False, S, fun _ => ⟨.inr, fun z => z.elim (fun f => f.elim) id⟩, fun _ f => f.elim, ⟨fun _ f => f, f⟩, h⟩
theorem St.perD {φ : Hp → Prop} {m : ∀ (H H' : Hp), φ H → (∀ a o, H a = some o → Imm o → H' a = some o) → φ H'} (h : St L H) (s : Sel (per φ m) L R) : St (per φ m :: L) H := h.perI (h.perU s)
end
end Sl
namespace Sl
open PySem PySem.Spec PyProof.Rows L2 Sx Rd
section
variable {L R : List As} {H H1 : Hp} {Q0 : As} {A A' ft : List Addr} {P P' : Hp → List Addr → Prop}
/-- from a promise over footprints to assertions -/
theorem step_gen {l' : ∀ (H H' : Hp) (A : List Addr), P' H A → Agree (fun a => a ∈ A) H H' → P' H' A} {d' : ∀ (H : Hp) (A : List Addr), P' H A → ∀ a, a ∈ A → H a ≠ none}
    (h : St (Q0 :: R) H) (hA : ∀ S, Q0.at_ H S → ∀ x ∈ A, S x) (f : Fp ft H H1) (hf : ∀ x ∈ ft, (x ∈ A ∨ H x = none) ∧ ∀ o, H x = some o → ¬ Imm o) (p : P' H1 A') (hA' : ∀ x ∈ A', x ∈ A ∨ H x = none) : St (fpa P' l' d' :: R) H1 := by
  obtain ⟨S, S1, S2, e, d, h1, h2⟩ := h
  have dm := (all R).dom h2
  have hS := hA S1 h1
  refine ⟨fun x => x ∈ A' ∨ S2 x, fun x => x ∈ A', S2, fun _ => Iff.rfl, fun x m s => ?_, ⟨A', fun _ => Iff.rfl, p⟩, (all R).loc h2 ⟨fun b s => ?_, fun b o g i => f b o g fun m => (hf b m).2 o g i⟩⟩
  · rcases hA' x m with m | m
    · exact d x (hS x m) s
    · exact dm x s m
  · cases g : H b with
    | none => exact absurd g (dm b s)
    | some o =>
      refine f b o g fun m => ?_
      rcases (hf b m).1 with q | q
      · exact d b (hS b q) s
      · rw [q] at g; cases g
theorem fpa_U {l : ∀ (H H' : Hp) (A : List Addr), P H A → Agree (fun a => a ∈ A) H H' → P H' A} {dd : ∀ (H : Hp) (A : List Addr), P H A → ∀ a, a ∈ A → H a ≠ none} (h : St (fpa P l dd :: R) H) : ∃ A, P H A ∧
    ∀ (P' : Hp → List Addr → Prop) (l' : ∀ (H H' : Hp) (A : List Addr), P' H A → Agree (fun a => a ∈ A) H H' → P' H' A) (d' : ∀ (H : Hp) (A : List Addr), P' H A → ∀ a, a ∈ A → H a ≠ none) (ft A' : List Addr) (H1 : Hp),
      Fp ft H H1 → (∀ x ∈ ft, (x ∈ A ∨ H x = none) ∧ ∀ o, H x = some o → ¬ Imm o) → P' H1 A' → (∀ x ∈ A', x ∈ A ∨ H x = none) → St (fpa P' l' d' :: R) H1 := by
  obtain ⟨S, S1, S2, e, d, ⟨A, eA, h1⟩, h2⟩ := id h
  refine ⟨A, h1, fun P' l' d' ft A' H1 f hf p hA' => ?_⟩
  have h' : St (fpa (fun H A1 => A1 = A ∧ P H A) (fun H H' A1 ⟨x, y⟩ g => ⟨x, l _ _ _ y ⟨fun a m => g.1 a (by rw [x]; exact m), g.2⟩⟩) (fun H A1 ⟨x, y⟩ a m => by rw [x] at m; exact dd _ _ y a m) :: R) H := ⟨S, S1, S2, e, d, ⟨A, eA, rfl, h1⟩, h2⟩
  refine step_gen h' (fun S ⟨A1, e1, e2, _⟩ x m => (e1 x).mpr (by rw [e2]; exact m)) f hf p hA'
theorem fpa_new {l' : ∀ (H H' : Hp) (A : List Addr), P' H A → Agree (fun a => a ∈ A) H H' → P' H' A} {d' : ∀ (H : Hp) (A : List Addr), P' H A → ∀ a, a ∈ A → H a ≠ none}
    (h : St L H) (f : Fp [] H H1) (p : P' H1 A') (n : ∀ x ∈ A', H x = none) : St (fpa P' l' d' :: L) H1 := by
  have h' : St (emp :: L) H := by
    obtain ⟨S, h⟩ := h
    exact ⟨S, fun _ => False, S, fun _ => ⟨.inr, fun z => z.elim (fun f => f.elim) id⟩, fun _ f => f.elim, fun _ f => f, h⟩
  exact step_gen (A := []) h' (fun _ _ x m => by simp at m) f (fun x m => by simp at m) p fun x m => .inr (n x m)
theorem fpa_cell {a : Addr} {o : HO} {l' : ∀ (H H' : Hp) (A : List Addr), P' H A → Agree (fun a => a ∈ A) H H' → P' H' A} {d' : ∀ (H : Hp) (A : List Addr), P' H A → ∀ a, a ∈ A → H a ≠ none}
    (h : St (cell a o :: R) H) (i : ¬ Imm o) (f : Fp [a] H H1) (p : P' H1 A') (n : ∀ x ∈ A', x = a ∨ H x = none) : St (fpa P' l' d' :: R) H1 :=
  step_gen (A := [a]) h (fun S g x m => (g.1 x).mpr (List.mem_singleton.mp m)) f (fun x m => ⟨.inl m, fun u e => by rw [List.mem_singleton.mp m, h.get0] at e; cases e; exact i⟩) p fun x m => (n x m).imp (fun e => by rw [e]; simp) id
theorem St.keepF (h : St L H) (f : Fp [] H H1) : St L H1 := by
  obtain ⟨S, h⟩ := h
  exact ⟨S, (all L).loc h (Agree.of_fp f (fun a m => by simp at m) ((all L).dom h) fun b s => by simp)⟩
/-! ### lists of owned things -/
def lA {α : Type} (P : V → α → As) : List V → List α → As
  | [], [] => emp
  | v :: vs, x :: xs => star (P v x) (lA P vs xs)
  | _, _ => pur False
variable {α : Type} {Pa : V → α → As} {v : V} {x : α} {vs ws : List V} {xs ys : List α}
theorem lA.len (h : St (lA Pa vs xs :: R) H) : vs.length = xs.length := by
  induction vs generalizing xs R with
  | nil =>
    cases xs with
    | nil => rfl
    | cons x xs => exact h.purU.1.elim
  | cons v vs ih =>
    cases xs with
    | nil => exact h.purU.1.elim
    | cons x xs =>
      have h' : St (lA Pa vs xs :: Pa v x :: R) H := by
        obtain ⟨S, h⟩ := h
        exact Ent.swap.st ⟨S, star_assoc1 h⟩
      simp [ih h']
theorem St.starU {P Q : As} (h : St (star P Q :: R) H) : St (P :: Q :: R) H := by
  obtain ⟨S, h⟩ := h
  exact ⟨S, star_assoc1 h⟩
theorem St.starI {P Q : As} (h : St (P :: Q :: R) H) : St (star P Q :: R) H := by
  obtain ⟨S, h⟩ := h
  exact ⟨S, star_assoc2 h⟩
theorem lA.consU (h : St (lA Pa vs (x :: xs) :: R) H) : ∃ v ws, vs = v :: ws ∧ St (Pa v x :: lA Pa ws xs :: R) H := by
  cases vs with
  | nil => exact h.purU.1.elim
  | cons v ws => exact ⟨v, ws, rfl, h.starU⟩
theorem lA.consI (h : St (Pa v x :: lA Pa vs xs :: R) H) : St (lA Pa (v :: vs) (x :: xs) :: R) H := h.starI
theorem lA.nilI (h : St R H) : St (lA Pa [] [] :: R) H := by
  obtain ⟨S, h⟩ := h
  exact ⟨S, fun _ => False, S, fun _ => ⟨.inr, fun z => z.elim (fun f => f.elim) id⟩, fun _ f => f.elim, fun _ f => f, h⟩
theorem lA.nilU (h : St (lA Pa vs [] :: R) H) : vs = [] := List.eq_nil_of_length_eq_zero (lA.len h)
theorem lA.appI (h : St (lA Pa vs xs :: lA Pa ws ys :: R) H) : St (lA Pa (vs ++ ws) (xs ++ ys) :: R) H := by
  induction vs generalizing xs R with
  | nil =>
    cases xs with
    | nil => exact h.cons0
    | cons x xs => exact h.purU.1.elim
  | cons v vs ih =>
    cases xs with
    | nil => exact h.purU.1.elim
    | cons x xs =>
      have h1 := (Ent.cons Ent.swap).st (Ent.swap.st h.starU)
      exact lA.consI (Ent.swap.st (ih (R := Pa v x :: R) ((Ent.cons Ent.swap).st h1 |> fun h => (Ent.cons Ent.swap).st h)))
theorem lA.snocI (h : St (lA Pa vs xs :: Pa v x :: R) H) : St (lA Pa (vs ++ [v]) (xs ++ [x]) :: R) H := by
  refine lA.appI (Ent.swap.st ?_)
  refine lA.consI ?_
  have h1 := Ent.swap.st h
  have h2 : St (lA Pa [] [] :: Pa v x :: lA Pa vs xs :: R) H := lA.nilI h1
  exact Ent.swap.st h2
theorem lA.appU {xs ys : List α} (h : St (lA Pa vs (xs ++ ys) :: R) H) : ∃ v1 v2, vs = v1 ++ v2 ∧ St (lA Pa v1 xs :: lA Pa v2 ys :: R) H := by
  induction xs generalizing vs R with
  | nil => exact ⟨[], vs, rfl, lA.nilI h⟩
  | cons x xs ih =>
    obtain ⟨v, ws, rfl, h1⟩ := lA.consU h
    obtain ⟨v1, v2, rfl, h2⟩ := ih (Ent.swap.st h1)
    exact ⟨v :: v1, v2, rfl, lA.consI (Ent.swap.st ((Ent.cons Ent.swap).st h2))⟩
/-- all but the i-th -/
def lH (P : V → α → As) (vs : List V) (xs : List α) (i : Nat) : As := star (lA P (vs.take i) (xs.take i)) (lA P (vs.drop (i + 1)) (xs.drop (i + 1)))
theorem lA.out {i : Nat} (h : St (lA Pa vs xs :: R) H) (hx : xs[i]? = some x) : ∃ v, vs[i]? = some v ∧ St (Pa v x :: lH Pa vs xs i :: R) H := by
  obtain ⟨hi, rfl⟩ := List.getElem?_eq_some_iff.mp hx
  have e : xs = xs.take i ++ (xs[i] :: xs.drop (i + 1)) := by rw [List.getElem_cons_drop, List.take_append_drop]
  rw [e] at h
  obtain ⟨v1, v2, rfl, h1⟩ := lA.appU h
  have l1 : v1.length = i := by rw [lA.len h1, List.length_take]; omega
  obtain ⟨v, ws, rfl, h2⟩ := lA.consU (Ent.swap.st h1)
  refine ⟨v, by rw [List.getElem?_append_right (by omega), l1, Nat.sub_self]; rfl, ?_⟩
  have e1 : (v1 ++ v :: ws).take i = v1 := by rw [← l1, List.take_left]
  have e2 : (v1 ++ v :: ws).drop (i + 1) = ws := by rw [← l1, List.drop_append]; simp
  unfold lH
  rw [e1, e2]
  have h3 := (Ent.cons Ent.swap).st h2
  have h4 : St (Pa v xs[i] :: star (lA Pa v1 (xs.take i)) (lA Pa ws (xs.drop (i + 1))) :: R) H := by
    obtain ⟨S, S1, S2, e, d, g1, g2⟩ := h3
    exact ⟨S, S1, S2, e, d, g1, star_assoc2 g2⟩
  exact h4
theorem lA.back {i : Nat} (hi : i < xs.length) (hv : vs[i]? = some v) (h : St (Pa v x :: lH Pa vs xs i :: R) H) : St (lA Pa vs (xs.set i x) :: R) H := by
  unfold lH at h
  have h3 : St (Pa v x :: lA Pa (vs.take i) (xs.take i) :: lA Pa (vs.drop (i + 1)) (xs.drop (i + 1)) :: R) H := by
    obtain ⟨S, S1, S2, e, d, g1, g2⟩ := h
    exact ⟨S, S1, S2, e, d, g1, star_assoc1 g2⟩
  have h4 := lA.appI (Ent.swap.st (lA.consI ((Ent.cons Ent.swap).st h3)))
  obtain ⟨hj, rfl⟩ := List.getElem?_eq_some_iff.mp hv
  rw [show vs.take i ++ vs[i] :: vs.drop (i + 1) = vs by rw [List.getElem_cons_drop, List.take_append_drop]] at h4
  rw [show xs.set i x = xs.take i ++ x :: xs.drop (i + 1) from List.set_eq_take_append_cons_drop .. |>.trans (if_pos hi)]
  exact h4
end
end Sl
namespace Sl
open PySem PySem.Spec PyProof.Rows L2 Sx Rd
section
variable {L M R : List As} {H : Hp} {P Q : As} {α : Type} {Pa : V → α → As} {v : V} {x : α} {vs ws : List V} {xs ys : List α}
theorem St.sel2 (h : St L H) (s1 : Sel P L M) (s2 : Sel Q M R) : St (P :: Q :: R) H := (Ent.cons s2.ent).st (h.sel s1)
theorem St.sel3 {T : As} {N : List As} (h : St L H) (s1 : Sel P L M) (s2 : Sel Q M N) (s3 : Sel T N R) : St (P :: Q :: T :: R) H := (Ent.cons (Ent.cons s3.ent)).st (h.sel2 s1 s2)
theorem lA.snocS (h : St L H) (s1 : Sel (lA Pa vs xs) L M) (s2 : Sel (Pa v x) M R) : St (lA Pa (vs ++ [v]) (xs ++ [x]) :: R) H := lA.snocI (h.sel2 s1 s2)
theorem lA.consS (h : St L H) (s1 : Sel (Pa v x) L M) (s2 : Sel (lA Pa vs xs) M R) : St (lA Pa (v :: vs) (x :: xs) :: R) H := lA.consI (h.sel2 s1 s2)
theorem lA.appS (h : St L H) (s1 : Sel (lA Pa vs xs) L M) (s2 : Sel (lA Pa ws ys) M R) : St (lA Pa (vs ++ ws) (xs ++ ys) :: R) H := lA.appI (h.sel2 s1 s2)
theorem lA.unS (h : St L H) (s : Sel (lA Pa vs (x :: xs)) L R) : ∃ v ws, vs = v :: ws ∧ St (Pa v x :: lA Pa ws xs :: R) H := lA.consU (h.sel s)
theorem lA.lenS (h : St L H) (s : Sel (lA Pa vs xs) L R) : vs.length = xs.length := lA.len (h.sel s)
theorem lA.outS {i : Nat} (h : St L H) (s : Sel (lA Pa vs xs) L R) (hx : xs[i]? = some x) : ∃ v, vs[i]? = some v ∧ St (Pa v x :: lH Pa vs xs i :: R) H := lA.out (h.sel s) hx
theorem lA.backS {i : Nat} (h : St L H) (s1 : Sel (Pa v x) L M) (s2 : Sel (lH Pa vs xs i) M R) (hi : i < xs.length) (hv : vs[i]? = some v) : St (lA Pa vs (xs.set i x) :: R) H := lA.back hi hv (h.sel2 s1 s2)
/-- given back as it was -/
theorem lA.backE {i : Nat} (h : St L H) (s1 : Sel (Pa v x) L M) (s2 : Sel (lH Pa vs xs i) M R) (hx : xs[i]? = some x) (hv : vs[i]? = some v) : St (lA Pa vs xs :: R) H := by
  obtain ⟨hi, rfl⟩ := List.getElem?_eq_some_iff.mp hx
  have z := lA.backS h s1 s2 hi hv
  rwa [List.set_getElem_self] at z
end
end Sl
namespace Sl
open PySem PySem.Spec PyProof.Rows L2 Sx Rd
/-! ### comprehensions -/
section
variable {K : PySem.W.Frag} {σ : L2.St} {H : Hp} {Q : VK} {g : TG} {tt : TT} {te : TE} {vs : List Nat} {L R0 : List As} {p : Addr} {xs : List V}
/-- what a turn has to bring about -/
abbrev LcStep (g : TG) (tt : TT) (te : TE) (vs : List Nat) (σ : L2.St) (φ : Nat → List V → Prop) (Lf : Nat → List V → List As) (E : Addr) (i : Nat) (x : V) (acc : List V) (H' : Hp) : Prop :=
  ∀ (R : VK) (N : Hp → Prop), (∀ y H4, φ (i + 1) (acc ++ [y]) → St (cell E (.lst acc) :: Lf (i + 1) (acc ++ [y])) H4 → R y H4) → (∀ H4, φ (i + 1) acc → St (cell E (.lst acc) :: Lf (i + 1) acc) H4 → N H4) →
    g x (wipe σ vs) H' fun σ2 H2 => wipe σ2 vs = wipe σ vs ∧ tt σ2 H2 fun b H3 => if b = true then te σ2 H3 R else N H3
theorem k_lcLS (φ : Nat → List V → Prop) (Lf : Nat → List V → List As) (hs : St (Lf 0 []) H) (hq : SqL K H p xs) (hz : xs.length < 100000) (f0 : φ 0 [])
    (hl : ∀ i E acc H', φ i acc → St (cell E (.lst acc) :: Lf i acc) H' → SqL K H' p xs)
    (st : ∀ E i x acc H', xs[i]? = some x → acc.length ≤ i → φ i acc → St (cell E (.lst acc) :: Lf i acc) H' → LcStep g tt te vs σ φ Lf E i x acc H')
    (q : ∀ E acc H', acc.length ≤ xs.length → φ xs.length acc → St (cell E (.lst acc) :: Lf xs.length acc) H' → Q (.ref E) H') : kLcL K g tt te vs σ Q (.ref p) H := by
  refine ⟨p, rfl, ⟨_, hq⟩, fun E hE => ?_⟩
  refine lc_list (K := K) (a := p) (xs := xs) (fun i H' => ∃ acc, acc.length ≤ i ∧ φ i acc ∧ St (cell E (.lst acc) :: Lf i acc) H') ⟨[], Nat.le_refl _, f0, hs.new hE⟩ (fun i H' hi ⟨acc, _, f, h⟩ => hl i E acc H' f h) (fun i x H' hx ⟨acc, ha, f, h⟩ => ?_) fun H' ⟨acc, ha, f, h⟩ => q E acc H' ha f h
  have hi : i < xs.length := (List.getElem?_eq_some_iff.mp hx).1
  exact st E i x acc H' hx ha f h _ _ (fun y H4 f4 h4 => ⟨acc, h4.get0, szl (by omega), acc ++ [y], by rw [List.length_append]; simp; omega, f4, h4.upd0 id⟩) fun H4 f4 h4 => ⟨acc, by omega, f4, h4⟩
/-- over range(n) -/
theorem k_lcFS {n : Int} (φ : Nat → List V → Prop) (Lf : Nat → List V → List As) (hs : St (Lf 0 []) H) (h1 : 0 ≤ n) (h2 : n < 100000) (f0 : φ 0 [])
    (st : ∀ E (i : Nat) acc H', (i : Int) < n → acc.length ≤ i → φ i acc → St (cell E (.lst acc) :: Lf i acc) H' → LcStep g tt te vs σ φ Lf E i (.int (i : Nat)) acc H')
    (q : ∀ E acc H', acc.length ≤ n.toNat → φ n.toNat acc → St (cell E (.lst acc) :: Lf n.toNat acc) H' → Q (.ref E) H') : kLcF g tt te vs σ Q (.int n) H := by
  refine ⟨n, rfl, by omega, by omega, fun E hE => ?_⟩
  refine lc_range (lo := 0) (n := n.toNat) (fun i H' => ∃ acc, acc.length ≤ i ∧ φ i acc ∧ St (cell E (.lst acc) :: Lf i acc) H') ⟨[], Nat.le_refl _, f0, hs.new hE⟩ (fun i H' hi ⟨acc, ha, f, h⟩ => ?_) fun H' ⟨acc, ha, f, h⟩ => q E acc H' ha f h
  have e0 : (0 : Int) + (i : Int) = (i : Int) := Int.zero_add _
  rw [e0]
  exact st E i acc H' (by omega) ha f h _ _ (fun y H4 f4 h4 => ⟨acc, h4.get0, szl (by omega), acc ++ [y], by rw [List.length_append]; simp; omega, f4, h4.upd0 id⟩) fun H4 f4 h4 => ⟨acc, by omega, f4, h4⟩
/-- over enumerate(list) -/
theorem k_lcES (φ : Nat → List V → Prop) (Lf : Nat → List V → List As) (hs : St (Lf 0 []) H) (hq : SqL K H p xs) (hz : xs.length < 100000) (f0 : φ 0 [])
    (hl : ∀ i E acc H', φ i acc → St (cell E (.lst acc) :: Lf i acc) H' → SqL K H' p xs)
    (st : ∀ E T i x acc H', xs[i]? = some x → acc.length ≤ i → φ i acc → H' T = some (.tup [.int (i : Nat), x]) → St (cell E (.lst acc) :: Lf i acc) H' → LcStep g tt te vs σ φ Lf E i (.ref T) acc H')
    (q : ∀ E acc H', acc.length ≤ xs.length → φ xs.length acc → St (cell E (.lst acc) :: Lf xs.length acc) H' → Q (.ref E) H') : kLcE K g tt te vs σ Q [.ref p] H := by
  refine ⟨p, xs, rfl, hq, fun E hE => ?_⟩
  refine ⟨fun i m H' => m = xs.length - i ∧ i ≤ xs.length ∧ ∃ acc, acc.length ≤ i ∧ φ i acc ∧ St (cell E (.lst acc) :: Lf i acc) H', ⟨_, rfl, Nat.zero_le _, [], Nat.le_refl _, f0, hs.new hE⟩, ?_⟩
  rintro i m H' ⟨rfl, hi, acc, ha, f, h⟩
  have hq' := hl i E acc H' f h
  by_cases hlt : i < xs.length
  · refine .inr ⟨⟨xs, xs[i], hq', List.getElem?_eq_getElem hlt⟩, fun H4 => ∃ acc, acc.length ≤ i + 1 ∧ φ (i + 1) acc ∧ St (cell E (.lst acc) :: Lf (i + 1) acc) H4, fun H4 z => ⟨_, by omega, rfl, by omega, z⟩, ?_⟩
    rintro v H2 ⟨T, x, rfl, hT, rfl, hx⟩
    exact st E T i x acc _ (hx xs hq') ha f upd_same (h.keep hT) _ _ (fun y H4 f4 h4 => ⟨acc, h4.get0, szl (by omega), acc ++ [y], by rw [List.length_append]; simp; omega, f4, h4.upd0 id⟩) fun H4 f4 h4 => ⟨acc, by omega, f4, h4⟩
  · have hi2 : i = xs.length := by omega
    subst hi2
    exact .inl ⟨⟨xs, hq', Nat.le_refl _⟩, q E acc H' ha f h⟩
/-- one more assertion that grows -/
theorem k_lcLX (X : Nat → List V → As) (hs : St L H) (hq : SqL K H p xs) (hz : xs.length < 100000) (h0 : St L H → St (X 0 [] :: L) H)
    (hl : ∀ i E acc H', St (cell E (.lst acc) :: X i acc :: L) H' → SqL K H' p xs)
    (st : ∀ E i x acc H', xs[i]? = some x → acc.length ≤ i → St (cell E (.lst acc) :: X i acc :: L) H' → LcStep g tt te vs σ (fun _ _ => True) (fun i acc => X i acc :: L) E i x acc H')
    (q : ∀ E acc H', acc.length ≤ xs.length → St (cell E (.lst acc) :: X xs.length acc :: L) H' → Q (.ref E) H') : kLcL K g tt te vs σ Q (.ref p) H :=
  k_lcLS (fun _ _ => True) (fun i acc => X i acc :: L) (h0 hs) hq hz trivial (fun i E acc H' _ h => hl i E acc H' h) (fun E i x acc H' hx ha _ h => st E i x acc H' hx ha h) fun E acc H' ha _ h => q E acc H' ha h
theorem St.perm {M R : List As} (h : St L H) (s : Sels M L R) : St M H := by
  have z := h.sels s
  have e : ∀ M : List As, Ent (M ++ R) M := fun M => by
    induction M with
    | nil => exact fun H S h => ⟨fun _ => False, fun _ f => f.elim, fun _ f => f⟩
    | cons P M ih => exact ih.cons
  exact (e M).st z
/-- a test that is none -/
theorem lc_yes {σ2 : L2.St} {H2 : Hp} {R : VK} {N : Hp → Prop} (h : te σ2 H2 R) : tYes σ2 H2 fun b H3 => if b = true then te σ2 H3 R else N H3 := t_yes (iteT h)
end
end Sl
namespace Sl
open PySem PySem.Spec PyProof.Rows L2 Sx Rd
/-- a cut without a promise of its own: what follows is read on each way -/
theorem s_cut0 {D : Ends} {σ : L2.St} {H : Hp} {t u : TS} (h : t { D with nx := u D } σ H) : Evl.tCut t u D σ H := s_cut (u D) h fun _ _ z => z
end Sl
namespace Sl
open PySem PySem.Spec PyProof.Rows L2 Sx Rd
theorem St.nil {H : Hp} : St [] H := ⟨fun _ => False, fun _ f => f⟩
theorem ix_ints {ns : List Int} {r : Int} (h0 : 0 ≤ r) (h1 : r < ns.length) : ∃ m ∈ ns, atI (ns.map V.int) r = some (.int m) := by
  obtain ⟨j, rfl⟩ := Int.eq_ofNat_of_zero_le h0
  have hj : j < ns.length := by omega
  exact ⟨ns[j], List.getElem_mem hj, atI_nat (by rw [List.getElem?_map, List.getElem?_eq_getElem hj]; rfl)⟩
end Sl
namespace Sl
open PySem PySem.Spec PyProof.Rows L2 Sx Rd
theorem ix_of (ns : List Int) {xs : List V} {r : Int} (e : xs = ns.map V.int) (h0 : 0 ≤ r) (h1 : r < ns.length) : ∃ m ∈ ns, atI xs r = some (.int m) := by
  subst e
  exact ix_ints h0 h1
end Sl
namespace Sl
open PySem PySem.Spec PyProof.Rows L2 Sx Rd
theorem t_up0 {t : TT} {σ : L2.St} {H : Hp} {Q : Bool → Hp → Prop} (h : t σ H Q) : tUpT t σ H Q := t_up Q h fun _ _ z => z
end Sl
namespace Sl
open PySem PySem.Spec PyProof.Rows L2 Sx Rd
/-- a new thing, found behind a promise over footprints -/
theorem St.newF {L : List As} {H H1 : Hp} {a : Addr} {o : HO} (h : St L H) (f : Fp [] H H1) (n : H a = none) (g : H1 a = some o) : St (cell a o :: L) H1 := by
  obtain ⟨S, h⟩ := h
  have dm := (all L).dom h
  exact ⟨fun b => b = a ∨ S b, fun b => b = a, S, fun _ => Iff.rfl, fun b z s => dm b s (z ▸ n), ⟨fun _ => Iff.rfl, g⟩, (all L).loc h (Agree.of_fp f (fun _ m => by simp at m) dm fun _ _ => by simp)⟩
theorem St.newiF {L : List As} {H H1 : Hp} {a : Addr} {o : HO} (h : St L H) (f : Fp [] H H1) (g : H1 a = some o) (i : Imm o) : St (icell a o :: L) H1 := by
  obtain ⟨S, h⟩ := h.keepF f
  exact ⟨S, fun _ => False, S, fun _ => ⟨.inr, fun z => z.elim (fun f => f.elim) id⟩, fun _ f => f.elim, ⟨fun _ f => f, g, i⟩, h⟩
end Sl
namespace Sl
open PySem PySem.Spec PyProof.Rows L2 Sx Rd
theorem St.iadd {L : List As} {H : Hp} {a : Addr} {o : HO} (h : St L H) (g : H a = some o) (i : Imm o) : St (icell a o :: L) H := by
  obtain ⟨S, h⟩ := h
  exact ⟨S, fun _ => False, S, fun _ => ⟨.inr, fun z => z.elim (fun f => f.elim) id⟩, fun _ f => f.elim, ⟨fun _ f => f, g, i⟩, h⟩
end Sl
namespace Sl
open PySem PySem.Spec PyProof.Rows L2 Sx Rd
/-- a list that is only read: tracked, frozen or known -/
def sqA (K : PySem.W.Frag) (b : Addr) (xs : List V) : As := ⟨fun H S => SqL K H b xs ∧ ((H b = some (.lst xs) ∧ ∀ x, S x ↔ x = b) ∨ ((∀ x, ¬ S x) ∧ ((∃ o, H b = some (.frz o (.lst xs))) ∨ ∀ H' : Hp, SqL K H' b xs))),
  fun {H H' S} ⟨h, c⟩ g => by
    rcases c with ⟨e, s⟩ | ⟨s, ⟨o, e⟩ | e⟩
    · have e' : H' b = some (.lst xs) := by rw [g.1 b ((s b).mpr rfl)]; exact e
      exact ⟨.inl (.inl e'), .inl ⟨e', s⟩⟩
    · have e' := g.2 _ _ e trivial
      exact ⟨.inl (.inr ⟨o, e'⟩), .inr ⟨s, .inl ⟨o, e'⟩⟩⟩
    · exact ⟨e H', .inr ⟨s, .inr e⟩⟩,
  fun {H S} ⟨h, c⟩ a m => by
    rcases c with ⟨e, s⟩ | ⟨s, _⟩
    · rw [(s a).mp m, e]; simp
    · exact absurd m (s a)⟩
theorem sqA.U {K : PySem.W.Frag} {b : Addr} {xs : List V} {L R : List As} {H : Hp} (hs : St L H) (s : Sel (sqA K b xs) L R) : SqL K H b xs := by
  obtain ⟨S, S1, S2, e, d, h1, h2⟩ := hs.sel s
  exact h1.1
theorem sqA.new {K : PySem.W.Frag} {b : Addr} {xs : List V} {H : Hp} (h : SqL K H b xs) : St [sqA K b xs] H := by
  have mk : ∀ S : Addr → Prop, (sqA K b xs).at_ H S → St [sqA K b xs] H := fun S h => ⟨S, S, fun _ => False, fun _ => ⟨.inl, fun z => z.elim id fun f => f.elim⟩, fun _ _ f => f, h, fun _ f => f⟩
  rcases id h with (e | ⟨o, e⟩) | e
  · exact mk (fun x => x = b) ⟨h, .inl ⟨e, fun _ => Iff.rfl⟩⟩
  · exact mk (fun _ => False) ⟨h, .inr ⟨fun _ f => f, .inl ⟨o, e⟩⟩⟩
  · exact mk (fun _ => False) ⟨h, .inr ⟨fun _ f => f, .inr fun H' => .inr e⟩⟩
end Sl
set_option Elab.async false
set_option maxRecDepth 100000
set_option maxHeartbeats 100000000
set_option linter.all false
namespace My
open PySem L2 Sx Rd Sl
def top (i : Nat) : Stmt := PySem.Challenge.pw_tickrings_k15_sending.main.body.getD i (.Pass ⟨0, 0, 0, 0⟩)
abbrev s_wall : Stmt := top 0
abbrev s_Sender_init : Stmt := inClass (top 2) 0
abbrev s_Sender_can_step : Stmt := inClass (top 2) 1
abbrev s_Sender_step : Stmt := inClass (top 2) 2
abbrev s_Sender_waiting : Stmt := inClass (top 2) 3
abbrev s_Sender_empty_slot : Stmt := inClass (top 2) 4
abbrev s_RingError_init : Stmt := inClass (top 5) 0
abbrev s_PoolError_init : Stmt := inClass (top 6) 0
abbrev s_Ring_init : Stmt := inClass (top 8) 0
abbrev s_Ring_held : Stmt := inClass (top 8) 1
abbrev s_Ring_is_full : Stmt := inClass (top 8) 2
abbrev s_Ring_put : Stmt := inClass (top 8) 3
abbrev s_Ring_first : Stmt := inClass (top 8) 4
abbrev s_Ring_take : Stmt := inClass (top 8) 5
abbrev s_Ring_listed : Stmt := inClass (top 8) 6
abbrev s_Ring_next : Stmt := inClass (top 8) 7
abbrev s_Pool_init : Stmt := inClass (top 10) 0
abbrev s_Pool_free : Stmt := inClass (top 10) 1
abbrev s_Pool_owner : Stmt := inClass (top 10) 2
abbrev s_Pool_held : Stmt := inClass (top 10) 3
abbrev s_Pool_acquire : Stmt := inClass (top 10) 4
abbrev s_Pool_release : Stmt := inClass (top 10) 5
abbrev s_Pool_may_acquire : Stmt := inClass (top 10) 6
abbrev s_Pool_exists : Stmt := inClass (top 10) 7
abbrev s_TransmitQueue_init : Stmt := inClass (top 12) 0
abbrev s_TransmitQueue_put : Stmt := inClass (top 12) 1
abbrev s_TransmitQueue_take : Stmt := inClass (top 12) 2
abbrev s_TransmitQueue_space : Stmt := inClass (top 12) 3
abbrev s_TransmitQueue_contents : Stmt := inClass (top 12) 4
abbrev s_copied : Stmt := top 14
abbrev s_SlotRing_init : Stmt := inClass (top 15) 0
abbrev s_SlotRing_can_arm : Stmt := inClass (top 15) 1
abbrev s_SlotRing_arm : Stmt := inClass (top 15) 2
abbrev s_SlotRing_open_slot : Stmt := inClass (top 15) 3
abbrev s_SlotRing_open_bytes : Stmt := inClass (top 15) 4
abbrev s_SlotRing_open_count : Stmt := inClass (top 15) 5
abbrev s_SlotRing_add : Stmt := inClass (top 15) 6
abbrev s_SlotRing_close : Stmt := inClass (top 15) 7
abbrev s_SlotRing_oldest : Stmt := inClass (top 15) 8
abbrev s_SlotRing_reap : Stmt := inClass (top 15) 9
abbrev s_SlotRing_filled_slots : Stmt := inClass (top 15) 10
abbrev s_SlotRing_buffers : Stmt := inClass (top 15) 11
abbrev s_law_state : Stmt := top 17
abbrev s_law_draw : Stmt := top 18
abbrev s_law_pick : Stmt := top 19
abbrev s_law_fills : Stmt := top 20
abbrev s_law_steps : Stmt := top 21
abbrev s_law_rest : Stmt := top 22
abbrev s_law_agrees : Stmt := top 23
abbrev s_law : Stmt := top 24
theorem sc_wall : FnScope ["k"] ["k"] (defScope s_wall) := ⟨rfl, rfl, rfl, by decide +kernel, rfl, by decide +kernel, by decide +kernel⟩
theorem sc_Sender_init : FnScope ["self", "queue", "ring", "pool"] ["self", "queue", "ring", "pool"] (defScope s_Sender_init) := ⟨rfl, rfl, rfl, by decide +kernel, rfl, by decide +kernel, by decide +kernel⟩
theorem sc_Sender_can_step : FnScope ["self"] ["self"] (defScope s_Sender_can_step) := ⟨rfl, rfl, rfl, by decide +kernel, rfl, by decide +kernel, by decide +kernel⟩
theorem sc_Sender_step : FnScope ["self", "buffer", "data", "_", "byte"] ["self"] (defScope s_Sender_step) := ⟨rfl, rfl, rfl, by decide +kernel, rfl, by decide +kernel, by decide +kernel⟩
theorem sc_Sender_waiting : FnScope ["self", "data", "slot"] ["self"] (defScope s_Sender_waiting) := ⟨rfl, rfl, rfl, by decide +kernel, rfl, by decide +kernel, by decide +kernel⟩
theorem sc_Sender_empty_slot : FnScope ["self", "buffer"] ["self", "buffer"] (defScope s_Sender_empty_slot) := ⟨rfl, rfl, rfl, by decide +kernel, rfl, by decide +kernel, by decide +kernel⟩
theorem sc_RingError_init : NdefX.NScope ["self", "held", "__class__"] ["self", "held"] ["__class__"] (defScope s_RingError_init) := NdefX.nscope_by (by decide +kernel)
theorem sc_PoolError_init : NdefX.NScope ["self", "buffer", "__class__"] ["self", "buffer"] ["__class__"] (defScope s_PoolError_init) := NdefX.nscope_by (by decide +kernel)
theorem sc_Ring_init : FnScope ["self", "cells"] ["self", "cells"] (defScope s_Ring_init) := ⟨rfl, rfl, rfl, by decide +kernel, rfl, by decide +kernel, by decide +kernel⟩
theorem sc_Ring_held : FnScope ["self", "many"] ["self"] (defScope s_Ring_held) := ⟨rfl, rfl, rfl, by decide +kernel, rfl, by decide +kernel, by decide +kernel⟩
theorem sc_Ring_is_full : FnScope ["self"] ["self"] (defScope s_Ring_is_full) := ⟨rfl, rfl, rfl, by decide +kernel, rfl, by decide +kernel, by decide +kernel⟩
theorem sc_Ring_put : FnScope ["self", "value"] ["self", "value"] (defScope s_Ring_put) := ⟨rfl, rfl, rfl, by decide +kernel, rfl, by decide +kernel, by decide +kernel⟩
theorem sc_Ring_first : FnScope ["self"] ["self"] (defScope s_Ring_first) := ⟨rfl, rfl, rfl, by decide +kernel, rfl, by decide +kernel, by decide +kernel⟩
theorem sc_Ring_take : FnScope ["self", "value"] ["self"] (defScope s_Ring_take) := ⟨rfl, rfl, rfl, by decide +kernel, rfl, by decide +kernel, by decide +kernel⟩
theorem sc_Ring_listed : FnScope ["self", "cells", "at"] ["self"] (defScope s_Ring_listed) := ⟨rfl, rfl, rfl, by decide +kernel, rfl, by decide +kernel, by decide +kernel⟩
theorem sc_Ring_next : FnScope ["self", "counter"] ["self", "counter"] (defScope s_Ring_next) := ⟨rfl, rfl, rfl, by decide +kernel, rfl, by decide +kernel, by decide +kernel⟩
theorem sc_Pool_init : FnScope ["self", "many", "buffer"] ["self", "many"] (defScope s_Pool_init) := ⟨rfl, rfl, rfl, by decide +kernel, rfl, by decide +kernel, by decide +kernel⟩
theorem sc_Pool_free : FnScope ["self"] ["self"] (defScope s_Pool_free) := ⟨rfl, rfl, rfl, by decide +kernel, rfl, by decide +kernel, by decide +kernel⟩
theorem sc_Pool_owner : FnScope ["self", "buffer"] ["self", "buffer"] (defScope s_Pool_owner) := ⟨rfl, rfl, rfl, by decide +kernel, rfl, by decide +kernel, by decide +kernel⟩
theorem sc_Pool_held : FnScope ["self", "owner", "buffer", "holder"] ["self", "owner"] (defScope s_Pool_held) := ⟨rfl, rfl, rfl, by decide +kernel, rfl, by decide +kernel, by decide +kernel⟩
theorem sc_Pool_acquire : FnScope ["self", "owner", "buffer"] ["self", "owner"] (defScope s_Pool_acquire) := ⟨rfl, rfl, rfl, by decide +kernel, rfl, by decide +kernel, by decide +kernel⟩
theorem sc_Pool_release : FnScope ["self", "buffer"] ["self", "buffer"] (defScope s_Pool_release) := ⟨rfl, rfl, rfl, by decide +kernel, rfl, by decide +kernel, by decide +kernel⟩
theorem sc_Pool_may_acquire : FnScope ["self", "owner", "owners"] ["self", "owner", "owners"] (defScope s_Pool_may_acquire) := ⟨rfl, rfl, rfl, by decide +kernel, rfl, by decide +kernel, by decide +kernel⟩
theorem sc_Pool_exists : FnScope ["self", "buffer"] ["self", "buffer"] (defScope s_Pool_exists) := ⟨rfl, rfl, rfl, by decide +kernel, rfl, by decide +kernel, by decide +kernel⟩
theorem sc_TransmitQueue_init : FnScope ["self", "capacity"] ["self", "capacity"] (defScope s_TransmitQueue_init) := ⟨rfl, rfl, rfl, by decide +kernel, rfl, by decide +kernel, by decide +kernel⟩
theorem sc_TransmitQueue_put : FnScope ["self", "byte"] ["self", "byte"] (defScope s_TransmitQueue_put) := ⟨rfl, rfl, rfl, by decide +kernel, rfl, by decide +kernel, by decide +kernel⟩
theorem sc_TransmitQueue_take : FnScope ["self"] ["self"] (defScope s_TransmitQueue_take) := ⟨rfl, rfl, rfl, by decide +kernel, rfl, by decide +kernel, by decide +kernel⟩
theorem sc_TransmitQueue_space : FnScope ["self"] ["self"] (defScope s_TransmitQueue_space) := ⟨rfl, rfl, rfl, by decide +kernel, rfl, by decide +kernel, by decide +kernel⟩
theorem sc_TransmitQueue_contents : FnScope ["self"] ["self"] (defScope s_TransmitQueue_contents) := ⟨rfl, rfl, rfl, by decide +kernel, rfl, by decide +kernel, by decide +kernel⟩
theorem sc_copied : FnScope ["slot", "buffer", "data", "lost"] ["slot"] (defScope s_copied) := ⟨rfl, rfl, rfl, by decide +kernel, rfl, by decide +kernel, by decide +kernel⟩
theorem sc_SlotRing_init : FnScope ["self", "slots"] ["self", "slots"] (defScope s_SlotRing_init) := ⟨rfl, rfl, rfl, by decide +kernel, rfl, by decide +kernel, by decide +kernel⟩
theorem sc_SlotRing_can_arm : FnScope ["self"] ["self"] (defScope s_SlotRing_can_arm) := ⟨rfl, rfl, rfl, by decide +kernel, rfl, by decide +kernel, by decide +kernel⟩
theorem sc_SlotRing_arm : FnScope ["self", "buffer"] ["self", "buffer"] (defScope s_SlotRing_arm) := ⟨rfl, rfl, rfl, by decide +kernel, rfl, by decide +kernel, by decide +kernel⟩
theorem sc_SlotRing_open_slot : FnScope ["self"] ["self"] (defScope s_SlotRing_open_slot) := ⟨rfl, rfl, rfl, by decide +kernel, rfl, by decide +kernel, by decide +kernel⟩
theorem sc_SlotRing_open_bytes : FnScope ["self"] ["self"] (defScope s_SlotRing_open_bytes) := ⟨rfl, rfl, rfl, by decide +kernel, rfl, by decide +kernel, by decide +kernel⟩
theorem sc_SlotRing_open_count : FnScope ["self"] ["self"] (defScope s_SlotRing_open_count) := ⟨rfl, rfl, rfl, by decide +kernel, rfl, by decide +kernel, by decide +kernel⟩
theorem sc_SlotRing_add : FnScope ["self", "byte"] ["self", "byte"] (defScope s_SlotRing_add) := ⟨rfl, rfl, rfl, by decide +kernel, rfl, by decide +kernel, by decide +kernel⟩
theorem sc_SlotRing_close : FnScope ["self", "lost", "buffer"] ["self", "lost"] (defScope s_SlotRing_close) := ⟨rfl, rfl, rfl, by decide +kernel, rfl, by decide +kernel, by decide +kernel⟩
theorem sc_SlotRing_oldest : FnScope ["self"] ["self"] (defScope s_SlotRing_oldest) := ⟨rfl, rfl, rfl, by decide +kernel, rfl, by decide +kernel, by decide +kernel⟩
theorem sc_SlotRing_reap : FnScope ["self"] ["self"] (defScope s_SlotRing_reap) := ⟨rfl, rfl, rfl, by decide +kernel, rfl, by decide +kernel, by decide +kernel⟩
theorem sc_SlotRing_filled_slots : FnScope ["self", "slot"] ["self"] (defScope s_SlotRing_filled_slots) := ⟨rfl, rfl, rfl, by decide +kernel, rfl, by decide +kernel, by decide +kernel⟩
theorem sc_SlotRing_buffers : FnScope ["self", "slot"] ["self"] (defScope s_SlotRing_buffers) := ⟨rfl, rfl, rfl, by decide +kernel, rfl, by decide +kernel, by decide +kernel⟩
theorem sc_law_state : FnScope ["script", "seed", "cell"] ["script"] (defScope s_law_state) := ⟨rfl, rfl, rfl, by decide +kernel, rfl, by decide +kernel, by decide +kernel⟩
theorem sc_law_draw : FnScope ["state", "many", "cells", "value", "mixed"] ["state", "many"] (defScope s_law_draw) := ⟨rfl, rfl, rfl, by decide +kernel, rfl, by decide +kernel, by decide +kernel⟩
theorem sc_law_pick : FnScope ["state", "row"] ["state", "row"] (defScope s_law_pick) := ⟨rfl, rfl, rfl, by decide +kernel, rfl, by decide +kernel, by decide +kernel⟩
theorem sc_law_fills : FnScope ["state", "ring", "pool", "slots", "world", "filled", "buffer", "data", "k", "byte"] ["state", "ring", "pool", "slots", "world"] (defScope s_law_fills) := ⟨rfl, rfl, rfl, by decide +kernel, rfl, by decide +kernel, by decide +kernel⟩
theorem sc_law_steps : FnScope ["sender", "capacity", "world", "filled", "queue", "free", "able", "byte", "data", "due"] ["sender", "capacity", "world"] (defScope s_law_steps) := ⟨rfl, rfl, rfl, by decide +kernel, rfl, by decide +kernel, by decide +kernel⟩
theorem sc_law_rest : FnScope ["filled", "rest", "slot"] ["filled"] (defScope s_law_rest) := ⟨rfl, rfl, rfl, by decide +kernel, rfl, by decide +kernel, by decide +kernel⟩
theorem sc_law_agrees : FnScope ["sender", "queue", "ring", "pool", "world", "waiting", "slot", "buffer"] ["sender", "queue", "ring", "pool", "world"] (defScope s_law_agrees) := ⟨rfl, rfl, rfl, by decide +kernel, rfl, by decide +kernel, by decide +kernel⟩
theorem sc_law : FnScope ["script", "state", "slots", "capacity", "many", "queue", "ring", "pool", "sender", "world", "buffer", "sent", "cell", "kind", "k", "byte", "due"] ["script"] (defScope s_law) := ⟨rfl, rfl, rfl, by decide +kernel, rfl, by decide +kernel, by decide +kernel⟩
/-- where things stand -/
structure Ads where
  (C_Sender C_TickringsError C_RingError C_PoolError C_Ring C_Pool C_TransmitQueue C_SlotRing : Addr)
  (f_wall f_Sender_init f_Sender_can_step f_Sender_step f_Sender_waiting f_Sender_empty_slot f_RingError_init f_PoolError_init f_Ring_init f_Ring_held f_Ring_is_full f_Ring_put f_Ring_first f_Ring_take f_Ring_listed f_Ring_next f_Pool_init f_Pool_free f_Pool_owner f_Pool_held f_Pool_acquire f_Pool_release f_Pool_may_acquire f_Pool_exists f_TransmitQueue_init f_TransmitQueue_put f_TransmitQueue_take f_TransmitQueue_space f_TransmitQueue_contents f_copied f_SlotRing_init f_SlotRing_can_arm f_SlotRing_arm f_SlotRing_open_slot f_SlotRing_open_bytes f_SlotRing_open_count f_SlotRing_add f_SlotRing_close f_SlotRing_oldest f_SlotRing_reap f_SlotRing_filled_slots f_SlotRing_buffers f_law_state f_law_draw f_law_pick f_law_fills f_law_steps f_law_rest f_law_agrees f_law : Addr)
  (fd_wall fd_Sender_init fd_Sender_can_step fd_Sender_step fd_Sender_waiting fd_Sender_empty_slot fd_RingError_init fd_PoolError_init fd_Ring_init fd_Ring_held fd_Ring_is_full fd_Ring_put fd_Ring_first fd_Ring_take fd_Ring_listed fd_Ring_next fd_Pool_init fd_Pool_free fd_Pool_owner fd_Pool_held fd_Pool_acquire fd_Pool_release fd_Pool_may_acquire fd_Pool_exists fd_TransmitQueue_init fd_TransmitQueue_put fd_TransmitQueue_take fd_TransmitQueue_space fd_TransmitQueue_contents fd_copied fd_SlotRing_init fd_SlotRing_can_arm fd_SlotRing_arm fd_SlotRing_open_slot fd_SlotRing_open_bytes fd_SlotRing_open_count fd_SlotRing_add fd_SlotRing_close fd_SlotRing_oldest fd_SlotRing_reap fd_SlotRing_filled_slots fd_SlotRing_buffers fd_law_state fd_law_draw fd_law_pick fd_law_fills fd_law_steps fd_law_rest fd_law_agrees fd_law : FuncData)
def F_Sender (x0 x1 x2 x3 : V) : List (Str × V) := [("queue", x0), ("ring", x1), ("pool", x2), ("moved", x3)]
section
variable {x0 x1 x2 x3 v : V}
theorem F_Sender_queue_l : (F_Sender x0 x1 x2 x3).lookup ("queue" : Str) = some x0 := by unfold F_Sender; rw [look_hit]
theorem F_Sender_queue_p : putF "queue" v (F_Sender x0 x1 x2 x3) = F_Sender v x1 x2 x3 := by unfold F_Sender; rw [putF_hit]; try rfl
theorem F_Sender_ring_l : (F_Sender x0 x1 x2 x3).lookup ("ring" : Str) = some x1 := by unfold F_Sender; rw [look_miss (by decide +kernel), look_hit]
theorem F_Sender_ring_p : putF "ring" v (F_Sender x0 x1 x2 x3) = F_Sender x0 v x2 x3 := by unfold F_Sender; rw [putF_miss (by decide +kernel), putF_hit]; try rfl
theorem F_Sender_pool_l : (F_Sender x0 x1 x2 x3).lookup ("pool" : Str) = some x2 := by unfold F_Sender; rw [look_miss (by decide +kernel), look_miss (by decide +kernel), look_hit]
theorem F_Sender_pool_p : putF "pool" v (F_Sender x0 x1 x2 x3) = F_Sender x0 x1 v x3 := by unfold F_Sender; rw [putF_miss (by decide +kernel), putF_miss (by decide +kernel), putF_hit]; try rfl
theorem F_Sender_moved_l : (F_Sender x0 x1 x2 x3).lookup ("moved" : Str) = some x3 := by unfold F_Sender; rw [look_miss (by decide +kernel), look_miss (by decide +kernel), look_miss (by decide +kernel), look_hit]
theorem F_Sender_moved_p : putF "moved" v (F_Sender x0 x1 x2 x3) = F_Sender x0 x1 x2 v := by unfold F_Sender; rw [putF_miss (by decide +kernel), putF_miss (by decide +kernel), putF_miss (by decide +kernel), putF_hit]; try rfl
theorem F_Sender_m_can_step : (F_Sender x0 x1 x2 x3).lookup ("can_step" : Str) = none := by unfold F_Sender; rw [look_miss (by decide +kernel), look_miss (by decide +kernel), look_miss (by decide +kernel), look_miss (by decide +kernel)]; try rfl
theorem F_Sender_m_step : (F_Sender x0 x1 x2 x3).lookup ("step" : Str) = none := by unfold F_Sender; rw [look_miss (by decide +kernel), look_miss (by decide +kernel), look_miss (by decide +kernel), look_miss (by decide +kernel)]; try rfl
theorem F_Sender_m_waiting : (F_Sender x0 x1 x2 x3).lookup ("waiting" : Str) = none := by unfold F_Sender; rw [look_miss (by decide +kernel), look_miss (by decide +kernel), look_miss (by decide +kernel), look_miss (by decide +kernel)]; try rfl
theorem F_Sender_m_empty_slot : (F_Sender x0 x1 x2 x3).lookup ("_empty_slot" : Str) = none := by unfold F_Sender; rw [look_miss (by decide +kernel), look_miss (by decide +kernel), look_miss (by decide +kernel), look_miss (by decide +kernel)]; try rfl
theorem F_Sender_len : (F_Sender x0 x1 x2 x3).length < 1000 := by show 4 < 1000; decide
theorem F_Sender_i1 : putF "ring" x1 ([(("queue" : Str), x0)] : List (Str × V)) = [(("queue" : Str), x0), (("ring" : Str), x1)] := by rw [putF_miss (by decide +kernel)]; rfl
theorem F_Sender_i2 : putF "pool" x2 ([(("queue" : Str), x0), (("ring" : Str), x1)] : List (Str × V)) = [(("queue" : Str), x0), (("ring" : Str), x1), (("pool" : Str), x2)] := by rw [putF_miss (by decide +kernel), putF_miss (by decide +kernel)]; rfl
theorem F_Sender_i3 : putF "moved" x3 ([(("queue" : Str), x0), (("ring" : Str), x1), (("pool" : Str), x2)] : List (Str × V)) = [(("queue" : Str), x0), (("ring" : Str), x1), (("pool" : Str), x2), (("moved" : Str), x3)] := by rw [putF_miss (by decide +kernel), putF_miss (by decide +kernel), putF_miss (by decide +kernel)]; rfl
theorem F_Sender_init : putF "moved" x3 (putF "pool" x2 (putF "ring" x1 (putF "queue" x0 []))) = F_Sender x0 x1 x2 x3 := by unfold F_Sender; rw [putF_nil, F_Sender_i1, F_Sender_i2, F_Sender_i3]
end
def F_Ring (x0 x1 x2 : V) : List (Str × V) := [("_cells", x0), ("written", x1), ("taken", x2)]
section
variable {x0 x1 x2 v : V}
theorem F_Ring_cells_l : (F_Ring x0 x1 x2).lookup ("_cells" : Str) = some x0 := by unfold F_Ring; rw [look_hit]
theorem F_Ring_cells_p : putF "_cells" v (F_Ring x0 x1 x2) = F_Ring v x1 x2 := by unfold F_Ring; rw [putF_hit]; try rfl
theorem F_Ring_written_l : (F_Ring x0 x1 x2).lookup ("written" : Str) = some x1 := by unfold F_Ring; rw [look_miss (by decide +kernel), look_hit]
theorem F_Ring_written_p : putF "written" v (F_Ring x0 x1 x2) = F_Ring x0 v x2 := by unfold F_Ring; rw [putF_miss (by decide +kernel), putF_hit]; try rfl
theorem F_Ring_taken_l : (F_Ring x0 x1 x2).lookup ("taken" : Str) = some x2 := by unfold F_Ring; rw [look_miss (by decide +kernel), look_miss (by decide +kernel), look_hit]
theorem F_Ring_taken_p : putF "taken" v (F_Ring x0 x1 x2) = F_Ring x0 x1 v := by unfold F_Ring; rw [putF_miss (by decide +kernel), putF_miss (by decide +kernel), putF_hit]; try rfl
theorem F_Ring_m_held : (F_Ring x0 x1 x2).lookup ("held" : Str) = none := by unfold F_Ring; rw [look_miss (by decide +kernel), look_miss (by decide +kernel), look_miss (by decide +kernel)]; try rfl
theorem F_Ring_m_is_full : (F_Ring x0 x1 x2).lookup ("is_full" : Str) = none := by unfold F_Ring; rw [look_miss (by decide +kernel), look_miss (by decide +kernel), look_miss (by decide +kernel)]; try rfl
theorem F_Ring_m_put : (F_Ring x0 x1 x2).lookup ("put" : Str) = none := by unfold F_Ring; rw [look_miss (by decide +kernel), look_miss (by decide +kernel), look_miss (by decide +kernel)]; try rfl
theorem F_Ring_m_first : (F_Ring x0 x1 x2).lookup ("first" : Str) = none := by unfold F_Ring; rw [look_miss (by decide +kernel), look_miss (by decide +kernel), look_miss (by decide +kernel)]; try rfl
theorem F_Ring_m_take : (F_Ring x0 x1 x2).lookup ("take" : Str) = none := by unfold F_Ring; rw [look_miss (by decide +kernel), look_miss (by decide +kernel), look_miss (by decide +kernel)]; try rfl
theorem F_Ring_m_listed : (F_Ring x0 x1 x2).lookup ("listed" : Str) = none := by unfold F_Ring; rw [look_miss (by decide +kernel), look_miss (by decide +kernel), look_miss (by decide +kernel)]; try rfl
theorem F_Ring_m_next : (F_Ring x0 x1 x2).lookup ("_next" : Str) = none := by unfold F_Ring; rw [look_miss (by decide +kernel), look_miss (by decide +kernel), look_miss (by decide +kernel)]; try rfl
theorem F_Ring_len : (F_Ring x0 x1 x2).length < 1000 := by show 3 < 1000; decide
theorem F_Ring_i1 : putF "written" x1 ([(("_cells" : Str), x0)] : List (Str × V)) = [(("_cells" : Str), x0), (("written" : Str), x1)] := by rw [putF_miss (by decide +kernel)]; rfl
theorem F_Ring_i2 : putF "taken" x2 ([(("_cells" : Str), x0), (("written" : Str), x1)] : List (Str × V)) = [(("_cells" : Str), x0), (("written" : Str), x1), (("taken" : Str), x2)] := by rw [putF_miss (by decide +kernel), putF_miss (by decide +kernel)]; rfl
theorem F_Ring_init : putF "taken" x2 (putF "written" x1 (putF "_cells" x0 [])) = F_Ring x0 x1 x2 := by unfold F_Ring; rw [putF_nil, F_Ring_i1, F_Ring_i2]
end
def F_Pool (x0 x1 : V) : List (Str × V) := [("_owners", x0), ("_free", x1)]
section
variable {x0 x1 v : V}
theorem F_Pool_owners_l : (F_Pool x0 x1).lookup ("_owners" : Str) = some x0 := by unfold F_Pool; rw [look_hit]
theorem F_Pool_owners_p : putF "_owners" v (F_Pool x0 x1) = F_Pool v x1 := by unfold F_Pool; rw [putF_hit]; try rfl
theorem F_Pool_free_l : (F_Pool x0 x1).lookup ("_free" : Str) = some x1 := by unfold F_Pool; rw [look_miss (by decide +kernel), look_hit]
theorem F_Pool_free_p : putF "_free" v (F_Pool x0 x1) = F_Pool x0 v := by unfold F_Pool; rw [putF_miss (by decide +kernel), putF_hit]; try rfl
theorem F_Pool_m_free : (F_Pool x0 x1).lookup ("free" : Str) = none := by unfold F_Pool; rw [look_miss (by decide +kernel), look_miss (by decide +kernel)]; try rfl
theorem F_Pool_m_owner : (F_Pool x0 x1).lookup ("owner" : Str) = none := by unfold F_Pool; rw [look_miss (by decide +kernel), look_miss (by decide +kernel)]; try rfl
theorem F_Pool_m_held : (F_Pool x0 x1).lookup ("held" : Str) = none := by unfold F_Pool; rw [look_miss (by decide +kernel), look_miss (by decide +kernel)]; try rfl
theorem F_Pool_m_acquire : (F_Pool x0 x1).lookup ("acquire" : Str) = none := by unfold F_Pool; rw [look_miss (by decide +kernel), look_miss (by decide +kernel)]; try rfl
theorem F_Pool_m_release : (F_Pool x0 x1).lookup ("release" : Str) = none := by unfold F_Pool; rw [look_miss (by decide +kernel), look_miss (by decide +kernel)]; try rfl
theorem F_Pool_m_may_acquire : (F_Pool x0 x1).lookup ("may_acquire" : Str) = none := by unfold F_Pool; rw [look_miss (by decide +kernel), look_miss (by decide +kernel)]; try rfl
theorem F_Pool_m_exists : (F_Pool x0 x1).lookup ("_exists" : Str) = none := by unfold F_Pool; rw [look_miss (by decide +kernel), look_miss (by decide +kernel)]; try rfl
theorem F_Pool_len : (F_Pool x0 x1).length < 1000 := by show 2 < 1000; decide
theorem F_Pool_i1 : putF "_free" x1 ([(("_owners" : Str), x0)] : List (Str × V)) = [(("_owners" : Str), x0), (("_free" : Str), x1)] := by rw [putF_miss (by decide +kernel)]; rfl
theorem F_Pool_init : putF "_free" x1 (putF "_owners" x0 []) = F_Pool x0 x1 := by unfold F_Pool; rw [putF_nil, F_Pool_i1]
end
def F_TransmitQueue (x0 x1 : V) : List (Str × V) := [("capacity", x0), ("_bytes", x1)]
section
variable {x0 x1 v : V}
theorem F_TransmitQueue_capacity_l : (F_TransmitQueue x0 x1).lookup ("capacity" : Str) = some x0 := by unfold F_TransmitQueue; rw [look_hit]
theorem F_TransmitQueue_capacity_p : putF "capacity" v (F_TransmitQueue x0 x1) = F_TransmitQueue v x1 := by unfold F_TransmitQueue; rw [putF_hit]; try rfl
theorem F_TransmitQueue_bytes_l : (F_TransmitQueue x0 x1).lookup ("_bytes" : Str) = some x1 := by unfold F_TransmitQueue; rw [look_miss (by decide +kernel), look_hit]
theorem F_TransmitQueue_bytes_p : putF "_bytes" v (F_TransmitQueue x0 x1) = F_TransmitQueue x0 v := by unfold F_TransmitQueue; rw [putF_miss (by decide +kernel), putF_hit]; try rfl
theorem F_TransmitQueue_m_put : (F_TransmitQueue x0 x1).lookup ("put" : Str) = none := by unfold F_TransmitQueue; rw [look_miss (by decide +kernel), look_miss (by decide +kernel)]; try rfl
theorem F_TransmitQueue_m_take : (F_TransmitQueue x0 x1).lookup ("take" : Str) = none := by unfold F_TransmitQueue; rw [look_miss (by decide +kernel), look_miss (by decide +kernel)]; try rfl
theorem F_TransmitQueue_m_space : (F_TransmitQueue x0 x1).lookup ("space" : Str) = none := by unfold F_TransmitQueue; rw [look_miss (by decide +kernel), look_miss (by decide +kernel)]; try rfl
theorem F_TransmitQueue_m_contents : (F_TransmitQueue x0 x1).lookup ("contents" : Str) = none := by unfold F_TransmitQueue; rw [look_miss (by decide +kernel), look_miss (by decide +kernel)]; try rfl
theorem F_TransmitQueue_len : (F_TransmitQueue x0 x1).length < 1000 := by show 2 < 1000; decide
theorem F_TransmitQueue_i1 : putF "_bytes" x1 ([(("capacity" : Str), x0)] : List (Str × V)) = [(("capacity" : Str), x0), (("_bytes" : Str), x1)] := by rw [putF_miss (by decide +kernel)]; rfl
theorem F_TransmitQueue_init : putF "_bytes" x1 (putF "capacity" x0 []) = F_TransmitQueue x0 x1 := by unfold F_TransmitQueue; rw [putF_nil, F_TransmitQueue_i1]
end
def F_SlotRing (x0 x1 x2 x3 : V) : List (Str × V) := [("_slots", x0), ("_armed", x1), ("_filled", x2), ("_added", x3)]
section
variable {x0 x1 x2 x3 v : V}
theorem F_SlotRing_slots_l : (F_SlotRing x0 x1 x2 x3).lookup ("_slots" : Str) = some x0 := by unfold F_SlotRing; rw [look_hit]
theorem F_SlotRing_slots_p : putF "_slots" v (F_SlotRing x0 x1 x2 x3) = F_SlotRing v x1 x2 x3 := by unfold F_SlotRing; rw [putF_hit]; try rfl
theorem F_SlotRing_armed_l : (F_SlotRing x0 x1 x2 x3).lookup ("_armed" : Str) = some x1 := by unfold F_SlotRing; rw [look_miss (by decide +kernel), look_hit]
theorem F_SlotRing_armed_p : putF "_armed" v (F_SlotRing x0 x1 x2 x3) = F_SlotRing x0 v x2 x3 := by unfold F_SlotRing; rw [putF_miss (by decide +kernel), putF_hit]; try rfl
theorem F_SlotRing_filled_l : (F_SlotRing x0 x1 x2 x3).lookup ("_filled" : Str) = some x2 := by unfold F_SlotRing; rw [look_miss (by decide +kernel), look_miss (by decide +kernel), look_hit]
theorem F_SlotRing_filled_p : putF "_filled" v (F_SlotRing x0 x1 x2 x3) = F_SlotRing x0 x1 v x3 := by unfold F_SlotRing; rw [putF_miss (by decide +kernel), putF_miss (by decide +kernel), putF_hit]; try rfl
theorem F_SlotRing_added_l : (F_SlotRing x0 x1 x2 x3).lookup ("_added" : Str) = some x3 := by unfold F_SlotRing; rw [look_miss (by decide +kernel), look_miss (by decide +kernel), look_miss (by decide +kernel), look_hit]
theorem F_SlotRing_added_p : putF "_added" v (F_SlotRing x0 x1 x2 x3) = F_SlotRing x0 x1 x2 v := by unfold F_SlotRing; rw [putF_miss (by decide +kernel), putF_miss (by decide +kernel), putF_miss (by decide +kernel), putF_hit]; try rfl
theorem F_SlotRing_m_can_arm : (F_SlotRing x0 x1 x2 x3).lookup ("can_arm" : Str) = none := by unfold F_SlotRing; rw [look_miss (by decide +kernel), look_miss (by decide +kernel), look_miss (by decide +kernel), look_miss (by decide +kernel)]; try rfl
theorem F_SlotRing_m_arm : (F_SlotRing x0 x1 x2 x3).lookup ("arm" : Str) = none := by unfold F_SlotRing; rw [look_miss (by decide +kernel), look_miss (by decide +kernel), look_miss (by decide +kernel), look_miss (by decide +kernel)]; try rfl
theorem F_SlotRing_m_open_slot : (F_SlotRing x0 x1 x2 x3).lookup ("open_slot" : Str) = none := by unfold F_SlotRing; rw [look_miss (by decide +kernel), look_miss (by decide +kernel), look_miss (by decide +kernel), look_miss (by decide +kernel)]; try rfl
theorem F_SlotRing_m_open_bytes : (F_SlotRing x0 x1 x2 x3).lookup ("open_bytes" : Str) = none := by unfold F_SlotRing; rw [look_miss (by decide +kernel), look_miss (by decide +kernel), look_miss (by decide +kernel), look_miss (by decide +kernel)]; try rfl
theorem F_SlotRing_m_open_count : (F_SlotRing x0 x1 x2 x3).lookup ("open_count" : Str) = none := by unfold F_SlotRing; rw [look_miss (by decide +kernel), look_miss (by decide +kernel), look_miss (by decide +kernel), look_miss (by decide +kernel)]; try rfl
theorem F_SlotRing_m_add : (F_SlotRing x0 x1 x2 x3).lookup ("add" : Str) = none := by unfold F_SlotRing; rw [look_miss (by decide +kernel), look_miss (by decide +kernel), look_miss (by decide +kernel), look_miss (by decide +kernel)]; try rfl
theorem F_SlotRing_m_close : (F_SlotRing x0 x1 x2 x3).lookup ("close" : Str) = none := by unfold F_SlotRing; rw [look_miss (by decide +kernel), look_miss (by decide +kernel), look_miss (by decide +kernel), look_miss (by decide +kernel)]; try rfl
theorem F_SlotRing_m_oldest : (F_SlotRing x0 x1 x2 x3).lookup ("oldest" : Str) = none := by unfold F_SlotRing; rw [look_miss (by decide +kernel), look_miss (by decide +kernel), look_miss (by decide +kernel), look_miss (by decide +kernel)]; try rfl
theorem F_SlotRing_m_reap : (F_SlotRing x0 x1 x2 x3).lookup ("reap" : Str) = none := by unfold F_SlotRing; rw [look_miss (by decide +kernel), look_miss (by decide +kernel), look_miss (by decide +kernel), look_miss (by decide +kernel)]; try rfl
theorem F_SlotRing_m_filled_slots : (F_SlotRing x0 x1 x2 x3).lookup ("filled_slots" : Str) = none := by unfold F_SlotRing; rw [look_miss (by decide +kernel), look_miss (by decide +kernel), look_miss (by decide +kernel), look_miss (by decide +kernel)]; try rfl
theorem F_SlotRing_m_buffers : (F_SlotRing x0 x1 x2 x3).lookup ("buffers" : Str) = none := by unfold F_SlotRing; rw [look_miss (by decide +kernel), look_miss (by decide +kernel), look_miss (by decide +kernel), look_miss (by decide +kernel)]; try rfl
theorem F_SlotRing_len : (F_SlotRing x0 x1 x2 x3).length < 1000 := by show 4 < 1000; decide
theorem F_SlotRing_i1 : putF "_armed" x1 ([(("_slots" : Str), x0)] : List (Str × V)) = [(("_slots" : Str), x0), (("_armed" : Str), x1)] := by rw [putF_miss (by decide +kernel)]; rfl
theorem F_SlotRing_i2 : putF "_filled" x2 ([(("_slots" : Str), x0), (("_armed" : Str), x1)] : List (Str × V)) = [(("_slots" : Str), x0), (("_armed" : Str), x1), (("_filled" : Str), x2)] := by rw [putF_miss (by decide +kernel), putF_miss (by decide +kernel)]; rfl
theorem F_SlotRing_i3 : putF "_added" x3 ([(("_slots" : Str), x0), (("_armed" : Str), x1), (("_filled" : Str), x2)] : List (Str × V)) = [(("_slots" : Str), x0), (("_armed" : Str), x1), (("_filled" : Str), x2), (("_added" : Str), x3)] := by rw [putF_miss (by decide +kernel), putF_miss (by decide +kernel), putF_miss (by decide +kernel)]; rfl
theorem F_SlotRing_init : putF "_added" x3 (putF "_filled" x2 (putF "_armed" x1 (putF "_slots" x0 []))) = F_SlotRing x0 x1 x2 x3 := by unfold F_SlotRing; rw [putF_nil, F_SlotRing_i1, F_SlotRing_i2, F_SlotRing_i3]
end
def sp_law0 (K : PySem.W.Frag) : Sp := A1 fun v H Q _ => ∃ (b : Addr) (ns : List Int), v = .ref b ∧ SqL K H b (ns.map V.int) ∧ ns.length ≤ 63 ∧ ∀ H1, Q (.bl true) H1
abbrev sp_law (K : PySem.W.Frag) (a : Ads) : Sp := sp_law0 K
/-- what the top has written -/
structure Txt (P : Program) (w : World) (K : PySem.W.Frag) (mg : Str → Option Value) (base : Heap) (a : Ads) : Prop where
  g_abs : mg "abs" = none
  g_bool : mg "bool" = none
  g_enumerate : mg "enumerate" = none
  g_int : mg "int" = none
  g_isinstance : mg "isinstance" = none
  g_len : mg "len" = none
  g_list : mg "list" = none
  g_range : mg "range" = none
  F_wall : Fun K "_wall" "_wall" s_wall a.f_wall a.fd_wall
  b_wall : Binds K a.fd_wall ["k"] []
  g_wall : mg "_wall" = some (.ref a.f_wall)
  F_Sender_init : Fun K "__init__" "Sender.__init__" s_Sender_init a.f_Sender_init a.fd_Sender_init
  b_Sender_init : Binds K a.fd_Sender_init ["self", "queue", "ring", "pool"] []
  mk_Sender : Mk K a.C_Sender a.f_Sender_init
  F_Sender_can_step : Fun K "can_step" "Sender.can_step" s_Sender_can_step a.f_Sender_can_step a.fd_Sender_can_step
  b_Sender_can_step : Binds K a.fd_Sender_can_step ["self"] []
  m_Sender_can_step : Meth K a.C_Sender "can_step" a.f_Sender_can_step
  F_Sender_step : Fun K "step" "Sender.step" s_Sender_step a.f_Sender_step a.fd_Sender_step
  b_Sender_step : Binds K a.fd_Sender_step ["self"] []
  m_Sender_step : Meth K a.C_Sender "step" a.f_Sender_step
  F_Sender_waiting : Fun K "waiting" "Sender.waiting" s_Sender_waiting a.f_Sender_waiting a.fd_Sender_waiting
  b_Sender_waiting : Binds K a.fd_Sender_waiting ["self"] []
  m_Sender_waiting : Meth K a.C_Sender "waiting" a.f_Sender_waiting
  F_Sender_empty_slot : Fun K "_empty_slot" "Sender._empty_slot" s_Sender_empty_slot a.f_Sender_empty_slot a.fd_Sender_empty_slot
  b_Sender_empty_slot : Binds K a.fd_Sender_empty_slot ["self", "buffer"] []
  m_Sender_empty_slot : Meth K a.C_Sender "_empty_slot" a.f_Sender_empty_slot
  F_Ring_init : Fun K "__init__" "Ring.__init__" s_Ring_init a.f_Ring_init a.fd_Ring_init
  b_Ring_init : Binds K a.fd_Ring_init ["self", "cells"] []
  mk_Ring : Mk K a.C_Ring a.f_Ring_init
  F_Ring_held : Fun K "held" "Ring.held" s_Ring_held a.f_Ring_held a.fd_Ring_held
  b_Ring_held : Binds K a.fd_Ring_held ["self"] []
  m_Ring_held : Meth K a.C_Ring "held" a.f_Ring_held
  F_Ring_is_full : Fun K "is_full" "Ring.is_full" s_Ring_is_full a.f_Ring_is_full a.fd_Ring_is_full
  b_Ring_is_full : Binds K a.fd_Ring_is_full ["self"] []
  m_Ring_is_full : Meth K a.C_Ring "is_full" a.f_Ring_is_full
  F_Ring_put : Fun K "put" "Ring.put" s_Ring_put a.f_Ring_put a.fd_Ring_put
  b_Ring_put : Binds K a.fd_Ring_put ["self", "value"] []
  m_Ring_put : Meth K a.C_Ring "put" a.f_Ring_put
  F_Ring_first : Fun K "first" "Ring.first" s_Ring_first a.f_Ring_first a.fd_Ring_first
  b_Ring_first : Binds K a.fd_Ring_first ["self"] []
  m_Ring_first : Meth K a.C_Ring "first" a.f_Ring_first
  F_Ring_take : Fun K "take" "Ring.take" s_Ring_take a.f_Ring_take a.fd_Ring_take
  b_Ring_take : Binds K a.fd_Ring_take ["self"] []
  m_Ring_take : Meth K a.C_Ring "take" a.f_Ring_take
  F_Ring_listed : Fun K "listed" "Ring.listed" s_Ring_listed a.f_Ring_listed a.fd_Ring_listed
  b_Ring_listed : Binds K a.fd_Ring_listed ["self"] []
  m_Ring_listed : Meth K a.C_Ring "listed" a.f_Ring_listed
  F_Ring_next : Fun K "_next" "Ring._next" s_Ring_next a.f_Ring_next a.fd_Ring_next
  b_Ring_next : Binds K a.fd_Ring_next ["self", "counter"] []
  m_Ring_next : Meth K a.C_Ring "_next" a.f_Ring_next
  F_Pool_init : Fun K "__init__" "Pool.__init__" s_Pool_init a.f_Pool_init a.fd_Pool_init
  b_Pool_init : Binds K a.fd_Pool_init ["self", "many"] []
  mk_Pool : Mk K a.C_Pool a.f_Pool_init
  F_Pool_free : Fun K "free" "Pool.free" s_Pool_free a.f_Pool_free a.fd_Pool_free
  b_Pool_free : Binds K a.fd_Pool_free ["self"] []
  m_Pool_free : Meth K a.C_Pool "free" a.f_Pool_free
  F_Pool_owner : Fun K "owner" "Pool.owner" s_Pool_owner a.f_Pool_owner a.fd_Pool_owner
  b_Pool_owner : Binds K a.fd_Pool_owner ["self", "buffer"] []
  m_Pool_owner : Meth K a.C_Pool "owner" a.f_Pool_owner
  F_Pool_held : Fun K "held" "Pool.held" s_Pool_held a.f_Pool_held a.fd_Pool_held
  b_Pool_held : Binds K a.fd_Pool_held ["self", "owner"] []
  m_Pool_held : Meth K a.C_Pool "held" a.f_Pool_held
  F_Pool_acquire : Fun K "acquire" "Pool.acquire" s_Pool_acquire a.f_Pool_acquire a.fd_Pool_acquire
  b_Pool_acquire : Binds K a.fd_Pool_acquire ["self", "owner"] []
  m_Pool_acquire : Meth K a.C_Pool "acquire" a.f_Pool_acquire
  F_Pool_release : Fun K "release" "Pool.release" s_Pool_release a.f_Pool_release a.fd_Pool_release
  b_Pool_release : Binds K a.fd_Pool_release ["self", "buffer"] []
  m_Pool_release : Meth K a.C_Pool "release" a.f_Pool_release
  F_Pool_may_acquire : Fun K "may_acquire" "Pool.may_acquire" s_Pool_may_acquire a.f_Pool_may_acquire a.fd_Pool_may_acquire
  b_Pool_may_acquire : Binds K a.fd_Pool_may_acquire ["self", "owner", "owners"] []
  m_Pool_may_acquire : Meth K a.C_Pool "may_acquire" a.f_Pool_may_acquire
  F_Pool_exists : Fun K "_exists" "Pool._exists" s_Pool_exists a.f_Pool_exists a.fd_Pool_exists
  b_Pool_exists : Binds K a.fd_Pool_exists ["self", "buffer"] []
  m_Pool_exists : Meth K a.C_Pool "_exists" a.f_Pool_exists
  F_TransmitQueue_init : Fun K "__init__" "TransmitQueue.__init__" s_TransmitQueue_init a.f_TransmitQueue_init a.fd_TransmitQueue_init
  b_TransmitQueue_init : Binds K a.fd_TransmitQueue_init ["self", "capacity"] []
  mk_TransmitQueue : Mk K a.C_TransmitQueue a.f_TransmitQueue_init
  F_TransmitQueue_put : Fun K "put" "TransmitQueue.put" s_TransmitQueue_put a.f_TransmitQueue_put a.fd_TransmitQueue_put
  b_TransmitQueue_put : Binds K a.fd_TransmitQueue_put ["self", "byte"] []
  m_TransmitQueue_put : Meth K a.C_TransmitQueue "put" a.f_TransmitQueue_put
  F_TransmitQueue_take : Fun K "take" "TransmitQueue.take" s_TransmitQueue_take a.f_TransmitQueue_take a.fd_TransmitQueue_take
  b_TransmitQueue_take : Binds K a.fd_TransmitQueue_take ["self"] []
  m_TransmitQueue_take : Meth K a.C_TransmitQueue "take" a.f_TransmitQueue_take
  F_TransmitQueue_space : Fun K "space" "TransmitQueue.space" s_TransmitQueue_space a.f_TransmitQueue_space a.fd_TransmitQueue_space
  b_TransmitQueue_space : Binds K a.fd_TransmitQueue_space ["self"] []
  m_TransmitQueue_space : Meth K a.C_TransmitQueue "space" a.f_TransmitQueue_space
  F_TransmitQueue_contents : Fun K "contents" "TransmitQueue.contents" s_TransmitQueue_contents a.f_TransmitQueue_contents a.fd_TransmitQueue_contents
  b_TransmitQueue_contents : Binds K a.fd_TransmitQueue_contents ["self"] []
  m_TransmitQueue_contents : Meth K a.C_TransmitQueue "contents" a.f_TransmitQueue_contents
  F_copied : Fun K "_copied" "_copied" s_copied a.f_copied a.fd_copied
  b_copied : Binds K a.fd_copied ["slot"] []
  g_copied : mg "_copied" = some (.ref a.f_copied)
  F_SlotRing_init : Fun K "__init__" "SlotRing.__init__" s_SlotRing_init a.f_SlotRing_init a.fd_SlotRing_init
  b_SlotRing_init : Binds K a.fd_SlotRing_init ["self", "slots"] []
  mk_SlotRing : Mk K a.C_SlotRing a.f_SlotRing_init
  F_SlotRing_can_arm : Fun K "can_arm" "SlotRing.can_arm" s_SlotRing_can_arm a.f_SlotRing_can_arm a.fd_SlotRing_can_arm
  b_SlotRing_can_arm : Binds K a.fd_SlotRing_can_arm ["self"] []
  m_SlotRing_can_arm : Meth K a.C_SlotRing "can_arm" a.f_SlotRing_can_arm
  F_SlotRing_arm : Fun K "arm" "SlotRing.arm" s_SlotRing_arm a.f_SlotRing_arm a.fd_SlotRing_arm
  b_SlotRing_arm : Binds K a.fd_SlotRing_arm ["self", "buffer"] []
  m_SlotRing_arm : Meth K a.C_SlotRing "arm" a.f_SlotRing_arm
  F_SlotRing_open_slot : Fun K "open_slot" "SlotRing.open_slot" s_SlotRing_open_slot a.f_SlotRing_open_slot a.fd_SlotRing_open_slot
  b_SlotRing_open_slot : Binds K a.fd_SlotRing_open_slot ["self"] []
  m_SlotRing_open_slot : Meth K a.C_SlotRing "open_slot" a.f_SlotRing_open_slot
  F_SlotRing_open_bytes : Fun K "open_bytes" "SlotRing.open_bytes" s_SlotRing_open_bytes a.f_SlotRing_open_bytes a.fd_SlotRing_open_bytes
  b_SlotRing_open_bytes : Binds K a.fd_SlotRing_open_bytes ["self"] []
  m_SlotRing_open_bytes : Meth K a.C_SlotRing "open_bytes" a.f_SlotRing_open_bytes
  F_SlotRing_open_count : Fun K "open_count" "SlotRing.open_count" s_SlotRing_open_count a.f_SlotRing_open_count a.fd_SlotRing_open_count
  b_SlotRing_open_count : Binds K a.fd_SlotRing_open_count ["self"] []
  m_SlotRing_open_count : Meth K a.C_SlotRing "open_count" a.f_SlotRing_open_count
  F_SlotRing_add : Fun K "add" "SlotRing.add" s_SlotRing_add a.f_SlotRing_add a.fd_SlotRing_add
  b_SlotRing_add : Binds K a.fd_SlotRing_add ["self", "byte"] []
  m_SlotRing_add : Meth K a.C_SlotRing "add" a.f_SlotRing_add
  F_SlotRing_close : Fun K "close" "SlotRing.close" s_SlotRing_close a.f_SlotRing_close a.fd_SlotRing_close
  b_SlotRing_close : Binds K a.fd_SlotRing_close ["self", "lost"] []
  m_SlotRing_close : Meth K a.C_SlotRing "close" a.f_SlotRing_close
  F_SlotRing_oldest : Fun K "oldest" "SlotRing.oldest" s_SlotRing_oldest a.f_SlotRing_oldest a.fd_SlotRing_oldest
  b_SlotRing_oldest : Binds K a.fd_SlotRing_oldest ["self"] []
  m_SlotRing_oldest : Meth K a.C_SlotRing "oldest" a.f_SlotRing_oldest
  F_SlotRing_reap : Fun K "reap" "SlotRing.reap" s_SlotRing_reap a.f_SlotRing_reap a.fd_SlotRing_reap
  b_SlotRing_reap : Binds K a.fd_SlotRing_reap ["self"] []
  m_SlotRing_reap : Meth K a.C_SlotRing "reap" a.f_SlotRing_reap
  F_SlotRing_filled_slots : Fun K "filled_slots" "SlotRing.filled_slots" s_SlotRing_filled_slots a.f_SlotRing_filled_slots a.fd_SlotRing_filled_slots
  b_SlotRing_filled_slots : Binds K a.fd_SlotRing_filled_slots ["self"] []
  m_SlotRing_filled_slots : Meth K a.C_SlotRing "filled_slots" a.f_SlotRing_filled_slots
  F_SlotRing_buffers : Fun K "buffers" "SlotRing.buffers" s_SlotRing_buffers a.f_SlotRing_buffers a.fd_SlotRing_buffers
  b_SlotRing_buffers : Binds K a.fd_SlotRing_buffers ["self"] []
  m_SlotRing_buffers : Meth K a.C_SlotRing "buffers" a.f_SlotRing_buffers
  F_law_state : Fun K "_law_state" "_law_state" s_law_state a.f_law_state a.fd_law_state
  b_law_state : Binds K a.fd_law_state ["script"] []
  g_law_state : mg "_law_state" = some (.ref a.f_law_state)
  F_law_draw : Fun K "_law_draw" "_law_draw" s_law_draw a.f_law_draw a.fd_law_draw
  b_law_draw : Binds K a.fd_law_draw ["state", "many"] []
  g_law_draw : mg "_law_draw" = some (.ref a.f_law_draw)
  F_law_pick : Fun K "_law_pick" "_law_pick" s_law_pick a.f_law_pick a.fd_law_pick
  b_law_pick : Binds K a.fd_law_pick ["state", "row"] []
  g_law_pick : mg "_law_pick" = some (.ref a.f_law_pick)
  F_law_fills : Fun K "_law_fills" "_law_fills" s_law_fills a.f_law_fills a.fd_law_fills
  b_law_fills : Binds K a.fd_law_fills ["state", "ring", "pool", "slots", "world"] []
  g_law_fills : mg "_law_fills" = some (.ref a.f_law_fills)
  F_law_steps : Fun K "_law_steps" "_law_steps" s_law_steps a.f_law_steps a.fd_law_steps
  b_law_steps : Binds K a.fd_law_steps ["sender", "capacity", "world"] []
  g_law_steps : mg "_law_steps" = some (.ref a.f_law_steps)
  F_law_rest : Fun K "_law_rest" "_law_rest" s_law_rest a.f_law_rest a.fd_law_rest
  b_law_rest : Binds K a.fd_law_rest ["filled"] []
  g_law_rest : mg "_law_rest" = some (.ref a.f_law_rest)
  F_law_agrees : Fun K "_law_agrees" "_law_agrees" s_law_agrees a.f_law_agrees a.fd_law_agrees
  b_law_agrees : Binds K a.fd_law_agrees ["sender", "queue", "ring", "pool", "world"] []
  g_law_agrees : mg "_law_agrees" = some (.ref a.f_law_agrees)
  F_law : Fun K "law" "law" s_law a.f_law a.fd_law
  b_law : Binds K a.fd_law ["script"] []
  g_law : mg "law" = some (.ref a.f_law)
  g_Sender : mg "Sender" = some (.ref a.C_Sender)
  g_TickringsError : mg "TickringsError" = some (.ref a.C_TickringsError)
  g_RingError : mg "RingError" = some (.ref a.C_RingError)
  g_PoolError : mg "PoolError" = some (.ref a.C_PoolError)
  g_Ring : mg "Ring" = some (.ref a.C_Ring)
  g_Pool : mg "Pool" = some (.ref a.C_Pool)
  g_TransmitQueue : mg "TransmitQueue" = some (.ref a.C_TransmitQueue)
  g_SlotRing : mg "SlotRing" = some (.ref a.C_SlotRing)
  cl_Sender : Cls K a.C_Sender
  n_Sender_queue : NoAttr K a.C_Sender "queue"
  n_Sender_ring : NoAttr K a.C_Sender "ring"
  n_Sender_pool : NoAttr K a.C_Sender "pool"
  n_Sender_moved : NoAttr K a.C_Sender "moved"
  cl_Ring : Cls K a.C_Ring
  n_Ring_cells : NoAttr K a.C_Ring "_cells"
  n_Ring_written : NoAttr K a.C_Ring "written"
  n_Ring_taken : NoAttr K a.C_Ring "taken"
  cl_Pool : Cls K a.C_Pool
  n_Pool_owners : NoAttr K a.C_Pool "_owners"
  n_Pool_free : NoAttr K a.C_Pool "_free"
  cl_TransmitQueue : Cls K a.C_TransmitQueue
  n_TransmitQueue_capacity : NoAttr K a.C_TransmitQueue "capacity"
  n_TransmitQueue_bytes : NoAttr K a.C_TransmitQueue "_bytes"
  cl_SlotRing : Cls K a.C_SlotRing
  n_SlotRing_slots : NoAttr K a.C_SlotRing "_slots"
  n_SlotRing_armed : NoAttr K a.C_SlotRing "_armed"
  n_SlotRing_filled : NoAttr K a.C_SlotRing "_filled"
  n_SlotRing_added : NoAttr K a.C_SlotRing "_added"
  e_RingError : EK P w K mg base "RingError" "held" a.C_RingError a.f_RingError_init a.fd_RingError_init ["self", "held"]
  e_PoolError : EK P w K mg base "PoolError" "buffer" a.C_PoolError a.f_PoolError_init a.fd_PoolError_init ["self", "buffer"]
local macro_rules | `(tactic| walk_at "ne") => `(tactic| (first | with_reducible assumption | with_reducible exact Ne.symm (by with_reducible assumption)))
local macro_rules | `(tactic| walk_at "nin") => `(tactic| (simp only [List.mem_cons, List.not_mem_nil, or_false, not_or, not_false_eq_true]; (repeat' refine And.intro ?_ ?_); (all_goals walk_at "ne")))
local macro_rules | `(tactic| walk_at "hl") => `(tactic| (first | (with_reducible assumption) | exact upd_same | ((with_reducible refine' (upd_ne ?hne).trans ?hgo); (case hne => walk_at "ne"); (case hgo => walk_at "hl"))))
local macro_rules | `(tactic| walk_at "sq") => `(tactic| (first | (with_reducible assumption) | exact Or.inl (Or.inl (by walk_at "hl"))))
local macro_rules | `(tactic| walk_at "ar") => `(tactic| (first | omega | exact ⟨by omega, by omega⟩ | exact Or.inl ⟨by omega, by omega⟩ | exact Or.inr ⟨by omega, by omega⟩ | (show (0 : Int) < _; omega) | (show (0 : Int) < _ ∧ _ < (1073741824 : Int); omega)))
local macro_rules | `(tactic| walk_at "cls") => `(tactic| (first | exact Txt.cl_Sender (by assumption) | exact Txt.cl_Ring (by assumption) | exact Txt.cl_Pool (by assumption) | exact Txt.cl_TransmitQueue (by assumption) | exact Txt.cl_SlotRing (by assumption)))
local macro_rules | `(tactic| walk_at "noa") => `(tactic| (first | exact Txt.n_Sender_queue (by assumption) | exact Txt.n_Sender_ring (by assumption) | exact Txt.n_Sender_pool (by assumption) | exact Txt.n_Sender_moved (by assumption) | exact Txt.n_Ring_cells (by assumption) | exact Txt.n_Ring_written (by assumption) | exact Txt.n_Ring_taken (by assumption) | exact Txt.n_Pool_owners (by assumption) | exact Txt.n_Pool_free (by assumption) | exact Txt.n_TransmitQueue_capacity (by assumption) | exact Txt.n_TransmitQueue_bytes (by assumption) | exact Txt.n_SlotRing_slots (by assumption) | exact Txt.n_SlotRing_armed (by assumption) | exact Txt.n_SlotRing_filled (by assumption) | exact Txt.n_SlotRing_added (by assumption)))
local macro_rules | `(tactic| walk_at "lkp") => `(tactic| (first | (with_reducible exact F_Sender_queue_l) | (with_reducible exact F_Sender_ring_l) | (with_reducible exact F_Sender_pool_l) | (with_reducible exact F_Sender_moved_l) | (with_reducible exact F_Ring_cells_l) | (with_reducible exact F_Ring_written_l) | (with_reducible exact F_Ring_taken_l) | (with_reducible exact F_Pool_owners_l) | (with_reducible exact F_Pool_free_l) | (with_reducible exact F_TransmitQueue_capacity_l) | (with_reducible exact F_TransmitQueue_bytes_l) | (with_reducible exact F_SlotRing_slots_l) | (with_reducible exact F_SlotRing_armed_l) | (with_reducible exact F_SlotRing_filled_l) | (with_reducible exact F_SlotRing_added_l)))
local macro_rules | `(tactic| walk_at "ptf") => `(tactic| (first | (with_reducible exact F_Sender_queue_p) | (with_reducible exact F_Sender_ring_p) | (with_reducible exact F_Sender_pool_p) | (with_reducible exact F_Sender_moved_p) | (with_reducible exact F_Ring_cells_p) | (with_reducible exact F_Ring_written_p) | (with_reducible exact F_Ring_taken_p) | (with_reducible exact F_Pool_owners_p) | (with_reducible exact F_Pool_free_p) | (with_reducible exact F_TransmitQueue_capacity_p) | (with_reducible exact F_TransmitQueue_bytes_p) | (with_reducible exact F_SlotRing_slots_p) | (with_reducible exact F_SlotRing_armed_p) | (with_reducible exact F_SlotRing_filled_p) | (with_reducible exact F_SlotRing_added_p) | exact rfl))
local macro_rules | `(tactic| walk_at "lnF") => `(tactic| (first | (with_reducible exact F_Sender_len) | (with_reducible exact F_Ring_len) | (with_reducible exact F_Pool_len) | (with_reducible exact F_TransmitQueue_len) | (with_reducible exact F_SlotRing_len) | (refine PL.lt (n := 60) ?_ (by decide); (repeat refine PL.put ?_); exact PL.nil) | decide))
local macro_rules | `(tactic| walk_at "nol") => `(tactic| (first | (with_reducible exact F_Sender_m_can_step) | (with_reducible exact F_Sender_m_step) | (with_reducible exact F_Sender_m_waiting) | (with_reducible exact F_Sender_m_empty_slot) | (with_reducible exact F_Ring_m_held) | (with_reducible exact F_Ring_m_is_full) | (with_reducible exact F_Ring_m_put) | (with_reducible exact F_Ring_m_first) | (with_reducible exact F_Ring_m_take) | (with_reducible exact F_Ring_m_listed) | (with_reducible exact F_Ring_m_next) | (with_reducible exact F_Pool_m_free) | (with_reducible exact F_Pool_m_owner) | (with_reducible exact F_Pool_m_held) | (with_reducible exact F_Pool_m_acquire) | (with_reducible exact F_Pool_m_release) | (with_reducible exact F_Pool_m_may_acquire) | (with_reducible exact F_Pool_m_exists) | (with_reducible exact F_TransmitQueue_m_put) | (with_reducible exact F_TransmitQueue_m_take) | (with_reducible exact F_TransmitQueue_m_space) | (with_reducible exact F_TransmitQueue_m_contents) | (with_reducible exact F_SlotRing_m_can_arm) | (with_reducible exact F_SlotRing_m_arm) | (with_reducible exact F_SlotRing_m_open_slot) | (with_reducible exact F_SlotRing_m_open_bytes) | (with_reducible exact F_SlotRing_m_open_count) | (with_reducible exact F_SlotRing_m_add) | (with_reducible exact F_SlotRing_m_close) | (with_reducible exact F_SlotRing_m_oldest) | (with_reducible exact F_SlotRing_m_reap) | (with_reducible exact F_SlotRing_m_filled_slots) | (with_reducible exact F_SlotRing_m_buffers)))
local macro_rules | `(tactic| walk_at "r1") => `(tactic| (first
  | with_reducible apply l_cons | ((with_reducible apply e_var); (case h => exact rfl)) | with_reducible apply l_nil | with_reducible apply s_seq | with_reducible apply e_c | with_reducible apply g_name
  | with_reducible apply s_asg | with_reducible apply e_call | with_reducible apply k_t | with_reducible apply e_op | with_reducible apply e_cb | with_reducible apply t_test
  | with_reducible apply s_if | with_reducible apply t_or | with_reducible apply t_and | with_reducible apply t_B | with_reducible apply s_next | with_reducible apply p_some
  | with_reducible apply p_no | with_reducible apply e_sl | with_reducible apply k_i | with_reducible apply e_lst | with_reducible apply t_not | with_reducible apply o_I0
  | ((with_reducible refine' o_I ?hc ?_); (case hc => walk_at "ar")) | with_reducible apply e_meth | ((with_reducible refine' k_meth ?h1 ?h2 ?_); (case h1 => walk_at "hl"); (case h2 => walk_at "nol")) | with_reducible apply e_fld | ((with_reducible refine' k_fld ?h1 ?h2 ?h3 ?h4 ?_); (case h1 => walk_at "hl"); (case h2 => walk_at "cls"); (case h3 => walk_at "noa"); (case h4 => walk_at "lkp")) | with_reducible apply e_not
  | with_reducible apply s_ret | ((with_reducible refine' k_ty ?h1 ?_); (case h1 => walk_at "sq")) | with_reducible apply s_drop | with_reducible apply s_retN | with_reducible apply s_cont | with_reducible apply s_break
  | with_reducible apply o_chC | ((with_reducible refine' o_chV ?hv ?_); (case hv => exact rfl)) | with_reducible apply e_un | with_reducible apply o_U | ((with_reducible refine' o_eq ?hs ?_); (case hs => exact rfl)) | ((with_reducible refine' o_ne ?hs ?_); (case hs => exact rfl))
  | ((with_reducible refine' o_ixL ?h1 ?h2 ?_); (case h1 => walk_at "sq"); (case h2 => first | exact rfl | exact atI_zero _ _)) | with_reducible apply s_fld | with_reducible apply e_make | ((with_reducible refine' k_set ?h1 ?h2 ?h3 ?h4 ?h5 ?_); (case h1 => walk_at "hl"); (case h2 => walk_at "cls"); (case h3 => walk_at "noa"); (case h4 => walk_at "ptf"); (case h5 => walk_at "lnF")) | with_reducible apply e_tup | with_reducible apply e_bm
  | with_reducible apply e_bm0 | with_reducible apply e_if | with_reducible apply e_chain | with_reducible apply s_raise | with_reducible apply g_sub | ((with_reducible refine' c_ln ?h1 ?_); (case h1 => walk_at "sq"))
  | ((with_reducible refine' c_pop0 ?h1 ?h2 ?_); (case h1 => walk_at "hl"); (case h2 => omega)) | with_reducible apply c_isBool | with_reducible apply c_isInt | with_reducible apply c_isBoolN | with_reducible apply c_isTupI | with_reducible apply c_isNonB
  | with_reducible apply c_isNonT | ((with_reducible refine' c_isList ?h1 ?_); (case h1 => walk_at "hl")) | ((with_reducible refine' c_isTup ?h1 ?_); (case h1 => walk_at "hl")) | ((with_reducible refine' c_isTupB ?h1 ?_); (case h1 => walk_at "hl")) | with_reducible apply o_isB | with_reducible apply o_notB
  | with_reducible apply e_and | with_reducible apply e_or | with_reducible apply k_bl | with_reducible apply e_xf | with_reducible apply s_augS | ((with_reducible refine' s_augV ?hv ?_); (case hv => exact rfl))
  | with_reducible apply ip_I | with_reducible apply e_lcE | ((with_reducible refine' k_xf ?h1 ?h2 ?_); (case h1 => walk_at "hl"); (case h2 => exact look_hit _ _ _)) | ((with_reducible refine' o_slL ?h1 ?_); (case h1 => walk_at "sq")) | ((with_reducible refine' k_dget ?h1 ?h2 ?_); (case h1 => walk_at "hl"); (case h2 => with_reducible assumption)) | with_reducible apply e_dget
  | with_reducible apply s_dput | with_reducible apply e_makeK | with_reducible apply g_cons | with_reducible apply g_nil | with_reducible apply c_ab | with_reducible apply c_in
  | with_reducible apply c_mx | with_reducible apply c_mn | with_reducible apply a1 | with_reducible apply a2 | with_reducible apply a3 | with_reducible apply a4
  | with_reducible apply a5 | with_reducible apply a6 | with_reducible apply a0 | with_reducible apply t_tru | with_reducible apply t_yes | ((with_reducible refine' k_truL ?h1 ?_); (case h1 => walk_at "sq")) | with_reducible refine d_nx ?_ | with_reducible refine d_rt ?_ | with_reducible refine d_bk ?_
  | with_reducible refine d_ct ?_))
local macro_rules | `(tactic| walk_at "r") => `(tactic| (repeat walk_at "r1"))
local macro_rules | `(tactic| walk_at "sel") => `(tactic| (first | with_reducible exact Sl.Sel.here | ((with_reducible refine' Sl.Sel.there ?t); (case t => walk_at "sel"))))
local macro_rules | `(tactic| walk_at "sels") => `(tactic| (first | with_reducible exact Sl.Sels.nil | ((with_reducible refine' Sl.Sels.cons ?a ?b); (case a => walk_at "sel"); (case b => walk_at "sels")) | with_reducible exact Sl.Sels.all _ | ((with_reducible refine' Sl.Sels.skip ?t); (case t => walk_at "sels"))))
local macro_rules | `(tactic| walk_at "selm") => `(tactic| ((try (simp only [])); (try simp only [List.map_append, List.map_cons, List.map_nil]); walk_at "sels"))
local macro_rules | `(tactic| walk_at "hg") => do
  let h := Lean.mkIdent `hs
  `(tactic| (first | (with_reducible assumption) | ((with_reducible refine' Sl.St.get $h ?s); (case s => walk_at "sel")) | ((with_reducible refine' Sl.St.geti $h ?s); (case s => walk_at "sel"))))
local macro_rules | `(tactic| walk_at "sg") => do
  let h := Lean.mkIdent `hs
  `(tactic| (first | (with_reducible assumption) | exact Or.inl (Or.inl (by walk_at "hg")) | (refine' Sl.sqA.U $h ?s; (case s => walk_at "sel"))))
local macro_rules | `(tactic| walk_at "le5") => `(tactic| (first | omega | (simp only [List.length_cons, List.length_nil, List.length_append, List.length_map]; omega) | (show _ ≤ _; decide) | (show _ < _; decide)))
local macro_rules | `(tactic| walk_at "km") => `(tactic| fail)
local macro_rules | `(tactic| walk_at "kf") => `(tactic| fail)
local macro_rules | `(tactic| walk_at "x1") => do
  let h := Lean.mkIdent `hs
  `(tactic| (first
  | with_reducible apply l_cons | ((with_reducible apply e_var); (case h => exact rfl)) | with_reducible apply l_nil | with_reducible apply s_seq | with_reducible apply e_c | with_reducible apply g_name
  | with_reducible apply s_asg | with_reducible apply e_call | with_reducible apply k_t | with_reducible apply e_op | with_reducible apply e_cb | with_reducible apply t_test
  | with_reducible apply s_if | with_reducible apply t_or | with_reducible apply t_and | with_reducible apply t_B | with_reducible apply s_next | with_reducible apply p_some
  | with_reducible apply p_no | with_reducible apply e_sl | with_reducible apply k_i | with_reducible apply Sl.e_lstS | with_reducible apply t_not | with_reducible apply o_I0
  | ((with_reducible refine' o_I ?hc ?_); (case hc => walk_at "ar")) | with_reducible apply e_meth | ((with_reducible refine' k_meth ?h1 ?h2 ?_); (case h1 => walk_at "hg"); (case h2 => walk_at "nol")) | walk_at "km" | with_reducible apply e_fld
  | ((with_reducible refine' k_fld ?h1 ?h2 ?h3 ?h4 ?_); (case h1 => walk_at "hg"); (case h2 => walk_at "cls"); (case h3 => walk_at "noa"); (case h4 => walk_at "lkp")) | walk_at "kf" | with_reducible apply e_not
  | with_reducible apply s_ret | ((with_reducible refine' k_ty ?h1 ?_); (case h1 => walk_at "sg")) | with_reducible apply s_drop | with_reducible apply s_retN | with_reducible apply s_cont | with_reducible apply s_break
  | with_reducible apply o_chC | ((with_reducible refine' o_chV ?hv ?_); (case hv => exact rfl)) | with_reducible apply e_un | with_reducible apply o_U | ((with_reducible refine' o_eq ?hs ?_); (case hs => exact rfl)) | ((with_reducible refine' o_ne ?hs ?_); (case hs => exact rfl))
  | ((with_reducible refine' o_ixL ?h1 ?h2 ?_); (case h1 => walk_at "sg"); (case h2 => first | exact rfl | exact atI_zero _ _)) | ((with_reducible refine' o_ixT ?h1 ?h2 ?_); (case h1 => walk_at "sg"); (case h2 => first | exact rfl | exact atI_zero _ _)) | with_reducible apply s_fld | with_reducible apply Sl.e_makeS
  | ((with_reducible refine' Sl.k_setS $h ?h1 ?h2 ?h3 ?h4 ?h5 ?_); (case h1 => walk_at "sel"); (case h2 => walk_at "cls"); (case h3 => walk_at "noa"); (case h4 => walk_at "ptf"); (case h5 => walk_at "lnF"); (clear $h; intro _ $h)) | with_reducible apply Sl.e_tupS | with_reducible apply e_bm
  | with_reducible apply e_bm0 | with_reducible apply e_if | with_reducible apply e_chain | with_reducible apply s_raise | with_reducible apply g_sub | ((with_reducible refine' c_ln ?h1 ?_); (case h1 => walk_at "sg")) | ((with_reducible refine' c_lnT ?h1 ?_); (case h1 => walk_at "sg"))
  | ((with_reducible refine' Sl.k_newL $h ?h1 ?_); (case h1 => walk_at "le5"); (clear $h; intro _ _ $h)) | ((with_reducible refine' Sl.k_newT $h ?h1 ?_); (case h1 => walk_at "le5"); (clear $h; intro _ _ $h)) | ((with_reducible refine' Sl.k_make $h ?_); (clear $h; intro _ _ _ $h))
  | ((with_reducible refine' Sl.c_appS $h ?h1 ?h2 ?_); (case h1 => walk_at "sel"); (case h2 => walk_at "le5"); (clear $h; intro _ $h)) | ((with_reducible refine' Sl.c_pop0S $h ?h1 ?h2 ?_); (case h1 => walk_at "sel"); (case h2 => walk_at "le5"); (clear $h; intro _ $h))
  | ((with_reducible refine' Sl.c_lsS $h ?h1 ?_); (case h1 => walk_at "sg"); (clear $h; intro _ _ $h)) | ((with_reducible refine' Sl.o_slLS $h ?h1 ?_); (case h1 => walk_at "sg"); (clear $h; intro _ _ $h)) | ((with_reducible refine' Sl.c_clrS $h ?h1 ?_); (case h1 => walk_at "sel"); (clear $h; intro _ $h))
  | ((with_reducible refine' Sl.o_catS $h ?h1 ?h2 ?h3 ?_); (case h1 => walk_at "hg"); (case h2 => walk_at "hg"); (case h3 => walk_at "le5"); (clear $h; intro _ _ $h)) | ((with_reducible refine' Sl.c_extS $h ?h1 ?h2 ?h3 ?_); (case h1 => walk_at "sel"); (case h2 => walk_at "hg"); (case h3 => walk_at "le5"); (clear $h; intro _ $h))
  | ((with_reducible refine' Sl.k_raise $h ?h1 ?_); (case h1 => exact okV_int ⟨by omega, by omega⟩); (clear $h; intro _ _ $h))
  | with_reducible apply c_isBool | with_reducible apply c_isInt | with_reducible apply c_isBoolN | with_reducible apply c_isTupI | with_reducible apply c_isNonB
  | with_reducible apply c_isNonT | ((with_reducible refine' c_isList ?h1 ?_); (case h1 => walk_at "hg")) | ((with_reducible refine' c_isTup ?h1 ?_); (case h1 => walk_at "hg")) | ((with_reducible refine' c_isTupB ?h1 ?_); (case h1 => walk_at "hg")) | with_reducible apply o_isB | with_reducible apply o_notB
  | with_reducible apply e_and | with_reducible apply e_or | with_reducible apply k_bl | with_reducible apply e_xf | with_reducible apply s_augS | ((with_reducible refine' s_augV ?hv ?_); (case hv => exact rfl)) | with_reducible apply Sl.s_aug
  | with_reducible apply ip_I | with_reducible apply e_lcE | with_reducible apply e_lcL | with_reducible apply f_lst | with_reducible apply e_lcF | with_reducible apply f_rng1 | ((with_reducible refine' k_xf ?h1 ?h2 ?_); (case h1 => walk_at "hg"); (case h2 => exact look_hit _ _ _)) | ((with_reducible refine' k_dget ?h1 ?h2 ?_); (case h1 => walk_at "hg"); (case h2 => with_reducible assumption)) | with_reducible apply e_dget
  | with_reducible apply s_dput | with_reducible apply Sl.e_makeKS | with_reducible apply g_cons | with_reducible apply g_nil | ((with_reducible refine' g_tup ?h1 ?h2 ?_); (case h1 => walk_at "sg"); (case h2 => exact rfl)) | with_reducible apply c_ab | with_reducible apply c_in
  | with_reducible apply c_mx | with_reducible apply c_mn | with_reducible apply a1 | with_reducible apply a2 | with_reducible apply a3 | with_reducible apply a4
  | with_reducible apply a5 | with_reducible apply a6 | with_reducible apply a0 | with_reducible apply t_tru | with_reducible apply t_yes | ((with_reducible refine' k_truL ?h1 ?_); (case h1 => walk_at "sg")) | with_reducible refine d_nx ?_ | with_reducible refine d_rt ?_ | with_reducible refine d_bk ?_
  | with_reducible refine d_ct ?_))
local macro_rules | `(tactic| walk_at "x") => `(tactic| (repeat walk_at "x1"))
section
variable {P : Program} {w : World} {K : PySem.W.Frag} {mg : Str → Option Value} {base : Heap} {a : Ads}
/-! ### the script's numbers, drawn -/
def StAt (H : Hp) (st sl : Addr) : Prop := ∃ (ns : List Int) (m : Int), H st = some (.lst [.ref sl, .int m]) ∧ H sl = some (.lst (ns.map V.int)) ∧ ns.length ≤ 63 ∧ (∀ z ∈ ns, 0 ≤ z) ∧ 0 ≤ m ∧ m ≤ 2147483647
theorem StAt.ne {H : Hp} {st sl : Addr} (s : StAt H st sl) : st ≠ sl := by
  obtain ⟨ns, m, h1, h2, _⟩ := s
  refine ne_of h1 h2 fun z => ?_
  have z2 := HO.lst.inj z
  cases ns with
  | nil => cases z2
  | cons y ys => cases (List.cons.inj z2).1
theorem StAt.fp {H H1 : Hp} {st sl : Addr} {fp : List Addr} (s : StAt H st sl) (f : Fp fp H H1) (n1 : st ∉ fp) (n2 : sl ∉ fp) : StAt H1 st sl := by
  obtain ⟨ns, m, h1, h2, r⟩ := s
  exact ⟨ns, m, f _ _ h1 n1, f _ _ h2 n2, r⟩
theorem StAt.inn {H : Hp} {st sl : Addr} (s : StAt H st sl) : Inn H [st, sl] := by
  obtain ⟨ns, m, h1, h2, r⟩ := s
  exact .cons h1 (.cons h2 .nil)
theorem StAt.nd {H : Hp} {st sl : Addr} (s : StAt H st sl) : [st, sl].Nodup := by simp [s.ne]
/-- [draw for k in range(n)] -/
theorem k_lcD {σ : L2.St} {H : Hp} {Q : VK} {g : TG} {te : TE} {vs : List Nat} {n : Int} {st sl : Addr} (P : V → Prop) (h1 : 0 ≤ n) (h2 : n < 100000) (S : StAt H st sl)
    (hs : ∀ (i : Nat) (H' : Hp) (R : VK), (i : Int) < n → StAt H' st sl → Fp [st, sl] H H' → (∀ y H4, P y → StAt H4 st sl → Fp [st, sl] H' H4 → R y H4) →
      g (.int (i : Nat)) (wipe σ vs) H' fun σ2 H2 => wipe σ2 vs = wipe σ vs ∧ te σ2 H2 R)
    (q : ∀ E acc H', H E = none → acc.length = n.toNat → H' E = some (.lst acc) → (∀ y ∈ acc, P y) → StAt H' st sl → Fp [st, sl] H H' → st ≠ E → sl ≠ E → Q (.ref E) H') : kLcR g te vs σ Q (.int n) H := by
  obtain ⟨_, _, z1, z2, _⟩ := id S
  refine k_lcS (fun E i acc H' => (∀ y ∈ acc, P y) ∧ StAt H' st sl ∧ Fp [st, sl] H H') h1 h2 (fun E hE => ⟨by simp, S.fp (Fp.new (fp := []) hE) (by simp) (by simp), Fp.new hE⟩) (fun E i acc H' R hE hi hl e ⟨j1, j2, j3⟩ k => hs i H' R hi j2 j3 fun y H4 py S4 f4 => ?_) fun E acc H' hE hl e ⟨j1, j2, j3⟩ => q E acc H' hE hl e j1 j2 j3 (ne_of_none z1 hE) (ne_of_none z2 hE)
  have n1 := ne_of_none z1 hE
  have n2 := ne_of_none z2 hE
  refine k y H4 (f4 _ _ e (by simp [n1.symm, n2.symm])) ⟨fun x hx => ?_, S4.fp (Fp.at_ (fp := [E]) (by simp)) (by simp [n1]) (by simp [n2]), Fp.drop (fp := [E, st, sl]) (((j3.trans f4).mono (fun z hz => List.mem_cons_of_mem _ hz)).trans (Fp.at_ (by simp))) fun z hz => ?_⟩
  · rcases List.mem_append.mp hx with hx | hx
    · exact j1 x hx
    · rw [List.mem_singleton.mp hx]; exact py
  · rcases List.mem_cons.mp hz with rfl | hz
    · exact .inr hE
    · exact .inl hz
/-- [e for k in range(n) if draw] -/
theorem k_lcDF {σ : L2.St} {H : Hp} {Q : VK} {g : TG} {tt : TT} {te : TE} {vs : List Nat} {n : Int} {st sl : Addr} (P : V → Prop) (h1 : 0 ≤ n) (h2 : n < 100000) (S : StAt H st sl)
    (hs : ∀ (i : Nat) (H' : Hp) (R : VK) (N : Hp → Prop), (i : Int) < n → StAt H' st sl → Fp [st, sl] H H' → (∀ y H4, P y → StAt H4 st sl → Fp [st, sl] H' H4 → R y H4) → (∀ H4, StAt H4 st sl → Fp [st, sl] H' H4 → N H4) →
      g (.int (i : Nat)) (wipe σ vs) H' fun σ2 H2 => wipe σ2 vs = wipe σ vs ∧ tt σ2 H2 fun k H3 => if k = true then te σ2 H3 R else N H3)
    (q : ∀ E acc H', H E = none → acc.length ≤ n.toNat → H' E = some (.lst acc) → (∀ y ∈ acc, P y) → StAt H' st sl → Fp [st, sl] H H' → st ≠ E → sl ≠ E → Q (.ref E) H') : kLcF g tt te vs σ Q (.int n) H := by
  obtain ⟨_, _, z1, z2, _⟩ := id S
  refine k_lcSF (fun E i acc H' => (∀ y ∈ acc, P y) ∧ StAt H' st sl ∧ Fp [st, sl] H H') h1 h2 (fun E hE => ⟨by simp, S.fp (Fp.new (fp := []) hE) (by simp) (by simp), Fp.new hE⟩) (fun E i acc H' R N hE hi hl e ⟨j1, j2, j3⟩ k kn => ?_) fun E acc H' hE hl e ⟨j1, j2, j3⟩ => q E acc H' hE hl e j1 j2 j3 (ne_of_none z1 hE) (ne_of_none z2 hE)
  have n1 := ne_of_none z1 hE
  have n2 := ne_of_none z2 hE
  refine hs i H' R N hi j2 j3 (fun y H4 py S4 f4 => ?_) fun H4 S4 f4 => kn H4 (f4 _ _ e (by simp [n1.symm, n2.symm])) ⟨j1, S4, j3.trans f4⟩
  refine k y H4 (f4 _ _ e (by simp [n1.symm, n2.symm])) ⟨fun x hx => ?_, S4.fp (Fp.at_ (fp := [E]) (by simp)) (by simp [n1]) (by simp [n2]), Fp.drop (fp := [E, st, sl]) (((j3.trans f4).mono (fun z hz => List.mem_cons_of_mem _ hz)).trans (Fp.at_ (by simp))) fun z hz => ?_⟩
  · rcases List.mem_append.mp hx with hx | hx
    · exact j1 x hx
    · rw [List.mem_singleton.mp hx]; exact py
  · rcases List.mem_cons.mp hz with rfl | hz
    · exact .inr hE
    · exact .inl hz
def sp_law_state (K : PySem.W.Frag) (a : Ads) : Sp := A1 fun v H Q _ => ∃ (b : Addr) (ns : List Int), v = .ref b ∧ SqL K H b (ns.map V.int) ∧ ns.length ≤ 63 ∧
  ∀ st sl H1, H st = none → H sl = none → StAt H1 st sl → Fp [] H H1 → Q (.ref st) H1
def sp_law_draw (K : PySem.W.Frag) (a : Ads) : Sp := A2 fun s m H Q _ => ∃ (st sl : Addr) (k : Int), s = .ref st ∧ m = .int k ∧ StAt H st sl ∧ 1 ≤ k ∧ k < 1073741824 ∧
  ∀ r H1, 0 ≤ r → r < k → StAt H1 st sl → Fp [st, sl] H H1 → Q (.int r) H1
theorem ok_law_state (T : Txt P w K mg base a) : FnOk P w K mg base (L2.CX P w) 1 a.f_law_state a.fd_law_state ["script"] (sp_law_state K a) := by
  refine T.F_law_state.okX sc_law_state (fun vs H Q E h => A1.len h) (fun cdv A outer s H vs Q E hr h => ?_)
  have hu := hu_of hr
  obtain ⟨v_script, rfl, h⟩ := h
  refine ⟨_, (pss_cons (ps_set (i := 1) sc_law_state.nd rfl (by first | exact Or.inl rfl | exact Or.inr rfl) pe_int)
    (pss_cons (ps_for (passes_of rfl) rfl (pi_list (pv 0)) (pg_name (i := 2) sc_law_state.nd rfl (by first | exact Or.inl rfl | exact Or.inr rfl)) (pss_one (ps_set (i := 1) sc_law_state.nd rfl (by first | exact Or.inl rfl | exact Or.inr rfl) (pe_op op_mod (pe_callTy call_in (by rfl) T.g_int (by decide +kernel) (pa_cons (pe_op op_add (pe_op op_mul (pv 1) pe_int) (pv 2)) pa_nil)) pe_int))))
    (pss_one (ps_ret (pe_lst (pa_cons (pe_lc (own := [("cell", 2)]) (g := (gName 2)) (tt := tYes) (te := (tCB rAb (tCons (tVar 2) tNil))) rfl sc_law_state.nd (pi_list (pv 0)) (blkOk_by (N := ["script", "seed", "cell"]) (sc := defScope s_law_state) (own := [("cell", 2)]) (by decide +kernel)) (fun _ _ _ _ _ => by exact (pg_name (i := 2) sc_law_state.nd rfl (by first | exact Or.inl rfl | exact Or.inr rfl))) (fun _ _ _ _ _ => by exact pts_nil) (fun _ _ _ _ _ => by exact (pe_callB call_ab (by rfl) T.g_abs (by decide +kernel) (pa_cons (pv 2) pa_nil)))) (pa_cons (pe_op op_add (pv 1) pe_int) pa_nil))))))), ?_⟩
  obtain ⟨b, ns, rfl, hS, hn, k⟩ := h
  walk_at "r"
  refine f_list (xs := ns.map V.int) (fun i σ H1 => ∃ (sd : Int) (u : Option V), σ = [some (.ref b), some (.int sd), u] ∧ H1 = H ∧ 0 ≤ sd ∧ sd < 1000003) rfl hS ⟨7, none, rfl, rfl, by omega, by omega⟩ (fun i σ H1 _ ⟨_, _, _, e, _⟩ => e ▸ hS) ?_ ?_
  · rintro i x σ H1 hx ⟨sd, u, rfl, rfl, h0, h1⟩
    obtain ⟨z, rfl⟩ : ∃ z, x = V.int z := by
      obtain ⟨z, _, e⟩ := List.mem_map.mp (List.mem_of_getElem? hx)
      exact ⟨z, e.symm⟩
    walk_at "r"
    exact ⟨_, _, rfl, rfl, Int.emod_nonneg _ (by omega), Int.emod_lt_of_pos _ (by omega)⟩
  · rintro σ H1 ⟨sd, u, rfl, rfl, h0, h1⟩
    walk_at "r"
    refine lc_pure (xs := ns.map V.int) (ys := (ns.map fun z => if z < 0 then -z else z).map V.int) rfl hS (by simp) (by simp <;> omega) (fun E i x y H2 R hE hx hy e hR => ?_) fun E hE => ?_
    · obtain ⟨z, hz, rfl⟩ : ∃ z, ns[i]? = some z ∧ V.int z = x := by rw [List.getElem?_map] at hx; simpa using hx
      have hy' : V.int (if z < 0 then -z else z) = y := by simpa [List.getElem?_map, hz] using hy
      refine ⟨rfl, ?_⟩
      walk_at "r"
      rw [hy']
      exact hR
    · walk_at "r"
      refine ⟨sz (by simp), fun st hst => ?_⟩
      have nE : st ≠ E := ne_of_none upd_same hst |>.symm
      have nst : H1 st = none := by rw [upd_ne nE] at hst; exact hst
      refine k st E _ nst hE ⟨_, _, upd_same, by rw [upd_ne nE.symm, upd_same], by simpa using hn, fun z hz => ?_, by omega, by omega⟩ ((Fp.new hE).trans (Fp.new hst))
      obtain ⟨y, _, rfl⟩ := List.mem_map.mp hz
      split <;> omega
theorem ok_law_draw (T : Txt P w K mg base a) : FnOk P w K mg base (L2.CX P w) 1 a.f_law_draw a.fd_law_draw ["state", "many"] (sp_law_draw K a) := by
  refine T.F_law_draw.okX sc_law_draw (fun vs H Q E h => A2.len h) (fun cdv A outer s H vs Q E hr h => ?_)
  have hu := hu_of hr
  obtain ⟨v_state, v_many, rfl, h⟩ := h
  refine ⟨_, (pss_cons (ps_set (i := 2) sc_law_draw.nd rfl (by first | exact Or.inl rfl | exact Or.inr rfl) (pe_ix ix_list (pv 0) pe_int (fun _ _ => rfl)))
    (pss_cons (ps_while (passes_of rfl) (PW.pt (pw_and (pt_cmpR op_gt (pe_callB call_ln (by rfl) T.g_len (by decide +kernel) (pa_cons (pv 2) pa_nil)) pe_int (nomark _)) (pw_and1 (pt_cmpR op_eq (pe_ix ix_list (pv 2) pe_int (fun _ _ => rfl)) pe_int (nomark _))))) (pss_one (ps_expr (pe_bm PySem.F.plainAttrs_list PySem.F.slot_list_pop PySem.F.type_list_pop mt_popAt (pv 2) (pa_cons pe_int pa_nil)))))
    (pss_cons (ps_if (pt_cmpR op_gt (pe_callB call_ln (by rfl) T.g_len (by decide +kernel) (pa_cons (pv 2) pa_nil)) pe_int (nomark _)) (pss_cons (ps_set (i := 3) sc_law_draw.nd rfl (by first | exact Or.inl rfl | exact Or.inr rfl) (pe_ix ix_list (pv 2) pe_int (fun _ _ => rfl)))
    (pss_cons (ps_asg (pe_op op_fdiv (pv 3) (pv 1)) (pg_sub (pv 2) pe_int set_list))
    (pss_one (ps_ret (pe_op op_mod (pe_callTy call_in (by rfl) T.g_int (by decide +kernel) (pa_cons (pv 3) pa_nil)) (pv 1)))))) pss_nil)
    (pss_cons (ps_set (i := 4) sc_law_draw.nd rfl (by first | exact Or.inl rfl | exact Or.inr rfl) (pe_op op_mod (pe_callTy call_in (by rfl) T.g_int (by decide +kernel) (pa_cons (pe_op op_add (pe_op op_mul (pe_ix ix_list (pv 0) pe_int (fun _ _ => rfl)) pe_int) pe_int) pa_nil)) pe_int))
    (pss_cons (ps_asg (pv 4) (pg_sub (pv 0) pe_int set_list))
    (pss_one (ps_ret (pe_op op_mod (pe_callTy call_in (by rfl) T.g_int (by decide +kernel) (pa_cons (pe_op op_fdiv (pv 4) pe_int) pa_nil)) (pv 1))))))))), ?_⟩
  obtain ⟨st, sl, kk, rfl, rfl, S, k1, k2, k⟩ := h
  obtain ⟨ns, m, hst, hsl, hn, hpos, m0, m1⟩ := id S
  have nss := S.ne
  walk_at "r"
  refine w_by (fun q σ H1 => ∃ (ns1 : List Int), σ = [some (.ref st), some (.int kk), some (.ref sl), none, none] ∧ q = ns1.length ∧ H1 st = some (.lst [.ref sl, .int m]) ∧ H1 sl = some (.lst (ns1.map V.int)) ∧ ns1.length ≤ 63 ∧ (∀ z ∈ ns1, 0 ≤ z) ∧ Fp [st, sl] H H1) ns.length ⟨ns, rfl, rfl, hst, hsl, hn, hpos, Fp.refl _ _⟩ ?_
  rintro q σ H1 ⟨ns1, rfl, rfl, g1, g2, gn, gp, gf⟩
  walk_at "r"
  rw [List.length_map]
  cases ns1 with
  | nil =>
    refine if_dF (by simp) ?_
    refine iteF ?_
    walk_at "r"
    refine if_dF (by simp) ?_
    walk_at "r"
    refine c_setL (j := 1) g1 rfl (by simp) ?_
    walk_at "r"
    exact k _ _ (Int.emod_nonneg _ (by omega)) (Int.emod_lt_of_pos _ (by omega)) ⟨[], _, upd_same, by rw [upd_ne nss.symm]; exact g2, gn, gp, Int.emod_nonneg _ (by omega), by have := Int.emod_lt_of_pos (m * 48271 + 12345) (show (0 : Int) < 2147483647 by omega); omega⟩ (gf.trans (Fp.at_ (by simp)))
  | cons z zs =>
    rw [List.map_cons] at g2
    have gz : zs.length ≤ 62 := by simpa using gn
    have gl : ((zs.map V.int).length) < 100000 := by rw [List.length_map]; omega
    refine if_dT (by simp <;> omega) ?_
    walk_at "r"
    refine if_d (fun e => ?_) (fun e => ?_)
    · refine ⟨_, fun _ _ h => h, ?_⟩
      walk_at "r"
      exact ⟨zs.length, by simp, zs, rfl, rfl, by rw [upd_ne nss]; exact g1, upd_same, by omega, fun y hy => gp y (List.mem_cons_of_mem _ hy), gf.trans (Fp.at_ (by simp))⟩
    · walk_at "r"
      refine if_dT (by simp <;> omega) ?_
      walk_at "r"
      refine c_setL (j := 0) g2 rfl (by simp) ?_
      walk_at "r"
      have hz := gp z List.mem_cons_self
      exact k _ _ (Int.emod_nonneg _ (by omega)) (Int.emod_lt_of_pos _ (by omega)) ⟨z / kk :: zs, m, by rw [upd_ne nss]; exact g1, upd_same, gn, fun y hy => by
        rcases List.mem_cons.mp hy with rfl | hy
        · exact Int.ediv_nonneg hz (by omega)
        · exact gp y (List.mem_cons_of_mem _ hy), m0, m1⟩ (gf.trans (Fp.at_ (by simp)))
/-! ### the drawn numbers, as an assertion -/
def stP (st : Addr) (H : Hp) (A : List Addr) : Prop := ∃ sl, A = [st, sl] ∧ StAt H st sl
def StA (st : Addr) : As := fpa (stP st) (fun H H' A ⟨sl, e, ns, m, h1, h2, r⟩ g => ⟨sl, e, ns, m, by rw [g.1 st (by simp [e])]; exact h1, by rw [g.1 sl (by simp [e])]; exact h2, r⟩)
  (fun H A ⟨sl, e, ns, m, h1, h2, r⟩ a s => by rw [e] at s; simp only [List.mem_cons, List.not_mem_nil, or_false] at s; rcases s with rfl | rfl <;> simp [h1, h2])
theorem c_draw {L R : List As} {H : Hp} {Q : VK} {E : XK} {st : Addr} {k : Int} (hs : Sl.St L H) (s : Sel (StA st) L R) (k1 : 1 ≤ k) (k2 : k < 1073741824) (q : ∀ r H', 0 ≤ r → r < k → Sl.St (StA st :: R) H' → Q (.int r) H') : sp_law_draw K a [.ref st, .int k] H Q E := by
  obtain ⟨A, ⟨sl, rfl, S⟩, up⟩ := fpa_U (hs.sel s)
  refine a2 ⟨st, sl, k, rfl, rfl, S, k1, k2, fun r H1 r1 r2 S1 f => q r H1 r1 r2 (up _ _ _ [st, sl] [st, sl] H1 f (fun x m => ⟨.inl m, fun o e => ?_⟩) ⟨sl, rfl, S1⟩ fun x m => .inl m)⟩
  obtain ⟨ns, m', h1, h2, _⟩ := S
  simp only [List.mem_cons, List.not_mem_nil, or_false] at m
  rcases m with rfl | rfl
  · rw [h1] at e; cases e; exact id
  · rw [h2] at e; cases e; exact id
theorem c_state {L : List As} {H : Hp} {Q : VK} {E : XK} {b : Addr} {ns : List Int} (hs : Sl.St L H) (h : SqL K H b (ns.map V.int)) (hn : ns.length ≤ 63) (q : ∀ st H', Sl.St (StA st :: L) H' → Fp [] H H' → Q (.ref st) H') : sp_law_state K a [.ref b] H Q E :=
  a1 ⟨b, ns, rfl, h, hn, fun st sl H1 n1 n2 S f => q st H1 (fpa_new hs f ⟨sl, rfl, S⟩ fun x m => by
    simp only [List.mem_cons, List.not_mem_nil, or_false] at m
    rcases m with rfl | rfl <;> assumption) f⟩
/-! ### rings of cells -/
theorem mod2 {x M : Nat} (h : x < 2 * M) : x % M = if x < M then x else x - M := by
  by_cases c : x < M
  · rw [if_pos c, Nat.mod_eq_of_lt c]
  · rw [if_neg c, Nat.mod_eq_sub_mod (by omega), Nat.mod_eq_of_lt (by omega)]
structure RingAt (C : Addr) (H : Hp) (p l : Addr) (n wr tk : Nat) (xs : List V) : Prop where
  ob : ∃ dx, H p = some (.ins C dx (F_Ring (.ref l) (.int wr) (.int tk)))
  ls : ∃ cs : List V, H l = some (.lst cs) ∧ cs.length = n ∧ ∀ i x, xs[i]? = some x → cs[(tk + i) % n]? = some x
  n1 : 1 ≤ n
  nz : n ≤ 256
  wl : wr < 2 * n
  tl : tk < 2 * n
  ln : xs.length ≤ n
  wt : wr = (tk + xs.length) % (2 * n)
theorem RingAt.ne {C p l : Addr} {H : Hp} {n wr tk : Nat} {xs : List V} (R : RingAt C H p l n wr tk xs) : p ≠ l := by
  obtain ⟨⟨dx, ho⟩, ⟨cs, hl, _⟩, _⟩ := R
  exact ne_of ho hl (by intro z; cases z)
theorem RingAt.fp {C p l : Addr} {H H1 : Hp} {n wr tk : Nat} {xs : List V} {fp : List Addr} (R : RingAt C H p l n wr tk xs) (f : Fp fp H H1) (n1 : p ∉ fp) (n2 : l ∉ fp) : RingAt C H1 p l n wr tk xs := by
  obtain ⟨⟨dx, ho⟩, ⟨cs, hl, h⟩, a1, a2, a3, a4, a5, a6⟩ := R
  exact ⟨⟨dx, f _ _ ho n1⟩, ⟨cs, f _ _ hl n2, h⟩, a1, a2, a3, a4, a5, a6⟩
theorem RingAt.inn {C p l : Addr} {H : Hp} {n wr tk : Nat} {xs : List V} (R : RingAt C H p l n wr tk xs) : Inn H [p, l] := by
  obtain ⟨⟨dx, ho⟩, ⟨cs, hl, _⟩, _⟩ := R
  exact .cons ho (.cons hl .nil)
def sp_Ring_init (K : PySem.W.Frag) (a : Ads) : Sp := A2 fun s c H Q _ => ∃ (p dx : Addr) (n : Nat), s = .ref p ∧ c = .int n ∧ 1 ≤ n ∧ n ≤ 256 ∧ H p = some (.ins a.C_Ring dx []) ∧
  ∀ l H1, H l = none → RingAt a.C_Ring H1 p l n 0 0 [] → Fp [p] H H1 → Q .non H1
def sp_Ring_held (K : PySem.W.Frag) (a : Ads) : Sp := A1 fun s H Q _ => ∃ (p l : Addr) (n wr tk : Nat) (xs : List V), s = .ref p ∧ RingAt a.C_Ring H p l n wr tk xs ∧ Q (.int xs.length) H
def sp_Ring_is_full (K : PySem.W.Frag) (a : Ads) : Sp := A1 fun s H Q _ => ∃ (p l : Addr) (n wr tk : Nat) (xs : List V), s = .ref p ∧ RingAt a.C_Ring H p l n wr tk xs ∧ Q (.bl (decide (xs.length = n))) H
def sp_Ring_next (K : PySem.W.Frag) (a : Ads) : Sp := A2 fun s c H Q _ => ∃ (p l : Addr) (n wr tk j : Nat) (xs : List V), s = .ref p ∧ c = .int j ∧ RingAt a.C_Ring H p l n wr tk xs ∧ Q (.int ((j + 1) % (2 * n) : Nat)) H
def sp_Ring_put (K : PySem.W.Frag) (a : Ads) : Sp := A2 fun s v H Q E => ∃ (p l : Addr) (n wr tk : Nat) (xs : List V), s = .ref p ∧ RingAt a.C_Ring H p l n wr tk xs ∧
  (xs.length = n → ∀ d, H d = none → E (.ref a.C_RingError) (some d) (upd H d (.xd [("held", .int n)]))) ∧
  (xs.length < n → ∀ H1, RingAt a.C_Ring H1 p l n ((wr + 1) % (2 * n)) tk (xs ++ [v]) → Fp [p, l] H H1 → Q .non H1)
def sp_Ring_first (K : PySem.W.Frag) (a : Ads) : Sp := A1 fun s H Q E => ∃ (p l : Addr) (n wr tk : Nat) (xs : List V), s = .ref p ∧ RingAt a.C_Ring H p l n wr tk xs ∧
  (xs = [] → ∀ d, H d = none → E (.ref a.C_RingError) (some d) (upd H d (.xd [("held", .int 0)]))) ∧
  (∀ x ys, xs = x :: ys → Q x H)
def sp_Ring_take (K : PySem.W.Frag) (a : Ads) : Sp := A1 fun s H Q E => ∃ (p l : Addr) (n wr tk : Nat) (xs : List V), s = .ref p ∧ RingAt a.C_Ring H p l n wr tk xs ∧
  (xs = [] → ∀ d, H d = none → E (.ref a.C_RingError) (some d) (upd H d (.xd [("held", .int 0)]))) ∧
  (∀ x ys, xs = x :: ys → ∀ H1, RingAt a.C_Ring H1 p l n wr ((tk + 1) % (2 * n)) ys → Fp [p, l] H H1 → Q x H1)
def sp_Ring_listed (K : PySem.W.Frag) (a : Ads) : Sp := A1 fun s H Q _ => ∃ (p l : Addr) (n wr tk : Nat) (xs : List V), s = .ref p ∧ RingAt a.C_Ring H p l n wr tk xs ∧
  ∀ q, H q = none → Q (.ref q) (upd H q (.lst xs))
theorem ok_Ring_init (T : Txt P w K mg base a) : FnOk P w K mg base (L2.CX P w) 1 a.f_Ring_init a.fd_Ring_init ["self", "cells"] (sp_Ring_init K a) := by
  refine T.F_Ring_init.okX sc_Ring_init (fun vs H Q E h => A2.len h) (fun cdv A outer s H vs Q E hr h => ?_)
  have hu := hu_of hr
  obtain ⟨v_self, v_cells, rfl, h⟩ := h
  refine ⟨_, (pss_cons (ps_fld (pv 0) (pe_op op_rep (pe_lst (pa_cons pe_non pa_nil)) (pv 1)) rfl)
    (pss_cons (ps_fld (pv 0) pe_int rfl)
    (pss_one (ps_fld (pv 0) pe_int rfl)))), ?_⟩
  obtain ⟨p, dx, n, rfl, rfl, n1, nz, hp, k⟩ := h
  walk_at "r"
  refine ⟨sz (by decide), fun q hq => ?_⟩
  walk_at "r"
  refine o_rep (K := K) upd_same (by omega) (by simp; omega) (by omega) fun l hl => ?_
  have ql : q ≠ l := ne_of_none upd_same hl
  have pq : p ≠ q := ne_of_none hp hq
  have hl0 : H l = none := by rw [upd_ne ql.symm] at hl; exact hl
  have pl : p ≠ l := ne_of_none hp hl0
  walk_at "r"
  have ef : (List.replicate (n : Int).toNat [V.non]).flatten = List.replicate n V.non := by
    have e : (n : Int).toNat = n := Int.toNat_natCast n
    rw [e, List.flatten_replicate_singleton]
  refine k l _ hl0 ⟨⟨dx, by rw [upd_same, F_Ring_init]; rfl⟩, ⟨List.replicate n .non, by rw [upd_ne pl.symm, upd_ne pl.symm, upd_ne pl.symm, upd_same, ef], List.length_replicate, fun i x hx => by simp at hx⟩, n1, nz, by omega, by omega, by simp, by simp⟩ ?_
  exact ((((Fp.new hq).trans (Fp.new hl)).trans (Fp.at_ (by simp))).trans (Fp.at_ (by simp))).trans (Fp.at_ (by simp))
theorem ok_Ring_held (T : Txt P w K mg base a) : FnOk P w K mg base (L2.CX P w) 1 a.f_Ring_held a.fd_Ring_held ["self"] (sp_Ring_held K a) := by
  refine T.F_Ring_held.okX sc_Ring_held (fun vs H Q E h => A1.len h) (fun cdv A outer s H vs Q E hr h => ?_)
  have hu := hu_of hr
  obtain ⟨v_self, rfl, h⟩ := h
  refine ⟨_, (pss_cons (ps_set (i := 1) sc_Ring_held.nd rfl (by first | exact Or.inl rfl | exact Or.inr rfl) (pe_op op_sub (pe_fld (pv 0) rfl) (pe_fld (pv 0) rfl)))
    (pss_cons (ps_if (pt_cmpR op_lt (pv 1) pe_int (nomark _)) (pss_one (ps_ret (pe_op op_add (pv 1) (pe_op op_mul pe_int (pe_callB call_ln (by rfl) T.g_len (by decide +kernel) (pa_cons (pe_fld (pv 0) rfl) pa_nil)))))) pss_nil)
    (pss_one (ps_ret (pv 1))))), ?_⟩
  obtain ⟨p, l, n, wr, tk, xs, rfl, R, k⟩ := h
  obtain ⟨⟨dx, ho⟩, ⟨cs, hl, hcs, _⟩, n1, nz, wl, tl, ln, wt⟩ := id R
  have e2 := mod2 (x := tk + xs.length) (M := 2 * n) (by omega)
  walk_at "r"
  refine if_d (fun c => ?_) (fun c => ?_)
  · walk_at "r"
    have e : (wr : Int) - tk + 2 * (cs.length : Int) = xs.length := by rw [hcs]; split at e2 <;> omega
    rw [e]
    exact k
  · walk_at "r"
    have e : (wr : Int) - tk = xs.length := by split at e2 <;> omega
    rw [e]
    exact k
theorem ok_Ring_is_full (T : Txt P w K mg base a) : FnOk P w K mg base (L2.CX P w) 2 a.f_Ring_is_full a.fd_Ring_is_full ["self"] (sp_Ring_is_full K a) := by
  have G_Ring_held := ok_Ring_held T
  refine T.F_Ring_is_full.okX sc_Ring_is_full (fun vs H Q E h => A1.len h) (fun cdv A outer s H vs Q E hr h => ?_)
  have hu := hu_of hr
  obtain ⟨v_self, rfl, h⟩ := h
  refine ⟨_, (pss_one (ps_ret (pe_cmpR op_eq (pe_meth0S (pv 0) T.cl_Ring T.m_Ring_held G_Ring_held (hr.mono (by decide)) T.b_Ring_held (fun σ => passAt (takes_of rfl rfl rfl rfl) σ)) (pe_callB call_ln (by rfl) T.g_len (by decide +kernel) (pa_cons (pe_fld (pv 0) rfl) pa_nil)) (nomark _)))), ?_⟩
  obtain ⟨p, l, n, wr, tk, xs, rfl, R, k⟩ := h
  obtain ⟨⟨dx, ho⟩, ⟨cs, hl, hcs, _⟩, n1, nz, wl, tl, ln, wt⟩ := id R
  walk_at "r"
  refine a1 ⟨p, l, n, wr, tk, xs, rfl, R, ?_⟩
  walk_at "r"
  have e : decide (V.int (xs.length : Int) = V.int (cs.length : Int)) = decide (xs.length = n) := by
    rw [hcs]
    exact decide_eq_decide.mpr ⟨fun z => Int.ofNat.inj (V.int.inj z), fun z => by rw [z]⟩
  rw [e]
  exact k
theorem ok_Ring_next (T : Txt P w K mg base a) : FnOk P w K mg base (L2.CX P w) 1 a.f_Ring_next a.fd_Ring_next ["self", "counter"] (sp_Ring_next K a) := by
  refine T.F_Ring_next.okX sc_Ring_next (fun vs H Q E h => A2.len h) (fun cdv A outer s H vs Q E hr h => ?_)
  have hu := hu_of hr
  obtain ⟨v_self, v_counter, rfl, h⟩ := h
  refine ⟨_, (pss_one (ps_ret (pe_op op_mod (pe_op op_add (pv 1) pe_int) (pe_op op_mul pe_int (pe_callB call_ln (by rfl) T.g_len (by decide +kernel) (pa_cons (pe_fld (pv 0) rfl) pa_nil)))))), ?_⟩
  obtain ⟨p, l, n, wr, tk, j, xs, rfl, rfl, R, k⟩ := h
  obtain ⟨⟨dx, ho⟩, ⟨cs, hl, hcs, _⟩, n1, nz, wl, tl, ln, wt⟩ := id R
  walk_at "r"
  have e : ((j : Int) + 1) % (2 * (cs.length : Int)) = ((j + 1) % (2 * n) : Nat) := by rw [hcs]; push_cast; rfl
  rw [e]
  exact k
theorem ok_Ring_put (T : Txt P w K mg base a) : FnOk P w K mg base (L2.CX P w) 3 a.f_Ring_put a.fd_Ring_put ["self", "value"] (sp_Ring_put K a) := by
  have G_Ring_is_full := ok_Ring_is_full T
  have G_Ring_next := ok_Ring_next T
  refine T.F_Ring_put.okX sc_Ring_put (fun vs H Q E h => A2.len h) (fun cdv A outer s H vs Q E hr h => ?_)
  have hu := hu_of hr
  obtain ⟨v_self, v_value, rfl, h⟩ := h
  refine ⟨_, (pss_cons (ps_if (pt_val (pe_meth0S (pv 0) T.cl_Ring T.m_Ring_is_full G_Ring_is_full (hr.mono (by decide)) T.b_Ring_is_full (fun σ => passAt (takes_of rfl rfl rfl rfl) σ))) (pss_one (ps_raiseE rfl T.e_RingError (hr.mono (by decide)) (takes_of rfl rfl rfl rfl) rfl (pe_callB call_ln (by rfl) T.g_len (by decide +kernel) (pa_cons (pe_fld (pv 0) rfl) pa_nil)))) pss_nil)
    (pss_cons (ps_asg (pv 1) (pg_sub (pe_fld (pv 0) rfl) (pe_op op_mod (pe_fld (pv 0) rfl) (pe_callB call_ln (by rfl) T.g_len (by decide +kernel) (pa_cons (pe_fld (pv 0) rfl) pa_nil))) set_list))
    (pss_one (ps_fld (pv 0) (pe_methS (pv 0) T.cl_Ring T.m_Ring_next G_Ring_next (hr.mono (by decide)) T.b_Ring_next (fun σ => passAt (takes_of rfl rfl rfl rfl) σ) (pa_cons (pe_fld (pv 0) rfl) pa_nil)) rfl)))), ?_⟩
  obtain ⟨p, l, n, wr, tk, xs, rfl, R, kf, k⟩ := h
  obtain ⟨⟨dx, ho⟩, ⟨cs, hl, hcs, hat⟩, n1, nz, wl, tl, ln, wt⟩ := id R
  have npl := R.ne
  walk_at "r"
  refine a1 ⟨p, l, n, wr, tk, xs, rfl, R, ?_⟩
  walk_at "r"
  refine if_d (fun c => ?_) (fun c => ?_)
  · walk_at "r"
    rw [hcs]
    exact ⟨okV_int ⟨by omega, by omega⟩, fun d hd => kf c d hd⟩
  · walk_at "r"
    have hx : xs.length < n := by omega
    have ew : (wr : Int) % (cs.length : Int) = ((wr % n : Nat) : Int) := by rw [hcs]; push_cast; rfl
    rw [ew]
    refine c_setL (j := wr % n) hl rfl (by rw [hcs]; exact Nat.mod_lt _ (by omega)) ?_
    walk_at "r"
    have em : wr % n = (tk + xs.length) % n := by rw [wt, Nat.mod_mod_of_dvd _ (Nat.dvd_mul_left n 2)]
    have hn0 : 0 < n := by omega
    -- what the cells hold now
    have hat2 : ∀ i x, (xs ++ [v_value])[i]? = some x → (cs.set (wr % n) v_value)[(tk + i) % n]? = some x := fun i x hi => by
      by_cases hlt : i < xs.length
      · rw [List.getElem?_append_left hlt] at hi
        have hne : wr % n ≠ (tk + i) % n := fun z => by
          rw [em] at z
          have z2 := Nat.sub_mod_eq_zero_of_mod_eq z
          have z3 : tk + xs.length - (tk + i) = xs.length - i := by omega
          rw [z3, Nat.mod_eq_of_lt (by omega)] at z2
          omega
        rw [List.getElem?_set_ne hne]
        exact hat i x hi
      · have hi2 : i = xs.length := by
          have h2 := (List.getElem?_eq_some_iff.mp hi).1
          rw [List.length_append, List.length_singleton] at h2
          omega
        subst hi2
        rw [List.getElem?_append_right (Nat.le_refl _), Nat.sub_self] at hi
        have hv : v_value = x := by simpa using hi
        subst hv
        rw [← em, List.getElem?_set_self (by rw [hcs]; exact Nat.mod_lt _ hn0)]
    refine a2 ⟨p, l, n, wr, tk, wr, xs, rfl, rfl, ⟨⟨dx, by rw [upd_ne npl]; exact ho⟩, ⟨cs.set (wr % n) v_value, upd_same, by rw [List.length_set, hcs], fun i x hi => ?_⟩, n1, nz, wl, tl, ln, wt⟩, ?_⟩
    · refine hat2 i x ?_
      rw [List.getElem?_append_left (List.getElem?_eq_some_iff.mp hi).1]
      exact hi
    walk_at "r"
    refine k hx _ ⟨⟨dx, upd_same⟩, ⟨cs.set (wr % n) v_value, by rw [upd_ne npl.symm]; exact upd_same, by rw [List.length_set, hcs], hat2⟩, n1, nz, Nat.mod_lt _ (by omega), tl, by rw [List.length_append, List.length_singleton]; omega, ?_⟩ ((Fp.at_ (by simp)).trans (Fp.at_ (by simp)))
    rw [List.length_append, List.length_singleton, wt, Nat.mod_add_mod, Nat.add_assoc]
theorem ok_Ring_first (T : Txt P w K mg base a) : FnOk P w K mg base (L2.CX P w) 3 a.f_Ring_first a.fd_Ring_first ["self"] (sp_Ring_first K a) := by
  have G_Ring_held := ok_Ring_held T
  refine T.F_Ring_first.okX sc_Ring_first (fun vs H Q E h => A1.len h) (fun cdv A outer s H vs Q E hr h => ?_)
  have hu := hu_of hr
  obtain ⟨v_self, rfl, h⟩ := h
  refine ⟨_, (pss_cons (ps_if (pt_cmpR op_eq (pe_meth0S (pv 0) T.cl_Ring T.m_Ring_held G_Ring_held (hr.mono (by decide)) T.b_Ring_held (fun σ => passAt (takes_of rfl rfl rfl rfl) σ)) pe_int (nomark _)) (pss_one (ps_raiseE rfl T.e_RingError (hr.mono (by decide)) (takes_of rfl rfl rfl rfl) rfl pe_int)) pss_nil)
    (pss_one (ps_ret (pe_ix ix_list (pe_fld (pv 0) rfl) (pe_op op_mod (pe_fld (pv 0) rfl) (pe_callB call_ln (by rfl) T.g_len (by decide +kernel) (pa_cons (pe_fld (pv 0) rfl) pa_nil))) (fun _ _ => rfl))))), ?_⟩
  obtain ⟨p, l, n, wr, tk, xs, rfl, R, kf, k⟩ := h
  obtain ⟨⟨dx, ho⟩, ⟨cs, hl, hcs, hat⟩, n1, nz, wl, tl, ln, wt⟩ := id R
  walk_at "r"
  refine a1 ⟨p, l, n, wr, tk, xs, rfl, R, ?_⟩
  walk_at "r"
  refine if_d (fun c => ?_) (fun c => ?_)
  · walk_at "r"
    have c2 : xs = [] := List.eq_nil_of_length_eq_zero (Int.ofNat.inj (V.int.inj c))
    exact ⟨okV_int ⟨by omega, by omega⟩, fun d hd => kf c2 d hd⟩
  · walk_at "r"
    cases hx : xs with
    | nil => exact absurd (by rw [hx]; rfl) c
    | cons x ys =>
      have ew : (tk : Int) % (cs.length : Int) = ((tk % n : Nat) : Int) := by rw [hcs]; push_cast; rfl
      rw [ew]
      have hc := hat 0 x (by rw [hx]; rfl)
      refine o_ixL (Or.inl (Or.inl hl)) (atI_nat hc) ?_
      walk_at "r"
      exact k x ys hx
theorem ok_Ring_take (T : Txt P w K mg base a) : FnOk P w K mg base (L2.CX P w) 4 a.f_Ring_take a.fd_Ring_take ["self"] (sp_Ring_take K a) := by
  have G_Ring_first := ok_Ring_first T
  have G_Ring_next := ok_Ring_next T
  refine T.F_Ring_take.okX sc_Ring_take (fun vs H Q E h => A1.len h) (fun cdv A outer s H vs Q E hr h => ?_)
  have hu := hu_of hr
  obtain ⟨v_self, rfl, h⟩ := h
  refine ⟨_, (pss_cons (ps_set (i := 1) sc_Ring_take.nd rfl (by first | exact Or.inl rfl | exact Or.inr rfl) (pe_meth0S (pv 0) T.cl_Ring T.m_Ring_first G_Ring_first (hr.mono (by decide)) T.b_Ring_first (fun σ => passAt (takes_of rfl rfl rfl rfl) σ)))
    (pss_cons (ps_fld (pv 0) (pe_methS (pv 0) T.cl_Ring T.m_Ring_next G_Ring_next (hr.mono (by decide)) T.b_Ring_next (fun σ => passAt (takes_of rfl rfl rfl rfl) σ) (pa_cons (pe_fld (pv 0) rfl) pa_nil)) rfl)
    (pss_one (ps_ret (pv 1))))), ?_⟩
  obtain ⟨p, l, n, wr, tk, xs, rfl, R, kf, k⟩ := h
  obtain ⟨⟨dx, ho⟩, ⟨cs, hl, hcs, hat⟩, n1, nz, wl, tl, ln, wt⟩ := id R
  have npl := R.ne
  walk_at "r"
  refine a1 ⟨p, l, n, wr, tk, xs, rfl, R, fun e d hd => kf e d hd, fun x ys hx => ?_⟩
  walk_at "r"
  refine a2 ⟨p, l, n, wr, tk, tk, xs, rfl, rfl, R, ?_⟩
  walk_at "r"
  have hln : xs.length = ys.length + 1 := by rw [hx]; rfl
  refine k x ys hx _ ⟨⟨dx, upd_same⟩, ⟨cs, by rw [upd_ne npl.symm]; exact hl, hcs, fun i y hi => ?_⟩, n1, nz, wl, Nat.mod_lt _ (by omega), by omega, ?_⟩ (Fp.at_ (by simp))
  · have h2 := hat (i + 1) y (by rw [hx]; exact hi)
    have e : ((tk + 1) % (2 * n) + i) % n = (tk + (i + 1)) % n := by
      rw [← Nat.mod_add_mod ((tk + 1) % (2 * n)) n i, Nat.mod_mod_of_dvd _ (Nat.dvd_mul_left n 2), Nat.mod_add_mod]
      congr 1
      omega
    rw [e]
    exact h2
  · rw [Nat.mod_add_mod, wt, hln]
    congr 1
    omega
theorem ok_Ring_listed (T : Txt P w K mg base a) : FnOk P w K mg base (L2.CX P w) 2 a.f_Ring_listed a.fd_Ring_listed ["self"] (sp_Ring_listed K a) := by
  have G_Ring_held := ok_Ring_held T
  refine T.F_Ring_listed.okX sc_Ring_listed (fun vs H Q E h => A1.len h) (fun cdv A outer s H vs Q E hr h => ?_)
  have hu := hu_of hr
  obtain ⟨v_self, rfl, h⟩ := h
  refine ⟨_, (pss_cons (ps_set (i := 1) sc_Ring_listed.nd rfl (by first | exact Or.inl rfl | exact Or.inr rfl) (pe_callB call_ln (by rfl) T.g_len (by decide +kernel) (pa_cons (pe_fld (pv 0) rfl) pa_nil)))
    (pss_one (ps_ret (pe_lc (own := [("at", 2)]) (g := (gName 2)) (tt := tYes) (te := (tOp (rIxL K) (tFld K (tVar 0) "_cells") (tOp (rI (fun _ j => 0 < j) fun i j => .int (i % j)) (tOp (rI0 fun i j => .int (i + j)) (tFld K (tVar 0) "taken") (tVar 2)) (tVar 1)))) rfl sc_Ring_listed.nd (pi_range1 rfl T.g_range (pa_cons (pe_meth0S (pv 0) T.cl_Ring T.m_Ring_held G_Ring_held (hr.mono (by decide)) T.b_Ring_held (fun σ => passAt (takes_of rfl rfl rfl rfl) σ)) pa_nil)) (blkOk_by (N := ["self", "cells", "at"]) (sc := defScope s_Ring_listed) (own := [("at", 2)]) (by decide +kernel)) (fun _ _ _ _ _ => by exact (pg_name (i := 2) sc_Ring_listed.nd rfl (by first | exact Or.inl rfl | exact Or.inr rfl))) (fun _ _ _ _ _ => by exact pts_nil) (fun _ _ _ _ _ => by exact (pe_ix ix_list (pe_fld (pv 0) rfl) (pe_op op_mod (pe_op op_add (pe_fld (pv 0) rfl) (pv 2)) (pv 1)) (fun _ _ => rfl))))))), ?_⟩
  obtain ⟨p, l, n, wr, tk, xs, rfl, R, k⟩ := h
  obtain ⟨⟨dx, ho⟩, ⟨cs, hl, hcs, hat⟩, n1, nz, wl, tl, ln, wt⟩ := id R
  walk_at "r"
  refine e_lcR ?_
  walk_at "r"
  refine a1 ⟨p, l, n, wr, tk, xs, rfl, R, ?_⟩
  refine k_lcR (ys := xs) (by omega) (by omega) rfl (fun D i y H2 RR hD hi hy e hR => ?_) fun D hD => ?_
  · refine ⟨rfl, ?_⟩
    have npD : p ≠ D := ne_of_none ho hD
    have nlD : l ≠ D := ne_of_none hl hD
    subst e
    walk_at "r"
    have ew : ((tk : Int) + (i : Int)) % (cs.length : Int) = (((tk + i) % n : Nat) : Int) := by rw [hcs]; push_cast; rfl
    rw [ew]
    refine o_ixL (Or.inl (Or.inl (by rw [upd_ne nlD]; exact hl))) (atI_nat (hat i y hy)) ?_
    exact hR
  · exact k D hD
/-! ### rings, as assertions -/
def ringP (C p : Addr) (n : Nat) (xs : List V) (H : Hp) (A : List Addr) : Prop := ∃ l wr tk, A = [p, l] ∧ RingAt C H p l n wr tk xs
def RingA (C p : Addr) (n : Nat) (xs : List V) : As := fpa (ringP C p n xs) (fun H H' A ⟨l, wr, tk, e, R⟩ g => by
    obtain ⟨⟨dx, ho⟩, ⟨cs, hl, h⟩, a1, a2, a3, a4, a5, a6⟩ := R
    exact ⟨l, wr, tk, e, ⟨dx, by rw [g.1 p (by simp [e])]; exact ho⟩, ⟨cs, by rw [g.1 l (by simp [e])]; exact hl, h⟩, a1, a2, a3, a4, a5, a6⟩)
  (fun H A ⟨l, wr, tk, e, R⟩ a s => by
    obtain ⟨⟨dx, ho⟩, ⟨cs, hl, h⟩, r⟩ := R
    rw [e] at s; simp only [List.mem_cons, List.not_mem_nil, or_false] at s; rcases s with rfl | rfl <;> simp [ho, hl])
section
variable {L R : List As} {H : Hp} {Q : VK} {E : XK} {C p : Addr} {n : Nat} {xs : List V} {v : V}
theorem RingA.U (hs : Sl.St L H) (s : Sel (RingA C p n xs) L R) : ∃ l wr tk, RingAt C H p l n wr tk xs ∧ ∀ xs' wr' tk' H1, RingAt C H1 p l n wr' tk' xs' → Fp [p, l] H H1 → Sl.St (RingA C p n xs' :: R) H1 := by
  obtain ⟨A, ⟨l, wr, tk, rfl, S⟩, up⟩ := fpa_U (hs.sel s)
  refine ⟨l, wr, tk, S, fun xs' wr' tk' H1 S1 f => up _ _ _ [p, l] [p, l] H1 f (fun x m => ⟨.inl m, fun o e => ?_⟩) ⟨l, wr', tk', rfl, S1⟩ fun x m => .inl m⟩
  obtain ⟨⟨dx, ho⟩, ⟨cs, hl, h⟩, r⟩ := S
  simp only [List.mem_cons, List.not_mem_nil, or_false] at m
  rcases m with rfl | rfl
  · rw [ho] at e; cases e; exact id
  · rw [hl] at e; cases e; exact id
theorem RingA.le (hs : Sl.St L H) (s : Sel (RingA C p n xs) L R) : xs.length ≤ n ∧ 1 ≤ n ∧ n ≤ 256 := by
  obtain ⟨l, wr, tk, S, _⟩ := RingA.U hs s
  exact ⟨S.ln, S.n1, S.nz⟩
theorem RingA.ins (hs : Sl.St L H) (s : Sel (RingA C p n xs) L R) : ∃ dx x0 x1 x2, H p = some (.ins C dx (F_Ring x0 x1 x2)) := by
  obtain ⟨l, wr, tk, S, _⟩ := RingA.U hs s
  obtain ⟨dx, h⟩ := S.ob
  exact ⟨dx, _, _, _, h⟩
theorem km_Ring {m : Str} {sp : Sp} {tl : TA} {σ : L2.St} (hs : Sl.St L H) (s : Sel (RingA C p n xs) L R) (hm : ∀ x0 x1 x2, (F_Ring x0 x1 x2).lookup m = none) (q : tl σ H fun vs H2 => sp (.ref p :: vs) H2 Q E) : kMeth C m sp E tl σ (.ref p) H Q := by
  obtain ⟨dx, x0, x1, x2, h⟩ := RingA.ins hs s
  exact k_meth h (hm _ _ _) q
theorem c_ring_init {dx : Addr} (hs : Sl.St L H) (s : Sel (cell p (.ins a.C_Ring dx [])) L R) (n1 : 1 ≤ n) (nz : n ≤ 256) (q : ∀ H', Sl.St (RingA a.C_Ring p n [] :: R) H' → Q .non H') : sp_Ring_init K a [.ref p, .int n] H Q E :=
  a2 ⟨p, dx, n, rfl, rfl, n1, nz, hs.get s, fun l H1 nl S f => q H1 (fpa_cell (hs.sel s) id f ⟨l, _, _, rfl, S⟩ fun x m => by
    simp only [List.mem_cons, List.not_mem_nil, or_false] at m
    rcases m with rfl | rfl
    · exact .inl rfl
    · exact .inr nl)⟩
theorem c_ring_held (hs : Sl.St L H) (s : Sel (RingA a.C_Ring p n xs) L R) (q : Q (.int xs.length) H) : sp_Ring_held K a [.ref p] H Q E := by
  obtain ⟨l, wr, tk, S, _⟩ := RingA.U hs s
  exact a1 ⟨p, l, n, wr, tk, xs, rfl, S, q⟩
theorem c_ring_full (hs : Sl.St L H) (s : Sel (RingA a.C_Ring p n xs) L R) (q : Q (.bl (decide (xs.length = n))) H) : sp_Ring_is_full K a [.ref p] H Q E := by
  obtain ⟨l, wr, tk, S, _⟩ := RingA.U hs s
  exact a1 ⟨p, l, n, wr, tk, xs, rfl, S, q⟩
theorem c_ring_put (hs : Sl.St L H) (s : Sel (RingA a.C_Ring p n xs) L R) (e : xs.length = n → ∀ d, H d = none → E (.ref a.C_RingError) (some d) (upd H d (.xd [("held", .int n)]))) (q : xs.length < n → ∀ H', Sl.St (RingA a.C_Ring p n (xs ++ [v]) :: R) H' → Q .non H') : sp_Ring_put K a [.ref p, v] H Q E := by
  obtain ⟨l, wr, tk, S, up⟩ := RingA.U hs s
  exact a2 ⟨p, l, n, wr, tk, xs, rfl, S, e, fun h H1 S1 f => q h H1 (up _ _ _ _ S1 f)⟩
theorem c_ring_first (hs : Sl.St L H) (s : Sel (RingA a.C_Ring p n xs) L R) (e : xs = [] → ∀ d, H d = none → E (.ref a.C_RingError) (some d) (upd H d (.xd [("held", .int 0)]))) (q : ∀ x ys, xs = x :: ys → Q x H) : sp_Ring_first K a [.ref p] H Q E := by
  obtain ⟨l, wr, tk, S, up⟩ := RingA.U hs s
  exact a1 ⟨p, l, n, wr, tk, xs, rfl, S, e, q⟩
theorem c_ring_take (hs : Sl.St L H) (s : Sel (RingA a.C_Ring p n xs) L R) (e : xs = [] → ∀ d, H d = none → E (.ref a.C_RingError) (some d) (upd H d (.xd [("held", .int 0)]))) (q : ∀ x ys, xs = x :: ys → ∀ H', Sl.St (RingA a.C_Ring p n ys :: R) H' → Q x H') : sp_Ring_take K a [.ref p] H Q E := by
  obtain ⟨l, wr, tk, S, up⟩ := RingA.U hs s
  exact a1 ⟨p, l, n, wr, tk, xs, rfl, S, e, fun x ys h H1 S1 f => q x ys h H1 (up _ _ _ _ S1 f)⟩
theorem c_ring_listed (hs : Sl.St L H) (s : Sel (RingA a.C_Ring p n xs) L R) (q : ∀ b H', Sl.St (cell b (.lst xs) :: L) H' → Q (.ref b) H') : sp_Ring_listed K a [.ref p] H Q E := by
  obtain ⟨l, wr, tk, S, up⟩ := RingA.U hs s
  exact a1 ⟨p, l, n, wr, tk, xs, rfl, S, fun b nb => q b _ (hs.new nb)⟩
end
local macro_rules | `(tactic| walk_at "km") => do let h := Lean.mkIdent `hs; `(tactic| ((with_reducible refine' km_Ring $h ?s ?m ?_); (case s => walk_at "sel"); (case m => intros; walk_at "nol")))
end
end My
set_option Elab.async false
set_option maxRecDepth 100000
set_option maxHeartbeats 100000000
set_option linter.all false
namespace My
open PySem L2 Sx Rd Sl
local macro_rules | `(tactic| walk_at "ne") => `(tactic| (first | with_reducible assumption | with_reducible exact Ne.symm (by with_reducible assumption)))
local macro_rules | `(tactic| walk_at "nin") => `(tactic| (simp only [List.mem_cons, List.not_mem_nil, or_false, not_or, not_false_eq_true]; (repeat' refine And.intro ?_ ?_); (all_goals walk_at "ne")))
local macro_rules | `(tactic| walk_at "hl") => `(tactic| (first | (with_reducible assumption) | exact upd_same | ((with_reducible refine' (upd_ne ?hne).trans ?hgo); (case hne => walk_at "ne"); (case hgo => walk_at "hl"))))
local macro_rules | `(tactic| walk_at "sq") => `(tactic| (first | (with_reducible assumption) | exact Or.inl (Or.inl (by walk_at "hl"))))
local macro_rules | `(tactic| walk_at "ar") => `(tactic| (first | omega | exact ⟨by omega, by omega⟩ | exact Or.inl ⟨by omega, by omega⟩ | exact Or.inr ⟨by omega, by omega⟩ | (show (0 : Int) < _; omega) | (show (0 : Int) < _ ∧ _ < (1073741824 : Int); omega)))
local macro_rules | `(tactic| walk_at "cls") => `(tactic| (first | exact Txt.cl_Sender (by assumption) | exact Txt.cl_Ring (by assumption) | exact Txt.cl_Pool (by assumption) | exact Txt.cl_TransmitQueue (by assumption) | exact Txt.cl_SlotRing (by assumption)))
local macro_rules | `(tactic| walk_at "noa") => `(tactic| (first | exact Txt.n_Sender_queue (by assumption) | exact Txt.n_Sender_ring (by assumption) | exact Txt.n_Sender_pool (by assumption) | exact Txt.n_Sender_moved (by assumption) | exact Txt.n_Ring_cells (by assumption) | exact Txt.n_Ring_written (by assumption) | exact Txt.n_Ring_taken (by assumption) | exact Txt.n_Pool_owners (by assumption) | exact Txt.n_Pool_free (by assumption) | exact Txt.n_TransmitQueue_capacity (by assumption) | exact Txt.n_TransmitQueue_bytes (by assumption) | exact Txt.n_SlotRing_slots (by assumption) | exact Txt.n_SlotRing_armed (by assumption) | exact Txt.n_SlotRing_filled (by assumption) | exact Txt.n_SlotRing_added (by assumption)))
local macro_rules | `(tactic| walk_at "lkp") => `(tactic| (first | (with_reducible exact F_Sender_queue_l) | (with_reducible exact F_Sender_ring_l) | (with_reducible exact F_Sender_pool_l) | (with_reducible exact F_Sender_moved_l) | (with_reducible exact F_Ring_cells_l) | (with_reducible exact F_Ring_written_l) | (with_reducible exact F_Ring_taken_l) | (with_reducible exact F_Pool_owners_l) | (with_reducible exact F_Pool_free_l) | (with_reducible exact F_TransmitQueue_capacity_l) | (with_reducible exact F_TransmitQueue_bytes_l) | (with_reducible exact F_SlotRing_slots_l) | (with_reducible exact F_SlotRing_armed_l) | (with_reducible exact F_SlotRing_filled_l) | (with_reducible exact F_SlotRing_added_l)))
local macro_rules | `(tactic| walk_at "ptf") => `(tactic| (first | (with_reducible exact F_Sender_queue_p) | (with_reducible exact F_Sender_ring_p) | (with_reducible exact F_Sender_pool_p) | (with_reducible exact F_Sender_moved_p) | (with_reducible exact F_Ring_cells_p) | (with_reducible exact F_Ring_written_p) | (with_reducible exact F_Ring_taken_p) | (with_reducible exact F_Pool_owners_p) | (with_reducible exact F_Pool_free_p) | (with_reducible exact F_TransmitQueue_capacity_p) | (with_reducible exact F_TransmitQueue_bytes_p) | (with_reducible exact F_SlotRing_slots_p) | (with_reducible exact F_SlotRing_armed_p) | (with_reducible exact F_SlotRing_filled_p) | (with_reducible exact F_SlotRing_added_p) | exact rfl))
local macro_rules | `(tactic| walk_at "lnF") => `(tactic| (first | (with_reducible exact F_Sender_len) | (with_reducible exact F_Ring_len) | (with_reducible exact F_Pool_len) | (with_reducible exact F_TransmitQueue_len) | (with_reducible exact F_SlotRing_len) | (refine PL.lt (n := 60) ?_ (by decide); (repeat refine PL.put ?_); exact PL.nil) | decide))
local macro_rules | `(tactic| walk_at "nol") => `(tactic| (first | (with_reducible exact F_Sender_m_can_step) | (with_reducible exact F_Sender_m_step) | (with_reducible exact F_Sender_m_waiting) | (with_reducible exact F_Sender_m_empty_slot) | (with_reducible exact F_Ring_m_held) | (with_reducible exact F_Ring_m_is_full) | (with_reducible exact F_Ring_m_put) | (with_reducible exact F_Ring_m_first) | (with_reducible exact F_Ring_m_take) | (with_reducible exact F_Ring_m_listed) | (with_reducible exact F_Ring_m_next) | (with_reducible exact F_Pool_m_free) | (with_reducible exact F_Pool_m_owner) | (with_reducible exact F_Pool_m_held) | (with_reducible exact F_Pool_m_acquire) | (with_reducible exact F_Pool_m_release) | (with_reducible exact F_Pool_m_may_acquire) | (with_reducible exact F_Pool_m_exists) | (with_reducible exact F_TransmitQueue_m_put) | (with_reducible exact F_TransmitQueue_m_take) | (with_reducible exact F_TransmitQueue_m_space) | (with_reducible exact F_TransmitQueue_m_contents) | (with_reducible exact F_SlotRing_m_can_arm) | (with_reducible exact F_SlotRing_m_arm) | (with_reducible exact F_SlotRing_m_open_slot) | (with_reducible exact F_SlotRing_m_open_bytes) | (with_reducible exact F_SlotRing_m_open_count) | (with_reducible exact F_SlotRing_m_add) | (with_reducible exact F_SlotRing_m_close) | (with_reducible exact F_SlotRing_m_oldest) | (with_reducible exact F_SlotRing_m_reap) | (with_reducible exact F_SlotRing_m_filled_slots) | (with_reducible exact F_SlotRing_m_buffers)))
local macro_rules | `(tactic| walk_at "r1") => `(tactic| (first
  | with_reducible apply l_cons | ((with_reducible apply e_var); (case h => exact rfl)) | with_reducible apply l_nil | with_reducible apply s_seq | with_reducible apply e_c | with_reducible apply g_name
  | with_reducible apply s_asg | with_reducible apply e_call | with_reducible apply k_t | with_reducible apply e_op | with_reducible apply e_cb | with_reducible apply t_test
  | with_reducible apply s_if | with_reducible apply t_or | with_reducible apply t_and | with_reducible apply t_B | with_reducible apply s_next | with_reducible apply p_some
  | with_reducible apply p_no | with_reducible apply e_sl | with_reducible apply k_i | with_reducible apply e_lst | with_reducible apply t_not | with_reducible apply o_I0
  | ((with_reducible refine' o_I ?hc ?_); (case hc => walk_at "ar")) | with_reducible apply e_meth | ((with_reducible refine' k_meth ?h1 ?h2 ?_); (case h1 => walk_at "hl"); (case h2 => walk_at "nol")) | with_reducible apply e_fld | ((with_reducible refine' k_fld ?h1 ?h2 ?h3 ?h4 ?_); (case h1 => walk_at "hl"); (case h2 => walk_at "cls"); (case h3 => walk_at "noa"); (case h4 => walk_at "lkp")) | with_reducible apply e_not
  | with_reducible apply s_ret | ((with_reducible refine' k_ty ?h1 ?_); (case h1 => walk_at "sq")) | with_reducible apply s_drop | with_reducible apply s_retN | with_reducible apply s_cont | with_reducible apply s_break
  | with_reducible apply o_chC | ((with_reducible refine' o_chV ?hv ?_); (case hv => exact rfl)) | with_reducible apply e_un | with_reducible apply o_U | ((with_reducible refine' o_eq ?hs ?_); (case hs => exact rfl)) | ((with_reducible refine' o_ne ?hs ?_); (case hs => exact rfl))
  | ((with_reducible refine' o_ixL ?h1 ?h2 ?_); (case h1 => walk_at "sq"); (case h2 => first | exact rfl | exact atI_zero _ _)) | with_reducible apply s_fld | with_reducible apply e_make | ((with_reducible refine' k_set ?h1 ?h2 ?h3 ?h4 ?h5 ?_); (case h1 => walk_at "hl"); (case h2 => walk_at "cls"); (case h3 => walk_at "noa"); (case h4 => walk_at "ptf"); (case h5 => walk_at "lnF")) | with_reducible apply e_tup | with_reducible apply e_bm
  | with_reducible apply e_bm0 | with_reducible apply e_if | with_reducible apply e_chain | with_reducible apply s_raise | with_reducible apply g_sub | ((with_reducible refine' c_ln ?h1 ?_); (case h1 => walk_at "sq"))
  | ((with_reducible refine' c_pop0 ?h1 ?h2 ?_); (case h1 => walk_at "hl"); (case h2 => omega)) | with_reducible apply c_isBool | with_reducible apply c_isInt | with_reducible apply c_isBoolN | with_reducible apply c_isTupI | with_reducible apply c_isNonB
  | with_reducible apply c_isNonT | ((with_reducible refine' c_isList ?h1 ?_); (case h1 => walk_at "hl")) | ((with_reducible refine' c_isTup ?h1 ?_); (case h1 => walk_at "hl")) | ((with_reducible refine' c_isTupB ?h1 ?_); (case h1 => walk_at "hl")) | with_reducible apply o_isB | with_reducible apply o_notB
  | with_reducible apply e_and | with_reducible apply e_or | with_reducible apply k_bl | with_reducible apply e_xf | with_reducible apply s_augS | ((with_reducible refine' s_augV ?hv ?_); (case hv => exact rfl))
  | with_reducible apply ip_I | with_reducible apply e_lcE | ((with_reducible refine' k_xf ?h1 ?h2 ?_); (case h1 => walk_at "hl"); (case h2 => exact look_hit _ _ _)) | ((with_reducible refine' o_slL ?h1 ?_); (case h1 => walk_at "sq")) | ((with_reducible refine' k_dget ?h1 ?h2 ?_); (case h1 => walk_at "hl"); (case h2 => with_reducible assumption)) | with_reducible apply e_dget
  | with_reducible apply s_dput | with_reducible apply e_makeK | with_reducible apply g_cons | with_reducible apply g_nil | with_reducible apply c_ab | with_reducible apply c_in
  | with_reducible apply c_mx | with_reducible apply c_mn | with_reducible apply a1 | with_reducible apply a2 | with_reducible apply a3 | with_reducible apply a4
  | with_reducible apply a5 | with_reducible apply a6 | with_reducible apply a0 | with_reducible apply t_tru | with_reducible apply t_yes | ((with_reducible refine' k_truL ?h1 ?_); (case h1 => walk_at "sq")) | with_reducible refine d_nx ?_ | with_reducible refine d_rt ?_ | with_reducible refine d_bk ?_
  | with_reducible refine d_ct ?_))
local macro_rules | `(tactic| walk_at "r") => `(tactic| (repeat walk_at "r1"))
local macro_rules | `(tactic| walk_at "sel") => `(tactic| (first | with_reducible exact Sl.Sel.here | ((with_reducible refine' Sl.Sel.there ?t); (case t => walk_at "sel"))))
local macro_rules | `(tactic| walk_at "sels") => `(tactic| (first | with_reducible exact Sl.Sels.nil | ((with_reducible refine' Sl.Sels.cons ?a ?b); (case a => walk_at "sel"); (case b => walk_at "sels")) | with_reducible exact Sl.Sels.all _ | ((with_reducible refine' Sl.Sels.skip ?t); (case t => walk_at "sels"))))
local macro_rules | `(tactic| walk_at "selm") => `(tactic| ((try (simp only [])); (try simp only [List.map_append, List.map_cons, List.map_nil]); walk_at "sels"))
local macro_rules | `(tactic| walk_at "hg") => do
  let h := Lean.mkIdent `hs
  `(tactic| (first | (with_reducible assumption) | ((with_reducible refine' Sl.St.get $h ?s); (case s => walk_at "sel")) | ((with_reducible refine' Sl.St.geti $h ?s); (case s => walk_at "sel"))))
local macro_rules | `(tactic| walk_at "sg") => do
  let h := Lean.mkIdent `hs
  `(tactic| (first | (with_reducible assumption) | exact Or.inl (Or.inl (by walk_at "hg")) | (refine' Sl.sqA.U $h ?s; (case s => walk_at "sel"))))
local macro_rules | `(tactic| walk_at "le5") => `(tactic| (first | omega | (simp only [List.length_cons, List.length_nil, List.length_append, List.length_map]; omega) | (show _ ≤ _; decide) | (show _ < _; decide)))
local macro_rules | `(tactic| walk_at "km") => `(tactic| fail)
local macro_rules | `(tactic| walk_at "kf") => `(tactic| fail)
local macro_rules | `(tactic| walk_at "x1") => do
  let h := Lean.mkIdent `hs
  `(tactic| (first
  | with_reducible apply l_cons | ((with_reducible apply e_var); (case h => exact rfl)) | with_reducible apply l_nil | with_reducible apply s_seq | with_reducible apply e_c | with_reducible apply g_name
  | with_reducible apply s_asg | with_reducible apply e_call | with_reducible apply k_t | with_reducible apply e_op | with_reducible apply e_cb | with_reducible apply t_test
  | with_reducible apply s_if | with_reducible apply t_or | with_reducible apply t_and | with_reducible apply t_B | with_reducible apply s_next | with_reducible apply p_some
  | with_reducible apply p_no | with_reducible apply e_sl | with_reducible apply k_i | with_reducible apply Sl.e_lstS | with_reducible apply t_not | with_reducible apply o_I0
  | ((with_reducible refine' o_I ?hc ?_); (case hc => walk_at "ar")) | with_reducible apply e_meth | ((with_reducible refine' k_meth ?h1 ?h2 ?_); (case h1 => walk_at "hg"); (case h2 => walk_at "nol")) | walk_at "km" | with_reducible apply e_fld
  | ((with_reducible refine' k_fld ?h1 ?h2 ?h3 ?h4 ?_); (case h1 => walk_at "hg"); (case h2 => walk_at "cls"); (case h3 => walk_at "noa"); (case h4 => walk_at "lkp")) | walk_at "kf" | with_reducible apply e_not
  | with_reducible apply s_ret | ((with_reducible refine' k_ty ?h1 ?_); (case h1 => walk_at "sg")) | with_reducible apply s_drop | with_reducible apply s_retN | with_reducible apply s_cont | with_reducible apply s_break
  | with_reducible apply o_chC | ((with_reducible refine' o_chV ?hv ?_); (case hv => exact rfl)) | with_reducible apply e_un | with_reducible apply o_U | ((with_reducible refine' o_eq ?hs ?_); (case hs => exact rfl)) | ((with_reducible refine' o_ne ?hs ?_); (case hs => exact rfl))
  | ((with_reducible refine' o_ixL ?h1 ?h2 ?_); (case h1 => walk_at "sg"); (case h2 => first | exact rfl | exact atI_zero _ _)) | ((with_reducible refine' o_ixT ?h1 ?h2 ?_); (case h1 => walk_at "sg"); (case h2 => first | exact rfl | exact atI_zero _ _)) | with_reducible apply s_fld | with_reducible apply Sl.e_makeS
  | ((with_reducible refine' Sl.k_setS $h ?h1 ?h2 ?h3 ?h4 ?h5 ?_); (case h1 => walk_at "sel"); (case h2 => walk_at "cls"); (case h3 => walk_at "noa"); (case h4 => walk_at "ptf"); (case h5 => walk_at "lnF"); (clear $h; intro _ $h)) | with_reducible apply Sl.e_tupS | with_reducible apply e_bm
  | with_reducible apply e_bm0 | with_reducible apply e_if | with_reducible apply e_chain | with_reducible apply s_raise | with_reducible apply g_sub | ((with_reducible refine' c_ln ?h1 ?_); (case h1 => walk_at "sg")) | ((with_reducible refine' c_lnT ?h1 ?_); (case h1 => walk_at "sg"))
  | ((with_reducible refine' Sl.k_newL $h ?h1 ?_); (case h1 => walk_at "le5"); (clear $h; intro _ _ $h)) | ((with_reducible refine' Sl.k_newT $h ?h1 ?_); (case h1 => walk_at "le5"); (clear $h; intro _ _ $h)) | ((with_reducible refine' Sl.k_make $h ?_); (clear $h; intro _ _ _ $h))
  | ((with_reducible refine' Sl.c_appS $h ?h1 ?h2 ?_); (case h1 => walk_at "sel"); (case h2 => walk_at "le5"); (clear $h; intro _ $h)) | ((with_reducible refine' Sl.c_pop0S $h ?h1 ?h2 ?_); (case h1 => walk_at "sel"); (case h2 => walk_at "le5"); (clear $h; intro _ $h))
  | ((with_reducible refine' Sl.c_lsS $h ?h1 ?_); (case h1 => walk_at "sg"); (clear $h; intro _ _ $h)) | ((with_reducible refine' Sl.o_slLS $h ?h1 ?_); (case h1 => walk_at "sg"); (clear $h; intro _ _ $h)) | ((with_reducible refine' Sl.c_clrS $h ?h1 ?_); (case h1 => walk_at "sel"); (clear $h; intro _ $h))
  | ((with_reducible refine' Sl.o_catS $h ?h1 ?h2 ?h3 ?_); (case h1 => walk_at "hg"); (case h2 => walk_at "hg"); (case h3 => walk_at "le5"); (clear $h; intro _ _ $h)) | ((with_reducible refine' Sl.c_extS $h ?h1 ?h2 ?h3 ?_); (case h1 => walk_at "sel"); (case h2 => walk_at "hg"); (case h3 => walk_at "le5"); (clear $h; intro _ $h))
  | ((with_reducible refine' Sl.k_raise $h ?h1 ?_); (case h1 => exact okV_int ⟨by omega, by omega⟩); (clear $h; intro _ _ $h))
  | with_reducible apply c_isBool | with_reducible apply c_isInt | with_reducible apply c_isBoolN | with_reducible apply c_isTupI | with_reducible apply c_isNonB
  | with_reducible apply c_isNonT | ((with_reducible refine' c_isList ?h1 ?_); (case h1 => walk_at "hg")) | ((with_reducible refine' c_isTup ?h1 ?_); (case h1 => walk_at "hg")) | ((with_reducible refine' c_isTupB ?h1 ?_); (case h1 => walk_at "hg")) | with_reducible apply o_isB | with_reducible apply o_notB
  | with_reducible apply e_and | with_reducible apply e_or | with_reducible apply k_bl | with_reducible apply e_xf | with_reducible apply s_augS | ((with_reducible refine' s_augV ?hv ?_); (case hv => exact rfl)) | with_reducible apply Sl.s_aug
  | with_reducible apply ip_I | with_reducible apply e_lcE | with_reducible apply e_lcL | with_reducible apply f_lst | with_reducible apply e_lcF | with_reducible apply f_rng1 | ((with_reducible refine' k_xf ?h1 ?h2 ?_); (case h1 => walk_at "hg"); (case h2 => exact look_hit _ _ _)) | ((with_reducible refine' k_dget ?h1 ?h2 ?_); (case h1 => walk_at "hg"); (case h2 => with_reducible assumption)) | with_reducible apply e_dget
  | with_reducible apply s_dput | with_reducible apply Sl.e_makeKS | with_reducible apply g_cons | with_reducible apply g_nil | ((with_reducible refine' g_tup ?h1 ?h2 ?_); (case h1 => walk_at "sg"); (case h2 => exact rfl)) | with_reducible apply c_ab | with_reducible apply c_in
  | with_reducible apply c_mx | with_reducible apply c_mn | with_reducible apply a1 | with_reducible apply a2 | with_reducible apply a3 | with_reducible apply a4
  | with_reducible apply a5 | with_reducible apply a6 | with_reducible apply a0 | with_reducible apply t_tru | with_reducible apply t_yes | ((with_reducible refine' k_truL ?h1 ?_); (case h1 => walk_at "sg")) | with_reducible refine d_nx ?_ | with_reducible refine d_rt ?_ | with_reducible refine d_bk ?_
  | with_reducible refine d_ct ?_))
local macro_rules | `(tactic| walk_at "x") => `(tactic| (repeat walk_at "x1"))
local macro_rules | `(tactic| walk_at "km") => do let h := Lean.mkIdent `hs; `(tactic| ((with_reducible refine' km_Ring $h ?s ?m ?_); (case s => walk_at "sel"); (case m => intros; walk_at "nol")))
section
variable {P : Program} {w : World} {K : PySem.W.Frag} {mg : Str → Option Value} {base : Heap} {a : Ads}
/-! ### rings of slots, as assertions -/
abbrev Slt := Int × List Int × Int
def slotA (v : V) (s : Slt) : As := ex fun t => ex fun d => Sl.all [pur (v = .ref t), tcell t [.int s.1, .ref d, .int s.2.2], cell d (.lst (s.2.1.map V.int))]
def SrA (a : Ads) (p : Addr) (n : Nat) (ab dt : List Int) (fs : List Slt) : As := ex fun dx => ex fun pa => ex fun pf => ex fun ad => ex fun vs => Sl.all [pur (ab.length + fs.length ≤ n), cell p (.ins a.C_SlotRing dx (F_SlotRing (.int n) (.ref pa) (.ref pf) (.ref ad))),
  RingA a.C_Ring pa n (ab.map V.int), RingA a.C_Ring pf n vs, cell ad (.lst (dt.map V.int)), lA slotA vs fs]
section
variable {L R : List As} {H : Hp} {Q : VK} {E : XK} {p : Addr} {n : Nat} {ab dt : List Int} {fs : List Slt} {v : V} {s : Slt}
theorem slotA.U (hs : Sl.St L H) (se : Sel (slotA v s) L R) : ∃ t d, v = .ref t ∧ Sl.St (tcell t [.int s.1, .ref d, .int s.2.2] :: cell d (.lst (s.2.1.map V.int)) :: R) H := by
  obtain ⟨t, h⟩ := (hs.sel se).exU
  obtain ⟨d, h⟩ := h.exU
  obtain ⟨e, h⟩ := h.allU.purU
  exact ⟨t, d, e, h⟩
theorem slotA.I {t d : Addr} (hs : Sl.St L H) (se : Sels [tcell t [.int s.1, .ref d, .int s.2.2], cell d (.lst (s.2.1.map V.int))] L R) : Sl.St (slotA (.ref t) s :: R) H :=
  Sl.St.exI t (Sl.St.exI d (Sl.St.allI (L := [_, _, _]) (Sl.St.purI rfl (hs.sels se))))
theorem SrA.U (hs : Sl.St L H) (se : Sel (SrA a p n ab dt fs) L R) : ∃ dx pa pf ad vs, ab.length + fs.length ≤ n ∧ vs.length = fs.length ∧ n ≤ 256 ∧ Sl.St (cell p (.ins a.C_SlotRing dx (F_SlotRing (.int n) (.ref pa) (.ref pf) (.ref ad))) ::
    RingA a.C_Ring pa n (ab.map V.int) :: RingA a.C_Ring pf n vs :: cell ad (.lst (dt.map V.int)) :: lA slotA vs fs :: R) H := by
  obtain ⟨dx, h⟩ := (hs.sel se).exU
  obtain ⟨pa, h⟩ := h.exU
  obtain ⟨pf, h⟩ := h.exU
  obtain ⟨ad, h⟩ := h.exU
  obtain ⟨vs, h⟩ := h.exU
  obtain ⟨e, h⟩ := h.allU.purU
  exact ⟨dx, pa, pf, ad, vs, e, lA.len (h.sel (.there (.there (.there (.there .here))))), (RingA.le h (.there .here)).2.2, h⟩
theorem km_SlotRing {m : Str} {sp : Sp} {tl : TA} {σ : L2.St} (hs : Sl.St L H) (se : Sel (SrA a p n ab dt fs) L R) (hm : ∀ x0 x1 x2 x3, (F_SlotRing x0 x1 x2 x3).lookup m = none) (q : tl σ H fun vs H2 => sp (.ref p :: vs) H2 Q E) : kMeth a.C_SlotRing m sp E tl σ (.ref p) H Q := by
  obtain ⟨dx, pa, pf, ad, vs, _, _, _, h⟩ := SrA.U hs se
  exact k_meth h.get0 (hm _ _ _ _) q
theorem SrA.I {dx pa pf ad : Addr} {vs : List V} (hs : Sl.St L H) (le : ab.length + fs.length ≤ n) (se : Sels [cell p (.ins a.C_SlotRing dx (F_SlotRing (.int n) (.ref pa) (.ref pf) (.ref ad))), RingA a.C_Ring pa n (ab.map V.int), RingA a.C_Ring pf n vs, cell ad (.lst (dt.map V.int)), lA slotA vs fs] L R) :
    Sl.St (SrA a p n ab dt fs :: R) H :=
  Sl.St.exI dx (Sl.St.exI pa (Sl.St.exI pf (Sl.St.exI ad (Sl.St.exI vs (Sl.St.allI (L := [_, _, _, _, _, _]) (Sl.St.purI le (hs.sels se)))))))
end
local macro_rules | `(tactic| walk_at "km") => do let h := Lean.mkIdent `hs; `(tactic| ((with_reducible refine' km_SlotRing $h ?s ?m ?_); (case s => walk_at "sel"); (case m => intros; walk_at "nol")))
def sp_copied (K : PySem.W.Frag) (a : Ads) : Sp := A1 fun v H Q E => ∃ (s : Slt) (L R : List As), Sl.St L H ∧ Sel (slotA v s) L R ∧ ∀ t H', Sl.St (slotA (.ref t) s :: L) H' → Q (.ref t) H'
def sp_SlotRing_init (K : PySem.W.Frag) (a : Ads) : Sp := A2 fun s v H Q E => ∃ (p dx : Addr) (n : Nat) (L R : List As), s = .ref p ∧ v = .int n ∧ 1 ≤ n ∧ n ≤ 256 ∧ Sl.St L H ∧ Sel (cell p (.ins a.C_SlotRing dx [])) L R ∧ ∀ H', Sl.St (SrA a p n [] [] [] :: R) H' → Q .non H'
/-- a promise about a ring of slots -/
def SrSp (a : Ads) (s : V) (H : Hp) (φ : Addr → Nat → List Int → List Int → List Slt → List As → List As → Prop) : Prop := ∃ (p : Addr) (n : Nat) (ab dt : List Int) (fs : List Slt) (L R : List As), s = .ref p ∧ Sl.St L H ∧ Sel (SrA a p n ab dt fs) L R ∧ φ p n ab dt fs L R
def sp_SlotRing_can_arm (K : PySem.W.Frag) (a : Ads) : Sp := A1 fun s H Q E => SrSp a s H fun p n ab dt fs L R => Q (.bl (decide (ab.length + fs.length < n))) H
def sp_SlotRing_arm (K : PySem.W.Frag) (a : Ads) : Sp := A2 fun s v H Q E => SrSp a s H fun p n ab dt fs L R => ∃ z : Int, v = .int z ∧ (ab.length + fs.length = n → Q (.bl false) H) ∧ (ab.length + fs.length < n → ∀ H', Sl.St (SrA a p n (ab ++ [z]) dt fs :: R) H' → Q (.bl true) H')
def sp_SlotRing_open_slot (K : PySem.W.Frag) (a : Ads) : Sp := A1 fun s H Q E => SrSp a s H fun p n ab dt fs L R => (ab = [] → Q .non H) ∧ (∀ b r, ab = b :: r → Q (.int b) H)
def sp_SlotRing_open_bytes (K : PySem.W.Frag) (a : Ads) : Sp := A1 fun s H Q E => SrSp a s H fun p n ab dt fs L R => ∀ q H', Sl.St (cell q (.lst (dt.map V.int)) :: L) H' → Q (.ref q) H'
def sp_SlotRing_open_count (K : PySem.W.Frag) (a : Ads) : Sp := A1 fun s H Q E => SrSp a s H fun p n ab dt fs L R => Q (.int dt.length) H
def sp_SlotRing_add (K : PySem.W.Frag) (a : Ads) : Sp := A2 fun s v H Q E => SrSp a s H fun p n ab dt fs L R => ∃ z : Int, v = .int z ∧ dt.length < 90000 ∧ (ab = [] → ∀ d, H d = none → E (.ref a.C_RingError) (some d) (upd H d (.xd [("held", .int 0)]))) ∧
  (ab ≠ [] → ∀ H', Sl.St (SrA a p n ab (dt ++ [z]) fs :: R) H' → Q .non H')
def sp_SlotRing_close (K : PySem.W.Frag) (a : Ads) : Sp := A2 fun s v H Q E => SrSp a s H fun p n ab dt fs L R => ∃ z : Int, v = .int z ∧ (ab = [] → ∀ d, H d = none → E (.ref a.C_RingError) (some d) (upd H d (.xd [("held", .int 0)]))) ∧
  (∀ b r, ab = b :: r → ∀ H', Sl.St (SrA a p n r [] (fs ++ [(b, dt, z)]) :: R) H' → Q .non H')
def sp_SlotRing_oldest (K : PySem.W.Frag) (a : Ads) : Sp := A1 fun s H Q E => SrSp a s H fun p n ab dt fs L R => (fs = [] → Q .non H) ∧ (∀ x r, fs = x :: r → ∀ t H', Sl.St (slotA (.ref t) x :: L) H' → Q (.ref t) H')
def sp_SlotRing_reap (K : PySem.W.Frag) (a : Ads) : Sp := A1 fun s H Q E => SrSp a s H fun p n ab dt fs L R => (fs = [] → ∀ d, H d = none → E (.ref a.C_RingError) (some d) (upd H d (.xd [("held", .int 0)]))) ∧
  (∀ x r, fs = x :: r → ∀ t H', Sl.St (slotA (.ref t) x :: SrA a p n ab dt r :: R) H' → Q (.ref t) H')
theorem ok_copied (T : Txt P w K mg base a) : FnOk P w K mg base (L2.CX P w) 1 a.f_copied a.fd_copied ["slot"] (sp_copied K a) := by
  refine T.F_copied.okX sc_copied (fun vs H Q E h => A1.len h) (fun cdv A outer s H vs Q E hr h => ?_)
  have hu := hu_of hr
  obtain ⟨v_slot, rfl, h⟩ := h
  refine ⟨_, (pss_cons (ps_asg (pv 0) (pg_tup rfl (pgs_cons (pg_name (i := 1) sc_copied.nd rfl (by first | exact Or.inl rfl | exact Or.inr rfl)) (pgs_cons (pg_name (i := 2) sc_copied.nd rfl (by first | exact Or.inl rfl | exact Or.inr rfl)) (pgs_cons (pg_name (i := 3) sc_copied.nd rfl (by first | exact Or.inl rfl | exact Or.inr rfl)) pgs_nil)))))
    (pss_one (ps_ret (pe_tup (pa_cons (pv 1) (pa_cons (pe_callTy call_ls (by rfl) T.g_list (by decide +kernel) (pa_cons (pv 2) pa_nil)) (pa_cons (pv 3) pa_nil))))))), ?_⟩
  obtain ⟨s, L, R, hs, se, k⟩ := h
  obtain ⟨t, d, rfl, hs⟩ := slotA.U hs se
  walk_at "x"
  refine k _ _ ((Ent.cons se.ent').st ?_)
  have h1 := slotA.I (s := s) hs (by walk_at "sels")
  exact Ent.swap.st (slotA.I (s := s) h1 (by walk_at "sels"))
theorem ok_SlotRing_init (T : Txt P w K mg base a) : FnOk P w K mg base (L2.CX P w) 3 a.f_SlotRing_init a.fd_SlotRing_init ["self", "slots"] (sp_SlotRing_init K a) := by
  have G_Ring_init := ok_Ring_init T
  refine T.F_SlotRing_init.okX sc_SlotRing_init (fun vs H Q E h => A2.len h) (fun cdv A outer s H vs Q E hr h => ?_)
  have hu := hu_of hr
  obtain ⟨v_self, v_slots, rfl, h⟩ := h
  refine ⟨_, (pss_cons (ps_fld (pv 0) (pv 1) rfl)
    (pss_cons (ps_fld (pv 0) (pe_makeS T.mk_Ring G_Ring_init (hr.mono (by decide)) rfl T.g_Ring T.b_Ring_init (fun σ => passAt (takes_of rfl rfl rfl rfl) σ) (pa_cons (pv 1) pa_nil)) rfl)
    (pss_cons (ps_fld (pv 0) (pe_makeS T.mk_Ring G_Ring_init (hr.mono (by decide)) rfl T.g_Ring T.b_Ring_init (fun σ => passAt (takes_of rfl rfl rfl rfl) σ) (pa_cons (pv 1) pa_nil)) rfl)
    (pss_one (ps_fld (pv 0) (pe_lst pa_nil) rfl))))), ?_⟩
  obtain ⟨p, dx, n, L, R, rfl, rfl, n1, nz, hs, se, k⟩ := h
  have hs := hs.sel se
  walk_at "x"
  refine c_ring_init hs (by walk_at "sel") n1 nz fun H1 hs => ⟨rfl, ?_⟩
  walk_at "x"
  refine c_ring_init hs (by walk_at "sel") n1 nz fun H1 hs => ⟨rfl, ?_⟩
  walk_at "x"
  exact k _ (SrA.I (ab := []) (dt := []) (fs := []) (vs := []) (lA.nilI (by rw [F_SlotRing_init] at hs; exact hs)) (by simp) (by walk_at "selm"))
theorem ok_SlotRing_can_arm (T : Txt P w K mg base a) : FnOk P w K mg base (L2.CX P w) 2 a.f_SlotRing_can_arm a.fd_SlotRing_can_arm ["self"] (sp_SlotRing_can_arm K a) := by
  have G_Ring_held := ok_Ring_held T
  refine T.F_SlotRing_can_arm.okX sc_SlotRing_can_arm (fun vs H Q E h => A1.len h) (fun cdv A outer s H vs Q E hr h => ?_)
  have hu := hu_of hr
  obtain ⟨v_self, rfl, h⟩ := h
  refine ⟨_, (pss_one (ps_ret (pe_cmpR op_lt (pe_op op_add (pe_meth0S (pe_fld (pv 0) rfl) T.cl_Ring T.m_Ring_held G_Ring_held (hr.mono (by decide)) T.b_Ring_held (fun σ => passAt (takes_of rfl rfl rfl rfl) σ)) (pe_meth0S (pe_fld (pv 0) rfl) T.cl_Ring T.m_Ring_held G_Ring_held (hr.mono (by decide)) T.b_Ring_held (fun σ => passAt (takes_of rfl rfl rfl rfl) σ))) (pe_fld (pv 0) rfl) (nomark _)))), ?_⟩
  obtain ⟨p, n, ab, dt, fs, L, R, rfl, hs, se, k⟩ := h
  obtain ⟨dx, pa, pf, ad, vs, le, hl, nz, hs⟩ := SrA.U hs se
  walk_at "x"
  refine c_ring_held hs (by walk_at "sel") ?_
  walk_at "x"
  refine c_ring_held hs (by walk_at "sel") ?_
  walk_at "x"
  rw [List.length_map, hl, decide_eq_decide.mpr (show ((ab.length : Int) + (fs.length : Int) < (n : Int)) ↔ ab.length + fs.length < n by omega)]
  exact k
theorem ok_SlotRing_arm (T : Txt P w K mg base a) : FnOk P w K mg base (L2.CX P w) 4 a.f_SlotRing_arm a.fd_SlotRing_arm ["self", "buffer"] (sp_SlotRing_arm K a) := by
  have G_SlotRing_can_arm := ok_SlotRing_can_arm T
  have G_Ring_put := ok_Ring_put T
  refine T.F_SlotRing_arm.okX sc_SlotRing_arm (fun vs H Q E h => A2.len h) (fun cdv A outer s H vs Q E hr h => ?_)
  have hu := hu_of hr
  obtain ⟨v_self, v_buffer, rfl, h⟩ := h
  refine ⟨_, (pss_cons (ps_if (pt_not (pt_val (pe_meth0S (pv 0) T.cl_SlotRing T.m_SlotRing_can_arm G_SlotRing_can_arm (hr.mono (by decide)) T.b_SlotRing_can_arm (fun σ => passAt (takes_of rfl rfl rfl rfl) σ)))) (pss_one (ps_ret pe_bl)) pss_nil)
    (pss_cons (ps_expr (pe_methS (pe_fld (pv 0) rfl) T.cl_Ring T.m_Ring_put G_Ring_put (hr.mono (by decide)) T.b_Ring_put (fun σ => passAt (takes_of rfl rfl rfl rfl) σ) (pa_cons (pv 1) pa_nil)))
    (pss_one (ps_ret pe_bl)))), ?_⟩
  obtain ⟨p, n, ab, dt, fs, L, R, rfl, hs, se, z, rfl, k0, k1⟩ := h
  have hs := hs.sel se
  have se : Sel (SrA a p n ab dt fs) _ R := .here
  walk_at "x"
  refine a1 ⟨p, n, ab, dt, fs, _, R, rfl, hs, se, ?_⟩
  walk_at "x"
  refine if_b (fun c => ?_) (fun c => ?_)
  · obtain ⟨dx, pa, pf, ad, vs, le, hl, nz, hs⟩ := SrA.U hs se
    walk_at "x"
    exact k0 (by simp at c; omega)
  · obtain ⟨dx, pa, pf, ad, vs, le, hl, nz, hs⟩ := SrA.U hs se
    simp at c
    walk_at "x"
    refine c_ring_put hs (by walk_at "sel") (fun h => by simp at h; omega) fun _ H1 hs => ?_
    walk_at "x"
    exact k1 c _ (SrA.I (ab := ab ++ [z]) hs (by simp; omega) (by walk_at "selm"))
theorem ok_SlotRing_add (T : Txt P w K mg base a) : FnOk P w K mg base (L2.CX P w) 3 a.f_SlotRing_add a.fd_SlotRing_add ["self", "byte"] (sp_SlotRing_add K a) := by
  have G_Ring_held := ok_Ring_held T
  refine T.F_SlotRing_add.okX sc_SlotRing_add (fun vs H Q E h => A2.len h) (fun cdv A outer s H vs Q E hr h => ?_)
  have hu := hu_of hr
  obtain ⟨v_self, v_byte, rfl, h⟩ := h
  refine ⟨_, (pss_cons (ps_if (pt_cmpR op_eq (pe_meth0S (pe_fld (pv 0) rfl) T.cl_Ring T.m_Ring_held G_Ring_held (hr.mono (by decide)) T.b_Ring_held (fun σ => passAt (takes_of rfl rfl rfl rfl) σ)) pe_int (nomark _)) (pss_one (ps_raiseE rfl T.e_RingError (hr.mono (by decide)) (takes_of rfl rfl rfl rfl) rfl pe_int)) pss_nil)
    (pss_one (ps_expr (pe_bm PySem.F.plainAttrs_list PySem.F.slot_list_append PySem.F.type_list_append mt_append (pe_fld (pv 0) rfl) (pa_cons (pv 1) pa_nil))))), ?_⟩
  obtain ⟨p, n, ab, dt, fs, L, R, rfl, hs, se, z, rfl, hz, k0, k1⟩ := h
  obtain ⟨dx, pa, pf, ad, vs, le, hl, nz, hs⟩ := SrA.U hs se
  walk_at "x"
  refine c_ring_held hs (by walk_at "sel") ?_
  walk_at "x"
  cases ab with
  | nil =>
    refine if_dT rfl ?_
    walk_at "x"
    exact ⟨okV_int ⟨by omega, by omega⟩, k0 rfl⟩
  | cons b r =>
    refine if_dF (by simp; omega) ?_
    walk_at "x"
    exact k1 (by simp) _ (SrA.I (dt := dt ++ [z]) hs le (by walk_at "selm"))
theorem ok_SlotRing_close (T : Txt P w K mg base a) : FnOk P w K mg base (L2.CX P w) 5 a.f_SlotRing_close a.fd_SlotRing_close ["self", "lost"] (sp_SlotRing_close K a) := by
  have G_Ring_take := ok_Ring_take T
  have G_Ring_put := ok_Ring_put T
  refine T.F_SlotRing_close.okX sc_SlotRing_close (fun vs H Q E h => A2.len h) (fun cdv A outer s H vs Q E hr h => ?_)
  have hu := hu_of hr
  obtain ⟨v_self, v_lost, rfl, h⟩ := h
  refine ⟨_, (pss_cons (ps_set (i := 2) sc_SlotRing_close.nd rfl (by first | exact Or.inl rfl | exact Or.inr rfl) (pe_meth0S (pe_fld (pv 0) rfl) T.cl_Ring T.m_Ring_take G_Ring_take (hr.mono (by decide)) T.b_Ring_take (fun σ => passAt (takes_of rfl rfl rfl rfl) σ)))
    (pss_cons (ps_expr (pe_methS (pe_fld (pv 0) rfl) T.cl_Ring T.m_Ring_put G_Ring_put (hr.mono (by decide)) T.b_Ring_put (fun σ => passAt (takes_of rfl rfl rfl rfl) σ) (pa_cons (pe_tup (pa_cons (pv 2) (pa_cons (pe_fld (pv 0) rfl) (pa_cons (pv 1) pa_nil)))) pa_nil)))
    (pss_one (ps_fld (pv 0) (pe_lst pa_nil) rfl)))), ?_⟩
  obtain ⟨p, n, ab, dt, fs, L, R, rfl, hs, se, z, rfl, k0, k1⟩ := h
  obtain ⟨dx, pa, pf, ad, vs, le, hl, nz, hs⟩ := SrA.U hs se
  walk_at "x"
  refine c_ring_take hs (by walk_at "sel") (fun h d hd => k0 (by simpa using h) d hd) fun x ys h H1 hs => ?_
  cases ab with
  | nil => cases h
  | cons b r =>
    obtain ⟨rfl, rfl⟩ := List.cons.inj h
    simp only [List.length_cons] at le
    walk_at "x"
    refine c_ring_put hs (by walk_at "sel") (fun h => by omega) fun _ H2 hs => ?_
    walk_at "x"
    refine k1 b r rfl _ ?_
    have h1 := slotA.I (s := (b, dt, z)) hs (by walk_at "sels")
    have h2 := lA.snocS (Pa := slotA) (x := (b, dt, z)) (xs := fs) h1 (by walk_at "sel") (by walk_at "sel")
    exact SrA.I (fs := fs ++ [(b, dt, z)]) (dt := []) h2 (by simp; omega) (by walk_at "selm")
theorem ok_SlotRing_oldest (T : Txt P w K mg base a) : FnOk P w K mg base (L2.CX P w) 4 a.f_SlotRing_oldest a.fd_SlotRing_oldest ["self"] (sp_SlotRing_oldest K a) := by
  have G_Ring_held := ok_Ring_held T
  have G_copied := ok_copied T
  have G_Ring_first := ok_Ring_first T
  refine T.F_SlotRing_oldest.okX sc_SlotRing_oldest (fun vs H Q E h => A1.len h) (fun cdv A outer s H vs Q E hr h => ?_)
  have hu := hu_of hr
  obtain ⟨v_self, rfl, h⟩ := h
  refine ⟨_, (pss_cons (ps_if (pt_cmpR op_eq (pe_meth0S (pe_fld (pv 0) rfl) T.cl_Ring T.m_Ring_held G_Ring_held (hr.mono (by decide)) T.b_Ring_held (fun σ => passAt (takes_of rfl rfl rfl rfl) σ)) pe_int (nomark _)) (pss_one (ps_ret pe_non)) pss_nil)
    (pss_one (ps_ret (pe_callS G_copied (hr.mono (by decide)) rfl T.g_copied T.F_copied.kp T.b_copied (fun σ => passAt (takes_of rfl rfl rfl rfl) σ) (pa_cons (pe_meth0S (pe_fld (pv 0) rfl) T.cl_Ring T.m_Ring_first G_Ring_first (hr.mono (by decide)) T.b_Ring_first (fun σ => passAt (takes_of rfl rfl rfl rfl) σ)) pa_nil))))), ?_⟩
  obtain ⟨p, n, ab, dt, fs, L, R, rfl, hs, se, k0, k1⟩ := h
  obtain ⟨dx, pa, pf, ad, vs, le, hl, nz, hs⟩ := SrA.U hs se
  walk_at "x"
  refine c_ring_held hs (by walk_at "sel") ?_
  walk_at "x"
  cases fs with
  | nil =>
    rw [List.length_nil] at hl
    rw [hl]
    exact if_dT rfl (by walk_at "x"; exact k0 rfl)
  | cons x r =>
    simp only [List.length_cons] at hl
    refine if_dF (by rw [hl]; simp; omega) ?_
    walk_at "x"
    refine c_ring_first hs (by walk_at "sel") (fun h => by rw [h] at hl; simp at hl) fun y ys h => ?_
    subst h
    obtain ⟨v, ws, e, h1⟩ := lA.unS (Pa := slotA) hs (by walk_at "sel")
    obtain ⟨rfl, rfl⟩ := List.cons.inj e
    walk_at "x"
    refine a1 ⟨x, _, _, h1, .here, fun t H1 hs => ?_⟩
    have h2 := lA.consS (Pa := slotA) (x := x) (xs := r) hs (.there .here) (by walk_at "sel")
    refine k1 x r rfl t _ ((Ent.cons se.ent').st ?_)
    exact Ent.swap.st (SrA.I h2 le (by walk_at "sels"))
theorem ok_SlotRing_reap (T : Txt P w K mg base a) : FnOk P w K mg base (L2.CX P w) 5 a.f_SlotRing_reap a.fd_SlotRing_reap ["self"] (sp_SlotRing_reap K a) := by
  have G_copied := ok_copied T
  have G_Ring_take := ok_Ring_take T
  refine T.F_SlotRing_reap.okX sc_SlotRing_reap (fun vs H Q E h => A1.len h) (fun cdv A outer s H vs Q E hr h => ?_)
  have hu := hu_of hr
  obtain ⟨v_self, rfl, h⟩ := h
  refine ⟨_, (pss_one (ps_ret (pe_callS G_copied (hr.mono (by decide)) rfl T.g_copied T.F_copied.kp T.b_copied (fun σ => passAt (takes_of rfl rfl rfl rfl) σ) (pa_cons (pe_meth0S (pe_fld (pv 0) rfl) T.cl_Ring T.m_Ring_take G_Ring_take (hr.mono (by decide)) T.b_Ring_take (fun σ => passAt (takes_of rfl rfl rfl rfl) σ)) pa_nil)))), ?_⟩
  obtain ⟨p, n, ab, dt, fs, L, R, rfl, hs, se, k0, k1⟩ := h
  obtain ⟨dx, pa, pf, ad, vs, le, hl, nz, hs⟩ := SrA.U hs se
  walk_at "x"
  refine c_ring_take hs (by walk_at "sel") (fun h d hd => k0 (by rw [h] at hl; exact List.eq_nil_of_length_eq_zero hl.symm) d hd) fun y ys h H1 hs => ?_
  subst h
  cases fs with
  | nil => cases hl
  | cons x r =>
    obtain ⟨v, ws, e, h1⟩ := lA.unS (Pa := slotA) hs (by walk_at "sel")
    obtain ⟨rfl, rfl⟩ := List.cons.inj e
    walk_at "x"
    refine a1 ⟨x, _, _, h1, .here, fun t H1 hs => ?_⟩
    simp only [List.length_cons] at le
    refine k1 x r rfl t _ ?_
    have h2 := hs.drop (P := slotA _ x) (.there .here)
    exact Ent.swap.st (SrA.I h2 (by omega) (by walk_at "sels"))
end
end My
set_option Elab.async false
set_option maxRecDepth 100000
set_option maxHeartbeats 100000000
set_option linter.all false
namespace My
open PySem L2 Sx Rd Sl
local macro_rules | `(tactic| walk_at "ne") => `(tactic| (first | with_reducible assumption | with_reducible exact Ne.symm (by with_reducible assumption)))
local macro_rules | `(tactic| walk_at "nin") => `(tactic| (simp only [List.mem_cons, List.not_mem_nil, or_false, not_or, not_false_eq_true]; (repeat' refine And.intro ?_ ?_); (all_goals walk_at "ne")))
local macro_rules | `(tactic| walk_at "hl") => `(tactic| (first | (with_reducible assumption) | exact upd_same | ((with_reducible refine' (upd_ne ?hne).trans ?hgo); (case hne => walk_at "ne"); (case hgo => walk_at "hl"))))
local macro_rules | `(tactic| walk_at "sq") => `(tactic| (first | (with_reducible assumption) | exact Or.inl (Or.inl (by walk_at "hl"))))
local macro_rules | `(tactic| walk_at "ar") => `(tactic| (first | omega | exact ⟨by omega, by omega⟩ | exact Or.inl ⟨by omega, by omega⟩ | exact Or.inr ⟨by omega, by omega⟩ | (show (0 : Int) < _; omega) | (show (0 : Int) < _ ∧ _ < (1073741824 : Int); omega)))
local macro_rules | `(tactic| walk_at "cls") => `(tactic| (first | exact Txt.cl_Sender (by assumption) | exact Txt.cl_Ring (by assumption) | exact Txt.cl_Pool (by assumption) | exact Txt.cl_TransmitQueue (by assumption) | exact Txt.cl_SlotRing (by assumption)))
local macro_rules | `(tactic| walk_at "noa") => `(tactic| (first | exact Txt.n_Sender_queue (by assumption) | exact Txt.n_Sender_ring (by assumption) | exact Txt.n_Sender_pool (by assumption) | exact Txt.n_Sender_moved (by assumption) | exact Txt.n_Ring_cells (by assumption) | exact Txt.n_Ring_written (by assumption) | exact Txt.n_Ring_taken (by assumption) | exact Txt.n_Pool_owners (by assumption) | exact Txt.n_Pool_free (by assumption) | exact Txt.n_TransmitQueue_capacity (by assumption) | exact Txt.n_TransmitQueue_bytes (by assumption) | exact Txt.n_SlotRing_slots (by assumption) | exact Txt.n_SlotRing_armed (by assumption) | exact Txt.n_SlotRing_filled (by assumption) | exact Txt.n_SlotRing_added (by assumption)))
local macro_rules | `(tactic| walk_at "lkp") => `(tactic| (first | (with_reducible exact F_Sender_queue_l) | (with_reducible exact F_Sender_ring_l) | (with_reducible exact F_Sender_pool_l) | (with_reducible exact F_Sender_moved_l) | (with_reducible exact F_Ring_cells_l) | (with_reducible exact F_Ring_written_l) | (with_reducible exact F_Ring_taken_l) | (with_reducible exact F_Pool_owners_l) | (with_reducible exact F_Pool_free_l) | (with_reducible exact F_TransmitQueue_capacity_l) | (with_reducible exact F_TransmitQueue_bytes_l) | (with_reducible exact F_SlotRing_slots_l) | (with_reducible exact F_SlotRing_armed_l) | (with_reducible exact F_SlotRing_filled_l) | (with_reducible exact F_SlotRing_added_l)))
local macro_rules | `(tactic| walk_at "ptf") => `(tactic| (first | (with_reducible exact F_Sender_queue_p) | (with_reducible exact F_Sender_ring_p) | (with_reducible exact F_Sender_pool_p) | (with_reducible exact F_Sender_moved_p) | (with_reducible exact F_Ring_cells_p) | (with_reducible exact F_Ring_written_p) | (with_reducible exact F_Ring_taken_p) | (with_reducible exact F_Pool_owners_p) | (with_reducible exact F_Pool_free_p) | (with_reducible exact F_TransmitQueue_capacity_p) | (with_reducible exact F_TransmitQueue_bytes_p) | (with_reducible exact F_SlotRing_slots_p) | (with_reducible exact F_SlotRing_armed_p) | (with_reducible exact F_SlotRing_filled_p) | (with_reducible exact F_SlotRing_added_p) | exact rfl))
local macro_rules | `(tactic| walk_at "lnF") => `(tactic| (first | (with_reducible exact F_Sender_len) | (with_reducible exact F_Ring_len) | (with_reducible exact F_Pool_len) | (with_reducible exact F_TransmitQueue_len) | (with_reducible exact F_SlotRing_len) | (refine PL.lt (n := 60) ?_ (by decide); (repeat refine PL.put ?_); exact PL.nil) | decide))
local macro_rules | `(tactic| walk_at "nol") => `(tactic| (first | (with_reducible exact F_Sender_m_can_step) | (with_reducible exact F_Sender_m_step) | (with_reducible exact F_Sender_m_waiting) | (with_reducible exact F_Sender_m_empty_slot) | (with_reducible exact F_Ring_m_held) | (with_reducible exact F_Ring_m_is_full) | (with_reducible exact F_Ring_m_put) | (with_reducible exact F_Ring_m_first) | (with_reducible exact F_Ring_m_take) | (with_reducible exact F_Ring_m_listed) | (with_reducible exact F_Ring_m_next) | (with_reducible exact F_Pool_m_free) | (with_reducible exact F_Pool_m_owner) | (with_reducible exact F_Pool_m_held) | (with_reducible exact F_Pool_m_acquire) | (with_reducible exact F_Pool_m_release) | (with_reducible exact F_Pool_m_may_acquire) | (with_reducible exact F_Pool_m_exists) | (with_reducible exact F_TransmitQueue_m_put) | (with_reducible exact F_TransmitQueue_m_take) | (with_reducible exact F_TransmitQueue_m_space) | (with_reducible exact F_TransmitQueue_m_contents) | (with_reducible exact F_SlotRing_m_can_arm) | (with_reducible exact F_SlotRing_m_arm) | (with_reducible exact F_SlotRing_m_open_slot) | (with_reducible exact F_SlotRing_m_open_bytes) | (with_reducible exact F_SlotRing_m_open_count) | (with_reducible exact F_SlotRing_m_add) | (with_reducible exact F_SlotRing_m_close) | (with_reducible exact F_SlotRing_m_oldest) | (with_reducible exact F_SlotRing_m_reap) | (with_reducible exact F_SlotRing_m_filled_slots) | (with_reducible exact F_SlotRing_m_buffers)))
local macro_rules | `(tactic| walk_at "r1") => `(tactic| (first
  | with_reducible apply l_cons | ((with_reducible apply e_var); (case h => exact rfl)) | with_reducible apply l_nil | with_reducible apply s_seq | with_reducible apply e_c | with_reducible apply g_name
  | with_reducible apply s_asg | with_reducible apply e_call | with_reducible apply k_t | with_reducible apply e_op | with_reducible apply e_cb | with_reducible apply t_test
  | with_reducible apply s_if | with_reducible apply t_or | with_reducible apply t_and | with_reducible apply t_B | with_reducible apply s_next | with_reducible apply p_some
  | with_reducible apply p_no | with_reducible apply e_sl | with_reducible apply k_i | with_reducible apply e_lst | with_reducible apply t_not | with_reducible apply o_I0
  | ((with_reducible refine' o_I ?hc ?_); (case hc => walk_at "ar")) | with_reducible apply e_meth | ((with_reducible refine' k_meth ?h1 ?h2 ?_); (case h1 => walk_at "hl"); (case h2 => walk_at "nol")) | with_reducible apply e_fld | ((with_reducible refine' k_fld ?h1 ?h2 ?h3 ?h4 ?_); (case h1 => walk_at "hl"); (case h2 => walk_at "cls"); (case h3 => walk_at "noa"); (case h4 => walk_at "lkp")) | with_reducible apply e_not
  | with_reducible apply s_ret | ((with_reducible refine' k_ty ?h1 ?_); (case h1 => walk_at "sq")) | with_reducible apply s_drop | with_reducible apply s_retN | with_reducible apply s_cont | with_reducible apply s_break
  | with_reducible apply o_chC | ((with_reducible refine' o_chV ?hv ?_); (case hv => exact rfl)) | with_reducible apply e_un | with_reducible apply o_U | ((with_reducible refine' o_eq ?hs ?_); (case hs => exact rfl)) | ((with_reducible refine' o_ne ?hs ?_); (case hs => exact rfl))
  | ((with_reducible refine' o_ixL ?h1 ?h2 ?_); (case h1 => walk_at "sq"); (case h2 => first | exact rfl | exact atI_zero _ _)) | with_reducible apply s_fld | with_reducible apply e_make | ((with_reducible refine' k_set ?h1 ?h2 ?h3 ?h4 ?h5 ?_); (case h1 => walk_at "hl"); (case h2 => walk_at "cls"); (case h3 => walk_at "noa"); (case h4 => walk_at "ptf"); (case h5 => walk_at "lnF")) | with_reducible apply e_tup | with_reducible apply e_bm
  | with_reducible apply e_bm0 | with_reducible apply e_if | with_reducible apply e_chain | with_reducible apply s_raise | with_reducible apply g_sub | ((with_reducible refine' c_ln ?h1 ?_); (case h1 => walk_at "sq"))
  | ((with_reducible refine' c_pop0 ?h1 ?h2 ?_); (case h1 => walk_at "hl"); (case h2 => omega)) | with_reducible apply c_isBool | with_reducible apply c_isInt | with_reducible apply c_isBoolN | with_reducible apply c_isTupI | with_reducible apply c_isNonB
  | with_reducible apply c_isNonT | ((with_reducible refine' c_isList ?h1 ?_); (case h1 => walk_at "hl")) | ((with_reducible refine' c_isTup ?h1 ?_); (case h1 => walk_at "hl")) | ((with_reducible refine' c_isTupB ?h1 ?_); (case h1 => walk_at "hl")) | with_reducible apply o_isB | with_reducible apply o_notB
  | with_reducible apply e_and | with_reducible apply e_or | with_reducible apply k_bl | with_reducible apply e_xf | with_reducible apply s_augS | ((with_reducible refine' s_augV ?hv ?_); (case hv => exact rfl))
  | with_reducible apply ip_I | with_reducible apply e_lcE | ((with_reducible refine' k_xf ?h1 ?h2 ?_); (case h1 => walk_at "hl"); (case h2 => exact look_hit _ _ _)) | ((with_reducible refine' o_slL ?h1 ?_); (case h1 => walk_at "sq")) | ((with_reducible refine' k_dget ?h1 ?h2 ?_); (case h1 => walk_at "hl"); (case h2 => with_reducible assumption)) | with_reducible apply e_dget
  | with_reducible apply s_dput | with_reducible apply e_makeK | with_reducible apply g_cons | with_reducible apply g_nil | with_reducible apply c_ab | with_reducible apply c_in
  | with_reducible apply c_mx | with_reducible apply c_mn | with_reducible apply a1 | with_reducible apply a2 | with_reducible apply a3 | with_reducible apply a4
  | with_reducible apply a5 | with_reducible apply a6 | with_reducible apply a0 | with_reducible apply t_tru | with_reducible apply t_yes | ((with_reducible refine' k_truL ?h1 ?_); (case h1 => walk_at "sq")) | with_reducible refine d_nx ?_ | with_reducible refine d_rt ?_ | with_reducible refine d_bk ?_
  | with_reducible refine d_ct ?_))
local macro_rules | `(tactic| walk_at "r") => `(tactic| (repeat walk_at "r1"))
local macro_rules | `(tactic| walk_at "sel") => `(tactic| (first | with_reducible exact Sl.Sel.here | ((with_reducible refine' Sl.Sel.there ?t); (case t => walk_at "sel"))))
local macro_rules | `(tactic| walk_at "sels") => `(tactic| (first | with_reducible exact Sl.Sels.nil | ((with_reducible refine' Sl.Sels.cons ?a ?b); (case a => walk_at "sel"); (case b => walk_at "sels")) | with_reducible exact Sl.Sels.all _ | ((with_reducible refine' Sl.Sels.skip ?t); (case t => walk_at "sels"))))
local macro_rules | `(tactic| walk_at "selm") => `(tactic| ((try (simp only [])); (try simp only [List.map_append, List.map_cons, List.map_nil]); walk_at "sels"))
local macro_rules | `(tactic| walk_at "hg") => do
  let h := Lean.mkIdent `hs
  `(tactic| (first | (with_reducible assumption) | ((with_reducible refine' Sl.St.get $h ?s); (case s => walk_at "sel")) | ((with_reducible refine' Sl.St.geti $h ?s); (case s => walk_at "sel"))))
local macro_rules | `(tactic| walk_at "sg") => do
  let h := Lean.mkIdent `hs
  `(tactic| (first | (with_reducible assumption) | exact Or.inl (Or.inl (by walk_at "hg")) | (refine' Sl.sqA.U $h ?s; (case s => walk_at "sel"))))
local macro_rules | `(tactic| walk_at "le5") => `(tactic| (first | omega | (simp only [List.length_cons, List.length_nil, List.length_append, List.length_map]; omega) | (show _ ≤ _; decide) | (show _ < _; decide)))
local macro_rules | `(tactic| walk_at "km") => `(tactic| fail)
local macro_rules | `(tactic| walk_at "kf") => `(tactic| fail)
local macro_rules | `(tactic| walk_at "x1") => do
  let h := Lean.mkIdent `hs
  `(tactic| (first
  | with_reducible apply l_cons | ((with_reducible apply e_var); (case h => exact rfl)) | with_reducible apply l_nil | with_reducible apply s_seq | with_reducible apply e_c | with_reducible apply g_name
  | with_reducible apply s_asg | with_reducible apply e_call | with_reducible apply k_t | with_reducible apply e_op | with_reducible apply e_cb | with_reducible apply t_test
  | with_reducible apply s_if | with_reducible apply t_or | with_reducible apply t_and | with_reducible apply t_B | with_reducible apply s_next | with_reducible apply p_some
  | with_reducible apply p_no | with_reducible apply e_sl | with_reducible apply k_i | with_reducible apply Sl.e_lstS | with_reducible apply t_not | with_reducible apply o_I0
  | ((with_reducible refine' o_I ?hc ?_); (case hc => walk_at "ar")) | with_reducible apply e_meth | ((with_reducible refine' k_meth ?h1 ?h2 ?_); (case h1 => walk_at "hg"); (case h2 => walk_at "nol")) | walk_at "km" | with_reducible apply e_fld
  | ((with_reducible refine' k_fld ?h1 ?h2 ?h3 ?h4 ?_); (case h1 => walk_at "hg"); (case h2 => walk_at "cls"); (case h3 => walk_at "noa"); (case h4 => walk_at "lkp")) | walk_at "kf" | with_reducible apply e_not
  | with_reducible apply s_ret | ((with_reducible refine' k_ty ?h1 ?_); (case h1 => walk_at "sg")) | with_reducible apply s_drop | with_reducible apply s_retN | with_reducible apply s_cont | with_reducible apply s_break
  | with_reducible apply o_chC | ((with_reducible refine' o_chV ?hv ?_); (case hv => exact rfl)) | with_reducible apply e_un | with_reducible apply o_U | ((with_reducible refine' o_eq ?hs ?_); (case hs => exact rfl)) | ((with_reducible refine' o_ne ?hs ?_); (case hs => exact rfl))
  | ((with_reducible refine' o_ixL ?h1 ?h2 ?_); (case h1 => walk_at "sg"); (case h2 => first | exact rfl | exact atI_zero _ _)) | ((with_reducible refine' o_ixT ?h1 ?h2 ?_); (case h1 => walk_at "sg"); (case h2 => first | exact rfl | exact atI_zero _ _)) | with_reducible apply s_fld | with_reducible apply Sl.e_makeS
  | ((with_reducible refine' Sl.k_setS $h ?h1 ?h2 ?h3 ?h4 ?h5 ?_); (case h1 => walk_at "sel"); (case h2 => walk_at "cls"); (case h3 => walk_at "noa"); (case h4 => walk_at "ptf"); (case h5 => walk_at "lnF"); (clear $h; intro _ $h)) | with_reducible apply Sl.e_tupS | with_reducible apply e_bm
  | with_reducible apply e_bm0 | with_reducible apply e_if | with_reducible apply e_chain | with_reducible apply s_raise | with_reducible apply g_sub | ((with_reducible refine' c_ln ?h1 ?_); (case h1 => walk_at "sg")) | ((with_reducible refine' c_lnT ?h1 ?_); (case h1 => walk_at "sg"))
  | ((with_reducible refine' Sl.k_newL $h ?h1 ?_); (case h1 => walk_at "le5"); (clear $h; intro _ _ $h)) | ((with_reducible refine' Sl.k_newT $h ?h1 ?_); (case h1 => walk_at "le5"); (clear $h; intro _ _ $h)) | ((with_reducible refine' Sl.k_make $h ?_); (clear $h; intro _ _ _ $h))
  | ((with_reducible refine' Sl.c_appS $h ?h1 ?h2 ?_); (case h1 => walk_at "sel"); (case h2 => walk_at "le5"); (clear $h; intro _ $h)) | ((with_reducible refine' Sl.c_pop0S $h ?h1 ?h2 ?_); (case h1 => walk_at "sel"); (case h2 => walk_at "le5"); (clear $h; intro _ $h))
  | ((with_reducible refine' Sl.c_lsS $h ?h1 ?_); (case h1 => walk_at "sg"); (clear $h; intro _ _ $h)) | ((with_reducible refine' Sl.o_slLS $h ?h1 ?_); (case h1 => walk_at "sg"); (clear $h; intro _ _ $h)) | ((with_reducible refine' Sl.c_clrS $h ?h1 ?_); (case h1 => walk_at "sel"); (clear $h; intro _ $h))
  | ((with_reducible refine' Sl.o_catS $h ?h1 ?h2 ?h3 ?_); (case h1 => walk_at "hg"); (case h2 => walk_at "hg"); (case h3 => walk_at "le5"); (clear $h; intro _ _ $h)) | ((with_reducible refine' Sl.c_extS $h ?h1 ?h2 ?h3 ?_); (case h1 => walk_at "sel"); (case h2 => walk_at "hg"); (case h3 => walk_at "le5"); (clear $h; intro _ $h))
  | ((with_reducible refine' Sl.k_raise $h ?h1 ?_); (case h1 => exact okV_int ⟨by omega, by omega⟩); (clear $h; intro _ _ $h))
  | with_reducible apply c_isBool | with_reducible apply c_isInt | with_reducible apply c_isBoolN | with_reducible apply c_isTupI | with_reducible apply c_isNonB
  | with_reducible apply c_isNonT | ((with_reducible refine' c_isList ?h1 ?_); (case h1 => walk_at "hg")) | ((with_reducible refine' c_isTup ?h1 ?_); (case h1 => walk_at "hg")) | ((with_reducible refine' c_isTupB ?h1 ?_); (case h1 => walk_at "hg")) | with_reducible apply o_isB | with_reducible apply o_notB
  | with_reducible apply e_and | with_reducible apply e_or | with_reducible apply k_bl | with_reducible apply e_xf | with_reducible apply s_augS | ((with_reducible refine' s_augV ?hv ?_); (case hv => exact rfl)) | with_reducible apply Sl.s_aug
  | with_reducible apply ip_I | with_reducible apply e_lcE | with_reducible apply e_lcL | with_reducible apply f_lst | with_reducible apply e_lcF | with_reducible apply f_rng1 | ((with_reducible refine' k_xf ?h1 ?h2 ?_); (case h1 => walk_at "hg"); (case h2 => exact look_hit _ _ _)) | ((with_reducible refine' k_dget ?h1 ?h2 ?_); (case h1 => walk_at "hg"); (case h2 => with_reducible assumption)) | with_reducible apply e_dget
  | with_reducible apply s_dput | with_reducible apply Sl.e_makeKS | with_reducible apply g_cons | with_reducible apply g_nil | ((with_reducible refine' g_tup ?h1 ?h2 ?_); (case h1 => walk_at "sg"); (case h2 => exact rfl)) | with_reducible apply c_ab | with_reducible apply c_in
  | with_reducible apply c_mx | with_reducible apply c_mn | with_reducible apply a1 | with_reducible apply a2 | with_reducible apply a3 | with_reducible apply a4
  | with_reducible apply a5 | with_reducible apply a6 | with_reducible apply a0 | with_reducible apply t_tru | with_reducible apply t_yes | ((with_reducible refine' k_truL ?h1 ?_); (case h1 => walk_at "sg")) | with_reducible refine d_nx ?_ | with_reducible refine d_rt ?_ | with_reducible refine d_bk ?_
  | with_reducible refine d_ct ?_))
local macro_rules | `(tactic| walk_at "x") => `(tactic| (repeat walk_at "x1"))
local macro_rules | `(tactic| walk_at "km") => do let h := Lean.mkIdent `hs; `(tactic| ((with_reducible refine' km_Ring $h ?s ?m ?_); (case s => walk_at "sel"); (case m => intros; walk_at "nol")))
local macro_rules | `(tactic| walk_at "km") => do let h := Lean.mkIdent `hs; `(tactic| ((with_reducible refine' km_SlotRing $h ?s ?m ?_); (case s => walk_at "sel"); (case m => intros; walk_at "nol")))
section
variable {P : Program} {w : World} {K : PySem.W.Frag} {mg : Str → Option Value} {base : Heap} {a : Ads}
def sp_SlotRing_filled_slots (K : PySem.W.Frag) (a : Ads) : Sp := A1 fun s H Q E => SrSp a s H fun p n ab dt fs L R => ∀ q vs H', Sl.St (cell q (.lst vs) :: lA slotA vs fs :: L) H' → Q (.ref q) H'
theorem ok_SlotRing_filled_slots (T : Txt P w K mg base a) : FnOk P w K mg base (L2.CX P w) 3 a.f_SlotRing_filled_slots a.fd_SlotRing_filled_slots ["self"] (sp_SlotRing_filled_slots K a) := by
  have G_Ring_listed := ok_Ring_listed T
  have G_copied := ok_copied T
  refine T.F_SlotRing_filled_slots.okX sc_SlotRing_filled_slots (fun vs H Q E h => A1.len h) (fun cdv A outer s H vs Q E hr h => ?_)
  have hu := hu_of hr
  obtain ⟨v_self, rfl, h⟩ := h
  refine ⟨_, (pss_one (ps_ret (pe_lc (own := [("slot", 1)]) (g := (gName 1)) (tt := tYes) (te := (tCallS (sp_copied K a) (WE (fun _ _ _ _ => False)) (tCons (tVar 1) tNil))) rfl sc_SlotRing_filled_slots.nd (pi_list (pe_meth0S (pe_fld (pv 0) rfl) T.cl_Ring T.m_Ring_listed G_Ring_listed (hr.mono (by decide)) T.b_Ring_listed (fun σ => passAt (takes_of rfl rfl rfl rfl) σ))) (blkOk_by (N := ["self", "slot"]) (sc := defScope s_SlotRing_filled_slots) (own := [("slot", 1)]) (by decide +kernel)) (fun _ _ _ _ _ => by exact (pg_name (i := 1) sc_SlotRing_filled_slots.nd rfl (by first | exact Or.inl rfl | exact Or.inr rfl))) (fun _ _ _ _ _ => by exact pts_nil) (fun _ _ _ _ _ => by exact (pe_callS G_copied (hr.mono (by decide)) rfl T.g_copied T.F_copied.kp T.b_copied (fun σ => passNo) (pa_cons (pv 1) pa_nil)))))), ?_⟩
  obtain ⟨p, n, ab, dt, fs, L, R, rfl, hs, se, k⟩ := h
  obtain ⟨dx, pa, pf, ad, vs, le, hl, nz, hs⟩ := SrA.U hs se
  walk_at "x"
  refine c_ring_listed hs (by walk_at "sel") fun b H1 hs => ?_
  walk_at "x"
  refine k_lcLX (fun i acc => lA slotA acc (fs.take i)) hs (by walk_at "sg") (by omega) lA.nilI (fun i E acc H' hs => by walk_at "sg") (fun E i x acc H' hx ha hs R0 N y _ => ?_) fun E acc H' ha hs => ?_
  · have hi : i < fs.length := by rw [← hl]; exact (List.getElem?_eq_some_iff.mp hx).1
    obtain ⟨v, hv, hs⟩ := lA.outS (Pa := slotA) (xs := fs) hs (by walk_at "sel") (List.getElem?_eq_getElem hi)
    cases hv.symm.trans hx
    walk_at "x"
    refine ⟨rfl, lc_yes ?_⟩
    walk_at "x"
    refine a1 ⟨fs[i], _, _, hs, .here, fun t H2 hs => ?_⟩
    have hs := lA.backE (Pa := slotA) hs (.there .here) (by walk_at "sel") (List.getElem?_eq_getElem hi) hv
    have hs := lA.snocS (Pa := slotA) (x := fs[i]) (xs := fs.take i) hs (by walk_at "sel") (by walk_at "sel")
    rw [← take_snoc (List.getElem?_eq_getElem hi)] at hs
    exact y _ _ trivial (hs.perm (by walk_at "selm"))
  · rw [hl, List.take_length] at hs
    have hs := SrA.I hs le (by walk_at "sels")
    exact k _ _ _ ((Ent.cons (Ent.cons se.ent')).st (hs.perm (by walk_at "sels")))
def sp_SlotRing_buffers (K : PySem.W.Frag) (a : Ads) : Sp := A1 fun s H Q E => SrSp a s H fun p n ab dt fs L R => ∀ q H', Sl.St (cell q (.lst ((fs.map (·.1) ++ ab).map V.int)) :: L) H' → Q (.ref q) H'
theorem ok_SlotRing_buffers (T : Txt P w K mg base a) : FnOk P w K mg base (L2.CX P w) 3 a.f_SlotRing_buffers a.fd_SlotRing_buffers ["self"] (sp_SlotRing_buffers K a) := by
  have G_Ring_listed := ok_Ring_listed T
  refine T.F_SlotRing_buffers.okX sc_SlotRing_buffers (fun vs H Q E h => A1.len h) (fun cdv A outer s H vs Q E hr h => ?_)
  have hu := hu_of hr
  obtain ⟨v_self, rfl, h⟩ := h
  refine ⟨_, (pss_one (ps_ret (pe_op op_cat (pe_lc (own := [("slot", 1)]) (g := (gName 1)) (tt := tYes) (te := (tOp (rIxT K) (tVar 1) (tC (.int 0)))) rfl sc_SlotRing_buffers.nd (pi_list (pe_meth0S (pe_fld (pv 0) rfl) T.cl_Ring T.m_Ring_listed G_Ring_listed (hr.mono (by decide)) T.b_Ring_listed (fun σ => passAt (takes_of rfl rfl rfl rfl) σ))) (blkOk_by (N := ["self", "slot"]) (sc := defScope s_SlotRing_buffers) (own := [("slot", 1)]) (by decide +kernel)) (fun _ _ _ _ _ => by exact (pg_name (i := 1) sc_SlotRing_buffers.nd rfl (by first | exact Or.inl rfl | exact Or.inr rfl))) (fun _ _ _ _ _ => by exact pts_nil) (fun _ _ _ _ _ => by exact (pe_ix ix_tup (pv 1) pe_int (fun _ _ => rfl)))) (pe_meth0S (pe_fld (pv 0) rfl) T.cl_Ring T.m_Ring_listed G_Ring_listed (hr.mono (by decide)) T.b_Ring_listed (fun σ => passAt (takes_of rfl rfl rfl rfl) σ))))), ?_⟩
  obtain ⟨p, n, ab, dt, fs, L, R, rfl, hs, se, k⟩ := h
  obtain ⟨dx, pa, pf, ad, vs, le, hl, nz, hs⟩ := SrA.U hs se
  walk_at "x"
  refine c_ring_listed hs (by walk_at "sel") fun b H1 hs => ?_
  walk_at "x"
  refine k_lcLS (fun i acc => acc = ((fs.take i).map (·.1)).map V.int) (fun _ _ => _) hs (by walk_at "sg") (by omega) rfl (fun i E acc H' _ hs => by walk_at "sg") (fun E i x acc H' hx ha f hs R0 N y _ => ?_) fun E acc H' ha f hs => ?_
  · have hi : i < fs.length := by rw [← hl]; exact (List.getElem?_eq_some_iff.mp hx).1
    obtain ⟨v, hv, hs⟩ := lA.outS (Pa := slotA) (xs := fs) hs (by walk_at "sel") (List.getElem?_eq_getElem hi)
    cases hv.symm.trans hx
    have hU := slotA.U hs .here
    clear hs
    obtain ⟨t, d, rfl, hs⟩ := hU
    walk_at "x"
    refine ⟨rfl, lc_yes ?_⟩
    walk_at "x"
    have hs := slotA.I (s := fs[i]) hs (by walk_at "sels")
    have hs := lA.backE (Pa := slotA) hs .here (by walk_at "sel") (List.getElem?_eq_getElem hi) hv
    refine y _ _ ?_ (hs.perm (by walk_at "selm"))
    show _ = List.map V.int (List.map (·.1) (fs.take (i + 1)))
    rw [take_snoc (List.getElem?_eq_getElem hi), List.map_append, List.map_append, ← f]
    rfl
  · rw [hl, List.take_length] at f
    subst f
    walk_at "x"
    refine c_ring_listed hs (by walk_at "sel") fun b H1 hs => ?_
    walk_at "x"
    have hs := SrA.I hs le (by walk_at "sels")
    refine k _ _ ((Ent.cons se.ent').st ?_)
    rw [List.map_append]
    exact hs.perm (by walk_at "sels")
/-! ### data of slots -/
def dSl (s : Slt) : PyData := .tuple [.int s.1, dInts s.2.1, .int s.2.2]
theorem dSl_ld (s : Slt) : LD 4 (dSl s) := LD.tup fun d hd => by
  simp only [List.mem_cons, List.not_mem_nil, or_false] at hd
  rcases hd with rfl | rfl | rfl
  · exact LD.int _
  · exact LD.ints _
  · exact LD.int _
theorem dSls_ld (ss : List Slt) : LD 5 (.list (ss.map dSl)) := LD.list fun d hd => by
  obtain ⟨s, _, rfl⟩ := List.mem_map.mp hd
  exact dSl_ld s
section
variable {L R : List As} {H : Hp} {v : V} {s : Slt} {vs : List V} {ss : List Slt}
theorem slotA.dp (hs : Sl.St L H) (se : Sel (slotA v s) L R) : Dp K H v (dSl s) := by
  obtain ⟨t, d, rfl, h⟩ := slotA.U hs se
  exact .tup (Or.inl (Or.inl (h.geti .here))) (.cons (.int _) (.cons (.lst (Or.inl (Or.inl (h.get (.there .here)))) (dp_ints _)) (.cons (.int _) .nil)))
theorem slotsA.dp : ∀ {vs : List V} {ss : List Slt} {L R : List As}, Sl.St L H → Sel (lA slotA vs ss) L R → DpAll K H vs (ss.map dSl)
  | vs, [], L, R, hs, se => by rw [lA.nilU (hs.sel se)]; exact .nil
  | vs, x :: ss, L, R, hs, se => by
    obtain ⟨v, ws, rfl, h⟩ := lA.unS hs se
    exact .cons (slotA.dp h .here) (slotsA.dp h (.there .here))
end
/-! ### one of a row of numbers, drawn -/
def sp_law_pick (K : PySem.W.Frag) (a : Ads) : Sp := A2 fun s r H Q _ => ∃ (st sl l : Addr) (xs : List Int), s = .ref st ∧ r = .ref l ∧ StAt H st sl ∧ H l = some (.lst (xs.map V.int)) ∧ st ≠ l ∧ sl ≠ l ∧ 1 ≤ xs.length ∧ xs.length ≤ 1000 ∧
  ∀ x H1, x ∈ xs → StAt H1 st sl → Fp [st, sl] H H1 → Q (.int x) H1
theorem ok_law_pick (T : Txt P w K mg base a) : FnOk P w K mg base (L2.CX P w) 2 a.f_law_pick a.fd_law_pick ["state", "row"] (sp_law_pick K a) := by
  have G_law_draw := ok_law_draw T
  refine T.F_law_pick.okX sc_law_pick (fun vs H Q E h => A2.len h) (fun cdv A outer s H vs Q E hr h => ?_)
  have hu := hu_of hr
  obtain ⟨v_state, v_row, rfl, h⟩ := h
  refine ⟨_, (pss_one (ps_ret (pe_ix ix_list (pv 1) (pe_callS G_law_draw (hr.mono (by decide)) rfl T.g_law_draw T.F_law_draw.kp T.b_law_draw (fun σ => passAt (takes_of rfl rfl rfl rfl) σ) (pa_cons (pv 0) (pa_cons (pe_callB call_ln (by rfl) T.g_len (by decide +kernel) (pa_cons (pv 1) pa_nil)) pa_nil))) (fun _ _ => rfl)))), ?_⟩
  obtain ⟨st, sl, l, xs, rfl, rfl, S, hl, n1, n2, h1, h2, k⟩ := h
  walk_at "r"
  refine a2 ⟨st, sl, _, rfl, rfl, S, by rw [List.length_map]; omega, by rw [List.length_map]; omega, fun r H1 r0 r1 S1 f1 => ?_⟩
  rw [List.length_map] at r1
  obtain ⟨n, rfl⟩ : ∃ n : Nat, r = n := ⟨r.toNat, by omega⟩
  have hn : n < xs.length := by omega
  have e1 : xs[n]? = some xs[n] := List.getElem?_eq_getElem hn
  refine o_ixL (Or.inl (Or.inl (f1 _ _ hl (by simp [n1.symm, n2.symm])))) (atI_nat (by rw [List.getElem?_map, e1]; rfl)) ?_
  walk_at "r"
  exact k _ H1 (List.mem_of_getElem? e1) S1 f1
theorem c_pick {L R M : List As} {H : Hp} {Q : VK} {E : XK} {st l : Addr} (xs : List Int) {vs : List V} (hs : Sl.St L H) (s : Sel (StA st) L R) (s2 : Sel (cell l (.lst vs)) R M) (e : vs = xs.map V.int) (h1 : 1 ≤ xs.length) (h2 : xs.length ≤ 1000)
    (q : ∀ x H', x ∈ xs → Sl.St (StA st :: R) H' → Q (.int x) H') : sp_law_pick K a [.ref st, .ref l] H Q E := by
  have h0 := hs.sel2 s s2
  obtain ⟨A, ⟨sl, rfl, S⟩, up⟩ := fpa_U (hs.sel s)
  have hl := h0.get (.there .here)
  obtain ⟨ns, m', g1, g2, _⟩ := id S
  have hd : st ≠ l ∧ sl ≠ l := by
    obtain ⟨S0, S1, S2, e0, d0, ⟨A, eA, sl', rfl, S'⟩, S3, S4, e1, d1, k1, k2⟩ := h0
    have hsl : sl' = sl := by
      obtain ⟨ns', m2, q1, _⟩ := S'
      rw [g1] at q1
      have := HO.lst.inj (Option.some.inj q1)
      simp at this
      exact this.1.symm
    subst hsl
    exact ⟨fun z => d0 st ((eA st).mpr (by simp)) ((e1 st).mpr (.inl ((k1.1 st).mpr z))), fun z => d0 sl' ((eA sl').mpr (by simp)) ((e1 sl').mpr (.inl ((k1.1 sl').mpr z)))⟩
  refine a2 ⟨st, sl, l, xs, rfl, rfl, S, by rw [hl, e], hd.1, hd.2, h1, h2, fun x H1 hx S1 f => q x H1 hx (up _ _ _ [st, sl] [st, sl] H1 f (fun x m => ⟨.inl m, fun o e => ?_⟩) ⟨sl, rfl, S1⟩ fun x m => .inl m)⟩
  simp only [List.mem_cons, List.not_mem_nil, or_false] at m
  rcases m with rfl | rfl
  · rw [g1] at e; cases e; exact id
  · rw [g2] at e; cases e; exact id
end
end My
set_option Elab.async false
set_option maxRecDepth 100000
set_option maxHeartbeats 100000000
set_option linter.all false
namespace My
open PySem L2 Sx Rd Sl
local macro_rules | `(tactic| walk_at "ne") => `(tactic| (first | with_reducible assumption | with_reducible exact Ne.symm (by with_reducible assumption)))
local macro_rules | `(tactic| walk_at "nin") => `(tactic| (simp only [List.mem_cons, List.not_mem_nil, or_false, not_or, not_false_eq_true]; (repeat' refine And.intro ?_ ?_); (all_goals walk_at "ne")))
local macro_rules | `(tactic| walk_at "hl") => `(tactic| (first | (with_reducible assumption) | exact upd_same | ((with_reducible refine' (upd_ne ?hne).trans ?hgo); (case hne => walk_at "ne"); (case hgo => walk_at "hl"))))
local macro_rules | `(tactic| walk_at "sq") => `(tactic| (first | (with_reducible assumption) | exact Or.inl (Or.inl (by walk_at "hl"))))
local macro_rules | `(tactic| walk_at "ar") => `(tactic| (first | omega | exact ⟨by omega, by omega⟩ | exact Or.inl ⟨by omega, by omega⟩ | exact Or.inr ⟨by omega, by omega⟩ | (show (0 : Int) < _; omega) | (show (0 : Int) < _ ∧ _ < (1073741824 : Int); omega)))
local macro_rules | `(tactic| walk_at "cls") => `(tactic| (first | exact Txt.cl_Sender (by assumption) | exact Txt.cl_Ring (by assumption) | exact Txt.cl_Pool (by assumption) | exact Txt.cl_TransmitQueue (by assumption) | exact Txt.cl_SlotRing (by assumption)))
local macro_rules | `(tactic| walk_at "noa") => `(tactic| (first | exact Txt.n_Sender_queue (by assumption) | exact Txt.n_Sender_ring (by assumption) | exact Txt.n_Sender_pool (by assumption) | exact Txt.n_Sender_moved (by assumption) | exact Txt.n_Ring_cells (by assumption) | exact Txt.n_Ring_written (by assumption) | exact Txt.n_Ring_taken (by assumption) | exact Txt.n_Pool_owners (by assumption) | exact Txt.n_Pool_free (by assumption) | exact Txt.n_TransmitQueue_capacity (by assumption) | exact Txt.n_TransmitQueue_bytes (by assumption) | exact Txt.n_SlotRing_slots (by assumption) | exact Txt.n_SlotRing_armed (by assumption) | exact Txt.n_SlotRing_filled (by assumption) | exact Txt.n_SlotRing_added (by assumption)))
local macro_rules | `(tactic| walk_at "lkp") => `(tactic| (first | (with_reducible exact F_Sender_queue_l) | (with_reducible exact F_Sender_ring_l) | (with_reducible exact F_Sender_pool_l) | (with_reducible exact F_Sender_moved_l) | (with_reducible exact F_Ring_cells_l) | (with_reducible exact F_Ring_written_l) | (with_reducible exact F_Ring_taken_l) | (with_reducible exact F_Pool_owners_l) | (with_reducible exact F_Pool_free_l) | (with_reducible exact F_TransmitQueue_capacity_l) | (with_reducible exact F_TransmitQueue_bytes_l) | (with_reducible exact F_SlotRing_slots_l) | (with_reducible exact F_SlotRing_armed_l) | (with_reducible exact F_SlotRing_filled_l) | (with_reducible exact F_SlotRing_added_l)))
local macro_rules | `(tactic| walk_at "ptf") => `(tactic| (first | (with_reducible exact F_Sender_queue_p) | (with_reducible exact F_Sender_ring_p) | (with_reducible exact F_Sender_pool_p) | (with_reducible exact F_Sender_moved_p) | (with_reducible exact F_Ring_cells_p) | (with_reducible exact F_Ring_written_p) | (with_reducible exact F_Ring_taken_p) | (with_reducible exact F_Pool_owners_p) | (with_reducible exact F_Pool_free_p) | (with_reducible exact F_TransmitQueue_capacity_p) | (with_reducible exact F_TransmitQueue_bytes_p) | (with_reducible exact F_SlotRing_slots_p) | (with_reducible exact F_SlotRing_armed_p) | (with_reducible exact F_SlotRing_filled_p) | (with_reducible exact F_SlotRing_added_p) | exact rfl))
local macro_rules | `(tactic| walk_at "lnF") => `(tactic| (first | (with_reducible exact F_Sender_len) | (with_reducible exact F_Ring_len) | (with_reducible exact F_Pool_len) | (with_reducible exact F_TransmitQueue_len) | (with_reducible exact F_SlotRing_len) | (refine PL.lt (n := 60) ?_ (by decide); (repeat refine PL.put ?_); exact PL.nil) | decide))
local macro_rules | `(tactic| walk_at "nol") => `(tactic| (first | (with_reducible exact F_Sender_m_can_step) | (with_reducible exact F_Sender_m_step) | (with_reducible exact F_Sender_m_waiting) | (with_reducible exact F_Sender_m_empty_slot) | (with_reducible exact F_Ring_m_held) | (with_reducible exact F_Ring_m_is_full) | (with_reducible exact F_Ring_m_put) | (with_reducible exact F_Ring_m_first) | (with_reducible exact F_Ring_m_take) | (with_reducible exact F_Ring_m_listed) | (with_reducible exact F_Ring_m_next) | (with_reducible exact F_Pool_m_free) | (with_reducible exact F_Pool_m_owner) | (with_reducible exact F_Pool_m_held) | (with_reducible exact F_Pool_m_acquire) | (with_reducible exact F_Pool_m_release) | (with_reducible exact F_Pool_m_may_acquire) | (with_reducible exact F_Pool_m_exists) | (with_reducible exact F_TransmitQueue_m_put) | (with_reducible exact F_TransmitQueue_m_take) | (with_reducible exact F_TransmitQueue_m_space) | (with_reducible exact F_TransmitQueue_m_contents) | (with_reducible exact F_SlotRing_m_can_arm) | (with_reducible exact F_SlotRing_m_arm) | (with_reducible exact F_SlotRing_m_open_slot) | (with_reducible exact F_SlotRing_m_open_bytes) | (with_reducible exact F_SlotRing_m_open_count) | (with_reducible exact F_SlotRing_m_add) | (with_reducible exact F_SlotRing_m_close) | (with_reducible exact F_SlotRing_m_oldest) | (with_reducible exact F_SlotRing_m_reap) | (with_reducible exact F_SlotRing_m_filled_slots) | (with_reducible exact F_SlotRing_m_buffers)))
local macro_rules | `(tactic| walk_at "r1") => `(tactic| (first
  | with_reducible apply l_cons | ((with_reducible apply e_var); (case h => exact rfl)) | with_reducible apply l_nil | with_reducible apply s_seq | with_reducible apply e_c | with_reducible apply g_name
  | with_reducible apply s_asg | with_reducible apply e_call | with_reducible apply k_t | with_reducible apply e_op | with_reducible apply e_cb | with_reducible apply t_test
  | with_reducible apply s_if | with_reducible apply t_or | with_reducible apply t_and | with_reducible apply t_B | with_reducible apply s_next | with_reducible apply p_some
  | with_reducible apply p_no | with_reducible apply e_sl | with_reducible apply k_i | with_reducible apply e_lst | with_reducible apply t_not | with_reducible apply o_I0
  | ((with_reducible refine' o_I ?hc ?_); (case hc => walk_at "ar")) | with_reducible apply e_meth | ((with_reducible refine' k_meth ?h1 ?h2 ?_); (case h1 => walk_at "hl"); (case h2 => walk_at "nol")) | with_reducible apply e_fld | ((with_reducible refine' k_fld ?h1 ?h2 ?h3 ?h4 ?_); (case h1 => walk_at "hl"); (case h2 => walk_at "cls"); (case h3 => walk_at "noa"); (case h4 => walk_at "lkp")) | with_reducible apply e_not
  | with_reducible apply s_ret | ((with_reducible refine' k_ty ?h1 ?_); (case h1 => walk_at "sq")) | with_reducible apply s_drop | with_reducible apply s_retN | with_reducible apply s_cont | with_reducible apply s_break
  | with_reducible apply o_chC | ((with_reducible refine' o_chV ?hv ?_); (case hv => exact rfl)) | with_reducible apply e_un | with_reducible apply o_U | ((with_reducible refine' o_eq ?hs ?_); (case hs => exact rfl)) | ((with_reducible refine' o_ne ?hs ?_); (case hs => exact rfl))
  | ((with_reducible refine' o_ixL ?h1 ?h2 ?_); (case h1 => walk_at "sq"); (case h2 => first | exact rfl | exact atI_zero _ _)) | with_reducible apply s_fld | with_reducible apply e_make | ((with_reducible refine' k_set ?h1 ?h2 ?h3 ?h4 ?h5 ?_); (case h1 => walk_at "hl"); (case h2 => walk_at "cls"); (case h3 => walk_at "noa"); (case h4 => walk_at "ptf"); (case h5 => walk_at "lnF")) | with_reducible apply e_tup | with_reducible apply e_bm
  | with_reducible apply e_bm0 | with_reducible apply e_if | with_reducible apply e_chain | with_reducible apply s_raise | with_reducible apply g_sub | ((with_reducible refine' c_ln ?h1 ?_); (case h1 => walk_at "sq"))
  | ((with_reducible refine' c_pop0 ?h1 ?h2 ?_); (case h1 => walk_at "hl"); (case h2 => omega)) | with_reducible apply c_isBool | with_reducible apply c_isInt | with_reducible apply c_isBoolN | with_reducible apply c_isTupI | with_reducible apply c_isNonB
  | with_reducible apply c_isNonT | ((with_reducible refine' c_isList ?h1 ?_); (case h1 => walk_at "hl")) | ((with_reducible refine' c_isTup ?h1 ?_); (case h1 => walk_at "hl")) | ((with_reducible refine' c_isTupB ?h1 ?_); (case h1 => walk_at "hl")) | with_reducible apply o_isB | with_reducible apply o_notB
  | with_reducible apply e_and | with_reducible apply e_or | with_reducible apply k_bl | with_reducible apply e_xf | with_reducible apply s_augS | ((with_reducible refine' s_augV ?hv ?_); (case hv => exact rfl))
  | with_reducible apply ip_I | with_reducible apply e_lcE | ((with_reducible refine' k_xf ?h1 ?h2 ?_); (case h1 => walk_at "hl"); (case h2 => exact look_hit _ _ _)) | ((with_reducible refine' o_slL ?h1 ?_); (case h1 => walk_at "sq")) | ((with_reducible refine' k_dget ?h1 ?h2 ?_); (case h1 => walk_at "hl"); (case h2 => with_reducible assumption)) | with_reducible apply e_dget
  | with_reducible apply s_dput | with_reducible apply e_makeK | with_reducible apply g_cons | with_reducible apply g_nil | with_reducible apply c_ab | with_reducible apply c_in
  | with_reducible apply c_mx | with_reducible apply c_mn | with_reducible apply a1 | with_reducible apply a2 | with_reducible apply a3 | with_reducible apply a4
  | with_reducible apply a5 | with_reducible apply a6 | with_reducible apply a0 | with_reducible apply t_tru | with_reducible apply t_yes | ((with_reducible refine' k_truL ?h1 ?_); (case h1 => walk_at "sq")) | with_reducible refine d_nx ?_ | with_reducible refine d_rt ?_ | with_reducible refine d_bk ?_
  | with_reducible refine d_ct ?_))
local macro_rules | `(tactic| walk_at "r") => `(tactic| (repeat walk_at "r1"))
local macro_rules | `(tactic| walk_at "sel") => `(tactic| (first | with_reducible exact Sl.Sel.here | ((with_reducible refine' Sl.Sel.there ?t); (case t => walk_at "sel"))))
local macro_rules | `(tactic| walk_at "sels") => `(tactic| (first | with_reducible exact Sl.Sels.nil | ((with_reducible refine' Sl.Sels.cons ?a ?b); (case a => walk_at "sel"); (case b => walk_at "sels")) | with_reducible exact Sl.Sels.all _ | ((with_reducible refine' Sl.Sels.skip ?t); (case t => walk_at "sels"))))
local macro_rules | `(tactic| walk_at "selm") => `(tactic| ((try (simp only [])); (try simp only [List.map_append, List.map_cons, List.map_nil]); walk_at "sels"))
local macro_rules | `(tactic| walk_at "hg") => do
  let h := Lean.mkIdent `hs
  `(tactic| (first | (with_reducible assumption) | ((with_reducible refine' Sl.St.get $h ?s); (case s => walk_at "sel")) | ((with_reducible refine' Sl.St.geti $h ?s); (case s => walk_at "sel"))))
local macro_rules | `(tactic| walk_at "sg") => do
  let h := Lean.mkIdent `hs
  `(tactic| (first | (with_reducible assumption) | exact Or.inl (Or.inl (by walk_at "hg")) | (refine' Sl.sqA.U $h ?s; (case s => walk_at "sel"))))
local macro_rules | `(tactic| walk_at "le5") => `(tactic| (first | omega | (simp only [List.length_cons, List.length_nil, List.length_append, List.length_map]; omega) | (show _ ≤ _; decide) | (show _ < _; decide)))
local macro_rules | `(tactic| walk_at "km") => `(tactic| fail)
local macro_rules | `(tactic| walk_at "kf") => `(tactic| fail)
local macro_rules | `(tactic| walk_at "x1") => do
  let h := Lean.mkIdent `hs
  `(tactic| (first
  | with_reducible apply l_cons | ((with_reducible apply e_var); (case h => exact rfl)) | with_reducible apply l_nil | with_reducible apply s_seq | with_reducible apply e_c | with_reducible apply g_name
  | with_reducible apply s_asg | with_reducible apply e_call | with_reducible apply k_t | with_reducible apply e_op | with_reducible apply e_cb | with_reducible apply t_test
  | with_reducible apply s_if | with_reducible apply t_or | with_reducible apply t_and | with_reducible apply t_B | with_reducible apply s_next | with_reducible apply p_some
  | with_reducible apply p_no | with_reducible apply e_sl | with_reducible apply k_i | with_reducible apply Sl.e_lstS | with_reducible apply t_not | with_reducible apply o_I0
  | ((with_reducible refine' o_I ?hc ?_); (case hc => walk_at "ar")) | with_reducible apply e_meth | ((with_reducible refine' k_meth ?h1 ?h2 ?_); (case h1 => walk_at "hg"); (case h2 => walk_at "nol")) | walk_at "km" | with_reducible apply e_fld
  | ((with_reducible refine' k_fld ?h1 ?h2 ?h3 ?h4 ?_); (case h1 => walk_at "hg"); (case h2 => walk_at "cls"); (case h3 => walk_at "noa"); (case h4 => walk_at "lkp")) | walk_at "kf" | with_reducible apply e_not
  | with_reducible apply s_ret | ((with_reducible refine' k_ty ?h1 ?_); (case h1 => walk_at "sg")) | with_reducible apply s_drop | with_reducible apply s_retN | with_reducible apply s_cont | with_reducible apply s_break
  | with_reducible apply o_chC | ((with_reducible refine' o_chV ?hv ?_); (case hv => exact rfl)) | with_reducible apply e_un | with_reducible apply o_U | ((with_reducible refine' o_eq ?hs ?_); (case hs => exact rfl)) | ((with_reducible refine' o_ne ?hs ?_); (case hs => exact rfl))
  | ((with_reducible refine' o_ixL ?h1 ?h2 ?_); (case h1 => walk_at "sg"); (case h2 => first | exact rfl | exact atI_zero _ _)) | ((with_reducible refine' o_ixT ?h1 ?h2 ?_); (case h1 => walk_at "sg"); (case h2 => first | exact rfl | exact atI_zero _ _)) | with_reducible apply s_fld | with_reducible apply Sl.e_makeS
  | ((with_reducible refine' Sl.k_setS $h ?h1 ?h2 ?h3 ?h4 ?h5 ?_); (case h1 => walk_at "sel"); (case h2 => walk_at "cls"); (case h3 => walk_at "noa"); (case h4 => walk_at "ptf"); (case h5 => walk_at "lnF"); (clear $h; intro _ $h)) | with_reducible apply Sl.e_tupS | with_reducible apply e_bm
  | with_reducible apply e_bm0 | with_reducible apply e_if | with_reducible apply e_chain | with_reducible apply s_raise | with_reducible apply g_sub | ((with_reducible refine' c_ln ?h1 ?_); (case h1 => walk_at "sg")) | ((with_reducible refine' c_lnT ?h1 ?_); (case h1 => walk_at "sg"))
  | ((with_reducible refine' Sl.k_newL $h ?h1 ?_); (case h1 => walk_at "le5"); (clear $h; intro _ _ $h)) | ((with_reducible refine' Sl.k_newT $h ?h1 ?_); (case h1 => walk_at "le5"); (clear $h; intro _ _ $h)) | ((with_reducible refine' Sl.k_make $h ?_); (clear $h; intro _ _ _ $h))
  | ((with_reducible refine' Sl.c_appS $h ?h1 ?h2 ?_); (case h1 => walk_at "sel"); (case h2 => walk_at "le5"); (clear $h; intro _ $h)) | ((with_reducible refine' Sl.c_pop0S $h ?h1 ?h2 ?_); (case h1 => walk_at "sel"); (case h2 => walk_at "le5"); (clear $h; intro _ $h))
  | ((with_reducible refine' Sl.c_lsS $h ?h1 ?_); (case h1 => walk_at "sg"); (clear $h; intro _ _ $h)) | ((with_reducible refine' Sl.o_slLS $h ?h1 ?_); (case h1 => walk_at "sg"); (clear $h; intro _ _ $h)) | ((with_reducible refine' Sl.c_clrS $h ?h1 ?_); (case h1 => walk_at "sel"); (clear $h; intro _ $h))
  | ((with_reducible refine' Sl.o_catS $h ?h1 ?h2 ?h3 ?_); (case h1 => walk_at "hg"); (case h2 => walk_at "hg"); (case h3 => walk_at "le5"); (clear $h; intro _ _ $h)) | ((with_reducible refine' Sl.c_extS $h ?h1 ?h2 ?h3 ?_); (case h1 => walk_at "sel"); (case h2 => walk_at "hg"); (case h3 => walk_at "le5"); (clear $h; intro _ $h))
  | ((with_reducible refine' Sl.k_raise $h ?h1 ?_); (case h1 => exact okV_int ⟨by omega, by omega⟩); (clear $h; intro _ _ $h))
  | with_reducible apply c_isBool | with_reducible apply c_isInt | with_reducible apply c_isBoolN | with_reducible apply c_isTupI | with_reducible apply c_isNonB
  | with_reducible apply c_isNonT | ((with_reducible refine' c_isList ?h1 ?_); (case h1 => walk_at "hg")) | ((with_reducible refine' c_isTup ?h1 ?_); (case h1 => walk_at "hg")) | ((with_reducible refine' c_isTupB ?h1 ?_); (case h1 => walk_at "hg")) | with_reducible apply o_isB | with_reducible apply o_notB
  | with_reducible apply e_and | with_reducible apply e_or | with_reducible apply k_bl | with_reducible apply e_xf | with_reducible apply s_augS | ((with_reducible refine' s_augV ?hv ?_); (case hv => exact rfl)) | with_reducible apply Sl.s_aug
  | with_reducible apply ip_I | with_reducible apply e_lcE | with_reducible apply e_lcL | with_reducible apply f_lst | with_reducible apply e_lcF | with_reducible apply f_rng1 | ((with_reducible refine' k_xf ?h1 ?h2 ?_); (case h1 => walk_at "hg"); (case h2 => exact look_hit _ _ _)) | ((with_reducible refine' k_dget ?h1 ?h2 ?_); (case h1 => walk_at "hg"); (case h2 => with_reducible assumption)) | with_reducible apply e_dget
  | with_reducible apply s_dput | with_reducible apply Sl.e_makeKS | with_reducible apply g_cons | with_reducible apply g_nil | ((with_reducible refine' g_tup ?h1 ?h2 ?_); (case h1 => walk_at "sg"); (case h2 => exact rfl)) | with_reducible apply c_ab | with_reducible apply c_in
  | with_reducible apply c_mx | with_reducible apply c_mn | with_reducible apply a1 | with_reducible apply a2 | with_reducible apply a3 | with_reducible apply a4
  | with_reducible apply a5 | with_reducible apply a6 | with_reducible apply a0 | with_reducible apply t_tru | with_reducible apply t_yes | ((with_reducible refine' k_truL ?h1 ?_); (case h1 => walk_at "sg")) | with_reducible refine d_nx ?_ | with_reducible refine d_rt ?_ | with_reducible refine d_bk ?_
  | with_reducible refine d_ct ?_))
local macro_rules | `(tactic| walk_at "x") => `(tactic| (repeat walk_at "x1"))
local macro_rules | `(tactic| walk_at "km") => do let h := Lean.mkIdent `hs; `(tactic| ((with_reducible refine' km_Ring $h ?s ?m ?_); (case s => walk_at "sel"); (case m => intros; walk_at "nol")))
local macro_rules | `(tactic| walk_at "km") => do let h := Lean.mkIdent `hs; `(tactic| ((with_reducible refine' km_SlotRing $h ?s ?m ?_); (case s => walk_at "sel"); (case m => intros; walk_at "nol")))
section
variable {P : Program} {w : World} {K : PySem.W.Frag} {mg : Str → Option Value} {base : Heap} {a : Ads}
/-! ### pools of buffers -/
def ov : Option Int → V
  | none => .non
  | some z => .int z
abbrev nv (b : Nat) : V := .int (b : Int)
def getO (os : List (Option Int)) (z : Int) : Option Int := if 0 ≤ z then (os[z.toNat]?).getD none else none
def heldF (os : List (Option Int)) (z : Int) (i : Nat) : Option V := if os[i]? = some (some z) then some (.int i) else none
def heldL (os : List (Option Int)) (z : Int) : List V := (List.range os.length).filterMap (heldF os z)
def poorL (os : List (Option Int)) (qs : List Int) : List Int := qs.filter fun q => (heldL os q).isEmpty
def poorF (os : List (Option Int)) (x : V) : Option V := match x with | .int y => if (heldL os y).isEmpty = true then some (.int y) else none | _ => none
theorem poorF_t {os : List (Option Int)} {y : Int} (h : (heldL os y).isEmpty = true) : poorF os (.int y) = some (.int y) := if_pos h
theorem poorF_f {os : List (Option Int)} {y : Int} (h : (heldL os y).isEmpty = false) : poorF os (.int y) = none := if_neg (by rw [h]; exact Bool.false_ne_true)
theorem poor_map (os : List (Option Int)) : ∀ qs : List Int, (qs.map V.int).filterMap (poorF os) = (poorL os qs).map V.int
  | [] => rfl
  | y :: r => by
    cases hy : (heldL os y).isEmpty with
    | true => rw [List.map_cons, List.filterMap_cons_some (poorF_t hy), poor_map os r, poorL, poorL, List.filter_cons_of_pos (p := fun q => (heldL os q).isEmpty) hy, List.map_cons]
    | false => rw [List.map_cons, List.filterMap_cons_none (poorF_f hy), poor_map os r, poorL, poorL, List.filter_cons_of_neg (p := fun q => (heldL os q).isEmpty) (by rw [hy]; exact Bool.false_ne_true)]
def mayB (os : List (Option Int)) (fr : List Nat) (z : Int) (qs : List Int) : Bool := !fr.isEmpty && ((heldL os z).isEmpty || decide ((poorL os qs).length + 1 ≤ fr.length))
structure PoolAt (C CR : Addr) (H : Hp) (p ow pr l : Addr) (n : Nat) (os : List (Option Int)) (fr : List Nat) : Prop where
  ob : ∃ dx, H p = some (.ins C dx (F_Pool (.ref ow) (.ref pr)))
  ol : H ow = some (.lst (os.map ov))
  rg : ∃ wr tk, RingAt CR H pr l n wr tk (fr.map nv)
  ln : os.length = n
  nd : fr.Nodup
  fi : ∀ b, b < n → (b ∈ fr ↔ os[b]? = some none)
  lt : ∀ b ∈ fr, b < n
section
variable {C CR p ow pr l : Addr} {H H1 : Hp} {n : Nat} {os : List (Option Int)} {fr : List Nat} {ft : List Addr}
theorem PoolAt.fp (s : PoolAt C CR H p ow pr l n os fr) (f : Fp ft H H1) (n0 : p ∉ ft) (n1 : ow ∉ ft) (n2 : pr ∉ ft) (n3 : l ∉ ft) : PoolAt C CR H1 p ow pr l n os fr := by
  obtain ⟨⟨dx, z⟩, z1, ⟨wr, tk, R⟩, r1, r2, r3, r4⟩ := s
  exact ⟨⟨dx, f _ _ z n0⟩, f _ _ z1 n1, ⟨wr, tk, R.fp f n2 n3⟩, r1, r2, r3, r4⟩
theorem PoolAt.inn (s : PoolAt C CR H p ow pr l n os fr) : Inn H [p, ow, pr, l] := by
  obtain ⟨⟨dx, z⟩, z1, ⟨wr, tk, R⟩, r⟩ := s
  exact .cons z (.cons z1 R.inn)
theorem PoolAt.le (s : PoolAt C CR H p ow pr l n os fr) : fr.length ≤ n ∧ 1 ≤ n ∧ n ≤ 256 := by
  obtain ⟨wr, tk, R⟩ := s.rg
  have := R.ln
  rw [List.length_map] at this
  exact ⟨this, R.n1, R.nz⟩
end
theorem flat_ov (os : List (Option Int)) : ∀ x ∈ os.map ov, flat x = true := fun x hx => by
  obtain ⟨o, _, rfl⟩ := List.mem_map.mp hx
  cases o <;> rfl
theorem heldF_int {os : List (Option Int)} {z : Int} {i : Nat} {y : V} (h : heldF os z i = some y) : y = .int i := by
  unfold heldF at h
  split at h
  · exact (Option.some.inj h).symm
  · cases h
theorem flat_held (os : List (Option Int)) (z : Int) : ∀ x ∈ heldL os z, flat x = true := fun x hx => by
  obtain ⟨i, _, h⟩ := List.mem_filterMap.mp hx
  rw [heldF_int h]; rfl
theorem held_le (os : List (Option Int)) (z : Int) : (heldL os z).length ≤ os.length := Nat.le_trans (List.length_filterMap_le _ _) (by rw [List.length_range]; exact Nat.le_refl _)
/-- a list that has no double and lies in the first n numbers -/
theorem nd_len {fr : List Nat} {n : Nat} (nd : fr.Nodup) (lt : ∀ b ∈ fr, b < n) : fr.length ≤ n := by
  have := List.Nodup.length_le_of_subset nd (l₂ := List.range n) fun b hb => List.mem_range.mpr (lt b hb)
  rwa [List.length_range] at this
theorem nd_len1 {fr : List Nat} {n b : Nat} (nd : fr.Nodup) (lt : ∀ b ∈ fr, b < n) (hb : b < n) (nb : b ∉ fr) : fr.length < n :=
  nd_len (fr := b :: fr) (List.nodup_cons.mpr ⟨nb, nd⟩) fun x hx => (List.mem_cons.mp hx).elim (fun e => e ▸ hb) (lt x)
def sp_Pool_init (K : PySem.W.Frag) (a : Ads) : Sp := A2 fun s c H Q _ => ∃ (p dx : Addr) (n : Nat), s = .ref p ∧ c = .int n ∧ 1 ≤ n ∧ n ≤ 256 ∧ H p = some (.ins a.C_Pool dx []) ∧
  ∀ ow pr l H1, H ow = none → H pr = none → H l = none → [ow, pr, l].Nodup → PoolAt a.C_Pool a.C_Ring H1 p ow pr l n (List.replicate n none) (List.range n) → Fp [p] H H1 → Q .non H1
def sp_Pool_free (K : PySem.W.Frag) (a : Ads) : Sp := A1 fun s H Q _ => ∃ (p ow pr l : Addr) (n : Nat) (os : List (Option Int)) (fr : List Nat), s = .ref p ∧ PoolAt a.C_Pool a.C_Ring H p ow pr l n os fr ∧ Q (.int fr.length) H
def sp_Pool_exists (K : PySem.W.Frag) (a : Ads) : Sp := A2 fun s v H Q _ => ∃ (p ow pr l : Addr) (n : Nat) (os : List (Option Int)) (fr : List Nat) (z : Int), s = .ref p ∧ v = .int z ∧ PoolAt a.C_Pool a.C_Ring H p ow pr l n os fr ∧ Q (.bl (decide (0 ≤ z ∧ z < n))) H
def sp_Pool_owner (K : PySem.W.Frag) (a : Ads) : Sp := A2 fun s v H Q _ => ∃ (p ow pr l : Addr) (n : Nat) (os : List (Option Int)) (fr : List Nat) (z : Int), s = .ref p ∧ v = .int z ∧ PoolAt a.C_Pool a.C_Ring H p ow pr l n os fr ∧ Q (ov (getO os z)) H
def sp_Pool_held (K : PySem.W.Frag) (a : Ads) : Sp := A2 fun s v H Q _ => ∃ (p ow pr l : Addr) (n : Nat) (os : List (Option Int)) (fr : List Nat) (z : Int), s = .ref p ∧ v = .int z ∧ PoolAt a.C_Pool a.C_Ring H p ow pr l n os fr ∧
  ∀ q H1, H q = none → H1 q = some (.lst (heldL os z)) → Fp [] H H1 → Q (.ref q) H1
def sp_Pool_acquire (K : PySem.W.Frag) (a : Ads) : Sp := A2 fun s v H Q E => ∃ (p ow pr l : Addr) (n : Nat) (os : List (Option Int)) (fr : List Nat) (z : Int), s = .ref p ∧ v = .int z ∧ PoolAt a.C_Pool a.C_Ring H p ow pr l n os fr ∧ [p, ow, pr, l].Nodup ∧
  (fr = [] → ∀ d, H d = none → E (.ref a.C_PoolError) (some d) (upd H d (.xd [("buffer", .int (-1))]))) ∧
  (∀ b r, fr = b :: r → ∀ H1, PoolAt a.C_Pool a.C_Ring H1 p ow pr l n (os.set b (some z)) r → Fp [ow, pr, l] H H1 → Q (.int b) H1)
def sp_Pool_release (K : PySem.W.Frag) (a : Ads) : Sp := A2 fun s v H Q E => ∃ (p ow pr l : Addr) (n : Nat) (os : List (Option Int)) (fr : List Nat) (z : Int), s = .ref p ∧ v = .int z ∧ (-1000000 ≤ z ∧ z ≤ 1000000) ∧ PoolAt a.C_Pool a.C_Ring H p ow pr l n os fr ∧ [p, ow, pr, l].Nodup ∧
  (getO os z = none → ∀ d, H d = none → E (.ref a.C_PoolError) (some d) (upd H d (.xd [("buffer", .int z)]))) ∧
  (∀ y, getO os z = some y → ∀ H1, PoolAt a.C_Pool a.C_Ring H1 p ow pr l n (os.set z.toNat none) (fr ++ [z.toNat]) → Fp [ow, pr, l] H H1 → Q .non H1)
def sp_Pool_may_acquire (K : PySem.W.Frag) (a : Ads) : Sp := A3 fun s v u H Q _ => ∃ (p ow pr l q : Addr) (n : Nat) (os : List (Option Int)) (fr : List Nat) (z : Int) (qs : List Int), s = .ref p ∧ v = .int z ∧ u = .ref q ∧ PoolAt a.C_Pool a.C_Ring H p ow pr l n os fr ∧ H q = some (.lst (qs.map V.int)) ∧ qs.length ≤ 1000 ∧
  ∀ H1, Fp [] H H1 → Q (.bl (mayB os fr z qs)) H1
theorem ok_Pool_init (T : Txt P w K mg base a) : FnOk P w K mg base (L2.CX P w) 4 a.f_Pool_init a.fd_Pool_init ["self", "many"] (sp_Pool_init K a) := by
  have G_Ring_init := ok_Ring_init T
  have G_Ring_put := ok_Ring_put T
  refine T.F_Pool_init.okX sc_Pool_init (fun vs H Q E h => A2.len h) (fun cdv A outer s H vs Q E hr h => ?_)
  have hu := hu_of hr
  obtain ⟨v_self, v_many, rfl, h⟩ := h
  refine ⟨_, (pss_cons (ps_fld (pv 0) (pe_op op_rep (pe_lst (pa_cons pe_non pa_nil)) (pv 1)) rfl)
    (pss_cons (ps_fld (pv 0) (pe_makeS T.mk_Ring G_Ring_init (hr.mono (by decide)) rfl T.g_Ring T.b_Ring_init (fun σ => passAt (takes_of rfl rfl rfl rfl) σ) (pa_cons (pv 1) pa_nil)) rfl)
    (pss_one (ps_for (passes_of rfl) rfl (pi_range1 rfl T.g_range (pa_cons (pv 1) pa_nil)) (pg_name (i := 2) sc_Pool_init.nd rfl (by first | exact Or.inl rfl | exact Or.inr rfl)) (pss_one (ps_expr (pe_methS (pe_fld (pv 0) rfl) T.cl_Ring T.m_Ring_put G_Ring_put (hr.mono (by decide)) T.b_Ring_put (fun σ => passAt (takes_of rfl rfl rfl rfl) σ) (pa_cons (pv 2) pa_nil)))))))), ?_⟩
  obtain ⟨p, dx, n, rfl, rfl, n1, nz, hp, k⟩ := h
  walk_at "r"
  refine ⟨sz (by decide), fun q hq => ?_⟩
  walk_at "r"
  refine o_rep (K := K) upd_same (by omega) (by simp; omega) (by omega) fun ow how => ?_
  have ef : (List.replicate (n : Int).toNat [V.non]).flatten = (List.replicate n none).map ov := by
    rw [Int.toNat_natCast, List.flatten_replicate_singleton, List.map_replicate]; rfl
  rw [ef]
  have f1 : Fp [] H (upd (upd H q (.lst [.non])) ow (.lst ((List.replicate n none).map ov))) := (Fp.new hq).trans (Fp.new how)
  have how0 : H ow = none := (Fp.new (fp := []) (o := .lst [.non]) hq).free (by simp) how
  have g1 : upd (upd H q (.lst [.non])) ow (.lst ((List.replicate n none).map ov)) ow = some (.lst ((List.replicate n none).map ov)) := upd_same
  have hp1 := f1 _ _ hp (by simp)
  generalize upd (upd H q _) ow _ = H1 at f1 g1 hp1 ⊢
  have npo : p ≠ ow := ne_of hp1 g1 (fun z => by cases z)
  walk_at "r"
  intro pr dr npr ndr ne
  have f2 : Fp [p] H (upd H1 p (.ins a.C_Pool dx (putF "_owners" (.ref ow) []))) := (f1.mono (by simp)).trans (Fp.at_ (by simp))
  have hp2 : upd H1 p (.ins a.C_Pool dx (putF "_owners" (.ref ow) [])) p = some (.ins a.C_Pool dx (putF "_owners" (.ref ow) [])) := upd_same
  have g2 : upd H1 p (.ins a.C_Pool dx (putF "_owners" (.ref ow) [])) ow = some (.lst ((List.replicate n none).map ov)) := by rw [upd_ne npo.symm]; exact g1
  generalize upd H1 p (.ins a.C_Pool dx (putF "_owners" (.ref ow) [])) = H2 at f2 hp2 g2 npr ndr ⊢
  have f3 : Fp [] H2 (upd (upd H2 dr (.own pr)) pr (.ins a.C_Ring dr [])) := (Fp.new ndr).trans (Fp.new (by rw [upd_ne ne.symm]; exact npr))
  have hp3 := f3 _ _ hp2 (by simp)
  have g3 := f3 _ _ g2 (by simp)
  have nppr := ne_of_none hp2 npr
  have nopr := ne_of_none g2 npr
  refine a2 ⟨pr, dr, n, rfl, rfl, n1, nz, upd_same, fun l H4 hl R f4 => ⟨rfl, ?_⟩⟩
  have hl2 : H2 l = none := f3.free (by simp) hl
  have npl := ne_of_none hp2 hl2
  have nol := ne_of_none g2 hl2
  have nprl := R.ne
  have f4' : Fp [p] H H4 := f2.trans (Fp.drop (fp := [pr]) ((f3.mono (by simp)).trans f4) fun z hz => by rcases List.mem_singleton.mp hz with rfl; exact .inr npr)
  have hp4 := f4 _ _ hp3 (by simp [nppr])
  have g4 := f4 _ _ g3 (by simp [nopr])
  have hpr0 := f2.free (by simp [nppr.symm]) npr
  have hl0 := f2.free (by simp [npl.symm]) hl2
  clear f1 f2 f3 f4 hp1 hp2 hp3 g1 g2 g3
  walk_at "r"
  have fA : Fp [p] H4 (upd H4 p (.ins a.C_Pool dx (F_Pool (.ref ow) (.ref pr)))) := Fp.at_ (by simp)
  have R5 := R.fp fA (by simp [nppr.symm]) (by simp [npl.symm])
  have f5 : Fp [p] H (upd H4 p (.ins a.C_Pool dx (F_Pool (.ref ow) (.ref pr)))) := f4'.trans (Fp.at_ (by simp))
  have hp5 : upd H4 p (.ins a.C_Pool dx (F_Pool (.ref ow) (.ref pr))) p = some (.ins a.C_Pool dx (F_Pool (.ref ow) (.ref pr))) := upd_same
  have g5 : upd H4 p (.ins a.C_Pool dx (F_Pool (.ref ow) (.ref pr))) ow = some (.lst ((List.replicate n none).map ov)) := by rw [upd_ne npo.symm]; exact g4
  have eF : putF "_free" (.ref pr) (putF "_owners" (.ref ow) []) = F_Pool (.ref ow) (.ref pr) := F_Pool_init
  rw [eF]
  generalize upd H4 p (.ins a.C_Pool dx (F_Pool (.ref ow) (.ref pr))) = H5 at R5 f5 hp5 g5 ⊢
  refine f_rng1 ?_
  walk_at "r"
  refine k_rng (fun i σ H' => ∃ u wr tk, σ = [some (.ref p), some (.int n), u] ∧ RingAt a.C_Ring H' pr l n wr tk ((List.range i).map nv) ∧ Fp [pr, l] H5 H') (by omega) (by omega) ?_ ?_ ?_
  · exact ⟨none, 0, 0, rfl, R5, Fp.refl _ _⟩
  · rintro i σ H' hi ⟨u, wr, tk, rfl, Ri, fi⟩
    have hpi := fi _ _ hp5 (by simp [nppr, npl])
    obtain ⟨⟨dr2, hr2⟩, _⟩ := id Ri
    walk_at "r"
    refine a2 ⟨pr, l, n, wr, tk, _, rfl, Ri, fun e => ?_, fun _ H6 R6 f6 => ?_⟩
    · rw [List.length_map, List.length_range] at e; omega
    · walk_at "r"
      exact ⟨_, _, _, rfl, by rw [List.range_succ, List.map_append]; exact R6, fi.trans f6⟩
  · rintro σ H' ⟨u, wr, tk, rfl, Ri, fi⟩
    walk_at "r"
    rw [Int.toNat_natCast] at Ri
    refine k ow pr l _ how0 hpr0 hl0 (by simp [nopr, nol, nprl]) ⟨⟨dx, fi _ _ hp5 (by simp [nppr, npl])⟩, fi _ _ g5 (by simp [nopr, nol]), ⟨_, _, Ri⟩, by simp, List.nodup_range, fun b hb => ?_, fun b hb => List.mem_range.mp hb⟩ ?_
    · rw [List.mem_range, List.getElem?_replicate, if_pos hb]; simp [hb]
    · exact Fp.drop (fp := [p, pr, l]) ((f5.mono (by simp)).trans (fi.mono (by simp))) fun z hz => by
        simp only [List.mem_cons, List.not_mem_nil, or_false] at hz
        rcases hz with rfl | rfl | rfl
        · exact .inl (by simp)
        · exact .inr hpr0
        · exact .inr hl0
theorem ok_Pool_free (T : Txt P w K mg base a) : FnOk P w K mg base (L2.CX P w) 2 a.f_Pool_free a.fd_Pool_free ["self"] (sp_Pool_free K a) := by
  have G_Ring_held := ok_Ring_held T
  refine T.F_Pool_free.okX sc_Pool_free (fun vs H Q E h => A1.len h) (fun cdv A outer s H vs Q E hr h => ?_)
  have hu := hu_of hr
  obtain ⟨v_self, rfl, h⟩ := h
  refine ⟨_, (pss_one (ps_ret (pe_meth0S (pe_fld (pv 0) rfl) T.cl_Ring T.m_Ring_held G_Ring_held (hr.mono (by decide)) T.b_Ring_held (fun σ => passAt (takes_of rfl rfl rfl rfl) σ)))), ?_⟩
  obtain ⟨p, ow, pr, l, n, os, fr, rfl, B, k⟩ := h
  obtain ⟨⟨dx, hp⟩, hol, ⟨wr, tk, R⟩, _⟩ := id B
  obtain ⟨⟨dr, ho⟩, _⟩ := id R
  walk_at "r"
  refine a1 ⟨pr, l, n, wr, tk, _, rfl, R, ?_⟩
  rw [List.length_map]
  exact k
theorem ok_Pool_exists (T : Txt P w K mg base a) : FnOk P w K mg base (L2.CX P w) 1 a.f_Pool_exists a.fd_Pool_exists ["self", "buffer"] (sp_Pool_exists K a) := by
  refine T.F_Pool_exists.okX sc_Pool_exists (fun vs H Q E h => A2.len h) (fun cdv A outer s H vs Q E hr h => ?_)
  have hu := hu_of hr
  obtain ⟨v_self, v_buffer, rfl, h⟩ := h
  refine ⟨_, (pss_one (ps_ret (pe_chain op_le op_lt pe_int (pv 1) (pe_callB call_ln (by rfl) T.g_len (by decide +kernel) (pa_cons (pe_fld (pv 0) rfl) pa_nil))))), ?_⟩
  obtain ⟨p, ow, pr, l, n, os, fr, z, rfl, rfl, B, k⟩ := h
  obtain ⟨⟨dx, hp⟩, hol, ⟨wr, tk, R⟩, hln, _⟩ := id B
  walk_at "r"
  refine if_d (fun c => ?_) (fun c => ?_)
  · walk_at "r"
    rw [List.length_map, hln, show decide (z < (n : Int)) = decide (0 ≤ z ∧ z < n) from decide_eq_decide.mpr ⟨fun h => ⟨c, h⟩, fun h => h.2⟩]
    exact k
  · rw [decide_eq_false (fun h => c h.1)] at k
    exact k
theorem ok_Pool_owner (T : Txt P w K mg base a) : FnOk P w K mg base (L2.CX P w) 2 a.f_Pool_owner a.fd_Pool_owner ["self", "buffer"] (sp_Pool_owner K a) := by
  have G_Pool_exists := ok_Pool_exists T
  refine T.F_Pool_owner.okX sc_Pool_owner (fun vs H Q E h => A2.len h) (fun cdv A outer s H vs Q E hr h => ?_)
  have hu := hu_of hr
  obtain ⟨v_self, v_buffer, rfl, h⟩ := h
  refine ⟨_, (pss_cons (ps_if (pt_not (pt_val (pe_methS (pv 0) T.cl_Pool T.m_Pool_exists G_Pool_exists (hr.mono (by decide)) T.b_Pool_exists (fun σ => passAt (takes_of rfl rfl rfl rfl) σ) (pa_cons (pv 1) pa_nil)))) (pss_one (ps_ret pe_non)) pss_nil)
    (pss_one (ps_ret (pe_ix ix_list (pe_fld (pv 0) rfl) (pv 1) (fun _ _ => rfl))))), ?_⟩
  obtain ⟨p, ow, pr, l, n, os, fr, z, rfl, rfl, B, k⟩ := h
  obtain ⟨⟨dx, hp⟩, hol, ⟨wr, tk, R⟩, hln, _⟩ := id B
  walk_at "r"
  refine a2 ⟨p, ow, pr, l, n, os, fr, z, rfl, rfl, B, ?_⟩
  walk_at "r"
  by_cases c : 0 ≤ z ∧ z < n
  · rw [decide_eq_true c]
    refine iteF ?_
    walk_at "r"
    obtain ⟨m, rfl⟩ : ∃ m : Nat, z = m := ⟨z.toNat, by omega⟩
    have hm : m < os.length := by omega
    have e1 : os[m]? = some os[m] := List.getElem?_eq_getElem hm
    refine o_ixL (Or.inl (Or.inl hol)) (atI_nat (by rw [List.getElem?_map, e1]; rfl)) ?_
    walk_at "r"
    rw [getO, if_pos (by omega), Int.toNat_natCast, e1] at k
    exact k
  · rw [decide_eq_false c]
    refine iteT ?_
    walk_at "r"
    have e : getO os z = none := by
      unfold getO
      split
      · rw [List.getElem?_eq_none (by omega)]; rfl
      · rfl
    rw [e] at k
    exact k
theorem ok_Pool_held (T : Txt P w K mg base a) : FnOk P w K mg base (L2.CX P w) 1 a.f_Pool_held a.fd_Pool_held ["self", "owner"] (sp_Pool_held K a) := by
  refine T.F_Pool_held.okX sc_Pool_held (fun vs H Q E h => A2.len h) (fun cdv A outer s H vs Q E hr h => ?_)
  have hu := hu_of hr
  obtain ⟨v_self, v_owner, rfl, h⟩ := h
  refine ⟨_, (pss_one (ps_ret (pe_lc (own := [("buffer", 2), ("holder", 3)]) (g := (gTup K 2 (gCons (gName 2) (gCons (gName 3) gNil)))) (tt := (tTest (tOp rEq (tVar 3) (tVar 1)))) (te := (tVar 2)) rfl sc_Pool_held.nd (pi_enum rfl T.g_enumerate (pa_cons (pe_fld (pv 0) rfl) pa_nil)) (blkOk_by (N := ["self", "owner", "buffer", "holder"]) (sc := defScope s_Pool_held) (own := [("buffer", 2), ("holder", 3)]) (by decide +kernel)) (fun _ _ _ _ _ => by exact (pg_tup rfl (pgs_cons (pg_name (i := 2) sc_Pool_held.nd rfl (by first | exact Or.inl rfl | exact Or.inr rfl)) (pgs_cons (pg_name (i := 3) sc_Pool_held.nd rfl (by first | exact Or.inl rfl | exact Or.inr rfl)) pgs_nil)))) (fun _ _ _ _ _ => by exact (pts_one (pt_cmpR op_eq (pv 3) (pv 1) (nomark _)))) (fun _ _ _ _ _ => by exact (pv 2))))), ?_⟩
  obtain ⟨p, ow, pr, l, n, os, fr, z, rfl, rfl, B, k⟩ := h
  obtain ⟨⟨dx, hp⟩, hol, ⟨wr, tk, R⟩, hln, _⟩ := id B
  have hle := B.le
  walk_at "r"
  refine k_lcE (xs := os.map ov) (heldF os z) (Or.inl (Or.inl hol)) (by rw [List.length_map]; omega) (fun E2 T i x H' R N hE hx hT hacc F kR kN => ?_) fun E2 H' hE hacc F => ?_
  · obtain ⟨o, e1, rfl⟩ : ∃ o, os[i]? = some o ∧ ov o = x := by rw [List.getElem?_map] at hx; simpa using hx
    refine g_tup (Or.inl (Or.inl hT)) rfl ?_
    walk_at "r"
    refine ⟨rfl, ?_⟩
    walk_at "r"
    refine o_eq (by cases o <;> rfl) ?_
    walk_at "r"
    refine if_d (fun c => ?_) (fun c => ?_)
    · walk_at "r"
      have eo : o = some z := by cases o with
        | none => cases c
        | some y => rw [V.int.inj c]
      exact kR _ _ (by rw [heldF, e1, eo, if_pos rfl]) (Fp.refl _ _)
    · exact kN (by rw [heldF, e1, if_neg (fun e => c (by rw [Option.some.inj e]; rfl))]) _ (Fp.refl _ _)
  · rw [List.length_map] at hacc
    exact k E2 _ hE hacc F
theorem ok_Pool_acquire (T : Txt P w K mg base a) : FnOk P w K mg base (L2.CX P w) 5 a.f_Pool_acquire a.fd_Pool_acquire ["self", "owner"] (sp_Pool_acquire K a) := by
  have G_Pool_free := ok_Pool_free T
  have G_Ring_take := ok_Ring_take T
  refine T.F_Pool_acquire.okX sc_Pool_acquire (fun vs H Q E h => A2.len h) (fun cdv A outer s H vs Q E hr h => ?_)
  have hu := hu_of hr
  obtain ⟨v_self, v_owner, rfl, h⟩ := h
  refine ⟨_, (pss_cons (ps_if (pt_cmpR op_eq (pe_meth0S (pv 0) T.cl_Pool T.m_Pool_free G_Pool_free (hr.mono (by decide)) T.b_Pool_free (fun σ => passAt (takes_of rfl rfl rfl rfl) σ)) pe_int (nomark _)) (pss_one (ps_raiseE rfl T.e_PoolError (hr.mono (by decide)) (takes_of rfl rfl rfl rfl) rfl (pe_un un_neg pe_int))) pss_nil)
    (pss_cons (ps_set (i := 2) sc_Pool_acquire.nd rfl (by first | exact Or.inl rfl | exact Or.inr rfl) (pe_meth0S (pe_fld (pv 0) rfl) T.cl_Ring T.m_Ring_take G_Ring_take (hr.mono (by decide)) T.b_Ring_take (fun σ => passAt (takes_of rfl rfl rfl rfl) σ)))
    (pss_cons (ps_asg (pv 1) (pg_sub (pe_fld (pv 0) rfl) (pv 2) set_list))
    (pss_one (ps_ret (pv 2)))))), ?_⟩
  obtain ⟨p, ow, pr, l, n, os, fr, z, rfl, rfl, B, nd, kf, kt⟩ := h
  obtain ⟨⟨dx, hp⟩, hol, ⟨wr, tk, R⟩, hln, hnd, hfi, hlt⟩ := id B
  obtain ⟨⟨dr, ho⟩, _⟩ := id R
  have nd := nd
  simp only [List.nodup_cons, List.mem_cons, List.not_mem_nil, or_false, not_or, List.append_nil, List.cons_append, List.nil_append] at nd
  obtain ⟨⟨n_p_ow, n_p_pr, n_p_l⟩, ⟨n_ow_pr, n_ow_l⟩, n_pr_l, _⟩ := nd
  walk_at "r"
  refine a1 ⟨p, ow, pr, l, n, os, fr, rfl, B, ?_⟩
  walk_at "r"
  cases hfr : fr with
  | nil =>
    refine if_dT rfl ?_
    walk_at "r"
    exact ⟨okV_int ⟨by omega, by omega⟩, fun d hd => kf hfr d hd⟩
  | cons b r =>
    refine if_dF (by simp; omega) ?_
    walk_at "r"
    rw [hfr] at R hnd hfi hlt
    refine a1 ⟨pr, l, n, wr, tk, _, rfl, R, (fun e => by cases e), fun x ys e H1 R1 f1 => ?_⟩
    obtain ⟨rfl, rfl⟩ := List.cons.inj e
    have hp1 := f1 _ _ hp (by walk_at "nin")
    have ol1 := f1 _ _ hol (by walk_at "nin")
    have hb := hlt b List.mem_cons_self
    obtain ⟨nb, ndr⟩ := List.nodup_cons.mp hnd
    walk_at "r"
    refine c_setL (j := b) ol1 rfl (by rw [List.length_map]; omega) ?_
    have f2 : Fp [ow] H1 (upd H1 ow (.lst ((os.map ov).set b (.int z)))) := Fp.at_ (by simp)
    have o2 : upd H1 ow (.lst ((os.map ov).set b (.int z))) ow = some (.lst ((os.set b (some z)).map ov)) := by rw [upd_same, List.map_set]; rfl
    generalize upd H1 ow _ = H2 at f2 o2 ⊢
    walk_at "r"
    refine kt b r hfr _ ⟨⟨dx, f2 _ _ hp1 (by walk_at "nin")⟩, o2, ⟨_, _, R1.fp f2 (by walk_at "nin") (by walk_at "nin")⟩, by rw [List.length_set]; exact hln, ndr, fun c hc => ?_, fun c hc => hlt c (List.mem_cons_of_mem _ hc)⟩ ((f1.mono (by simp)).trans (f2.mono (by simp)))
    by_cases e : c = b
    · subst e
      rw [List.getElem?_set_self (by omega)]
      exact ⟨fun z => absurd z nb, fun z => by cases z⟩
    · rw [List.getElem?_set_ne (fun z => e z.symm), ← hfi c hc, List.mem_cons]
      exact ⟨.inr, fun z => z.elim (fun y => absurd y e) id⟩
theorem ok_Pool_release (T : Txt P w K mg base a) : FnOk P w K mg base (L2.CX P w) 4 a.f_Pool_release a.fd_Pool_release ["self", "buffer"] (sp_Pool_release K a) := by
  have G_Pool_owner := ok_Pool_owner T
  have G_Ring_put := ok_Ring_put T
  refine T.F_Pool_release.okX sc_Pool_release (fun vs H Q E h => A2.len h) (fun cdv A outer s H vs Q E hr h => ?_)
  have hu := hu_of hr
  obtain ⟨v_self, v_buffer, rfl, h⟩ := h
  refine ⟨_, (pss_cons (ps_if (pt_cmpR op_isN (pe_methS (pv 0) T.cl_Pool T.m_Pool_owner G_Pool_owner (hr.mono (by decide)) T.b_Pool_owner (fun σ => passAt (takes_of rfl rfl rfl rfl) σ) (pa_cons (pv 1) pa_nil)) pe_non (nomark _)) (pss_one (ps_raiseE rfl T.e_PoolError (hr.mono (by decide)) (takes_of rfl rfl rfl rfl) rfl (pv 1))) pss_nil)
    (pss_cons (ps_asg pe_non (pg_sub (pe_fld (pv 0) rfl) (pv 1) set_list))
    (pss_one (ps_expr (pe_methS (pe_fld (pv 0) rfl) T.cl_Ring T.m_Ring_put G_Ring_put (hr.mono (by decide)) T.b_Ring_put (fun σ => passAt (takes_of rfl rfl rfl rfl) σ) (pa_cons (pv 1) pa_nil)))))), ?_⟩
  obtain ⟨p, ow, pr, l, n, os, fr, z, rfl, rfl, ⟨hz1, hz2⟩, B, nd, kf, kt⟩ := h
  obtain ⟨⟨dx, hp⟩, hol, ⟨wr, tk, R⟩, hln, hnd, hfi, hlt⟩ := id B
  obtain ⟨⟨dr, ho⟩, _⟩ := id R
  have nd := nd
  simp only [List.nodup_cons, List.mem_cons, List.not_mem_nil, or_false, not_or, List.append_nil, List.cons_append, List.nil_append] at nd
  obtain ⟨⟨n_p_ow, n_p_pr, n_p_l⟩, ⟨n_ow_pr, n_ow_l⟩, n_pr_l, _⟩ := nd
  walk_at "r"
  refine a2 ⟨p, ow, pr, l, n, os, fr, z, rfl, rfl, B, ?_⟩
  walk_at "r"
  refine ⟨rfl, ?_⟩
  walk_at "r"
  cases hg : getO os z with
  | none =>
    refine if_dT rfl ?_
    walk_at "r"
    exact ⟨okV_int ⟨by omega, by omega⟩, fun d hd => kf hg d hd⟩
  | some y =>
    refine if_dF (fun e => by cases e) ?_
    have hz0 : 0 ≤ z := by
      unfold getO at hg
      split at hg
      · assumption
      · cases hg
    obtain ⟨b, rfl⟩ : ∃ b : Nat, z = b := ⟨z.toNat, by omega⟩
    have hg2 : os[b]? = some (some y) := by
      unfold getO at hg
      rw [if_pos hz0, Int.toNat_natCast] at hg
      cases h : os[b]? with
      | none => rw [h] at hg; cases hg
      | some o => rw [h] at hg; exact congrArg some hg
    have hb : b < n := by rw [← hln]; exact (List.getElem?_eq_some_iff.mp hg2).1
    have nb : b ∉ fr := fun z => by have := (hfi b hb).mp z; rw [hg2] at this; cases this
    have hfl := nd_len1 hnd hlt hb nb
    walk_at "r"
    refine c_setL (j := b) hol rfl (by rw [List.length_map]; omega) ?_
    have f2 : Fp [ow] H (upd H ow (.lst ((os.map ov).set b .non))) := Fp.at_ (by simp)
    have o2 : upd H ow (.lst ((os.map ov).set b .non)) ow = some (.lst ((os.set b none).map ov)) := by rw [upd_same, List.map_set]; rfl
    have R2 := R.fp f2 (by walk_at "nin") (by walk_at "nin")
    have hp2 := f2 _ _ hp (by walk_at "nin")
    have hr2 := f2 _ _ ho (by walk_at "nin")
    generalize upd H ow _ = H2 at f2 o2 R2 hp2 hr2 ⊢
    walk_at "r"
    refine a2 ⟨pr, l, n, wr, tk, _, rfl, R2, (fun e => by rw [List.length_map] at e; omega), fun _ H3 R3 f3 => ?_⟩
    walk_at "r"
    rw [Int.toNat_natCast] at kt
    refine kt y hg _ ⟨⟨dx, f3 _ _ hp2 (by walk_at "nin")⟩, f3 _ _ o2 (by walk_at "nin"), ⟨_, _, by rw [List.map_append]; exact R3⟩, by rw [List.length_set]; exact hln, ?_, fun c hc => ?_, fun c hc => ?_⟩ ((f2.mono (by simp)).trans (f3.mono (by simp)))
    · rw [List.nodup_append]
      exact ⟨hnd, by simp, fun x hx y hy e => nb (by rw [List.mem_singleton.mp hy] at e; exact e ▸ hx)⟩
    · by_cases e : c = b
      · subst e
        rw [List.getElem?_set_self (by omega)]
        simp
      · rw [List.getElem?_set_ne (fun z => e z.symm), ← hfi c hc]
        simp [e]
    · rcases List.mem_append.mp hc with hc | hc
      · exact hlt c hc
      · rw [List.mem_singleton.mp hc]; exact hb
/-! ### pools, as assertions -/
def poolP (C CR p : Addr) (n : Nat) (os : List (Option Int)) (fr : List Nat) (H : Hp) (A : List Addr) : Prop := ∃ ow pr l, A = [p, ow, pr, l] ∧ [p, ow, pr, l].Nodup ∧ PoolAt C CR H p ow pr l n os fr
def PoolA (C CR p : Addr) (n : Nat) (os : List (Option Int)) (fr : List Nat) : As := fpa (poolP C CR p n os fr) (fun H H' A ⟨ow, pr, l, e, nd, B⟩ g => by
    obtain ⟨⟨dx, z⟩, z1, ⟨wr, tk, R⟩, r1, r2, r3, r4⟩ := B
    obtain ⟨⟨dy, ho⟩, ⟨cs, hl, h⟩, a1, a2, a3, a4, a5, a6⟩ := R
    exact ⟨ow, pr, l, e, nd, ⟨dx, by rw [g.1 p (by simp [e])]; exact z⟩, by rw [g.1 ow (by simp [e])]; exact z1, ⟨wr, tk, ⟨dy, by rw [g.1 pr (by simp [e])]; exact ho⟩, ⟨cs, by rw [g.1 l (by simp [e])]; exact hl, h⟩, a1, a2, a3, a4, a5, a6⟩, r1, r2, r3, r4⟩)
  (fun H A ⟨ow, pr, l, e, nd, B⟩ a s => by
    rw [e] at s
    obtain ⟨o, h⟩ := B.inn a s
    rw [h]; simp)
structure PoolOk (n : Nat) (os : List (Option Int)) (fr : List Nat) : Prop where
  ln : os.length = n
  nd : fr.Nodup
  fi : ∀ b, b < n → (b ∈ fr ↔ os[b]? = some none)
  lt : ∀ b ∈ fr, b < n
section
variable {L M : List As} {H : Hp} {Q : VK} {E : XK} {C CR p : Addr} {n : Nat} {os : List (Option Int)} {fr : List Nat} {z : Int}
theorem PoolA.U (hs : Sl.St L H) (s : Sel (PoolA C CR p n os fr) L M) : ∃ ow pr l, [p, ow, pr, l].Nodup ∧ PoolAt C CR H p ow pr l n os fr ∧ ∀ os' fr' H1 ft, PoolAt C CR H1 p ow pr l n os' fr' → Fp ft H H1 → (∀ x ∈ ft, x ∈ [p, ow, pr, l]) → Sl.St (PoolA C CR p n os' fr' :: M) H1 := by
  obtain ⟨A, ⟨ow, pr, l, rfl, nd, B⟩, up⟩ := fpa_U (hs.sel s)
  refine ⟨ow, pr, l, nd, B, fun os' fr' H1 ft B1 f hf => up _ _ _ ft [p, ow, pr, l] H1 f (fun x m => ⟨.inl (hf x m), fun o e => ?_⟩) ⟨ow, pr, l, rfl, nd, B1⟩ fun x m => .inl m⟩
  obtain ⟨⟨dx, z⟩, z1, ⟨wr, tk, R⟩, r1, r2, r3, r4⟩ := B
  obtain ⟨⟨dy, ho⟩, ⟨cs, hl, h⟩, _⟩ := R
  have hx := hf x m
  simp only [List.mem_cons, List.not_mem_nil, or_false] at hx
  rcases hx with rfl | rfl | rfl | rfl
  · rw [z] at e; cases e; exact id
  · rw [z1] at e; cases e; exact id
  · rw [ho] at e; cases e; exact id
  · rw [hl] at e; cases e; exact id
theorem PoolA.ok (hs : Sl.St L H) (s : Sel (PoolA C CR p n os fr) L M) : PoolOk n os fr ∧ 1 ≤ n ∧ n ≤ 256 := by
  obtain ⟨ow, pr, l, nd, B, _⟩ := PoolA.U hs s
  exact ⟨⟨B.ln, B.nd, B.fi, B.lt⟩, B.le.2⟩
theorem km_Pool {m : Str} {sp : Sp} {tl : TA} {σ : L2.St} (hs : Sl.St L H) (s : Sel (PoolA C CR p n os fr) L M) (hm : ∀ x0 x1, (F_Pool x0 x1).lookup m = none) (q : tl σ H fun vs H2 => sp (.ref p :: vs) H2 Q E) : kMeth C m sp E tl σ (.ref p) H Q := by
  obtain ⟨ow, pr, l, nd, B, _⟩ := PoolA.U hs s
  obtain ⟨dx, h⟩ := B.ob
  exact k_meth h (hm _ _) q
theorem c_pool_init {dx : Addr} (hs : Sl.St L H) (s : Sel (cell p (.ins a.C_Pool dx [])) L M) (n1 : 1 ≤ n) (nz : n ≤ 256) (q : ∀ H', Sl.St (PoolA a.C_Pool a.C_Ring p n (List.replicate n none) (List.range n) :: M) H' → Q .non H') : sp_Pool_init K a [.ref p, .int n] H Q E := by
  refine a2 ⟨p, dx, n, rfl, rfl, n1, nz, hs.get s, fun ow pr l H1 m1 m2 m3 nd B f => q H1 (fpa_cell (hs.sel s) id f ⟨ow, pr, l, rfl, ?_, B⟩ fun x m => ?_)⟩
  · have hp := hs.get s
    refine List.nodup_cons.mpr ⟨fun h => ?_, nd⟩
    simp only [List.mem_cons, List.not_mem_nil, or_false] at h
    rcases h with e | e | e
    · rw [e, m1] at hp; cases hp
    · rw [e, m2] at hp; cases hp
    · rw [e, m3] at hp; cases hp
  · simp only [List.mem_cons, List.not_mem_nil, or_false] at m
    rcases m with rfl | rfl | rfl | rfl
    · exact .inl rfl
    · exact .inr m1
    · exact .inr m2
    · exact .inr m3
theorem c_pool_free (hs : Sl.St L H) (s : Sel (PoolA a.C_Pool a.C_Ring p n os fr) L M) (q : Q (.int fr.length) H) : sp_Pool_free K a [.ref p] H Q E := by
  obtain ⟨ow, pr, l, nd, B, _⟩ := PoolA.U hs s
  exact a1 ⟨p, ow, pr, l, n, os, fr, rfl, B, q⟩
theorem c_pool_owner (hs : Sl.St L H) (s : Sel (PoolA a.C_Pool a.C_Ring p n os fr) L M) (q : Q (ov (getO os z)) H) : sp_Pool_owner K a [.ref p, .int z] H Q E := by
  obtain ⟨ow, pr, l, nd, B, _⟩ := PoolA.U hs s
  exact a2 ⟨p, ow, pr, l, n, os, fr, z, rfl, rfl, B, q⟩
theorem c_pool_acquire (hs : Sl.St L H) (s : Sel (PoolA a.C_Pool a.C_Ring p n os fr) L M) (e : fr = [] → ∀ d, H d = none → E (.ref a.C_PoolError) (some d) (upd H d (.xd [("buffer", .int (-1))])))
    (q : ∀ b r, fr = b :: r → ∀ H', Sl.St (PoolA a.C_Pool a.C_Ring p n (os.set b (some z)) r :: M) H' → Q (.int b) H') : sp_Pool_acquire K a [.ref p, .int z] H Q E := by
  obtain ⟨ow, pr, l, nd, B, up⟩ := PoolA.U hs s
  exact a2 ⟨p, ow, pr, l, n, os, fr, z, rfl, rfl, B, nd, e, fun b r h H1 B1 f => q b r h H1 (up _ _ _ _ B1 f (fun x m => List.mem_cons_of_mem _ m))⟩
theorem c_pool_release (hs : Sl.St L H) (s : Sel (PoolA a.C_Pool a.C_Ring p n os fr) L M) (hz : -1000000 ≤ z ∧ z ≤ 1000000) (e : getO os z = none → ∀ d, H d = none → E (.ref a.C_PoolError) (some d) (upd H d (.xd [("buffer", .int z)])))
    (q : ∀ y, getO os z = some y → ∀ H', Sl.St (PoolA a.C_Pool a.C_Ring p n (os.set z.toNat none) (fr ++ [z.toNat]) :: M) H' → Q .non H') : sp_Pool_release K a [.ref p, .int z] H Q E := by
  obtain ⟨ow, pr, l, nd, B, up⟩ := PoolA.U hs s
  exact a2 ⟨p, ow, pr, l, n, os, fr, z, rfl, rfl, hz, B, nd, e, fun y h H1 B1 f => q y h H1 (up _ _ _ _ B1 f (fun x m => List.mem_cons_of_mem _ m))⟩
end
local macro_rules | `(tactic| walk_at "km") => do let h := Lean.mkIdent `hs; `(tactic| ((with_reducible refine' km_Pool $h ?s ?m ?_); (case s => walk_at "sel"); (case m => intros; walk_at "nol")))
/-! ### transmit queues, as assertions -/
def TqA (a : Ads) (p : Addr) (cap : Nat) (xs : List Int) : As := ex fun dx => ex fun pr => Sl.all [cell p (.ins a.C_TransmitQueue dx (F_TransmitQueue (.int cap) (.ref pr))), RingA a.C_Ring pr cap (xs.map V.int)]
section
variable {L M : List As} {H : Hp} {Q : VK} {E : XK} {p : Addr} {cap : Nat} {xs : List Int}
theorem TqA.U (hs : Sl.St L H) (s : Sel (TqA a p cap xs) L M) : ∃ dx pr, xs.length ≤ cap ∧ 1 ≤ cap ∧ cap ≤ 256 ∧ Sl.St (cell p (.ins a.C_TransmitQueue dx (F_TransmitQueue (.int cap) (.ref pr))) :: RingA a.C_Ring pr cap (xs.map V.int) :: M) H := by
  obtain ⟨dx, h⟩ := (hs.sel s).exU
  obtain ⟨pr, h⟩ := h.exU
  have h := h.allU
  have z := RingA.le h (.there .here)
  rw [List.length_map] at z
  exact ⟨dx, pr, z.1, z.2.1, z.2.2, h⟩
theorem TqA.I {dx pr : Addr} (hs : Sl.St L H) (s : Sels [cell p (.ins a.C_TransmitQueue dx (F_TransmitQueue (.int cap) (.ref pr))), RingA a.C_Ring pr cap (xs.map V.int)] L M) : Sl.St (TqA a p cap xs :: M) H := Sl.St.exI dx (Sl.St.exI pr (Sl.St.allI (L := [_, _]) (hs.sels s)))
theorem km_Tq {m : Str} {sp : Sp} {tl : TA} {σ : L2.St} (hs : Sl.St L H) (s : Sel (TqA a p cap xs) L M) (hm : ∀ x0 x1, (F_TransmitQueue x0 x1).lookup m = none) (q : tl σ H fun vs H2 => sp (.ref p :: vs) H2 Q E) : kMeth a.C_TransmitQueue m sp E tl σ (.ref p) H Q := by
  obtain ⟨dx, pr, _, _, _, h⟩ := TqA.U hs s
  exact k_meth h.get0 (hm _ _) q
end
local macro_rules | `(tactic| walk_at "km") => do let h := Lean.mkIdent `hs; `(tactic| ((with_reducible refine' km_Tq $h ?s ?m ?_); (case s => walk_at "sel"); (case m => intros; walk_at "nol")))
def TqSp (a : Ads) (s : V) (H : Hp) (φ : Addr → Nat → List Int → List As → List As → Prop) : Prop := ∃ (p : Addr) (cap : Nat) (xs : List Int) (L R : List As), s = .ref p ∧ Sl.St L H ∧ Sel (TqA a p cap xs) L R ∧ φ p cap xs L R
def sp_TransmitQueue_init (K : PySem.W.Frag) (a : Ads) : Sp := A2 fun s v H Q E => ∃ (p dx : Addr) (cap : Nat) (L R : List As), s = .ref p ∧ v = .int cap ∧ Sl.St L H ∧ Sel (cell p (.ins a.C_TransmitQueue dx [])) L R ∧ 1 ≤ cap ∧ cap ≤ 256 ∧ ∀ H', Sl.St (TqA a p cap [] :: R) H' → Q .non H'
def sp_TransmitQueue_put (K : PySem.W.Frag) (a : Ads) : Sp := A2 fun s v H Q E => TqSp a s H fun p cap xs L R => ∃ z : Int, v = .int z ∧ (xs.length = cap → Q (.bl false) H) ∧ (xs.length < cap → ∀ H', Sl.St (TqA a p cap (xs ++ [z]) :: R) H' → Q (.bl true) H')
def sp_TransmitQueue_take (K : PySem.W.Frag) (a : Ads) : Sp := A1 fun s H Q E => TqSp a s H fun p cap xs L R => (xs = [] → Q .non H) ∧ (∀ z ys, xs = z :: ys → ∀ H', Sl.St (TqA a p cap ys :: R) H' → Q (.int z) H')
def sp_TransmitQueue_space (K : PySem.W.Frag) (a : Ads) : Sp := A1 fun s H Q E => TqSp a s H fun p cap xs L R => Q (.int ((cap : Int) - xs.length)) H
def sp_TransmitQueue_contents (K : PySem.W.Frag) (a : Ads) : Sp := A1 fun s H Q E => TqSp a s H fun p cap xs L R => ∀ l H', Sl.St (cell l (.lst (xs.map V.int)) :: L) H' → Q (.ref l) H'
theorem ok_TransmitQueue_init (T : Txt P w K mg base a) : FnOk P w K mg base (L2.CX P w) 3 a.f_TransmitQueue_init a.fd_TransmitQueue_init ["self", "capacity"] (sp_TransmitQueue_init K a) := by
  have G_Ring_init := ok_Ring_init T
  refine T.F_TransmitQueue_init.okX sc_TransmitQueue_init (fun vs H Q E h => A2.len h) (fun cdv A outer s H vs Q E hr h => ?_)
  have hu := hu_of hr
  obtain ⟨v_self, v_capacity, rfl, h⟩ := h
  refine ⟨_, (pss_cons (ps_fld (pv 0) (pv 1) rfl)
    (pss_one (ps_fld (pv 0) (pe_makeS T.mk_Ring G_Ring_init (hr.mono (by decide)) rfl T.g_Ring T.b_Ring_init (fun σ => passAt (takes_of rfl rfl rfl rfl) σ) (pa_cons (pv 1) pa_nil)) rfl))), ?_⟩
  obtain ⟨p, dx, cap, L, R, rfl, rfl, hs, se, h0, hc, k⟩ := h
  have hs := hs.sel se
  walk_at "x"
  refine c_ring_init hs .here h0 hc fun H1 hs => ⟨rfl, ?_⟩
  walk_at "x"
  rw [F_TransmitQueue_init] at hs
  exact k _ (TqA.I (xs := []) hs (by walk_at "selm"))
theorem ok_TransmitQueue_put (T : Txt P w K mg base a) : FnOk P w K mg base (L2.CX P w) 4 a.f_TransmitQueue_put a.fd_TransmitQueue_put ["self", "byte"] (sp_TransmitQueue_put K a) := by
  have G_Ring_is_full := ok_Ring_is_full T
  have G_Ring_put := ok_Ring_put T
  refine T.F_TransmitQueue_put.okX sc_TransmitQueue_put (fun vs H Q E h => A2.len h) (fun cdv A outer s H vs Q E hr h => ?_)
  have hu := hu_of hr
  obtain ⟨v_self, v_byte, rfl, h⟩ := h
  refine ⟨_, (pss_cons (ps_if (pt_val (pe_meth0S (pe_fld (pv 0) rfl) T.cl_Ring T.m_Ring_is_full G_Ring_is_full (hr.mono (by decide)) T.b_Ring_is_full (fun σ => passAt (takes_of rfl rfl rfl rfl) σ))) (pss_one (ps_ret pe_bl)) pss_nil)
    (pss_cons (ps_expr (pe_methS (pe_fld (pv 0) rfl) T.cl_Ring T.m_Ring_put G_Ring_put (hr.mono (by decide)) T.b_Ring_put (fun σ => passAt (takes_of rfl rfl rfl rfl) σ) (pa_cons (pv 1) pa_nil)))
    (pss_one (ps_ret pe_bl)))), ?_⟩
  obtain ⟨p, cap, xs, L, R, rfl, hs, se, z, rfl, k0, k1⟩ := h
  obtain ⟨dx, pr, le, l1, l2, hs⟩ := TqA.U hs se
  walk_at "x"
  refine c_ring_full hs (by walk_at "sel") ?_
  walk_at "x"
  rw [List.length_map]
  refine if_d (fun c => ?_) (fun c => ?_)
  · walk_at "x"
    exact k0 c
  · walk_at "x"
    refine c_ring_put hs (by walk_at "sel") (fun e => absurd (by rwa [List.length_map] at e) c) fun _ H1 hs => ?_
    walk_at "x"
    exact k1 (by omega) _ (TqA.I (xs := xs ++ [z]) hs (by walk_at "selm"))
theorem ok_TransmitQueue_take (T : Txt P w K mg base a) : FnOk P w K mg base (L2.CX P w) 5 a.f_TransmitQueue_take a.fd_TransmitQueue_take ["self"] (sp_TransmitQueue_take K a) := by
  have G_Ring_held := ok_Ring_held T
  have G_Ring_take := ok_Ring_take T
  refine T.F_TransmitQueue_take.okX sc_TransmitQueue_take (fun vs H Q E h => A1.len h) (fun cdv A outer s H vs Q E hr h => ?_)
  have hu := hu_of hr
  obtain ⟨v_self, rfl, h⟩ := h
  refine ⟨_, (pss_cons (ps_if (pt_cmpR op_eq (pe_meth0S (pe_fld (pv 0) rfl) T.cl_Ring T.m_Ring_held G_Ring_held (hr.mono (by decide)) T.b_Ring_held (fun σ => passAt (takes_of rfl rfl rfl rfl) σ)) pe_int (nomark _)) (pss_one (ps_ret pe_non)) pss_nil)
    (pss_one (ps_ret (pe_meth0S (pe_fld (pv 0) rfl) T.cl_Ring T.m_Ring_take G_Ring_take (hr.mono (by decide)) T.b_Ring_take (fun σ => passAt (takes_of rfl rfl rfl rfl) σ))))), ?_⟩
  obtain ⟨p, cap, xs, L, R, rfl, hs, se, k0, k1⟩ := h
  obtain ⟨dx, pr, le, l1, l2, hs⟩ := TqA.U hs se
  walk_at "x"
  refine c_ring_held hs (by walk_at "sel") ?_
  walk_at "x"
  rw [List.length_map]
  refine if_d (fun c => ?_) (fun c => ?_)
  · walk_at "x"
    exact k0 (List.eq_nil_of_length_eq_zero (by have := int_inj c; omega))
  · walk_at "x"
    refine c_ring_take hs (by walk_at "sel") (fun e => absurd (by rw [List.map_eq_nil_iff.mp e]; rfl) c) fun x ys e H1 hs => ?_
    obtain ⟨z, zs, rfl, rfl, rfl⟩ := List.map_eq_cons_iff.mp e
    exact k1 z zs rfl _ (TqA.I (xs := zs) hs (by walk_at "sels"))
theorem ok_TransmitQueue_space (T : Txt P w K mg base a) : FnOk P w K mg base (L2.CX P w) 2 a.f_TransmitQueue_space a.fd_TransmitQueue_space ["self"] (sp_TransmitQueue_space K a) := by
  have G_Ring_held := ok_Ring_held T
  refine T.F_TransmitQueue_space.okX sc_TransmitQueue_space (fun vs H Q E h => A1.len h) (fun cdv A outer s H vs Q E hr h => ?_)
  have hu := hu_of hr
  obtain ⟨v_self, rfl, h⟩ := h
  refine ⟨_, (pss_one (ps_ret (pe_op op_sub (pe_fld (pv 0) rfl) (pe_meth0S (pe_fld (pv 0) rfl) T.cl_Ring T.m_Ring_held G_Ring_held (hr.mono (by decide)) T.b_Ring_held (fun σ => passAt (takes_of rfl rfl rfl rfl) σ))))), ?_⟩
  obtain ⟨p, cap, xs, L, R, rfl, hs, se, k⟩ := h
  obtain ⟨dx, pr, le, l1, l2, hs⟩ := TqA.U hs se
  walk_at "x"
  refine c_ring_held hs (by walk_at "sel") ?_
  walk_at "x"
  rw [List.length_map]
  exact k
theorem ok_TransmitQueue_contents (T : Txt P w K mg base a) : FnOk P w K mg base (L2.CX P w) 3 a.f_TransmitQueue_contents a.fd_TransmitQueue_contents ["self"] (sp_TransmitQueue_contents K a) := by
  have G_Ring_listed := ok_Ring_listed T
  refine T.F_TransmitQueue_contents.okX sc_TransmitQueue_contents (fun vs H Q E h => A1.len h) (fun cdv A outer s H vs Q E hr h => ?_)
  have hu := hu_of hr
  obtain ⟨v_self, rfl, h⟩ := h
  refine ⟨_, (pss_one (ps_ret (pe_meth0S (pe_fld (pv 0) rfl) T.cl_Ring T.m_Ring_listed G_Ring_listed (hr.mono (by decide)) T.b_Ring_listed (fun σ => passAt (takes_of rfl rfl rfl rfl) σ)))), ?_⟩
  obtain ⟨p, cap, xs, L, R, rfl, hs, se, k⟩ := h
  obtain ⟨dx, pr, le, l1, l2, hs⟩ := TqA.U hs se
  walk_at "x"
  refine c_ring_listed hs (by walk_at "sel") fun l H1 hs => ?_
  walk_at "x"
  exact k _ _ ((Ent.cons se.ent').st (Ent.swap.st (TqA.I (xs := xs) hs (by walk_at "sels"))))
end
end My
set_option Elab.async false
set_option maxRecDepth 100000
set_option maxHeartbeats 100000000
set_option linter.all false
namespace My
open PySem L2 Sx Rd Sl
local macro_rules | `(tactic| walk_at "ne") => `(tactic| (first | with_reducible assumption | with_reducible exact Ne.symm (by with_reducible assumption)))
local macro_rules | `(tactic| walk_at "nin") => `(tactic| (simp only [List.mem_cons, List.not_mem_nil, or_false, not_or, not_false_eq_true]; (repeat' refine And.intro ?_ ?_); (all_goals walk_at "ne")))
local macro_rules | `(tactic| walk_at "hl") => `(tactic| (first | (with_reducible assumption) | exact upd_same | ((with_reducible refine' (upd_ne ?hne).trans ?hgo); (case hne => walk_at "ne"); (case hgo => walk_at "hl"))))
local macro_rules | `(tactic| walk_at "sq") => `(tactic| (first | (with_reducible assumption) | exact Or.inl (Or.inl (by walk_at "hl"))))
local macro_rules | `(tactic| walk_at "ar") => `(tactic| (first | omega | exact ⟨by omega, by omega⟩ | exact Or.inl ⟨by omega, by omega⟩ | exact Or.inr ⟨by omega, by omega⟩ | (show (0 : Int) < _; omega) | (show (0 : Int) < _ ∧ _ < (1073741824 : Int); omega)))
local macro_rules | `(tactic| walk_at "cls") => `(tactic| (first | exact Txt.cl_Sender (by assumption) | exact Txt.cl_Ring (by assumption) | exact Txt.cl_Pool (by assumption) | exact Txt.cl_TransmitQueue (by assumption) | exact Txt.cl_SlotRing (by assumption)))
local macro_rules | `(tactic| walk_at "noa") => `(tactic| (first | exact Txt.n_Sender_queue (by assumption) | exact Txt.n_Sender_ring (by assumption) | exact Txt.n_Sender_pool (by assumption) | exact Txt.n_Sender_moved (by assumption) | exact Txt.n_Ring_cells (by assumption) | exact Txt.n_Ring_written (by assumption) | exact Txt.n_Ring_taken (by assumption) | exact Txt.n_Pool_owners (by assumption) | exact Txt.n_Pool_free (by assumption) | exact Txt.n_TransmitQueue_capacity (by assumption) | exact Txt.n_TransmitQueue_bytes (by assumption) | exact Txt.n_SlotRing_slots (by assumption) | exact Txt.n_SlotRing_armed (by assumption) | exact Txt.n_SlotRing_filled (by assumption) | exact Txt.n_SlotRing_added (by assumption)))
local macro_rules | `(tactic| walk_at "lkp") => `(tactic| (first | (with_reducible exact F_Sender_queue_l) | (with_reducible exact F_Sender_ring_l) | (with_reducible exact F_Sender_pool_l) | (with_reducible exact F_Sender_moved_l) | (with_reducible exact F_Ring_cells_l) | (with_reducible exact F_Ring_written_l) | (with_reducible exact F_Ring_taken_l) | (with_reducible exact F_Pool_owners_l) | (with_reducible exact F_Pool_free_l) | (with_reducible exact F_TransmitQueue_capacity_l) | (with_reducible exact F_TransmitQueue_bytes_l) | (with_reducible exact F_SlotRing_slots_l) | (with_reducible exact F_SlotRing_armed_l) | (with_reducible exact F_SlotRing_filled_l) | (with_reducible exact F_SlotRing_added_l)))
local macro_rules | `(tactic| walk_at "ptf") => `(tactic| (first | (with_reducible exact F_Sender_queue_p) | (with_reducible exact F_Sender_ring_p) | (with_reducible exact F_Sender_pool_p) | (with_reducible exact F_Sender_moved_p) | (with_reducible exact F_Ring_cells_p) | (with_reducible exact F_Ring_written_p) | (with_reducible exact F_Ring_taken_p) | (with_reducible exact F_Pool_owners_p) | (with_reducible exact F_Pool_free_p) | (with_reducible exact F_TransmitQueue_capacity_p) | (with_reducible exact F_TransmitQueue_bytes_p) | (with_reducible exact F_SlotRing_slots_p) | (with_reducible exact F_SlotRing_armed_p) | (with_reducible exact F_SlotRing_filled_p) | (with_reducible exact F_SlotRing_added_p) | exact rfl))
local macro_rules | `(tactic| walk_at "lnF") => `(tactic| (first | (with_reducible exact F_Sender_len) | (with_reducible exact F_Ring_len) | (with_reducible exact F_Pool_len) | (with_reducible exact F_TransmitQueue_len) | (with_reducible exact F_SlotRing_len) | (refine PL.lt (n := 60) ?_ (by decide); (repeat refine PL.put ?_); exact PL.nil) | decide))
local macro_rules | `(tactic| walk_at "nol") => `(tactic| (first | (with_reducible exact F_Sender_m_can_step) | (with_reducible exact F_Sender_m_step) | (with_reducible exact F_Sender_m_waiting) | (with_reducible exact F_Sender_m_empty_slot) | (with_reducible exact F_Ring_m_held) | (with_reducible exact F_Ring_m_is_full) | (with_reducible exact F_Ring_m_put) | (with_reducible exact F_Ring_m_first) | (with_reducible exact F_Ring_m_take) | (with_reducible exact F_Ring_m_listed) | (with_reducible exact F_Ring_m_next) | (with_reducible exact F_Pool_m_free) | (with_reducible exact F_Pool_m_owner) | (with_reducible exact F_Pool_m_held) | (with_reducible exact F_Pool_m_acquire) | (with_reducible exact F_Pool_m_release) | (with_reducible exact F_Pool_m_may_acquire) | (with_reducible exact F_Pool_m_exists) | (with_reducible exact F_TransmitQueue_m_put) | (with_reducible exact F_TransmitQueue_m_take) | (with_reducible exact F_TransmitQueue_m_space) | (with_reducible exact F_TransmitQueue_m_contents) | (with_reducible exact F_SlotRing_m_can_arm) | (with_reducible exact F_SlotRing_m_arm) | (with_reducible exact F_SlotRing_m_open_slot) | (with_reducible exact F_SlotRing_m_open_bytes) | (with_reducible exact F_SlotRing_m_open_count) | (with_reducible exact F_SlotRing_m_add) | (with_reducible exact F_SlotRing_m_close) | (with_reducible exact F_SlotRing_m_oldest) | (with_reducible exact F_SlotRing_m_reap) | (with_reducible exact F_SlotRing_m_filled_slots) | (with_reducible exact F_SlotRing_m_buffers)))
local macro_rules | `(tactic| walk_at "r1") => `(tactic| (first
  | with_reducible apply l_cons | ((with_reducible apply e_var); (case h => exact rfl)) | with_reducible apply l_nil | with_reducible apply s_seq | with_reducible apply e_c | with_reducible apply g_name
  | with_reducible apply s_asg | with_reducible apply e_call | with_reducible apply k_t | with_reducible apply e_op | with_reducible apply e_cb | with_reducible apply t_test
  | with_reducible apply s_if | with_reducible apply t_or | with_reducible apply t_and | with_reducible apply t_B | with_reducible apply s_next | with_reducible apply p_some
  | with_reducible apply p_no | with_reducible apply e_sl | with_reducible apply k_i | with_reducible apply e_lst | with_reducible apply t_not | with_reducible apply o_I0
  | ((with_reducible refine' o_I ?hc ?_); (case hc => walk_at "ar")) | with_reducible apply e_meth | ((with_reducible refine' k_meth ?h1 ?h2 ?_); (case h1 => walk_at "hl"); (case h2 => walk_at "nol")) | with_reducible apply e_fld | ((with_reducible refine' k_fld ?h1 ?h2 ?h3 ?h4 ?_); (case h1 => walk_at "hl"); (case h2 => walk_at "cls"); (case h3 => walk_at "noa"); (case h4 => walk_at "lkp")) | with_reducible apply e_not
  | with_reducible apply s_ret | ((with_reducible refine' k_ty ?h1 ?_); (case h1 => walk_at "sq")) | with_reducible apply s_drop | with_reducible apply s_retN | with_reducible apply s_cont | with_reducible apply s_break
  | with_reducible apply o_chC | ((with_reducible refine' o_chV ?hv ?_); (case hv => exact rfl)) | with_reducible apply e_un | with_reducible apply o_U | ((with_reducible refine' o_eq ?hs ?_); (case hs => exact rfl)) | ((with_reducible refine' o_ne ?hs ?_); (case hs => exact rfl))
  | ((with_reducible refine' o_ixL ?h1 ?h2 ?_); (case h1 => walk_at "sq"); (case h2 => first | exact rfl | exact atI_zero _ _)) | with_reducible apply s_fld | with_reducible apply e_make | ((with_reducible refine' k_set ?h1 ?h2 ?h3 ?h4 ?h5 ?_); (case h1 => walk_at "hl"); (case h2 => walk_at "cls"); (case h3 => walk_at "noa"); (case h4 => walk_at "ptf"); (case h5 => walk_at "lnF")) | with_reducible apply e_tup | with_reducible apply e_bm
  | with_reducible apply e_bm0 | with_reducible apply e_if | with_reducible apply e_chain | with_reducible apply s_raise | with_reducible apply g_sub | ((with_reducible refine' c_ln ?h1 ?_); (case h1 => walk_at "sq"))
  | ((with_reducible refine' c_pop0 ?h1 ?h2 ?_); (case h1 => walk_at "hl"); (case h2 => omega)) | with_reducible apply c_isBool | with_reducible apply c_isInt | with_reducible apply c_isBoolN | with_reducible apply c_isTupI | with_reducible apply c_isNonB
  | with_reducible apply c_isNonT | ((with_reducible refine' c_isList ?h1 ?_); (case h1 => walk_at "hl")) | ((with_reducible refine' c_isTup ?h1 ?_); (case h1 => walk_at "hl")) | ((with_reducible refine' c_isTupB ?h1 ?_); (case h1 => walk_at "hl")) | with_reducible apply o_isB | with_reducible apply o_notB
  | with_reducible apply e_and | with_reducible apply e_or | with_reducible apply k_bl | with_reducible apply e_xf | with_reducible apply s_augS | ((with_reducible refine' s_augV ?hv ?_); (case hv => exact rfl))
  | with_reducible apply ip_I | with_reducible apply e_lcE | ((with_reducible refine' k_xf ?h1 ?h2 ?_); (case h1 => walk_at "hl"); (case h2 => exact look_hit _ _ _)) | ((with_reducible refine' o_slL ?h1 ?_); (case h1 => walk_at "sq")) | ((with_reducible refine' k_dget ?h1 ?h2 ?_); (case h1 => walk_at "hl"); (case h2 => with_reducible assumption)) | with_reducible apply e_dget
  | with_reducible apply s_dput | with_reducible apply e_makeK | with_reducible apply g_cons | with_reducible apply g_nil | with_reducible apply c_ab | with_reducible apply c_in
  | with_reducible apply c_mx | with_reducible apply c_mn | with_reducible apply a1 | with_reducible apply a2 | with_reducible apply a3 | with_reducible apply a4
  | with_reducible apply a5 | with_reducible apply a6 | with_reducible apply a0 | with_reducible apply t_tru | with_reducible apply t_yes | ((with_reducible refine' k_truL ?h1 ?_); (case h1 => walk_at "sq")) | with_reducible refine d_nx ?_ | with_reducible refine d_rt ?_ | with_reducible refine d_bk ?_
  | with_reducible refine d_ct ?_))
local macro_rules | `(tactic| walk_at "r") => `(tactic| (repeat walk_at "r1"))
local macro_rules | `(tactic| walk_at "sel") => `(tactic| (first | with_reducible exact Sl.Sel.here | ((with_reducible refine' Sl.Sel.there ?t); (case t => walk_at "sel"))))
local macro_rules | `(tactic| walk_at "sels") => `(tactic| (first | with_reducible exact Sl.Sels.nil | ((with_reducible refine' Sl.Sels.cons ?a ?b); (case a => walk_at "sel"); (case b => walk_at "sels")) | with_reducible exact Sl.Sels.all _ | ((with_reducible refine' Sl.Sels.skip ?t); (case t => walk_at "sels"))))
local macro_rules | `(tactic| walk_at "selm") => `(tactic| ((try (simp only [])); (try simp only [List.map_append, List.map_cons, List.map_nil]); walk_at "sels"))
local macro_rules | `(tactic| walk_at "hg") => do
  let h := Lean.mkIdent `hs
  `(tactic| (first | (with_reducible assumption) | ((with_reducible refine' Sl.St.get $h ?s); (case s => walk_at "sel")) | ((with_reducible refine' Sl.St.geti $h ?s); (case s => walk_at "sel"))))
local macro_rules | `(tactic| walk_at "sg") => do
  let h := Lean.mkIdent `hs
  `(tactic| (first | (with_reducible assumption) | exact Or.inl (Or.inl (by walk_at "hg")) | (refine' Sl.sqA.U $h ?s; (case s => walk_at "sel"))))
local macro_rules | `(tactic| walk_at "le5") => `(tactic| (first | omega | (simp only [List.length_cons, List.length_nil, List.length_append, List.length_map]; omega) | (show _ ≤ _; decide) | (show _ < _; decide)))
local macro_rules | `(tactic| walk_at "km") => `(tactic| fail)
local macro_rules | `(tactic| walk_at "kf") => `(tactic| fail)
local macro_rules | `(tactic| walk_at "x1") => do
  let h := Lean.mkIdent `hs
  `(tactic| (first
  | with_reducible apply l_cons | ((with_reducible apply e_var); (case h => exact rfl)) | with_reducible apply l_nil | with_reducible apply s_seq | with_reducible apply e_c | with_reducible apply g_name
  | with_reducible apply s_asg | with_reducible apply e_call | with_reducible apply k_t | with_reducible apply e_op | with_reducible apply e_cb | with_reducible apply t_test
  | with_reducible apply s_if | with_reducible apply t_or | with_reducible apply t_and | with_reducible apply t_B | with_reducible apply s_next | with_reducible apply p_some
  | with_reducible apply p_no | with_reducible apply e_sl | with_reducible apply k_i | with_reducible apply Sl.e_lstS | with_reducible apply t_not | with_reducible apply o_I0
  | ((with_reducible refine' o_I ?hc ?_); (case hc => walk_at "ar")) | with_reducible apply e_meth | ((with_reducible refine' k_meth ?h1 ?h2 ?_); (case h1 => walk_at "hg"); (case h2 => walk_at "nol")) | walk_at "km" | with_reducible apply e_fld
  | ((with_reducible refine' k_fld ?h1 ?h2 ?h3 ?h4 ?_); (case h1 => walk_at "hg"); (case h2 => walk_at "cls"); (case h3 => walk_at "noa"); (case h4 => walk_at "lkp")) | walk_at "kf" | with_reducible apply e_not
  | with_reducible apply s_ret | ((with_reducible refine' k_ty ?h1 ?_); (case h1 => walk_at "sg")) | with_reducible apply s_drop | with_reducible apply s_retN | with_reducible apply s_cont | with_reducible apply s_break
  | with_reducible apply o_chC | ((with_reducible refine' o_chV ?hv ?_); (case hv => exact rfl)) | with_reducible apply e_un | with_reducible apply o_U | ((with_reducible refine' o_eq ?hs ?_); (case hs => exact rfl)) | ((with_reducible refine' o_ne ?hs ?_); (case hs => exact rfl))
  | ((with_reducible refine' o_ixL ?h1 ?h2 ?_); (case h1 => walk_at "sg"); (case h2 => first | exact rfl | exact atI_zero _ _)) | ((with_reducible refine' o_ixT ?h1 ?h2 ?_); (case h1 => walk_at "sg"); (case h2 => first | exact rfl | exact atI_zero _ _)) | with_reducible apply s_fld | with_reducible apply Sl.e_makeS
  | ((with_reducible refine' Sl.k_setS $h ?h1 ?h2 ?h3 ?h4 ?h5 ?_); (case h1 => walk_at "sel"); (case h2 => walk_at "cls"); (case h3 => walk_at "noa"); (case h4 => walk_at "ptf"); (case h5 => walk_at "lnF"); (clear $h; intro _ $h)) | with_reducible apply Sl.e_tupS | with_reducible apply e_bm
  | with_reducible apply e_bm0 | with_reducible apply e_if | with_reducible apply e_chain | with_reducible apply s_raise | with_reducible apply g_sub | ((with_reducible refine' c_ln ?h1 ?_); (case h1 => walk_at "sg")) | ((with_reducible refine' c_lnT ?h1 ?_); (case h1 => walk_at "sg"))
  | ((with_reducible refine' Sl.k_newL $h ?h1 ?_); (case h1 => walk_at "le5"); (clear $h; intro _ _ $h)) | ((with_reducible refine' Sl.k_newT $h ?h1 ?_); (case h1 => walk_at "le5"); (clear $h; intro _ _ $h)) | ((with_reducible refine' Sl.k_make $h ?_); (clear $h; intro _ _ _ $h))
  | ((with_reducible refine' Sl.c_appS $h ?h1 ?h2 ?_); (case h1 => walk_at "sel"); (case h2 => walk_at "le5"); (clear $h; intro _ $h)) | ((with_reducible refine' Sl.c_pop0S $h ?h1 ?h2 ?_); (case h1 => walk_at "sel"); (case h2 => walk_at "le5"); (clear $h; intro _ $h))
  | ((with_reducible refine' Sl.c_lsS $h ?h1 ?_); (case h1 => walk_at "sg"); (clear $h; intro _ _ $h)) | ((with_reducible refine' Sl.o_slLS $h ?h1 ?_); (case h1 => walk_at "sg"); (clear $h; intro _ _ $h)) | ((with_reducible refine' Sl.c_clrS $h ?h1 ?_); (case h1 => walk_at "sel"); (clear $h; intro _ $h))
  | ((with_reducible refine' Sl.o_catS $h ?h1 ?h2 ?h3 ?_); (case h1 => walk_at "hg"); (case h2 => walk_at "hg"); (case h3 => walk_at "le5"); (clear $h; intro _ _ $h)) | ((with_reducible refine' Sl.c_extS $h ?h1 ?h2 ?h3 ?_); (case h1 => walk_at "sel"); (case h2 => walk_at "hg"); (case h3 => walk_at "le5"); (clear $h; intro _ $h))
  | ((with_reducible refine' Sl.k_raise $h ?h1 ?_); (case h1 => exact okV_int ⟨by omega, by omega⟩); (clear $h; intro _ _ $h))
  | with_reducible apply c_isBool | with_reducible apply c_isInt | with_reducible apply c_isBoolN | with_reducible apply c_isTupI | with_reducible apply c_isNonB
  | with_reducible apply c_isNonT | ((with_reducible refine' c_isList ?h1 ?_); (case h1 => walk_at "hg")) | ((with_reducible refine' c_isTup ?h1 ?_); (case h1 => walk_at "hg")) | ((with_reducible refine' c_isTupB ?h1 ?_); (case h1 => walk_at "hg")) | with_reducible apply o_isB | with_reducible apply o_notB
  | with_reducible apply e_and | with_reducible apply e_or | with_reducible apply k_bl | with_reducible apply e_xf | with_reducible apply s_augS | ((with_reducible refine' s_augV ?hv ?_); (case hv => exact rfl)) | with_reducible apply Sl.s_aug
  | with_reducible apply ip_I | with_reducible apply e_lcE | with_reducible apply e_lcL | with_reducible apply f_lst | with_reducible apply e_lcF | with_reducible apply f_rng1 | ((with_reducible refine' k_xf ?h1 ?h2 ?_); (case h1 => walk_at "hg"); (case h2 => exact look_hit _ _ _)) | ((with_reducible refine' k_dget ?h1 ?h2 ?_); (case h1 => walk_at "hg"); (case h2 => with_reducible assumption)) | with_reducible apply e_dget
  | with_reducible apply s_dput | with_reducible apply Sl.e_makeKS | with_reducible apply g_cons | with_reducible apply g_nil | ((with_reducible refine' g_tup ?h1 ?h2 ?_); (case h1 => walk_at "sg"); (case h2 => exact rfl)) | with_reducible apply c_ab | with_reducible apply c_in
  | with_reducible apply c_mx | with_reducible apply c_mn | with_reducible apply a1 | with_reducible apply a2 | with_reducible apply a3 | with_reducible apply a4
  | with_reducible apply a5 | with_reducible apply a6 | with_reducible apply a0 | with_reducible apply t_tru | with_reducible apply t_yes | ((with_reducible refine' k_truL ?h1 ?_); (case h1 => walk_at "sg")) | with_reducible refine d_nx ?_ | with_reducible refine d_rt ?_ | with_reducible refine d_bk ?_
  | with_reducible refine d_ct ?_))
local macro_rules | `(tactic| walk_at "x") => `(tactic| (repeat walk_at "x1"))
local macro_rules | `(tactic| walk_at "km") => do let h := Lean.mkIdent `hs; `(tactic| ((with_reducible refine' km_Ring $h ?s ?m ?_); (case s => walk_at "sel"); (case m => intros; walk_at "nol")))
local macro_rules | `(tactic| walk_at "km") => do let h := Lean.mkIdent `hs; `(tactic| ((with_reducible refine' km_SlotRing $h ?s ?m ?_); (case s => walk_at "sel"); (case m => intros; walk_at "nol")))
local macro_rules | `(tactic| walk_at "km") => do let h := Lean.mkIdent `hs; `(tactic| ((with_reducible refine' km_Pool $h ?s ?m ?_); (case s => walk_at "sel"); (case m => intros; walk_at "nol")))
local macro_rules | `(tactic| walk_at "km") => do let h := Lean.mkIdent `hs; `(tactic| ((with_reducible refine' km_Tq $h ?s ?m ?_); (case s => walk_at "sel"); (case m => intros; walk_at "nol")))
section
variable {P : Program} {w : World} {K : PySem.W.Frag} {mg : Str → Option Value} {base : Heap} {a : Ads}
/-! ### the transmit handler -/
def SdA (a : Ads) (p qp rp pp : Addr) (moved : Nat) : As := ex fun dx => cell p (.ins a.C_Sender dx (F_Sender (.ref qp) (.ref rp) (.ref pp) (.int moved)))
section
variable {L M : List As} {H : Hp} {Q : VK} {E : XK} {p qp rp pp : Addr} {moved : Nat}
theorem SdA.U (hs : Sl.St L H) (s : Sel (SdA a p qp rp pp moved) L M) : ∃ dx, Sl.St (cell p (.ins a.C_Sender dx (F_Sender (.ref qp) (.ref rp) (.ref pp) (.int moved))) :: M) H := (hs.sel s).exU
theorem SdA.I {dx : Addr} (hs : Sl.St L H) (s : Sel (cell p (.ins a.C_Sender dx (F_Sender (.ref qp) (.ref rp) (.ref pp) (.int moved)))) L M) : Sl.St (SdA a p qp rp pp moved :: M) H := Sl.St.exI dx (hs.sel s)
theorem SdA.I0 {dx : Addr} (hs : Sl.St L H) (s : Sel (cell p (.ins a.C_Sender dx (F_Sender (.ref qp) (.ref rp) (.ref pp) (.int 0)))) L M) : Sl.St (SdA a p qp rp pp 0 :: M) H := SdA.I (moved := 0) hs s
theorem km_Sd {m : Str} {sp : Sp} {tl : TA} {σ : L2.St} (hs : Sl.St L H) (s : Sel (SdA a p qp rp pp moved) L M) (hm : ∀ x0 x1 x2 x3, (F_Sender x0 x1 x2 x3).lookup m = none) (q : tl σ H fun vs H2 => sp (.ref p :: vs) H2 Q E) : kMeth a.C_Sender m sp E tl σ (.ref p) H Q := by
  obtain ⟨dx, h⟩ := SdA.U hs s
  exact k_meth h.get0 (hm _ _ _ _) q
end
local macro_rules | `(tactic| walk_at "km") => do let h := Lean.mkIdent `hs; `(tactic| ((with_reducible refine' km_Sd $h ?s ?m ?_); (case s => walk_at "sel"); (case m => intros; walk_at "nol")))
def datas (fs : List Slt) : List Int := fs.flatMap fun s => s.2.1
def SdSp (a : Ads) (s : V) (H : Hp) (φ : Addr → Addr → Addr → Addr → Nat → Nat → List Int → Nat → List Int → List Int → List Slt → Nat → List (Option Int) → List Nat → List As → List As → Prop) : Prop :=
  ∃ (p qp rp pp : Addr) (moved cap : Nat) (xs : List Int) (n : Nat) (ab dt : List Int) (fs : List Slt) (m : Nat) (os : List (Option Int)) (fr : List Nat) (L R : List As), s = .ref p ∧ Sl.St L H ∧ Sels [SdA a p qp rp pp moved, TqA a qp cap xs, SrA a rp n ab dt fs, PoolA a.C_Pool a.C_Ring pp m os fr] L R ∧
    φ p qp rp pp moved cap xs n ab dt fs m os fr L R
def sp_Sender_init (K : PySem.W.Frag) (a : Ads) : Sp := A4 fun s q r z H Q E => ∃ (p dx qp rp pp : Addr) (L R : List As), s = .ref p ∧ q = .ref qp ∧ r = .ref rp ∧ z = .ref pp ∧ Sl.St L H ∧ Sel (cell p (.ins a.C_Sender dx [])) L R ∧ ∀ H', Sl.St (SdA a p qp rp pp 0 :: R) H' → Q .non H'
/-- nothing but new things -/
def sp_Sender_can_step (K : PySem.W.Frag) (a : Ads) : Sp := A1 fun s H Q E => SdSp a s H fun p qp rp pp moved cap xs n ab dt fs m os fr L R => ∀ H', Sl.St L H' → Q (.bl (!fs.isEmpty && decide (xs.length < cap))) H'
def sp_Sender_empty_slot (K : PySem.W.Frag) (a : Ads) : Sp := A2 fun s v H Q E => SdSp a s H fun p qp rp pp moved cap xs n ab dt fs m os fr L R => ∃ (b : Nat) (d : List Int) (l : Int) (r : List Slt) (y : Int), v = .int b ∧ fs = ((b : Int), d, l) :: r ∧ os[b]? = some (some y) ∧
  ∀ H', Sl.St (SdA a p qp rp pp 0 :: TqA a qp cap xs :: SrA a rp n ab dt r :: PoolA a.C_Pool a.C_Ring pp m (os.set b none) (fr ++ [b]) :: R) H' → Q .non H'
def sp_Sender_step (K : PySem.W.Frag) (a : Ads) : Sp := A1 fun s H Q E => SdSp a s H fun p qp rp pp moved cap xs n ab dt fs m os fr L R => ∃ (b : Nat) (d : List Int) (l : Int) (r : List Slt) (y z : Int), fs = ((b : Int), d, l) :: r ∧ os[b]? = some (some y) ∧ d[moved]? = some z ∧ xs.length < cap ∧
  (moved + 1 = d.length → ∀ H', Sl.St (SdA a p qp rp pp 0 :: TqA a qp cap (xs ++ [z]) :: SrA a rp n ab dt r :: PoolA a.C_Pool a.C_Ring pp m (os.set b none) (fr ++ [b]) :: R) H' → Q (.int z) H') ∧
  (moved + 1 ≠ d.length → ∀ H', Sl.St (SdA a p qp rp pp (moved + 1) :: TqA a qp cap (xs ++ [z]) :: SrA a rp n ab dt fs :: PoolA a.C_Pool a.C_Ring pp m os fr :: R) H' → Q (.int z) H')
def sp_Sender_waiting (K : PySem.W.Frag) (a : Ads) : Sp := A1 fun s H Q E => SdSp a s H fun p qp rp pp moved cap xs n ab dt fs m os fr L R => (datas fs).length < 90000 ∧ ∀ l H', Sl.St (cell l (.lst (((datas fs).drop moved).map V.int)) :: L) H' → Q (.ref l) H'
theorem ok_Sender_init (T : Txt P w K mg base a) : FnOk P w K mg base (L2.CX P w) 1 a.f_Sender_init a.fd_Sender_init ["self", "queue", "ring", "pool"] (sp_Sender_init K a) := by
  refine T.F_Sender_init.okX sc_Sender_init (fun vs H Q E h => A4.len h) (fun cdv A outer s H vs Q E hr h => ?_)
  have hu := hu_of hr
  obtain ⟨v_self, v_queue, v_ring, v_pool, rfl, h⟩ := h
  refine ⟨_, (pss_cons (ps_fld (pv 0) (pv 1) rfl)
    (pss_cons (ps_fld (pv 0) (pv 2) rfl)
    (pss_cons (ps_fld (pv 0) (pv 3) rfl)
    (pss_one (ps_fld (pv 0) pe_int rfl))))), ?_⟩
  obtain ⟨p, dx, qp, rp, pp, L, R, rfl, rfl, rfl, rfl, hs, se, k⟩ := h
  have hs := hs.sel se
  walk_at "x"
  rw [F_Sender_init] at hs
  exact k _ (SdA.I (moved := 0) hs .here)
theorem ok_Sender_can_step (T : Txt P w K mg base a) : FnOk P w K mg base (L2.CX P w) 5 a.f_Sender_can_step a.fd_Sender_can_step ["self"] (sp_Sender_can_step K a) := by
  have G_SlotRing_oldest := ok_SlotRing_oldest T
  have G_TransmitQueue_space := ok_TransmitQueue_space T
  refine T.F_Sender_can_step.okX sc_Sender_can_step (fun vs H Q E h => A1.len h) (fun cdv A outer s H vs Q E hr h => ?_)
  have hu := hu_of hr
  obtain ⟨v_self, rfl, h⟩ := h
  refine ⟨_, (pss_one (ps_ret (pe_and (pe_cmpR op_notN (pe_meth0S (pe_fld (pv 0) rfl) T.cl_SlotRing T.m_SlotRing_oldest G_SlotRing_oldest (hr.mono (by decide)) T.b_SlotRing_oldest (fun σ => passAt (takes_of rfl rfl rfl rfl) σ)) pe_non (nomark _)) (pe_one (pe_cmpR op_gt (pe_meth0S (pe_fld (pv 0) rfl) T.cl_TransmitQueue T.m_TransmitQueue_space G_TransmitQueue_space (hr.mono (by decide)) T.b_TransmitQueue_space (fun σ => passAt (takes_of rfl rfl rfl rfl) σ)) pe_int (nomark _)))))), ?_⟩
  obtain ⟨p, qp, rp, pp, moved, cap, xs, n, ab, dt, fs, m, os, fr, L, R, rfl, hs, se, k⟩ := h
  have hs := hs.sels se
  simp only [List.cons_append, List.nil_append] at hs
  have hU := SdA.U hs .here
  clear hs
  obtain ⟨dx, hs⟩ := hU
  have fin : ∀ H', Sl.St (cell p (.ins a.C_Sender dx (F_Sender (.ref qp) (.ref rp) (.ref pp) (.int moved))) :: TqA a qp cap xs :: SrA a rp n ab dt fs :: PoolA a.C_Pool a.C_Ring pp m os fr :: R) H' → Sl.St L H' := fun H' hs => se.ent'.st (SdA.I hs .here)
  walk_at "x"
  refine a1 ⟨rp, n, ab, dt, fs, _, _, rfl, hs, by walk_at "sel", fun e => ?_, fun x r e t H1 hs => ?_⟩
  · subst e
    walk_at "x"
    refine ⟨rfl, ?_⟩
    walk_at "x"
    exact k _ (fin _ hs)
  · subst e
    walk_at "x"
    refine ⟨rfl, ?_⟩
    walk_at "x"
    refine if_ndT (by exact V.noConfusion) ?_
    walk_at "x"
    refine Rd.a1 ⟨qp, cap, xs, _, _, rfl, hs, by walk_at "sel", ?_⟩
    walk_at "x"
    have := k _ (fin _ (hs.perm (by walk_at "sels")))
    rw [decide_eq_decide.mpr (show ((0 : Int) < (cap : Int) - (xs.length : Int)) ↔ xs.length < cap by omega)]
    exact this
theorem ok_Sender_empty_slot (T : Txt P w K mg base a) : FnOk P w K mg base (L2.CX P w) 6 a.f_Sender_empty_slot a.fd_Sender_empty_slot ["self", "buffer"] (sp_Sender_empty_slot K a) := by
  have G_SlotRing_reap := ok_SlotRing_reap T
  have G_Pool_release := ok_Pool_release T
  refine T.F_Sender_empty_slot.okX sc_Sender_empty_slot (fun vs H Q E h => A2.len h) (fun cdv A outer s H vs Q E hr h => ?_)
  have hu := hu_of hr
  obtain ⟨v_self, v_buffer, rfl, h⟩ := h
  refine ⟨_, (pss_cons (ps_expr (pe_meth0S (pe_fld (pv 0) rfl) T.cl_SlotRing T.m_SlotRing_reap G_SlotRing_reap (hr.mono (by decide)) T.b_SlotRing_reap (fun σ => passAt (takes_of rfl rfl rfl rfl) σ)))
    (pss_cons (ps_expr (pe_methS (pe_fld (pv 0) rfl) T.cl_Pool T.m_Pool_release G_Pool_release (hr.mono (by decide)) T.b_Pool_release (fun σ => passAt (takes_of rfl rfl rfl rfl) σ) (pa_cons (pv 1) pa_nil)))
    (pss_one (ps_fld (pv 0) pe_int rfl)))), ?_⟩
  obtain ⟨p, qp, rp, pp, moved, cap, xs, n, ab, dt, fs, m, os, fr, L, R, rfl, hs, se, b, d, l, r, y, rfl, rfl, ho, k⟩ := h
  have hs := hs.sels se
  simp only [List.cons_append, List.nil_append] at hs
  have hU := SdA.U hs .here
  clear hs
  obtain ⟨dx, hs⟩ := hU
  have hb : b < 256 := by
    obtain ⟨ok, _, z⟩ := PoolA.ok hs (by walk_at "sel")
    have h1 := (List.getElem?_eq_some_iff.mp ho).1
    have h2 := ok.ln
    omega
  have hg : getO os (b : Int) = some y := by
    unfold getO
    rw [if_pos (by omega), Int.toNat_natCast, ho]; rfl
  walk_at "x"
  refine a1 ⟨rp, n, ab, dt, _, _, _, rfl, hs, by walk_at "sel", (fun h => by cases h), fun x r' e t H1 hs2 => ?_⟩
  obtain ⟨rfl, rfl⟩ := List.cons.inj e
  clear hs
  have hs := hs2
  walk_at "x"
  refine c_pool_release hs (by walk_at "sel") (by omega) (fun h => by rw [hg] at h; cases h) fun y' _ H2 hs => ?_
  rw [Int.toNat_natCast] at hs
  walk_at "x"
  have hs := SdA.I0 hs (by walk_at "sel")
  exact k _ (hs.perm (by walk_at "sels"))
theorem ok_Sender_step (T : Txt P w K mg base a) : FnOk P w K mg base (L2.CX P w) 7 a.f_Sender_step a.fd_Sender_step ["self"] (sp_Sender_step K a) := by
  have G_SlotRing_oldest := ok_SlotRing_oldest T
  have G_TransmitQueue_put := ok_TransmitQueue_put T
  have G_Sender_empty_slot := ok_Sender_empty_slot T
  refine T.F_Sender_step.okX sc_Sender_step (fun vs H Q E h => A1.len h) (fun cdv A outer s H vs Q E hr h => ?_)
  have hu := hu_of hr
  obtain ⟨v_self, rfl, h⟩ := h
  refine ⟨_, (pss_cons (ps_asg (pe_meth0S (pe_fld (pv 0) rfl) T.cl_SlotRing T.m_SlotRing_oldest G_SlotRing_oldest (hr.mono (by decide)) T.b_SlotRing_oldest (fun σ => passAt (takes_of rfl rfl rfl rfl) σ)) (pg_tup rfl (pgs_cons (pg_name (i := 1) sc_Sender_step.nd rfl (by first | exact Or.inl rfl | exact Or.inr rfl)) (pgs_cons (pg_name (i := 2) sc_Sender_step.nd rfl (by first | exact Or.inl rfl | exact Or.inr rfl)) (pgs_cons (pg_name (i := 3) sc_Sender_step.nd rfl (by first | exact Or.inl rfl | exact Or.inr rfl)) pgs_nil)))))
    (pss_cons (ps_set (i := 4) sc_Sender_step.nd rfl (by first | exact Or.inl rfl | exact Or.inr rfl) (pe_ix ix_list (pv 2) (pe_fld (pv 0) rfl) (fun _ _ => rfl)))
    (pss_cons (ps_expr (pe_methS (pe_fld (pv 0) rfl) T.cl_TransmitQueue T.m_TransmitQueue_put G_TransmitQueue_put (hr.mono (by decide)) T.b_TransmitQueue_put (fun σ => passAt (takes_of rfl rfl rfl rfl) σ) (pa_cons (pv 4) pa_nil)))
    (pss_cons (ps_fldaug (pv 0) pe_int in_add)
    (Evl.pss_cut (ps_if (pt_cmpR op_eq (pe_fld (pv 0) rfl) (pe_callB call_ln (by rfl) T.g_len (by decide +kernel) (pa_cons (pv 2) pa_nil)) (nomark _)) (pss_one (ps_expr (pe_methS (pv 0) T.cl_Sender T.m_Sender_empty_slot G_Sender_empty_slot (hr.mono (by decide)) T.b_Sender_empty_slot (fun σ => passAt (takes_of rfl rfl rfl rfl) σ) (pa_cons (pv 1) pa_nil)))) pss_nil)
    (pss_one (ps_ret (pv 4)))))))), ?_⟩
  obtain ⟨p, qp, rp, pp, moved, cap, xs, n, ab, dt, fs, m, os, fr, L, R, rfl, hs, se, b, d, l, r, y, z, rfl, ho, hz, hc, k0, k1⟩ := h
  have hs := hs.sels se
  simp only [List.cons_append, List.nil_append] at hs
  have hU := SdA.U hs .here
  clear hs
  obtain ⟨dx, hs⟩ := hU
  walk_at "x"
  refine a1 ⟨rp, n, ab, dt, _, _, _, rfl, hs, by walk_at "sel", (fun h => by cases h), fun x r' e t0 H1 hs2 => ?_⟩
  obtain ⟨rfl, rfl⟩ := List.cons.inj e
  clear hs
  have hU := slotA.U hs2 .here
  clear hs2
  obtain ⟨t, e, et, hs⟩ := hU
  cases et
  walk_at "x"
  refine o_ixL (by walk_at "sg") (atI_nat (by rw [List.getElem?_map, hz]; rfl)) ?_
  walk_at "x"
  refine a2 ⟨qp, cap, xs, _, _, rfl, hs, by walk_at "sel", z, rfl, (fun h => by omega), fun _ H2 hs => ?_⟩
  walk_at "x"
  refine k_augA (m := (moved : Int)) (n := 1) hs (by walk_at "sel") (by walk_at "cls") (by walk_at "noa") (by walk_at "lkp") (by walk_at "ptf") (by walk_at "lnF") (fun _ h => h) fun H3 hs => ?_
  rw [show ((moved : Int) + 1) = ((moved + 1 : Nat) : Int) by simp] at hs
  walk_at "x"
  refine s_cut0 ?_
  walk_at "x"
  rw [List.length_map]
  refine if_d (fun c => ?_) (fun c => ?_)
  · have hs := SdA.I hs (by walk_at "sel")
    walk_at "x"
    refine a2 ⟨p, qp, rp, pp, moved + 1, cap, xs ++ [z], n, ab, dt, _, m, os, fr, _, _, rfl, hs, by walk_at "sels", b, d, l, r, y, rfl, rfl, ho, fun H' hs => ?_⟩
    walk_at "x"
    exact k0 (by have z := int_inj c; exact_mod_cast z) _ (hs.perm (by walk_at "sels"))
  · walk_at "x"
    have hs := SdA.I hs (by walk_at "sel")
    exact k1 (fun e => int_ne c (by exact_mod_cast e)) _ (hs.perm (by walk_at "sels"))
theorem ok_Sender_waiting (T : Txt P w K mg base a) : FnOk P w K mg base (L2.CX P w) 4 a.f_Sender_waiting a.fd_Sender_waiting ["self"] (sp_Sender_waiting K a) := by
  have G_SlotRing_filled_slots := ok_SlotRing_filled_slots T
  refine T.F_Sender_waiting.okX sc_Sender_waiting (fun vs H Q E h => A1.len h) (fun cdv A outer s H vs Q E hr h => ?_)
  have hu := hu_of hr
  obtain ⟨v_self, rfl, h⟩ := h
  refine ⟨_, (pss_cons (ps_set (i := 1) sc_Sender_waiting.nd rfl (by first | exact Or.inl rfl | exact Or.inr rfl) (pe_lst pa_nil))
    (pss_cons (ps_for (passes_of rfl) rfl (pi_list (pe_meth0S (pe_fld (pv 0) rfl) T.cl_SlotRing T.m_SlotRing_filled_slots G_SlotRing_filled_slots (hr.mono (by decide)) T.b_SlotRing_filled_slots (fun σ => passAt (takes_of rfl rfl rfl rfl) σ))) (pg_name (i := 2) sc_Sender_waiting.nd rfl (by first | exact Or.inl rfl | exact Or.inr rfl)) (pss_one (ps_expr (pe_bm PySem.F.plainAttrs_list PySem.F.slot_list_extend PySem.F.type_list_extend mt_extend (pv 1) (pa_cons (pe_ix ix_tup (pv 2) pe_int (fun _ _ => rfl)) pa_nil)))))
    (pss_one (ps_ret (pe_slice sl_list (pv 1) (po_some (pe_fld (pv 0) rfl)) po_none))))), ?_⟩
  obtain ⟨p, qp, rp, pp, moved, cap, xs, n, ab, dt, fs, m, os, fr, L, R, rfl, hs, se, hd, k⟩ := h
  have hs := hs.sels se
  simp only [List.cons_append, List.nil_append] at hs
  have hU := SdA.U hs .here
  clear hs
  obtain ⟨dx, hs⟩ := hU
  have fin : ∀ H', Sl.St (cell p (.ins a.C_Sender dx (F_Sender (.ref qp) (.ref rp) (.ref pp) (.int moved))) :: TqA a qp cap xs :: SrA a rp n ab dt fs :: PoolA a.C_Pool a.C_Ring pp m os fr :: R) H' → Sl.St L H' := fun H' hs => se.ent'.st (SdA.I hs .here)
  walk_at "x"
  rename_i dl H0
  refine a1 ⟨rp, n, ab, dt, fs, _, _, rfl, hs, by walk_at "sel", fun q vs H1 hs => ?_⟩
  walk_at "x"
  have hl := lA.lenS (Pa := slotA) hs (by walk_at "sel")
  refine k_forL (fun i σ H' => ∃ u : Option V, σ = [some (.ref p), some (.ref dl), u] ∧ Sl.St (cell dl (.lst ((datas (fs.take i)).map V.int)) :: cell q (.lst vs) :: lA slotA vs fs :: cell p (.ins a.C_Sender dx (F_Sender (.ref qp) (.ref rp) (.ref pp) (.int moved))) :: TqA a qp cap xs :: SrA a rp n ab dt fs :: PoolA a.C_Pool a.C_Ring pp m os fr :: R) H')
    (by walk_at "sg") ⟨_, rfl, hs.perm (by show Sels (cell dl (.lst []) :: _) _ _; walk_at "sels")⟩ (fun i σ H' _ ⟨_, _, hs⟩ => by walk_at "sg") ?_ ?_
  · clear hs
    rintro i x σ H' hx ⟨u, rfl, hs⟩
    have hi : i < fs.length := by rw [← hl]; exact (List.getElem?_eq_some_iff.mp hx).1
    have hU := lA.outS (Pa := slotA) (xs := fs) hs (by walk_at "sel") (List.getElem?_eq_getElem hi)
    clear hs
    obtain ⟨v, hv, hs⟩ := hU
    cases hv.symm.trans hx
    have hU := slotA.U hs .here
    clear hs
    obtain ⟨t, d, rfl, hs⟩ := hU
    have e1 : datas (fs.take (i + 1)) = datas (fs.take i) ++ fs[i].2.1 := by
      rw [take_snoc (List.getElem?_eq_getElem hi)]
      unfold datas
      rw [List.flatMap_append, List.flatMap_cons, List.flatMap_nil, List.append_nil]
    have e2 : (datas (fs.take i)).length + fs[i].2.1.length ≤ (datas fs).length := by
      rw [← List.length_append, ← e1]
      conv => rhs; rw [← List.take_append_drop (i + 1) fs]
      unfold datas
      rw [List.flatMap_append, List.length_append]
      omega
    walk_at "x"
    rw [← List.map_append, ← e1] at hs
    have hs := slotA.I (s := fs[i]) hs (by walk_at "sels")
    have hs := lA.backE (Pa := slotA) hs .here (by walk_at "sel") (List.getElem?_eq_getElem hi) hv
    exact ⟨_, rfl, hs.perm (by walk_at "sels")⟩
  · rintro σ H' ⟨u, rfl, hs⟩
    rw [hl, List.take_length] at hs
    walk_at "x"
    rw [show (some (moved : Int)) = some ((moved : Nat) : Int) from rfl, cut_drop, ← List.map_drop] at hs
    have finE : Ent (cell p (.ins a.C_Sender dx (F_Sender (.ref qp) (.ref rp) (.ref pp) (.int moved))) :: TqA a qp cap xs :: SrA a rp n ab dt fs :: PoolA a.C_Pool a.C_Ring pp m os fr :: R) L :=
      (ent_ex (P := fun dx => cell p (.ins a.C_Sender dx (F_Sender (.ref qp) (.ref rp) (.ref pp) (.int moved)))) dx).trans se.ent'
    exact k _ _ ((Ent.cons finE).st (hs.perm (by walk_at "sels")))
end
end My
set_option Elab.async false
set_option maxRecDepth 100000
set_option maxHeartbeats 100000000
set_option linter.all false
namespace My
open PySem L2 Sx Rd Sl
local macro_rules | `(tactic| walk_at "ne") => `(tactic| (first | with_reducible assumption | with_reducible exact Ne.symm (by with_reducible assumption)))
local macro_rules | `(tactic| walk_at "nin") => `(tactic| (simp only [List.mem_cons, List.not_mem_nil, or_false, not_or, not_false_eq_true]; (repeat' refine And.intro ?_ ?_); (all_goals walk_at "ne")))
local macro_rules | `(tactic| walk_at "hl") => `(tactic| (first | (with_reducible assumption) | exact upd_same | ((with_reducible refine' (upd_ne ?hne).trans ?hgo); (case hne => walk_at "ne"); (case hgo => walk_at "hl"))))
local macro_rules | `(tactic| walk_at "sq") => `(tactic| (first | (with_reducible assumption) | exact Or.inl (Or.inl (by walk_at "hl"))))
local macro_rules | `(tactic| walk_at "ar") => `(tactic| (first | omega | exact ⟨by omega, by omega⟩ | exact Or.inl ⟨by omega, by omega⟩ | exact Or.inr ⟨by omega, by omega⟩ | (show (0 : Int) < _; omega) | (show (0 : Int) < _ ∧ _ < (1073741824 : Int); omega)))
local macro_rules | `(tactic| walk_at "cls") => `(tactic| (first | exact Txt.cl_Sender (by assumption) | exact Txt.cl_Ring (by assumption) | exact Txt.cl_Pool (by assumption) | exact Txt.cl_TransmitQueue (by assumption) | exact Txt.cl_SlotRing (by assumption)))
local macro_rules | `(tactic| walk_at "noa") => `(tactic| (first | exact Txt.n_Sender_queue (by assumption) | exact Txt.n_Sender_ring (by assumption) | exact Txt.n_Sender_pool (by assumption) | exact Txt.n_Sender_moved (by assumption) | exact Txt.n_Ring_cells (by assumption) | exact Txt.n_Ring_written (by assumption) | exact Txt.n_Ring_taken (by assumption) | exact Txt.n_Pool_owners (by assumption) | exact Txt.n_Pool_free (by assumption) | exact Txt.n_TransmitQueue_capacity (by assumption) | exact Txt.n_TransmitQueue_bytes (by assumption) | exact Txt.n_SlotRing_slots (by assumption) | exact Txt.n_SlotRing_armed (by assumption) | exact Txt.n_SlotRing_filled (by assumption) | exact Txt.n_SlotRing_added (by assumption)))
local macro_rules | `(tactic| walk_at "lkp") => `(tactic| (first | (with_reducible exact F_Sender_queue_l) | (with_reducible exact F_Sender_ring_l) | (with_reducible exact F_Sender_pool_l) | (with_reducible exact F_Sender_moved_l) | (with_reducible exact F_Ring_cells_l) | (with_reducible exact F_Ring_written_l) | (with_reducible exact F_Ring_taken_l) | (with_reducible exact F_Pool_owners_l) | (with_reducible exact F_Pool_free_l) | (with_reducible exact F_TransmitQueue_capacity_l) | (with_reducible exact F_TransmitQueue_bytes_l) | (with_reducible exact F_SlotRing_slots_l) | (with_reducible exact F_SlotRing_armed_l) | (with_reducible exact F_SlotRing_filled_l) | (with_reducible exact F_SlotRing_added_l)))
local macro_rules | `(tactic| walk_at "ptf") => `(tactic| (first | (with_reducible exact F_Sender_queue_p) | (with_reducible exact F_Sender_ring_p) | (with_reducible exact F_Sender_pool_p) | (with_reducible exact F_Sender_moved_p) | (with_reducible exact F_Ring_cells_p) | (with_reducible exact F_Ring_written_p) | (with_reducible exact F_Ring_taken_p) | (with_reducible exact F_Pool_owners_p) | (with_reducible exact F_Pool_free_p) | (with_reducible exact F_TransmitQueue_capacity_p) | (with_reducible exact F_TransmitQueue_bytes_p) | (with_reducible exact F_SlotRing_slots_p) | (with_reducible exact F_SlotRing_armed_p) | (with_reducible exact F_SlotRing_filled_p) | (with_reducible exact F_SlotRing_added_p) | exact rfl))
local macro_rules | `(tactic| walk_at "lnF") => `(tactic| (first | (with_reducible exact F_Sender_len) | (with_reducible exact F_Ring_len) | (with_reducible exact F_Pool_len) | (with_reducible exact F_TransmitQueue_len) | (with_reducible exact F_SlotRing_len) | (refine PL.lt (n := 60) ?_ (by decide); (repeat refine PL.put ?_); exact PL.nil) | decide))
local macro_rules | `(tactic| walk_at "nol") => `(tactic| (first | (with_reducible exact F_Sender_m_can_step) | (with_reducible exact F_Sender_m_step) | (with_reducible exact F_Sender_m_waiting) | (with_reducible exact F_Sender_m_empty_slot) | (with_reducible exact F_Ring_m_held) | (with_reducible exact F_Ring_m_is_full) | (with_reducible exact F_Ring_m_put) | (with_reducible exact F_Ring_m_first) | (with_reducible exact F_Ring_m_take) | (with_reducible exact F_Ring_m_listed) | (with_reducible exact F_Ring_m_next) | (with_reducible exact F_Pool_m_free) | (with_reducible exact F_Pool_m_owner) | (with_reducible exact F_Pool_m_held) | (with_reducible exact F_Pool_m_acquire) | (with_reducible exact F_Pool_m_release) | (with_reducible exact F_Pool_m_may_acquire) | (with_reducible exact F_Pool_m_exists) | (with_reducible exact F_TransmitQueue_m_put) | (with_reducible exact F_TransmitQueue_m_take) | (with_reducible exact F_TransmitQueue_m_space) | (with_reducible exact F_TransmitQueue_m_contents) | (with_reducible exact F_SlotRing_m_can_arm) | (with_reducible exact F_SlotRing_m_arm) | (with_reducible exact F_SlotRing_m_open_slot) | (with_reducible exact F_SlotRing_m_open_bytes) | (with_reducible exact F_SlotRing_m_open_count) | (with_reducible exact F_SlotRing_m_add) | (with_reducible exact F_SlotRing_m_close) | (with_reducible exact F_SlotRing_m_oldest) | (with_reducible exact F_SlotRing_m_reap) | (with_reducible exact F_SlotRing_m_filled_slots) | (with_reducible exact F_SlotRing_m_buffers)))
local macro_rules | `(tactic| walk_at "r1") => `(tactic| (first
  | with_reducible apply l_cons | ((with_reducible apply e_var); (case h => exact rfl)) | with_reducible apply l_nil | with_reducible apply s_seq | with_reducible apply e_c | with_reducible apply g_name
  | with_reducible apply s_asg | with_reducible apply e_call | with_reducible apply k_t | with_reducible apply e_op | with_reducible apply e_cb | with_reducible apply t_test
  | with_reducible apply s_if | with_reducible apply t_or | with_reducible apply t_and | with_reducible apply t_B | with_reducible apply s_next | with_reducible apply p_some
  | with_reducible apply p_no | with_reducible apply e_sl | with_reducible apply k_i | with_reducible apply e_lst | with_reducible apply t_not | with_reducible apply o_I0
  | ((with_reducible refine' o_I ?hc ?_); (case hc => walk_at "ar")) | with_reducible apply e_meth | ((with_reducible refine' k_meth ?h1 ?h2 ?_); (case h1 => walk_at "hl"); (case h2 => walk_at "nol")) | with_reducible apply e_fld | ((with_reducible refine' k_fld ?h1 ?h2 ?h3 ?h4 ?_); (case h1 => walk_at "hl"); (case h2 => walk_at "cls"); (case h3 => walk_at "noa"); (case h4 => walk_at "lkp")) | with_reducible apply e_not
  | with_reducible apply s_ret | ((with_reducible refine' k_ty ?h1 ?_); (case h1 => walk_at "sq")) | with_reducible apply s_drop | with_reducible apply s_retN | with_reducible apply s_cont | with_reducible apply s_break
  | with_reducible apply o_chC | ((with_reducible refine' o_chV ?hv ?_); (case hv => exact rfl)) | with_reducible apply e_un | with_reducible apply o_U | ((with_reducible refine' o_eq ?hs ?_); (case hs => exact rfl)) | ((with_reducible refine' o_ne ?hs ?_); (case hs => exact rfl))
  | ((with_reducible refine' o_ixL ?h1 ?h2 ?_); (case h1 => walk_at "sq"); (case h2 => first | exact rfl | exact atI_zero _ _)) | with_reducible apply s_fld | with_reducible apply e_make | ((with_reducible refine' k_set ?h1 ?h2 ?h3 ?h4 ?h5 ?_); (case h1 => walk_at "hl"); (case h2 => walk_at "cls"); (case h3 => walk_at "noa"); (case h4 => walk_at "ptf"); (case h5 => walk_at "lnF")) | with_reducible apply e_tup | with_reducible apply e_bm
  | with_reducible apply e_bm0 | with_reducible apply e_if | with_reducible apply e_chain | with_reducible apply s_raise | with_reducible apply g_sub | ((with_reducible refine' c_ln ?h1 ?_); (case h1 => walk_at "sq"))
  | ((with_reducible refine' c_pop0 ?h1 ?h2 ?_); (case h1 => walk_at "hl"); (case h2 => omega)) | with_reducible apply c_isBool | with_reducible apply c_isInt | with_reducible apply c_isBoolN | with_reducible apply c_isTupI | with_reducible apply c_isNonB
  | with_reducible apply c_isNonT | ((with_reducible refine' c_isList ?h1 ?_); (case h1 => walk_at "hl")) | ((with_reducible refine' c_isTup ?h1 ?_); (case h1 => walk_at "hl")) | ((with_reducible refine' c_isTupB ?h1 ?_); (case h1 => walk_at "hl")) | with_reducible apply o_isB | with_reducible apply o_notB
  | with_reducible apply e_and | with_reducible apply e_or | with_reducible apply k_bl | with_reducible apply e_xf | with_reducible apply s_augS | ((with_reducible refine' s_augV ?hv ?_); (case hv => exact rfl))
  | with_reducible apply ip_I | with_reducible apply e_lcE | ((with_reducible refine' k_xf ?h1 ?h2 ?_); (case h1 => walk_at "hl"); (case h2 => exact look_hit _ _ _)) | ((with_reducible refine' o_slL ?h1 ?_); (case h1 => walk_at "sq")) | ((with_reducible refine' k_dget ?h1 ?h2 ?_); (case h1 => walk_at "hl"); (case h2 => with_reducible assumption)) | with_reducible apply e_dget
  | with_reducible apply s_dput | with_reducible apply e_makeK | with_reducible apply g_cons | with_reducible apply g_nil | with_reducible apply c_ab | with_reducible apply c_in
  | with_reducible apply c_mx | with_reducible apply c_mn | with_reducible apply a1 | with_reducible apply a2 | with_reducible apply a3 | with_reducible apply a4
  | with_reducible apply a5 | with_reducible apply a6 | with_reducible apply a0 | with_reducible apply t_tru | with_reducible apply t_yes | ((with_reducible refine' k_truL ?h1 ?_); (case h1 => walk_at "sq")) | with_reducible refine d_nx ?_ | with_reducible refine d_rt ?_ | with_reducible refine d_bk ?_
  | with_reducible refine d_ct ?_))
local macro_rules | `(tactic| walk_at "r") => `(tactic| (repeat walk_at "r1"))
local macro_rules | `(tactic| walk_at "sel") => `(tactic| (first | with_reducible exact Sl.Sel.here | ((with_reducible refine' Sl.Sel.there ?t); (case t => walk_at "sel"))))
local macro_rules | `(tactic| walk_at "sels") => `(tactic| (first | with_reducible exact Sl.Sels.nil | ((with_reducible refine' Sl.Sels.cons ?a ?b); (case a => walk_at "sel"); (case b => walk_at "sels")) | with_reducible exact Sl.Sels.all _ | ((with_reducible refine' Sl.Sels.skip ?t); (case t => walk_at "sels"))))
local macro_rules | `(tactic| walk_at "selm") => `(tactic| ((try (simp only [])); (try simp only [List.map_append, List.map_cons, List.map_nil]); walk_at "sels"))
local macro_rules | `(tactic| walk_at "hg") => do
  let h := Lean.mkIdent `hs
  `(tactic| (first | (with_reducible assumption) | ((with_reducible refine' Sl.St.get $h ?s); (case s => walk_at "sel")) | ((with_reducible refine' Sl.St.geti $h ?s); (case s => walk_at "sel"))))
local macro_rules | `(tactic| walk_at "sg") => do
  let h := Lean.mkIdent `hs
  `(tactic| (first | (with_reducible assumption) | exact Or.inl (Or.inl (by walk_at "hg")) | (refine' Sl.sqA.U $h ?s; (case s => walk_at "sel"))))
local macro_rules | `(tactic| walk_at "le5") => `(tactic| (first | omega | (simp only [List.length_cons, List.length_nil, List.length_append, List.length_map]; omega) | (show _ ≤ _; decide) | (show _ < _; decide)))
local macro_rules | `(tactic| walk_at "km") => `(tactic| fail)
local macro_rules | `(tactic| walk_at "kf") => `(tactic| fail)
local macro_rules | `(tactic| walk_at "x1") => do
  let h := Lean.mkIdent `hs
  `(tactic| (first
  | with_reducible apply l_cons | ((with_reducible apply e_var); (case h => exact rfl)) | with_reducible apply l_nil | with_reducible apply s_seq | with_reducible apply e_c | with_reducible apply g_name
  | with_reducible apply s_asg | with_reducible apply e_call | with_reducible apply k_t | with_reducible apply e_op | with_reducible apply e_cb | with_reducible apply t_test
  | with_reducible apply s_if | with_reducible apply t_or | with_reducible apply t_and | with_reducible apply t_B | with_reducible apply s_next | with_reducible apply p_some
  | with_reducible apply p_no | with_reducible apply e_sl | with_reducible apply k_i | with_reducible apply Sl.e_lstS | with_reducible apply t_not | with_reducible apply o_I0
  | ((with_reducible refine' o_I ?hc ?_); (case hc => walk_at "ar")) | with_reducible apply e_meth | ((with_reducible refine' k_meth ?h1 ?h2 ?_); (case h1 => walk_at "hg"); (case h2 => walk_at "nol")) | walk_at "km" | with_reducible apply e_fld
  | ((with_reducible refine' k_fld ?h1 ?h2 ?h3 ?h4 ?_); (case h1 => walk_at "hg"); (case h2 => walk_at "cls"); (case h3 => walk_at "noa"); (case h4 => walk_at "lkp")) | walk_at "kf" | with_reducible apply e_not
  | with_reducible apply s_ret | ((with_reducible refine' k_ty ?h1 ?_); (case h1 => walk_at "sg")) | with_reducible apply s_drop | with_reducible apply s_retN | with_reducible apply s_cont | with_reducible apply s_break
  | with_reducible apply o_chC | ((with_reducible refine' o_chV ?hv ?_); (case hv => exact rfl)) | with_reducible apply e_un | with_reducible apply o_U | ((with_reducible refine' o_eq ?hs ?_); (case hs => exact rfl)) | ((with_reducible refine' o_ne ?hs ?_); (case hs => exact rfl))
  | ((with_reducible refine' o_ixL ?h1 ?h2 ?_); (case h1 => walk_at "sg"); (case h2 => first | exact rfl | exact atI_zero _ _)) | ((with_reducible refine' o_ixT ?h1 ?h2 ?_); (case h1 => walk_at "sg"); (case h2 => first | exact rfl | exact atI_zero _ _)) | with_reducible apply s_fld | with_reducible apply Sl.e_makeS
  | ((with_reducible refine' Sl.k_setS $h ?h1 ?h2 ?h3 ?h4 ?h5 ?_); (case h1 => walk_at "sel"); (case h2 => walk_at "cls"); (case h3 => walk_at "noa"); (case h4 => walk_at "ptf"); (case h5 => walk_at "lnF"); (clear $h; intro _ $h)) | with_reducible apply Sl.e_tupS | with_reducible apply e_bm
  | with_reducible apply e_bm0 | with_reducible apply e_if | with_reducible apply e_chain | with_reducible apply s_raise | with_reducible apply g_sub | ((with_reducible refine' c_ln ?h1 ?_); (case h1 => walk_at "sg")) | ((with_reducible refine' c_lnT ?h1 ?_); (case h1 => walk_at "sg"))
  | ((with_reducible refine' Sl.k_newL $h ?h1 ?_); (case h1 => walk_at "le5"); (clear $h; intro _ _ $h)) | ((with_reducible refine' Sl.k_newT $h ?h1 ?_); (case h1 => walk_at "le5"); (clear $h; intro _ _ $h)) | ((with_reducible refine' Sl.k_make $h ?_); (clear $h; intro _ _ _ $h))
  | ((with_reducible refine' Sl.c_appS $h ?h1 ?h2 ?_); (case h1 => walk_at "sel"); (case h2 => walk_at "le5"); (clear $h; intro _ $h)) | ((with_reducible refine' Sl.c_pop0S $h ?h1 ?h2 ?_); (case h1 => walk_at "sel"); (case h2 => walk_at "le5"); (clear $h; intro _ $h))
  | ((with_reducible refine' Sl.c_lsS $h ?h1 ?_); (case h1 => walk_at "sg"); (clear $h; intro _ _ $h)) | ((with_reducible refine' Sl.o_slLS $h ?h1 ?_); (case h1 => walk_at "sg"); (clear $h; intro _ _ $h)) | ((with_reducible refine' Sl.c_clrS $h ?h1 ?_); (case h1 => walk_at "sel"); (clear $h; intro _ $h))
  | ((with_reducible refine' Sl.o_catS $h ?h1 ?h2 ?h3 ?_); (case h1 => walk_at "hg"); (case h2 => walk_at "hg"); (case h3 => walk_at "le5"); (clear $h; intro _ _ $h)) | ((with_reducible refine' Sl.c_extS $h ?h1 ?h2 ?h3 ?_); (case h1 => walk_at "sel"); (case h2 => walk_at "hg"); (case h3 => walk_at "le5"); (clear $h; intro _ $h))
  | ((with_reducible refine' Sl.k_raise $h ?h1 ?_); (case h1 => exact okV_int ⟨by omega, by omega⟩); (clear $h; intro _ _ $h))
  | with_reducible apply c_isBool | with_reducible apply c_isInt | with_reducible apply c_isBoolN | with_reducible apply c_isTupI | with_reducible apply c_isNonB
  | with_reducible apply c_isNonT | ((with_reducible refine' c_isList ?h1 ?_); (case h1 => walk_at "hg")) | ((with_reducible refine' c_isTup ?h1 ?_); (case h1 => walk_at "hg")) | ((with_reducible refine' c_isTupB ?h1 ?_); (case h1 => walk_at "hg")) | with_reducible apply o_isB | with_reducible apply o_notB
  | with_reducible apply e_and | with_reducible apply e_or | with_reducible apply k_bl | with_reducible apply e_xf | with_reducible apply s_augS | ((with_reducible refine' s_augV ?hv ?_); (case hv => exact rfl)) | with_reducible apply Sl.s_aug
  | with_reducible apply ip_I | with_reducible apply e_lcE | with_reducible apply e_lcL | with_reducible apply f_lst | with_reducible apply e_lcF | with_reducible apply f_rng1 | ((with_reducible refine' k_xf ?h1 ?h2 ?_); (case h1 => walk_at "hg"); (case h2 => exact look_hit _ _ _)) | ((with_reducible refine' k_dget ?h1 ?h2 ?_); (case h1 => walk_at "hg"); (case h2 => with_reducible assumption)) | with_reducible apply e_dget
  | with_reducible apply s_dput | with_reducible apply Sl.e_makeKS | with_reducible apply g_cons | with_reducible apply g_nil | ((with_reducible refine' g_tup ?h1 ?h2 ?_); (case h1 => walk_at "sg"); (case h2 => exact rfl)) | with_reducible apply c_ab | with_reducible apply c_in
  | with_reducible apply c_mx | with_reducible apply c_mn | with_reducible apply a1 | with_reducible apply a2 | with_reducible apply a3 | with_reducible apply a4
  | with_reducible apply a5 | with_reducible apply a6 | with_reducible apply a0 | with_reducible apply t_tru | with_reducible apply t_yes | ((with_reducible refine' k_truL ?h1 ?_); (case h1 => walk_at "sg")) | with_reducible refine d_nx ?_ | with_reducible refine d_rt ?_ | with_reducible refine d_bk ?_
  | with_reducible refine d_ct ?_))
local macro_rules | `(tactic| walk_at "x") => `(tactic| (repeat walk_at "x1"))
local macro_rules | `(tactic| walk_at "km") => do let h := Lean.mkIdent `hs; `(tactic| ((with_reducible refine' km_Ring $h ?s ?m ?_); (case s => walk_at "sel"); (case m => intros; walk_at "nol")))
local macro_rules | `(tactic| walk_at "km") => do let h := Lean.mkIdent `hs; `(tactic| ((with_reducible refine' km_SlotRing $h ?s ?m ?_); (case s => walk_at "sel"); (case m => intros; walk_at "nol")))
local macro_rules | `(tactic| walk_at "km") => do let h := Lean.mkIdent `hs; `(tactic| ((with_reducible refine' km_Pool $h ?s ?m ?_); (case s => walk_at "sel"); (case m => intros; walk_at "nol")))
local macro_rules | `(tactic| walk_at "km") => do let h := Lean.mkIdent `hs; `(tactic| ((with_reducible refine' km_Tq $h ?s ?m ?_); (case s => walk_at "sel"); (case m => intros; walk_at "nol")))
local macro_rules | `(tactic| walk_at "km") => do let h := Lean.mkIdent `hs; `(tactic| ((with_reducible refine' km_Sd $h ?s ?m ?_); (case s => walk_at "sel"); (case m => intros; walk_at "nol")))
section
variable {P : Program} {w : World} {K : PySem.W.Frag} {mg : Str → Option Value} {base : Heap} {a : Ads}
/-! ### the law's own lists -/
abbrev Bf := Int × List Int
def bufA (v : V) (s : Bf) : As := ex fun l => ex fun d => Sl.all [pur (v = .ref l), cell l (.lst [.int s.1, .ref d]), cell d (.lst (s.2.map V.int))]
def restF (fw : List Bf) : List Int := fw.flatMap fun s => s.2
def WsA (pw : Addr) (fw : List Bf) (xs sent : List Int) (fr : List Nat) (put : List Int) (sl : Addr) : As := ex fun fl => ex fun ql => ex fun rl => ex fun ul => ex fun vs => Sl.all [cell pw (.lst [.ref fl, .ref ql, .ref sl, .ref rl, .ref ul]), cell fl (.lst vs), lA bufA vs fw, cell ql (.lst (xs.map V.int)), cell sl (.lst (sent.map V.int)), cell rl (.lst (fr.map nv)), cell ul (.lst (put.map V.int))]
section
variable {L R : List As} {H : Hp} {v : V} {s : Bf} {pw sl : Addr} {fw : List Bf} {xs sent put : List Int} {fr : List Nat}
theorem bufA.U (hs : Sl.St L H) (se : Sel (bufA v s) L R) : ∃ l d, v = .ref l ∧ Sl.St (cell l (.lst [.int s.1, .ref d]) :: cell d (.lst (s.2.map V.int)) :: R) H := by
  obtain ⟨l, h⟩ := (hs.sel se).exU
  obtain ⟨d, h⟩ := h.exU
  obtain ⟨e, h⟩ := h.allU.purU
  exact ⟨l, d, e, h⟩
theorem bufA.I {l d : Addr} (hs : Sl.St L H) (se : Sels [cell l (.lst [.int s.1, .ref d]), cell d (.lst (s.2.map V.int))] L R) : Sl.St (bufA (.ref l) s :: R) H :=
  Sl.St.exI l (Sl.St.exI d (Sl.St.allI (L := [_, _, _]) (Sl.St.purI rfl (hs.sels se))))
theorem WsA.U (hs : Sl.St L H) (se : Sel (WsA pw fw xs sent fr put sl) L R) : ∃ fl ql rl ul vs, vs.length = fw.length ∧ Sl.St (cell pw (.lst [.ref fl, .ref ql, .ref sl, .ref rl, .ref ul]) :: cell fl (.lst vs) :: lA bufA vs fw :: cell ql (.lst (xs.map V.int)) :: cell sl (.lst (sent.map V.int)) :: cell rl (.lst (fr.map nv)) :: cell ul (.lst (put.map V.int)) :: R) H := by
  obtain ⟨fl, h⟩ := (hs.sel se).exU
  obtain ⟨ql, h⟩ := h.exU
  obtain ⟨rl, h⟩ := h.exU
  obtain ⟨ul, h⟩ := h.exU
  obtain ⟨vs, h⟩ := h.exU
  have h := h.allU
  exact ⟨fl, ql, rl, ul, vs, lA.lenS h (.there (.there .here)), h⟩
theorem WsA.I {fl ql rl ul : Addr} {vs : List V} (hs : Sl.St L H) (se : Sels [cell pw (.lst [.ref fl, .ref ql, .ref sl, .ref rl, .ref ul]), cell fl (.lst vs), lA bufA vs fw, cell ql (.lst (xs.map V.int)), cell sl (.lst (sent.map V.int)), cell rl (.lst (fr.map nv)), cell ul (.lst (put.map V.int))] L R) : Sl.St (WsA pw fw xs sent fr put sl :: R) H :=
  Sl.St.exI fl (Sl.St.exI ql (Sl.St.exI rl (Sl.St.exI ul (Sl.St.exI vs (Sl.St.allI (L := [_, _, _, _, _, _, _]) (hs.sels se))))))
end
/-- the law's filled slots, from the ring's -/
def fwOf (fs : List Slt) (moved : Nat) : List Bf := match fs with
  | [] => []
  | s :: r => (s.1, s.2.1.drop moved) :: r.map fun t => (t.1, t.2.1)
theorem fwOf_fst (fs : List Slt) (moved : Nat) : (fwOf fs moved).map (·.1) = fs.map (·.1) := by
  cases fs <;> simp [fwOf, Function.comp_def]
theorem fwOf_rest (fs : List Slt) (moved : Nat) (h : ∀ s r, fs = s :: r → moved ≤ s.2.1.length) : restF (fwOf fs moved) = (datas fs).drop moved := by
  cases fs with
  | nil => simp [fwOf, restF, datas]
  | cons s r =>
    have := h s r rfl
    simp only [fwOf, restF, datas, List.flatMap_cons, List.flatMap_map]
    rw [List.drop_append_of_le_length this]
theorem fwOf_len (fs : List Slt) (moved : Nat) : (fwOf fs moved).length = fs.length := by cases fs <;> simp [fwOf]
/-- what holds between the deeds -/
structure SnOk (n : Nat) (fs : List Slt) (moved : Nat) (os : List (Option Int)) (xs sent put : List Int) : Prop where
  mv : ∀ s r, fs = s :: r → moved < s.2.1.length
  m0 : fs = [] → moved = 0
  ow : ∀ s ∈ fs, ∃ b : Nat, s.1 = b ∧ os[b]? = some (some 4)
  nd : (fs.map (·.1)).Nodup
  ln : ∀ s ∈ fs, 1 ≤ s.2.1.length ∧ s.2.1.length ≤ 16
  pt : sent ++ xs ++ (datas fs).drop moved = put
def SnL (a : Ads) (p qp rp pp pw sl : Addr) (cap n m : Nat) (moved : Nat) (fs : List Slt) (os : List (Option Int)) (fr : List Nat) (xs sent put : List Int) : List As :=
  [SdA a p qp rp pp moved, TqA a qp cap xs, SrA a rp n [] [] fs, PoolA a.C_Pool a.C_Ring pp m os fr, WsA pw (fwOf fs moved) xs sent fr put sl]
def SnA (a : Ads) (p qp rp pp pw sl : Addr) (cap n m : Nat) (moved : Nat) (fs : List Slt) (os : List (Option Int)) (fr : List Nat) (xs sent put : List Int) : As := Sl.all (SnL a p qp rp pp pw sl cap n m moved fs os fr xs sent put)
section
variable {L M : List As} {H : Hp} {p qp rp pp pw sl : Addr} {cap n m moved : Nat} {fs : List Slt} {os : List (Option Int)} {fr : List Nat} {xs sent put : List Int}
theorem SnA.U (hs : Sl.St L H) (se : Sel (SnA a p qp rp pp pw sl cap n m moved fs os fr xs sent put) L M) : Sl.St (SdA a p qp rp pp moved :: TqA a qp cap xs :: SrA a rp n [] [] fs :: PoolA a.C_Pool a.C_Ring pp m os fr :: WsA pw (fwOf fs moved) xs sent fr put sl :: M) H := Sl.St.allU (L := [_, _, _, _, _]) (hs.sel se)
theorem SnA.I (hs : Sl.St L H) (se : Sels [SdA a p qp rp pp moved, TqA a qp cap xs, SrA a rp n [] [] fs, PoolA a.C_Pool a.C_Ring pp m os fr, WsA pw (fwOf fs moved) xs sent fr put sl] L M) : Sl.St (SnA a p qp rp pp pw sl cap n m moved fs os fr xs sent put :: M) H := Sl.St.allI (L := [_, _, _, _, _]) (hs.sels se)
end
theorem fwOf_zero (fs : List Slt) : fwOf fs 0 = fs.map fun t => (t.1, t.2.1) := by cases fs <;> simp [fwOf]
theorem datas_len {fs : List Slt} (h : ∀ s ∈ fs, 1 ≤ s.2.1.length ∧ s.2.1.length ≤ 16) : (datas fs).length ≤ 16 * fs.length := by
  induction fs with
  | nil => simp [datas]
  | cons s r ih =>
    have h1 := h s (by simp)
    have h2 := ih fun x hx => h x (by simp [hx])
    simp only [datas, List.flatMap_cons, List.length_append, List.length_cons] at h2 ⊢
    omega
def sp_law_rest (K : PySem.W.Frag) (a : Ads) : Sp := A1 fun v H Q E => ∃ (fl : Addr) (vs : List V) (fw : List Bf) (L R : List As), v = .ref fl ∧ Sl.St L H ∧ Sels [cell fl (.lst vs), lA bufA vs fw] L R ∧ (restF fw).length < 90000 ∧ fw.length < 1000 ∧ ∀ q H', Sl.St (cell q (.lst ((restF fw).map V.int)) :: cell fl (.lst vs) :: lA bufA vs fw :: R) H' → Q (.ref q) H'
def sp_law_steps (K : PySem.W.Frag) (a : Ads) : Sp := A3 fun s c w H Q E => ∃ (p qp rp pp pw sl : Addr) (cap n m moved : Nat) (fs : List Slt) (os : List (Option Int)) (fr : List Nat) (xs sent put : List Int) (L M : List As), s = .ref p ∧ c = .int cap ∧ w = .ref pw ∧ Sl.St L H ∧ Sel (SnA a p qp rp pp pw sl cap n m moved fs os fr xs sent put) L M ∧
  SnOk n fs moved os xs sent put ∧ ∀ moved' fs' os' fr' xs' H', SnOk n fs' moved' os' xs' sent put → Sl.St (SnA a p qp rp pp pw sl cap n m moved' fs' os' fr' xs' sent put :: M) H' → Q (.bl true) H'
def sp_law_agrees (K : PySem.W.Frag) (a : Ads) : Sp := A5 fun s q r z w H Q E => ∃ (p qp rp pp pw sl : Addr) (cap n m moved : Nat) (fs : List Slt) (os : List (Option Int)) (fr : List Nat) (xs sent put : List Int) (L M : List As), s = .ref p ∧ q = .ref qp ∧ r = .ref rp ∧ z = .ref pp ∧ w = .ref pw ∧ Sl.St L H ∧ Sel (SnA a p qp rp pp pw sl cap n m moved fs os fr xs sent put) L M ∧
  SnOk n fs moved os xs sent put ∧ put.length < 90000 ∧ ∀ H', Sl.St (SnA a p qp rp pp pw sl cap n m moved fs os fr xs sent put :: M) H' → Q (.bl true) H'
def sp_law_fills (K : PySem.W.Frag) (a : Ads) : Sp := A5 fun s r z c w H Q E => ∃ (st p qp rp pp pw sl : Addr) (cap n m moved : Nat) (fs : List Slt) (os : List (Option Int)) (fr : List Nat) (xs sent put : List Int) (L M : List As), s = .ref st ∧ r = .ref rp ∧ z = .ref pp ∧ c = .int n ∧ w = .ref pw ∧ Sl.St L H ∧ Sels [StA st, SnA a p qp rp pp pw sl cap n m moved fs os fr xs sent put] L M ∧
  SnOk n fs moved os xs sent put ∧ put.length < 80000 ∧ ∀ fs' os' fr' put' H', SnOk n fs' moved os' xs sent put' → put'.length ≤ put.length + 16 → Sl.St (StA st :: SnA a p qp rp pp pw sl cap n m moved fs' os' fr' xs sent put' :: M) H' → Q (.bl true) H'
theorem SnOk.le {n : Nat} {fs : List Slt} {moved : Nat} {os : List (Option Int)} {xs sent put : List Int} (o : SnOk n fs moved os xs sent put) : ∀ s r, fs = s :: r → moved ≤ s.2.1.length := fun s r e => Nat.le_of_lt (o.mv s r e)
/-- one byte moved -/
theorem SnOk.step {n : Nat} {b : Nat} {d : List Int} {l : Int} {r : List Slt} {moved : Nat} {os : List (Option Int)} {xs sent put : List Int} {z : Int} (o : SnOk n (((b : Int), d, l) :: r) moved os xs sent put) (hz : d[moved]? = some z) :
    (moved + 1 = d.length → SnOk n r 0 (os.set b none) (xs ++ [z]) sent put) ∧ (moved + 1 ≠ d.length → SnOk n (((b : Int), d, l) :: r) (moved + 1) os (xs ++ [z]) sent put) := by
  obtain ⟨mv, m0, ow, nd, ln, pt⟩ := o
  have hm := mv _ _ rfl
  simp only at hm
  obtain ⟨hi, hz'⟩ := List.getElem?_eq_some_iff.mp hz
  have hd : d.drop moved = z :: d.drop (moved + 1) := by rw [← hz', List.getElem_cons_drop]
  have hdat : (datas (((b : Int), d, l) :: r)).drop moved = z :: (d.drop (moved + 1) ++ datas r) := by
    simp only [datas, List.flatMap_cons]
    rw [List.drop_append_of_le_length (by omega), hd]; rfl
  rw [hdat] at pt
  constructor
  · intro h
    have hdn : d.drop (moved + 1) = [] := by rw [h]; exact List.drop_length
    rw [hdn] at pt
    simp only [List.map_cons, List.nodup_cons] at nd
    refine ⟨fun s r' e => by have := (ln s (by rw [e]; simp)).1; omega, fun _ => rfl, fun s hs => ?_, nd.2, fun s hs => ln s (by simp [hs]), by rw [List.drop_zero, ← pt]; simp⟩
    obtain ⟨b', e1, e2⟩ := ow s (by simp [hs])
    refine ⟨b', e1, ?_⟩
    rw [List.getElem?_set_ne (fun e => nd.1 ?_)]
    · exact e2
    · subst e
      rw [← e1]
      exact List.mem_map.mpr ⟨s, hs, rfl⟩
  · intro h
    refine ⟨fun s r' e => by obtain ⟨rfl, rfl⟩ := List.cons.inj e; simp only; omega, fun e => (by cases e), ow, nd, ln, ?_⟩
    rw [← pt]
    simp only [datas, List.flatMap_cons]
    rw [List.drop_append_of_le_length (by omega)]
    simp
theorem ok_law_rest (T : Txt P w K mg base a) : FnOk P w K mg base (L2.CX P w) 1 a.f_law_rest a.fd_law_rest ["filled"] (sp_law_rest K a) := by
  refine T.F_law_rest.okX sc_law_rest (fun vs H Q E h => A1.len h) (fun cdv A outer s H vs Q E hr h => ?_)
  have hu := hu_of hr
  obtain ⟨v_filled, rfl, h⟩ := h
  refine ⟨_, (pss_cons (ps_set (i := 1) sc_law_rest.nd rfl (by first | exact Or.inl rfl | exact Or.inr rfl) (pe_lst pa_nil))
    (pss_cons (ps_for (passes_of rfl) rfl (pi_list (pv 0)) (pg_name (i := 2) sc_law_rest.nd rfl (by first | exact Or.inl rfl | exact Or.inr rfl)) (pss_one (ps_set (i := 1) sc_law_rest.nd rfl (by first | exact Or.inl rfl | exact Or.inr rfl) (pe_op op_cat (pv 1) (pe_ix ix_list (pv 2) pe_int (fun _ _ => rfl))))))
    (pss_one (ps_ret (pv 1))))), ?_⟩
  obtain ⟨fl, vs, fw, L, R, rfl, hs, se, hr, hw, k⟩ := h
  have hs := hs.sels se
  simp only [List.cons_append, List.nil_append] at hs
  have hl := lA.lenS (Pa := bufA) hs (.there .here)
  walk_at "x"
  rename_i q0 H0
  refine k_forL (fun i σ H' => ∃ (q : Addr) (u : Option V), σ = [some (.ref fl), some (.ref q), u] ∧ Sl.St (cell q (.lst ((restF (fw.take i)).map V.int)) :: cell fl (.lst vs) :: lA bufA vs fw :: R) H') (by walk_at "sg") ⟨q0, _, rfl, hs⟩ (fun i σ H' _ ⟨_, _, _, hs⟩ => by walk_at "sg") ?_ ?_
  · clear hs
    rintro i x σ H' hx ⟨q, u, rfl, hs⟩
    have hi : i < fw.length := by rw [← hl]; exact (List.getElem?_eq_some_iff.mp hx).1
    have hU := lA.outS (Pa := bufA) (xs := fw) hs (by walk_at "sel") (List.getElem?_eq_getElem hi)
    clear hs
    obtain ⟨v, hv, hs⟩ := hU
    cases hv.symm.trans hx
    have hU := bufA.U hs .here
    clear hs
    obtain ⟨l, d, rfl, hs⟩ := hU
    have e1 : restF (fw.take (i + 1)) = restF (fw.take i) ++ fw[i].2 := by
      rw [take_snoc (List.getElem?_eq_getElem hi)]
      unfold restF
      rw [List.flatMap_append, List.flatMap_cons, List.flatMap_nil, List.append_nil]
    have e2 : (restF (fw.take i)).length + fw[i].2.length ≤ (restF fw).length := by
      rw [← List.length_append, ← e1]
      conv => rhs; rw [← List.take_append_drop (i + 1) fw]
      unfold restF
      rw [List.flatMap_append, List.length_append]
      omega
    walk_at "x"
    rw [← List.map_append, ← e1] at hs
    have hs := bufA.I (s := fw[i]) hs (by walk_at "sels")
    have hs := lA.backE (Pa := bufA) hs .here (by walk_at "sel") (List.getElem?_eq_getElem hi) hv
    exact ⟨_, _, rfl, hs.perm (by walk_at "sels")⟩
  · rintro σ H' ⟨q, u, rfl, hs⟩
    rw [hl, List.take_length] at hs
    walk_at "x"
    exact k _ _ hs
theorem ok_law_steps (T : Txt P w K mg base a) : FnOk P w K mg base (L2.CX P w) 8 a.f_law_steps a.fd_law_steps ["sender", "capacity", "world"] (sp_law_steps K a) := by
  have G_Sender_can_step := ok_Sender_can_step T
  have G_Sender_step := ok_Sender_step T
  refine T.F_law_steps.okX sc_law_steps (fun vs H Q E h => A3.len h) (fun cdv A outer s H vs Q E hr h => ?_)
  have hu := hu_of hr
  obtain ⟨v_sender, v_capacity, v_world, rfl, h⟩ := h
  refine ⟨_, (pss_cons (ps_set (i := 3) sc_law_steps.nd rfl (by first | exact Or.inl rfl | exact Or.inr rfl) (pe_ix ix_list (pv 2) pe_int (fun _ _ => rfl)))
    (pss_cons (ps_set (i := 4) sc_law_steps.nd rfl (by first | exact Or.inl rfl | exact Or.inr rfl) (pe_ix ix_list (pv 2) pe_int (fun _ _ => rfl)))
    (pss_cons (ps_set (i := 5) sc_law_steps.nd rfl (by first | exact Or.inl rfl | exact Or.inr rfl) (pe_ix ix_list (pv 2) pe_int (fun _ _ => rfl)))
    (pss_cons (ps_set (i := 6) sc_law_steps.nd rfl (by first | exact Or.inl rfl | exact Or.inr rfl) (pe_meth0S (pv 0) T.cl_Sender T.m_Sender_can_step G_Sender_can_step (hr.mono (by decide)) T.b_Sender_can_step (fun σ => passAt (takes_of rfl rfl rfl rfl) σ)))
    (pss_cons (ps_if (PW.pt (pw_or (pt_not (pt_val (pe_callB call_isi (by rfl) T.g_isinstance (by decide +kernel) (pa_cons (pv 6) (pa_cons (pe_bltn (v := .ty "bool") rfl T.g_bool (by decide +kernel) rfl) pa_nil))))) (pw_or1 (pt_cmpR op_ne (pv 6) (pe_and (pe_cmpR op_gt (pe_callB call_ln (by rfl) T.g_len (by decide +kernel) (pa_cons (pv 3) pa_nil)) pe_int (nomark _)) (pe_one (pe_cmpR op_lt (pe_callB call_ln (by rfl) T.g_len (by decide +kernel) (pa_cons (pv 4) pa_nil)) (pv 1) (nomark _)))) (nomark _))))) (pss_one (ps_ret pe_bl)) pss_nil)
    (pss_cons (ps_if (pt_not (pt_val (pv 6))) (pss_one (ps_ret pe_bl)) pss_nil)
    (pss_cons (ps_set (i := 7) sc_law_steps.nd rfl (by first | exact Or.inl rfl | exact Or.inr rfl) (pe_meth0S (pv 0) T.cl_Sender T.m_Sender_step G_Sender_step (hr.mono (by decide)) T.b_Sender_step (fun σ => passAt (takes_of rfl rfl rfl rfl) σ)))
    (pss_cons (ps_set (i := 8) sc_law_steps.nd rfl (by first | exact Or.inl rfl | exact Or.inr rfl) (pe_ix ix_list (pe_ix ix_list (pv 3) pe_int (fun _ _ => rfl)) pe_int (fun _ _ => rfl)))
    (pss_cons (ps_set (i := 9) sc_law_steps.nd rfl (by first | exact Or.inl rfl | exact Or.inr rfl) (pe_bm PySem.F.plainAttrs_list PySem.F.slot_list_pop PySem.F.type_list_pop mt_popAt (pv 8) (pa_cons pe_int pa_nil)))
    (pss_cons (ps_expr (pe_bm PySem.F.plainAttrs_list PySem.F.slot_list_append PySem.F.type_list_append mt_append (pv 4) (pa_cons (pv 9) pa_nil)))
    (Evl.pss_cut (ps_if (pt_cmpR op_eq (pe_callB call_ln (by rfl) T.g_len (by decide +kernel) (pa_cons (pv 8) pa_nil)) pe_int (nomark _)) (pss_one (ps_expr (pe_bm PySem.F.plainAttrs_list PySem.F.slot_list_append PySem.F.type_list_append mt_append (pv 5) (pa_cons (pe_ix ix_list (pe_bm PySem.F.plainAttrs_list PySem.F.slot_list_pop PySem.F.type_list_pop mt_popAt (pv 3) (pa_cons pe_int pa_nil)) pe_int (fun _ _ => rfl)) pa_nil)))) pss_nil)
    (pss_one (ps_ret (pe_and (pe_not (pe_callB call_isi (by rfl) T.g_isinstance (by decide +kernel) (pa_cons (pv 7) (pa_cons (pe_bltn (v := .ty "bool") rfl T.g_bool (by decide +kernel) rfl) pa_nil)))) (pe_one (pe_cmpR op_eq (pv 7) (pv 9) (nomark _))))))))))))))))), ?_⟩
  obtain ⟨p, qp, rp, pp, pw, sl, cap, n, m, moved, fs, os, fr, xs, sent, put, L, M, rfl, rfl, rfl, hs, se, ok, k⟩ := h
  have hs := SnA.U hs se
  obtain ⟨_, _, lx, lc1, lc2, _⟩ := TqA.U hs (by walk_at "sel")
  obtain ⟨_, _, _, _, _, lfs, _, nz, _⟩ := SrA.U hs (by walk_at "sel")
  obtain ⟨pok, _, lm⟩ := PoolA.ok hs (by walk_at "sel")
  have hfr : fr.length ≤ m := nd_len pok.nd pok.lt
  have hU := WsA.U hs (by walk_at "sel")
  clear hs
  obtain ⟨fl, ql, rl, ul, vs, hl, hs⟩ := hU
  rw [fwOf_len] at hl
  have fin : ∀ H', Sl.St (SdA a p qp rp pp moved :: TqA a qp cap xs :: SrA a rp n [] [] fs :: PoolA a.C_Pool a.C_Ring pp m os fr :: WsA pw (fwOf fs moved) xs sent fr put sl :: M) H' → Q (.bl true) H' := fun H' hs => k moved fs os fr xs H' ok (SnA.I hs (by walk_at "sels"))
  walk_at "x"
  refine a1 ⟨p, qp, rp, pp, moved, cap, xs, n, [], [], fs, m, os, fr, _, _, rfl, hs, by walk_at "sels", fun H1 hs => ?_⟩
  walk_at "x"
  refine iteF ?_
  walk_at "x"
  rw [hl]
  by_cases hb : fs = [] ∨ ¬ xs.length < cap
  · have e : (!fs.isEmpty && decide (xs.length < cap)) = false := by
      rcases hb with h | h
      · rw [h]; rfl
      · rw [decide_eq_false h, Bool.and_false]
    rw [e]
    refine if_d (fun c => ?_) (fun c => ?_)
    · have hx : ¬ xs.length < cap := hb.resolve_left fun e => by rw [e] at c; simp at c
      walk_at "x"
      rw [List.length_map]
      refine if_ndF (by rw [decide_eq_false (by omega)]) ?_
      walk_at "x"
      refine iteT ?_
      walk_at "x"
      have hs := WsA.I (xs := xs) (sent := sent) (fr := fr) (put := put) hs (by walk_at "sels")
      exact fin _ (hs.perm (by walk_at "sels"))
    · walk_at "x"
      refine iteF ?_
      walk_at "x"
      refine iteT ?_
      walk_at "x"
      have hs := WsA.I (xs := xs) (sent := sent) (fr := fr) (put := put) hs (by walk_at "sels")
      exact fin _ (hs.perm (by walk_at "sels"))
  · have hf0 : fs ≠ [] := fun e => hb (.inl e)
    have hxc : xs.length < cap := Decidable.not_not.mp fun e => hb (.inr e)
    have e : (!fs.isEmpty && decide (xs.length < cap)) = true := by
      rw [decide_eq_true hxc, Bool.and_true]
      cases fs with
      | nil => exact absurd rfl hf0
      | cons _ _ => rfl
    rw [e]
    obtain ⟨⟨b0, d, l⟩, r, ef⟩ := List.exists_cons_of_ne_nil hf0
    obtain ⟨b, eb, hob⟩ := ok.ow (b0, d, l) (by rw [ef]; simp)
    simp only at eb
    subst eb
    have hmv : moved < d.length := ok.mv _ _ ef
    obtain ⟨z, hz⟩ : ∃ z, d[moved]? = some z := ⟨_, List.getElem?_eq_getElem hmv⟩
    obtain ⟨hi, hz'⟩ := List.getElem?_eq_some_iff.mp hz
    have hdd : d.drop moved = z :: d.drop (moved + 1) := by rw [← hz', List.getElem_cons_drop]
    have hst := (ef ▸ ok : SnOk n (((b : Int), d, l) :: r) moved os xs sent put).step hz
    have hdl := (ok.ln _ (by rw [ef]; simp : (((b : Nat) : Int), d, l) ∈ fs)).2
    simp only at hdl
    refine if_dT (by rw [ef]; simp <;> omega) ?_
    walk_at "x"
    rw [List.length_map]
    refine if_ndF (by rw [decide_eq_true (by omega)]) ?_
    walk_at "x"
    refine iteF ?_
    walk_at "x"
    refine a1 ⟨p, qp, rp, pp, moved, cap, xs, n, [], [], fs, m, os, fr, _, _, rfl, hs, by walk_at "sels", b, d, l, r, 4, z, ef, hob, hz, hxc, fun hd H1 hs => ?_, fun hd H1 hs => ?_⟩
    · rw [show fwOf fs moved = ((b : Int), z :: d.drop (moved + 1)) :: r.map (fun t => (t.1, t.2.1)) by rw [ef]; simp only [fwOf]; rw [hdd]] at hs
      have hU := lA.unS (Pa := bufA) (vs := vs) hs (by walk_at "sel")
      clear hs
      obtain ⟨v, ws, rfl, hs⟩ := hU
      have hU := bufA.U hs .here
      clear hs
      obtain ⟨bl, bd, rfl, hs⟩ := hU
      simp only [List.map_cons] at hs
      have hd2 : (List.map V.int (d.drop (moved + 1))).length < 100000 := by simp; omega
      simp only [List.length_cons] at hl
      have hws : ws.length < 100000 := by
        have := congrArg List.length ef
        simp at this
        omega
      walk_at "x"
      refine s_cut0 ?_
      walk_at "x"
      have hd0 : d.drop (moved + 1) = [] := by rw [hd]; exact List.drop_length
      rw [hd0] at hs ⊢
      refine if_dT rfl ?_
      walk_at "x"
      refine iteT ?_
      walk_at "x"
      rw [decide_eq_true (rfl : V.int z = V.int z)]
      have hs := WsA.I (fw := fwOf r 0) (xs := xs ++ [z]) (sent := sent) (fr := fr ++ [b]) (put := put) (vs := ws) hs (by rw [fwOf_zero]; walk_at "selm")
      exact k 0 r _ _ _ _ (hst.1 hd) ((SnA.I hs (by walk_at "sels")).perm (by walk_at "sels"))
    · rw [show fwOf fs moved = ((b : Int), z :: d.drop (moved + 1)) :: r.map (fun t => (t.1, t.2.1)) by rw [ef]; simp only [fwOf]; rw [hdd]] at hs
      have hU := lA.unS (Pa := bufA) (vs := vs) hs (by walk_at "sel")
      clear hs
      obtain ⟨v, ws, rfl, hs⟩ := hU
      have hU := bufA.U hs .here
      clear hs
      obtain ⟨bl, bd, rfl, hs⟩ := hU
      simp only [List.map_cons] at hs
      have hd2 : (List.map V.int (d.drop (moved + 1))).length < 100000 := by simp; omega
      walk_at "x"
      refine s_cut0 ?_
      walk_at "x"
      refine if_dF (fun e => hd (by have e2 := int_inj e; simp at e2; omega)) ?_
      walk_at "x"
      refine iteT ?_
      walk_at "x"
      rw [decide_eq_true (rfl : V.int z = V.int z)]
      have hs := bufA.I (s := ((b : Int), d.drop (moved + 1))) hs (by walk_at "sels")
      have hs := lA.consS (Pa := bufA) (x := ((b : Int), d.drop (moved + 1))) (xs := r.map fun t => (t.1, t.2.1)) hs .here (by walk_at "sel")
      rw [show ((b : Int), d.drop (moved + 1)) :: r.map (fun t => (t.1, t.2.1)) = fwOf fs (moved + 1) by rw [ef]; rfl] at hs
      have hs := WsA.I (xs := xs ++ [z]) (sent := sent) (fr := fr) (put := put) hs (by walk_at "selm")
      exact k (moved + 1) fs _ _ _ _ (ef ▸ hst.2 hd) ((SnA.I hs (by walk_at "sels")).perm (by walk_at "sels"))
end
end My
set_option Elab.async false
set_option maxRecDepth 100000
set_option maxHeartbeats 100000000
set_option linter.all false
namespace My
open PySem L2 Sx Rd Sl
local macro_rules | `(tactic| walk_at "ne") => `(tactic| (first | with_reducible assumption | with_reducible exact Ne.symm (by with_reducible assumption)))
local macro_rules | `(tactic| walk_at "nin") => `(tactic| (simp only [List.mem_cons, List.not_mem_nil, or_false, not_or, not_false_eq_true]; (repeat' refine And.intro ?_ ?_); (all_goals walk_at "ne")))
local macro_rules | `(tactic| walk_at "hl") => `(tactic| (first | (with_reducible assumption) | exact upd_same | ((with_reducible refine' (upd_ne ?hne).trans ?hgo); (case hne => walk_at "ne"); (case hgo => walk_at "hl"))))
local macro_rules | `(tactic| walk_at "sq") => `(tactic| (first | (with_reducible assumption) | exact Or.inl (Or.inl (by walk_at "hl"))))
local macro_rules | `(tactic| walk_at "ar") => `(tactic| (first | omega | exact ⟨by omega, by omega⟩ | exact Or.inl ⟨by omega, by omega⟩ | exact Or.inr ⟨by omega, by omega⟩ | (show (0 : Int) < _; omega) | (show (0 : Int) < _ ∧ _ < (1073741824 : Int); omega)))
local macro_rules | `(tactic| walk_at "cls") => `(tactic| (first | exact Txt.cl_Sender (by assumption) | exact Txt.cl_Ring (by assumption) | exact Txt.cl_Pool (by assumption) | exact Txt.cl_TransmitQueue (by assumption) | exact Txt.cl_SlotRing (by assumption)))
local macro_rules | `(tactic| walk_at "noa") => `(tactic| (first | exact Txt.n_Sender_queue (by assumption) | exact Txt.n_Sender_ring (by assumption) | exact Txt.n_Sender_pool (by assumption) | exact Txt.n_Sender_moved (by assumption) | exact Txt.n_Ring_cells (by assumption) | exact Txt.n_Ring_written (by assumption) | exact Txt.n_Ring_taken (by assumption) | exact Txt.n_Pool_owners (by assumption) | exact Txt.n_Pool_free (by assumption) | exact Txt.n_TransmitQueue_capacity (by assumption) | exact Txt.n_TransmitQueue_bytes (by assumption) | exact Txt.n_SlotRing_slots (by assumption) | exact Txt.n_SlotRing_armed (by assumption) | exact Txt.n_SlotRing_filled (by assumption) | exact Txt.n_SlotRing_added (by assumption)))
local macro_rules | `(tactic| walk_at "lkp") => `(tactic| (first | (with_reducible exact F_Sender_queue_l) | (with_reducible exact F_Sender_ring_l) | (with_reducible exact F_Sender_pool_l) | (with_reducible exact F_Sender_moved_l) | (with_reducible exact F_Ring_cells_l) | (with_reducible exact F_Ring_written_l) | (with_reducible exact F_Ring_taken_l) | (with_reducible exact F_Pool_owners_l) | (with_reducible exact F_Pool_free_l) | (with_reducible exact F_TransmitQueue_capacity_l) | (with_reducible exact F_TransmitQueue_bytes_l) | (with_reducible exact F_SlotRing_slots_l) | (with_reducible exact F_SlotRing_armed_l) | (with_reducible exact F_SlotRing_filled_l) | (with_reducible exact F_SlotRing_added_l)))
local macro_rules | `(tactic| walk_at "ptf") => `(tactic| (first | (with_reducible exact F_Sender_queue_p) | (with_reducible exact F_Sender_ring_p) | (with_reducible exact F_Sender_pool_p) | (with_reducible exact F_Sender_moved_p) | (with_reducible exact F_Ring_cells_p) | (with_reducible exact F_Ring_written_p) | (with_reducible exact F_Ring_taken_p) | (with_reducible exact F_Pool_owners_p) | (with_reducible exact F_Pool_free_p) | (with_reducible exact F_TransmitQueue_capacity_p) | (with_reducible exact F_TransmitQueue_bytes_p) | (with_reducible exact F_SlotRing_slots_p) | (with_reducible exact F_SlotRing_armed_p) | (with_reducible exact F_SlotRing_filled_p) | (with_reducible exact F_SlotRing_added_p) | exact rfl))
local macro_rules | `(tactic| walk_at "lnF") => `(tactic| (first | (with_reducible exact F_Sender_len) | (with_reducible exact F_Ring_len) | (with_reducible exact F_Pool_len) | (with_reducible exact F_TransmitQueue_len) | (with_reducible exact F_SlotRing_len) | (refine PL.lt (n := 60) ?_ (by decide); (repeat refine PL.put ?_); exact PL.nil) | decide))
local macro_rules | `(tactic| walk_at "nol") => `(tactic| (first | (with_reducible exact F_Sender_m_can_step) | (with_reducible exact F_Sender_m_step) | (with_reducible exact F_Sender_m_waiting) | (with_reducible exact F_Sender_m_empty_slot) | (with_reducible exact F_Ring_m_held) | (with_reducible exact F_Ring_m_is_full) | (with_reducible exact F_Ring_m_put) | (with_reducible exact F_Ring_m_first) | (with_reducible exact F_Ring_m_take) | (with_reducible exact F_Ring_m_listed) | (with_reducible exact F_Ring_m_next) | (with_reducible exact F_Pool_m_free) | (with_reducible exact F_Pool_m_owner) | (with_reducible exact F_Pool_m_held) | (with_reducible exact F_Pool_m_acquire) | (with_reducible exact F_Pool_m_release) | (with_reducible exact F_Pool_m_may_acquire) | (with_reducible exact F_Pool_m_exists) | (with_reducible exact F_TransmitQueue_m_put) | (with_reducible exact F_TransmitQueue_m_take) | (with_reducible exact F_TransmitQueue_m_space) | (with_reducible exact F_TransmitQueue_m_contents) | (with_reducible exact F_SlotRing_m_can_arm) | (with_reducible exact F_SlotRing_m_arm) | (with_reducible exact F_SlotRing_m_open_slot) | (with_reducible exact F_SlotRing_m_open_bytes) | (with_reducible exact F_SlotRing_m_open_count) | (with_reducible exact F_SlotRing_m_add) | (with_reducible exact F_SlotRing_m_close) | (with_reducible exact F_SlotRing_m_oldest) | (with_reducible exact F_SlotRing_m_reap) | (with_reducible exact F_SlotRing_m_filled_slots) | (with_reducible exact F_SlotRing_m_buffers)))
local macro_rules | `(tactic| walk_at "r1") => `(tactic| (first
  | with_reducible apply l_cons | ((with_reducible apply e_var); (case h => exact rfl)) | with_reducible apply l_nil | with_reducible apply s_seq | with_reducible apply e_c | with_reducible apply g_name
  | with_reducible apply s_asg | with_reducible apply e_call | with_reducible apply k_t | with_reducible apply e_op | with_reducible apply e_cb | with_reducible apply t_test
  | with_reducible apply s_if | with_reducible apply t_or | with_reducible apply t_and | with_reducible apply t_B | with_reducible apply s_next | with_reducible apply p_some
  | with_reducible apply p_no | with_reducible apply e_sl | with_reducible apply k_i | with_reducible apply e_lst | with_reducible apply t_not | with_reducible apply o_I0
  | ((with_reducible refine' o_I ?hc ?_); (case hc => walk_at "ar")) | with_reducible apply e_meth | ((with_reducible refine' k_meth ?h1 ?h2 ?_); (case h1 => walk_at "hl"); (case h2 => walk_at "nol")) | with_reducible apply e_fld | ((with_reducible refine' k_fld ?h1 ?h2 ?h3 ?h4 ?_); (case h1 => walk_at "hl"); (case h2 => walk_at "cls"); (case h3 => walk_at "noa"); (case h4 => walk_at "lkp")) | with_reducible apply e_not
  | with_reducible apply s_ret | ((with_reducible refine' k_ty ?h1 ?_); (case h1 => walk_at "sq")) | with_reducible apply s_drop | with_reducible apply s_retN | with_reducible apply s_cont | with_reducible apply s_break
  | with_reducible apply o_chC | ((with_reducible refine' o_chV ?hv ?_); (case hv => exact rfl)) | with_reducible apply e_un | with_reducible apply o_U | ((with_reducible refine' o_eq ?hs ?_); (case hs => exact rfl)) | ((with_reducible refine' o_ne ?hs ?_); (case hs => exact rfl))
  | ((with_reducible refine' o_ixL ?h1 ?h2 ?_); (case h1 => walk_at "sq"); (case h2 => first | exact rfl | exact atI_zero _ _)) | with_reducible apply s_fld | with_reducible apply e_make | ((with_reducible refine' k_set ?h1 ?h2 ?h3 ?h4 ?h5 ?_); (case h1 => walk_at "hl"); (case h2 => walk_at "cls"); (case h3 => walk_at "noa"); (case h4 => walk_at "ptf"); (case h5 => walk_at "lnF")) | with_reducible apply e_tup | with_reducible apply e_bm
  | with_reducible apply e_bm0 | with_reducible apply e_if | with_reducible apply e_chain | with_reducible apply s_raise | with_reducible apply g_sub | ((with_reducible refine' c_ln ?h1 ?_); (case h1 => walk_at "sq"))
  | ((with_reducible refine' c_pop0 ?h1 ?h2 ?_); (case h1 => walk_at "hl"); (case h2 => omega)) | with_reducible apply c_isBool | with_reducible apply c_isInt | with_reducible apply c_isBoolN | with_reducible apply c_isTupI | with_reducible apply c_isNonB
  | with_reducible apply c_isNonT | ((with_reducible refine' c_isList ?h1 ?_); (case h1 => walk_at "hl")) | ((with_reducible refine' c_isTup ?h1 ?_); (case h1 => walk_at "hl")) | ((with_reducible refine' c_isTupB ?h1 ?_); (case h1 => walk_at "hl")) | with_reducible apply o_isB | with_reducible apply o_notB
  | with_reducible apply e_and | with_reducible apply e_or | with_reducible apply k_bl | with_reducible apply e_xf | with_reducible apply s_augS | ((with_reducible refine' s_augV ?hv ?_); (case hv => exact rfl))
  | with_reducible apply ip_I | with_reducible apply e_lcE | ((with_reducible refine' k_xf ?h1 ?h2 ?_); (case h1 => walk_at "hl"); (case h2 => exact look_hit _ _ _)) | ((with_reducible refine' o_slL ?h1 ?_); (case h1 => walk_at "sq")) | ((with_reducible refine' k_dget ?h1 ?h2 ?_); (case h1 => walk_at "hl"); (case h2 => with_reducible assumption)) | with_reducible apply e_dget
  | with_reducible apply s_dput | with_reducible apply e_makeK | with_reducible apply g_cons | with_reducible apply g_nil | with_reducible apply c_ab | with_reducible apply c_in
  | with_reducible apply c_mx | with_reducible apply c_mn | with_reducible apply a1 | with_reducible apply a2 | with_reducible apply a3 | with_reducible apply a4
  | with_reducible apply a5 | with_reducible apply a6 | with_reducible apply a0 | with_reducible apply t_tru | with_reducible apply t_yes | ((with_reducible refine' k_truL ?h1 ?_); (case h1 => walk_at "sq")) | with_reducible refine d_nx ?_ | with_reducible refine d_rt ?_ | with_reducible refine d_bk ?_
  | with_reducible refine d_ct ?_))
local macro_rules | `(tactic| walk_at "r") => `(tactic| (repeat walk_at "r1"))
local macro_rules | `(tactic| walk_at "sel") => `(tactic| (first | with_reducible exact Sl.Sel.here | ((with_reducible refine' Sl.Sel.there ?t); (case t => walk_at "sel"))))
local macro_rules | `(tactic| walk_at "sels") => `(tactic| (first | with_reducible exact Sl.Sels.nil | ((with_reducible refine' Sl.Sels.cons ?a ?b); (case a => walk_at "sel"); (case b => walk_at "sels")) | with_reducible exact Sl.Sels.all _ | ((with_reducible refine' Sl.Sels.skip ?t); (case t => walk_at "sels"))))
local macro_rules | `(tactic| walk_at "selm") => `(tactic| ((try (simp only [])); (try simp only [List.map_append, List.map_cons, List.map_nil]); walk_at "sels"))
local macro_rules | `(tactic| walk_at "hg") => do
  let h := Lean.mkIdent `hs
  `(tactic| (first | (with_reducible assumption) | ((with_reducible refine' Sl.St.get $h ?s); (case s => walk_at "sel")) | ((with_reducible refine' Sl.St.geti $h ?s); (case s => walk_at "sel"))))
local macro_rules | `(tactic| walk_at "sg") => do
  let h := Lean.mkIdent `hs
  `(tactic| (first | (with_reducible assumption) | exact Or.inl (Or.inl (by walk_at "hg")) | (refine' Sl.sqA.U $h ?s; (case s => walk_at "sel"))))
local macro_rules | `(tactic| walk_at "le5") => `(tactic| (first | omega | (simp only [List.length_cons, List.length_nil, List.length_append, List.length_map]; omega) | (show _ ≤ _; decide) | (show _ < _; decide)))
local macro_rules | `(tactic| walk_at "km") => `(tactic| fail)
local macro_rules | `(tactic| walk_at "kf") => `(tactic| fail)
local macro_rules | `(tactic| walk_at "x1") => do
  let h := Lean.mkIdent `hs
  `(tactic| (first
  | with_reducible apply l_cons | ((with_reducible apply e_var); (case h => exact rfl)) | with_reducible apply l_nil | with_reducible apply s_seq | with_reducible apply e_c | with_reducible apply g_name
  | with_reducible apply s_asg | with_reducible apply e_call | with_reducible apply k_t | with_reducible apply e_op | with_reducible apply e_cb | with_reducible apply t_test
  | with_reducible apply s_if | with_reducible apply t_or | with_reducible apply t_and | with_reducible apply t_B | with_reducible apply s_next | with_reducible apply p_some
  | with_reducible apply p_no | with_reducible apply e_sl | with_reducible apply k_i | with_reducible apply Sl.e_lstS | with_reducible apply t_not | with_reducible apply o_I0
  | ((with_reducible refine' o_I ?hc ?_); (case hc => walk_at "ar")) | with_reducible apply e_meth | ((with_reducible refine' k_meth ?h1 ?h2 ?_); (case h1 => walk_at "hg"); (case h2 => walk_at "nol")) | walk_at "km" | with_reducible apply e_fld
  | ((with_reducible refine' k_fld ?h1 ?h2 ?h3 ?h4 ?_); (case h1 => walk_at "hg"); (case h2 => walk_at "cls"); (case h3 => walk_at "noa"); (case h4 => walk_at "lkp")) | walk_at "kf" | with_reducible apply e_not
  | with_reducible apply s_ret | ((with_reducible refine' k_ty ?h1 ?_); (case h1 => walk_at "sg")) | with_reducible apply s_drop | with_reducible apply s_retN | with_reducible apply s_cont | with_reducible apply s_break
  | with_reducible apply o_chC | ((with_reducible refine' o_chV ?hv ?_); (case hv => exact rfl)) | with_reducible apply e_un | with_reducible apply o_U | ((with_reducible refine' o_eq ?hs ?_); (case hs => exact rfl)) | ((with_reducible refine' o_ne ?hs ?_); (case hs => exact rfl))
  | ((with_reducible refine' o_ixL ?h1 ?h2 ?_); (case h1 => walk_at "sg"); (case h2 => first | exact rfl | exact atI_zero _ _)) | ((with_reducible refine' o_ixT ?h1 ?h2 ?_); (case h1 => walk_at "sg"); (case h2 => first | exact rfl | exact atI_zero _ _)) | with_reducible apply s_fld | with_reducible apply Sl.e_makeS
  | ((with_reducible refine' Sl.k_setS $h ?h1 ?h2 ?h3 ?h4 ?h5 ?_); (case h1 => walk_at "sel"); (case h2 => walk_at "cls"); (case h3 => walk_at "noa"); (case h4 => walk_at "ptf"); (case h5 => walk_at "lnF"); (clear $h; intro _ $h)) | with_reducible apply Sl.e_tupS | with_reducible apply e_bm
  | with_reducible apply e_bm0 | with_reducible apply e_if | with_reducible apply e_chain | with_reducible apply s_raise | with_reducible apply g_sub | ((with_reducible refine' c_ln ?h1 ?_); (case h1 => walk_at "sg")) | ((with_reducible refine' c_lnT ?h1 ?_); (case h1 => walk_at "sg"))
  | ((with_reducible refine' Sl.k_newL $h ?h1 ?_); (case h1 => walk_at "le5"); (clear $h; intro _ _ $h)) | ((with_reducible refine' Sl.k_newT $h ?h1 ?_); (case h1 => walk_at "le5"); (clear $h; intro _ _ $h)) | ((with_reducible refine' Sl.k_make $h ?_); (clear $h; intro _ _ _ $h))
  | ((with_reducible refine' Sl.c_appS $h ?h1 ?h2 ?_); (case h1 => walk_at "sel"); (case h2 => walk_at "le5"); (clear $h; intro _ $h)) | ((with_reducible refine' Sl.c_pop0S $h ?h1 ?h2 ?_); (case h1 => walk_at "sel"); (case h2 => walk_at "le5"); (clear $h; intro _ $h))
  | ((with_reducible refine' Sl.c_lsS $h ?h1 ?_); (case h1 => walk_at "sg"); (clear $h; intro _ _ $h)) | ((with_reducible refine' Sl.o_slLS $h ?h1 ?_); (case h1 => walk_at "sg"); (clear $h; intro _ _ $h)) | ((with_reducible refine' Sl.c_clrS $h ?h1 ?_); (case h1 => walk_at "sel"); (clear $h; intro _ $h))
  | ((with_reducible refine' Sl.o_catS $h ?h1 ?h2 ?h3 ?_); (case h1 => walk_at "hg"); (case h2 => walk_at "hg"); (case h3 => walk_at "le5"); (clear $h; intro _ _ $h)) | ((with_reducible refine' Sl.c_extS $h ?h1 ?h2 ?h3 ?_); (case h1 => walk_at "sel"); (case h2 => walk_at "hg"); (case h3 => walk_at "le5"); (clear $h; intro _ $h))
  | ((with_reducible refine' Sl.k_raise $h ?h1 ?_); (case h1 => exact okV_int ⟨by omega, by omega⟩); (clear $h; intro _ _ $h))
  | with_reducible apply c_isBool | with_reducible apply c_isInt | with_reducible apply c_isBoolN | with_reducible apply c_isTupI | with_reducible apply c_isNonB
  | with_reducible apply c_isNonT | ((with_reducible refine' c_isList ?h1 ?_); (case h1 => walk_at "hg")) | ((with_reducible refine' c_isTup ?h1 ?_); (case h1 => walk_at "hg")) | ((with_reducible refine' c_isTupB ?h1 ?_); (case h1 => walk_at "hg")) | with_reducible apply o_isB | with_reducible apply o_notB
  | with_reducible apply e_and | with_reducible apply e_or | with_reducible apply k_bl | with_reducible apply e_xf | with_reducible apply s_augS | ((with_reducible refine' s_augV ?hv ?_); (case hv => exact rfl)) | with_reducible apply Sl.s_aug
  | with_reducible apply ip_I | with_reducible apply e_lcE | with_reducible apply e_lcL | with_reducible apply f_lst | with_reducible apply e_lcF | with_reducible apply f_rng1 | ((with_reducible refine' k_xf ?h1 ?h2 ?_); (case h1 => walk_at "hg"); (case h2 => exact look_hit _ _ _)) | ((with_reducible refine' k_dget ?h1 ?h2 ?_); (case h1 => walk_at "hg"); (case h2 => with_reducible assumption)) | with_reducible apply e_dget
  | with_reducible apply s_dput | with_reducible apply Sl.e_makeKS | with_reducible apply g_cons | with_reducible apply g_nil | ((with_reducible refine' g_tup ?h1 ?h2 ?_); (case h1 => walk_at "sg"); (case h2 => exact rfl)) | with_reducible apply c_ab | with_reducible apply c_in
  | with_reducible apply c_mx | with_reducible apply c_mn | with_reducible apply a1 | with_reducible apply a2 | with_reducible apply a3 | with_reducible apply a4
  | with_reducible apply a5 | with_reducible apply a6 | with_reducible apply a0 | with_reducible apply t_tru | with_reducible apply t_yes | ((with_reducible refine' k_truL ?h1 ?_); (case h1 => walk_at "sg")) | with_reducible refine d_nx ?_ | with_reducible refine d_rt ?_ | with_reducible refine d_bk ?_
  | with_reducible refine d_ct ?_))
local macro_rules | `(tactic| walk_at "x") => `(tactic| (repeat walk_at "x1"))
local macro_rules | `(tactic| walk_at "km") => do let h := Lean.mkIdent `hs; `(tactic| ((with_reducible refine' km_Ring $h ?s ?m ?_); (case s => walk_at "sel"); (case m => intros; walk_at "nol")))
local macro_rules | `(tactic| walk_at "km") => do let h := Lean.mkIdent `hs; `(tactic| ((with_reducible refine' km_SlotRing $h ?s ?m ?_); (case s => walk_at "sel"); (case m => intros; walk_at "nol")))
local macro_rules | `(tactic| walk_at "km") => do let h := Lean.mkIdent `hs; `(tactic| ((with_reducible refine' km_Pool $h ?s ?m ?_); (case s => walk_at "sel"); (case m => intros; walk_at "nol")))
local macro_rules | `(tactic| walk_at "km") => do let h := Lean.mkIdent `hs; `(tactic| ((with_reducible refine' km_Tq $h ?s ?m ?_); (case s => walk_at "sel"); (case m => intros; walk_at "nol")))
local macro_rules | `(tactic| walk_at "km") => do let h := Lean.mkIdent `hs; `(tactic| ((with_reducible refine' km_Sd $h ?s ?m ?_); (case s => walk_at "sel"); (case m => intros; walk_at "nol")))
section
variable {P : Program} {w : World} {K : PySem.W.Frag} {mg : Str → Option Value} {base : Heap} {a : Ads}
theorem ok_law_agrees (T : Txt P w K mg base a) : FnOk P w K mg base (L2.CX P w) 5 a.f_law_agrees a.fd_law_agrees ["sender", "queue", "ring", "pool", "world"] (sp_law_agrees K a) := by
  have G_Sender_waiting := ok_Sender_waiting T
  have G_law_rest := ok_law_rest T
  have G_TransmitQueue_contents := ok_TransmitQueue_contents T
  have G_SlotRing_buffers := ok_SlotRing_buffers T
  have G_Pool_free := ok_Pool_free T
  have G_Pool_owner := ok_Pool_owner T
  refine T.F_law_agrees.okX sc_law_agrees (fun vs H Q E h => A5.len h) (fun cdv A outer s H vs Q E hr h => ?_)
  have hu := hu_of hr
  obtain ⟨v_sender, v_queue, v_ring, v_pool, v_world, rfl, h⟩ := h
  refine ⟨_, (pss_cons (ps_set (i := 5) sc_law_agrees.nd rfl (by first | exact Or.inl rfl | exact Or.inr rfl) (pe_meth0S (pv 0) T.cl_Sender T.m_Sender_waiting G_Sender_waiting (hr.mono (by decide)) T.b_Sender_waiting (fun σ => passAt (takes_of rfl rfl rfl rfl) σ)))
    (pss_cons (ps_if (PW.pt (pw_or (pt_not (pt_val (pe_callB call_isi (by rfl) T.g_isinstance (by decide +kernel) (pa_cons (pv 5) (pa_cons (pe_bltn (v := .ty "list") rfl T.g_list (by decide +kernel) rfl) pa_nil))))) (pw_or (pt_cmpR (op_neD hr.units) (pv 5) (pe_callS G_law_rest (hr.mono (by decide)) rfl T.g_law_rest T.F_law_rest.kp T.b_law_rest (fun σ => passAt (takes_of rfl rfl rfl rfl) σ) (pa_cons (pe_ix ix_list (pv 4) pe_int (fun _ _ => rfl)) pa_nil)) (nomark _)) (pw_or1 (pt_cmpR (op_neD hr.units) (pe_meth0S (pv 1) T.cl_TransmitQueue T.m_TransmitQueue_contents G_TransmitQueue_contents (hr.mono (by decide)) T.b_TransmitQueue_contents (fun σ => passAt (takes_of rfl rfl rfl rfl) σ)) (pe_ix ix_list (pv 4) pe_int (fun _ _ => rfl)) (nomark _)))))) (pss_one (ps_ret pe_bl)) pss_nil)
    (pss_cons (ps_expr (pe_bm PySem.F.plainAttrs_list PySem.F.slot_list_append PySem.F.type_list_append mt_append (pv 5) (pa_cons pe_int pa_nil)))
    (pss_cons (ps_if (PW.pt (pw_or (pt_cmpR (op_neD hr.units) (pe_meth0S (pv 2) T.cl_SlotRing T.m_SlotRing_buffers G_SlotRing_buffers (hr.mono (by decide)) T.b_SlotRing_buffers (fun σ => passAt (takes_of rfl rfl rfl rfl) σ)) (pe_lc (own := [("slot", 6)]) (g := (gName 6)) (tt := tYes) (te := (tOp (rIxL K) (tVar 6) (tC (.int 0)))) rfl sc_law_agrees.nd (pi_list (pe_ix ix_list (pv 4) pe_int (fun _ _ => rfl))) (blkOk_by (N := ["sender", "queue", "ring", "pool", "world", "waiting", "slot", "buffer"]) (sc := defScope s_law_agrees) (own := [("slot", 6)]) (by decide +kernel)) (fun _ _ _ _ _ => by exact (pg_name (i := 6) sc_law_agrees.nd rfl (by first | exact Or.inl rfl | exact Or.inr rfl))) (fun _ _ _ _ _ => by exact pts_nil) (fun _ _ _ _ _ => by exact (pe_ix ix_list (pv 6) pe_int (fun _ _ => rfl)))) (nomark _)) (pw_or1 (pt_cmpR op_ne (pe_meth0S (pv 3) T.cl_Pool T.m_Pool_free G_Pool_free (hr.mono (by decide)) T.b_Pool_free (fun σ => passAt (takes_of rfl rfl rfl rfl) σ)) (pe_callB call_ln (by rfl) T.g_len (by decide +kernel) (pa_cons (pe_ix ix_list (pv 4) pe_int (fun _ _ => rfl)) pa_nil)) (nomark _))))) (pss_one (ps_ret pe_bl)) pss_nil)
    (pss_cons (ps_for (passes_of rfl) rfl (pi_list (pe_ix ix_list (pv 4) pe_int (fun _ _ => rfl))) (pg_name (i := 7) sc_law_agrees.nd rfl (by first | exact Or.inl rfl | exact Or.inr rfl)) (pss_one (ps_if (pt_cmpR op_notN (pe_methS (pv 3) T.cl_Pool T.m_Pool_owner G_Pool_owner (hr.mono (by decide)) T.b_Pool_owner (fun σ => passAt (takes_of rfl rfl rfl rfl) σ) (pa_cons (pv 7) pa_nil)) pe_non (nomark _)) (pss_one (ps_ret pe_bl)) pss_nil)))
    (pss_one (ps_ret (pe_cmpR (op_eqD hr.units) (pe_op op_cat (pe_op op_cat (pe_ix ix_list (pv 4) pe_int (fun _ _ => rfl)) (pe_ix ix_list (pv 4) pe_int (fun _ _ => rfl))) (pe_callS G_law_rest (hr.mono (by decide)) rfl T.g_law_rest T.F_law_rest.kp T.b_law_rest (fun σ => passAt (takes_of rfl rfl rfl rfl) σ) (pa_cons (pe_ix ix_list (pv 4) pe_int (fun _ _ => rfl)) pa_nil))) (pe_ix ix_list (pv 4) pe_int (fun _ _ => rfl)) (nomark _))))))))), ?_⟩
  obtain ⟨p, qp, rp, pp, pw, sl, cap, n, m, moved, fs, os, fr, xs, sent, put, L, M, rfl, rfl, rfl, rfl, rfl, hs, se, ok, hp, k⟩ := h
  have hs := SnA.U hs se
  obtain ⟨_, _, lx, lc1, lc2, _⟩ := TqA.U hs (by walk_at "sel")
  obtain ⟨_, _, _, _, _, lfs, _, nz, _⟩ := SrA.U hs (by walk_at "sel")
  obtain ⟨pok, _, lm⟩ := PoolA.ok hs (by walk_at "sel")
  have hfr : fr.length ≤ m := nd_len pok.nd pok.lt
  have hda := datas_len ok.ln
  simp only [List.length_nil] at lfs
  have hrest := fwOf_rest fs moved ok.le
  have hrl : (restF (fwOf fs moved)).length < 90000 := by rw [hrest, List.length_drop]; omega
  have hfl : (fwOf fs moved).length < 1000 := by rw [fwOf_len]; omega
  walk_at "x"
  refine a1 ⟨p, qp, rp, pp, moved, cap, xs, n, [], [], fs, m, os, fr, _, _, rfl, hs, by walk_at "sels", by omega, fun l1 H1 hs => ?_⟩
  have hU := WsA.U hs (by walk_at "sel")
  clear hs
  obtain ⟨fl, ql, rl, ul, vs, hl, hs⟩ := hU
  walk_at "x"
  refine iteF ?_
  walk_at "x"
  refine Rd.a1 ⟨fl, vs, fwOf fs moved, _, _, rfl, hs, by walk_at "sels", hrl, hfl, fun q H2 hs => ?_⟩
  rw [hrest] at hs
  walk_at "x"
  refine o_neL (Or.inl (Or.inl (by walk_at "hg"))) (Or.inl (Or.inl (by walk_at "hg"))) (flat_ints _) ?_
  walk_at "x"
  refine iteF ?_
  walk_at "x"
  refine Rd.a1 ⟨qp, cap, xs, _, _, rfl, hs, by walk_at "sel", fun l2 H3 hs => ?_⟩
  walk_at "x"
  refine o_neL (Or.inl (Or.inl (by walk_at "hg"))) (Or.inl (Or.inl (by walk_at "hg"))) (flat_ints _) ?_
  walk_at "x"
  refine iteF ?_
  have hd2 : (List.map V.int (List.drop moved (datas fs))).length < 100000 := by rw [List.length_map, List.length_drop]; omega
  walk_at "x"
  refine Rd.a1 ⟨rp, n, [], [], fs, _, _, rfl, hs, by walk_at "sel", fun l3 H4 hs => ?_⟩
  rw [List.append_nil] at hs
  walk_at "x"
  refine k_lcLS (fun i acc => acc = ((fs.take i).map (·.1)).map V.int) (fun _ _ => _) hs (by walk_at "sg") (by rw [hl]; omega) rfl (fun i E acc H' _ hs => by walk_at "sg") (fun E i x acc H' hx ha f hs R0 N y _ => ?_) fun E acc H' ha f hs => ?_
  · have hi : i < (fwOf fs moved).length := by rw [← hl]; exact (List.getElem?_eq_some_iff.mp hx).1
    have hi2 : i < fs.length := by rw [fwOf_len] at hi; exact hi
    have hU := lA.outS (Pa := bufA) (xs := fwOf fs moved) hs (by walk_at "sel") (List.getElem?_eq_getElem hi)
    clear hs
    obtain ⟨v, hv, hs⟩ := hU
    cases hv.symm.trans hx
    have hU := bufA.U hs .here
    clear hs
    obtain ⟨bl, bd, rfl, hs⟩ := hU
    have e0 : (fwOf fs moved)[i].1 = fs[i].1 := by
      have := congrArg (·[i]?) (fwOf_fst fs moved)
      simp only [List.getElem?_map, List.getElem?_eq_getElem hi, List.getElem?_eq_getElem hi2, Option.map_some, Option.some.injEq] at this
      exact this
    walk_at "x"
    refine ⟨rfl, lc_yes ?_⟩
    walk_at "x"
    have hs := bufA.I (s := (fwOf fs moved)[i]) hs (by walk_at "sels")
    have hs := lA.backE (Pa := bufA) hs .here (by walk_at "sel") (List.getElem?_eq_getElem hi) hv
    refine y _ _ ?_ (hs.perm (by walk_at "selm"))
    show _ = List.map V.int (List.map (·.1) (fs.take (i + 1)))
    rw [take_snoc (List.getElem?_eq_getElem hi2), List.map_append, List.map_append, ← f, e0]
    rfl
  · rw [hl, fwOf_len, List.take_length] at f
    subst f
    walk_at "x"
    refine o_neL (Or.inl (Or.inl (by walk_at "hg"))) (Or.inl (Or.inl (by walk_at "hg"))) (flat_ints _) ?_
    walk_at "x"
    refine iteF ?_
    walk_at "x"
    refine c_pool_free hs (by walk_at "sel") ?_
    walk_at "x"
    rw [List.length_map]
    refine if_ndF rfl ?_
    walk_at "x"
    refine k_forL (fun i σ H6 => ∃ u : Option V, σ = [some (.ref p), some (.ref qp), some (.ref rp), some (.ref pp), some (.ref pw), some (.ref l1), none, u] ∧ H6 = H') (by walk_at "sg") ⟨_, rfl, rfl⟩ (fun i σ H6 _ ⟨_, _, e⟩ => by subst e; walk_at "sg") ?_ ?_
    · rintro i x σ H6 hx ⟨u, rfl, rfl⟩
      rw [List.getElem?_map] at hx
      obtain ⟨bb, hb1, rfl⟩ : ∃ bb, fr[i]? = some bb ∧ nv bb = x := by
        cases h : fr[i]? with
        | none => rw [h] at hx; cases hx
        | some bb => rw [h] at hx; exact ⟨bb, rfl, Option.some.inj hx⟩
      have hbm := List.mem_of_getElem? hb1
      have hg : getO os (bb : Int) = none := by
        unfold getO
        rw [if_pos (by omega), Int.toNat_natCast, (pok.fi bb (pok.lt bb hbm)).mp hbm]; rfl
      walk_at "x"
      refine c_pool_owner hs (by walk_at "sel") ?_
      rw [hg]
      walk_at "x"
      refine ⟨rfl, ?_⟩
      walk_at "x"
      refine if_ndF rfl ?_
      walk_at "x"
      exact ⟨_, rfl, rfl⟩
    · rintro σ H6 ⟨u, rfl, rfl⟩
      have hsx : sent.length + xs.length ≤ put.length := by rw [← ok.pt]; simp
      walk_at "x"
      rw [← List.map_append] at hs
      refine Rd.a1 ⟨fl, vs, fwOf fs moved, _, _, rfl, hs, by walk_at "sels", hrl, hfl, fun q6 H7 hs => ?_⟩
      rw [hrest] at hs
      have hap : (List.map V.int (sent ++ xs)).length + (List.map V.int (List.drop moved (datas fs))).length ≤ 100000 := by
        have := congrArg List.length ok.pt
        simp only [List.length_append] at this
        simp only [List.length_map, List.length_append]
        omega
      walk_at "x"
      rw [← List.map_append, ok.pt] at hs
      refine o_eqL (Or.inl (Or.inl (by walk_at "hg"))) (Or.inl (Or.inl (by walk_at "hg"))) (flat_ints _) ?_
      have hs := WsA.I (fw := fwOf fs moved) (xs := xs) (sent := sent) (fr := fr) (put := put) (vs := vs) hs (by walk_at "sels")
      exact k _ ((SnA.I hs (by walk_at "sels")).perm (by walk_at "sels"))
end
end My
set_option Elab.async false
set_option maxRecDepth 100000
set_option maxHeartbeats 100000000
set_option linter.all false
namespace My
open PySem L2 Sx Rd Sl
local macro_rules | `(tactic| walk_at "ne") => `(tactic| (first | with_reducible assumption | with_reducible exact Ne.symm (by with_reducible assumption)))
local macro_rules | `(tactic| walk_at "nin") => `(tactic| (simp only [List.mem_cons, List.not_mem_nil, or_false, not_or, not_false_eq_true]; (repeat' refine And.intro ?_ ?_); (all_goals walk_at "ne")))
local macro_rules | `(tactic| walk_at "hl") => `(tactic| (first | (with_reducible assumption) | exact upd_same | ((with_reducible refine' (upd_ne ?hne).trans ?hgo); (case hne => walk_at "ne"); (case hgo => walk_at "hl"))))
local macro_rules | `(tactic| walk_at "sq") => `(tactic| (first | (with_reducible assumption) | exact Or.inl (Or.inl (by walk_at "hl"))))
local macro_rules | `(tactic| walk_at "ar") => `(tactic| (first | omega | exact ⟨by omega, by omega⟩ | exact Or.inl ⟨by omega, by omega⟩ | exact Or.inr ⟨by omega, by omega⟩ | (show (0 : Int) < _; omega) | (show (0 : Int) < _ ∧ _ < (1073741824 : Int); omega)))
local macro_rules | `(tactic| walk_at "cls") => `(tactic| (first | exact Txt.cl_Sender (by assumption) | exact Txt.cl_Ring (by assumption) | exact Txt.cl_Pool (by assumption) | exact Txt.cl_TransmitQueue (by assumption) | exact Txt.cl_SlotRing (by assumption)))
local macro_rules | `(tactic| walk_at "noa") => `(tactic| (first | exact Txt.n_Sender_queue (by assumption) | exact Txt.n_Sender_ring (by assumption) | exact Txt.n_Sender_pool (by assumption) | exact Txt.n_Sender_moved (by assumption) | exact Txt.n_Ring_cells (by assumption) | exact Txt.n_Ring_written (by assumption) | exact Txt.n_Ring_taken (by assumption) | exact Txt.n_Pool_owners (by assumption) | exact Txt.n_Pool_free (by assumption) | exact Txt.n_TransmitQueue_capacity (by assumption) | exact Txt.n_TransmitQueue_bytes (by assumption) | exact Txt.n_SlotRing_slots (by assumption) | exact Txt.n_SlotRing_armed (by assumption) | exact Txt.n_SlotRing_filled (by assumption) | exact Txt.n_SlotRing_added (by assumption)))
local macro_rules | `(tactic| walk_at "lkp") => `(tactic| (first | (with_reducible exact F_Sender_queue_l) | (with_reducible exact F_Sender_ring_l) | (with_reducible exact F_Sender_pool_l) | (with_reducible exact F_Sender_moved_l) | (with_reducible exact F_Ring_cells_l) | (with_reducible exact F_Ring_written_l) | (with_reducible exact F_Ring_taken_l) | (with_reducible exact F_Pool_owners_l) | (with_reducible exact F_Pool_free_l) | (with_reducible exact F_TransmitQueue_capacity_l) | (with_reducible exact F_TransmitQueue_bytes_l) | (with_reducible exact F_SlotRing_slots_l) | (with_reducible exact F_SlotRing_armed_l) | (with_reducible exact F_SlotRing_filled_l) | (with_reducible exact F_SlotRing_added_l)))
local macro_rules | `(tactic| walk_at "ptf") => `(tactic| (first | (with_reducible exact F_Sender_queue_p) | (with_reducible exact F_Sender_ring_p) | (with_reducible exact F_Sender_pool_p) | (with_reducible exact F_Sender_moved_p) | (with_reducible exact F_Ring_cells_p) | (with_reducible exact F_Ring_written_p) | (with_reducible exact F_Ring_taken_p) | (with_reducible exact F_Pool_owners_p) | (with_reducible exact F_Pool_free_p) | (with_reducible exact F_TransmitQueue_capacity_p) | (with_reducible exact F_TransmitQueue_bytes_p) | (with_reducible exact F_SlotRing_slots_p) | (with_reducible exact F_SlotRing_armed_p) | (with_reducible exact F_SlotRing_filled_p) | (with_reducible exact F_SlotRing_added_p) | exact rfl))
local macro_rules | `(tactic| walk_at "lnF") => `(tactic| (first | (with_reducible exact F_Sender_len) | (with_reducible exact F_Ring_len) | (with_reducible exact F_Pool_len) | (with_reducible exact F_TransmitQueue_len) | (with_reducible exact F_SlotRing_len) | (refine PL.lt (n := 60) ?_ (by decide); (repeat refine PL.put ?_); exact PL.nil) | decide))
local macro_rules | `(tactic| walk_at "nol") => `(tactic| (first | (with_reducible exact F_Sender_m_can_step) | (with_reducible exact F_Sender_m_step) | (with_reducible exact F_Sender_m_waiting) | (with_reducible exact F_Sender_m_empty_slot) | (with_reducible exact F_Ring_m_held) | (with_reducible exact F_Ring_m_is_full) | (with_reducible exact F_Ring_m_put) | (with_reducible exact F_Ring_m_first) | (with_reducible exact F_Ring_m_take) | (with_reducible exact F_Ring_m_listed) | (with_reducible exact F_Ring_m_next) | (with_reducible exact F_Pool_m_free) | (with_reducible exact F_Pool_m_owner) | (with_reducible exact F_Pool_m_held) | (with_reducible exact F_Pool_m_acquire) | (with_reducible exact F_Pool_m_release) | (with_reducible exact F_Pool_m_may_acquire) | (with_reducible exact F_Pool_m_exists) | (with_reducible exact F_TransmitQueue_m_put) | (with_reducible exact F_TransmitQueue_m_take) | (with_reducible exact F_TransmitQueue_m_space) | (with_reducible exact F_TransmitQueue_m_contents) | (with_reducible exact F_SlotRing_m_can_arm) | (with_reducible exact F_SlotRing_m_arm) | (with_reducible exact F_SlotRing_m_open_slot) | (with_reducible exact F_SlotRing_m_open_bytes) | (with_reducible exact F_SlotRing_m_open_count) | (with_reducible exact F_SlotRing_m_add) | (with_reducible exact F_SlotRing_m_close) | (with_reducible exact F_SlotRing_m_oldest) | (with_reducible exact F_SlotRing_m_reap) | (with_reducible exact F_SlotRing_m_filled_slots) | (with_reducible exact F_SlotRing_m_buffers)))
local macro_rules | `(tactic| walk_at "r1") => `(tactic| (first
  | with_reducible apply l_cons | ((with_reducible apply e_var); (case h => exact rfl)) | with_reducible apply l_nil | with_reducible apply s_seq | with_reducible apply e_c | with_reducible apply g_name
  | with_reducible apply s_asg | with_reducible apply e_call | with_reducible apply k_t | with_reducible apply e_op | with_reducible apply e_cb | with_reducible apply t_test
  | with_reducible apply s_if | with_reducible apply t_or | with_reducible apply t_and | with_reducible apply t_B | with_reducible apply s_next | with_reducible apply p_some
  | with_reducible apply p_no | with_reducible apply e_sl | with_reducible apply k_i | with_reducible apply e_lst | with_reducible apply t_not | with_reducible apply o_I0
  | ((with_reducible refine' o_I ?hc ?_); (case hc => walk_at "ar")) | with_reducible apply e_meth | ((with_reducible refine' k_meth ?h1 ?h2 ?_); (case h1 => walk_at "hl"); (case h2 => walk_at "nol")) | with_reducible apply e_fld | ((with_reducible refine' k_fld ?h1 ?h2 ?h3 ?h4 ?_); (case h1 => walk_at "hl"); (case h2 => walk_at "cls"); (case h3 => walk_at "noa"); (case h4 => walk_at "lkp")) | with_reducible apply e_not
  | with_reducible apply s_ret | ((with_reducible refine' k_ty ?h1 ?_); (case h1 => walk_at "sq")) | with_reducible apply s_drop | with_reducible apply s_retN | with_reducible apply s_cont | with_reducible apply s_break
  | with_reducible apply o_chC | ((with_reducible refine' o_chV ?hv ?_); (case hv => exact rfl)) | with_reducible apply e_un | with_reducible apply o_U | ((with_reducible refine' o_eq ?hs ?_); (case hs => exact rfl)) | ((with_reducible refine' o_ne ?hs ?_); (case hs => exact rfl))
  | ((with_reducible refine' o_ixL ?h1 ?h2 ?_); (case h1 => walk_at "sq"); (case h2 => first | exact rfl | exact atI_zero _ _)) | with_reducible apply s_fld | with_reducible apply e_make | ((with_reducible refine' k_set ?h1 ?h2 ?h3 ?h4 ?h5 ?_); (case h1 => walk_at "hl"); (case h2 => walk_at "cls"); (case h3 => walk_at "noa"); (case h4 => walk_at "ptf"); (case h5 => walk_at "lnF")) | with_reducible apply e_tup | with_reducible apply e_bm
  | with_reducible apply e_bm0 | with_reducible apply e_if | with_reducible apply e_chain | with_reducible apply s_raise | with_reducible apply g_sub | ((with_reducible refine' c_ln ?h1 ?_); (case h1 => walk_at "sq"))
  | ((with_reducible refine' c_pop0 ?h1 ?h2 ?_); (case h1 => walk_at "hl"); (case h2 => omega)) | with_reducible apply c_isBool | with_reducible apply c_isInt | with_reducible apply c_isBoolN | with_reducible apply c_isTupI | with_reducible apply c_isNonB
  | with_reducible apply c_isNonT | ((with_reducible refine' c_isList ?h1 ?_); (case h1 => walk_at "hl")) | ((with_reducible refine' c_isTup ?h1 ?_); (case h1 => walk_at "hl")) | ((with_reducible refine' c_isTupB ?h1 ?_); (case h1 => walk_at "hl")) | with_reducible apply o_isB | with_reducible apply o_notB
  | with_reducible apply e_and | with_reducible apply e_or | with_reducible apply k_bl | with_reducible apply e_xf | with_reducible apply s_augS | ((with_reducible refine' s_augV ?hv ?_); (case hv => exact rfl))
  | with_reducible apply ip_I | with_reducible apply e_lcE | ((with_reducible refine' k_xf ?h1 ?h2 ?_); (case h1 => walk_at "hl"); (case h2 => exact look_hit _ _ _)) | ((with_reducible refine' o_slL ?h1 ?_); (case h1 => walk_at "sq")) | ((with_reducible refine' k_dget ?h1 ?h2 ?_); (case h1 => walk_at "hl"); (case h2 => with_reducible assumption)) | with_reducible apply e_dget
  | with_reducible apply s_dput | with_reducible apply e_makeK | with_reducible apply g_cons | with_reducible apply g_nil | with_reducible apply c_ab | with_reducible apply c_in
  | with_reducible apply c_mx | with_reducible apply c_mn | with_reducible apply a1 | with_reducible apply a2 | with_reducible apply a3 | with_reducible apply a4
  | with_reducible apply a5 | with_reducible apply a6 | with_reducible apply a0 | with_reducible apply t_tru | with_reducible apply t_yes | ((with_reducible refine' k_truL ?h1 ?_); (case h1 => walk_at "sq")) | with_reducible refine d_nx ?_ | with_reducible refine d_rt ?_ | with_reducible refine d_bk ?_
  | with_reducible refine d_ct ?_))
local macro_rules | `(tactic| walk_at "r") => `(tactic| (repeat walk_at "r1"))
local macro_rules | `(tactic| walk_at "sel") => `(tactic| (first | with_reducible exact Sl.Sel.here | ((with_reducible refine' Sl.Sel.there ?t); (case t => walk_at "sel"))))
local macro_rules | `(tactic| walk_at "sels") => `(tactic| (first | with_reducible exact Sl.Sels.nil | ((with_reducible refine' Sl.Sels.cons ?a ?b); (case a => walk_at "sel"); (case b => walk_at "sels")) | with_reducible exact Sl.Sels.all _ | ((with_reducible refine' Sl.Sels.skip ?t); (case t => walk_at "sels"))))
local macro_rules | `(tactic| walk_at "selm") => `(tactic| ((try (simp only [])); (try simp only [List.map_append, List.map_cons, List.map_nil]); walk_at "sels"))
local macro_rules | `(tactic| walk_at "hg") => do
  let h := Lean.mkIdent `hs
  `(tactic| (first | (with_reducible assumption) | ((with_reducible refine' Sl.St.get $h ?s); (case s => walk_at "sel")) | ((with_reducible refine' Sl.St.geti $h ?s); (case s => walk_at "sel"))))
local macro_rules | `(tactic| walk_at "sg") => do
  let h := Lean.mkIdent `hs
  `(tactic| (first | (with_reducible assumption) | exact Or.inl (Or.inl (by walk_at "hg")) | (refine' Sl.sqA.U $h ?s; (case s => walk_at "sel"))))
local macro_rules | `(tactic| walk_at "le5") => `(tactic| (first | omega | (simp only [List.length_cons, List.length_nil, List.length_append, List.length_map]; omega) | (show _ ≤ _; decide) | (show _ < _; decide)))
local macro_rules | `(tactic| walk_at "km") => `(tactic| fail)
local macro_rules | `(tactic| walk_at "kf") => `(tactic| fail)
local macro_rules | `(tactic| walk_at "x1") => do
  let h := Lean.mkIdent `hs
  `(tactic| (first
  | with_reducible apply l_cons | ((with_reducible apply e_var); (case h => exact rfl)) | with_reducible apply l_nil | with_reducible apply s_seq | with_reducible apply e_c | with_reducible apply g_name
  | with_reducible apply s_asg | with_reducible apply e_call | with_reducible apply k_t | with_reducible apply e_op | with_reducible apply e_cb | with_reducible apply t_test
  | with_reducible apply s_if | with_reducible apply t_or | with_reducible apply t_and | with_reducible apply t_B | with_reducible apply s_next | with_reducible apply p_some
  | with_reducible apply p_no | with_reducible apply e_sl | with_reducible apply k_i | with_reducible apply Sl.e_lstS | with_reducible apply t_not | with_reducible apply o_I0
  | ((with_reducible refine' o_I ?hc ?_); (case hc => walk_at "ar")) | with_reducible apply e_meth | ((with_reducible refine' k_meth ?h1 ?h2 ?_); (case h1 => walk_at "hg"); (case h2 => walk_at "nol")) | walk_at "km" | with_reducible apply e_fld
  | ((with_reducible refine' k_fld ?h1 ?h2 ?h3 ?h4 ?_); (case h1 => walk_at "hg"); (case h2 => walk_at "cls"); (case h3 => walk_at "noa"); (case h4 => walk_at "lkp")) | walk_at "kf" | with_reducible apply e_not
  | with_reducible apply s_ret | ((with_reducible refine' k_ty ?h1 ?_); (case h1 => walk_at "sg")) | with_reducible apply s_drop | with_reducible apply s_retN | with_reducible apply s_cont | with_reducible apply s_break
  | with_reducible apply o_chC | ((with_reducible refine' o_chV ?hv ?_); (case hv => exact rfl)) | with_reducible apply e_un | with_reducible apply o_U | ((with_reducible refine' o_eq ?hs ?_); (case hs => exact rfl)) | ((with_reducible refine' o_ne ?hs ?_); (case hs => exact rfl))
  | ((with_reducible refine' o_ixL ?h1 ?h2 ?_); (case h1 => walk_at "sg"); (case h2 => first | exact rfl | exact atI_zero _ _)) | ((with_reducible refine' o_ixT ?h1 ?h2 ?_); (case h1 => walk_at "sg"); (case h2 => first | exact rfl | exact atI_zero _ _)) | with_reducible apply s_fld | with_reducible apply Sl.e_makeS
  | ((with_reducible refine' Sl.k_setS $h ?h1 ?h2 ?h3 ?h4 ?h5 ?_); (case h1 => walk_at "sel"); (case h2 => walk_at "cls"); (case h3 => walk_at "noa"); (case h4 => walk_at "ptf"); (case h5 => walk_at "lnF"); (clear $h; intro _ $h)) | with_reducible apply Sl.e_tupS | with_reducible apply e_bm
  | with_reducible apply e_bm0 | with_reducible apply e_if | with_reducible apply e_chain | with_reducible apply s_raise | with_reducible apply g_sub | ((with_reducible refine' c_ln ?h1 ?_); (case h1 => walk_at "sg")) | ((with_reducible refine' c_lnT ?h1 ?_); (case h1 => walk_at "sg"))
  | ((with_reducible refine' Sl.k_newL $h ?h1 ?_); (case h1 => walk_at "le5"); (clear $h; intro _ _ $h)) | ((with_reducible refine' Sl.k_newT $h ?h1 ?_); (case h1 => walk_at "le5"); (clear $h; intro _ _ $h)) | ((with_reducible refine' Sl.k_make $h ?_); (clear $h; intro _ _ _ $h))
  | ((with_reducible refine' Sl.c_appS $h ?h1 ?h2 ?_); (case h1 => walk_at "sel"); (case h2 => walk_at "le5"); (clear $h; intro _ $h)) | ((with_reducible refine' Sl.c_pop0S $h ?h1 ?h2 ?_); (case h1 => walk_at "sel"); (case h2 => walk_at "le5"); (clear $h; intro _ $h))
  | ((with_reducible refine' Sl.c_lsS $h ?h1 ?_); (case h1 => walk_at "sg"); (clear $h; intro _ _ $h)) | ((with_reducible refine' Sl.o_slLS $h ?h1 ?_); (case h1 => walk_at "sg"); (clear $h; intro _ _ $h)) | ((with_reducible refine' Sl.c_clrS $h ?h1 ?_); (case h1 => walk_at "sel"); (clear $h; intro _ $h))
  | ((with_reducible refine' Sl.o_catS $h ?h1 ?h2 ?h3 ?_); (case h1 => walk_at "hg"); (case h2 => walk_at "hg"); (case h3 => walk_at "le5"); (clear $h; intro _ _ $h)) | ((with_reducible refine' Sl.c_extS $h ?h1 ?h2 ?h3 ?_); (case h1 => walk_at "sel"); (case h2 => walk_at "hg"); (case h3 => walk_at "le5"); (clear $h; intro _ $h))
  | ((with_reducible refine' Sl.k_raise $h ?h1 ?_); (case h1 => exact okV_int ⟨by omega, by omega⟩); (clear $h; intro _ _ $h))
  | with_reducible apply c_isBool | with_reducible apply c_isInt | with_reducible apply c_isBoolN | with_reducible apply c_isTupI | with_reducible apply c_isNonB
  | with_reducible apply c_isNonT | ((with_reducible refine' c_isList ?h1 ?_); (case h1 => walk_at "hg")) | ((with_reducible refine' c_isTup ?h1 ?_); (case h1 => walk_at "hg")) | ((with_reducible refine' c_isTupB ?h1 ?_); (case h1 => walk_at "hg")) | with_reducible apply o_isB | with_reducible apply o_notB
  | with_reducible apply e_and | with_reducible apply e_or | with_reducible apply k_bl | with_reducible apply e_xf | with_reducible apply s_augS | ((with_reducible refine' s_augV ?hv ?_); (case hv => exact rfl)) | with_reducible apply Sl.s_aug
  | with_reducible apply ip_I | with_reducible apply e_lcE | with_reducible apply e_lcL | with_reducible apply f_lst | with_reducible apply e_lcF | with_reducible apply f_rng1 | ((with_reducible refine' k_xf ?h1 ?h2 ?_); (case h1 => walk_at "hg"); (case h2 => exact look_hit _ _ _)) | ((with_reducible refine' k_dget ?h1 ?h2 ?_); (case h1 => walk_at "hg"); (case h2 => with_reducible assumption)) | with_reducible apply e_dget
  | with_reducible apply s_dput | with_reducible apply Sl.e_makeKS | with_reducible apply g_cons | with_reducible apply g_nil | ((with_reducible refine' g_tup ?h1 ?h2 ?_); (case h1 => walk_at "sg"); (case h2 => exact rfl)) | with_reducible apply c_ab | with_reducible apply c_in
  | with_reducible apply c_mx | with_reducible apply c_mn | with_reducible apply a1 | with_reducible apply a2 | with_reducible apply a3 | with_reducible apply a4
  | with_reducible apply a5 | with_reducible apply a6 | with_reducible apply a0 | with_reducible apply t_tru | with_reducible apply t_yes | ((with_reducible refine' k_truL ?h1 ?_); (case h1 => walk_at "sg")) | with_reducible refine d_nx ?_ | with_reducible refine d_rt ?_ | with_reducible refine d_bk ?_
  | with_reducible refine d_ct ?_))
local macro_rules | `(tactic| walk_at "x") => `(tactic| (repeat walk_at "x1"))
local macro_rules | `(tactic| walk_at "km") => do let h := Lean.mkIdent `hs; `(tactic| ((with_reducible refine' km_Ring $h ?s ?m ?_); (case s => walk_at "sel"); (case m => intros; walk_at "nol")))
local macro_rules | `(tactic| walk_at "km") => do let h := Lean.mkIdent `hs; `(tactic| ((with_reducible refine' km_SlotRing $h ?s ?m ?_); (case s => walk_at "sel"); (case m => intros; walk_at "nol")))
local macro_rules | `(tactic| walk_at "km") => do let h := Lean.mkIdent `hs; `(tactic| ((with_reducible refine' km_Pool $h ?s ?m ?_); (case s => walk_at "sel"); (case m => intros; walk_at "nol")))
local macro_rules | `(tactic| walk_at "km") => do let h := Lean.mkIdent `hs; `(tactic| ((with_reducible refine' km_Tq $h ?s ?m ?_); (case s => walk_at "sel"); (case m => intros; walk_at "nol")))
local macro_rules | `(tactic| walk_at "km") => do let h := Lean.mkIdent `hs; `(tactic| ((with_reducible refine' km_Sd $h ?s ?m ?_); (case s => walk_at "sel"); (case m => intros; walk_at "nol")))
section
variable {P : Program} {w : World} {K : PySem.W.Frag} {mg : Str → Option Value} {base : Heap} {a : Ads}
theorem fwOf_snoc {fs : List Slt} {moved : Nat} (x : Slt) (h : fs = [] → moved = 0) : fwOf (fs ++ [x]) moved = fwOf fs moved ++ [(x.1, x.2.1)] := by
  cases fs with
  | nil => rw [h rfl]; simp [fwOf]
  | cons s r => simp [fwOf]
/-- one more slot is filled -/
theorem SnOk.fill {n m : Nat} {fs : List Slt} {moved : Nat} {os : List (Option Int)} {fr : List Nat} {b : Nat} {xs sent put ys : List Int} (o : SnOk n fs moved os xs sent put) (p : PoolOk m os (b :: fr)) (h1 : 1 ≤ ys.length) (h2 : ys.length ≤ 16) :
    SnOk n (fs ++ [((b : Int), ys, 0)]) moved (os.set b (some 4)) xs sent (put ++ ys) := by
  obtain ⟨mv, m0, ow, nd, ln, pt⟩ := o
  have hbm := p.lt b (by simp)
  have hb0 := (p.fi b hbm).mp (by simp)
  have hne : ∀ s ∈ fs, ∀ b' : Nat, s.1 = b' → os[b']? = some (some 4) → b ≠ b' := fun s _ b' _ e2 e => by subst e; rw [hb0] at e2; cases e2
  refine ⟨fun s r e => ?_, fun e => by simp at e, fun s hs => ?_, ?_, fun s hs => ?_, ?_⟩
  · cases fs with
    | nil =>
      simp only [List.nil_append] at e
      obtain ⟨rfl, _⟩ := List.cons.inj e
      rw [m0 rfl]
      exact h1
    | cons x r' =>
      obtain ⟨rfl, _⟩ := List.cons.inj e
      exact mv _ _ rfl
  · rcases List.mem_append.mp hs with hs | hs
    · obtain ⟨b', e1, e2⟩ := ow s hs
      exact ⟨b', e1, by rw [List.getElem?_set_ne (hne s hs b' e1 e2)]; exact e2⟩
    · rw [List.mem_singleton.mp hs]
      exact ⟨b, rfl, List.getElem?_set_self (by rw [p.ln]; exact hbm)⟩
  · rw [List.map_append, List.map_cons, List.map_nil]
    refine List.nodup_append.mpr ⟨nd, by simp, fun x hx y hy e => ?_⟩
    rw [List.mem_singleton.mp hy] at e
    obtain ⟨s, hs, rfl⟩ := List.mem_map.mp hx
    obtain ⟨b', e1, e2⟩ := ow s hs
    exact hne s hs b' e1 e2 (by rw [e1] at e; exact (Int.ofNat.inj e).symm)
  · rcases List.mem_append.mp hs with hs | hs
    · exact ln s hs
    · rw [List.mem_singleton.mp hs]; exact ⟨h1, h2⟩
  · have hle : moved ≤ (datas fs).length := by
      cases fs with
      | nil => rw [m0 rfl]; exact Nat.zero_le _
      | cons s r =>
        have := mv s r rfl
        simp only [datas, List.flatMap_cons, List.length_append]
        omega
    have e : datas (fs ++ [((b : Int), ys, 0)]) = datas fs ++ ys := by unfold datas; rw [List.flatMap_append]; simp
    rw [e, List.drop_append_of_le_length hle, ← List.append_assoc, pt]
theorem ok_law_fills (T : Txt P w K mg base a) : FnOk P w K mg base (L2.CX P w) 6 a.f_law_fills a.fd_law_fills ["state", "ring", "pool", "slots", "world"] (sp_law_fills K a) := by
  have G_Pool_acquire := ok_Pool_acquire T
  have G_law_draw := ok_law_draw T
  have G_law_pick := ok_law_pick T
  have G_SlotRing_arm := ok_SlotRing_arm T
  have G_SlotRing_add := ok_SlotRing_add T
  have G_SlotRing_close := ok_SlotRing_close T
  refine T.F_law_fills.okX sc_law_fills (fun vs H Q E h => A5.len h) (fun cdv A outer s H vs Q E hr h => ?_)
  have hu := hu_of hr
  obtain ⟨v_state, v_ring, v_pool, v_slots, v_world, rfl, h⟩ := h
  refine ⟨_, (pss_cons (ps_set (i := 5) sc_law_fills.nd rfl (by first | exact Or.inl rfl | exact Or.inr rfl) (pe_ix ix_list (pv 4) pe_int (fun _ _ => rfl)))
    (pss_cons (ps_if (PW.pt (pw_or (pt_cmpR op_eq (pe_callB call_ln (by rfl) T.g_len (by decide +kernel) (pa_cons (pv 5) pa_nil)) (pv 3) (nomark _)) (pw_or1 (pt_cmpR op_eq (pe_callB call_ln (by rfl) T.g_len (by decide +kernel) (pa_cons (pe_ix ix_list (pv 4) pe_int (fun _ _ => rfl)) pa_nil)) pe_int (nomark _))))) (pss_one (ps_ret pe_bl)) pss_nil)
    (pss_cons (ps_set (i := 6) sc_law_fills.nd rfl (by first | exact Or.inl rfl | exact Or.inr rfl) (pe_methS (pv 2) T.cl_Pool T.m_Pool_acquire G_Pool_acquire (hr.mono (by decide)) T.b_Pool_acquire (fun σ => passAt (takes_of rfl rfl rfl rfl) σ) (pa_cons pe_int pa_nil)))
    (pss_cons (ps_if (pt_cmpR op_ne (pv 6) (pe_bm PySem.F.plainAttrs_list PySem.F.slot_list_pop PySem.F.type_list_pop mt_popAt (pe_ix ix_list (pv 4) pe_int (fun _ _ => rfl)) (pa_cons pe_int pa_nil)) (nomark _)) (pss_one (ps_ret pe_bl)) pss_nil)
    (pss_cons (ps_setLc (i := 7) (own := [("k", 8)]) (g := (gName 8)) (tt := tYes) (te := (tCallS (sp_law_draw K a) (WE (fun _ _ _ _ => False)) (tCons (tVar 0) (tCons (tC (.int 256)) tNil)))) rfl sc_law_fills.nd rfl rfl (sw_true rfl rfl rfl (by decide +kernel)) (pi_range1 rfl T.g_range (pa_cons (pe_op op_add pe_int (pe_callS G_law_draw (hr.mono (by decide)) rfl T.g_law_draw T.F_law_draw.kp T.b_law_draw (fun σ => passAt (takes_of rfl rfl rfl rfl) σ) (pa_cons (pv 0) (pa_cons (pe_callS G_law_pick (hr.mono (by decide)) rfl T.g_law_pick T.F_law_pick.kp T.b_law_pick (fun σ => passAt (takes_of rfl rfl rfl rfl) σ) (pa_cons (pv 0) (pa_cons (pe_lst (pa_cons pe_int (pa_cons pe_int pa_nil))) pa_nil))) pa_nil)))) pa_nil)) (blkOk_by (N := ["state", "ring", "pool", "slots", "world", "filled", "buffer", "data", "k", "byte"]) (sc := defScope s_law_fills) (own := [("k", 8)]) (by decide +kernel)) (fun _ _ _ _ _ => by exact (pg_name (i := 8) sc_law_fills.nd rfl (by first | exact Or.inl rfl | exact Or.inr rfl))) (fun _ _ _ _ _ => by exact pts_nil) (fun _ _ _ _ _ => by exact (pe_callS G_law_draw (hr.mono (by decide)) rfl T.g_law_draw T.F_law_draw.kp T.b_law_draw (fun σ => passNo) (pa_cons (pv 0) (pa_cons pe_int pa_nil)))))
    (pss_cons (ps_expr (pe_methS (pv 1) T.cl_SlotRing T.m_SlotRing_arm G_SlotRing_arm (hr.mono (by decide)) T.b_SlotRing_arm (fun σ => passAt (takes_of rfl rfl rfl rfl) σ) (pa_cons (pv 6) pa_nil)))
    (pss_cons (ps_for (passes_of rfl) rfl (pi_list (pv 7)) (pg_name (i := 9) sc_law_fills.nd rfl (by first | exact Or.inl rfl | exact Or.inr rfl)) (pss_one (ps_expr (pe_methS (pv 1) T.cl_SlotRing T.m_SlotRing_add G_SlotRing_add (hr.mono (by decide)) T.b_SlotRing_add (fun σ => passAt (takes_of rfl rfl rfl rfl) σ) (pa_cons (pv 9) pa_nil)))))
    (pss_cons (ps_expr (pe_methS (pv 1) T.cl_SlotRing T.m_SlotRing_close G_SlotRing_close (hr.mono (by decide)) T.b_SlotRing_close (fun σ => passAt (takes_of rfl rfl rfl rfl) σ) (pa_cons pe_int pa_nil)))
    (pss_cons (ps_expr (pe_bm PySem.F.plainAttrs_list PySem.F.slot_list_append PySem.F.type_list_append mt_append (pv 5) (pa_cons (pe_lst (pa_cons (pv 6) (pa_cons (pv 7) pa_nil))) pa_nil)))
    (pss_cons (ps_asg (pe_op op_cat (pe_ix ix_list (pv 4) pe_int (fun _ _ => rfl)) (pv 7)) (pg_sub (pv 4) pe_int set_list))
    (pss_one (ps_ret pe_bl)))))))))))), ?_⟩
  obtain ⟨st, p, qp, rp, pp, pw, sl, cap, n, m, moved, fs, os, fr, xs, sent, put, L, M, rfl, rfl, rfl, rfl, rfl, hs, se, ok, hp, k⟩ := h
  have hs := hs.sels se
  simp only [List.cons_append, List.nil_append] at hs
  have hs := SnA.U hs (.there .here)
  obtain ⟨_, _, _, _, _, lfs, _, nz, _⟩ := SrA.U hs (by walk_at "sel")
  obtain ⟨pok, _, lm⟩ := PoolA.ok hs (by walk_at "sel")
  have hfr : fr.length ≤ m := nd_len pok.nd pok.lt
  have fin : ∀ H', Sl.St (StA st :: SdA a p qp rp pp moved :: TqA a qp cap xs :: SrA a rp n [] [] fs :: PoolA a.C_Pool a.C_Ring pp m os fr :: WsA pw (fwOf fs moved) xs sent fr put sl :: M) H' → Q (.bl true) H' := fun H' hs => k fs os fr put H' ok (by omega) ((SnA.I hs (by walk_at "sels")).perm (by walk_at "sels"))
  have hU := WsA.U hs (by walk_at "sel")
  clear hs
  obtain ⟨fl, ql, rl, ul, vs, hl, hs⟩ := hU
  rw [fwOf_len] at hl
  simp only [List.length_nil] at lfs
  walk_at "x"
  rw [hl]
  refine if_d (fun c => ?_) (fun c => ?_)
  · walk_at "x"
    have hs := WsA.I (xs := xs) (sent := sent) (fr := fr) (put := put) hs (by walk_at "sels")
    exact fin _ (hs.perm (by walk_at "sels"))
  · have hlt : fs.length < n := by have := int_ne c; omega
    walk_at "x"
    rw [List.length_map]
    cases fr with
    | nil =>
      refine if_dT rfl ?_
      walk_at "x"
      have hs := WsA.I (xs := xs) (sent := sent) (fr := []) (put := put) hs (by walk_at "sels")
      exact fin _ (hs.perm (by walk_at "sels"))
    | cons b fr2 =>
      refine if_dF (by simp <;> omega) ?_
      walk_at "x"
      refine c_pool_acquire hs (by walk_at "sel") (fun h => by cases h) fun b' r' e H2 hs2 => ?_
      obtain ⟨rfl, rfl⟩ := List.cons.inj e
      clear hs
      have hs := hs2
      simp only [List.map_cons] at hs
      simp only [List.length_cons] at hfr
      walk_at "x"
      refine if_ndF rfl ?_
      walk_at "x"
      refine c_pick [2, 16] hs (by walk_at "sel") (by walk_at "sel") (by rfl) (by simp) (by simp) fun m1 H3 hm1 hs => ?_
      have hm1 : 2 ≤ m1 ∧ m1 ≤ 16 := by simp at hm1; omega
      walk_at "x"
      refine c_draw hs (by walk_at "sel") (by omega) (by omega) fun r1 H4 ra1 rb1 hs => ?_
      walk_at "x"
      refine k_lcFS (fun i acc => acc.length = i ∧ ∀ y ∈ acc, ∃ z, y = V.int z) (fun _ _ => _) hs (by omega) (by omega) ⟨rfl, by simp⟩ (fun D i acc H' hi ha f hs R0 N y _ => ?_) fun D acc H' ha f hs => ?_
      · walk_at "x"
        refine ⟨rfl, lc_yes ?_⟩
        walk_at "x"
        refine c_draw hs (by walk_at "sel") (by omega) (by omega) fun r2 H5 ra2 rb2 hs => ?_
        refine y _ _ ⟨by rw [List.length_append, f.1]; rfl, fun y hy => ?_⟩ (hs.perm (by walk_at "selm"))
        rcases List.mem_append.mp hy with hy | hy
        · exact f.2 y hy
        · rw [List.mem_singleton.mp hy]; exact ⟨_, rfl⟩
      · obtain ⟨ys, rfl⟩ := ints_of f.2
        have hyl := f.1
        rw [List.length_map] at hyl
        have hy1 : 1 ≤ ys.length ∧ ys.length ≤ 16 := by omega
        walk_at "x"
        refine a2 ⟨rp, n, [], [], fs, _, _, rfl, hs, by walk_at "sel", b, rfl, (fun h => by simp at h; omega), fun _ H6 hs => ?_⟩
        walk_at "x"
        obtain ⟨L0, eL, hs'⟩ : ∃ L0, L0 = _ ∧ Sl.St (SrA a rp n [(b : Int)] (ys.take 0) fs :: cell D (.lst (ys.map V.int)) :: L0) H6 := ⟨_, rfl, hs.sel2 .here (by walk_at "sel")⟩
        clear hs
        refine k_forL (fun i σ H' => ∃ u : Option V, σ = [some (.ref st), some (.ref rp), some (.ref pp), some (.int n), some (.ref pw), some (.ref fl), some (.int b), some (.ref D), none, u] ∧ Sl.St (SrA a rp n [(b : Int)] (ys.take i) fs :: cell D (.lst (ys.map V.int)) :: L0) H') (by exact Or.inl (Or.inl (hs'.get (.there .here)))) ⟨_, rfl, hs'⟩ (fun i σ H' _ ⟨_, _, hs⟩ => by walk_at "sg") ?_ ?_
        · clear hs'
          rintro i x σ H' hx ⟨u, rfl, hs⟩
          rw [List.getElem?_map] at hx
          obtain ⟨z, hz1, rfl⟩ : ∃ z, ys[i]? = some z ∧ V.int z = x := by
            cases h : ys[i]? with
            | none => rw [h] at hx; cases hx
            | some z => rw [h] at hx; exact ⟨z, rfl, Option.some.inj hx⟩
          walk_at "x"
          refine a2 ⟨rp, n, [(b : Int)], ys.take i, fs, _, _, rfl, hs, .here, z, rfl, by rw [List.length_take]; omega, (fun h => by cases h), fun _ H7 hs => ?_⟩
          rw [← take_snoc hz1] at hs
          walk_at "x"
          exact ⟨_, rfl, hs⟩
        · clear hs'
          rintro σ H7 ⟨u, rfl, hs⟩
          rw [List.length_map, List.take_length] at hs
          subst eL
          walk_at "x"
          refine a2 ⟨rp, n, [(b : Int)], ys, fs, _, _, rfl, hs, .here, 0, rfl, (fun h => by cases h), fun b' r' e H8 hs2 => ?_⟩
          obtain ⟨rfl, rfl⟩ := List.cons.inj e
          clear hs
          have hs := hs2
          walk_at "x"
          refine c_setLS (j := 4) hs (by walk_at "sel") rfl (by simp) fun H9 hs => ?_
          simp only [List.set] at hs
          rw [← List.map_append] at hs
          walk_at "x"
          have hs := bufA.I (s := ((b : Int), ys)) hs (by walk_at "sels")
          have hs := lA.snocS (Pa := bufA) (x := ((b : Int), ys)) (xs := fwOf fs moved) hs (by walk_at "sel") .here
          rw [show fwOf fs moved ++ [((b : Int), ys)] = fwOf (fs ++ [((b : Int), ys, 0)]) moved from (fwOf_snoc ((b : Int), ys, 0) ok.m0).symm] at hs
          have hs := WsA.I (xs := xs) (sent := sent) (fr := fr2) (put := put ++ ys) hs (by walk_at "sels")
          exact k (fs ++ [((b : Int), ys, 0)]) (os.set b (some 4)) fr2 (put ++ ys) _ (ok.fill pok hy1.1 hy1.2) (by rw [List.length_append]; omega) ((SnA.I hs (by walk_at "sels")).perm (by walk_at "sels"))
end
end My
set_option Elab.async false
set_option maxRecDepth 100000
set_option maxHeartbeats 100000000
set_option linter.all false
namespace My
open PySem L2 Sx Rd Sl
local macro_rules | `(tactic| walk_at "ne") => `(tactic| (first | with_reducible assumption | with_reducible exact Ne.symm (by with_reducible assumption)))
local macro_rules | `(tactic| walk_at "nin") => `(tactic| (simp only [List.mem_cons, List.not_mem_nil, or_false, not_or, not_false_eq_true]; (repeat' refine And.intro ?_ ?_); (all_goals walk_at "ne")))
local macro_rules | `(tactic| walk_at "hl") => `(tactic| (first | (with_reducible assumption) | exact upd_same | ((with_reducible refine' (upd_ne ?hne).trans ?hgo); (case hne => walk_at "ne"); (case hgo => walk_at "hl"))))
local macro_rules | `(tactic| walk_at "sq") => `(tactic| (first | (with_reducible assumption) | exact Or.inl (Or.inl (by walk_at "hl"))))
local macro_rules | `(tactic| walk_at "ar") => `(tactic| (first | omega | exact ⟨by omega, by omega⟩ | exact Or.inl ⟨by omega, by omega⟩ | exact Or.inr ⟨by omega, by omega⟩ | (show (0 : Int) < _; omega) | (show (0 : Int) < _ ∧ _ < (1073741824 : Int); omega)))
local macro_rules | `(tactic| walk_at "cls") => `(tactic| (first | exact Txt.cl_Sender (by assumption) | exact Txt.cl_Ring (by assumption) | exact Txt.cl_Pool (by assumption) | exact Txt.cl_TransmitQueue (by assumption) | exact Txt.cl_SlotRing (by assumption)))
local macro_rules | `(tactic| walk_at "noa") => `(tactic| (first | exact Txt.n_Sender_queue (by assumption) | exact Txt.n_Sender_ring (by assumption) | exact Txt.n_Sender_pool (by assumption) | exact Txt.n_Sender_moved (by assumption) | exact Txt.n_Ring_cells (by assumption) | exact Txt.n_Ring_written (by assumption) | exact Txt.n_Ring_taken (by assumption) | exact Txt.n_Pool_owners (by assumption) | exact Txt.n_Pool_free (by assumption) | exact Txt.n_TransmitQueue_capacity (by assumption) | exact Txt.n_TransmitQueue_bytes (by assumption) | exact Txt.n_SlotRing_slots (by assumption) | exact Txt.n_SlotRing_armed (by assumption) | exact Txt.n_SlotRing_filled (by assumption) | exact Txt.n_SlotRing_added (by assumption)))
local macro_rules | `(tactic| walk_at "lkp") => `(tactic| (first | (with_reducible exact F_Sender_queue_l) | (with_reducible exact F_Sender_ring_l) | (with_reducible exact F_Sender_pool_l) | (with_reducible exact F_Sender_moved_l) | (with_reducible exact F_Ring_cells_l) | (with_reducible exact F_Ring_written_l) | (with_reducible exact F_Ring_taken_l) | (with_reducible exact F_Pool_owners_l) | (with_reducible exact F_Pool_free_l) | (with_reducible exact F_TransmitQueue_capacity_l) | (with_reducible exact F_TransmitQueue_bytes_l) | (with_reducible exact F_SlotRing_slots_l) | (with_reducible exact F_SlotRing_armed_l) | (with_reducible exact F_SlotRing_filled_l) | (with_reducible exact F_SlotRing_added_l)))
local macro_rules | `(tactic| walk_at "ptf") => `(tactic| (first | (with_reducible exact F_Sender_queue_p) | (with_reducible exact F_Sender_ring_p) | (with_reducible exact F_Sender_pool_p) | (with_reducible exact F_Sender_moved_p) | (with_reducible exact F_Ring_cells_p) | (with_reducible exact F_Ring_written_p) | (with_reducible exact F_Ring_taken_p) | (with_reducible exact F_Pool_owners_p) | (with_reducible exact F_Pool_free_p) | (with_reducible exact F_TransmitQueue_capacity_p) | (with_reducible exact F_TransmitQueue_bytes_p) | (with_reducible exact F_SlotRing_slots_p) | (with_reducible exact F_SlotRing_armed_p) | (with_reducible exact F_SlotRing_filled_p) | (with_reducible exact F_SlotRing_added_p) | exact rfl))
local macro_rules | `(tactic| walk_at "lnF") => `(tactic| (first | (with_reducible exact F_Sender_len) | (with_reducible exact F_Ring_len) | (with_reducible exact F_Pool_len) | (with_reducible exact F_TransmitQueue_len) | (with_reducible exact F_SlotRing_len) | (refine PL.lt (n := 60) ?_ (by decide); (repeat refine PL.put ?_); exact PL.nil) | decide))
local macro_rules | `(tactic| walk_at "nol") => `(tactic| (first | (with_reducible exact F_Sender_m_can_step) | (with_reducible exact F_Sender_m_step) | (with_reducible exact F_Sender_m_waiting) | (with_reducible exact F_Sender_m_empty_slot) | (with_reducible exact F_Ring_m_held) | (with_reducible exact F_Ring_m_is_full) | (with_reducible exact F_Ring_m_put) | (with_reducible exact F_Ring_m_first) | (with_reducible exact F_Ring_m_take) | (with_reducible exact F_Ring_m_listed) | (with_reducible exact F_Ring_m_next) | (with_reducible exact F_Pool_m_free) | (with_reducible exact F_Pool_m_owner) | (with_reducible exact F_Pool_m_held) | (with_reducible exact F_Pool_m_acquire) | (with_reducible exact F_Pool_m_release) | (with_reducible exact F_Pool_m_may_acquire) | (with_reducible exact F_Pool_m_exists) | (with_reducible exact F_TransmitQueue_m_put) | (with_reducible exact F_TransmitQueue_m_take) | (with_reducible exact F_TransmitQueue_m_space) | (with_reducible exact F_TransmitQueue_m_contents) | (with_reducible exact F_SlotRing_m_can_arm) | (with_reducible exact F_SlotRing_m_arm) | (with_reducible exact F_SlotRing_m_open_slot) | (with_reducible exact F_SlotRing_m_open_bytes) | (with_reducible exact F_SlotRing_m_open_count) | (with_reducible exact F_SlotRing_m_add) | (with_reducible exact F_SlotRing_m_close) | (with_reducible exact F_SlotRing_m_oldest) | (with_reducible exact F_SlotRing_m_reap) | (with_reducible exact F_SlotRing_m_filled_slots) | (with_reducible exact F_SlotRing_m_buffers)))
local macro_rules | `(tactic| walk_at "r1") => `(tactic| (first
  | with_reducible apply l_cons | ((with_reducible apply e_var); (case h => exact rfl)) | with_reducible apply l_nil | with_reducible apply s_seq | with_reducible apply e_c | with_reducible apply g_name
  | with_reducible apply s_asg | with_reducible apply e_call | with_reducible apply k_t | with_reducible apply e_op | with_reducible apply e_cb | with_reducible apply t_test
  | with_reducible apply s_if | with_reducible apply t_or | with_reducible apply t_and | with_reducible apply t_B | with_reducible apply s_next | with_reducible apply p_some
  | with_reducible apply p_no | with_reducible apply e_sl | with_reducible apply k_i | with_reducible apply e_lst | with_reducible apply t_not | with_reducible apply o_I0
  | ((with_reducible refine' o_I ?hc ?_); (case hc => walk_at "ar")) | with_reducible apply e_meth | ((with_reducible refine' k_meth ?h1 ?h2 ?_); (case h1 => walk_at "hl"); (case h2 => walk_at "nol")) | with_reducible apply e_fld | ((with_reducible refine' k_fld ?h1 ?h2 ?h3 ?h4 ?_); (case h1 => walk_at "hl"); (case h2 => walk_at "cls"); (case h3 => walk_at "noa"); (case h4 => walk_at "lkp")) | with_reducible apply e_not
  | with_reducible apply s_ret | ((with_reducible refine' k_ty ?h1 ?_); (case h1 => walk_at "sq")) | with_reducible apply s_drop | with_reducible apply s_retN | with_reducible apply s_cont | with_reducible apply s_break
  | with_reducible apply o_chC | ((with_reducible refine' o_chV ?hv ?_); (case hv => exact rfl)) | with_reducible apply e_un | with_reducible apply o_U | ((with_reducible refine' o_eq ?hs ?_); (case hs => exact rfl)) | ((with_reducible refine' o_ne ?hs ?_); (case hs => exact rfl))
  | ((with_reducible refine' o_ixL ?h1 ?h2 ?_); (case h1 => walk_at "sq"); (case h2 => first | exact rfl | exact atI_zero _ _)) | with_reducible apply s_fld | with_reducible apply e_make | ((with_reducible refine' k_set ?h1 ?h2 ?h3 ?h4 ?h5 ?_); (case h1 => walk_at "hl"); (case h2 => walk_at "cls"); (case h3 => walk_at "noa"); (case h4 => walk_at "ptf"); (case h5 => walk_at "lnF")) | with_reducible apply e_tup | with_reducible apply e_bm
  | with_reducible apply e_bm0 | with_reducible apply e_if | with_reducible apply e_chain | with_reducible apply s_raise | with_reducible apply g_sub | ((with_reducible refine' c_ln ?h1 ?_); (case h1 => walk_at "sq"))
  | ((with_reducible refine' c_pop0 ?h1 ?h2 ?_); (case h1 => walk_at "hl"); (case h2 => omega)) | with_reducible apply c_isBool | with_reducible apply c_isInt | with_reducible apply c_isBoolN | with_reducible apply c_isTupI | with_reducible apply c_isNonB
  | with_reducible apply c_isNonT | ((with_reducible refine' c_isList ?h1 ?_); (case h1 => walk_at "hl")) | ((with_reducible refine' c_isTup ?h1 ?_); (case h1 => walk_at "hl")) | ((with_reducible refine' c_isTupB ?h1 ?_); (case h1 => walk_at "hl")) | with_reducible apply o_isB | with_reducible apply o_notB
  | with_reducible apply e_and | with_reducible apply e_or | with_reducible apply k_bl | with_reducible apply e_xf | with_reducible apply s_augS | ((with_reducible refine' s_augV ?hv ?_); (case hv => exact rfl))
  | with_reducible apply ip_I | with_reducible apply e_lcE | ((with_reducible refine' k_xf ?h1 ?h2 ?_); (case h1 => walk_at "hl"); (case h2 => exact look_hit _ _ _)) | ((with_reducible refine' o_slL ?h1 ?_); (case h1 => walk_at "sq")) | ((with_reducible refine' k_dget ?h1 ?h2 ?_); (case h1 => walk_at "hl"); (case h2 => with_reducible assumption)) | with_reducible apply e_dget
  | with_reducible apply s_dput | with_reducible apply e_makeK | with_reducible apply g_cons | with_reducible apply g_nil | with_reducible apply c_ab | with_reducible apply c_in
  | with_reducible apply c_mx | with_reducible apply c_mn | with_reducible apply a1 | with_reducible apply a2 | with_reducible apply a3 | with_reducible apply a4
  | with_reducible apply a5 | with_reducible apply a6 | with_reducible apply a0 | with_reducible apply t_tru | with_reducible apply t_yes | ((with_reducible refine' k_truL ?h1 ?_); (case h1 => walk_at "sq")) | with_reducible refine d_nx ?_ | with_reducible refine d_rt ?_ | with_reducible refine d_bk ?_
  | with_reducible refine d_ct ?_))
local macro_rules | `(tactic| walk_at "r") => `(tactic| (repeat walk_at "r1"))
local macro_rules | `(tactic| walk_at "sel") => `(tactic| (first | with_reducible exact Sl.Sel.here | ((with_reducible refine' Sl.Sel.there ?t); (case t => walk_at "sel"))))
local macro_rules | `(tactic| walk_at "sels") => `(tactic| (first | with_reducible exact Sl.Sels.nil | ((with_reducible refine' Sl.Sels.cons ?a ?b); (case a => walk_at "sel"); (case b => walk_at "sels")) | with_reducible exact Sl.Sels.all _ | ((with_reducible refine' Sl.Sels.skip ?t); (case t => walk_at "sels"))))
local macro_rules | `(tactic| walk_at "selm") => `(tactic| ((try (simp only [])); (try simp only [List.map_append, List.map_cons, List.map_nil]); walk_at "sels"))
local macro_rules | `(tactic| walk_at "hg") => do
  let h := Lean.mkIdent `hs
  `(tactic| (first | (with_reducible assumption) | ((with_reducible refine' Sl.St.get $h ?s); (case s => walk_at "sel")) | ((with_reducible refine' Sl.St.geti $h ?s); (case s => walk_at "sel"))))
local macro_rules | `(tactic| walk_at "sg") => do
  let h := Lean.mkIdent `hs
  `(tactic| (first | (with_reducible assumption) | exact Or.inl (Or.inl (by walk_at "hg")) | (refine' Sl.sqA.U $h ?s; (case s => walk_at "sel"))))
local macro_rules | `(tactic| walk_at "le5") => `(tactic| (first | omega | (simp only [List.length_cons, List.length_nil, List.length_append, List.length_map]; omega) | (show _ ≤ _; decide) | (show _ < _; decide)))
local macro_rules | `(tactic| walk_at "km") => `(tactic| fail)
local macro_rules | `(tactic| walk_at "kf") => `(tactic| fail)
local macro_rules | `(tactic| walk_at "x1") => do
  let h := Lean.mkIdent `hs
  `(tactic| (first
  | with_reducible apply l_cons | ((with_reducible apply e_var); (case h => exact rfl)) | with_reducible apply l_nil | with_reducible apply s_seq | with_reducible apply e_c | with_reducible apply g_name
  | with_reducible apply s_asg | with_reducible apply e_call | with_reducible apply k_t | with_reducible apply e_op | with_reducible apply e_cb | with_reducible apply t_test
  | with_reducible apply s_if | with_reducible apply t_or | with_reducible apply t_and | with_reducible apply t_B | with_reducible apply s_next | with_reducible apply p_some
  | with_reducible apply p_no | with_reducible apply e_sl | with_reducible apply k_i | with_reducible apply Sl.e_lstS | with_reducible apply t_not | with_reducible apply o_I0
  | ((with_reducible refine' o_I ?hc ?_); (case hc => walk_at "ar")) | with_reducible apply e_meth | ((with_reducible refine' k_meth ?h1 ?h2 ?_); (case h1 => walk_at "hg"); (case h2 => walk_at "nol")) | walk_at "km" | with_reducible apply e_fld
  | ((with_reducible refine' k_fld ?h1 ?h2 ?h3 ?h4 ?_); (case h1 => walk_at "hg"); (case h2 => walk_at "cls"); (case h3 => walk_at "noa"); (case h4 => walk_at "lkp")) | walk_at "kf" | with_reducible apply e_not
  | with_reducible apply s_ret | ((with_reducible refine' k_ty ?h1 ?_); (case h1 => walk_at "sg")) | with_reducible apply s_drop | with_reducible apply s_retN | with_reducible apply s_cont | with_reducible apply s_break
  | with_reducible apply o_chC | ((with_reducible refine' o_chV ?hv ?_); (case hv => exact rfl)) | with_reducible apply e_un | with_reducible apply o_U | ((with_reducible refine' o_eq ?hs ?_); (case hs => exact rfl)) | ((with_reducible refine' o_ne ?hs ?_); (case hs => exact rfl))
  | ((with_reducible refine' o_ixL ?h1 ?h2 ?_); (case h1 => walk_at "sg"); (case h2 => first | exact rfl | exact atI_zero _ _)) | ((with_reducible refine' o_ixT ?h1 ?h2 ?_); (case h1 => walk_at "sg"); (case h2 => first | exact rfl | exact atI_zero _ _)) | with_reducible apply s_fld | with_reducible apply Sl.e_makeS
  | ((with_reducible refine' Sl.k_setS $h ?h1 ?h2 ?h3 ?h4 ?h5 ?_); (case h1 => walk_at "sel"); (case h2 => walk_at "cls"); (case h3 => walk_at "noa"); (case h4 => walk_at "ptf"); (case h5 => walk_at "lnF"); (clear $h; intro _ $h)) | with_reducible apply Sl.e_tupS | with_reducible apply e_bm
  | with_reducible apply e_bm0 | with_reducible apply e_if | with_reducible apply e_chain | with_reducible apply s_raise | with_reducible apply g_sub | ((with_reducible refine' c_ln ?h1 ?_); (case h1 => walk_at "sg")) | ((with_reducible refine' c_lnT ?h1 ?_); (case h1 => walk_at "sg"))
  | ((with_reducible refine' Sl.k_newL $h ?h1 ?_); (case h1 => walk_at "le5"); (clear $h; intro _ _ $h)) | ((with_reducible refine' Sl.k_newT $h ?h1 ?_); (case h1 => walk_at "le5"); (clear $h; intro _ _ $h)) | ((with_reducible refine' Sl.k_make $h ?_); (clear $h; intro _ _ _ $h))
  | ((with_reducible refine' Sl.c_appS $h ?h1 ?h2 ?_); (case h1 => walk_at "sel"); (case h2 => walk_at "le5"); (clear $h; intro _ $h)) | ((with_reducible refine' Sl.c_pop0S $h ?h1 ?h2 ?_); (case h1 => walk_at "sel"); (case h2 => walk_at "le5"); (clear $h; intro _ $h))
  | ((with_reducible refine' Sl.c_lsS $h ?h1 ?_); (case h1 => walk_at "sg"); (clear $h; intro _ _ $h)) | ((with_reducible refine' Sl.o_slLS $h ?h1 ?_); (case h1 => walk_at "sg"); (clear $h; intro _ _ $h)) | ((with_reducible refine' Sl.c_clrS $h ?h1 ?_); (case h1 => walk_at "sel"); (clear $h; intro _ $h))
  | ((with_reducible refine' Sl.o_catS $h ?h1 ?h2 ?h3 ?_); (case h1 => walk_at "hg"); (case h2 => walk_at "hg"); (case h3 => walk_at "le5"); (clear $h; intro _ _ $h)) | ((with_reducible refine' Sl.c_extS $h ?h1 ?h2 ?h3 ?_); (case h1 => walk_at "sel"); (case h2 => walk_at "hg"); (case h3 => walk_at "le5"); (clear $h; intro _ $h))
  | ((with_reducible refine' Sl.k_raise $h ?h1 ?_); (case h1 => exact okV_int ⟨by omega, by omega⟩); (clear $h; intro _ _ $h))
  | with_reducible apply c_isBool | with_reducible apply c_isInt | with_reducible apply c_isBoolN | with_reducible apply c_isTupI | with_reducible apply c_isNonB
  | with_reducible apply c_isNonT | ((with_reducible refine' c_isList ?h1 ?_); (case h1 => walk_at "hg")) | ((with_reducible refine' c_isTup ?h1 ?_); (case h1 => walk_at "hg")) | ((with_reducible refine' c_isTupB ?h1 ?_); (case h1 => walk_at "hg")) | with_reducible apply o_isB | with_reducible apply o_notB
  | with_reducible apply e_and | with_reducible apply e_or | with_reducible apply k_bl | with_reducible apply e_xf | with_reducible apply s_augS | ((with_reducible refine' s_augV ?hv ?_); (case hv => exact rfl)) | with_reducible apply Sl.s_aug
  | with_reducible apply ip_I | with_reducible apply e_lcE | with_reducible apply e_lcL | with_reducible apply f_lst | with_reducible apply e_lcF | with_reducible apply f_rng1 | ((with_reducible refine' k_xf ?h1 ?h2 ?_); (case h1 => walk_at "hg"); (case h2 => exact look_hit _ _ _)) | ((with_reducible refine' k_dget ?h1 ?h2 ?_); (case h1 => walk_at "hg"); (case h2 => with_reducible assumption)) | with_reducible apply e_dget
  | with_reducible apply s_dput | with_reducible apply Sl.e_makeKS | with_reducible apply g_cons | with_reducible apply g_nil | ((with_reducible refine' g_tup ?h1 ?h2 ?_); (case h1 => walk_at "sg"); (case h2 => exact rfl)) | with_reducible apply c_ab | with_reducible apply c_in
  | with_reducible apply c_mx | with_reducible apply c_mn | with_reducible apply a1 | with_reducible apply a2 | with_reducible apply a3 | with_reducible apply a4
  | with_reducible apply a5 | with_reducible apply a6 | with_reducible apply a0 | with_reducible apply t_tru | with_reducible apply t_yes | ((with_reducible refine' k_truL ?h1 ?_); (case h1 => walk_at "sg")) | with_reducible refine d_nx ?_ | with_reducible refine d_rt ?_ | with_reducible refine d_bk ?_
  | with_reducible refine d_ct ?_))
local macro_rules | `(tactic| walk_at "x") => `(tactic| (repeat walk_at "x1"))
local macro_rules | `(tactic| walk_at "km") => do let h := Lean.mkIdent `hs; `(tactic| ((with_reducible refine' km_Ring $h ?s ?m ?_); (case s => walk_at "sel"); (case m => intros; walk_at "nol")))
local macro_rules | `(tactic| walk_at "km") => do let h := Lean.mkIdent `hs; `(tactic| ((with_reducible refine' km_SlotRing $h ?s ?m ?_); (case s => walk_at "sel"); (case m => intros; walk_at "nol")))
local macro_rules | `(tactic| walk_at "km") => do let h := Lean.mkIdent `hs; `(tactic| ((with_reducible refine' km_Pool $h ?s ?m ?_); (case s => walk_at "sel"); (case m => intros; walk_at "nol")))
local macro_rules | `(tactic| walk_at "km") => do let h := Lean.mkIdent `hs; `(tactic| ((with_reducible refine' km_Tq $h ?s ?m ?_); (case s => walk_at "sel"); (case m => intros; walk_at "nol")))
local macro_rules | `(tactic| walk_at "km") => do let h := Lean.mkIdent `hs; `(tactic| ((with_reducible refine' km_Sd $h ?s ?m ?_); (case s => walk_at "sel"); (case m => intros; walk_at "nol")))
section
variable {P : Program} {w : World} {K : PySem.W.Frag} {mg : Str → Option Value} {base : Heap} {a : Ads}
theorem SnOk.init {n : Nat} {os : List (Option Int)} : SnOk n [] 0 os [] [] [] := ⟨fun s r e => (by cases e), fun _ => rfl, fun s h => (by cases h), List.nodup_nil, fun s h => (by cases h), rfl⟩
theorem SnOk.take {n : Nat} {fs : List Slt} {moved : Nat} {os : List (Option Int)} {z : Int} {ys sent put : List Int} (o : SnOk n fs moved os (z :: ys) sent put) : SnOk n fs moved os ys (sent ++ [z]) put := by
  obtain ⟨mv, m0, ow, nd, ln, pt⟩ := o
  exact ⟨mv, m0, ow, nd, ln, by rw [← pt]; simp⟩
theorem SnOk.lens {n : Nat} {fs : List Slt} {moved : Nat} {os : List (Option Int)} {xs sent put : List Int} (o : SnOk n fs moved os xs sent put) : sent.length + xs.length ≤ put.length := by rw [← o.pt]; simp
theorem ok_law (T : Txt P w K mg base a) : FnOk P w K mg base (L2.CX P w) 9 a.f_law a.fd_law ["script"] (sp_law K a) := by
  have G_law_state := ok_law_state T
  have G_law_draw := ok_law_draw T
  have G_law_pick := ok_law_pick T
  have G_TransmitQueue_init := ok_TransmitQueue_init T
  have G_SlotRing_init := ok_SlotRing_init T
  have G_Pool_init := ok_Pool_init T
  have G_Sender_init := ok_Sender_init T
  have G_law_fills := ok_law_fills T
  have G_TransmitQueue_take := ok_TransmitQueue_take T
  have G_law_steps := ok_law_steps T
  have G_law_agrees := ok_law_agrees T
  refine T.F_law.okX sc_law (fun vs H Q E h => A1.len h) (fun cdv A outer s H vs Q E hr h => ?_)
  have hu := hu_of hr
  obtain ⟨v_script, rfl, h⟩ := h
  refine ⟨_, (pss_cons (ps_set (i := 1) sc_law.nd rfl (by first | exact Or.inl rfl | exact Or.inr rfl) (pe_callS G_law_state (hr.mono (by decide)) rfl T.g_law_state T.F_law_state.kp T.b_law_state (fun σ => passAt (takes_of rfl rfl rfl rfl) σ) (pa_cons (pv 0) pa_nil)))
    (pss_cons (ps_set (i := 2) sc_law.nd rfl (by first | exact Or.inl rfl | exact Or.inr rfl) (pe_op op_add pe_int (pe_callS G_law_draw (hr.mono (by decide)) rfl T.g_law_draw T.F_law_draw.kp T.b_law_draw (fun σ => passAt (takes_of rfl rfl rfl rfl) σ) (pa_cons (pv 1) (pa_cons pe_int pa_nil)))))
    (pss_cons (ps_set (i := 3) sc_law.nd rfl (by first | exact Or.inl rfl | exact Or.inr rfl) (pe_op op_add pe_int (pe_callS G_law_draw (hr.mono (by decide)) rfl T.g_law_draw T.F_law_draw.kp T.b_law_draw (fun σ => passAt (takes_of rfl rfl rfl rfl) σ) (pa_cons (pv 1) (pa_cons pe_int pa_nil)))))
    (pss_cons (ps_set (i := 4) sc_law.nd rfl (by first | exact Or.inl rfl | exact Or.inr rfl) (pe_op op_add pe_int (pe_callS G_law_draw (hr.mono (by decide)) rfl T.g_law_draw T.F_law_draw.kp T.b_law_draw (fun σ => passAt (takes_of rfl rfl rfl rfl) σ) (pa_cons (pv 1) (pa_cons (pe_callS G_law_pick (hr.mono (by decide)) rfl T.g_law_pick T.F_law_pick.kp T.b_law_pick (fun σ => passAt (takes_of rfl rfl rfl rfl) σ) (pa_cons (pv 1) (pa_cons (pe_lst (pa_cons pe_int (pa_cons pe_int pa_nil))) pa_nil))) pa_nil)))))
    (pss_cons (ps_set (i := 5) sc_law.nd rfl (by first | exact Or.inl rfl | exact Or.inr rfl) (pe_makeS T.mk_TransmitQueue G_TransmitQueue_init (hr.mono (by decide)) rfl T.g_TransmitQueue T.b_TransmitQueue_init (fun σ => passAt (takes_of rfl rfl rfl rfl) σ) (pa_cons (pv 3) pa_nil)))
    (pss_cons (ps_set (i := 6) sc_law.nd rfl (by first | exact Or.inl rfl | exact Or.inr rfl) (pe_makeS T.mk_SlotRing G_SlotRing_init (hr.mono (by decide)) rfl T.g_SlotRing T.b_SlotRing_init (fun σ => passAt (takes_of rfl rfl rfl rfl) σ) (pa_cons (pv 2) pa_nil)))
    (pss_cons (ps_set (i := 7) sc_law.nd rfl (by first | exact Or.inl rfl | exact Or.inr rfl) (pe_makeS T.mk_Pool G_Pool_init (hr.mono (by decide)) rfl T.g_Pool T.b_Pool_init (fun σ => passAt (takes_of rfl rfl rfl rfl) σ) (pa_cons (pv 4) pa_nil)))
    (pss_cons (ps_set (i := 8) sc_law.nd rfl (by first | exact Or.inl rfl | exact Or.inr rfl) (pe_makeS T.mk_Sender G_Sender_init (hr.mono (by decide)) rfl T.g_Sender T.b_Sender_init (fun σ => passAt (takes_of rfl rfl rfl rfl) σ) (pa_cons (pv 5) (pa_cons (pv 6) (pa_cons (pv 7) pa_nil)))))
    (pss_cons (ps_set (i := 9) sc_law.nd rfl (by first | exact Or.inl rfl | exact Or.inr rfl) (pe_lst (pa_cons (pe_lst pa_nil) (pa_cons (pe_lst pa_nil) (pa_cons (pe_lst pa_nil) (pa_cons (pe_lc (own := [("buffer", 10)]) (g := (gName 10)) (tt := tYes) (te := (tVar 10)) rfl sc_law.nd (pi_range1 rfl T.g_range (pa_cons (pv 4) pa_nil)) (blkOk_by (N := ["script", "state", "slots", "capacity", "many", "queue", "ring", "pool", "sender", "world", "buffer", "sent", "cell", "kind", "k", "byte", "due"]) (sc := defScope s_law) (own := [("buffer", 10)]) (by decide +kernel)) (fun _ _ _ _ _ => by exact (pg_name (i := 10) sc_law.nd rfl (by first | exact Or.inl rfl | exact Or.inr rfl))) (fun _ _ _ _ _ => by exact pts_nil) (fun _ _ _ _ _ => by exact (pv 10))) (pa_cons (pe_lst pa_nil) pa_nil)))))))
    (pss_cons (ps_set (i := 11) sc_law.nd rfl (by first | exact Or.inl rfl | exact Or.inr rfl) (pe_ix ix_list (pv 9) pe_int (fun _ _ => rfl)))
    (pss_cons (ps_for (passes_of rfl) rfl (pi_list (pe_slice sl_list (pv 0) po_none (po_some pe_int))) (pg_name (i := 12) sc_law.nd rfl (by first | exact Or.inl rfl | exact Or.inr rfl)) (pss_cons (ps_set (i := 13) sc_law.nd rfl (by first | exact Or.inl rfl | exact Or.inr rfl) (pe_callS G_law_draw (hr.mono (by decide)) rfl T.g_law_draw T.F_law_draw.kp T.b_law_draw (fun σ => passAt (takes_of rfl rfl rfl rfl) σ) (pa_cons (pv 1) (pa_cons pe_int pa_nil))))
    (pss_cons (ps_if (pt_up (PW.pt (pw_and (pt_cmpR op_eq (pv 13) pe_int (nomark _)) (pw_and1 (pt_not (pt_val (pe_callS G_law_fills (hr.mono (by decide)) rfl T.g_law_fills T.F_law_fills.kp T.b_law_fills (fun σ => passAt (takes_of rfl rfl rfl rfl) σ) (pa_cons (pv 1) (pa_cons (pv 6) (pa_cons (pv 7) (pa_cons (pv 2) (pa_cons (pv 9) pa_nil)))))))))))) (pss_one (ps_ret pe_bl)) pss_nil)
    (pss_cons (ps_for (passes_of rfl) rfl (pi_range1 rfl T.g_range (pa_cons (pe_callS G_law_draw (hr.mono (by decide)) rfl T.g_law_draw T.F_law_draw.kp T.b_law_draw (fun σ => passAt (takes_of rfl rfl rfl rfl) σ) (pa_cons (pv 1) (pa_cons pe_int pa_nil))) pa_nil)) (pg_name (i := 14) sc_law.nd rfl (by first | exact Or.inl rfl | exact Or.inr rfl)) (pss_one (ps_if (pt_cmpR op_eq (pv 13) pe_int (nomark _)) (pss_cons (ps_set (i := 15) sc_law.nd rfl (by first | exact Or.inl rfl | exact Or.inr rfl) (pe_meth0S (pv 5) T.cl_TransmitQueue T.m_TransmitQueue_take G_TransmitQueue_take (hr.mono (by decide)) T.b_TransmitQueue_take (fun σ => passAt (takes_of rfl rfl rfl rfl) σ)))
    (pss_cons (ps_set (i := 16) sc_law.nd rfl (by first | exact Or.inl rfl | exact Or.inr rfl) pe_non)
    (Evl.pss_cut (ps_if (pt_cmpR op_gt (pe_callB call_ln (by rfl) T.g_len (by decide +kernel) (pa_cons (pe_ix ix_list (pv 9) pe_int (fun _ _ => rfl)) pa_nil)) pe_int (nomark _)) (pss_cons (ps_set (i := 16) sc_law.nd rfl (by first | exact Or.inl rfl | exact Or.inr rfl) (pe_bm PySem.F.plainAttrs_list PySem.F.slot_list_pop PySem.F.type_list_pop mt_popAt (pe_ix ix_list (pv 9) pe_int (fun _ _ => rfl)) (pa_cons pe_int pa_nil)))
    (pss_one (ps_expr (pe_bm PySem.F.plainAttrs_list PySem.F.slot_list_append PySem.F.type_list_append mt_append (pv 11) (pa_cons (pv 16) pa_nil))))) pss_nil)
    (pss_one (ps_if (pt_cmpR op_ne (pv 15) (pv 16) (nomark _)) (pss_one (ps_ret pe_bl)) pss_nil))))) (pss_one (ps_if (pt_not (pt_val (pe_callS G_law_steps (hr.mono (by decide)) rfl T.g_law_steps T.F_law_steps.kp T.b_law_steps (fun σ => passAt (takes_of rfl rfl rfl rfl) σ) (pa_cons (pv 8) (pa_cons (pv 3) (pa_cons (pv 9) pa_nil)))))) (pss_one (ps_ret pe_bl)) pss_nil)))))
    (pss_one (ps_if (pt_not (pt_val (pe_callS G_law_agrees (hr.mono (by decide)) rfl T.g_law_agrees T.F_law_agrees.kp T.b_law_agrees (fun σ => passAt (takes_of rfl rfl rfl rfl) σ) (pa_cons (pv 8) (pa_cons (pv 5) (pa_cons (pv 6) (pa_cons (pv 7) (pa_cons (pv 9) pa_nil)))))))) (pss_one (ps_ret pe_bl)) pss_nil))))))
    (pss_one (ps_ret (pe_callS G_law_agrees (hr.mono (by decide)) rfl T.g_law_agrees T.F_law_agrees.kp T.b_law_agrees (fun σ => passAt (takes_of rfl rfl rfl rfl) σ) (pa_cons (pv 8) (pa_cons (pv 5) (pa_cons (pv 6) (pa_cons (pv 7) (pa_cons (pv 9) pa_nil))))))))))))))))))), ?_⟩
  obtain ⟨b, ns, rfl, hS, hn, k⟩ := h
  have hs : Sl.St [sqA K b (ns.map V.int)] H := sqA.new hS
  walk_at "x"
  refine c_state hs hS hn fun st H1 hs _ => ?_
  walk_at "x"
  refine c_draw hs (by walk_at "sel") (by omega) (by omega) fun r1 H2 ra1 rb1 hs => ?_
  walk_at "x"
  obtain ⟨n, hn1⟩ : ∃ n : Nat, (n : Int) = 1 + r1 := ⟨(1 + r1).toNat, by omega⟩
  rw [← hn1]
  refine c_draw hs (by walk_at "sel") (by omega) (by omega) fun r2 H3 ra2 rb2 hs => ?_
  walk_at "x"
  obtain ⟨cap, hn2⟩ : ∃ n : Nat, (n : Int) = 1 + r2 := ⟨(1 + r2).toNat, by omega⟩
  rw [← hn2]
  refine c_pick [3, 64] hs (by walk_at "sel") (by walk_at "sel") (by rfl) (by simp) (by simp) fun m1 H4 hm1 hs => ?_
  have hm1 : 3 ≤ m1 ∧ m1 ≤ 64 := by simp at hm1; omega
  walk_at "x"
  refine c_draw hs (by walk_at "sel") (by omega) (by omega) fun r3 H5 ra3 rb3 hs => ?_
  walk_at "x"
  obtain ⟨m, hn3⟩ : ∃ n : Nat, (n : Int) = 1 + r3 := ⟨(1 + r3).toNat, by omega⟩
  rw [← hn3]
  refine Rd.a2 ⟨_, _, cap, _, _, rfl, rfl, hs, .here, by omega, by omega, fun H6 hs => ⟨rfl, ?_⟩⟩
  walk_at "x"
  refine Rd.a2 ⟨_, _, n, _, _, rfl, rfl, by omega, by omega, hs, .here, fun H7 hs => ⟨rfl, ?_⟩⟩
  walk_at "x"
  refine c_pool_init hs .here (by omega) (by omega) fun H8 hs => ⟨rfl, ?_⟩
  walk_at "x"
  refine Rd.a4 ⟨_, _, _, _, _, _, _, rfl, rfl, rfl, rfl, hs, .here, fun H9 hs => ⟨rfl, ?_⟩⟩
  walk_at "x"
  refine k_lcFS (fun i acc => acc = (List.range i).map nv) (fun _ _ => _) hs (by omega) (by omega) rfl (fun D i acc H' hi ha f hs R0 N y _ => ?_) fun D acc H' ha f hs => ?_
  · walk_at "x"
    refine ⟨rfl, lc_yes ?_⟩
    walk_at "x"
    refine y _ _ ?_ (hs.perm (by walk_at "selm"))
    show _ = (List.range (i + 1)).map nv
    rw [List.range_succ, List.map_append, ← f]; rfl
  subst f
  rw [Int.toNat_natCast] at hs
  walk_at "x"
  have hq := sqA.U (K := K) (xs := ns.map V.int) hs (by walk_at "sel")
  refine o_slLS hs hq fun c H12 hs => ?_
  rw [show (some 63 : Option Int) = some ((63 : Nat) : Int) from rfl, cut_take] at hs
  have hlen : ((ns.map V.int).take 63).length ≤ 63 := by simp; omega
  generalize (ns.map V.int).take 63 = xs at hs hlen
  have hs := WsA.I (fw := fwOf [] 0) (xs := []) (sent := []) (fr := List.range m) (put := []) (vs := []) (lA.nilI hs) (by show Sels [_, _, lA bufA [] [], _, _, _, _] _ _; walk_at "selm")
  have hs := SnA.I (fs := []) (moved := 0) hs (by walk_at "sels")
  have hm : 1 ≤ m ∧ m ≤ 64 := by omega
  have hcap : 1 ≤ cap ∧ cap ≤ 16 := by omega
  have hn8 : 1 ≤ n ∧ n ≤ 8 := by omega
  refine k_forL (fun i σ H' => ∃ (p qp rp pp pw sl : Addr) (moved : Nat) (fs : List Slt) (os : List (Option Int)) (fr : List Nat) (ys sent put : List Int) (u1 u2 u3 u4 u5 : Option V), σ = [some (.ref b), some (.ref st), some (.int n), some (.int cap), some (.int m), some (.ref qp), some (.ref rp), some (.ref pp), some (.ref p), some (.ref pw), none, some (.ref sl), u1, u2, u3, u4, u5] ∧
    put.length ≤ 16 * i ∧ SnOk n fs moved os ys sent put ∧ Sl.St [cell c (.lst xs), SnA a p qp rp pp pw sl cap n m moved fs os fr ys sent put, StA st] H') (by walk_at "sg") ⟨_, _, _, _, _, _, 0, [], _, _, [], [], [], _, _, _, _, _, rfl, by simp, SnOk.init, hs.perm (by walk_at "sels")⟩
    (fun i σ H' _ ⟨_, _, _, _, _, _, _, _, _, _, _, _, _, _, _, _, _, _, _, _, _, hs⟩ => by walk_at "sg") ?_ ?_
  · clear hs hq
    rintro i x σ H' hx ⟨p, qp, rp, pp, pw, sl, moved, fs, os, fr, ys, sent, put, u1, u2, u3, u4, u5, rfl, hp, ok, hs⟩
    have hi : i < 63 := Nat.lt_of_lt_of_le (List.getElem?_eq_some_iff.mp hx).1 hlen
    walk_at "x"
    refine c_draw hs (by walk_at "sel") (by omega) (by omega) fun r4 H2 ra4 rb4 hs => ?_
    walk_at "x"
    refine t_up (fun bb H' => bb = false ∧ ∃ (fs : List Slt) (os : List (Option Int)) (fr : List Nat) (put : List Int), put.length ≤ 16 * (i + 1) ∧ SnOk n fs moved os ys sent put ∧ Sl.St [cell c (.lst xs), SnA a p qp rp pp pw sl cap n m moved fs os fr ys sent put, StA st] H') ?_ ?_
    · walk_at "x"
      refine if_d (fun c0 => ?_) (fun c0 => ?_)
      · walk_at "x"
        refine Rd.a5 ⟨st, p, qp, rp, pp, pw, sl, cap, n, m, moved, fs, os, fr, ys, sent, put, _, _, rfl, rfl, rfl, rfl, rfl, hs, by walk_at "sels", ok, by omega, fun fs2 os2 fr2 put2 H3 ok2 hp2 hs => ?_⟩
        walk_at "x"
        exact ⟨rfl, fs2, os2, fr2, put2, by omega, ok2, hs.perm (by walk_at "sels")⟩
      · exact ⟨rfl, fs, os, fr, put, by omega, ok, hs.perm (by walk_at "sels")⟩
    clear hs ok hp
    rintro bb H3 ⟨rfl, fs, os, fr, put, hp, ok, hs⟩
    refine iteF ?_
    walk_at "x"
    refine c_draw hs (by walk_at "sel") (by omega) (by omega) fun r5 H4 ra5 rb5 hs => ?_
    walk_at "x"
    refine k_rng (fun j σ H' => ∃ (moved : Nat) (fs : List Slt) (os : List (Option Int)) (fr : List Nat) (ys sent : List Int) (u3 u4 u5 : Option V), σ = [some (.ref b), some (.ref st), some (.int n), some (.int cap), some (.int m), some (.ref qp), some (.ref rp), some (.ref pp), some (.ref p), some (.ref pw), none, some (.ref sl), some x, some (.int r4), u3, u4, u5] ∧
      SnOk n fs moved os ys sent put ∧ Sl.St [cell c (.lst xs), SnA a p qp rp pp pw sl cap n m moved fs os fr ys sent put, StA st] H') (by omega) (by omega) ⟨moved, fs, os, fr, ys, sent, _, _, _, rfl, ok, hs.perm (by walk_at "sels")⟩ ?_ ?_
    · clear hs ok
      rintro j σ H5 hj ⟨moved, fs, os, fr, ys, sent, u3, u4, u5, rfl, ok, hs⟩
      walk_at "x"
      refine if_d (fun c1 => ?_) (fun c1 => ?_)
      · have hU := SnA.U hs (by walk_at "sel")
        clear hs
        have hs := hU
        have hlens := ok.lens
        have hU := WsA.U hs (by walk_at "sel")
        clear hs
        obtain ⟨fl, ql, rl, ul, vs, hl, hs⟩ := hU
        walk_at "x"
        refine Rd.a1 ⟨qp, cap, ys, _, _, rfl, hs, by walk_at "sel", fun e => ?_, fun z zs e H6 hs2 => ?_⟩
        · subst e
          walk_at "x"
          refine s_cut0 ?_
          walk_at "x"
          refine if_dF (by simp) ?_
          walk_at "x"
          refine if_ndF rfl ?_
          walk_at "x"
          have hs := WsA.I (fw := fwOf fs moved) (xs := []) (sent := sent) (fr := fr) (put := put) (vs := vs) hs (by walk_at "sels")
          exact ⟨moved, fs, os, fr, [], sent, _, _, _, rfl, ok, (SnA.I hs (by walk_at "sels")).perm (by walk_at "sels")⟩
        · subst e
          clear hs
          have hs := hs2
          simp only [List.map_cons] at hs
          simp only [List.length_cons] at hlens
          walk_at "x"
          refine s_cut0 ?_
          walk_at "x"
          refine if_dT (by simp <;> omega) ?_
          walk_at "x"
          refine if_ndF rfl ?_
          walk_at "x"
          have hs := WsA.I (fw := fwOf fs moved) (xs := zs) (sent := sent ++ [z]) (fr := fr) (put := put) (vs := vs) hs (by walk_at "selm")
          exact ⟨moved, fs, os, fr, zs, sent ++ [z], _, _, _, rfl, ok.take, (SnA.I hs (by walk_at "sels")).perm (by walk_at "sels")⟩
      · walk_at "x"
        refine Rd.a3 ⟨p, qp, rp, pp, pw, sl, cap, n, m, moved, fs, os, fr, ys, sent, put, _, _, rfl, rfl, rfl, hs, by walk_at "sel", ok, fun moved2 fs2 os2 fr2 ys2 H6 ok2 hs => ?_⟩
        walk_at "x"
        refine iteF ?_
        walk_at "x"
        exact ⟨moved2, fs2, os2, fr2, ys2, sent, _, _, _, rfl, ok2, hs.perm (by walk_at "sels")⟩
    · rintro σ H5 ⟨moved, fs, os, fr, ys, sent, u3, u4, u5, rfl, ok, hs⟩
      walk_at "x"
      refine Rd.a5 ⟨p, qp, rp, pp, pw, sl, cap, n, m, moved, fs, os, fr, ys, sent, put, _, _, rfl, rfl, rfl, rfl, rfl, hs, by walk_at "sel", ok, by omega, fun H8 hs => ?_⟩
      walk_at "x"
      refine iteF ?_
      walk_at "x"
      exact ⟨p, qp, rp, pp, pw, sl, moved, fs, os, fr, ys, sent, put, _, _, _, _, _, rfl, hp, ok, hs.perm (by walk_at "sels")⟩
  · rintro σ H' ⟨p, qp, rp, pp, pw, sl, moved, fs, os, fr, ys, sent, put, u1, u2, u3, u4, u5, rfl, hp, ok, hs⟩
    walk_at "x"
    refine Rd.a5 ⟨p, qp, rp, pp, pw, sl, cap, n, m, moved, fs, os, fr, ys, sent, put, _, _, rfl, rfl, rfl, rfl, rfl, hs, by walk_at "sel", ok, by omega, fun H8 hs => ?_⟩
    walk_at "x"
    exact k _
end
end My
set_option Elab.async false
set_option maxRecDepth 100000
set_option maxHeartbeats 100000000
set_option linter.all false
namespace My
open PySem L2 Sx Rd Sl
local macro_rules | `(tactic| walk_at "ne") => `(tactic| (first | with_reducible assumption | with_reducible exact Ne.symm (by with_reducible assumption)))
local macro_rules | `(tactic| walk_at "nin") => `(tactic| (simp only [List.mem_cons, List.not_mem_nil, or_false, not_or, not_false_eq_true]; (repeat' refine And.intro ?_ ?_); (all_goals walk_at "ne")))
local macro_rules | `(tactic| walk_at "hl") => `(tactic| (first | (with_reducible assumption) | exact upd_same | ((with_reducible refine' (upd_ne ?hne).trans ?hgo); (case hne => walk_at "ne"); (case hgo => walk_at "hl"))))
local macro_rules | `(tactic| walk_at "sq") => `(tactic| (first | (with_reducible assumption) | exact Or.inl (Or.inl (by walk_at "hl"))))
local macro_rules | `(tactic| walk_at "ar") => `(tactic| (first | omega | exact ⟨by omega, by omega⟩ | exact Or.inl ⟨by omega, by omega⟩ | exact Or.inr ⟨by omega, by omega⟩ | (show (0 : Int) < _; omega) | (show (0 : Int) < _ ∧ _ < (1073741824 : Int); omega)))
local macro_rules | `(tactic| walk_at "cls") => `(tactic| (first | exact Txt.cl_Sender (by assumption) | exact Txt.cl_Ring (by assumption) | exact Txt.cl_Pool (by assumption) | exact Txt.cl_TransmitQueue (by assumption) | exact Txt.cl_SlotRing (by assumption)))
local macro_rules | `(tactic| walk_at "noa") => `(tactic| (first | exact Txt.n_Sender_queue (by assumption) | exact Txt.n_Sender_ring (by assumption) | exact Txt.n_Sender_pool (by assumption) | exact Txt.n_Sender_moved (by assumption) | exact Txt.n_Ring_cells (by assumption) | exact Txt.n_Ring_written (by assumption) | exact Txt.n_Ring_taken (by assumption) | exact Txt.n_Pool_owners (by assumption) | exact Txt.n_Pool_free (by assumption) | exact Txt.n_TransmitQueue_capacity (by assumption) | exact Txt.n_TransmitQueue_bytes (by assumption) | exact Txt.n_SlotRing_slots (by assumption) | exact Txt.n_SlotRing_armed (by assumption) | exact Txt.n_SlotRing_filled (by assumption) | exact Txt.n_SlotRing_added (by assumption)))
local macro_rules | `(tactic| walk_at "lkp") => `(tactic| (first | (with_reducible exact F_Sender_queue_l) | (with_reducible exact F_Sender_ring_l) | (with_reducible exact F_Sender_pool_l) | (with_reducible exact F_Sender_moved_l) | (with_reducible exact F_Ring_cells_l) | (with_reducible exact F_Ring_written_l) | (with_reducible exact F_Ring_taken_l) | (with_reducible exact F_Pool_owners_l) | (with_reducible exact F_Pool_free_l) | (with_reducible exact F_TransmitQueue_capacity_l) | (with_reducible exact F_TransmitQueue_bytes_l) | (with_reducible exact F_SlotRing_slots_l) | (with_reducible exact F_SlotRing_armed_l) | (with_reducible exact F_SlotRing_filled_l) | (with_reducible exact F_SlotRing_added_l)))
local macro_rules | `(tactic| walk_at "ptf") => `(tactic| (first | (with_reducible exact F_Sender_queue_p) | (with_reducible exact F_Sender_ring_p) | (with_reducible exact F_Sender_pool_p) | (with_reducible exact F_Sender_moved_p) | (with_reducible exact F_Ring_cells_p) | (with_reducible exact F_Ring_written_p) | (with_reducible exact F_Ring_taken_p) | (with_reducible exact F_Pool_owners_p) | (with_reducible exact F_Pool_free_p) | (with_reducible exact F_TransmitQueue_capacity_p) | (with_reducible exact F_TransmitQueue_bytes_p) | (with_reducible exact F_SlotRing_slots_p) | (with_reducible exact F_SlotRing_armed_p) | (with_reducible exact F_SlotRing_filled_p) | (with_reducible exact F_SlotRing_added_p) | exact rfl))
local macro_rules | `(tactic| walk_at "lnF") => `(tactic| (first | (with_reducible exact F_Sender_len) | (with_reducible exact F_Ring_len) | (with_reducible exact F_Pool_len) | (with_reducible exact F_TransmitQueue_len) | (with_reducible exact F_SlotRing_len) | (refine PL.lt (n := 60) ?_ (by decide); (repeat refine PL.put ?_); exact PL.nil) | decide))
local macro_rules | `(tactic| walk_at "nol") => `(tactic| (first | (with_reducible exact F_Sender_m_can_step) | (with_reducible exact F_Sender_m_step) | (with_reducible exact F_Sender_m_waiting) | (with_reducible exact F_Sender_m_empty_slot) | (with_reducible exact F_Ring_m_held) | (with_reducible exact F_Ring_m_is_full) | (with_reducible exact F_Ring_m_put) | (with_reducible exact F_Ring_m_first) | (with_reducible exact F_Ring_m_take) | (with_reducible exact F_Ring_m_listed) | (with_reducible exact F_Ring_m_next) | (with_reducible exact F_Pool_m_free) | (with_reducible exact F_Pool_m_owner) | (with_reducible exact F_Pool_m_held) | (with_reducible exact F_Pool_m_acquire) | (with_reducible exact F_Pool_m_release) | (with_reducible exact F_Pool_m_may_acquire) | (with_reducible exact F_Pool_m_exists) | (with_reducible exact F_TransmitQueue_m_put) | (with_reducible exact F_TransmitQueue_m_take) | (with_reducible exact F_TransmitQueue_m_space) | (with_reducible exact F_TransmitQueue_m_contents) | (with_reducible exact F_SlotRing_m_can_arm) | (with_reducible exact F_SlotRing_m_arm) | (with_reducible exact F_SlotRing_m_open_slot) | (with_reducible exact F_SlotRing_m_open_bytes) | (with_reducible exact F_SlotRing_m_open_count) | (with_reducible exact F_SlotRing_m_add) | (with_reducible exact F_SlotRing_m_close) | (with_reducible exact F_SlotRing_m_oldest) | (with_reducible exact F_SlotRing_m_reap) | (with_reducible exact F_SlotRing_m_filled_slots) | (with_reducible exact F_SlotRing_m_buffers)))
local macro_rules | `(tactic| walk_at "r1") => `(tactic| (first
  | with_reducible apply l_cons | ((with_reducible apply e_var); (case h => exact rfl)) | with_reducible apply l_nil | with_reducible apply s_seq | with_reducible apply e_c | with_reducible apply g_name
  | with_reducible apply s_asg | with_reducible apply e_call | with_reducible apply k_t | with_reducible apply e_op | with_reducible apply e_cb | with_reducible apply t_test
  | with_reducible apply s_if | with_reducible apply t_or | with_reducible apply t_and | with_reducible apply t_B | with_reducible apply s_next | with_reducible apply p_some
  | with_reducible apply p_no | with_reducible apply e_sl | with_reducible apply k_i | with_reducible apply e_lst | with_reducible apply t_not | with_reducible apply o_I0
  | ((with_reducible refine' o_I ?hc ?_); (case hc => walk_at "ar")) | with_reducible apply e_meth | ((with_reducible refine' k_meth ?h1 ?h2 ?_); (case h1 => walk_at "hl"); (case h2 => walk_at "nol")) | with_reducible apply e_fld | ((with_reducible refine' k_fld ?h1 ?h2 ?h3 ?h4 ?_); (case h1 => walk_at "hl"); (case h2 => walk_at "cls"); (case h3 => walk_at "noa"); (case h4 => walk_at "lkp")) | with_reducible apply e_not
  | with_reducible apply s_ret | ((with_reducible refine' k_ty ?h1 ?_); (case h1 => walk_at "sq")) | with_reducible apply s_drop | with_reducible apply s_retN | with_reducible apply s_cont | with_reducible apply s_break
  | with_reducible apply o_chC | ((with_reducible refine' o_chV ?hv ?_); (case hv => exact rfl)) | with_reducible apply e_un | with_reducible apply o_U | ((with_reducible refine' o_eq ?hs ?_); (case hs => exact rfl)) | ((with_reducible refine' o_ne ?hs ?_); (case hs => exact rfl))
  | ((with_reducible refine' o_ixL ?h1 ?h2 ?_); (case h1 => walk_at "sq"); (case h2 => first | exact rfl | exact atI_zero _ _)) | with_reducible apply s_fld | with_reducible apply e_make | ((with_reducible refine' k_set ?h1 ?h2 ?h3 ?h4 ?h5 ?_); (case h1 => walk_at "hl"); (case h2 => walk_at "cls"); (case h3 => walk_at "noa"); (case h4 => walk_at "ptf"); (case h5 => walk_at "lnF")) | with_reducible apply e_tup | with_reducible apply e_bm
  | with_reducible apply e_bm0 | with_reducible apply e_if | with_reducible apply e_chain | with_reducible apply s_raise | with_reducible apply g_sub | ((with_reducible refine' c_ln ?h1 ?_); (case h1 => walk_at "sq"))
  | ((with_reducible refine' c_pop0 ?h1 ?h2 ?_); (case h1 => walk_at "hl"); (case h2 => omega)) | with_reducible apply c_isBool | with_reducible apply c_isInt | with_reducible apply c_isBoolN | with_reducible apply c_isTupI | with_reducible apply c_isNonB
  | with_reducible apply c_isNonT | ((with_reducible refine' c_isList ?h1 ?_); (case h1 => walk_at "hl")) | ((with_reducible refine' c_isTup ?h1 ?_); (case h1 => walk_at "hl")) | ((with_reducible refine' c_isTupB ?h1 ?_); (case h1 => walk_at "hl")) | with_reducible apply o_isB | with_reducible apply o_notB
  | with_reducible apply e_and | with_reducible apply e_or | with_reducible apply k_bl | with_reducible apply e_xf | with_reducible apply s_augS | ((with_reducible refine' s_augV ?hv ?_); (case hv => exact rfl))
  | with_reducible apply ip_I | with_reducible apply e_lcE | ((with_reducible refine' k_xf ?h1 ?h2 ?_); (case h1 => walk_at "hl"); (case h2 => exact look_hit _ _ _)) | ((with_reducible refine' o_slL ?h1 ?_); (case h1 => walk_at "sq")) | ((with_reducible refine' k_dget ?h1 ?h2 ?_); (case h1 => walk_at "hl"); (case h2 => with_reducible assumption)) | with_reducible apply e_dget
  | with_reducible apply s_dput | with_reducible apply e_makeK | with_reducible apply g_cons | with_reducible apply g_nil | with_reducible apply c_ab | with_reducible apply c_in
  | with_reducible apply c_mx | with_reducible apply c_mn | with_reducible apply a1 | with_reducible apply a2 | with_reducible apply a3 | with_reducible apply a4
  | with_reducible apply a5 | with_reducible apply a6 | with_reducible apply a0 | with_reducible apply t_tru | with_reducible apply t_yes | ((with_reducible refine' k_truL ?h1 ?_); (case h1 => walk_at "sq")) | with_reducible refine d_nx ?_ | with_reducible refine d_rt ?_ | with_reducible refine d_bk ?_
  | with_reducible refine d_ct ?_))
local macro_rules | `(tactic| walk_at "r") => `(tactic| (repeat walk_at "r1"))
local macro_rules | `(tactic| walk_at "sel") => `(tactic| (first | with_reducible exact Sl.Sel.here | ((with_reducible refine' Sl.Sel.there ?t); (case t => walk_at "sel"))))
local macro_rules | `(tactic| walk_at "sels") => `(tactic| (first | with_reducible exact Sl.Sels.nil | ((with_reducible refine' Sl.Sels.cons ?a ?b); (case a => walk_at "sel"); (case b => walk_at "sels")) | with_reducible exact Sl.Sels.all _ | ((with_reducible refine' Sl.Sels.skip ?t); (case t => walk_at "sels"))))
local macro_rules | `(tactic| walk_at "selm") => `(tactic| ((try (simp only [])); (try simp only [List.map_append, List.map_cons, List.map_nil]); walk_at "sels"))
local macro_rules | `(tactic| walk_at "hg") => do
  let h := Lean.mkIdent `hs
  `(tactic| (first | (with_reducible assumption) | ((with_reducible refine' Sl.St.get $h ?s); (case s => walk_at "sel")) | ((with_reducible refine' Sl.St.geti $h ?s); (case s => walk_at "sel"))))
local macro_rules | `(tactic| walk_at "sg") => do
  let h := Lean.mkIdent `hs
  `(tactic| (first | (with_reducible assumption) | exact Or.inl (Or.inl (by walk_at "hg")) | (refine' Sl.sqA.U $h ?s; (case s => walk_at "sel"))))
local macro_rules | `(tactic| walk_at "le5") => `(tactic| (first | omega | (simp only [List.length_cons, List.length_nil, List.length_append, List.length_map]; omega) | (show _ ≤ _; decide) | (show _ < _; decide)))
local macro_rules | `(tactic| walk_at "km") => `(tactic| fail)
local macro_rules | `(tactic| walk_at "kf") => `(tactic| fail)
local macro_rules | `(tactic| walk_at "x1") => do
  let h := Lean.mkIdent `hs
  `(tactic| (first
  | with_reducible apply l_cons | ((with_reducible apply e_var); (case h => exact rfl)) | with_reducible apply l_nil | with_reducible apply s_seq | with_reducible apply e_c | with_reducible apply g_name
  | with_reducible apply s_asg | with_reducible apply e_call | with_reducible apply k_t | with_reducible apply e_op | with_reducible apply e_cb | with_reducible apply t_test
  | with_reducible apply s_if | with_reducible apply t_or | with_reducible apply t_and | with_reducible apply t_B | with_reducible apply s_next | with_reducible apply p_some
  | with_reducible apply p_no | with_reducible apply e_sl | with_reducible apply k_i | with_reducible apply Sl.e_lstS | with_reducible apply t_not | with_reducible apply o_I0
  | ((with_reducible refine' o_I ?hc ?_); (case hc => walk_at "ar")) | with_reducible apply e_meth | ((with_reducible refine' k_meth ?h1 ?h2 ?_); (case h1 => walk_at "hg"); (case h2 => walk_at "nol")) | walk_at "km" | with_reducible apply e_fld
  | ((with_reducible refine' k_fld ?h1 ?h2 ?h3 ?h4 ?_); (case h1 => walk_at "hg"); (case h2 => walk_at "cls"); (case h3 => walk_at "noa"); (case h4 => walk_at "lkp")) | walk_at "kf" | with_reducible apply e_not
  | with_reducible apply s_ret | ((with_reducible refine' k_ty ?h1 ?_); (case h1 => walk_at "sg")) | with_reducible apply s_drop | with_reducible apply s_retN | with_reducible apply s_cont | with_reducible apply s_break
  | with_reducible apply o_chC | ((with_reducible refine' o_chV ?hv ?_); (case hv => exact rfl)) | with_reducible apply e_un | with_reducible apply o_U | ((with_reducible refine' o_eq ?hs ?_); (case hs => exact rfl)) | ((with_reducible refine' o_ne ?hs ?_); (case hs => exact rfl))
  | ((with_reducible refine' o_ixL ?h1 ?h2 ?_); (case h1 => walk_at "sg"); (case h2 => first | exact rfl | exact atI_zero _ _)) | ((with_reducible refine' o_ixT ?h1 ?h2 ?_); (case h1 => walk_at "sg"); (case h2 => first | exact rfl | exact atI_zero _ _)) | with_reducible apply s_fld | with_reducible apply Sl.e_makeS
  | ((with_reducible refine' Sl.k_setS $h ?h1 ?h2 ?h3 ?h4 ?h5 ?_); (case h1 => walk_at "sel"); (case h2 => walk_at "cls"); (case h3 => walk_at "noa"); (case h4 => walk_at "ptf"); (case h5 => walk_at "lnF"); (clear $h; intro _ $h)) | with_reducible apply Sl.e_tupS | with_reducible apply e_bm
  | with_reducible apply e_bm0 | with_reducible apply e_if | with_reducible apply e_chain | with_reducible apply s_raise | with_reducible apply g_sub | ((with_reducible refine' c_ln ?h1 ?_); (case h1 => walk_at "sg")) | ((with_reducible refine' c_lnT ?h1 ?_); (case h1 => walk_at "sg"))
  | ((with_reducible refine' Sl.k_newL $h ?h1 ?_); (case h1 => walk_at "le5"); (clear $h; intro _ _ $h)) | ((with_reducible refine' Sl.k_newT $h ?h1 ?_); (case h1 => walk_at "le5"); (clear $h; intro _ _ $h)) | ((with_reducible refine' Sl.k_make $h ?_); (clear $h; intro _ _ _ $h))
  | ((with_reducible refine' Sl.c_appS $h ?h1 ?h2 ?_); (case h1 => walk_at "sel"); (case h2 => walk_at "le5"); (clear $h; intro _ $h)) | ((with_reducible refine' Sl.c_pop0S $h ?h1 ?h2 ?_); (case h1 => walk_at "sel"); (case h2 => walk_at "le5"); (clear $h; intro _ $h))
  | ((with_reducible refine' Sl.c_lsS $h ?h1 ?_); (case h1 => walk_at "sg"); (clear $h; intro _ _ $h)) | ((with_reducible refine' Sl.o_slLS $h ?h1 ?_); (case h1 => walk_at "sg"); (clear $h; intro _ _ $h)) | ((with_reducible refine' Sl.c_clrS $h ?h1 ?_); (case h1 => walk_at "sel"); (clear $h; intro _ $h))
  | ((with_reducible refine' Sl.o_catS $h ?h1 ?h2 ?h3 ?_); (case h1 => walk_at "hg"); (case h2 => walk_at "hg"); (case h3 => walk_at "le5"); (clear $h; intro _ _ $h)) | ((with_reducible refine' Sl.c_extS $h ?h1 ?h2 ?h3 ?_); (case h1 => walk_at "sel"); (case h2 => walk_at "hg"); (case h3 => walk_at "le5"); (clear $h; intro _ $h))
  | ((with_reducible refine' Sl.k_raise $h ?h1 ?_); (case h1 => exact okV_int ⟨by omega, by omega⟩); (clear $h; intro _ _ $h))
  | with_reducible apply c_isBool | with_reducible apply c_isInt | with_reducible apply c_isBoolN | with_reducible apply c_isTupI | with_reducible apply c_isNonB
  | with_reducible apply c_isNonT | ((with_reducible refine' c_isList ?h1 ?_); (case h1 => walk_at "hg")) | ((with_reducible refine' c_isTup ?h1 ?_); (case h1 => walk_at "hg")) | ((with_reducible refine' c_isTupB ?h1 ?_); (case h1 => walk_at "hg")) | with_reducible apply o_isB | with_reducible apply o_notB
  | with_reducible apply e_and | with_reducible apply e_or | with_reducible apply k_bl | with_reducible apply e_xf | with_reducible apply s_augS | ((with_reducible refine' s_augV ?hv ?_); (case hv => exact rfl)) | with_reducible apply Sl.s_aug
  | with_reducible apply ip_I | with_reducible apply e_lcE | with_reducible apply e_lcL | with_reducible apply f_lst | with_reducible apply e_lcF | with_reducible apply f_rng1 | ((with_reducible refine' k_xf ?h1 ?h2 ?_); (case h1 => walk_at "hg"); (case h2 => exact look_hit _ _ _)) | ((with_reducible refine' k_dget ?h1 ?h2 ?_); (case h1 => walk_at "hg"); (case h2 => with_reducible assumption)) | with_reducible apply e_dget
  | with_reducible apply s_dput | with_reducible apply Sl.e_makeKS | with_reducible apply g_cons | with_reducible apply g_nil | ((with_reducible refine' g_tup ?h1 ?h2 ?_); (case h1 => walk_at "sg"); (case h2 => exact rfl)) | with_reducible apply c_ab | with_reducible apply c_in
  | with_reducible apply c_mx | with_reducible apply c_mn | with_reducible apply a1 | with_reducible apply a2 | with_reducible apply a3 | with_reducible apply a4
  | with_reducible apply a5 | with_reducible apply a6 | with_reducible apply a0 | with_reducible apply t_tru | with_reducible apply t_yes | ((with_reducible refine' k_truL ?h1 ?_); (case h1 => walk_at "sg")) | with_reducible refine d_nx ?_ | with_reducible refine d_rt ?_ | with_reducible refine d_bk ?_
  | with_reducible refine d_ct ?_))
local macro_rules | `(tactic| walk_at "x") => `(tactic| (repeat walk_at "x1"))
local macro_rules | `(tactic| walk_at "km") => do let h := Lean.mkIdent `hs; `(tactic| ((with_reducible refine' km_Ring $h ?s ?m ?_); (case s => walk_at "sel"); (case m => intros; walk_at "nol")))
local macro_rules | `(tactic| walk_at "km") => do let h := Lean.mkIdent `hs; `(tactic| ((with_reducible refine' km_SlotRing $h ?s ?m ?_); (case s => walk_at "sel"); (case m => intros; walk_at "nol")))
local macro_rules | `(tactic| walk_at "km") => do let h := Lean.mkIdent `hs; `(tactic| ((with_reducible refine' km_Pool $h ?s ?m ?_); (case s => walk_at "sel"); (case m => intros; walk_at "nol")))
local macro_rules | `(tactic| walk_at "km") => do let h := Lean.mkIdent `hs; `(tactic| ((with_reducible refine' km_Tq $h ?s ?m ?_); (case s => walk_at "sel"); (case m => intros; walk_at "nol")))
local macro_rules | `(tactic| walk_at "km") => do let h := Lean.mkIdent `hs; `(tactic| ((with_reducible refine' km_Sd $h ?s ?m ?_); (case s => walk_at "sel"); (case m => intros; walk_at "nol")))
section
variable {P : Program} {w : World} {K : PySem.W.Frag} {mg : Str → Option Value} {base : Heap} {a : Ads}
end
/-- the top's facts -/
theorem all_mk {l : PySem.W.OpenLaw} {w : World} {K : PySem.W.Frag} {h : Heap} {mg : Str → Option Value} {fa : Addr} (hl : l.prog = PySem.Challenge.pw_tickrings_k15_sending) (X : K.In h) (G : h.Ns mainGlobals mg) (hfa : mg "law" = some (.ref fa))
    {C_Sender C_TickringsError C_RingError C_PoolError C_Ring C_Pool C_TransmitQueue C_SlotRing : Addr} {f_wall f_Sender_init f_Sender_can_step f_Sender_step f_Sender_waiting f_Sender_empty_slot f_RingError_init f_PoolError_init f_Ring_init f_Ring_held f_Ring_is_full f_Ring_put f_Ring_first f_Ring_take f_Ring_listed f_Ring_next f_Pool_init f_Pool_free f_Pool_owner f_Pool_held f_Pool_acquire f_Pool_release f_Pool_may_acquire f_Pool_exists f_TransmitQueue_init f_TransmitQueue_put f_TransmitQueue_take f_TransmitQueue_space f_TransmitQueue_contents f_copied f_SlotRing_init f_SlotRing_can_arm f_SlotRing_arm f_SlotRing_open_slot f_SlotRing_open_bytes f_SlotRing_open_count f_SlotRing_add f_SlotRing_close f_SlotRing_oldest f_SlotRing_reap f_SlotRing_filled_slots f_SlotRing_buffers f_law_state f_law_draw f_law_pick f_law_fills f_law_steps f_law_rest f_law_agrees f_law : Addr}
    {oc_wall : Value} {dc_wall : Value} {pm_wall : Value} {cd_wall : Value} {ct_wall : Value} {kV_wall : Value} {od_wall : Option Addr} {an_wall : Option Addr} {sl_wall : Array (Option Value)} {oc_Sender_init : Value} {dc_Sender_init : Value} {pm_Sender_init : Value} {cd_Sender_init : Value} {ct_Sender_init : Value} {kV_Sender_init : Value} {od_Sender_init : Option Addr} {an_Sender_init : Option Addr} {sl_Sender_init : Array (Option Value)} {oc_Sender_can_step : Value} {dc_Sender_can_step : Value} {pm_Sender_can_step : Value} {cd_Sender_can_step : Value} {ct_Sender_can_step : Value} {kV_Sender_can_step : Value} {od_Sender_can_step : Option Addr} {an_Sender_can_step : Option Addr} {sl_Sender_can_step : Array (Option Value)} {oc_Sender_step : Value} {dc_Sender_step : Value} {pm_Sender_step : Value} {cd_Sender_step : Value} {ct_Sender_step : Value} {kV_Sender_step : Value} {od_Sender_step : Option Addr} {an_Sender_step : Option Addr} {sl_Sender_step : Array (Option Value)} {oc_Sender_waiting : Value} {dc_Sender_waiting : Value} {pm_Sender_waiting : Value} {cd_Sender_waiting : Value} {ct_Sender_waiting : Value} {kV_Sender_waiting : Value} {od_Sender_waiting : Option Addr} {an_Sender_waiting : Option Addr} {sl_Sender_waiting : Array (Option Value)} {oc_Sender_empty_slot : Value} {dc_Sender_empty_slot : Value} {pm_Sender_empty_slot : Value} {cd_Sender_empty_slot : Value} {ct_Sender_empty_slot : Value} {kV_Sender_empty_slot : Value} {od_Sender_empty_slot : Option Addr} {an_Sender_empty_slot : Option Addr} {sl_Sender_empty_slot : Array (Option Value)} {oc_RingError_init : Value} {dc_RingError_init : Value} {pm_RingError_init : Value} {ct_RingError_init : Value} {kV_RingError_init : Value} {od_RingError_init : Option Addr} {an_RingError_init : Option Addr} {sl_RingError_init : Array (Option Value)} {nm_RingError : Str} {qn_RingError : Str} {N_RingError : Addr} {bs_RingError : List Value} {bm_RingError : List Value} {sub_RingError : List Value} {sn_RingError : List Str} {ab_RingError : Bool} {col_RingError : Option Bool} {dd_RingError : Option Addr} {k0_RingError k1_RingError k2_RingError k3_RingError k5_RingError : Option Value} {cda_RingError cc_RingError : Addr} {cl_RingError ccl_RingError : Value} {cld_RingError cdd_RingError : Option Addr} {csl_RingError ccs_RingError : Array (Option Value)} {vs_RingError : Array Value} {file_RingError : Str} {tf_RingError : Tok} {oc_PoolError_init : Value} {dc_PoolError_init : Value} {pm_PoolError_init : Value} {ct_PoolError_init : Value} {kV_PoolError_init : Value} {od_PoolError_init : Option Addr} {an_PoolError_init : Option Addr} {sl_PoolError_init : Array (Option Value)} {nm_PoolError : Str} {qn_PoolError : Str} {N_PoolError : Addr} {bs_PoolError : List Value} {bm_PoolError : List Value} {sub_PoolError : List Value} {sn_PoolError : List Str} {ab_PoolError : Bool} {col_PoolError : Option Bool} {dd_PoolError : Option Addr} {k0_PoolError k1_PoolError k2_PoolError k3_PoolError k5_PoolError : Option Value} {cda_PoolError cc_PoolError : Addr} {cl_PoolError ccl_PoolError : Value} {cld_PoolError cdd_PoolError : Option Addr} {csl_PoolError ccs_PoolError : Array (Option Value)} {vs_PoolError : Array Value} {file_PoolError : Str} {tf_PoolError : Tok} {oc_Ring_init : Value} {dc_Ring_init : Value} {pm_Ring_init : Value} {cd_Ring_init : Value} {ct_Ring_init : Value} {kV_Ring_init : Value} {od_Ring_init : Option Addr} {an_Ring_init : Option Addr} {sl_Ring_init : Array (Option Value)} {oc_Ring_held : Value} {dc_Ring_held : Value} {pm_Ring_held : Value} {cd_Ring_held : Value} {ct_Ring_held : Value} {kV_Ring_held : Value} {od_Ring_held : Option Addr} {an_Ring_held : Option Addr} {sl_Ring_held : Array (Option Value)} {oc_Ring_is_full : Value} {dc_Ring_is_full : Value} {pm_Ring_is_full : Value} {cd_Ring_is_full : Value} {ct_Ring_is_full : Value} {kV_Ring_is_full : Value} {od_Ring_is_full : Option Addr} {an_Ring_is_full : Option Addr} {sl_Ring_is_full : Array (Option Value)} {oc_Ring_put : Value} {dc_Ring_put : Value} {pm_Ring_put : Value} {cd_Ring_put : Value} {ct_Ring_put : Value} {kV_Ring_put : Value} {od_Ring_put : Option Addr} {an_Ring_put : Option Addr} {sl_Ring_put : Array (Option Value)} {oc_Ring_first : Value} {dc_Ring_first : Value} {pm_Ring_first : Value} {cd_Ring_first : Value} {ct_Ring_first : Value} {kV_Ring_first : Value} {od_Ring_first : Option Addr} {an_Ring_first : Option Addr} {sl_Ring_first : Array (Option Value)} {oc_Ring_take : Value} {dc_Ring_take : Value} {pm_Ring_take : Value} {cd_Ring_take : Value} {ct_Ring_take : Value} {kV_Ring_take : Value} {od_Ring_take : Option Addr} {an_Ring_take : Option Addr} {sl_Ring_take : Array (Option Value)} {oc_Ring_listed : Value} {dc_Ring_listed : Value} {pm_Ring_listed : Value} {cd_Ring_listed : Value} {ct_Ring_listed : Value} {kV_Ring_listed : Value} {od_Ring_listed : Option Addr} {an_Ring_listed : Option Addr} {sl_Ring_listed : Array (Option Value)} {oc_Ring_next : Value} {dc_Ring_next : Value} {pm_Ring_next : Value} {cd_Ring_next : Value} {ct_Ring_next : Value} {kV_Ring_next : Value} {od_Ring_next : Option Addr} {an_Ring_next : Option Addr} {sl_Ring_next : Array (Option Value)} {oc_Pool_init : Value} {dc_Pool_init : Value} {pm_Pool_init : Value} {cd_Pool_init : Value} {ct_Pool_init : Value} {kV_Pool_init : Value} {od_Pool_init : Option Addr} {an_Pool_init : Option Addr} {sl_Pool_init : Array (Option Value)} {oc_Pool_free : Value} {dc_Pool_free : Value} {pm_Pool_free : Value} {cd_Pool_free : Value} {ct_Pool_free : Value} {kV_Pool_free : Value} {od_Pool_free : Option Addr} {an_Pool_free : Option Addr} {sl_Pool_free : Array (Option Value)} {oc_Pool_owner : Value} {dc_Pool_owner : Value} {pm_Pool_owner : Value} {cd_Pool_owner : Value} {ct_Pool_owner : Value} {kV_Pool_owner : Value} {od_Pool_owner : Option Addr} {an_Pool_owner : Option Addr} {sl_Pool_owner : Array (Option Value)} {oc_Pool_held : Value} {dc_Pool_held : Value} {pm_Pool_held : Value} {cd_Pool_held : Value} {ct_Pool_held : Value} {kV_Pool_held : Value} {od_Pool_held : Option Addr} {an_Pool_held : Option Addr} {sl_Pool_held : Array (Option Value)} {oc_Pool_acquire : Value} {dc_Pool_acquire : Value} {pm_Pool_acquire : Value} {cd_Pool_acquire : Value} {ct_Pool_acquire : Value} {kV_Pool_acquire : Value} {od_Pool_acquire : Option Addr} {an_Pool_acquire : Option Addr} {sl_Pool_acquire : Array (Option Value)} {oc_Pool_release : Value} {dc_Pool_release : Value} {pm_Pool_release : Value} {cd_Pool_release : Value} {ct_Pool_release : Value} {kV_Pool_release : Value} {od_Pool_release : Option Addr} {an_Pool_release : Option Addr} {sl_Pool_release : Array (Option Value)} {oc_Pool_may_acquire : Value} {dc_Pool_may_acquire : Value} {pm_Pool_may_acquire : Value} {cd_Pool_may_acquire : Value} {ct_Pool_may_acquire : Value} {kV_Pool_may_acquire : Value} {od_Pool_may_acquire : Option Addr} {an_Pool_may_acquire : Option Addr} {sl_Pool_may_acquire : Array (Option Value)} {oc_Pool_exists : Value} {dc_Pool_exists : Value} {pm_Pool_exists : Value} {cd_Pool_exists : Value} {ct_Pool_exists : Value} {kV_Pool_exists : Value} {od_Pool_exists : Option Addr} {an_Pool_exists : Option Addr} {sl_Pool_exists : Array (Option Value)} {oc_TransmitQueue_init : Value} {dc_TransmitQueue_init : Value} {pm_TransmitQueue_init : Value} {cd_TransmitQueue_init : Value} {ct_TransmitQueue_init : Value} {kV_TransmitQueue_init : Value} {od_TransmitQueue_init : Option Addr} {an_TransmitQueue_init : Option Addr} {sl_TransmitQueue_init : Array (Option Value)} {oc_TransmitQueue_put : Value} {dc_TransmitQueue_put : Value} {pm_TransmitQueue_put : Value} {cd_TransmitQueue_put : Value} {ct_TransmitQueue_put : Value} {kV_TransmitQueue_put : Value} {od_TransmitQueue_put : Option Addr} {an_TransmitQueue_put : Option Addr} {sl_TransmitQueue_put : Array (Option Value)} {oc_TransmitQueue_take : Value} {dc_TransmitQueue_take : Value} {pm_TransmitQueue_take : Value} {cd_TransmitQueue_take : Value} {ct_TransmitQueue_take : Value} {kV_TransmitQueue_take : Value} {od_TransmitQueue_take : Option Addr} {an_TransmitQueue_take : Option Addr} {sl_TransmitQueue_take : Array (Option Value)} {oc_TransmitQueue_space : Value} {dc_TransmitQueue_space : Value} {pm_TransmitQueue_space : Value} {cd_TransmitQueue_space : Value} {ct_TransmitQueue_space : Value} {kV_TransmitQueue_space : Value} {od_TransmitQueue_space : Option Addr} {an_TransmitQueue_space : Option Addr} {sl_TransmitQueue_space : Array (Option Value)} {oc_TransmitQueue_contents : Value} {dc_TransmitQueue_contents : Value} {pm_TransmitQueue_contents : Value} {cd_TransmitQueue_contents : Value} {ct_TransmitQueue_contents : Value} {kV_TransmitQueue_contents : Value} {od_TransmitQueue_contents : Option Addr} {an_TransmitQueue_contents : Option Addr} {sl_TransmitQueue_contents : Array (Option Value)} {oc_copied : Value} {dc_copied : Value} {pm_copied : Value} {cd_copied : Value} {ct_copied : Value} {kV_copied : Value} {od_copied : Option Addr} {an_copied : Option Addr} {sl_copied : Array (Option Value)} {oc_SlotRing_init : Value} {dc_SlotRing_init : Value} {pm_SlotRing_init : Value} {cd_SlotRing_init : Value} {ct_SlotRing_init : Value} {kV_SlotRing_init : Value} {od_SlotRing_init : Option Addr} {an_SlotRing_init : Option Addr} {sl_SlotRing_init : Array (Option Value)} {oc_SlotRing_can_arm : Value} {dc_SlotRing_can_arm : Value} {pm_SlotRing_can_arm : Value} {cd_SlotRing_can_arm : Value} {ct_SlotRing_can_arm : Value} {kV_SlotRing_can_arm : Value} {od_SlotRing_can_arm : Option Addr} {an_SlotRing_can_arm : Option Addr} {sl_SlotRing_can_arm : Array (Option Value)} {oc_SlotRing_arm : Value} {dc_SlotRing_arm : Value} {pm_SlotRing_arm : Value} {cd_SlotRing_arm : Value} {ct_SlotRing_arm : Value} {kV_SlotRing_arm : Value} {od_SlotRing_arm : Option Addr} {an_SlotRing_arm : Option Addr} {sl_SlotRing_arm : Array (Option Value)} {oc_SlotRing_open_slot : Value} {dc_SlotRing_open_slot : Value} {pm_SlotRing_open_slot : Value} {cd_SlotRing_open_slot : Value} {ct_SlotRing_open_slot : Value} {kV_SlotRing_open_slot : Value} {od_SlotRing_open_slot : Option Addr} {an_SlotRing_open_slot : Option Addr} {sl_SlotRing_open_slot : Array (Option Value)} {oc_SlotRing_open_bytes : Value} {dc_SlotRing_open_bytes : Value} {pm_SlotRing_open_bytes : Value} {cd_SlotRing_open_bytes : Value} {ct_SlotRing_open_bytes : Value} {kV_SlotRing_open_bytes : Value} {od_SlotRing_open_bytes : Option Addr} {an_SlotRing_open_bytes : Option Addr} {sl_SlotRing_open_bytes : Array (Option Value)} {oc_SlotRing_open_count : Value} {dc_SlotRing_open_count : Value} {pm_SlotRing_open_count : Value} {cd_SlotRing_open_count : Value} {ct_SlotRing_open_count : Value} {kV_SlotRing_open_count : Value} {od_SlotRing_open_count : Option Addr} {an_SlotRing_open_count : Option Addr} {sl_SlotRing_open_count : Array (Option Value)} {oc_SlotRing_add : Value} {dc_SlotRing_add : Value} {pm_SlotRing_add : Value} {cd_SlotRing_add : Value} {ct_SlotRing_add : Value} {kV_SlotRing_add : Value} {od_SlotRing_add : Option Addr} {an_SlotRing_add : Option Addr} {sl_SlotRing_add : Array (Option Value)} {oc_SlotRing_close : Value} {dc_SlotRing_close : Value} {pm_SlotRing_close : Value} {cd_SlotRing_close : Value} {ct_SlotRing_close : Value} {kV_SlotRing_close : Value} {od_SlotRing_close : Option Addr} {an_SlotRing_close : Option Addr} {sl_SlotRing_close : Array (Option Value)} {oc_SlotRing_oldest : Value} {dc_SlotRing_oldest : Value} {pm_SlotRing_oldest : Value} {cd_SlotRing_oldest : Value} {ct_SlotRing_oldest : Value} {kV_SlotRing_oldest : Value} {od_SlotRing_oldest : Option Addr} {an_SlotRing_oldest : Option Addr} {sl_SlotRing_oldest : Array (Option Value)} {oc_SlotRing_reap : Value} {dc_SlotRing_reap : Value} {pm_SlotRing_reap : Value} {cd_SlotRing_reap : Value} {ct_SlotRing_reap : Value} {kV_SlotRing_reap : Value} {od_SlotRing_reap : Option Addr} {an_SlotRing_reap : Option Addr} {sl_SlotRing_reap : Array (Option Value)} {oc_SlotRing_filled_slots : Value} {dc_SlotRing_filled_slots : Value} {pm_SlotRing_filled_slots : Value} {cd_SlotRing_filled_slots : Value} {ct_SlotRing_filled_slots : Value} {kV_SlotRing_filled_slots : Value} {od_SlotRing_filled_slots : Option Addr} {an_SlotRing_filled_slots : Option Addr} {sl_SlotRing_filled_slots : Array (Option Value)} {oc_SlotRing_buffers : Value} {dc_SlotRing_buffers : Value} {pm_SlotRing_buffers : Value} {cd_SlotRing_buffers : Value} {ct_SlotRing_buffers : Value} {kV_SlotRing_buffers : Value} {od_SlotRing_buffers : Option Addr} {an_SlotRing_buffers : Option Addr} {sl_SlotRing_buffers : Array (Option Value)} {oc_law_state : Value} {dc_law_state : Value} {pm_law_state : Value} {cd_law_state : Value} {ct_law_state : Value} {kV_law_state : Value} {od_law_state : Option Addr} {an_law_state : Option Addr} {sl_law_state : Array (Option Value)} {oc_law_draw : Value} {dc_law_draw : Value} {pm_law_draw : Value} {cd_law_draw : Value} {ct_law_draw : Value} {kV_law_draw : Value} {od_law_draw : Option Addr} {an_law_draw : Option Addr} {sl_law_draw : Array (Option Value)} {oc_law_pick : Value} {dc_law_pick : Value} {pm_law_pick : Value} {cd_law_pick : Value} {ct_law_pick : Value} {kV_law_pick : Value} {od_law_pick : Option Addr} {an_law_pick : Option Addr} {sl_law_pick : Array (Option Value)} {oc_law_fills : Value} {dc_law_fills : Value} {pm_law_fills : Value} {cd_law_fills : Value} {ct_law_fills : Value} {kV_law_fills : Value} {od_law_fills : Option Addr} {an_law_fills : Option Addr} {sl_law_fills : Array (Option Value)} {oc_law_steps : Value} {dc_law_steps : Value} {pm_law_steps : Value} {cd_law_steps : Value} {ct_law_steps : Value} {kV_law_steps : Value} {od_law_steps : Option Addr} {an_law_steps : Option Addr} {sl_law_steps : Array (Option Value)} {oc_law_rest : Value} {dc_law_rest : Value} {pm_law_rest : Value} {cd_law_rest : Value} {ct_law_rest : Value} {kV_law_rest : Value} {od_law_rest : Option Addr} {an_law_rest : Option Addr} {sl_law_rest : Array (Option Value)} {oc_law_agrees : Value} {dc_law_agrees : Value} {pm_law_agrees : Value} {cd_law_agrees : Value} {ct_law_agrees : Value} {kV_law_agrees : Value} {od_law_agrees : Option Addr} {an_law_agrees : Option Addr} {sl_law_agrees : Array (Option Value)} {oc_law : Value} {dc_law : Value} {pm_law : Value} {cd_law : Value} {ct_law : Value} {kV_law : Value} {od_law : Option Addr} {an_law : Option Addr} {sl_law : Array (Option Value)}
    (gC_Sender : PySem.W.nsIn K mainGlobals "Sender" = some (some (.ref C_Sender)))
    (gC_TickringsError : PySem.W.nsIn K mainGlobals "TickringsError" = some (some (.ref C_TickringsError)))
    (gC_RingError : PySem.W.nsIn K mainGlobals "RingError" = some (some (.ref C_RingError)))
    (gC_PoolError : PySem.W.nsIn K mainGlobals "PoolError" = some (some (.ref C_PoolError)))
    (gC_Ring : PySem.W.nsIn K mainGlobals "Ring" = some (some (.ref C_Ring)))
    (gC_Pool : PySem.W.nsIn K mainGlobals "Pool" = some (some (.ref C_Pool)))
    (gC_TransmitQueue : PySem.W.nsIn K mainGlobals "TransmitQueue" = some (some (.ref C_TransmitQueue)))
    (gC_SlotRing : PySem.W.nsIn K mainGlobals "SlotRing" = some (some (.ref C_SlotRing)))
    (a_wall : PySem.W.nsIn K mainGlobals "_wall" = some (some (.ref f_wall)))
    (l_wall : K.lookup f_wall = some ⟨oc_wall, od_wall, .func (PySem.W.fnOf "_wall" "_wall" (defArgs s_wall) (defBody s_wall) (defScope s_wall) .none kV_wall dc_wall pm_wall an_wall cd_wall ct_wall), sl_wall⟩)
    (c_wall : PySem.W.codeIn K cd_wall "_wall" = true)
    (k_wall : PySem.W.keepIn K (.ref f_wall) = true)
    (a_Sender_init : PySem.W.findIn K (.ref C_Sender) "__init__" = some (some (.ref f_Sender_init)))
    (i_Sender_init : PySem.W.isFn K (.ref f_Sender_init) = true)
    (l_Sender_init : K.lookup f_Sender_init = some ⟨oc_Sender_init, od_Sender_init, .func (PySem.W.fnOf "__init__" "Sender.__init__" (defArgs s_Sender_init) (defBody s_Sender_init) (defScope s_Sender_init) .none kV_Sender_init dc_Sender_init pm_Sender_init an_Sender_init cd_Sender_init ct_Sender_init), sl_Sender_init⟩)
    (c_Sender_init : PySem.W.codeIn K cd_Sender_init "Sender.__init__" = true)
    (k_Sender_init : PySem.W.keepIn K (.ref f_Sender_init) = true)
    (a_Sender_can_step : PySem.W.findIn K (.ref C_Sender) "can_step" = some (some (.ref f_Sender_can_step)))
    (i_Sender_can_step : PySem.W.isFn K (.ref f_Sender_can_step) = true)
    (l_Sender_can_step : K.lookup f_Sender_can_step = some ⟨oc_Sender_can_step, od_Sender_can_step, .func (PySem.W.fnOf "can_step" "Sender.can_step" (defArgs s_Sender_can_step) (defBody s_Sender_can_step) (defScope s_Sender_can_step) .none kV_Sender_can_step dc_Sender_can_step pm_Sender_can_step an_Sender_can_step cd_Sender_can_step ct_Sender_can_step), sl_Sender_can_step⟩)
    (c_Sender_can_step : PySem.W.codeIn K cd_Sender_can_step "Sender.can_step" = true)
    (k_Sender_can_step : PySem.W.keepIn K (.ref f_Sender_can_step) = true)
    (a_Sender_step : PySem.W.findIn K (.ref C_Sender) "step" = some (some (.ref f_Sender_step)))
    (i_Sender_step : PySem.W.isFn K (.ref f_Sender_step) = true)
    (l_Sender_step : K.lookup f_Sender_step = some ⟨oc_Sender_step, od_Sender_step, .func (PySem.W.fnOf "step" "Sender.step" (defArgs s_Sender_step) (defBody s_Sender_step) (defScope s_Sender_step) .none kV_Sender_step dc_Sender_step pm_Sender_step an_Sender_step cd_Sender_step ct_Sender_step), sl_Sender_step⟩)
    (c_Sender_step : PySem.W.codeIn K cd_Sender_step "Sender.step" = true)
    (k_Sender_step : PySem.W.keepIn K (.ref f_Sender_step) = true)
    (a_Sender_waiting : PySem.W.findIn K (.ref C_Sender) "waiting" = some (some (.ref f_Sender_waiting)))
    (i_Sender_waiting : PySem.W.isFn K (.ref f_Sender_waiting) = true)
    (l_Sender_waiting : K.lookup f_Sender_waiting = some ⟨oc_Sender_waiting, od_Sender_waiting, .func (PySem.W.fnOf "waiting" "Sender.waiting" (defArgs s_Sender_waiting) (defBody s_Sender_waiting) (defScope s_Sender_waiting) .none kV_Sender_waiting dc_Sender_waiting pm_Sender_waiting an_Sender_waiting cd_Sender_waiting ct_Sender_waiting), sl_Sender_waiting⟩)
    (c_Sender_waiting : PySem.W.codeIn K cd_Sender_waiting "Sender.waiting" = true)
    (k_Sender_waiting : PySem.W.keepIn K (.ref f_Sender_waiting) = true)
    (a_Sender_empty_slot : PySem.W.findIn K (.ref C_Sender) "_empty_slot" = some (some (.ref f_Sender_empty_slot)))
    (i_Sender_empty_slot : PySem.W.isFn K (.ref f_Sender_empty_slot) = true)
    (l_Sender_empty_slot : K.lookup f_Sender_empty_slot = some ⟨oc_Sender_empty_slot, od_Sender_empty_slot, .func (PySem.W.fnOf "_empty_slot" "Sender._empty_slot" (defArgs s_Sender_empty_slot) (defBody s_Sender_empty_slot) (defScope s_Sender_empty_slot) .none kV_Sender_empty_slot dc_Sender_empty_slot pm_Sender_empty_slot an_Sender_empty_slot cd_Sender_empty_slot ct_Sender_empty_slot), sl_Sender_empty_slot⟩)
    (c_Sender_empty_slot : PySem.W.codeIn K cd_Sender_empty_slot "Sender._empty_slot" = true)
    (k_Sender_empty_slot : PySem.W.keepIn K (.ref f_Sender_empty_slot) = true)
    (x_RingError : K.lookup C_RingError = some (excClassObj nm_RingError qn_RingError C_RingError N_RingError bs_RingError bm_RingError true sn_RingError sub_RingError ab_RingError col_RingError dd_RingError k0_RingError k1_RingError k2_RingError k3_RingError k5_RingError "ValueError.__new__"))
    (hbm_RingError : PySem.HandSPX.refsVE bm_RingError = true)
    (sa_RingError : PySem.W.findIn K (.ref C_RingError) "__setattr__" = some (some (.builtin "object.__setattr__")))
    (ex_RingError : PySem.W.subIn K (.ref C_RingError) (.type "BaseException") = some true)
    (ty_RingError : PySem.W.typeIn K (.ref C_RingError) = some (.type "type"))
    (kp_RingError : PySem.W.keepIn K (.ref C_RingError) = true)
    (su_RingError : PySem.W.ks_superIn K C_RingError C_RingError "__init__" = some (some (.builtin "ValueError.__init__")))
    (ve_RingError : PySem.W.subIn K (.ref C_RingError) (.type "ValueError") = some true)
    (op_RingError : PySem.W.nsIn K cStatics "thirdparty.any" = some none)
    (sm_RingError : PySem.W.mroIn K C_RingError (.ref C_RingError) = some true)
    (ic_RingError : PySem.W.findIn K (.ref C_RingError) "__init__" = some (some (.ref f_RingError_init)))
    (ti_RingError : PySem.W.typeIn K (.ref f_RingError_init) = some (.type "function"))
    (l_RingError_init : K.lookup f_RingError_init = some ⟨oc_RingError_init, od_RingError_init, .func (PySem.W.fnX "__init__" "RingError.__init__" (defArgs s_RingError_init) (defBody s_RingError_init) (defScope s_RingError_init) [("__class__", cc_RingError)] .none kV_RingError_init dc_RingError_init pm_RingError_init an_RingError_init (.ref cda_RingError) ct_RingError_init), sl_RingError_init⟩)
    (c_RingError_init : PySem.W.codeIn K (.ref cda_RingError) "RingError.__init__" = true)
    (ce_RingError : K.lookup cc_RingError = some ⟨cl_RingError, cld_RingError, .cell (some (.ref C_RingError)), csl_RingError⟩)
    (co_RingError : K.lookup cda_RingError = some ⟨ccl_RingError, cdd_RingError, .fields vs_RingError, ccs_RingError⟩)
    (cv_RingError : vs_RingError[2]? = some (.str file_RingError tf_RingError))
    (cf_RingError : ((PySem.Challenge.pw_tickrings_k15_sending.main.file : Str) == file_RingError) = true)
    (no_RingError : PySem.W.findIn K (.ref C_RingError) "held" = some none)
    (ga_RingError : PySem.W.findIn K (.ref C_RingError) "__getattribute__" = some (some (.builtin "BaseException.__getattribute__")))
    (gg_RingError : PySem.W.findIn K (.ref C_RingError) "__getattr__" = some none)
    (hd_RingError : PySem.W.hasDictIn K C_RingError = true)
    (ha_RingError : PySem.W.findIn K (.ref C_RingError) "__class__" = some (some (.builtin "object.__class__")))
    (hn_RingError : PySem.W.specialIn K (.builtin "object.__class__") "__get__" = some (some (.builtin "getset_descriptor.__get__")))
    (ht_RingError : PySem.W.takesIn K (.builtin "object.__class__") = some true)
    (hm_RingError : PySem.W.mroIn K C_RingError (.type "object") = some true)
    (ow_RingError : PySem.W.subIn K (.ref C_RingError) (.ref C_RingError) = some true)
    (x_PoolError : K.lookup C_PoolError = some (excClassObj nm_PoolError qn_PoolError C_PoolError N_PoolError bs_PoolError bm_PoolError true sn_PoolError sub_PoolError ab_PoolError col_PoolError dd_PoolError k0_PoolError k1_PoolError k2_PoolError k3_PoolError k5_PoolError "ValueError.__new__"))
    (hbm_PoolError : PySem.HandSPX.refsVE bm_PoolError = true)
    (sa_PoolError : PySem.W.findIn K (.ref C_PoolError) "__setattr__" = some (some (.builtin "object.__setattr__")))
    (ex_PoolError : PySem.W.subIn K (.ref C_PoolError) (.type "BaseException") = some true)
    (ty_PoolError : PySem.W.typeIn K (.ref C_PoolError) = some (.type "type"))
    (kp_PoolError : PySem.W.keepIn K (.ref C_PoolError) = true)
    (su_PoolError : PySem.W.ks_superIn K C_PoolError C_PoolError "__init__" = some (some (.builtin "ValueError.__init__")))
    (ve_PoolError : PySem.W.subIn K (.ref C_PoolError) (.type "ValueError") = some true)
    (op_PoolError : PySem.W.nsIn K cStatics "thirdparty.any" = some none)
    (sm_PoolError : PySem.W.mroIn K C_PoolError (.ref C_PoolError) = some true)
    (ic_PoolError : PySem.W.findIn K (.ref C_PoolError) "__init__" = some (some (.ref f_PoolError_init)))
    (ti_PoolError : PySem.W.typeIn K (.ref f_PoolError_init) = some (.type "function"))
    (l_PoolError_init : K.lookup f_PoolError_init = some ⟨oc_PoolError_init, od_PoolError_init, .func (PySem.W.fnX "__init__" "PoolError.__init__" (defArgs s_PoolError_init) (defBody s_PoolError_init) (defScope s_PoolError_init) [("__class__", cc_PoolError)] .none kV_PoolError_init dc_PoolError_init pm_PoolError_init an_PoolError_init (.ref cda_PoolError) ct_PoolError_init), sl_PoolError_init⟩)
    (c_PoolError_init : PySem.W.codeIn K (.ref cda_PoolError) "PoolError.__init__" = true)
    (ce_PoolError : K.lookup cc_PoolError = some ⟨cl_PoolError, cld_PoolError, .cell (some (.ref C_PoolError)), csl_PoolError⟩)
    (co_PoolError : K.lookup cda_PoolError = some ⟨ccl_PoolError, cdd_PoolError, .fields vs_PoolError, ccs_PoolError⟩)
    (cv_PoolError : vs_PoolError[2]? = some (.str file_PoolError tf_PoolError))
    (cf_PoolError : ((PySem.Challenge.pw_tickrings_k15_sending.main.file : Str) == file_PoolError) = true)
    (no_PoolError : PySem.W.findIn K (.ref C_PoolError) "buffer" = some none)
    (ga_PoolError : PySem.W.findIn K (.ref C_PoolError) "__getattribute__" = some (some (.builtin "BaseException.__getattribute__")))
    (gg_PoolError : PySem.W.findIn K (.ref C_PoolError) "__getattr__" = some none)
    (hd_PoolError : PySem.W.hasDictIn K C_PoolError = true)
    (ha_PoolError : PySem.W.findIn K (.ref C_PoolError) "__class__" = some (some (.builtin "object.__class__")))
    (hn_PoolError : PySem.W.specialIn K (.builtin "object.__class__") "__get__" = some (some (.builtin "getset_descriptor.__get__")))
    (ht_PoolError : PySem.W.takesIn K (.builtin "object.__class__") = some true)
    (hm_PoolError : PySem.W.mroIn K C_PoolError (.type "object") = some true)
    (ow_PoolError : PySem.W.subIn K (.ref C_PoolError) (.ref C_PoolError) = some true)
    (a_Ring_init : PySem.W.findIn K (.ref C_Ring) "__init__" = some (some (.ref f_Ring_init)))
    (i_Ring_init : PySem.W.isFn K (.ref f_Ring_init) = true)
    (l_Ring_init : K.lookup f_Ring_init = some ⟨oc_Ring_init, od_Ring_init, .func (PySem.W.fnOf "__init__" "Ring.__init__" (defArgs s_Ring_init) (defBody s_Ring_init) (defScope s_Ring_init) .none kV_Ring_init dc_Ring_init pm_Ring_init an_Ring_init cd_Ring_init ct_Ring_init), sl_Ring_init⟩)
    (c_Ring_init : PySem.W.codeIn K cd_Ring_init "Ring.__init__" = true)
    (k_Ring_init : PySem.W.keepIn K (.ref f_Ring_init) = true)
    (a_Ring_held : PySem.W.findIn K (.ref C_Ring) "held" = some (some (.ref f_Ring_held)))
    (i_Ring_held : PySem.W.isFn K (.ref f_Ring_held) = true)
    (l_Ring_held : K.lookup f_Ring_held = some ⟨oc_Ring_held, od_Ring_held, .func (PySem.W.fnOf "held" "Ring.held" (defArgs s_Ring_held) (defBody s_Ring_held) (defScope s_Ring_held) .none kV_Ring_held dc_Ring_held pm_Ring_held an_Ring_held cd_Ring_held ct_Ring_held), sl_Ring_held⟩)
    (c_Ring_held : PySem.W.codeIn K cd_Ring_held "Ring.held" = true)
    (k_Ring_held : PySem.W.keepIn K (.ref f_Ring_held) = true)
    (a_Ring_is_full : PySem.W.findIn K (.ref C_Ring) "is_full" = some (some (.ref f_Ring_is_full)))
    (i_Ring_is_full : PySem.W.isFn K (.ref f_Ring_is_full) = true)
    (l_Ring_is_full : K.lookup f_Ring_is_full = some ⟨oc_Ring_is_full, od_Ring_is_full, .func (PySem.W.fnOf "is_full" "Ring.is_full" (defArgs s_Ring_is_full) (defBody s_Ring_is_full) (defScope s_Ring_is_full) .none kV_Ring_is_full dc_Ring_is_full pm_Ring_is_full an_Ring_is_full cd_Ring_is_full ct_Ring_is_full), sl_Ring_is_full⟩)
    (c_Ring_is_full : PySem.W.codeIn K cd_Ring_is_full "Ring.is_full" = true)
    (k_Ring_is_full : PySem.W.keepIn K (.ref f_Ring_is_full) = true)
    (a_Ring_put : PySem.W.findIn K (.ref C_Ring) "put" = some (some (.ref f_Ring_put)))
    (i_Ring_put : PySem.W.isFn K (.ref f_Ring_put) = true)
    (l_Ring_put : K.lookup f_Ring_put = some ⟨oc_Ring_put, od_Ring_put, .func (PySem.W.fnOf "put" "Ring.put" (defArgs s_Ring_put) (defBody s_Ring_put) (defScope s_Ring_put) .none kV_Ring_put dc_Ring_put pm_Ring_put an_Ring_put cd_Ring_put ct_Ring_put), sl_Ring_put⟩)
    (c_Ring_put : PySem.W.codeIn K cd_Ring_put "Ring.put" = true)
    (k_Ring_put : PySem.W.keepIn K (.ref f_Ring_put) = true)
    (a_Ring_first : PySem.W.findIn K (.ref C_Ring) "first" = some (some (.ref f_Ring_first)))
    (i_Ring_first : PySem.W.isFn K (.ref f_Ring_first) = true)
    (l_Ring_first : K.lookup f_Ring_first = some ⟨oc_Ring_first, od_Ring_first, .func (PySem.W.fnOf "first" "Ring.first" (defArgs s_Ring_first) (defBody s_Ring_first) (defScope s_Ring_first) .none kV_Ring_first dc_Ring_first pm_Ring_first an_Ring_first cd_Ring_first ct_Ring_first), sl_Ring_first⟩)
    (c_Ring_first : PySem.W.codeIn K cd_Ring_first "Ring.first" = true)
    (k_Ring_first : PySem.W.keepIn K (.ref f_Ring_first) = true)
    (a_Ring_take : PySem.W.findIn K (.ref C_Ring) "take" = some (some (.ref f_Ring_take)))
    (i_Ring_take : PySem.W.isFn K (.ref f_Ring_take) = true)
    (l_Ring_take : K.lookup f_Ring_take = some ⟨oc_Ring_take, od_Ring_take, .func (PySem.W.fnOf "take" "Ring.take" (defArgs s_Ring_take) (defBody s_Ring_take) (defScope s_Ring_take) .none kV_Ring_take dc_Ring_take pm_Ring_take an_Ring_take cd_Ring_take ct_Ring_take), sl_Ring_take⟩)
    (c_Ring_take : PySem.W.codeIn K cd_Ring_take "Ring.take" = true)
    (k_Ring_take : PySem.W.keepIn K (.ref f_Ring_take) = true)
    (a_Ring_listed : PySem.W.findIn K (.ref C_Ring) "listed" = some (some (.ref f_Ring_listed)))
    (i_Ring_listed : PySem.W.isFn K (.ref f_Ring_listed) = true)
    (l_Ring_listed : K.lookup f_Ring_listed = some ⟨oc_Ring_listed, od_Ring_listed, .func (PySem.W.fnOf "listed" "Ring.listed" (defArgs s_Ring_listed) (defBody s_Ring_listed) (defScope s_Ring_listed) .none kV_Ring_listed dc_Ring_listed pm_Ring_listed an_Ring_listed cd_Ring_listed ct_Ring_listed), sl_Ring_listed⟩)
    (c_Ring_listed : PySem.W.codeIn K cd_Ring_listed "Ring.listed" = true)
    (k_Ring_listed : PySem.W.keepIn K (.ref f_Ring_listed) = true)
    (a_Ring_next : PySem.W.findIn K (.ref C_Ring) "_next" = some (some (.ref f_Ring_next)))
    (i_Ring_next : PySem.W.isFn K (.ref f_Ring_next) = true)
    (l_Ring_next : K.lookup f_Ring_next = some ⟨oc_Ring_next, od_Ring_next, .func (PySem.W.fnOf "_next" "Ring._next" (defArgs s_Ring_next) (defBody s_Ring_next) (defScope s_Ring_next) .none kV_Ring_next dc_Ring_next pm_Ring_next an_Ring_next cd_Ring_next ct_Ring_next), sl_Ring_next⟩)
    (c_Ring_next : PySem.W.codeIn K cd_Ring_next "Ring._next" = true)
    (k_Ring_next : PySem.W.keepIn K (.ref f_Ring_next) = true)
    (a_Pool_init : PySem.W.findIn K (.ref C_Pool) "__init__" = some (some (.ref f_Pool_init)))
    (i_Pool_init : PySem.W.isFn K (.ref f_Pool_init) = true)
    (l_Pool_init : K.lookup f_Pool_init = some ⟨oc_Pool_init, od_Pool_init, .func (PySem.W.fnOf "__init__" "Pool.__init__" (defArgs s_Pool_init) (defBody s_Pool_init) (defScope s_Pool_init) .none kV_Pool_init dc_Pool_init pm_Pool_init an_Pool_init cd_Pool_init ct_Pool_init), sl_Pool_init⟩)
    (c_Pool_init : PySem.W.codeIn K cd_Pool_init "Pool.__init__" = true)
    (k_Pool_init : PySem.W.keepIn K (.ref f_Pool_init) = true)
    (a_Pool_free : PySem.W.findIn K (.ref C_Pool) "free" = some (some (.ref f_Pool_free)))
    (i_Pool_free : PySem.W.isFn K (.ref f_Pool_free) = true)
    (l_Pool_free : K.lookup f_Pool_free = some ⟨oc_Pool_free, od_Pool_free, .func (PySem.W.fnOf "free" "Pool.free" (defArgs s_Pool_free) (defBody s_Pool_free) (defScope s_Pool_free) .none kV_Pool_free dc_Pool_free pm_Pool_free an_Pool_free cd_Pool_free ct_Pool_free), sl_Pool_free⟩)
    (c_Pool_free : PySem.W.codeIn K cd_Pool_free "Pool.free" = true)
    (k_Pool_free : PySem.W.keepIn K (.ref f_Pool_free) = true)
    (a_Pool_owner : PySem.W.findIn K (.ref C_Pool) "owner" = some (some (.ref f_Pool_owner)))
    (i_Pool_owner : PySem.W.isFn K (.ref f_Pool_owner) = true)
    (l_Pool_owner : K.lookup f_Pool_owner = some ⟨oc_Pool_owner, od_Pool_owner, .func (PySem.W.fnOf "owner" "Pool.owner" (defArgs s_Pool_owner) (defBody s_Pool_owner) (defScope s_Pool_owner) .none kV_Pool_owner dc_Pool_owner pm_Pool_owner an_Pool_owner cd_Pool_owner ct_Pool_owner), sl_Pool_owner⟩)
    (c_Pool_owner : PySem.W.codeIn K cd_Pool_owner "Pool.owner" = true)
    (k_Pool_owner : PySem.W.keepIn K (.ref f_Pool_owner) = true)
    (a_Pool_held : PySem.W.findIn K (.ref C_Pool) "held" = some (some (.ref f_Pool_held)))
    (i_Pool_held : PySem.W.isFn K (.ref f_Pool_held) = true)
    (l_Pool_held : K.lookup f_Pool_held = some ⟨oc_Pool_held, od_Pool_held, .func (PySem.W.fnOf "held" "Pool.held" (defArgs s_Pool_held) (defBody s_Pool_held) (defScope s_Pool_held) .none kV_Pool_held dc_Pool_held pm_Pool_held an_Pool_held cd_Pool_held ct_Pool_held), sl_Pool_held⟩)
    (c_Pool_held : PySem.W.codeIn K cd_Pool_held "Pool.held" = true)
    (k_Pool_held : PySem.W.keepIn K (.ref f_Pool_held) = true)
    (a_Pool_acquire : PySem.W.findIn K (.ref C_Pool) "acquire" = some (some (.ref f_Pool_acquire)))
    (i_Pool_acquire : PySem.W.isFn K (.ref f_Pool_acquire) = true)
    (l_Pool_acquire : K.lookup f_Pool_acquire = some ⟨oc_Pool_acquire, od_Pool_acquire, .func (PySem.W.fnOf "acquire" "Pool.acquire" (defArgs s_Pool_acquire) (defBody s_Pool_acquire) (defScope s_Pool_acquire) .none kV_Pool_acquire dc_Pool_acquire pm_Pool_acquire an_Pool_acquire cd_Pool_acquire ct_Pool_acquire), sl_Pool_acquire⟩)
    (c_Pool_acquire : PySem.W.codeIn K cd_Pool_acquire "Pool.acquire" = true)
    (k_Pool_acquire : PySem.W.keepIn K (.ref f_Pool_acquire) = true)
    (a_Pool_release : PySem.W.findIn K (.ref C_Pool) "release" = some (some (.ref f_Pool_release)))
    (i_Pool_release : PySem.W.isFn K (.ref f_Pool_release) = true)
    (l_Pool_release : K.lookup f_Pool_release = some ⟨oc_Pool_release, od_Pool_release, .func (PySem.W.fnOf "release" "Pool.release" (defArgs s_Pool_release) (defBody s_Pool_release) (defScope s_Pool_release) .none kV_Pool_release dc_Pool_release pm_Pool_release an_Pool_release cd_Pool_release ct_Pool_release), sl_Pool_release⟩)
    (c_Pool_release : PySem.W.codeIn K cd_Pool_release "Pool.release" = true)
    (k_Pool_release : PySem.W.keepIn K (.ref f_Pool_release) = true)
    (a_Pool_may_acquire : PySem.W.findIn K (.ref C_Pool) "may_acquire" = some (some (.ref f_Pool_may_acquire)))
    (i_Pool_may_acquire : PySem.W.isFn K (.ref f_Pool_may_acquire) = true)
    (l_Pool_may_acquire : K.lookup f_Pool_may_acquire = some ⟨oc_Pool_may_acquire, od_Pool_may_acquire, .func (PySem.W.fnOf "may_acquire" "Pool.may_acquire" (defArgs s_Pool_may_acquire) (defBody s_Pool_may_acquire) (defScope s_Pool_may_acquire) .none kV_Pool_may_acquire dc_Pool_may_acquire pm_Pool_may_acquire an_Pool_may_acquire cd_Pool_may_acquire ct_Pool_may_acquire), sl_Pool_may_acquire⟩)
    (c_Pool_may_acquire : PySem.W.codeIn K cd_Pool_may_acquire "Pool.may_acquire" = true)
    (k_Pool_may_acquire : PySem.W.keepIn K (.ref f_Pool_may_acquire) = true)
    (a_Pool_exists : PySem.W.findIn K (.ref C_Pool) "_exists" = some (some (.ref f_Pool_exists)))
    (i_Pool_exists : PySem.W.isFn K (.ref f_Pool_exists) = true)
    (l_Pool_exists : K.lookup f_Pool_exists = some ⟨oc_Pool_exists, od_Pool_exists, .func (PySem.W.fnOf "_exists" "Pool._exists" (defArgs s_Pool_exists) (defBody s_Pool_exists) (defScope s_Pool_exists) .none kV_Pool_exists dc_Pool_exists pm_Pool_exists an_Pool_exists cd_Pool_exists ct_Pool_exists), sl_Pool_exists⟩)
    (c_Pool_exists : PySem.W.codeIn K cd_Pool_exists "Pool._exists" = true)
    (k_Pool_exists : PySem.W.keepIn K (.ref f_Pool_exists) = true)
    (a_TransmitQueue_init : PySem.W.findIn K (.ref C_TransmitQueue) "__init__" = some (some (.ref f_TransmitQueue_init)))
    (i_TransmitQueue_init : PySem.W.isFn K (.ref f_TransmitQueue_init) = true)
    (l_TransmitQueue_init : K.lookup f_TransmitQueue_init = some ⟨oc_TransmitQueue_init, od_TransmitQueue_init, .func (PySem.W.fnOf "__init__" "TransmitQueue.__init__" (defArgs s_TransmitQueue_init) (defBody s_TransmitQueue_init) (defScope s_TransmitQueue_init) .none kV_TransmitQueue_init dc_TransmitQueue_init pm_TransmitQueue_init an_TransmitQueue_init cd_TransmitQueue_init ct_TransmitQueue_init), sl_TransmitQueue_init⟩)
    (c_TransmitQueue_init : PySem.W.codeIn K cd_TransmitQueue_init "TransmitQueue.__init__" = true)
    (k_TransmitQueue_init : PySem.W.keepIn K (.ref f_TransmitQueue_init) = true)
    (a_TransmitQueue_put : PySem.W.findIn K (.ref C_TransmitQueue) "put" = some (some (.ref f_TransmitQueue_put)))
    (i_TransmitQueue_put : PySem.W.isFn K (.ref f_TransmitQueue_put) = true)
    (l_TransmitQueue_put : K.lookup f_TransmitQueue_put = some ⟨oc_TransmitQueue_put, od_TransmitQueue_put, .func (PySem.W.fnOf "put" "TransmitQueue.put" (defArgs s_TransmitQueue_put) (defBody s_TransmitQueue_put) (defScope s_TransmitQueue_put) .none kV_TransmitQueue_put dc_TransmitQueue_put pm_TransmitQueue_put an_TransmitQueue_put cd_TransmitQueue_put ct_TransmitQueue_put), sl_TransmitQueue_put⟩)
    (c_TransmitQueue_put : PySem.W.codeIn K cd_TransmitQueue_put "TransmitQueue.put" = true)
    (k_TransmitQueue_put : PySem.W.keepIn K (.ref f_TransmitQueue_put) = true)
    (a_TransmitQueue_take : PySem.W.findIn K (.ref C_TransmitQueue) "take" = some (some (.ref f_TransmitQueue_take)))
    (i_TransmitQueue_take : PySem.W.isFn K (.ref f_TransmitQueue_take) = true)
    (l_TransmitQueue_take : K.lookup f_TransmitQueue_take = some ⟨oc_TransmitQueue_take, od_TransmitQueue_take, .func (PySem.W.fnOf "take" "TransmitQueue.take" (defArgs s_TransmitQueue_take) (defBody s_TransmitQueue_take) (defScope s_TransmitQueue_take) .none kV_TransmitQueue_take dc_TransmitQueue_take pm_TransmitQueue_take an_TransmitQueue_take cd_TransmitQueue_take ct_TransmitQueue_take), sl_TransmitQueue_take⟩)
    (c_TransmitQueue_take : PySem.W.codeIn K cd_TransmitQueue_take "TransmitQueue.take" = true)
    (k_TransmitQueue_take : PySem.W.keepIn K (.ref f_TransmitQueue_take) = true)
    (a_TransmitQueue_space : PySem.W.findIn K (.ref C_TransmitQueue) "space" = some (some (.ref f_TransmitQueue_space)))
    (i_TransmitQueue_space : PySem.W.isFn K (.ref f_TransmitQueue_space) = true)
    (l_TransmitQueue_space : K.lookup f_TransmitQueue_space = some ⟨oc_TransmitQueue_space, od_TransmitQueue_space, .func (PySem.W.fnOf "space" "TransmitQueue.space" (defArgs s_TransmitQueue_space) (defBody s_TransmitQueue_space) (defScope s_TransmitQueue_space) .none kV_TransmitQueue_space dc_TransmitQueue_space pm_TransmitQueue_space an_TransmitQueue_space cd_TransmitQueue_space ct_TransmitQueue_space), sl_TransmitQueue_space⟩)
    (c_TransmitQueue_space : PySem.W.codeIn K cd_TransmitQueue_space "TransmitQueue.space" = true)
    (k_TransmitQueue_space : PySem.W.keepIn K (.ref f_TransmitQueue_space) = true)
    (a_TransmitQueue_contents : PySem.W.findIn K (.ref C_TransmitQueue) "contents" = some (some (.ref f_TransmitQueue_contents)))
    (i_TransmitQueue_contents : PySem.W.isFn K (.ref f_TransmitQueue_contents) = true)
    (l_TransmitQueue_contents : K.lookup f_TransmitQueue_contents = some ⟨oc_TransmitQueue_contents, od_TransmitQueue_contents, .func (PySem.W.fnOf "contents" "TransmitQueue.contents" (defArgs s_TransmitQueue_contents) (defBody s_TransmitQueue_contents) (defScope s_TransmitQueue_contents) .none kV_TransmitQueue_contents dc_TransmitQueue_contents pm_TransmitQueue_contents an_TransmitQueue_contents cd_TransmitQueue_contents ct_TransmitQueue_contents), sl_TransmitQueue_contents⟩)
    (c_TransmitQueue_contents : PySem.W.codeIn K cd_TransmitQueue_contents "TransmitQueue.contents" = true)
    (k_TransmitQueue_contents : PySem.W.keepIn K (.ref f_TransmitQueue_contents) = true)
    (a_copied : PySem.W.nsIn K mainGlobals "_copied" = some (some (.ref f_copied)))
    (l_copied : K.lookup f_copied = some ⟨oc_copied, od_copied, .func (PySem.W.fnOf "_copied" "_copied" (defArgs s_copied) (defBody s_copied) (defScope s_copied) .none kV_copied dc_copied pm_copied an_copied cd_copied ct_copied), sl_copied⟩)
    (c_copied : PySem.W.codeIn K cd_copied "_copied" = true)
    (k_copied : PySem.W.keepIn K (.ref f_copied) = true)
    (a_SlotRing_init : PySem.W.findIn K (.ref C_SlotRing) "__init__" = some (some (.ref f_SlotRing_init)))
    (i_SlotRing_init : PySem.W.isFn K (.ref f_SlotRing_init) = true)
    (l_SlotRing_init : K.lookup f_SlotRing_init = some ⟨oc_SlotRing_init, od_SlotRing_init, .func (PySem.W.fnOf "__init__" "SlotRing.__init__" (defArgs s_SlotRing_init) (defBody s_SlotRing_init) (defScope s_SlotRing_init) .none kV_SlotRing_init dc_SlotRing_init pm_SlotRing_init an_SlotRing_init cd_SlotRing_init ct_SlotRing_init), sl_SlotRing_init⟩)
    (c_SlotRing_init : PySem.W.codeIn K cd_SlotRing_init "SlotRing.__init__" = true)
    (k_SlotRing_init : PySem.W.keepIn K (.ref f_SlotRing_init) = true)
    (a_SlotRing_can_arm : PySem.W.findIn K (.ref C_SlotRing) "can_arm" = some (some (.ref f_SlotRing_can_arm)))
    (i_SlotRing_can_arm : PySem.W.isFn K (.ref f_SlotRing_can_arm) = true)
    (l_SlotRing_can_arm : K.lookup f_SlotRing_can_arm = some ⟨oc_SlotRing_can_arm, od_SlotRing_can_arm, .func (PySem.W.fnOf "can_arm" "SlotRing.can_arm" (defArgs s_SlotRing_can_arm) (defBody s_SlotRing_can_arm) (defScope s_SlotRing_can_arm) .none kV_SlotRing_can_arm dc_SlotRing_can_arm pm_SlotRing_can_arm an_SlotRing_can_arm cd_SlotRing_can_arm ct_SlotRing_can_arm), sl_SlotRing_can_arm⟩)
    (c_SlotRing_can_arm : PySem.W.codeIn K cd_SlotRing_can_arm "SlotRing.can_arm" = true)
    (k_SlotRing_can_arm : PySem.W.keepIn K (.ref f_SlotRing_can_arm) = true)
    (a_SlotRing_arm : PySem.W.findIn K (.ref C_SlotRing) "arm" = some (some (.ref f_SlotRing_arm)))
    (i_SlotRing_arm : PySem.W.isFn K (.ref f_SlotRing_arm) = true)
    (l_SlotRing_arm : K.lookup f_SlotRing_arm = some ⟨oc_SlotRing_arm, od_SlotRing_arm, .func (PySem.W.fnOf "arm" "SlotRing.arm" (defArgs s_SlotRing_arm) (defBody s_SlotRing_arm) (defScope s_SlotRing_arm) .none kV_SlotRing_arm dc_SlotRing_arm pm_SlotRing_arm an_SlotRing_arm cd_SlotRing_arm ct_SlotRing_arm), sl_SlotRing_arm⟩)
    (c_SlotRing_arm : PySem.W.codeIn K cd_SlotRing_arm "SlotRing.arm" = true)
    (k_SlotRing_arm : PySem.W.keepIn K (.ref f_SlotRing_arm) = true)
    (a_SlotRing_open_slot : PySem.W.findIn K (.ref C_SlotRing) "open_slot" = some (some (.ref f_SlotRing_open_slot)))
    (i_SlotRing_open_slot : PySem.W.isFn K (.ref f_SlotRing_open_slot) = true)
    (l_SlotRing_open_slot : K.lookup f_SlotRing_open_slot = some ⟨oc_SlotRing_open_slot, od_SlotRing_open_slot, .func (PySem.W.fnOf "open_slot" "SlotRing.open_slot" (defArgs s_SlotRing_open_slot) (defBody s_SlotRing_open_slot) (defScope s_SlotRing_open_slot) .none kV_SlotRing_open_slot dc_SlotRing_open_slot pm_SlotRing_open_slot an_SlotRing_open_slot cd_SlotRing_open_slot ct_SlotRing_open_slot), sl_SlotRing_open_slot⟩)
    (c_SlotRing_open_slot : PySem.W.codeIn K cd_SlotRing_open_slot "SlotRing.open_slot" = true)
    (k_SlotRing_open_slot : PySem.W.keepIn K (.ref f_SlotRing_open_slot) = true)
    (a_SlotRing_open_bytes : PySem.W.findIn K (.ref C_SlotRing) "open_bytes" = some (some (.ref f_SlotRing_open_bytes)))
    (i_SlotRing_open_bytes : PySem.W.isFn K (.ref f_SlotRing_open_bytes) = true)
    (l_SlotRing_open_bytes : K.lookup f_SlotRing_open_bytes = some ⟨oc_SlotRing_open_bytes, od_SlotRing_open_bytes, .func (PySem.W.fnOf "open_bytes" "SlotRing.open_bytes" (defArgs s_SlotRing_open_bytes) (defBody s_SlotRing_open_bytes) (defScope s_SlotRing_open_bytes) .none kV_SlotRing_open_bytes dc_SlotRing_open_bytes pm_SlotRing_open_bytes an_SlotRing_open_bytes cd_SlotRing_open_bytes ct_SlotRing_open_bytes), sl_SlotRing_open_bytes⟩)
    (c_SlotRing_open_bytes : PySem.W.codeIn K cd_SlotRing_open_bytes "SlotRing.open_bytes" = true)
    (k_SlotRing_open_bytes : PySem.W.keepIn K (.ref f_SlotRing_open_bytes) = true)
    (a_SlotRing_open_count : PySem.W.findIn K (.ref C_SlotRing) "open_count" = some (some (.ref f_SlotRing_open_count)))
    (i_SlotRing_open_count : PySem.W.isFn K (.ref f_SlotRing_open_count) = true)
    (l_SlotRing_open_count : K.lookup f_SlotRing_open_count = some ⟨oc_SlotRing_open_count, od_SlotRing_open_count, .func (PySem.W.fnOf "open_count" "SlotRing.open_count" (defArgs s_SlotRing_open_count) (defBody s_SlotRing_open_count) (defScope s_SlotRing_open_count) .none kV_SlotRing_open_count dc_SlotRing_open_count pm_SlotRing_open_count an_SlotRing_open_count cd_SlotRing_open_count ct_SlotRing_open_count), sl_SlotRing_open_count⟩)
    (c_SlotRing_open_count : PySem.W.codeIn K cd_SlotRing_open_count "SlotRing.open_count" = true)
    (k_SlotRing_open_count : PySem.W.keepIn K (.ref f_SlotRing_open_count) = true)
    (a_SlotRing_add : PySem.W.findIn K (.ref C_SlotRing) "add" = some (some (.ref f_SlotRing_add)))
    (i_SlotRing_add : PySem.W.isFn K (.ref f_SlotRing_add) = true)
    (l_SlotRing_add : K.lookup f_SlotRing_add = some ⟨oc_SlotRing_add, od_SlotRing_add, .func (PySem.W.fnOf "add" "SlotRing.add" (defArgs s_SlotRing_add) (defBody s_SlotRing_add) (defScope s_SlotRing_add) .none kV_SlotRing_add dc_SlotRing_add pm_SlotRing_add an_SlotRing_add cd_SlotRing_add ct_SlotRing_add), sl_SlotRing_add⟩)
    (c_SlotRing_add : PySem.W.codeIn K cd_SlotRing_add "SlotRing.add" = true)
    (k_SlotRing_add : PySem.W.keepIn K (.ref f_SlotRing_add) = true)
    (a_SlotRing_close : PySem.W.findIn K (.ref C_SlotRing) "close" = some (some (.ref f_SlotRing_close)))
    (i_SlotRing_close : PySem.W.isFn K (.ref f_SlotRing_close) = true)
    (l_SlotRing_close : K.lookup f_SlotRing_close = some ⟨oc_SlotRing_close, od_SlotRing_close, .func (PySem.W.fnOf "close" "SlotRing.close" (defArgs s_SlotRing_close) (defBody s_SlotRing_close) (defScope s_SlotRing_close) .none kV_SlotRing_close dc_SlotRing_close pm_SlotRing_close an_SlotRing_close cd_SlotRing_close ct_SlotRing_close), sl_SlotRing_close⟩)
    (c_SlotRing_close : PySem.W.codeIn K cd_SlotRing_close "SlotRing.close" = true)
    (k_SlotRing_close : PySem.W.keepIn K (.ref f_SlotRing_close) = true)
    (a_SlotRing_oldest : PySem.W.findIn K (.ref C_SlotRing) "oldest" = some (some (.ref f_SlotRing_oldest)))
    (i_SlotRing_oldest : PySem.W.isFn K (.ref f_SlotRing_oldest) = true)
    (l_SlotRing_oldest : K.lookup f_SlotRing_oldest = some ⟨oc_SlotRing_oldest, od_SlotRing_oldest, .func (PySem.W.fnOf "oldest" "SlotRing.oldest" (defArgs s_SlotRing_oldest) (defBody s_SlotRing_oldest) (defScope s_SlotRing_oldest) .none kV_SlotRing_oldest dc_SlotRing_oldest pm_SlotRing_oldest an_SlotRing_oldest cd_SlotRing_oldest ct_SlotRing_oldest), sl_SlotRing_oldest⟩)
    (c_SlotRing_oldest : PySem.W.codeIn K cd_SlotRing_oldest "SlotRing.oldest" = true)
    (k_SlotRing_oldest : PySem.W.keepIn K (.ref f_SlotRing_oldest) = true)
    (a_SlotRing_reap : PySem.W.findIn K (.ref C_SlotRing) "reap" = some (some (.ref f_SlotRing_reap)))
    (i_SlotRing_reap : PySem.W.isFn K (.ref f_SlotRing_reap) = true)
    (l_SlotRing_reap : K.lookup f_SlotRing_reap = some ⟨oc_SlotRing_reap, od_SlotRing_reap, .func (PySem.W.fnOf "reap" "SlotRing.reap" (defArgs s_SlotRing_reap) (defBody s_SlotRing_reap) (defScope s_SlotRing_reap) .none kV_SlotRing_reap dc_SlotRing_reap pm_SlotRing_reap an_SlotRing_reap cd_SlotRing_reap ct_SlotRing_reap), sl_SlotRing_reap⟩)
    (c_SlotRing_reap : PySem.W.codeIn K cd_SlotRing_reap "SlotRing.reap" = true)
    (k_SlotRing_reap : PySem.W.keepIn K (.ref f_SlotRing_reap) = true)
    (a_SlotRing_filled_slots : PySem.W.findIn K (.ref C_SlotRing) "filled_slots" = some (some (.ref f_SlotRing_filled_slots)))
    (i_SlotRing_filled_slots : PySem.W.isFn K (.ref f_SlotRing_filled_slots) = true)
    (l_SlotRing_filled_slots : K.lookup f_SlotRing_filled_slots = some ⟨oc_SlotRing_filled_slots, od_SlotRing_filled_slots, .func (PySem.W.fnOf "filled_slots" "SlotRing.filled_slots" (defArgs s_SlotRing_filled_slots) (defBody s_SlotRing_filled_slots) (defScope s_SlotRing_filled_slots) .none kV_SlotRing_filled_slots dc_SlotRing_filled_slots pm_SlotRing_filled_slots an_SlotRing_filled_slots cd_SlotRing_filled_slots ct_SlotRing_filled_slots), sl_SlotRing_filled_slots⟩)
    (c_SlotRing_filled_slots : PySem.W.codeIn K cd_SlotRing_filled_slots "SlotRing.filled_slots" = true)
    (k_SlotRing_filled_slots : PySem.W.keepIn K (.ref f_SlotRing_filled_slots) = true)
    (a_SlotRing_buffers : PySem.W.findIn K (.ref C_SlotRing) "buffers" = some (some (.ref f_SlotRing_buffers)))
    (i_SlotRing_buffers : PySem.W.isFn K (.ref f_SlotRing_buffers) = true)
    (l_SlotRing_buffers : K.lookup f_SlotRing_buffers = some ⟨oc_SlotRing_buffers, od_SlotRing_buffers, .func (PySem.W.fnOf "buffers" "SlotRing.buffers" (defArgs s_SlotRing_buffers) (defBody s_SlotRing_buffers) (defScope s_SlotRing_buffers) .none kV_SlotRing_buffers dc_SlotRing_buffers pm_SlotRing_buffers an_SlotRing_buffers cd_SlotRing_buffers ct_SlotRing_buffers), sl_SlotRing_buffers⟩)
    (c_SlotRing_buffers : PySem.W.codeIn K cd_SlotRing_buffers "SlotRing.buffers" = true)
    (k_SlotRing_buffers : PySem.W.keepIn K (.ref f_SlotRing_buffers) = true)
    (a_law_state : PySem.W.nsIn K mainGlobals "_law_state" = some (some (.ref f_law_state)))
    (l_law_state : K.lookup f_law_state = some ⟨oc_law_state, od_law_state, .func (PySem.W.fnOf "_law_state" "_law_state" (defArgs s_law_state) (defBody s_law_state) (defScope s_law_state) .none kV_law_state dc_law_state pm_law_state an_law_state cd_law_state ct_law_state), sl_law_state⟩)
    (c_law_state : PySem.W.codeIn K cd_law_state "_law_state" = true)
    (k_law_state : PySem.W.keepIn K (.ref f_law_state) = true)
    (a_law_draw : PySem.W.nsIn K mainGlobals "_law_draw" = some (some (.ref f_law_draw)))
    (l_law_draw : K.lookup f_law_draw = some ⟨oc_law_draw, od_law_draw, .func (PySem.W.fnOf "_law_draw" "_law_draw" (defArgs s_law_draw) (defBody s_law_draw) (defScope s_law_draw) .none kV_law_draw dc_law_draw pm_law_draw an_law_draw cd_law_draw ct_law_draw), sl_law_draw⟩)
    (c_law_draw : PySem.W.codeIn K cd_law_draw "_law_draw" = true)
    (k_law_draw : PySem.W.keepIn K (.ref f_law_draw) = true)
    (a_law_pick : PySem.W.nsIn K mainGlobals "_law_pick" = some (some (.ref f_law_pick)))
    (l_law_pick : K.lookup f_law_pick = some ⟨oc_law_pick, od_law_pick, .func (PySem.W.fnOf "_law_pick" "_law_pick" (defArgs s_law_pick) (defBody s_law_pick) (defScope s_law_pick) .none kV_law_pick dc_law_pick pm_law_pick an_law_pick cd_law_pick ct_law_pick), sl_law_pick⟩)
    (c_law_pick : PySem.W.codeIn K cd_law_pick "_law_pick" = true)
    (k_law_pick : PySem.W.keepIn K (.ref f_law_pick) = true)
    (a_law_fills : PySem.W.nsIn K mainGlobals "_law_fills" = some (some (.ref f_law_fills)))
    (l_law_fills : K.lookup f_law_fills = some ⟨oc_law_fills, od_law_fills, .func (PySem.W.fnOf "_law_fills" "_law_fills" (defArgs s_law_fills) (defBody s_law_fills) (defScope s_law_fills) .none kV_law_fills dc_law_fills pm_law_fills an_law_fills cd_law_fills ct_law_fills), sl_law_fills⟩)
    (c_law_fills : PySem.W.codeIn K cd_law_fills "_law_fills" = true)
    (k_law_fills : PySem.W.keepIn K (.ref f_law_fills) = true)
    (a_law_steps : PySem.W.nsIn K mainGlobals "_law_steps" = some (some (.ref f_law_steps)))
    (l_law_steps : K.lookup f_law_steps = some ⟨oc_law_steps, od_law_steps, .func (PySem.W.fnOf "_law_steps" "_law_steps" (defArgs s_law_steps) (defBody s_law_steps) (defScope s_law_steps) .none kV_law_steps dc_law_steps pm_law_steps an_law_steps cd_law_steps ct_law_steps), sl_law_steps⟩)
    (c_law_steps : PySem.W.codeIn K cd_law_steps "_law_steps" = true)
    (k_law_steps : PySem.W.keepIn K (.ref f_law_steps) = true)
    (a_law_rest : PySem.W.nsIn K mainGlobals "_law_rest" = some (some (.ref f_law_rest)))
    (l_law_rest : K.lookup f_law_rest = some ⟨oc_law_rest, od_law_rest, .func (PySem.W.fnOf "_law_rest" "_law_rest" (defArgs s_law_rest) (defBody s_law_rest) (defScope s_law_rest) .none kV_law_rest dc_law_rest pm_law_rest an_law_rest cd_law_rest ct_law_rest), sl_law_rest⟩)
    (c_law_rest : PySem.W.codeIn K cd_law_rest "_law_rest" = true)
    (k_law_rest : PySem.W.keepIn K (.ref f_law_rest) = true)
    (a_law_agrees : PySem.W.nsIn K mainGlobals "_law_agrees" = some (some (.ref f_law_agrees)))
    (l_law_agrees : K.lookup f_law_agrees = some ⟨oc_law_agrees, od_law_agrees, .func (PySem.W.fnOf "_law_agrees" "_law_agrees" (defArgs s_law_agrees) (defBody s_law_agrees) (defScope s_law_agrees) .none kV_law_agrees dc_law_agrees pm_law_agrees an_law_agrees cd_law_agrees ct_law_agrees), sl_law_agrees⟩)
    (c_law_agrees : PySem.W.codeIn K cd_law_agrees "_law_agrees" = true)
    (k_law_agrees : PySem.W.keepIn K (.ref f_law_agrees) = true)
    (a_law : PySem.W.nsIn K mainGlobals "law" = some (some (.ref f_law)))
    (l_law : K.lookup f_law = some ⟨oc_law, od_law, .func (PySem.W.fnOf "law" "law" (defArgs s_law) (defBody s_law) (defScope s_law) .none kV_law dc_law pm_law an_law cd_law ct_law), sl_law⟩)
    (c_law : PySem.W.codeIn K cd_law "law" = true)
    (k_law : PySem.W.keepIn K (.ref f_law) = true)
    (pg_Sender : PySem.W.plainGet K C_Sender Str.empty = true)
    (hd_Sender : PySem.W.hasDictIn K C_Sender = true)
    (po_Sender : PySem.W.plainOver K C_Sender = true)
    (sa_Sender : PySem.W.findIn K (.ref C_Sender) "__setattr__" = some (some (.builtin "object.__setattr__")))
    (mk_Sender : PySem.W.makesIn K C_Sender = true)
    (kc_Sender : PySem.W.keepIn K (.ref C_Sender) = true)
    (n_Sender_queue : PySem.W.findIn K (.ref C_Sender) "queue" = some none)
    (n_Sender_ring : PySem.W.findIn K (.ref C_Sender) "ring" = some none)
    (n_Sender_pool : PySem.W.findIn K (.ref C_Sender) "pool" = some none)
    (n_Sender_moved : PySem.W.findIn K (.ref C_Sender) "moved" = some none)
    (pg_Ring : PySem.W.plainGet K C_Ring Str.empty = true)
    (hd_Ring : PySem.W.hasDictIn K C_Ring = true)
    (po_Ring : PySem.W.plainOver K C_Ring = true)
    (sa_Ring : PySem.W.findIn K (.ref C_Ring) "__setattr__" = some (some (.builtin "object.__setattr__")))
    (mk_Ring : PySem.W.makesIn K C_Ring = true)
    (kc_Ring : PySem.W.keepIn K (.ref C_Ring) = true)
    (n_Ring_cells : PySem.W.findIn K (.ref C_Ring) "_cells" = some none)
    (n_Ring_written : PySem.W.findIn K (.ref C_Ring) "written" = some none)
    (n_Ring_taken : PySem.W.findIn K (.ref C_Ring) "taken" = some none)
    (pg_Pool : PySem.W.plainGet K C_Pool Str.empty = true)
    (hd_Pool : PySem.W.hasDictIn K C_Pool = true)
    (po_Pool : PySem.W.plainOver K C_Pool = true)
    (sa_Pool : PySem.W.findIn K (.ref C_Pool) "__setattr__" = some (some (.builtin "object.__setattr__")))
    (mk_Pool : PySem.W.makesIn K C_Pool = true)
    (kc_Pool : PySem.W.keepIn K (.ref C_Pool) = true)
    (n_Pool_owners : PySem.W.findIn K (.ref C_Pool) "_owners" = some none)
    (n_Pool_free : PySem.W.findIn K (.ref C_Pool) "_free" = some none)
    (pg_TransmitQueue : PySem.W.plainGet K C_TransmitQueue Str.empty = true)
    (hd_TransmitQueue : PySem.W.hasDictIn K C_TransmitQueue = true)
    (po_TransmitQueue : PySem.W.plainOver K C_TransmitQueue = true)
    (sa_TransmitQueue : PySem.W.findIn K (.ref C_TransmitQueue) "__setattr__" = some (some (.builtin "object.__setattr__")))
    (mk_TransmitQueue : PySem.W.makesIn K C_TransmitQueue = true)
    (kc_TransmitQueue : PySem.W.keepIn K (.ref C_TransmitQueue) = true)
    (n_TransmitQueue_capacity : PySem.W.findIn K (.ref C_TransmitQueue) "capacity" = some none)
    (n_TransmitQueue_bytes : PySem.W.findIn K (.ref C_TransmitQueue) "_bytes" = some none)
    (pg_SlotRing : PySem.W.plainGet K C_SlotRing Str.empty = true)
    (hd_SlotRing : PySem.W.hasDictIn K C_SlotRing = true)
    (po_SlotRing : PySem.W.plainOver K C_SlotRing = true)
    (sa_SlotRing : PySem.W.findIn K (.ref C_SlotRing) "__setattr__" = some (some (.builtin "object.__setattr__")))
    (mk_SlotRing : PySem.W.makesIn K C_SlotRing = true)
    (kc_SlotRing : PySem.W.keepIn K (.ref C_SlotRing) = true)
    (n_SlotRing_slots : PySem.W.findIn K (.ref C_SlotRing) "_slots" = some none)
    (n_SlotRing_armed : PySem.W.findIn K (.ref C_SlotRing) "_armed" = some none)
    (n_SlotRing_filled : PySem.W.findIn K (.ref C_SlotRing) "_filled" = some none)
    (n_SlotRing_added : PySem.W.findIn K (.ref C_SlotRing) "_added" = some none)
    (z_abs : PySem.W.nsIn K mainGlobals "abs" = some none)
    (z_bool : PySem.W.nsIn K mainGlobals "bool" = some none)
    (z_enumerate : PySem.W.nsIn K mainGlobals "enumerate" = some none)
    (z_int : PySem.W.nsIn K mainGlobals "int" = some none)
    (z_isinstance : PySem.W.nsIn K mainGlobals "isinstance" = some none)
    (z_len : PySem.W.nsIn K mainGlobals "len" = some none)
    (z_list : PySem.W.nsIn K mainGlobals "list" = some none)
    (z_range : PySem.W.nsIn K mainGlobals "range" = some none)
    (z_super : PySem.W.nsIn K mainGlobals "super" = some none)
    : ∃ fd : FuncData, (∀ (s : Shared) (v : Value), BindsTo s fd ⟨[v], []⟩ [("script", v)]) ∧ ∀ base : Heap, K.In base → base.Ns mainGlobals mg → FnOk l.prog w K mg base (L2.CX l.prog w) 9 fa fd ["script"] (sp_law0 K) := by
  have e : f_law = fa := by
    have z := hfa.symm.trans (PySem.W.mg_of X G a_law)
    cases z
    rfl
  subst e
  have F_wall := fun_mk (st := s_wall) l_wall c_wall k_wall
  have b_wall := F_wall.binds (ps := ["k"]) fun _ _ _ _ _ _ us hl => match us, hl with | [_], _ => rfl
  have F_Sender_init := fun_mk (st := s_Sender_init) l_Sender_init c_Sender_init k_Sender_init
  have b_Sender_init := F_Sender_init.binds (ps := ["self", "queue", "ring", "pool"]) fun _ _ _ _ _ _ us hl => match us, hl with | [_, _, _, _], _ => rfl
  have F_Sender_can_step := fun_mk (st := s_Sender_can_step) l_Sender_can_step c_Sender_can_step k_Sender_can_step
  have b_Sender_can_step := F_Sender_can_step.binds (ps := ["self"]) fun _ _ _ _ _ _ us hl => match us, hl with | [_], _ => rfl
  have F_Sender_step := fun_mk (st := s_Sender_step) l_Sender_step c_Sender_step k_Sender_step
  have b_Sender_step := F_Sender_step.binds (ps := ["self"]) fun _ _ _ _ _ _ us hl => match us, hl with | [_], _ => rfl
  have F_Sender_waiting := fun_mk (st := s_Sender_waiting) l_Sender_waiting c_Sender_waiting k_Sender_waiting
  have b_Sender_waiting := F_Sender_waiting.binds (ps := ["self"]) fun _ _ _ _ _ _ us hl => match us, hl with | [_], _ => rfl
  have F_Sender_empty_slot := fun_mk (st := s_Sender_empty_slot) l_Sender_empty_slot c_Sender_empty_slot k_Sender_empty_slot
  have b_Sender_empty_slot := F_Sender_empty_slot.binds (ps := ["self", "buffer"]) fun _ _ _ _ _ _ us hl => match us, hl with | [_, _], _ => rfl
  have F_Ring_init := fun_mk (st := s_Ring_init) l_Ring_init c_Ring_init k_Ring_init
  have b_Ring_init := F_Ring_init.binds (ps := ["self", "cells"]) fun _ _ _ _ _ _ us hl => match us, hl with | [_, _], _ => rfl
  have F_Ring_held := fun_mk (st := s_Ring_held) l_Ring_held c_Ring_held k_Ring_held
  have b_Ring_held := F_Ring_held.binds (ps := ["self"]) fun _ _ _ _ _ _ us hl => match us, hl with | [_], _ => rfl
  have F_Ring_is_full := fun_mk (st := s_Ring_is_full) l_Ring_is_full c_Ring_is_full k_Ring_is_full
  have b_Ring_is_full := F_Ring_is_full.binds (ps := ["self"]) fun _ _ _ _ _ _ us hl => match us, hl with | [_], _ => rfl
  have F_Ring_put := fun_mk (st := s_Ring_put) l_Ring_put c_Ring_put k_Ring_put
  have b_Ring_put := F_Ring_put.binds (ps := ["self", "value"]) fun _ _ _ _ _ _ us hl => match us, hl with | [_, _], _ => rfl
  have F_Ring_first := fun_mk (st := s_Ring_first) l_Ring_first c_Ring_first k_Ring_first
  have b_Ring_first := F_Ring_first.binds (ps := ["self"]) fun _ _ _ _ _ _ us hl => match us, hl with | [_], _ => rfl
  have F_Ring_take := fun_mk (st := s_Ring_take) l_Ring_take c_Ring_take k_Ring_take
  have b_Ring_take := F_Ring_take.binds (ps := ["self"]) fun _ _ _ _ _ _ us hl => match us, hl with | [_], _ => rfl
  have F_Ring_listed := fun_mk (st := s_Ring_listed) l_Ring_listed c_Ring_listed k_Ring_listed
  have b_Ring_listed := F_Ring_listed.binds (ps := ["self"]) fun _ _ _ _ _ _ us hl => match us, hl with | [_], _ => rfl
  have F_Ring_next := fun_mk (st := s_Ring_next) l_Ring_next c_Ring_next k_Ring_next
  have b_Ring_next := F_Ring_next.binds (ps := ["self", "counter"]) fun _ _ _ _ _ _ us hl => match us, hl with | [_, _], _ => rfl
  have F_Pool_init := fun_mk (st := s_Pool_init) l_Pool_init c_Pool_init k_Pool_init
  have b_Pool_init := F_Pool_init.binds (ps := ["self", "many"]) fun _ _ _ _ _ _ us hl => match us, hl with | [_, _], _ => rfl
  have F_Pool_free := fun_mk (st := s_Pool_free) l_Pool_free c_Pool_free k_Pool_free
  have b_Pool_free := F_Pool_free.binds (ps := ["self"]) fun _ _ _ _ _ _ us hl => match us, hl with | [_], _ => rfl
  have F_Pool_owner := fun_mk (st := s_Pool_owner) l_Pool_owner c_Pool_owner k_Pool_owner
  have b_Pool_owner := F_Pool_owner.binds (ps := ["self", "buffer"]) fun _ _ _ _ _ _ us hl => match us, hl with | [_, _], _ => rfl
  have F_Pool_held := fun_mk (st := s_Pool_held) l_Pool_held c_Pool_held k_Pool_held
  have b_Pool_held := F_Pool_held.binds (ps := ["self", "owner"]) fun _ _ _ _ _ _ us hl => match us, hl with | [_, _], _ => rfl
  have F_Pool_acquire := fun_mk (st := s_Pool_acquire) l_Pool_acquire c_Pool_acquire k_Pool_acquire
  have b_Pool_acquire := F_Pool_acquire.binds (ps := ["self", "owner"]) fun _ _ _ _ _ _ us hl => match us, hl with | [_, _], _ => rfl
  have F_Pool_release := fun_mk (st := s_Pool_release) l_Pool_release c_Pool_release k_Pool_release
  have b_Pool_release := F_Pool_release.binds (ps := ["self", "buffer"]) fun _ _ _ _ _ _ us hl => match us, hl with | [_, _], _ => rfl
  have F_Pool_may_acquire := fun_mk (st := s_Pool_may_acquire) l_Pool_may_acquire c_Pool_may_acquire k_Pool_may_acquire
  have b_Pool_may_acquire := F_Pool_may_acquire.binds (ps := ["self", "owner", "owners"]) fun _ _ _ _ _ _ us hl => match us, hl with | [_, _, _], _ => rfl
  have F_Pool_exists := fun_mk (st := s_Pool_exists) l_Pool_exists c_Pool_exists k_Pool_exists
  have b_Pool_exists := F_Pool_exists.binds (ps := ["self", "buffer"]) fun _ _ _ _ _ _ us hl => match us, hl with | [_, _], _ => rfl
  have F_TransmitQueue_init := fun_mk (st := s_TransmitQueue_init) l_TransmitQueue_init c_TransmitQueue_init k_TransmitQueue_init
  have b_TransmitQueue_init := F_TransmitQueue_init.binds (ps := ["self", "capacity"]) fun _ _ _ _ _ _ us hl => match us, hl with | [_, _], _ => rfl
  have F_TransmitQueue_put := fun_mk (st := s_TransmitQueue_put) l_TransmitQueue_put c_TransmitQueue_put k_TransmitQueue_put
  have b_TransmitQueue_put := F_TransmitQueue_put.binds (ps := ["self", "byte"]) fun _ _ _ _ _ _ us hl => match us, hl with | [_, _], _ => rfl
  have F_TransmitQueue_take := fun_mk (st := s_TransmitQueue_take) l_TransmitQueue_take c_TransmitQueue_take k_TransmitQueue_take
  have b_TransmitQueue_take := F_TransmitQueue_take.binds (ps := ["self"]) fun _ _ _ _ _ _ us hl => match us, hl with | [_], _ => rfl
  have F_TransmitQueue_space := fun_mk (st := s_TransmitQueue_space) l_TransmitQueue_space c_TransmitQueue_space k_TransmitQueue_space
  have b_TransmitQueue_space := F_TransmitQueue_space.binds (ps := ["self"]) fun _ _ _ _ _ _ us hl => match us, hl with | [_], _ => rfl
  have F_TransmitQueue_contents := fun_mk (st := s_TransmitQueue_contents) l_TransmitQueue_contents c_TransmitQueue_contents k_TransmitQueue_contents
  have b_TransmitQueue_contents := F_TransmitQueue_contents.binds (ps := ["self"]) fun _ _ _ _ _ _ us hl => match us, hl with | [_], _ => rfl
  have F_copied := fun_mk (st := s_copied) l_copied c_copied k_copied
  have b_copied := F_copied.binds (ps := ["slot"]) fun _ _ _ _ _ _ us hl => match us, hl with | [_], _ => rfl
  have F_SlotRing_init := fun_mk (st := s_SlotRing_init) l_SlotRing_init c_SlotRing_init k_SlotRing_init
  have b_SlotRing_init := F_SlotRing_init.binds (ps := ["self", "slots"]) fun _ _ _ _ _ _ us hl => match us, hl with | [_, _], _ => rfl
  have F_SlotRing_can_arm := fun_mk (st := s_SlotRing_can_arm) l_SlotRing_can_arm c_SlotRing_can_arm k_SlotRing_can_arm
  have b_SlotRing_can_arm := F_SlotRing_can_arm.binds (ps := ["self"]) fun _ _ _ _ _ _ us hl => match us, hl with | [_], _ => rfl
  have F_SlotRing_arm := fun_mk (st := s_SlotRing_arm) l_SlotRing_arm c_SlotRing_arm k_SlotRing_arm
  have b_SlotRing_arm := F_SlotRing_arm.binds (ps := ["self", "buffer"]) fun _ _ _ _ _ _ us hl => match us, hl with | [_, _], _ => rfl
  have F_SlotRing_open_slot := fun_mk (st := s_SlotRing_open_slot) l_SlotRing_open_slot c_SlotRing_open_slot k_SlotRing_open_slot
  have b_SlotRing_open_slot := F_SlotRing_open_slot.binds (ps := ["self"]) fun _ _ _ _ _ _ us hl => match us, hl with | [_], _ => rfl
  have F_SlotRing_open_bytes := fun_mk (st := s_SlotRing_open_bytes) l_SlotRing_open_bytes c_SlotRing_open_bytes k_SlotRing_open_bytes
  have b_SlotRing_open_bytes := F_SlotRing_open_bytes.binds (ps := ["self"]) fun _ _ _ _ _ _ us hl => match us, hl with | [_], _ => rfl
  have F_SlotRing_open_count := fun_mk (st := s_SlotRing_open_count) l_SlotRing_open_count c_SlotRing_open_count k_SlotRing_open_count
  have b_SlotRing_open_count := F_SlotRing_open_count.binds (ps := ["self"]) fun _ _ _ _ _ _ us hl => match us, hl with | [_], _ => rfl
  have F_SlotRing_add := fun_mk (st := s_SlotRing_add) l_SlotRing_add c_SlotRing_add k_SlotRing_add
  have b_SlotRing_add := F_SlotRing_add.binds (ps := ["self", "byte"]) fun _ _ _ _ _ _ us hl => match us, hl with | [_, _], _ => rfl
  have F_SlotRing_close := fun_mk (st := s_SlotRing_close) l_SlotRing_close c_SlotRing_close k_SlotRing_close
  have b_SlotRing_close := F_SlotRing_close.binds (ps := ["self", "lost"]) fun _ _ _ _ _ _ us hl => match us, hl with | [_, _], _ => rfl
  have F_SlotRing_oldest := fun_mk (st := s_SlotRing_oldest) l_SlotRing_oldest c_SlotRing_oldest k_SlotRing_oldest
  have b_SlotRing_oldest := F_SlotRing_oldest.binds (ps := ["self"]) fun _ _ _ _ _ _ us hl => match us, hl with | [_], _ => rfl
  have F_SlotRing_reap := fun_mk (st := s_SlotRing_reap) l_SlotRing_reap c_SlotRing_reap k_SlotRing_reap
  have b_SlotRing_reap := F_SlotRing_reap.binds (ps := ["self"]) fun _ _ _ _ _ _ us hl => match us, hl with | [_], _ => rfl
  have F_SlotRing_filled_slots := fun_mk (st := s_SlotRing_filled_slots) l_SlotRing_filled_slots c_SlotRing_filled_slots k_SlotRing_filled_slots
  have b_SlotRing_filled_slots := F_SlotRing_filled_slots.binds (ps := ["self"]) fun _ _ _ _ _ _ us hl => match us, hl with | [_], _ => rfl
  have F_SlotRing_buffers := fun_mk (st := s_SlotRing_buffers) l_SlotRing_buffers c_SlotRing_buffers k_SlotRing_buffers
  have b_SlotRing_buffers := F_SlotRing_buffers.binds (ps := ["self"]) fun _ _ _ _ _ _ us hl => match us, hl with | [_], _ => rfl
  have F_law_state := fun_mk (st := s_law_state) l_law_state c_law_state k_law_state
  have b_law_state := F_law_state.binds (ps := ["script"]) fun _ _ _ _ _ _ us hl => match us, hl with | [_], _ => rfl
  have F_law_draw := fun_mk (st := s_law_draw) l_law_draw c_law_draw k_law_draw
  have b_law_draw := F_law_draw.binds (ps := ["state", "many"]) fun _ _ _ _ _ _ us hl => match us, hl with | [_, _], _ => rfl
  have F_law_pick := fun_mk (st := s_law_pick) l_law_pick c_law_pick k_law_pick
  have b_law_pick := F_law_pick.binds (ps := ["state", "row"]) fun _ _ _ _ _ _ us hl => match us, hl with | [_, _], _ => rfl
  have F_law_fills := fun_mk (st := s_law_fills) l_law_fills c_law_fills k_law_fills
  have b_law_fills := F_law_fills.binds (ps := ["state", "ring", "pool", "slots", "world"]) fun _ _ _ _ _ _ us hl => match us, hl with | [_, _, _, _, _], _ => rfl
  have F_law_steps := fun_mk (st := s_law_steps) l_law_steps c_law_steps k_law_steps
  have b_law_steps := F_law_steps.binds (ps := ["sender", "capacity", "world"]) fun _ _ _ _ _ _ us hl => match us, hl with | [_, _, _], _ => rfl
  have F_law_rest := fun_mk (st := s_law_rest) l_law_rest c_law_rest k_law_rest
  have b_law_rest := F_law_rest.binds (ps := ["filled"]) fun _ _ _ _ _ _ us hl => match us, hl with | [_], _ => rfl
  have F_law_agrees := fun_mk (st := s_law_agrees) l_law_agrees c_law_agrees k_law_agrees
  have b_law_agrees := F_law_agrees.binds (ps := ["sender", "queue", "ring", "pool", "world"]) fun _ _ _ _ _ _ us hl => match us, hl with | [_, _, _, _, _], _ => rfl
  have F_law := fun_mk (st := s_law) l_law c_law k_law
  have b_law := F_law.binds (ps := ["script"]) fun _ _ _ _ _ _ us hl => match us, hl with | [_], _ => rfl
  let a : Ads := { C_Sender := C_Sender, C_TickringsError := C_TickringsError, C_RingError := C_RingError, C_PoolError := C_PoolError, C_Ring := C_Ring, C_Pool := C_Pool, C_TransmitQueue := C_TransmitQueue, C_SlotRing := C_SlotRing, f_wall := f_wall, f_Sender_init := f_Sender_init, f_Sender_can_step := f_Sender_can_step, f_Sender_step := f_Sender_step, f_Sender_waiting := f_Sender_waiting, f_Sender_empty_slot := f_Sender_empty_slot, f_RingError_init := f_RingError_init, f_PoolError_init := f_PoolError_init, f_Ring_init := f_Ring_init, f_Ring_held := f_Ring_held, f_Ring_is_full := f_Ring_is_full, f_Ring_put := f_Ring_put, f_Ring_first := f_Ring_first, f_Ring_take := f_Ring_take, f_Ring_listed := f_Ring_listed, f_Ring_next := f_Ring_next, f_Pool_init := f_Pool_init, f_Pool_free := f_Pool_free, f_Pool_owner := f_Pool_owner, f_Pool_held := f_Pool_held, f_Pool_acquire := f_Pool_acquire, f_Pool_release := f_Pool_release, f_Pool_may_acquire := f_Pool_may_acquire, f_Pool_exists := f_Pool_exists, f_TransmitQueue_init := f_TransmitQueue_init, f_TransmitQueue_put := f_TransmitQueue_put, f_TransmitQueue_take := f_TransmitQueue_take, f_TransmitQueue_space := f_TransmitQueue_space, f_TransmitQueue_contents := f_TransmitQueue_contents, f_copied := f_copied, f_SlotRing_init := f_SlotRing_init, f_SlotRing_can_arm := f_SlotRing_can_arm, f_SlotRing_arm := f_SlotRing_arm, f_SlotRing_open_slot := f_SlotRing_open_slot, f_SlotRing_open_bytes := f_SlotRing_open_bytes, f_SlotRing_open_count := f_SlotRing_open_count, f_SlotRing_add := f_SlotRing_add, f_SlotRing_close := f_SlotRing_close, f_SlotRing_oldest := f_SlotRing_oldest, f_SlotRing_reap := f_SlotRing_reap, f_SlotRing_filled_slots := f_SlotRing_filled_slots, f_SlotRing_buffers := f_SlotRing_buffers, f_law_state := f_law_state, f_law_draw := f_law_draw, f_law_pick := f_law_pick, f_law_fills := f_law_fills, f_law_steps := f_law_steps, f_law_rest := f_law_rest, f_law_agrees := f_law_agrees, f_law := f_law, fd_wall := (PySem.W.fnOf "_wall" "_wall" (defArgs s_wall) (defBody s_wall) (defScope s_wall) .none kV_wall dc_wall pm_wall an_wall cd_wall ct_wall), fd_Sender_init := (PySem.W.fnOf "__init__" "Sender.__init__" (defArgs s_Sender_init) (defBody s_Sender_init) (defScope s_Sender_init) .none kV_Sender_init dc_Sender_init pm_Sender_init an_Sender_init cd_Sender_init ct_Sender_init), fd_Sender_can_step := (PySem.W.fnOf "can_step" "Sender.can_step" (defArgs s_Sender_can_step) (defBody s_Sender_can_step) (defScope s_Sender_can_step) .none kV_Sender_can_step dc_Sender_can_step pm_Sender_can_step an_Sender_can_step cd_Sender_can_step ct_Sender_can_step), fd_Sender_step := (PySem.W.fnOf "step" "Sender.step" (defArgs s_Sender_step) (defBody s_Sender_step) (defScope s_Sender_step) .none kV_Sender_step dc_Sender_step pm_Sender_step an_Sender_step cd_Sender_step ct_Sender_step), fd_Sender_waiting := (PySem.W.fnOf "waiting" "Sender.waiting" (defArgs s_Sender_waiting) (defBody s_Sender_waiting) (defScope s_Sender_waiting) .none kV_Sender_waiting dc_Sender_waiting pm_Sender_waiting an_Sender_waiting cd_Sender_waiting ct_Sender_waiting), fd_Sender_empty_slot := (PySem.W.fnOf "_empty_slot" "Sender._empty_slot" (defArgs s_Sender_empty_slot) (defBody s_Sender_empty_slot) (defScope s_Sender_empty_slot) .none kV_Sender_empty_slot dc_Sender_empty_slot pm_Sender_empty_slot an_Sender_empty_slot cd_Sender_empty_slot ct_Sender_empty_slot), fd_RingError_init := (PySem.W.fnX "__init__" "RingError.__init__" (defArgs s_RingError_init) (defBody s_RingError_init) (defScope s_RingError_init) [("__class__", cc_RingError)] .none kV_RingError_init dc_RingError_init pm_RingError_init an_RingError_init (.ref cda_RingError) ct_RingError_init), fd_PoolError_init := (PySem.W.fnX "__init__" "PoolError.__init__" (defArgs s_PoolError_init) (defBody s_PoolError_init) (defScope s_PoolError_init) [("__class__", cc_PoolError)] .none kV_PoolError_init dc_PoolError_init pm_PoolError_init an_PoolError_init (.ref cda_PoolError) ct_PoolError_init), fd_Ring_init := (PySem.W.fnOf "__init__" "Ring.__init__" (defArgs s_Ring_init) (defBody s_Ring_init) (defScope s_Ring_init) .none kV_Ring_init dc_Ring_init pm_Ring_init an_Ring_init cd_Ring_init ct_Ring_init), fd_Ring_held := (PySem.W.fnOf "held" "Ring.held" (defArgs s_Ring_held) (defBody s_Ring_held) (defScope s_Ring_held) .none kV_Ring_held dc_Ring_held pm_Ring_held an_Ring_held cd_Ring_held ct_Ring_held), fd_Ring_is_full := (PySem.W.fnOf "is_full" "Ring.is_full" (defArgs s_Ring_is_full) (defBody s_Ring_is_full) (defScope s_Ring_is_full) .none kV_Ring_is_full dc_Ring_is_full pm_Ring_is_full an_Ring_is_full cd_Ring_is_full ct_Ring_is_full), fd_Ring_put := (PySem.W.fnOf "put" "Ring.put" (defArgs s_Ring_put) (defBody s_Ring_put) (defScope s_Ring_put) .none kV_Ring_put dc_Ring_put pm_Ring_put an_Ring_put cd_Ring_put ct_Ring_put), fd_Ring_first := (PySem.W.fnOf "first" "Ring.first" (defArgs s_Ring_first) (defBody s_Ring_first) (defScope s_Ring_first) .none kV_Ring_first dc_Ring_first pm_Ring_first an_Ring_first cd_Ring_first ct_Ring_first), fd_Ring_take := (PySem.W.fnOf "take" "Ring.take" (defArgs s_Ring_take) (defBody s_Ring_take) (defScope s_Ring_take) .none kV_Ring_take dc_Ring_take pm_Ring_take an_Ring_take cd_Ring_take ct_Ring_take), fd_Ring_listed := (PySem.W.fnOf "listed" "Ring.listed" (defArgs s_Ring_listed) (defBody s_Ring_listed) (defScope s_Ring_listed) .none kV_Ring_listed dc_Ring_listed pm_Ring_listed an_Ring_listed cd_Ring_listed ct_Ring_listed), fd_Ring_next := (PySem.W.fnOf "_next" "Ring._next" (defArgs s_Ring_next) (defBody s_Ring_next) (defScope s_Ring_next) .none kV_Ring_next dc_Ring_next pm_Ring_next an_Ring_next cd_Ring_next ct_Ring_next), fd_Pool_init := (PySem.W.fnOf "__init__" "Pool.__init__" (defArgs s_Pool_init) (defBody s_Pool_init) (defScope s_Pool_init) .none kV_Pool_init dc_Pool_init pm_Pool_init an_Pool_init cd_Pool_init ct_Pool_init), fd_Pool_free := (PySem.W.fnOf "free" "Pool.free" (defArgs s_Pool_free) (defBody s_Pool_free) (defScope s_Pool_free) .none kV_Pool_free dc_Pool_free pm_Pool_free an_Pool_free cd_Pool_free ct_Pool_free), fd_Pool_owner := (PySem.W.fnOf "owner" "Pool.owner" (defArgs s_Pool_owner) (defBody s_Pool_owner) (defScope s_Pool_owner) .none kV_Pool_owner dc_Pool_owner pm_Pool_owner an_Pool_owner cd_Pool_owner ct_Pool_owner), fd_Pool_held := (PySem.W.fnOf "held" "Pool.held" (defArgs s_Pool_held) (defBody s_Pool_held) (defScope s_Pool_held) .none kV_Pool_held dc_Pool_held pm_Pool_held an_Pool_held cd_Pool_held ct_Pool_held), fd_Pool_acquire := (PySem.W.fnOf "acquire" "Pool.acquire" (defArgs s_Pool_acquire) (defBody s_Pool_acquire) (defScope s_Pool_acquire) .none kV_Pool_acquire dc_Pool_acquire pm_Pool_acquire an_Pool_acquire cd_Pool_acquire ct_Pool_acquire), fd_Pool_release := (PySem.W.fnOf "release" "Pool.release" (defArgs s_Pool_release) (defBody s_Pool_release) (defScope s_Pool_release) .none kV_Pool_release dc_Pool_release pm_Pool_release an_Pool_release cd_Pool_release ct_Pool_release), fd_Pool_may_acquire := (PySem.W.fnOf "may_acquire" "Pool.may_acquire" (defArgs s_Pool_may_acquire) (defBody s_Pool_may_acquire) (defScope s_Pool_may_acquire) .none kV_Pool_may_acquire dc_Pool_may_acquire pm_Pool_may_acquire an_Pool_may_acquire cd_Pool_may_acquire ct_Pool_may_acquire), fd_Pool_exists := (PySem.W.fnOf "_exists" "Pool._exists" (defArgs s_Pool_exists) (defBody s_Pool_exists) (defScope s_Pool_exists) .none kV_Pool_exists dc_Pool_exists pm_Pool_exists an_Pool_exists cd_Pool_exists ct_Pool_exists), fd_TransmitQueue_init := (PySem.W.fnOf "__init__" "TransmitQueue.__init__" (defArgs s_TransmitQueue_init) (defBody s_TransmitQueue_init) (defScope s_TransmitQueue_init) .none kV_TransmitQueue_init dc_TransmitQueue_init pm_TransmitQueue_init an_TransmitQueue_init cd_TransmitQueue_init ct_TransmitQueue_init), fd_TransmitQueue_put := (PySem.W.fnOf "put" "TransmitQueue.put" (defArgs s_TransmitQueue_put) (defBody s_TransmitQueue_put) (defScope s_TransmitQueue_put) .none kV_TransmitQueue_put dc_TransmitQueue_put pm_TransmitQueue_put an_TransmitQueue_put cd_TransmitQueue_put ct_TransmitQueue_put), fd_TransmitQueue_take := (PySem.W.fnOf "take" "TransmitQueue.take" (defArgs s_TransmitQueue_take) (defBody s_TransmitQueue_take) (defScope s_TransmitQueue_take) .none kV_TransmitQueue_take dc_TransmitQueue_take pm_TransmitQueue_take an_TransmitQueue_take cd_TransmitQueue_take ct_TransmitQueue_take), fd_TransmitQueue_space := (PySem.W.fnOf "space" "TransmitQueue.space" (defArgs s_TransmitQueue_space) (defBody s_TransmitQueue_space) (defScope s_TransmitQueue_space) .none kV_TransmitQueue_space dc_TransmitQueue_space pm_TransmitQueue_space an_TransmitQueue_space cd_TransmitQueue_space ct_TransmitQueue_space), fd_TransmitQueue_contents := (PySem.W.fnOf "contents" "TransmitQueue.contents" (defArgs s_TransmitQueue_contents) (defBody s_TransmitQueue_contents) (defScope s_TransmitQueue_contents) .none kV_TransmitQueue_contents dc_TransmitQueue_contents pm_TransmitQueue_contents an_TransmitQueue_contents cd_TransmitQueue_contents ct_TransmitQueue_contents), fd_copied := (PySem.W.fnOf "_copied" "_copied" (defArgs s_copied) (defBody s_copied) (defScope s_copied) .none kV_copied dc_copied pm_copied an_copied cd_copied ct_copied), fd_SlotRing_init := (PySem.W.fnOf "__init__" "SlotRing.__init__" (defArgs s_SlotRing_init) (defBody s_SlotRing_init) (defScope s_SlotRing_init) .none kV_SlotRing_init dc_SlotRing_init pm_SlotRing_init an_SlotRing_init cd_SlotRing_init ct_SlotRing_init), fd_SlotRing_can_arm := (PySem.W.fnOf "can_arm" "SlotRing.can_arm" (defArgs s_SlotRing_can_arm) (defBody s_SlotRing_can_arm) (defScope s_SlotRing_can_arm) .none kV_SlotRing_can_arm dc_SlotRing_can_arm pm_SlotRing_can_arm an_SlotRing_can_arm cd_SlotRing_can_arm ct_SlotRing_can_arm), fd_SlotRing_arm := (PySem.W.fnOf "arm" "SlotRing.arm" (defArgs s_SlotRing_arm) (defBody s_SlotRing_arm) (defScope s_SlotRing_arm) .none kV_SlotRing_arm dc_SlotRing_arm pm_SlotRing_arm an_SlotRing_arm cd_SlotRing_arm ct_SlotRing_arm), fd_SlotRing_open_slot := (PySem.W.fnOf "open_slot" "SlotRing.open_slot" (defArgs s_SlotRing_open_slot) (defBody s_SlotRing_open_slot) (defScope s_SlotRing_open_slot) .none kV_SlotRing_open_slot dc_SlotRing_open_slot pm_SlotRing_open_slot an_SlotRing_open_slot cd_SlotRing_open_slot ct_SlotRing_open_slot), fd_SlotRing_open_bytes := (PySem.W.fnOf "open_bytes" "SlotRing.open_bytes" (defArgs s_SlotRing_open_bytes) (defBody s_SlotRing_open_bytes) (defScope s_SlotRing_open_bytes) .none kV_SlotRing_open_bytes dc_SlotRing_open_bytes pm_SlotRing_open_bytes an_SlotRing_open_bytes cd_SlotRing_open_bytes ct_SlotRing_open_bytes), fd_SlotRing_open_count := (PySem.W.fnOf "open_count" "SlotRing.open_count" (defArgs s_SlotRing_open_count) (defBody s_SlotRing_open_count) (defScope s_SlotRing_open_count) .none kV_SlotRing_open_count dc_SlotRing_open_count pm_SlotRing_open_count an_SlotRing_open_count cd_SlotRing_open_count ct_SlotRing_open_count), fd_SlotRing_add := (PySem.W.fnOf "add" "SlotRing.add" (defArgs s_SlotRing_add) (defBody s_SlotRing_add) (defScope s_SlotRing_add) .none kV_SlotRing_add dc_SlotRing_add pm_SlotRing_add an_SlotRing_add cd_SlotRing_add ct_SlotRing_add), fd_SlotRing_close := (PySem.W.fnOf "close" "SlotRing.close" (defArgs s_SlotRing_close) (defBody s_SlotRing_close) (defScope s_SlotRing_close) .none kV_SlotRing_close dc_SlotRing_close pm_SlotRing_close an_SlotRing_close cd_SlotRing_close ct_SlotRing_close), fd_SlotRing_oldest := (PySem.W.fnOf "oldest" "SlotRing.oldest" (defArgs s_SlotRing_oldest) (defBody s_SlotRing_oldest) (defScope s_SlotRing_oldest) .none kV_SlotRing_oldest dc_SlotRing_oldest pm_SlotRing_oldest an_SlotRing_oldest cd_SlotRing_oldest ct_SlotRing_oldest), fd_SlotRing_reap := (PySem.W.fnOf "reap" "SlotRing.reap" (defArgs s_SlotRing_reap) (defBody s_SlotRing_reap) (defScope s_SlotRing_reap) .none kV_SlotRing_reap dc_SlotRing_reap pm_SlotRing_reap an_SlotRing_reap cd_SlotRing_reap ct_SlotRing_reap), fd_SlotRing_filled_slots := (PySem.W.fnOf "filled_slots" "SlotRing.filled_slots" (defArgs s_SlotRing_filled_slots) (defBody s_SlotRing_filled_slots) (defScope s_SlotRing_filled_slots) .none kV_SlotRing_filled_slots dc_SlotRing_filled_slots pm_SlotRing_filled_slots an_SlotRing_filled_slots cd_SlotRing_filled_slots ct_SlotRing_filled_slots), fd_SlotRing_buffers := (PySem.W.fnOf "buffers" "SlotRing.buffers" (defArgs s_SlotRing_buffers) (defBody s_SlotRing_buffers) (defScope s_SlotRing_buffers) .none kV_SlotRing_buffers dc_SlotRing_buffers pm_SlotRing_buffers an_SlotRing_buffers cd_SlotRing_buffers ct_SlotRing_buffers), fd_law_state := (PySem.W.fnOf "_law_state" "_law_state" (defArgs s_law_state) (defBody s_law_state) (defScope s_law_state) .none kV_law_state dc_law_state pm_law_state an_law_state cd_law_state ct_law_state), fd_law_draw := (PySem.W.fnOf "_law_draw" "_law_draw" (defArgs s_law_draw) (defBody s_law_draw) (defScope s_law_draw) .none kV_law_draw dc_law_draw pm_law_draw an_law_draw cd_law_draw ct_law_draw), fd_law_pick := (PySem.W.fnOf "_law_pick" "_law_pick" (defArgs s_law_pick) (defBody s_law_pick) (defScope s_law_pick) .none kV_law_pick dc_law_pick pm_law_pick an_law_pick cd_law_pick ct_law_pick), fd_law_fills := (PySem.W.fnOf "_law_fills" "_law_fills" (defArgs s_law_fills) (defBody s_law_fills) (defScope s_law_fills) .none kV_law_fills dc_law_fills pm_law_fills an_law_fills cd_law_fills ct_law_fills), fd_law_steps := (PySem.W.fnOf "_law_steps" "_law_steps" (defArgs s_law_steps) (defBody s_law_steps) (defScope s_law_steps) .none kV_law_steps dc_law_steps pm_law_steps an_law_steps cd_law_steps ct_law_steps), fd_law_rest := (PySem.W.fnOf "_law_rest" "_law_rest" (defArgs s_law_rest) (defBody s_law_rest) (defScope s_law_rest) .none kV_law_rest dc_law_rest pm_law_rest an_law_rest cd_law_rest ct_law_rest), fd_law_agrees := (PySem.W.fnOf "_law_agrees" "_law_agrees" (defArgs s_law_agrees) (defBody s_law_agrees) (defScope s_law_agrees) .none kV_law_agrees dc_law_agrees pm_law_agrees an_law_agrees cd_law_agrees ct_law_agrees), fd_law := (PySem.W.fnOf "law" "law" (defArgs s_law) (defBody s_law) (defScope s_law) .none kV_law dc_law pm_law an_law cd_law ct_law) }
  refine ⟨a.fd_law, fun s v => .of_eq rfl, fun base hKb hGb => ?_⟩
  have E_RingError : ErrC l.prog K mg C_RingError := ⟨⟨⟨nm_RingError, qn_RingError, N_RingError, bs_RingError, bm_RingError, sn_RingError, sub_RingError, ab_RingError, col_RingError, dd_RingError, k0_RingError, k1_RingError, k2_RingError, k3_RingError, k5_RingError, x_RingError, hbm_RingError⟩, sa_RingError, ex_RingError, ty_RingError, kp_RingError⟩, su_RingError, ve_RingError, op_RingError, sm_RingError, PySem.W.mg_none_of X G z_super, by rw [hl]; decide +kernel⟩
  have J_RingError : ErrI l.prog K C_RingError cc_RingError cda_RingError f_RingError_init "__init__" "RingError.__init__" (defArgs s_RingError_init) (defBody s_RingError_init) (defScope s_RingError_init) a.fd_RingError_init := ⟨⟨_, _, _, _, _, _, _, _, _, rfl, l_RingError_init⟩, c_RingError_init, ⟨_, _, _, ce_RingError⟩, ⟨_, _, _, _, _, _, co_RingError, cv_RingError, by rw [hl]; exact cf_RingError⟩⟩
  have O_RingError : FnOk l.prog w K mg base CX0 1 f_RingError_init a.fd_RingError_init ["self", "held"] (spErr C_RingError "held") :=
    okErr E_RingError no_RingError J_RingError sc_RingError_init rfl rfl (by decide +kernel) (by decide +kernel) (by decide +kernel) (fun _ => rfl) (fun _ => rfl) (fun _ => rfl) (fun _ => rfl) (fun X hN hv => (pe_joined (.cons pe_str (.cons (pe_fmt (pv 1 hN hv)) (.cons pe_str .nil))))) (te3 (by decide +kernel) (by decide +kernel))
  have B_RingError : Binds K a.fd_RingError_init ["self", "held"] [] := .all fun us hl => match us, hl with | [_, _], _ => rfl
  have K_RingError : EK l.prog w K mg base "RingError" "held" C_RingError f_RingError_init a.fd_RingError_init ["self", "held"] := ⟨E_RingError, PySem.W.mg_of X G gC_RingError, ic_RingError, ti_RingError, O_RingError, B_RingError, no_RingError, ⟨ga_RingError, gg_RingError, ex_RingError, hd_RingError⟩, ⟨ga_RingError, gg_RingError, ex_RingError, hd_RingError, ha_RingError, hn_RingError, ht_RingError, hm_RingError⟩, ow_RingError⟩
  have E_PoolError : ErrC l.prog K mg C_PoolError := ⟨⟨⟨nm_PoolError, qn_PoolError, N_PoolError, bs_PoolError, bm_PoolError, sn_PoolError, sub_PoolError, ab_PoolError, col_PoolError, dd_PoolError, k0_PoolError, k1_PoolError, k2_PoolError, k3_PoolError, k5_PoolError, x_PoolError, hbm_PoolError⟩, sa_PoolError, ex_PoolError, ty_PoolError, kp_PoolError⟩, su_PoolError, ve_PoolError, op_PoolError, sm_PoolError, PySem.W.mg_none_of X G z_super, by rw [hl]; decide +kernel⟩
  have J_PoolError : ErrI l.prog K C_PoolError cc_PoolError cda_PoolError f_PoolError_init "__init__" "PoolError.__init__" (defArgs s_PoolError_init) (defBody s_PoolError_init) (defScope s_PoolError_init) a.fd_PoolError_init := ⟨⟨_, _, _, _, _, _, _, _, _, rfl, l_PoolError_init⟩, c_PoolError_init, ⟨_, _, _, ce_PoolError⟩, ⟨_, _, _, _, _, _, co_PoolError, cv_PoolError, by rw [hl]; exact cf_PoolError⟩⟩
  have O_PoolError : FnOk l.prog w K mg base CX0 1 f_PoolError_init a.fd_PoolError_init ["self", "buffer"] (spErr C_PoolError "buffer") :=
    okErr E_PoolError no_PoolError J_PoolError sc_PoolError_init rfl rfl (by decide +kernel) (by decide +kernel) (by decide +kernel) (fun _ => rfl) (fun _ => rfl) (fun _ => rfl) (fun _ => rfl) (fun X hN hv => (pe_joined (.cons pe_str (.cons (pe_fmt (pv 1 hN hv)) .nil)))) (te2 (by decide +kernel))
  have B_PoolError : Binds K a.fd_PoolError_init ["self", "buffer"] [] := .all fun us hl => match us, hl with | [_, _], _ => rfl
  have K_PoolError : EK l.prog w K mg base "PoolError" "buffer" C_PoolError f_PoolError_init a.fd_PoolError_init ["self", "buffer"] := ⟨E_PoolError, PySem.W.mg_of X G gC_PoolError, ic_PoolError, ti_PoolError, O_PoolError, B_PoolError, no_PoolError, ⟨ga_PoolError, gg_PoolError, ex_PoolError, hd_PoolError⟩, ⟨ga_PoolError, gg_PoolError, ex_PoolError, hd_PoolError, ha_PoolError, hn_PoolError, ht_PoolError, hm_PoolError⟩, ow_PoolError⟩
  have T : Txt l.prog w K mg base a := {
    g_abs := PySem.W.mg_none_of X G z_abs,
    g_bool := PySem.W.mg_none_of X G z_bool,
    g_enumerate := PySem.W.mg_none_of X G z_enumerate,
    g_int := PySem.W.mg_none_of X G z_int,
    g_isinstance := PySem.W.mg_none_of X G z_isinstance,
    g_len := PySem.W.mg_none_of X G z_len,
    g_list := PySem.W.mg_none_of X G z_list,
    g_range := PySem.W.mg_none_of X G z_range,
    F_wall := F_wall,
    b_wall := b_wall,
    g_wall := PySem.W.mg_of X G a_wall,
    F_Sender_init := F_Sender_init,
    b_Sender_init := b_Sender_init,
    mk_Sender := ⟨mk_Sender, a_Sender_init, i_Sender_init, kc_Sender⟩,
    F_Sender_can_step := F_Sender_can_step,
    b_Sender_can_step := b_Sender_can_step,
    m_Sender_can_step := ⟨a_Sender_can_step, i_Sender_can_step, k_Sender_can_step⟩,
    F_Sender_step := F_Sender_step,
    b_Sender_step := b_Sender_step,
    m_Sender_step := ⟨a_Sender_step, i_Sender_step, k_Sender_step⟩,
    F_Sender_waiting := F_Sender_waiting,
    b_Sender_waiting := b_Sender_waiting,
    m_Sender_waiting := ⟨a_Sender_waiting, i_Sender_waiting, k_Sender_waiting⟩,
    F_Sender_empty_slot := F_Sender_empty_slot,
    b_Sender_empty_slot := b_Sender_empty_slot,
    m_Sender_empty_slot := ⟨a_Sender_empty_slot, i_Sender_empty_slot, k_Sender_empty_slot⟩,
    F_Ring_init := F_Ring_init,
    b_Ring_init := b_Ring_init,
    mk_Ring := ⟨mk_Ring, a_Ring_init, i_Ring_init, kc_Ring⟩,
    F_Ring_held := F_Ring_held,
    b_Ring_held := b_Ring_held,
    m_Ring_held := ⟨a_Ring_held, i_Ring_held, k_Ring_held⟩,
    F_Ring_is_full := F_Ring_is_full,
    b_Ring_is_full := b_Ring_is_full,
    m_Ring_is_full := ⟨a_Ring_is_full, i_Ring_is_full, k_Ring_is_full⟩,
    F_Ring_put := F_Ring_put,
    b_Ring_put := b_Ring_put,
    m_Ring_put := ⟨a_Ring_put, i_Ring_put, k_Ring_put⟩,
    F_Ring_first := F_Ring_first,
    b_Ring_first := b_Ring_first,
    m_Ring_first := ⟨a_Ring_first, i_Ring_first, k_Ring_first⟩,
    F_Ring_take := F_Ring_take,
    b_Ring_take := b_Ring_take,
    m_Ring_take := ⟨a_Ring_take, i_Ring_take, k_Ring_take⟩,
    F_Ring_listed := F_Ring_listed,
    b_Ring_listed := b_Ring_listed,
    m_Ring_listed := ⟨a_Ring_listed, i_Ring_listed, k_Ring_listed⟩,
    F_Ring_next := F_Ring_next,
    b_Ring_next := b_Ring_next,
    m_Ring_next := ⟨a_Ring_next, i_Ring_next, k_Ring_next⟩,
    F_Pool_init := F_Pool_init,
    b_Pool_init := b_Pool_init,
    mk_Pool := ⟨mk_Pool, a_Pool_init, i_Pool_init, kc_Pool⟩,
    F_Pool_free := F_Pool_free,
    b_Pool_free := b_Pool_free,
    m_Pool_free := ⟨a_Pool_free, i_Pool_free, k_Pool_free⟩,
    F_Pool_owner := F_Pool_owner,
    b_Pool_owner := b_Pool_owner,
    m_Pool_owner := ⟨a_Pool_owner, i_Pool_owner, k_Pool_owner⟩,
    F_Pool_held := F_Pool_held,
    b_Pool_held := b_Pool_held,
    m_Pool_held := ⟨a_Pool_held, i_Pool_held, k_Pool_held⟩,
    F_Pool_acquire := F_Pool_acquire,
    b_Pool_acquire := b_Pool_acquire,
    m_Pool_acquire := ⟨a_Pool_acquire, i_Pool_acquire, k_Pool_acquire⟩,
    F_Pool_release := F_Pool_release,
    b_Pool_release := b_Pool_release,
    m_Pool_release := ⟨a_Pool_release, i_Pool_release, k_Pool_release⟩,
    F_Pool_may_acquire := F_Pool_may_acquire,
    b_Pool_may_acquire := b_Pool_may_acquire,
    m_Pool_may_acquire := ⟨a_Pool_may_acquire, i_Pool_may_acquire, k_Pool_may_acquire⟩,
    F_Pool_exists := F_Pool_exists,
    b_Pool_exists := b_Pool_exists,
    m_Pool_exists := ⟨a_Pool_exists, i_Pool_exists, k_Pool_exists⟩,
    F_TransmitQueue_init := F_TransmitQueue_init,
    b_TransmitQueue_init := b_TransmitQueue_init,
    mk_TransmitQueue := ⟨mk_TransmitQueue, a_TransmitQueue_init, i_TransmitQueue_init, kc_TransmitQueue⟩,
    F_TransmitQueue_put := F_TransmitQueue_put,
    b_TransmitQueue_put := b_TransmitQueue_put,
    m_TransmitQueue_put := ⟨a_TransmitQueue_put, i_TransmitQueue_put, k_TransmitQueue_put⟩,
    F_TransmitQueue_take := F_TransmitQueue_take,
    b_TransmitQueue_take := b_TransmitQueue_take,
    m_TransmitQueue_take := ⟨a_TransmitQueue_take, i_TransmitQueue_take, k_TransmitQueue_take⟩,
    F_TransmitQueue_space := F_TransmitQueue_space,
    b_TransmitQueue_space := b_TransmitQueue_space,
    m_TransmitQueue_space := ⟨a_TransmitQueue_space, i_TransmitQueue_space, k_TransmitQueue_space⟩,
    F_TransmitQueue_contents := F_TransmitQueue_contents,
    b_TransmitQueue_contents := b_TransmitQueue_contents,
    m_TransmitQueue_contents := ⟨a_TransmitQueue_contents, i_TransmitQueue_contents, k_TransmitQueue_contents⟩,
    F_copied := F_copied,
    b_copied := b_copied,
    g_copied := PySem.W.mg_of X G a_copied,
    F_SlotRing_init := F_SlotRing_init,
    b_SlotRing_init := b_SlotRing_init,
    mk_SlotRing := ⟨mk_SlotRing, a_SlotRing_init, i_SlotRing_init, kc_SlotRing⟩,
    F_SlotRing_can_arm := F_SlotRing_can_arm,
    b_SlotRing_can_arm := b_SlotRing_can_arm,
    m_SlotRing_can_arm := ⟨a_SlotRing_can_arm, i_SlotRing_can_arm, k_SlotRing_can_arm⟩,
    F_SlotRing_arm := F_SlotRing_arm,
    b_SlotRing_arm := b_SlotRing_arm,
    m_SlotRing_arm := ⟨a_SlotRing_arm, i_SlotRing_arm, k_SlotRing_arm⟩,
    F_SlotRing_open_slot := F_SlotRing_open_slot,
    b_SlotRing_open_slot := b_SlotRing_open_slot,
    m_SlotRing_open_slot := ⟨a_SlotRing_open_slot, i_SlotRing_open_slot, k_SlotRing_open_slot⟩,
    F_SlotRing_open_bytes := F_SlotRing_open_bytes,
    b_SlotRing_open_bytes := b_SlotRing_open_bytes,
    m_SlotRing_open_bytes := ⟨a_SlotRing_open_bytes, i_SlotRing_open_bytes, k_SlotRing_open_bytes⟩,
    F_SlotRing_open_count := F_SlotRing_open_count,
    b_SlotRing_open_count := b_SlotRing_open_count,
    m_SlotRing_open_count := ⟨a_SlotRing_open_count, i_SlotRing_open_count, k_SlotRing_open_count⟩,
    F_SlotRing_add := F_SlotRing_add,
    b_SlotRing_add := b_SlotRing_add,
    m_SlotRing_add := ⟨a_SlotRing_add, i_SlotRing_add, k_SlotRing_add⟩,
    F_SlotRing_close := F_SlotRing_close,
    b_SlotRing_close := b_SlotRing_close,
    m_SlotRing_close := ⟨a_SlotRing_close, i_SlotRing_close, k_SlotRing_close⟩,
    F_SlotRing_oldest := F_SlotRing_oldest,
    b_SlotRing_oldest := b_SlotRing_oldest,
    m_SlotRing_oldest := ⟨a_SlotRing_oldest, i_SlotRing_oldest, k_SlotRing_oldest⟩,
    F_SlotRing_reap := F_SlotRing_reap,
    b_SlotRing_reap := b_SlotRing_reap,
    m_SlotRing_reap := ⟨a_SlotRing_reap, i_SlotRing_reap, k_SlotRing_reap⟩,
    F_SlotRing_filled_slots := F_SlotRing_filled_slots,
    b_SlotRing_filled_slots := b_SlotRing_filled_slots,
    m_SlotRing_filled_slots := ⟨a_SlotRing_filled_slots, i_SlotRing_filled_slots, k_SlotRing_filled_slots⟩,
    F_SlotRing_buffers := F_SlotRing_buffers,
    b_SlotRing_buffers := b_SlotRing_buffers,
    m_SlotRing_buffers := ⟨a_SlotRing_buffers, i_SlotRing_buffers, k_SlotRing_buffers⟩,
    F_law_state := F_law_state,
    b_law_state := b_law_state,
    g_law_state := PySem.W.mg_of X G a_law_state,
    F_law_draw := F_law_draw,
    b_law_draw := b_law_draw,
    g_law_draw := PySem.W.mg_of X G a_law_draw,
    F_law_pick := F_law_pick,
    b_law_pick := b_law_pick,
    g_law_pick := PySem.W.mg_of X G a_law_pick,
    F_law_fills := F_law_fills,
    b_law_fills := b_law_fills,
    g_law_fills := PySem.W.mg_of X G a_law_fills,
    F_law_steps := F_law_steps,
    b_law_steps := b_law_steps,
    g_law_steps := PySem.W.mg_of X G a_law_steps,
    F_law_rest := F_law_rest,
    b_law_rest := b_law_rest,
    g_law_rest := PySem.W.mg_of X G a_law_rest,
    F_law_agrees := F_law_agrees,
    b_law_agrees := b_law_agrees,
    g_law_agrees := PySem.W.mg_of X G a_law_agrees,
    F_law := F_law,
    b_law := b_law,
    g_law := PySem.W.mg_of X G a_law,
    g_Sender := PySem.W.mg_of X G gC_Sender,
    g_TickringsError := PySem.W.mg_of X G gC_TickringsError,
    g_RingError := PySem.W.mg_of X G gC_RingError,
    g_PoolError := PySem.W.mg_of X G gC_PoolError,
    g_Ring := PySem.W.mg_of X G gC_Ring,
    g_Pool := PySem.W.mg_of X G gC_Pool,
    g_TransmitQueue := PySem.W.mg_of X G gC_TransmitQueue,
    g_SlotRing := PySem.W.mg_of X G gC_SlotRing,
    cl_Sender := ⟨pg_Sender, hd_Sender, po_Sender, sa_Sender⟩,
    n_Sender_queue := n_Sender_queue,
    n_Sender_ring := n_Sender_ring,
    n_Sender_pool := n_Sender_pool,
    n_Sender_moved := n_Sender_moved,
    cl_Ring := ⟨pg_Ring, hd_Ring, po_Ring, sa_Ring⟩,
    n_Ring_cells := n_Ring_cells,
    n_Ring_written := n_Ring_written,
    n_Ring_taken := n_Ring_taken,
    cl_Pool := ⟨pg_Pool, hd_Pool, po_Pool, sa_Pool⟩,
    n_Pool_owners := n_Pool_owners,
    n_Pool_free := n_Pool_free,
    cl_TransmitQueue := ⟨pg_TransmitQueue, hd_TransmitQueue, po_TransmitQueue, sa_TransmitQueue⟩,
    n_TransmitQueue_capacity := n_TransmitQueue_capacity,
    n_TransmitQueue_bytes := n_TransmitQueue_bytes,
    cl_SlotRing := ⟨pg_SlotRing, hd_SlotRing, po_SlotRing, sa_SlotRing⟩,
    n_SlotRing_slots := n_SlotRing_slots,
    n_SlotRing_armed := n_SlotRing_armed,
    n_SlotRing_filled := n_SlotRing_filled,
    n_SlotRing_added := n_SlotRing_added,
    e_RingError := K_RingError,
    e_PoolError := K_PoolError }
  exact FnOk.imp (ok_law T) fun vs H Q E h => h
theorem walk {l : PySem.W.OpenLaw} {q : Program} {loose : List Str} {XP : (Str → Option Value) → Heap → Prop} {YP : World → Heap → Prop} {d : DefRec} {K : Params → PySem.W.Frag} (hn : l.most = some 63) (hdf : d.params.defaults = [])
    (hY : ∀ (w : World) (h : Heap), YP w h → (K w.params).In h)
    (F : ∀ (w : World) (mg : Str → Option Value) (fa : Addr) (h : Heap), (K w.params).In h → h.Ns mainGlobals mg → mg d.name = some (.ref fa) → ∃ fd : FuncData, (∀ (s : Shared) (u : Value), BindsTo s fd ⟨[u], []⟩ [("script", u)]) ∧
      ∀ base : Heap, (K w.params).In base → base.Ns mainGlobals mg → FnOk l.prog w (K w.params) mg base (L2.CX l.prog w) 9 fa fd ["script"] (sp_law0 (K w.params))) :
    PySem.W.WalkO q loose XP YP l.row.toRowW d [] (fun f vs => PySem.call f vs) :=
  L2.walk_of (n := 63) (k := 9) (x := "script") (CX := fun w => L2.CX l.prog w) (sp := fun w => sp_law0 (K w.params)) hn (by decide) hdf ⟨rfl, by decide, by decide⟩ hY F (fun _ _ b ns hl _ hS => a1 ⟨b, ns, rfl, hS, hl, fun _ => rfl⟩) fun _ _ _ _ _ ⟨_, _, _, _, _, _, _, _, _, _, _, _, z⟩ => z
end My
open PySem PySem.W PyProof.Rows
set_option maxRecDepth 100000 in
set_option maxHeartbeats 0 in
theorem PySem.Challenge.cw_tickrings_k15_sending_holds : PySem.Challenge.rw_tickrings_k15_sending.Holds := by
  w_on; o_law; k_head; (case hw => w_witness2)
  k_fill
  refine My.walk (l := PySem.Challenge.rw_tickrings_k15_sending) rfl rfl (fun w h Y => PySem.W.kIn_of Y) ?F
  case F =>
    intro w mg fa h KX G hmg
    refine' My.all_mk rfl KX G hmg ?hgC_Sender ?hgC_TickringsError ?hgC_RingError ?hgC_PoolError ?hgC_Ring ?hgC_Pool ?hgC_TransmitQueue ?hgC_SlotRing ?ha_wall ?hl_wall ?hc_wall ?hk_wall ?ha_Sender_init ?hi_Sender_init ?hl_Sender_init ?hc_Sender_init ?hk_Sender_init ?ha_Sender_can_step ?hi_Sender_can_step ?hl_Sender_can_step ?hc_Sender_can_step ?hk_Sender_can_step ?ha_Sender_step ?hi_Sender_step ?hl_Sender_step ?hc_Sender_step ?hk_Sender_step ?ha_Sender_waiting ?hi_Sender_waiting ?hl_Sender_waiting ?hc_Sender_waiting ?hk_Sender_waiting ?ha_Sender_empty_slot ?hi_Sender_empty_slot ?hl_Sender_empty_slot ?hc_Sender_empty_slot ?hk_Sender_empty_slot ?hx_RingError ?hhbm_RingError ?hsa_RingError ?hex_RingError ?hty_RingError ?hkp_RingError ?hsu_RingError ?hve_RingError ?hop_RingError ?hsm_RingError ?hic_RingError ?hti_RingError ?hl_RingError_init ?hc_RingError_init ?hce_RingError ?hco_RingError ?hcv_RingError ?hcf_RingError ?hno_RingError ?hga_RingError ?hgg_RingError ?hhd_RingError ?hha_RingError ?hhn_RingError ?hht_RingError ?hhm_RingError ?how_RingError ?hx_PoolError ?hhbm_PoolError ?hsa_PoolError ?hex_PoolError ?hty_PoolError ?hkp_PoolError ?hsu_PoolError ?hve_PoolError ?hop_PoolError ?hsm_PoolError ?hic_PoolError ?hti_PoolError ?hl_PoolError_init ?hc_PoolError_init ?hce_PoolError ?hco_PoolError ?hcv_PoolError ?hcf_PoolError ?hno_PoolError ?hga_PoolError ?hgg_PoolError ?hhd_PoolError ?hha_PoolError ?hhn_PoolError ?hht_PoolError ?hhm_PoolError ?how_PoolError ?ha_Ring_init ?hi_Ring_init ?hl_Ring_init ?hc_Ring_init ?hk_Ring_init ?ha_Ring_held ?hi_Ring_held ?hl_Ring_held ?hc_Ring_held ?hk_Ring_held ?ha_Ring_is_full ?hi_Ring_is_full ?hl_Ring_is_full ?hc_Ring_is_full ?hk_Ring_is_full ?ha_Ring_put ?hi_Ring_put ?hl_Ring_put ?hc_Ring_put ?hk_Ring_put ?ha_Ring_first ?hi_Ring_first ?hl_Ring_first ?hc_Ring_first ?hk_Ring_first ?ha_Ring_take ?hi_Ring_take ?hl_Ring_take ?hc_Ring_take ?hk_Ring_take ?ha_Ring_listed ?hi_Ring_listed ?hl_Ring_listed ?hc_Ring_listed ?hk_Ring_listed ?ha_Ring_next ?hi_Ring_next ?hl_Ring_next ?hc_Ring_next ?hk_Ring_next ?ha_Pool_init ?hi_Pool_init ?hl_Pool_init ?hc_Pool_init ?hk_Pool_init ?ha_Pool_free ?hi_Pool_free ?hl_Pool_free ?hc_Pool_free ?hk_Pool_free ?ha_Pool_owner ?hi_Pool_owner ?hl_Pool_owner ?hc_Pool_owner ?hk_Pool_owner ?ha_Pool_held ?hi_Pool_held ?hl_Pool_held ?hc_Pool_held ?hk_Pool_held ?ha_Pool_acquire ?hi_Pool_acquire ?hl_Pool_acquire ?hc_Pool_acquire ?hk_Pool_acquire ?ha_Pool_release ?hi_Pool_release ?hl_Pool_release ?hc_Pool_release ?hk_Pool_release ?ha_Pool_may_acquire ?hi_Pool_may_acquire ?hl_Pool_may_acquire ?hc_Pool_may_acquire ?hk_Pool_may_acquire ?ha_Pool_exists ?hi_Pool_exists ?hl_Pool_exists ?hc_Pool_exists ?hk_Pool_exists ?ha_TransmitQueue_init ?hi_TransmitQueue_init ?hl_TransmitQueue_init ?hc_TransmitQueue_init ?hk_TransmitQueue_init ?ha_TransmitQueue_put ?hi_TransmitQueue_put ?hl_TransmitQueue_put ?hc_TransmitQueue_put ?hk_TransmitQueue_put ?ha_TransmitQueue_take ?hi_TransmitQueue_take ?hl_TransmitQueue_take ?hc_TransmitQueue_take ?hk_TransmitQueue_take ?ha_TransmitQueue_space ?hi_TransmitQueue_space ?hl_TransmitQueue_space ?hc_TransmitQueue_space ?hk_TransmitQueue_space ?ha_TransmitQueue_contents ?hi_TransmitQueue_contents ?hl_TransmitQueue_contents ?hc_TransmitQueue_contents ?hk_TransmitQueue_contents ?ha_copied ?hl_copied ?hc_copied ?hk_copied ?ha_SlotRing_init ?hi_SlotRing_init ?hl_SlotRing_init ?hc_SlotRing_init ?hk_SlotRing_init ?ha_SlotRing_can_arm ?hi_SlotRing_can_arm ?hl_SlotRing_can_arm ?hc_SlotRing_can_arm ?hk_SlotRing_can_arm ?ha_SlotRing_arm ?hi_SlotRing_arm ?hl_SlotRing_arm ?hc_SlotRing_arm ?hk_SlotRing_arm ?ha_SlotRing_open_slot ?hi_SlotRing_open_slot ?hl_SlotRing_open_slot ?hc_SlotRing_open_slot ?hk_SlotRing_open_slot ?ha_SlotRing_open_bytes ?hi_SlotRing_open_bytes ?hl_SlotRing_open_bytes ?hc_SlotRing_open_bytes ?hk_SlotRing_open_bytes ?ha_SlotRing_open_count ?hi_SlotRing_open_count ?hl_SlotRing_open_count ?hc_SlotRing_open_count ?hk_SlotRing_open_count ?ha_SlotRing_add ?hi_SlotRing_add ?hl_SlotRing_add ?hc_SlotRing_add ?hk_SlotRing_add ?ha_SlotRing_close ?hi_SlotRing_close ?hl_SlotRing_close ?hc_SlotRing_close ?hk_SlotRing_close ?ha_SlotRing_oldest ?hi_SlotRing_oldest ?hl_SlotRing_oldest ?hc_SlotRing_oldest ?hk_SlotRing_oldest ?ha_SlotRing_reap ?hi_SlotRing_reap ?hl_SlotRing_reap ?hc_SlotRing_reap ?hk_SlotRing_reap ?ha_SlotRing_filled_slots ?hi_SlotRing_filled_slots ?hl_SlotRing_filled_slots ?hc_SlotRing_filled_slots ?hk_SlotRing_filled_slots ?ha_SlotRing_buffers ?hi_SlotRing_buffers ?hl_SlotRing_buffers ?hc_SlotRing_buffers ?hk_SlotRing_buffers ?ha_law_state ?hl_law_state ?hc_law_state ?hk_law_state ?ha_law_draw ?hl_law_draw ?hc_law_draw ?hk_law_draw ?ha_law_pick ?hl_law_pick ?hc_law_pick ?hk_law_pick ?ha_law_fills ?hl_law_fills ?hc_law_fills ?hk_law_fills ?ha_law_steps ?hl_law_steps ?hc_law_steps ?hk_law_steps ?ha_law_rest ?hl_law_rest ?hc_law_rest ?hk_law_rest ?ha_law_agrees ?hl_law_agrees ?hc_law_agrees ?hk_law_agrees ?ha_law ?hl_law ?hc_law ?hk_law ?hpg_Sender ?hhd_Sender ?hpo_Sender ?hsa_Sender ?hmk_Sender ?hkc_Sender ?hn_Sender_queue ?hn_Sender_ring ?hn_Sender_pool ?hn_Sender_moved ?hpg_Ring ?hhd_Ring ?hpo_Ring ?hsa_Ring ?hmk_Ring ?hkc_Ring ?hn_Ring_cells ?hn_Ring_written ?hn_Ring_taken ?hpg_Pool ?hhd_Pool ?hpo_Pool ?hsa_Pool ?hmk_Pool ?hkc_Pool ?hn_Pool_owners ?hn_Pool_free ?hpg_TransmitQueue ?hhd_TransmitQueue ?hpo_TransmitQueue ?hsa_TransmitQueue ?hmk_TransmitQueue ?hkc_TransmitQueue ?hn_TransmitQueue_capacity ?hn_TransmitQueue_bytes ?hpg_SlotRing ?hhd_SlotRing ?hpo_SlotRing ?hsa_SlotRing ?hmk_SlotRing ?hkc_SlotRing ?hn_SlotRing_slots ?hn_SlotRing_armed ?hn_SlotRing_filled ?hn_SlotRing_added ?hz_abs ?hz_bool ?hz_enumerate ?hz_int ?hz_isinstance ?hz_len ?hz_list ?hz_range ?hz_super
    (case hgC_Sender => k_is)
    (case hgC_TickringsError => k_is)
    (case hgC_RingError => k_is)
    (case hgC_PoolError => k_is)
    (case hgC_Ring => k_is)
    (case hgC_Pool => k_is)
    (case hgC_TransmitQueue => k_is)
    (case hgC_SlotRing => k_is)
    (case ha_wall => k_is)
    (case hl_wall => k_is)
    (case hc_wall => k_is)
    (case hk_wall => k_is)
    (case ha_Sender_init => k_is)
    (case hi_Sender_init => k_is)
    (case hl_Sender_init => k_is)
    (case hc_Sender_init => k_is)
    (case hk_Sender_init => k_is)
    (case ha_Sender_can_step => k_is)
    (case hi_Sender_can_step => k_is)
    (case hl_Sender_can_step => k_is)
    (case hc_Sender_can_step => k_is)
    (case hk_Sender_can_step => k_is)
    (case ha_Sender_step => k_is)
    (case hi_Sender_step => k_is)
    (case hl_Sender_step => k_is)
    (case hc_Sender_step => k_is)
    (case hk_Sender_step => k_is)
    (case ha_Sender_waiting => k_is)
    (case hi_Sender_waiting => k_is)
    (case hl_Sender_waiting => k_is)
    (case hc_Sender_waiting => k_is)
    (case hk_Sender_waiting => k_is)
    (case ha_Sender_empty_slot => k_is)
    (case hi_Sender_empty_slot => k_is)
    (case hl_Sender_empty_slot => k_is)
    (case hc_Sender_empty_slot => k_is)
    (case hk_Sender_empty_slot => k_is)
    (case hx_RingError => k_is)
    (case hhbm_RingError => first | rfl | decide +kernel)
    (case hsa_RingError => k_is)
    (case hex_RingError => k_is)
    (case hty_RingError => k_is)
    (case hkp_RingError => k_is)
    (case hsu_RingError => ks_is)
    (case hve_RingError => k_is)
    (case hop_RingError => k_is)
    (case hsm_RingError => k_is)
    (case hic_RingError => k_is)
    (case hti_RingError => k_is)
    (case hl_RingError_init => k_is)
    (case hc_RingError_init => k_is)
    (case hce_RingError => k_is)
    (case hco_RingError => k_is)
    (case hcv_RingError => exact rfl)
    (case hcf_RingError => first | rfl | decide +kernel)
    (case hno_RingError => k_is)
    (case hga_RingError => k_is)
    (case hgg_RingError => k_is)
    (case hhd_RingError => k_is)
    (case hha_RingError => k_is)
    (case hhn_RingError => k_is)
    (case hht_RingError => k_is)
    (case hhm_RingError => k_is)
    (case how_RingError => first | k_is | rfl)
    (case hx_PoolError => k_is)
    (case hhbm_PoolError => first | rfl | decide +kernel)
    (case hsa_PoolError => k_is)
    (case hex_PoolError => k_is)
    (case hty_PoolError => k_is)
    (case hkp_PoolError => k_is)
    (case hsu_PoolError => ks_is)
    (case hve_PoolError => k_is)
    (case hop_PoolError => k_is)
    (case hsm_PoolError => k_is)
    (case hic_PoolError => k_is)
    (case hti_PoolError => k_is)
    (case hl_PoolError_init => k_is)
    (case hc_PoolError_init => k_is)
    (case hce_PoolError => k_is)
    (case hco_PoolError => k_is)
    (case hcv_PoolError => exact rfl)
    (case hcf_PoolError => first | rfl | decide +kernel)
    (case hno_PoolError => k_is)
    (case hga_PoolError => k_is)
    (case hgg_PoolError => k_is)
    (case hhd_PoolError => k_is)
    (case hha_PoolError => k_is)
    (case hhn_PoolError => k_is)
    (case hht_PoolError => k_is)
    (case hhm_PoolError => k_is)
    (case how_PoolError => first | k_is | rfl)
    (case ha_Ring_init => k_is)
    (case hi_Ring_init => k_is)
    (case hl_Ring_init => k_is)
    (case hc_Ring_init => k_is)
    (case hk_Ring_init => k_is)
    (case ha_Ring_held => k_is)
    (case hi_Ring_held => k_is)
    (case hl_Ring_held => k_is)
    (case hc_Ring_held => k_is)
    (case hk_Ring_held => k_is)
    (case ha_Ring_is_full => k_is)
    (case hi_Ring_is_full => k_is)
    (case hl_Ring_is_full => k_is)
    (case hc_Ring_is_full => k_is)
    (case hk_Ring_is_full => k_is)
    (case ha_Ring_put => k_is)
    (case hi_Ring_put => k_is)
    (case hl_Ring_put => k_is)
    (case hc_Ring_put => k_is)
    (case hk_Ring_put => k_is)
    (case ha_Ring_first => k_is)
    (case hi_Ring_first => k_is)
    (case hl_Ring_first => k_is)
    (case hc_Ring_first => k_is)
    (case hk_Ring_first => k_is)
    (case ha_Ring_take => k_is)
    (case hi_Ring_take => k_is)
    (case hl_Ring_take => k_is)
    (case hc_Ring_take => k_is)
    (case hk_Ring_take => k_is)
    (case ha_Ring_listed => k_is)
    (case hi_Ring_listed => k_is)
    (case hl_Ring_listed => k_is)
    (case hc_Ring_listed => k_is)
    (case hk_Ring_listed => k_is)
    (case ha_Ring_next => k_is)
    (case hi_Ring_next => k_is)
    (case hl_Ring_next => k_is)
    (case hc_Ring_next => k_is)
    (case hk_Ring_next => k_is)
    (case ha_Pool_init => k_is)
    (case hi_Pool_init => k_is)
    (case hl_Pool_init => k_is)
    (case hc_Pool_init => k_is)
    (case hk_Pool_init => k_is)
    (case ha_Pool_free => k_is)
    (case hi_Pool_free => k_is)
    (case hl_Pool_free => k_is)
    (case hc_Pool_free => k_is)
    (case hk_Pool_free => k_is)
    (case ha_Pool_owner => k_is)
    (case hi_Pool_owner => k_is)
    (case hl_Pool_owner => k_is)
    (case hc_Pool_owner => k_is)
    (case hk_Pool_owner => k_is)
    (case ha_Pool_held => k_is)
    (case hi_Pool_held => k_is)
    (case hl_Pool_held => k_is)
    (case hc_Pool_held => k_is)
    (case hk_Pool_held => k_is)
    (case ha_Pool_acquire => k_is)
    (case hi_Pool_acquire => k_is)
    (case hl_Pool_acquire => k_is)
    (case hc_Pool_acquire => k_is)
    (case hk_Pool_acquire => k_is)
    (case ha_Pool_release => k_is)
    (case hi_Pool_release => k_is)
    (case hl_Pool_release => k_is)
    (case hc_Pool_release => k_is)
    (case hk_Pool_release => k_is)
    (case ha_Pool_may_acquire => k_is)
    (case hi_Pool_may_acquire => k_is)
    (case hl_Pool_may_acquire => k_is)
    (case hc_Pool_may_acquire => k_is)
    (case hk_Pool_may_acquire => k_is)
    (case ha_Pool_exists => k_is)
    (case hi_Pool_exists => k_is)
    (case hl_Pool_exists => k_is)
    (case hc_Pool_exists => k_is)
    (case hk_Pool_exists => k_is)
    (case ha_TransmitQueue_init => k_is)
    (case hi_TransmitQueue_init => k_is)
    (case hl_TransmitQueue_init => k_is)
    (case hc_TransmitQueue_init => k_is)
    (case hk_TransmitQueue_init => k_is)
    (case ha_TransmitQueue_put => k_is)
    (case hi_TransmitQueue_put => k_is)
    (case hl_TransmitQueue_put => k_is)
    (case hc_TransmitQueue_put => k_is)
    (case hk_TransmitQueue_put => k_is)
    (case ha_TransmitQueue_take => k_is)
    (case hi_TransmitQueue_take => k_is)
    (case hl_TransmitQueue_take => k_is)
    (case hc_TransmitQueue_take => k_is)
    (case hk_TransmitQueue_take => k_is)
    (case ha_TransmitQueue_space => k_is)
    (case hi_TransmitQueue_space => k_is)
    (case hl_TransmitQueue_space => k_is)
    (case hc_TransmitQueue_space => k_is)
    (case hk_TransmitQueue_space => k_is)
    (case ha_TransmitQueue_contents => k_is)
    (case hi_TransmitQueue_contents => k_is)
    (case hl_TransmitQueue_contents => k_is)
    (case hc_TransmitQueue_contents => k_is)
    (case hk_TransmitQueue_contents => k_is)
    (case ha_copied => k_is)
    (case hl_copied => k_is)
    (case hc_copied => k_is)
    (case hk_copied => k_is)
    (case ha_SlotRing_init => k_is)
    (case hi_SlotRing_init => k_is)
    (case hl_SlotRing_init => k_is)
    (case hc_SlotRing_init => k_is)
    (case hk_SlotRing_init => k_is)
    (case ha_SlotRing_can_arm => k_is)
    (case hi_SlotRing_can_arm => k_is)
    (case hl_SlotRing_can_arm => k_is)
    (case hc_SlotRing_can_arm => k_is)
    (case hk_SlotRing_can_arm => k_is)
    (case ha_SlotRing_arm => k_is)
    (case hi_SlotRing_arm => k_is)
    (case hl_SlotRing_arm => k_is)
    (case hc_SlotRing_arm => k_is)
    (case hk_SlotRing_arm => k_is)
    (case ha_SlotRing_open_slot => k_is)
    (case hi_SlotRing_open_slot => k_is)
    (case hl_SlotRing_open_slot => k_is)
    (case hc_SlotRing_open_slot => k_is)
    (case hk_SlotRing_open_slot => k_is)
    (case ha_SlotRing_open_bytes => k_is)
    (case hi_SlotRing_open_bytes => k_is)
    (case hl_SlotRing_open_bytes => k_is)
    (case hc_SlotRing_open_bytes => k_is)
    (case hk_SlotRing_open_bytes => k_is)
    (case ha_SlotRing_open_count => k_is)
    (case hi_SlotRing_open_count => k_is)
    (case hl_SlotRing_open_count => k_is)
    (case hc_SlotRing_open_count => k_is)
    (case hk_SlotRing_open_count => k_is)
    (case ha_SlotRing_add => k_is)
    (case hi_SlotRing_add => k_is)
    (case hl_SlotRing_add => k_is)
    (case hc_SlotRing_add => k_is)
    (case hk_SlotRing_add => k_is)
    (case ha_SlotRing_close => k_is)
    (case hi_SlotRing_close => k_is)
    (case hl_SlotRing_close => k_is)
    (case hc_SlotRing_close => k_is)
    (case hk_SlotRing_close => k_is)
    (case ha_SlotRing_oldest => k_is)
    (case hi_SlotRing_oldest => k_is)
    (case hl_SlotRing_oldest => k_is)
    (case hc_SlotRing_oldest => k_is)
    (case hk_SlotRing_oldest => k_is)
    (case ha_SlotRing_reap => k_is)
    (case hi_SlotRing_reap => k_is)
    (case hl_SlotRing_reap => k_is)
    (case hc_SlotRing_reap => k_is)
    (case hk_SlotRing_reap => k_is)
    (case ha_SlotRing_filled_slots => k_is)
    (case hi_SlotRing_filled_slots => k_is)
    (case hl_SlotRing_filled_slots => k_is)
    (case hc_SlotRing_filled_slots => k_is)
    (case hk_SlotRing_filled_slots => k_is)
    (case ha_SlotRing_buffers => k_is)
    (case hi_SlotRing_buffers => k_is)
    (case hl_SlotRing_buffers => k_is)
    (case hc_SlotRing_buffers => k_is)
    (case hk_SlotRing_buffers => k_is)
    (case ha_law_state => k_is)
    (case hl_law_state => k_is)
    (case hc_law_state => k_is)
    (case hk_law_state => k_is)
    (case ha_law_draw => k_is)
    (case hl_law_draw => k_is)
    (case hc_law_draw => k_is)
    (case hk_law_draw => k_is)
    (case ha_law_pick => k_is)
    (case hl_law_pick => k_is)
    (case hc_law_pick => k_is)
    (case hk_law_pick => k_is)
    (case ha_law_fills => k_is)
    (case hl_law_fills => k_is)
    (case hc_law_fills => k_is)
    (case hk_law_fills => k_is)
    (case ha_law_steps => k_is)
    (case hl_law_steps => k_is)
    (case hc_law_steps => k_is)
    (case hk_law_steps => k_is)
    (case ha_law_rest => k_is)
    (case hl_law_rest => k_is)
    (case hc_law_rest => k_is)
    (case hk_law_rest => k_is)
    (case ha_law_agrees => k_is)
    (case hl_law_agrees => k_is)
    (case hc_law_agrees => k_is)
    (case hk_law_agrees => k_is)
    (case ha_law => k_is)
    (case hl_law => k_is)
    (case hc_law => k_is)
    (case hk_law => k_is)
    (case hpg_Sender => k_is)
    (case hhd_Sender => k_is)
    (case hpo_Sender => k_is)
    (case hsa_Sender => k_is)
    (case hmk_Sender => k_is)
    (case hkc_Sender => k_is)
    (case hn_Sender_queue => k_is)
    (case hn_Sender_ring => k_is)
    (case hn_Sender_pool => k_is)
    (case hn_Sender_moved => k_is)
    (case hpg_Ring => k_is)
    (case hhd_Ring => k_is)
    (case hpo_Ring => k_is)
    (case hsa_Ring => k_is)
    (case hmk_Ring => k_is)
    (case hkc_Ring => k_is)
    (case hn_Ring_cells => k_is)
    (case hn_Ring_written => k_is)
    (case hn_Ring_taken => k_is)
    (case hpg_Pool => k_is)
    (case hhd_Pool => k_is)
    (case hpo_Pool => k_is)
    (case hsa_Pool => k_is)
    (case hmk_Pool => k_is)
    (case hkc_Pool => k_is)
    (case hn_Pool_owners => k_is)
    (case hn_Pool_free => k_is)
    (case hpg_TransmitQueue => k_is)
    (case hhd_TransmitQueue => k_is)
    (case hpo_TransmitQueue => k_is)
    (case hsa_TransmitQueue => k_is)
    (case hmk_TransmitQueue => k_is)
    (case hkc_TransmitQueue => k_is)
    (case hn_TransmitQueue_capacity => k_is)
    (case hn_TransmitQueue_bytes => k_is)
    (case hpg_SlotRing => k_is)
    (case hhd_SlotRing => k_is)
    (case hpo_SlotRing => k_is)
    (case hsa_SlotRing => k_is)
    (case hmk_SlotRing => k_is)
    (case hkc_SlotRing => k_is)
    (case hn_SlotRing_slots => k_is)
    (case hn_SlotRing_armed => k_is)
    (case hn_SlotRing_filled => k_is)
    (case hn_SlotRing_added => k_is)
    (case hz_abs => k_is)
    (case hz_bool => k_is)
    (case hz_enumerate => k_is)
    (case hz_int => k_is)
    (case hz_isinstance => k_is)
    (case hz_len => k_is)
    (case hz_list => k_is)
    (case hz_range => k_is)
    (case hz_super => k_is)
#print axioms PySem.Challenge.cw_tickrings_k15_sending_holds
