import PyProof.Rows.All
import Wide.All
import OpenK.AllK
import Wide.FinOn
import HandS.ForExc
import HandS.Nested
import HandS.ExcInit
import HandS.ExcField
import HandS.FStr
import HandS.MakeKwOnly
import HandS.IsInst
import HandS.ExcIs
import KE.KExcSuper
import KE.KExcIs
import HandS.ForMost
import HandS.Evl
import HandS.NoneIn
import HandS.TupAny
import PySem.Challenge.RW_tickrings_k13_receiving
set_option Elab.async false
set_option maxRecDepth 100000
set_option maxHeartbeats 4000000
set_option linter.all false
set_option autoImplicit false
/-! An own error class over another own class over ValueError, whose __init__ says super().__init__(..) and stores one field. -/
namespace Sx
open PySem PySem.Spec PyProof.Rows L2 PySem.W PySem.Calls NdefX
section
variable {prog : Program} {w : World} {A : Around} {E : Value → Shared → Prop} {h : Heap} {g : Array GenState} {d : Drawn} {t : Nat} {os : OsState}
/-- ValueError.__init__ bound to an exception, called -/
theorem call_mw {nm q : Str} {C N u e t0 : Addr} {bs bm : List Value} {hdct : Bool} {sn : List Str} {sub : List Value} {ab : Bool} {col : Option Bool} {dd : Option Addr} {k0 k1 k2 k3 k5 : Option Value} {rest : List Value} {Q : Value → Shared → Prop}
    (hC : h.get? C = some (excClassObj nm q C N bs bm hdct sn sub ab col dd k0 k1 k2 k3 k5 "ValueError.__new__")) (he : h.get? e = some (HandSPX.excO C t0)) (hu : h.get? u = some (kxs_mw "ValueError.__init__" e)) (hrest : rest.length ≤ sizeLine)
    (hq : ∀ h' t1, (∀ b o, b ≠ e → h.get? b = some o → h'.get? b = some o) → h'.get? e = some (HandSPX.excO C t1) → Q .none ⟨h', g, d, t, os⟩) :
    wpAny (model prog w) A (call (.ref u) rest) Q E ⟨h, g, d, t, os⟩ := by
  refine wpAny_call (codeAny_of_tree ?_)
  show wpAny _ A.in1 (callAny (.ref u) ⟨rest, []⟩) _ _ _
  simp only [callAny]
  refine wpAny_bind (wpAny_load hu ?_)
  simp only [kxs_mw, show (Value.type "method-wrapper" == Value.type "method" || Value.type "method-wrapper" == Value.type "builtin_function_or_method" || Value.type "method-wrapper" == Value.type "method-wrapper") = true by decide, if_true]
  refine W.KFB.if_so (by decide) ?_
  refine wpAny_bind (check_bound_init F.excBase_ValueError.toExcCallFacts hC he rfl ?_)
  refine wpAny_bind (wpAny_pure (wpAny_pure ?_))
  refine ⟨plainId_quiet F.excBase_ValueError.init.plain _, codeAny_builtin F.excBase_ValueError.initEntry ?_⟩
  exact exc_init_tree (cls := .ref C) (t0 := t0) (dv := none) (c2 := .none) (c3 := .none) (b4 := .bool false) he hrest fun h' k hx _ => hq h' _ k hx
end
/-- what the top has written of such a class -/
structure ErrC (P : Program) (K : PySem.W.Frag) (mg : Str → Option Value) (C : Addr) : Prop where
  ox : OexC K C
  sup : ks_superIn K C C "__init__" = some (some (.builtin "ValueError.__init__"))
  ve : PySem.W.subIn K (.ref C) (.type "ValueError") = some true
  op : PySem.W.nsIn K cStatics "thirdparty.any" = some none
  selfM : PySem.W.mroIn K C (.ref C) = some true
  sm : mg "super" = none
  top : (P.main.scope.names.lookup ("super" : Str)).isSome = false
/-- its __init__ -/
structure ErrI (P : Program) (K : PySem.W.Frag) (C cc cda fI : Addr) (name qual : Str) (params : Arguments) (body : List Stmt) (scope : Scope) (fd : FuncData) : Prop where
  fn : ∃ oc od osl dV kV doc pm an ct, fd = PySem.W.fnX name qual params body scope [("__class__", cc)] dV kV doc pm an (.ref cda) ct ∧ K.lookup fI = some ⟨oc, od, .func fd, osl⟩
  cd : PySem.W.codeIn K (.ref cda) qual = true
  cell : ∃ cl cld csl, K.lookup cc = some ⟨cl, cld, .cell (some (.ref C)), csl⟩
  code : ∃ ccl cdd vs ccs file tf, K.lookup cda = some ⟨ccl, cdd, .fields vs, ccs⟩ ∧ vs[2]? = some (.str file tf) ∧ ((P.main.file : Str) == file) = true
section
variable {P : Program} {w : World} {K : PySem.W.Frag} {mg : Str → Option Value} {base : Heap} {CX : CXT}
theorem fn_of_err {C cc cda f : Addr} {name qual : Str} {params : Arguments} {scope : Scope} {fd : FuncData} {ar : Arg} {N ps : List Str} {k : Nat} {sp : Sp} {p0 p1 p2 pos pos' : Pos} {e : Expr} {es : List Expr} {rest : List Stmt}
    (T : ErrC P K mg C) (I0 : ErrI P K C cc cda f name qual params (.Expr (.Call (.Attribute (.Call (.Name "super" p0) [] [] p1) "__init__" p2) (e :: es) [] pos) pos' :: rest) scope fd)
    (S : NScope N ps ["__class__"] scope) (hp : (params.posonlyargs ++ params.args).head? = some ar) (hp0 : ps[0]? = some ar.arg) (hsup : scope.names.lookup ("super" : Str) = some .globalImplicit)
    (len : ∀ vs H Q E, sp vs H Q E → vs.length = ps.length)
    (he : ∀ env, starEach (e :: es) env = (false, eval e env) :: starEach es env) (hpl : ∀ env, (backTo pos (starEach es env)).any (·.1) = false)
    {pl : Env → Sem Bool} (hmc : ∀ env : Env, eval (.Call (.Attribute (.Call (.Name "super" p0) [] [] p1) "__init__" p2) (e :: es) [] pos) env = (do
      let ov ← attributeBase (.Call (.Name "super" p0) [] [] p1) "__init__" env (eval (.Call (.Name "super" p0) [] [] p1) env)
      standAt p2.atName
      let (f, first) ← holding [ov] (getMethod ov "__init__" (pl env))
      callWith pos f first (backTo pos (starEach (e :: es) env)) []))
    (hsw : ∀ env, swapsWith (.Call (.Attribute (.Call (.Name "super" p0) [] [] p1) "__init__" p2) (e :: es) [] pos) none pos'.line env = pure false)
    (hbody : ∀ (A : Around) (outer : List Env) (s : Shared) (H : Hp) (vs : List V) (Q : VK) (E : XK), sp vs H Q E →
      ∃ ta t, PA (ncx CX P w K mg base N ⟨name, qual, params, .Expr (.Call (.Attribute (.Call (.Name "super" p0) [] [] p1) "__init__" p2) (e :: es) [] pos) pos' :: rest, scope, [("__class__", cc)], cda⟩ f A outer s H E) (e :: es) ta ∧
        PSs (ncx CX P w K mg base N ⟨name, qual, params, .Expr (.Call (.Attribute (.Call (.Name "super" p0) [] [] p1) "__init__" p2) (e :: es) [] pos) pos' :: rest, scope, [("__class__", cc)], cda⟩ f A outer s H E) rest t ∧
        ∃ a, vs[0]? = some (.ref a) ∧ H a = some (exo a C none) ∧
          ta (startF N vs [some (.ref C)]) H fun ws H1 => ws.length ≤ 1000 ∧ H1 a = some (exo a C none) ∧ t { nx := fun _ H' => Q .non H', rt := Q } (startF N vs [some (.ref C)]) H1) :
    FnOk P w K mg base CX (k + 1) f fd ps sp := by
  obtain ⟨⟨oc, od, osl, dV, kV, doc, pm, an, ct, rfl, lk⟩, hcd, ⟨cl, cld, csl, hcell⟩, ⟨ccl, cdd, vsC, ccs, file, tf, hcode, hvs, hfile⟩⟩ := I0
  refine ⟨len, fun A outer s H args us vs Q E hr e0 hb r hsp => ?_⟩
  have hl := len _ _ _ _ hsp
  have KX : K.In s.heap := e0.mod.kin.keeps fun b o e => (e0.bs b o e).1
  have lim : s.heap.NoLimit := e0.mod.nolimit.keeps fun b o e => (e0.bs b o e).1
  have C0 : CellsAt [(("__class__" : Str), cc)] ["__class__"] [some (V.ref C)] s.heap H := by
    refine ⟨rfl, fun y c q => ?_, fun x y c q1 q2 => ?_, fun i y q => ?_⟩
    · have hy : c = cc := by
        by_cases hyy : y = ("__class__" : Str)
        · subst hyy
          simpa [List.lookup] using q.symm
        · have : (y == ("__class__" : Str)) = false := by simpa using hyy
          simp [List.lookup, this] at q
      subst hy
      exact ⟨(e0.bs c _ (e0.mod.kin _ _ hcell)).2, _, ⟨_, KX _ _ hcell, rfl⟩⟩
    · have hx : x = ("__class__" : Str) := by
        by_cases hyy : x = ("__class__" : Str)
        · exact hyy
        · have : (x == ("__class__" : Str)) = false := by simpa using hyy
          simp [List.lookup, this] at q1
      have hy : y = ("__class__" : Str) := by
        by_cases hyy : y = ("__class__" : Str)
        · exact hyy
        · have : (y == ("__class__" : Str)) = false := by simpa using hyy
          simp [List.lookup, this] at q2
      rw [hx, hy]
    · match i, q with
      | 0, q =>
        have hy : ("__class__" : Str) = y := Option.some.inj q
        subst hy
        refine ⟨cc, by simp [List.lookup], fun v hv => ⟨.ref C, ?_, _, KX _ _ hcell, rfl⟩⟩
        have hv' : V.ref C = v := by simpa using hv
        subst hv'
        rfl
      | i + 1, q => simp at q
  let F : NF := ⟨name, qual, params, .Expr (.Call (.Attribute (.Call (.Name "super" p0) [] [] p1) "__init__" p2) (e :: es) [] pos) pos' :: rest, scope, [("__class__", cc)], cda⟩
  have hS : NScope N ps ["__class__"] F.scope := S
  refine ks_codeAny_call_defAt (body := F.body) (binds := ps.zip us) hr.depth (KX _ _ lk) rfl lim (codeRec_of KX hcd) rfl (hb) S.nocell (fun ⟨n, _⟩ hy => S.par n (List.of_mem_zip hy).1) (fun h₁ hns kp => ?_) S.co S.gen S.kind
  obtain ⟨ta, tb, hta, htb, a, hv0, hea, hq⟩ := hbody A outer s H vs Q E hsp
  have I : Inv (ncx CX P w K mg base N F f A outer s H E) [] (startF N vs [some (.ref C)]) H { s with heap := h₁, toks := s.toks + (ps.zip us).length } := inv_startN hS hr.hd e0 hl r C0 hns kp
  show PySem.wpAt _ (A.deeper (envF F f s.heap.objs.size)) (.func F.body (envF F f s.heap.objs.size)) (execs F.body (envF F f s.heap.objs.size)) _ _ _
  refine ks_wpAt_mono (Q := SP (ncx CX P w K mg base N F f A outer s H E) [] { nx := fun _ H' => Q .non H', rt := Q }) (ks_wpAt_execs_cons (ks_wpAt_Expr_any (ks_wpAt_MethodCall (pl := pl _) ?_ (hmc _)) (by show (scope.kind == ScopeKind.module && _) = false; rw [S.kind]; rfl) (hsw _))) (fun fl s' hs => ?_) fun e s' hs => hs
  · -- super()
    have KX1 : K.In h₁ := KX.keeps kp
    obtain ⟨nm, q, N', bs, bm, sn, sub, ab, col, dd, k0, k1, k2, k3, k5, hC, hbm⟩ := T.ox.cls
    have hcl : PySem.W.clsIn K C = some { name := nm, bases := bs, mro := .ref C :: bm, ns := N', qualname := q, hasDict := true, slotNames := sn, subclasses := sub, abstract := ab, collection := col, hasDel := false } := by unfold PySem.W.clsIn; rw [hC] <;> rfl
    obtain ⟨t1, ho⟩ := exo_at I.hok hea
    have hu0 : us[0]? = some (.ref a) := by
      obtain ⟨u, hu, ru⟩ := r.get hv0
      have : u = Value.ref a := ru
      rw [hu, this]
    have hself : (ps.zip us).reverse.lookup ar.arg = some (.ref a) := by
      have ndP : ps.Nodup := by
        have q := S.nd.sublist (List.take_sublist (ps.length + 1) N)
        have q2 := S.pre
        simp only [List.length_cons, List.length_nil, Nat.zero_add] at q2
        rw [q2] at q
        exact (List.nodup_append.mp q).1
      exact zip_look ndP hp0 hu0
    have gl : h₁.Ns mainGlobals mg := e0.mod.glob.keeps fun b o z => kp b o (e0.bs b o z).1
    obtain ⟨mb, hmb, hmbE⟩ := e0.mod.blt
    have bl : h₁.Ns builtinsNs mb := hmb.keeps fun b o z => kp b o (e0.bs b o z).1
    refine ks_wpAt_super_base (env := envF F f s.heap.objs.size) hsup (S.frk _ List.mem_cons_self) (by decide) rfl (KX1 _ _ lk) rfl hp rfl (KX1 _ _ hcode) rfl hvs hfile T.top ?_
    refine ks_loadName_global S.kind hsup (loadGlobal_builtin (env := envF F f s.heap.objs.size) gl T.sm bl ((hmbE _ (by decide +kernel)).trans (by decide +kernel : bootBuiltins "super" = some (.type "super"))) ⟨rfl, ?_⟩)
    refine wpAny_loadName_free S.kind (S.frk _ List.mem_cons_self) (by first | rfl | simp [List.lookup]) ⟨_, KX1 _ _ hcell, rfl⟩ ?_
    refine wpAny_loadName_local S.kind (S.par _ (List.mem_of_getElem? hp0)) hns hself ?_
    refine ks_wpAny_isType_cls (KX1 _ _ hC) rfl ⟨rfl, ?_⟩
    refine ks_wpAny_call_super (KX1 _ _ hC) rfl ho rfl (fun c e => by cases e) (PySem.W.looks_mroIn KX1 T.selfM) (fun h2 eso k2 => ?_)
    have I1 := I.kept (t' := s.toks + (ps.zip us).length) k2
    have KX2 : K.In h2 := KX1.keeps k2
    have hax : a ≠ C := by
      intro z
      have z1 := KX1 _ _ hC
      rw [← z, ho] at z1
      cases z1
    have ho2 : h2.get? a = some ({ cls := .ref C, dict := none, data := .fields #[.ref t1, .none, .none, .none, .bool false, .none] } : Obj) := k2 _ _ ho
    have J : PySem.W.InstAt h2 a ({ cls := .ref C, dict := none, data := .fields #[.ref t1, .none, .none, .none, .bool false, .none] } : Obj) C none := ⟨ho2, rfl, rfl, trivial⟩
    have hsupX := T.sup
    unfold ks_superIn at hsupX
    rw [hcl] at hsupX
    have hI : PySem.W.Looks (model P w) h2 (isInstance (.ref a) (.type "ValueError")) true := J.type.andThen (PySem.W.looks_subIn KX2 T.ve)
    refine kxs_getMethod kxs_ValueError eso (PySem.W.looks_opaque KX2 T.op) (l₀ := .ref C :: bm) ?_ rfl KX2 hsupX hI hax (by decide) ?_
    · exact fun A Q E s k q => wpAny_bind ((PySem.W.looks_clsIn KX2 hcl) A _ E s k (wpAny_pure q))
    · have k3 : ∀ b o, h2.get? b = some o → (h2.push (kxs_mw "ValueError.__init__" a)).get? b = some o := fun b o e => Heap.get?_push_of_some _ e
      have I2 := I1.kept (t' := s.toks + (ps.zip us).length + 1) k3
      have nu : H h2.objs.size = none := I1.hok.fresh (Nat.le_refl _)
      have hmw : (h2.push (kxs_mw "ValueError.__init__" a)).get? h2.objs.size = some (kxs_mw "ValueError.__init__" a) := Heap.get?_push_at rfl rfl
      have I3 := I2.pins_of (pins' := [(h2.objs.size, kxs_mw "ValueError.__init__" a)]) fun p hp => by
        have hp' : p = (h2.objs.size, kxs_mw "ValueError.__init__" a) := by simpa [ncx] using hp
        subst hp'
        exact ⟨hmw, nu, fun z => absurd I1.lt (by rw [← z]; exact Nat.lt_irrefl _), I1.nofs (Nat.le_refl _), fun v z => by cases z⟩
      refine kxs_callWith (i := "ValueError.__init__") (x := a) (by rw [he]; show (false || (backTo pos (starEach es _)).any (·.1)) = false; rw [hpl]; rfl) ?_
      rw [he]
      refine evalArgs_plain ?_
      show wpAny _ _ (spliced (backTo pos ((false, eval e (envF F f s.heap.objs.size)) :: starEach es (envF F f s.heap.objs.size)))) _ _ _
      rw [← he]
      refine thn (hta.run pos _ _ _ H _ I3 hq) fun us1 s1 hAP => ?_
      obtain ⟨ws, H1, I4, r4, hz, hea1, q4⟩ := hAP
      have hpin := (I4.pin (h2.objs.size, kxs_mw "ValueError.__init__" a) (by simp [ncx])).1
      refine ⟨hpin, ?_⟩
      obtain ⟨t2, ho4⟩ := exo_at I4.hok hea1
      have I5 := I4.pins_of (pins' := []) fun p hp => by simp [ncx] at hp
      obtain ⟨hp4, g4, d4, t4, os4⟩ := s1
      refine call_mw (I4.kIn _ _ hC) ho4 hpin (by show us1.length ≤ sizeLine; rw [← r4.length, sizeLine_eq]; omega) fun h' t5 k5 hx5 => ?_
      have I6 := I5.write (t' := t4) (x := a) (e := a) (o := exo a C none) (by rw [hea1]; exact True.intro) (.inl rfl) k5 ⟨_, hx5⟩ (exo_ok hx5)
      have eu : upd H1 a (exo a C none) = H1 := by
        funext b
        by_cases hb : b = a
        · rw [hb, upd_same, hea1]
        · rw [upd_ne hb]
      rw [eu] at I6
      exact wpAt_of_wpAny (htb.run [] _ _ H1 _ I6 q4)
  · have fin : ∀ {σ' : L2.St} {H' : Hp} {v : V} {u : Value}, Inv (ncx CX P w K mg base N F f A outer s H E) [] σ' H' s' → L2.RelV v u → Q v H' → CE outer P w H s Q u s' :=
      fun {σ' H' v u} J rv q => ⟨v, H', J.os, J.bare, J.base, J.hok, rv, q⟩
    cases fl with
    | ret u =>
      obtain ⟨v, σ', H', J, rv, q⟩ := hs
      exact fin J rv q
    | next =>
      obtain ⟨σ', H', J, q⟩ := hs
      exact fin (v := V.non) (u := Value.none) J rfl q
    | brk =>
      obtain ⟨_, _, _, q⟩ := hs
      exact False.elim q
    | cont =>
      obtain ⟨_, _, _, q⟩ := hs
      exact False.elim q
end

/-! ### the promise of such an __init__, its body, the raise -/
def okV (x : V) : Prop := (∃ y : Str, x = .str y ∧ y.length ≤ 1000) ∨ ∃ i : Int, x = .int i ∧ i.natAbs.log2 < 1920
theorem okV_int {i : Int} (h : -(2 ^ 64) < i ∧ i < 2 ^ 64) : okV (.int i) := by
  refine .inr ⟨i, rfl, ?_⟩
  have h1 : i.natAbs < 2 ^ 64 := by omega
  by_cases h0 : i.natAbs = 0
  · rw [h0]; decide
  · exact Nat.lt_of_lt_of_le ((Nat.log2_lt h0).mpr h1) (by decide)
def spErr (C : Addr) (fld : Str) : Sp := fun vs H Q _ => ∃ a x, vs = [.ref a, x] ∧ okV x ∧ H a = some (exo a C none) ∧ ∀ d, H d = none → d ≠ a → Q .non (upd (upd H d (exd d [(fld, x)])) a (exo a C (some d)))
section
variable {P : Program} {w : World} {K : PySem.W.Frag} {mg : Str → Option Value} {base : Heap} {CX : CXT}
theorem okErr {C cc cda f : Addr} {name qual fld : Str} {params : Arguments} {scope : Scope} {fd : FuncData} {ar : Arg} {prm : Str} {p0 p1 p2 pos pos' q0 q1 q2 q3 : Pos} {e : Expr} {te : TE}
    (T : ErrC P K mg C) (hno : PySem.W.findIn K (.ref C) fld = some none)
    (I0 : ErrI P K C cc cda f name qual params [.Expr (.Call (.Attribute (.Call (.Name "super" p0) [] [] p1) "__init__" p2) [e] [] pos) pos', .Assign [.Attribute (.Name "self" q0) fld q1] (.Name prm q2) q3] scope fd)
    (S : NScope ["self", prm, "__class__"] ["self", prm] ["__class__"] scope) (hp : (params.posonlyargs ++ params.args).head? = some ar) (hp0 : ar.arg = "self") (hsup : scope.names.lookup ("super" : Str) = some .globalImplicit)
    (hd : (prm == ("__debug__" : Str)) = false) (hcd : (prm == ("__classdict__" : Str)) = false)
    (he : ∀ env, starEach [e] env = (false, eval e env) :: starEach [] env)
    {pl : Env → Sem Bool} (hmc : ∀ env : Env, eval (.Call (.Attribute (.Call (.Name "super" p0) [] [] p1) "__init__" p2) [e] [] pos) env = (do
      let ov ← attributeBase (.Call (.Name "super" p0) [] [] p1) "__init__" env (eval (.Call (.Name "super" p0) [] [] p1) env)
      standAt p2.atName
      let (f, first) ← holding [ov] (getMethod ov "__init__" (pl env))
      callWith pos f first (backTo pos (starEach [e] env)) []))
    (hsw : ∀ env, swapsWith (.Call (.Attribute (.Call (.Name "super" p0) [] [] p1) "__init__" p2) [e] [] pos) none pos'.line env = pure false)
    (hsw2 : ∀ env, swapsWith (.Name prm q2) (some (.Attribute (.Name "self" q0) fld q1)) q3.line env = pure false)
    (hPE : ∀ X : Cx, X.N[1]? = some prm → Vis X.env.scope prm → PE X e te)
    (hte : ∀ (σ : L2.St) (H : Hp) (Q : VK) (x : V), σ[1]? = some (some x) → okV x → (∀ z, Q (.str z) H) → te σ H Q) :
    FnOk P w K mg base CX 1 f fd ["self", prm] (spErr C fld) := by
  refine fn_of_err T I0 S hp (by rw [hp0]; rfl) hsup (fun vs H Q E h => ?_) he (fun env => rfl) hmc hsw fun A outer s H vs Q E h => ?_
  · obtain ⟨a, x, rfl, _⟩ := h
    rfl
  · obtain ⟨a, x, rfl, hok, hea, k⟩ := h
    refine ⟨tCons te tNil, tOst K fld (tVar 0) (tVar 1), pa_cons (hPE _ rfl (Or.inl (S.par _ (by simp)))) pa_nil (he _), pss_one (ps_ost (pv 0 rfl (Or.inl (S.par _ (by simp)))) (pv 1 rfl (Or.inl (S.par _ (by simp))) hd hcd) (hsw2 _)), a, rfl, hea, ?_⟩
    refine hte _ _ _ x rfl hok fun z => ?_
    refine ⟨by show 1 ≤ 1000; decide, hea, ?_⟩
    exact ⟨x, rfl, _, rfl, a, C, rfl, T.ox, hno, .inl ⟨hea, fun d hd hda => k d hd hda⟩⟩
/-- f"pre{x}" and f"pre{x}suf" -/
theorem te2 {pre : Str} {i : Nat} (hpre : pre.length ≤ 1000) (σ : L2.St) (H : Hp) (Q : VK) (x : V) (hx : σ[i]? = some (some x)) (ho : okV x) (q : ∀ z, Q (.str z) H) :
    tJs [tC (.str pre), tFmt (tVar i)] Str.empty σ H (fun out H1 => Q (.str out) H1) := by
  have hs : ∀ n : Nat, n ≤ 10000 → n ≤ sizeLine := fun n h => by rw [sizeLine_eq]; omega
  have l0 : (Str.empty ++ pre).length ≤ 1000 := by rw [Str.length_append]; show 0 + _ ≤ _; omega
  refine ⟨pre, rfl, hs _ (by omega), x, hx, ?_⟩
  rcases ho with ⟨y, rfl, hy⟩ | ⟨j, rfl, hj⟩
  · exact .inl ⟨y, rfl, hs _ (by omega), y, rfl, hs _ (by rw [Str.length_append]; omega), q _⟩
  · have l1 := int_text_len_1921 hj
    exact .inr ⟨j, rfl, hj, _, rfl, hs _ (by rw [Str.length_append]; exact Nat.le_trans (Nat.add_le_add l0 l1) (by decide)), q _⟩
theorem te3 {pre suf : Str} {i : Nat} (hpre : pre.length ≤ 1000) (hsuf : suf.length ≤ 1000) (σ : L2.St) (H : Hp) (Q : VK) (x : V) (hx : σ[i]? = some (some x)) (ho : okV x) (q : ∀ z, Q (.str z) H) :
    tJs [tC (.str pre), tFmt (tVar i), tC (.str suf)] Str.empty σ H (fun out H1 => Q (.str out) H1) := by
  have hs : ∀ n : Nat, n ≤ 10000 → n ≤ sizeLine := fun n h => by rw [sizeLine_eq]; omega
  have l0 : (Str.empty ++ pre).length ≤ 1000 := by rw [Str.length_append]; show 0 + _ ≤ _; omega
  refine ⟨pre, rfl, hs _ (by omega), x, hx, ?_⟩
  rcases ho with ⟨y, rfl, hy⟩ | ⟨j, rfl, hj⟩
  · have l2 : (Str.empty ++ pre ++ y).length ≤ 2000 := by rw [Str.length_append]; omega
    exact .inl ⟨y, rfl, hs _ (by omega), y, rfl, hs _ (by omega), suf, rfl, hs _ (by rw [Str.length_append]; omega), q _⟩
  · have l1 := int_text_len_1921 hj
    have l2 : (Str.empty ++ pre ++ Str.ofString (toString j)).length ≤ 2921 := by rw [Str.length_append]; omega
    exact .inr ⟨j, rfl, hj, _, rfl, hs _ (Nat.le_trans l2 (by decide)), suf, rfl, hs _ (by rw [Str.length_append]; exact Nat.le_trans (Nat.add_le_add l2 hsuf) (by decide)), q _⟩
end
/-- an own error class, ready to be raised and caught -/
structure EK (P : Program) (w : World) (K : PySem.W.Frag) (mg : Str → Option Value) (base : Heap) (x fld : Str) (C fI : Addr) (fd : FuncData) (ps : List Str) : Prop where
  T : ErrC P K mg C
  g : mg x = some (.ref C)
  iC : PySem.W.findIn K (.ref C) "__init__" = some (some (.ref fI))
  tI : PySem.W.typeIn K (.ref fI) = some (.type "function")
  F1 : FnOk P w K mg base CX0 1 fI fd ps (spErr C fld)
  b : Binds K fd ps []
  nof : PySem.W.findIn K (.ref C) fld = some none
  xf : XfC K C
  isc : ExcC K C
  own : PySem.W.subIn K (.ref C) (.ref C) = some true
theorem EK.exm {P : Program} {w : World} {K : PySem.W.Frag} {mg : Str → Option Value} {base : Heap} {x fld : Str} {C fI : Addr} {fd : FuncData} {ps : List Str} (E : EK P w K mg base x fld C fI fd ps) : PySem.W.exmOne K (.ref C) (.ref C) = some true :=
  PySem.W.exm_ref E.T.ox.exC E.xf.hdC E.T.ox.tyC E.own
section
variable {X : Cx} {W : WX} {x fld : Str} {C fI : Addr} {fd : FuncData} {ps : List Str} {e o : Expr} {te ta : TE} {p pos pos' apos : Pos}
theorem upd_del {fs : List (Str × V)} {H : Hp} {a d : Addr} {o u v : HO} (ha : H a = none) (hda : d ≠ a) : upd (del (upd (upd (upd H a o) d u) a v) a) d (.xd fs) = upd H d (.xd fs) := by
  funext b
  by_cases hb : b = d
  · subst hb; rw [upd_same, upd_same]
  · rw [upd_ne hb, upd_ne hb]
    by_cases hba : b = a
    · subst hba; rw [del_same, ha]
    · rw [del_ne hba, upd_ne hba, upd_ne hb, upd_ne hba]
/-- a reading made to bear a weaker wish -/
def tUp (te : TE) : TE := fun σ H Q => ∃ Q0 : VK, te σ H Q0 ∧ ∀ v H1, Q0 v H1 → Q v H1
theorem pe_up (h : PE X e te) : PE X e (tUp te) := ⟨fun pins s σ H Q I ⟨Q0, q, m⟩ => thn (h.run pins s σ H Q0 I q) fun _ _ ⟨v, H1, J, r, z⟩ => ⟨v, H1, J, r, m _ _ z⟩⟩
/-- raise X(e) -/
def tRaiseE (W : WX) (C : Addr) (fld : Str) (te : TE) : TS := fun _ σ H => te σ H fun v H1 => okV v ∧ ∀ d, H1 d = none → W (.ref C) (some d) σ (upd H1 d (.xd [(fld, v)]))
theorem ps_raiseE (hc : X.calm = true) (E : EK X.prog X.w X.K X.mg X.base x fld C fI fd ps) (hr : Room 2 X.A) (tk : Takes X W) (hg : Gl X x) (he : PE X e te) (hdb : (x == ("__debug__" : Str)) = false := by decide)
    (hst : starEach [e] X.env = (false, eval e X.env) :: starEach [] X.env := by rfl) :
    PS X (.Raise (some (.Call (.Name x p) [e] [] pos)) none pos') (tRaiseE W C fld te) := by
  refine ⟨fun pins s σ H D I h => ?_⟩
  refine (ps_raise hc tk (pmk_oex E.T.ox E.iC E.tI E.F1 hr E.b .nil pass0 hg E.g (pa_cons (pe_up he) pa_nil hst) hdb hst rfl)).run pins s σ H D I ?_
  refine ⟨_, h, fun v H1 ⟨hok, k⟩ => ⟨by show 1 ≤ 1000; decide, fun a ha => ⟨a, v, rfl, hok, upd_same, fun d hd hda => ⟨rfl, d, [(fld, v)], upd_same, by rw [upd_ne hda, upd_same], ?_, ?_⟩⟩⟩⟩
  · rw [upd_ne hda] at hd
    exact hd
  · rw [upd_ne hda] at hd
    rw [upd_del ha hda]
    exact k d hd
/-! ### calls of what may raise, the wish at the slots -/
variable {CX : CXT} {k : Nat} {f : Addr} {sp : Sp} {m : Str} {es : List Expr} {t : TA} {ES : L2.St → XK}
def tMethS (C : Addr) (m : Str) (sp : Sp) (ES : L2.St → XK) (ta : TE) (t : TA) : TE := fun σ H Q => ta σ H fun x H1 => ∃ a dx fs, x = .ref a ∧ H1 a = some (.ins C dx fs) ∧ fs.lookup m = none ∧ t σ H1 fun vs H2 => sp (x :: vs) H2 Q (ES σ)
theorem pe_methS {pl : Sem Bool} (he : PE X o ta) (c : Cls X.K C) (hm : Meth X.K C m f) (F : FnOk X.prog X.w X.K X.mg X.base CX k f fd ps sp) (hr : Room k X.A) (hb : Binds X.K fd ps []) (hx : ∀ σ, PassesAt CX X σ (ES σ)) (ha : PA X (e :: es) t)
    (hst : starEach (e :: es) X.env = (false, eval e X.env) :: starEach es X.env := by rfl) (hpl : (backTo pos (starEach es X.env)).any (·.1) = false := by rfl)
    (ht : eval (.Call (.Attribute o m apos) (e :: es) [] pos) X.env = (do
      let ov ← eval o X.env
      standAt apos.atName
      let (f, first) ← holding [ov] (getMethod ov m pl)
      callWith pos f first (backTo pos (starEach (e :: es) X.env)) (backToKw pos (keywordEach [] X.env))) := by rfl) :
    PE X (.Call (.Attribute o m apos) (e :: es) [] pos) (tMethS C m sp ES ta t) := by
  refine ⟨fun pins s σ H Q I h => ?_⟩
  refine PySem.W.methodCall_KW (pl := pl) (thn (he.run pins s σ H _ I h) fun u s1 ⟨x, H1, I1, rx, a, dx, fs, ex, ea, l, q⟩ => ?_) ht
  subst ex
  obtain rfl : u = Value.ref a := rx
  refine getmeth_ok I1 ea c hm l ?_
  refine PySem.W.callWith_K (first := [.ref a]) (h₀ := X.base) I.ok.mod.kin hm.kp (thn (ha.run pos pins s1 σ H1 _ I1 q) fun us s2 ⟨vs, H2, I2, r, q2⟩ => ⟨I2.kIn, ?_⟩) hst hpl
  exact run_fnS (us := .ref a :: us) (vs := .ref a :: vs) F hr hb (hx σ) I2 (.cons rfl r) q2
theorem pe_meth0S {pl : Sem Bool} (he : PE X o ta) (c : Cls X.K C) (hm : Meth X.K C m f) (F : FnOk X.prog X.w X.K X.mg X.base CX k f fd ps sp) (hr : Room k X.A) (hb : Binds X.K fd ps []) (hx : ∀ σ, PassesAt CX X σ (ES σ))
    (ht : eval (.Call (.Attribute o m apos) [] [] pos) X.env = (do
      let ov ← eval o X.env
      standAt apos.atName
      let (f, first) ← holding [ov] (getMethod ov m pl)
      callWith pos f first (backTo pos (starEach [] X.env)) (backToKw pos (keywordEach [] X.env))) := by rfl) :
    PE X (.Call (.Attribute o m apos) [] [] pos) (tMethS C m sp ES ta tNil) := by
  refine ⟨fun pins s σ H Q I h => ?_⟩
  refine PySem.W.methodCall_KW (pl := pl) (thn (he.run pins s σ H _ I h) fun u s1 ⟨x, H1, I1, rx, a, dx, fs, ex, ea, l, q⟩ => ?_) ht
  subst ex
  obtain rfl : u = Value.ref a := rx
  refine getmeth_ok I1 ea c hm l ?_
  exact PySem.W.callWith_K0 (first := [.ref a]) I1.kIn hm.kp (run_fnS (us := [.ref a]) (vs := [.ref a]) F hr hb (hx σ) I1 (.cons rfl .nil) q)
theorem pe_call0S (F : FnOk X.prog X.w X.K X.mg X.base CX k f fd ps sp) (hr : Room k X.A) (hg : Gl X x) (hm : X.mg x = some (.ref f)) (hk : PySem.W.keepIn X.K (.ref f) = true) (hb : Binds X.K fd ps []) (hx : ∀ σ, PassesAt CX X σ (ES σ))
    (hdb : (x == ("__debug__" : Str)) = false := by decide) : PE X (.Call (.Name x p) [] [] pos) (tCallS sp ES tNil) := by
  refine ⟨fun pins s σ H Q I h => ?_⟩
  refine wpAny_Call_Name_kw (ld_glob I hg hm ?_ hdb)
  exact PySem.W.callWith_K0 I.kIn hk (run_fnS (us := []) (vs := []) F hr hb (hx σ) I .nil h)
theorem run_makeS {pins : List (Addr × Obj)} {σ : L2.St} {H : Hp} {s : Shared} {Q : VK} {us : List Value} {vs : List V} (M : Mk X.K C f) (F : FnOk X.prog X.w X.K X.mg X.base CX k f fd ps sp) (hr : Room (k + 1) X.A) (hb : Binds X.K fd ps []) (hp : ∀ (σ : L2.St), PassesAt CX X σ (ES σ))
    (I : Inv X pins σ H s) (r : Vals vs us) (h : ∀ x dx, H x = none → H dx = none → dx ≠ x → sp (.ref x :: vs) (upd (upd H dx (.own x)) x (.ins C dx [])) (fun v H2 => v = .non ∧ Q (.ref x) H2) (ES σ)) :
    wpAny (model X.prog X.w) X.A (call (.ref C) us) (EP X pins σ Q) X.xe s := by
  have hq := h (s.heap.objs.size + 1) s.heap.objs.size (I.hok.fresh (Nat.le_succ _)) (I.hok.fresh (Nat.le_refl _)) (Nat.ne_of_lt (Nat.lt_succ_self _))
  have I2 := Inv.made (C := C) I
  have r2 : Vals (V.ref (s.heap.objs.size + 1) :: vs) (Value.ref (s.heap.objs.size + 1) :: us) := .cons rfl r
  have hl : (Value.ref (s.heap.objs.size + 1) :: us).length = ps.length := by rw [← r2.length]; exact F.len _ _ _ _ hq
  have b := hb _ (Value.ref (s.heap.objs.size + 1) :: us) I2.kIn (by rw [List.append_nil]; exact hl)
  rw [List.append_nil] at b
  refine wpAny_call (make_map (f := f) I.kIn M.makes M.init (beq_iff_eq.mp M.fn) (codeAny_mono (F.run _ X.stack _ _ ⟨Value.ref (s.heap.objs.size + 1) :: us, []⟩ (Value.ref (s.heap.objs.size + 1) :: us) _ _ (ES σ) (hr.make C us [])
    (I2.env0.make C us []) b r2 hq) fun r s' hq' => ?_))
  cases r with
  | error e => exact hp σ pins _ _ e s' I2 hq'
  | ok fl =>
    cases fl with
    | ret u =>
      obtain ⟨v, H', I3, rv, ev, q3⟩ := I2.after hq'
      subst ev
      exact ⟨rv, ⟨V.ref (s.heap.objs.size + 1), H', I3, rfl, q3⟩⟩
    | next => exact False.elim hq'
    | brk => exact False.elim hq'
    | cont => exact False.elim hq'
def tMakeS (C : Addr) (sp : Sp) (ES : L2.St → XK) (t : TA) : TE := fun σ H Q => t σ H fun vs H1 => ∀ x dx, H1 x = none → H1 dx = none → dx ≠ x → sp (.ref x :: vs) (upd (upd H1 dx (.own x)) x (.ins C dx [])) (fun v H2 => v = .non ∧ Q (.ref x) H2) (ES σ)
theorem pe_makeS (M : Mk X.K C f) (F : FnOk X.prog X.w X.K X.mg X.base CX k f fd ps sp) (hr : Room (k + 1) X.A) (hg : Gl X x) (hm : X.mg x = some (.ref C)) (hb : Binds X.K fd ps []) (hx : ∀ σ, PassesAt CX X σ (ES σ))
    (ha : PA X (e :: es) t) (hdb : (x == ("__debug__" : Str)) = false := by decide) (he : starEach (e :: es) X.env = (false, eval e X.env) :: starEach es X.env := by rfl) (hpl : (backTo pos (starEach es X.env)).any (·.1) = false := by rfl) :
    PE X (.Call (.Name x p) (e :: es) [] pos) (tMakeS C sp ES t) := by
  refine ⟨fun pins s σ H Q I h => ?_⟩
  refine wpAny_Call_Name_kw (ld_glob I hg hm ?_ hdb)
  refine PySem.W.callWith_K (h₀ := X.base) I.ok.mod.kin M.kp (thn (ha.run pos pins s σ H _ I h) fun us s1 ⟨vs, H1, I1, r, q⟩ => ⟨I1.kIn, ?_⟩) he hpl
  exact run_makeS M F hr hb hx I1 r q
theorem pe_make0S (M : Mk X.K C f) (F : FnOk X.prog X.w X.K X.mg X.base CX k f fd ps sp) (hr : Room (k + 1) X.A) (hg : Gl X x) (hm : X.mg x = some (.ref C)) (hb : Binds X.K fd ps []) (hx : ∀ σ, PassesAt CX X σ (ES σ))
    (hdb : (x == ("__debug__" : Str)) = false := by decide) : PE X (.Call (.Name x p) [] [] pos) (tMakeS C sp ES tNil) := by
  refine ⟨fun pins s σ H Q I h => ?_⟩
  refine wpAny_Call_Name_kw (ld_glob I hg hm ?_ hdb)
  exact PySem.W.callWith_K0 I.kIn M.kp (run_makeS (us := []) (vs := []) M F hr hb hx I .nil h)
/-! ### isinstance(e, T), e a caught error that has its dict -/
def rIsED (K : PySem.W.Frag) (D a : Addr) (cls : Value) (d : Option Addr) : List V → Hp → VK → Prop := fun xs H Q => ∃ (c : V) (cv : Value) (b : Bool) (dd : Addr) (fs : List (Str × V)), xs = [.ref a, c] ∧ cls = .ref D ∧ d = some dd ∧ H dd = some (.xd fs) ∧ (∀ u, RelV c u → u = cv) ∧ PySem.W.kitOne K (.ref D) cv = some b ∧ Q (.bl b) H
theorem call_isED {a D : Addr} {oe : Obj} {cls : Value} {d : Option Addr} {pn : List (Addr × Obj)} (C : ExcC X.K D) (hz : Zc cls d oe) (hf : ∃ vs, oe.data = .fields vs) : CallR (X.suite a ((a, oe) :: pn)) (.builtin "isinstance") (rIsED X.K D a cls d) := by
  intro pins s σ H xs us Q I r h
  obtain ⟨c, cv, b, dd, fs, rfl, rfl, rfl, hdd, hcv, e, q⟩ := h
  cases r with
  | cons rx rr =>
    cases rr with
    | cons rt rr =>
      cases rr
      cases rx
      have ec := hcv _ rt
      subst ec
      obtain ⟨hget, _⟩ := I.pin (a, oe) (List.mem_append.mpr (.inl List.mem_cons_self))
      obtain ⟨vs, hv⟩ := hf
      have hx : ObjOk X.prog X.w H s.heap dd (.xd fs) := I.hok dd _ hdd
      obtain ⟨mA, hns, hr⟩ := hx
      obtain ⟨od, ho, hl⟩ := lookIn_ns hns
      have J : PySem.W.InstAt s.heap a oe D (some od) := by
        obtain ⟨oc, od', oda, osl⟩ := oe
        obtain ⟨h1, h2⟩ := hz
        dsimp only at h1 h2 hv
        subst h1 h2 hv
        exact ⟨hget, rfl, rfl, ho⟩
      exact PySem.W.kia_one (PySem.W.kitx_exc (by obtain ⟨cd, hc, _⟩ := PySem.W.any_some C.hd; rw [hc]; rfl) C.hg C.hk C.hs C.ha C.hn C.ht C.hm) I.kIn J e (fun z => nomatch z) fun tk => ⟨.bl b, H, I.kept (t' := tk) fun _ _ z => z, rfl, q⟩
end

/-! ### C(k = v, ..), the parameters keyword-only -/
section
variable {X : Cx} {CX : CXT} {k : Nat} {f C : Addr} {fd : FuncData} {ps ks : List Str} {sp : Sp} {ES : L2.St → XK} {x : Str} {p pos : Pos} {kws : List Keyword} {tk : TA} {gV : List V → List V → List V}
def tMakeKS (C : Addr) (m : Nat) (sp : Sp) (gV : List V → List V → List V) (ES : L2.St → XK) (tk : TA) : TE := fun σ H Q => tk σ H fun zs H2 => zs.length = m ∧ ∀ x dx, H2 x = none → H2 dx = none → dx ≠ x →
  sp (gV [.ref x] zs) (upd (upd H2 dx (.own x)) x (.ins C dx [])) (fun v H3 => v = .non ∧ Q (.ref x) H3) (ES σ)
theorem pe_makeKS (M : Mk X.K C f) (F : FnOk X.prog X.w X.K X.mg X.base CX k f fd ps sp) (hr : Room (k + 1) X.A) (hg : Gl X x) (hm : X.mg x = some (.ref C)) (hbn : ∃ g, KBn X.K fd ps 1 ks g gV) (hx : ∀ σ, PassesAt CX X σ (ES σ)) (hkw : PK X kws tk)
    (hall : (backToKw pos (keywordEach kws X.env)).all (·.1.isSome) = true := by rfl) (hks : (backToKw pos (keywordEach kws X.env)).filterMap (·.1) = ks := by rfl) (hdb : (x == ("__debug__" : Str)) = false := by decide)
    (hpl : ((backTo pos (starEach [] X.env)).any (·.1) || (backToKw pos (keywordEach kws X.env)).any (·.1.isNone)) = false := by rfl) :
    PE X (.Call (.Name x p) [] kws pos) (tMakeKS C ks.length sp gV ES tk) := by
  obtain ⟨g, hb⟩ := hbn
  refine ⟨fun pins s σ H Q I h => ?_⟩
  refine wpAny_Call_Name_kw (ld_glob I hg hm ?_ hdb)
  refine PySem.W.callWith_KW0 (h₀ := X.base) I.ok.mod.kin M.kp hall ?_ hpl
  refine thn (hkw.run pos pins s σ H _ I h) fun ws s2 ⟨zs, H2, I2, rz, l2, q2⟩ => ⟨I2.kIn, ?_⟩
  rw [hks]
  have hq := q2 (s2.heap.objs.size + 1) s2.heap.objs.size (I2.hok.fresh (Nat.le_succ _)) (I2.hok.fresh (Nat.le_refl _)) (Nat.ne_of_lt (Nat.lt_succ_self _))
  have I3 := Inv.made (C := C) I2
  have r1 : Vals [V.ref (s2.heap.objs.size + 1)] [Value.ref (s2.heap.objs.size + 1)] := .cons rfl .nil
  have r2 := hb.rel r1 rz
  refine wpAny_call (make_map (f := f) I2.kIn M.makes M.init (beq_iff_eq.mp M.fn) (codeAny_mono (F.run _ X.stack _ _ ⟨[Value.ref (s2.heap.objs.size + 1)], ks.zip ws⟩ (g [Value.ref (s2.heap.objs.size + 1)] ws) _ _ (ES σ) (hr.make C [] (ks.zip ws))
    (I3.env0.make C [] (ks.zip ws)) (hb.to _ [Value.ref (s2.heap.objs.size + 1)] ws I3.kIn rfl (rz.length.symm.trans l2)) r2 hq) fun r s' hq' => ?_))
  cases r with
  | error e => exact hx σ pins _ _ e s' I3 hq'
  | ok fl =>
    cases fl with
    | ret u =>
      obtain ⟨v, H', I4, rv, ev, q3⟩ := I3.after hq'
      subst ev
      exact ⟨rv, ⟨V.ref (s2.heap.objs.size + 1), H', I4, rfl, q3⟩⟩
    | next => exact False.elim hq'
    | brk => exact False.elim hq'
    | cont => exact False.elim hq'
end
theorem passNo {X : Cx} {σ : L2.St} : PassesAt (L2.CX X.prog X.w) X σ (WE (fun _ _ _ _ => False) σ) := by
  intro pins H s e s' I c
  obtain ⟨_, _, _, _, _, _, _, _, _, _, _, _, z⟩ := c
  exact z.elim
end Sx
set_option Elab.async false
set_option maxRecDepth 100000
set_option maxHeartbeats 4000000
set_option linter.all false
set_option autoImplicit false
/-! Readings, one step a lemma; heaps by footprints. -/
namespace Rd
open PySem PySem.Spec PyProof.Rows L2 Sx
/-! ### promises by the number of arguments -/
def A0 (φ : Hp → VK → XK → Prop) : Sp := fun vs H Q E => vs = [] ∧ φ H Q E
def A1 (φ : V → Hp → VK → XK → Prop) : Sp := fun vs H Q E => ∃ x, vs = [x] ∧ φ x H Q E
def A2 (φ : V → V → Hp → VK → XK → Prop) : Sp := fun vs H Q E => ∃ x y, vs = [x, y] ∧ φ x y H Q E
def A3 (φ : V → V → V → Hp → VK → XK → Prop) : Sp := fun vs H Q E => ∃ x y z, vs = [x, y, z] ∧ φ x y z H Q E
def A4 (φ : V → V → V → V → Hp → VK → XK → Prop) : Sp := fun vs H Q E => ∃ x y z u, vs = [x, y, z, u] ∧ φ x y z u H Q E
def A5 (φ : V → V → V → V → V → Hp → VK → XK → Prop) : Sp := fun vs H Q E => ∃ x y z u w, vs = [x, y, z, u, w] ∧ φ x y z u w H Q E
def A6 (φ : V → V → V → V → V → V → Hp → VK → XK → Prop) : Sp := fun vs H Q E => ∃ x y z u w o, vs = [x, y, z, u, w, o] ∧ φ x y z u w o H Q E
theorem A0.len {φ : Hp → VK → XK → Prop} {vs : List V} {H : Hp} {Q : VK} {E : XK} (h : A0 φ vs H Q E) : vs.length = 0 := by obtain ⟨rfl, _⟩ := h; rfl
theorem A1.len {φ : V → Hp → VK → XK → Prop} {vs : List V} {H : Hp} {Q : VK} {E : XK} (h : A1 φ vs H Q E) : vs.length = 1 := by obtain ⟨_, rfl, _⟩ := h; rfl
theorem A2.len {φ : V → V → Hp → VK → XK → Prop} {vs : List V} {H : Hp} {Q : VK} {E : XK} (h : A2 φ vs H Q E) : vs.length = 2 := by obtain ⟨_, _, rfl, _⟩ := h; rfl
theorem A3.len {φ : V → V → V → Hp → VK → XK → Prop} {vs : List V} {H : Hp} {Q : VK} {E : XK} (h : A3 φ vs H Q E) : vs.length = 3 := by obtain ⟨_, _, _, rfl, _⟩ := h; rfl
theorem A4.len {φ : V → V → V → V → Hp → VK → XK → Prop} {vs : List V} {H : Hp} {Q : VK} {E : XK} (h : A4 φ vs H Q E) : vs.length = 4 := by obtain ⟨_, _, _, _, rfl, _⟩ := h; rfl
theorem A5.len {φ : V → V → V → V → V → Hp → VK → XK → Prop} {vs : List V} {H : Hp} {Q : VK} {E : XK} (h : A5 φ vs H Q E) : vs.length = 5 := by obtain ⟨_, _, _, _, _, rfl, _⟩ := h; rfl
theorem A6.len {φ : V → V → V → V → V → V → Hp → VK → XK → Prop} {vs : List V} {H : Hp} {Q : VK} {E : XK} (h : A6 φ vs H Q E) : vs.length = 6 := by obtain ⟨_, _, _, _, _, _, rfl, _⟩ := h; rfl
theorem a0 {φ : Hp → VK → XK → Prop} {H : Hp} {Q : VK} {E : XK} (h : φ H Q E) : A0 φ [] H Q E := ⟨rfl, h⟩
theorem a1 {φ : V → Hp → VK → XK → Prop} {x : V} {H : Hp} {Q : VK} {E : XK} (h : φ x H Q E) : A1 φ [x] H Q E := ⟨x, rfl, h⟩
theorem a2 {φ : V → V → Hp → VK → XK → Prop} {x y : V} {H : Hp} {Q : VK} {E : XK} (h : φ x y H Q E) : A2 φ [x, y] H Q E := ⟨x, y, rfl, h⟩
theorem a3 {φ : V → V → V → Hp → VK → XK → Prop} {x y z : V} {H : Hp} {Q : VK} {E : XK} (h : φ x y z H Q E) : A3 φ [x, y, z] H Q E := ⟨x, y, z, rfl, h⟩
theorem a4 {φ : V → V → V → V → Hp → VK → XK → Prop} {x y z u : V} {H : Hp} {Q : VK} {E : XK} (h : φ x y z u H Q E) : A4 φ [x, y, z, u] H Q E := ⟨x, y, z, u, rfl, h⟩
theorem a5 {φ : V → V → V → V → V → Hp → VK → XK → Prop} {x y z u w : V} {H : Hp} {Q : VK} {E : XK} (h : φ x y z u w H Q E) : A5 φ [x, y, z, u, w] H Q E := ⟨x, y, z, u, w, rfl, h⟩
theorem a6 {φ : V → V → V → V → V → V → Hp → VK → XK → Prop} {x y z u w o : V} {H : Hp} {Q : VK} {E : XK} (h : φ x y z u w o H Q E) : A6 φ [x, y, z, u, w, o] H Q E := ⟨x, y, z, u, w, o, rfl, h⟩
def A7 (φ : V → V → V → V → V → V → V → Hp → VK → XK → Prop) : Sp := fun vs H Q E => ∃ x0 x1 x2 x3 x4 x5 x6, vs = [x0, x1, x2, x3, x4, x5, x6] ∧ φ x0 x1 x2 x3 x4 x5 x6 H Q E
theorem A7.len {φ : V → V → V → V → V → V → V → Hp → VK → XK → Prop} {vs : List V} {H : Hp} {Q : VK} {E : XK} (h : A7 φ vs H Q E) : vs.length = 7 := by obtain ⟨_, _, _, _, _, _, _, rfl, _⟩ := h; rfl
theorem a7 {φ : V → V → V → V → V → V → V → Hp → VK → XK → Prop} {x0 x1 x2 x3 x4 x5 x6 : V} {H : Hp} {Q : VK} {E : XK} (h : φ x0 x1 x2 x3 x4 x5 x6 H Q E) : A7 φ [x0, x1, x2, x3, x4, x5, x6] H Q E := ⟨x0, x1, x2, x3, x4, x5, x6, rfl, h⟩
def A8 (φ : V → V → V → V → V → V → V → V → Hp → VK → XK → Prop) : Sp := fun vs H Q E => ∃ x0 x1 x2 x3 x4 x5 x6 x7, vs = [x0, x1, x2, x3, x4, x5, x6, x7] ∧ φ x0 x1 x2 x3 x4 x5 x6 x7 H Q E
theorem A8.len {φ : V → V → V → V → V → V → V → V → Hp → VK → XK → Prop} {vs : List V} {H : Hp} {Q : VK} {E : XK} (h : A8 φ vs H Q E) : vs.length = 8 := by obtain ⟨_, _, _, _, _, _, _, _, rfl, _⟩ := h; rfl
theorem a8 {φ : V → V → V → V → V → V → V → V → Hp → VK → XK → Prop} {x0 x1 x2 x3 x4 x5 x6 x7 : V} {H : Hp} {Q : VK} {E : XK} (h : φ x0 x1 x2 x3 x4 x5 x6 x7 H Q E) : A8 φ [x0, x1, x2, x3, x4, x5, x6, x7] H Q E := ⟨x0, x1, x2, x3, x4, x5, x6, x7, rfl, h⟩
def A9 (φ : V → V → V → V → V → V → V → V → V → Hp → VK → XK → Prop) : Sp := fun vs H Q E => ∃ x0 x1 x2 x3 x4 x5 x6 x7 x8, vs = [x0, x1, x2, x3, x4, x5, x6, x7, x8] ∧ φ x0 x1 x2 x3 x4 x5 x6 x7 x8 H Q E
theorem A9.len {φ : V → V → V → V → V → V → V → V → V → Hp → VK → XK → Prop} {vs : List V} {H : Hp} {Q : VK} {E : XK} (h : A9 φ vs H Q E) : vs.length = 9 := by obtain ⟨_, _, _, _, _, _, _, _, _, rfl, _⟩ := h; rfl
theorem a9 {φ : V → V → V → V → V → V → V → V → V → Hp → VK → XK → Prop} {x0 x1 x2 x3 x4 x5 x6 x7 x8 : V} {H : Hp} {Q : VK} {E : XK} (h : φ x0 x1 x2 x3 x4 x5 x6 x7 x8 H Q E) : A9 φ [x0, x1, x2, x3, x4, x5, x6, x7, x8] H Q E := ⟨x0, x1, x2, x3, x4, x5, x6, x7, x8, rfl, h⟩
def A10 (φ : V → V → V → V → V → V → V → V → V → V → Hp → VK → XK → Prop) : Sp := fun vs H Q E => ∃ x0 x1 x2 x3 x4 x5 x6 x7 x8 x9, vs = [x0, x1, x2, x3, x4, x5, x6, x7, x8, x9] ∧ φ x0 x1 x2 x3 x4 x5 x6 x7 x8 x9 H Q E
theorem A10.len {φ : V → V → V → V → V → V → V → V → V → V → Hp → VK → XK → Prop} {vs : List V} {H : Hp} {Q : VK} {E : XK} (h : A10 φ vs H Q E) : vs.length = 10 := by obtain ⟨_, _, _, _, _, _, _, _, _, _, rfl, _⟩ := h; rfl
theorem a10 {φ : V → V → V → V → V → V → V → V → V → V → Hp → VK → XK → Prop} {x0 x1 x2 x3 x4 x5 x6 x7 x8 x9 : V} {H : Hp} {Q : VK} {E : XK} (h : φ x0 x1 x2 x3 x4 x5 x6 x7 x8 x9 H Q E) : A10 φ [x0, x1, x2, x3, x4, x5, x6, x7, x8, x9] H Q E := ⟨x0, x1, x2, x3, x4, x5, x6, x7, x8, x9, rfl, h⟩
def A11 (φ : V → V → V → V → V → V → V → V → V → V → V → Hp → VK → XK → Prop) : Sp := fun vs H Q E => ∃ x0 x1 x2 x3 x4 x5 x6 x7 x8 x9 x10, vs = [x0, x1, x2, x3, x4, x5, x6, x7, x8, x9, x10] ∧ φ x0 x1 x2 x3 x4 x5 x6 x7 x8 x9 x10 H Q E
theorem A11.len {φ : V → V → V → V → V → V → V → V → V → V → V → Hp → VK → XK → Prop} {vs : List V} {H : Hp} {Q : VK} {E : XK} (h : A11 φ vs H Q E) : vs.length = 11 := by obtain ⟨_, _, _, _, _, _, _, _, _, _, _, rfl, _⟩ := h; rfl
theorem a11 {φ : V → V → V → V → V → V → V → V → V → V → V → Hp → VK → XK → Prop} {x0 x1 x2 x3 x4 x5 x6 x7 x8 x9 x10 : V} {H : Hp} {Q : VK} {E : XK} (h : φ x0 x1 x2 x3 x4 x5 x6 x7 x8 x9 x10 H Q E) : A11 φ [x0, x1, x2, x3, x4, x5, x6, x7, x8, x9, x10] H Q E := ⟨x0, x1, x2, x3, x4, x5, x6, x7, x8, x9, x10, rfl, h⟩
def A12 (φ : V → V → V → V → V → V → V → V → V → V → V → V → Hp → VK → XK → Prop) : Sp := fun vs H Q E => ∃ x0 x1 x2 x3 x4 x5 x6 x7 x8 x9 x10 x11, vs = [x0, x1, x2, x3, x4, x5, x6, x7, x8, x9, x10, x11] ∧ φ x0 x1 x2 x3 x4 x5 x6 x7 x8 x9 x10 x11 H Q E
theorem A12.len {φ : V → V → V → V → V → V → V → V → V → V → V → V → Hp → VK → XK → Prop} {vs : List V} {H : Hp} {Q : VK} {E : XK} (h : A12 φ vs H Q E) : vs.length = 12 := by obtain ⟨_, _, _, _, _, _, _, _, _, _, _, _, rfl, _⟩ := h; rfl
theorem a12 {φ : V → V → V → V → V → V → V → V → V → V → V → V → Hp → VK → XK → Prop} {x0 x1 x2 x3 x4 x5 x6 x7 x8 x9 x10 x11 : V} {H : Hp} {Q : VK} {E : XK} (h : φ x0 x1 x2 x3 x4 x5 x6 x7 x8 x9 x10 x11 H Q E) : A12 φ [x0, x1, x2, x3, x4, x5, x6, x7, x8, x9, x10, x11] H Q E := ⟨x0, x1, x2, x3, x4, x5, x6, x7, x8, x9, x10, x11, rfl, h⟩
/-! ### attribute lists -/
theorem putF_hit (f : Str) (v y : V) (r : List (Str × V)) : putF f v ((f, y) :: r) = (f, v) :: r := if_pos rfl
theorem putF_miss {f g : Str} (h : ¬ g = f) (v y : V) (r : List (Str × V)) : putF f v ((g, y) :: r) = (g, y) :: putF f v r := if_neg h
theorem putF_nil (f : Str) (v : V) : putF f v [] = [(f, v)] := rfl
theorem look_hit (f : Str) (y : V) (r : List (Str × V)) : ((f, y) :: r).lookup f = some y := by rw [lookup_put, if_pos rfl]
theorem look_miss {f g : Str} (h : ¬ g = f) (y : V) (r : List (Str × V)) : ((f, y) :: r).lookup g = r.lookup g := by rw [lookup_put, if_neg h]
/-! ### steps -/
section
variable {K : PySem.W.Frag} {D : Ends} {σ : L2.St} {H : Hp} {t u : TS} {te ta tb tc : TE} {tt tu : TT} {g : TG} {Q : VK} {QT : Bool → Hp → Prop} {v x y : V} {i : Nat} {r : R2} {tl tr : TA} {QA : List V → Hp → Prop}
theorem s_seq (h : t { D with nx := u D } σ H) : tSeq t u D σ H := h
theorem s_asg (h : te σ H fun x H1 => g x σ H1 D.nx) : tAsg te g D σ H := h
theorem g_name {R : L2.St → Hp → Prop} (h : R (σ.set i (some v)) H) : gName i v σ H R := h
theorem s_ret (h : te σ H D.rt) : tRet te D σ H := h
theorem s_retN (h : D.rt .non H) : tRetN D σ H := h
theorem s_drop (h : te σ H fun _ H1 => D.nx σ H1) : tDrop te D σ H := h
theorem s_if (h : tt σ H fun b H1 => if b = true then t D σ H1 else u D σ H1) : tIfS tt t u D σ H := h
theorem s_next (h : D.nx σ H) : tNext D σ H := h
theorem s_cont (h : D.ct σ H) : tCont D σ H := h
theorem s_break (h : D.bk σ H) : tBreak D σ H := h
theorem d_nx {a c d : L2.St → Hp → Prop} {b : V → Hp → Prop} (h : a σ H) : (Ends.mk a b c d).nx σ H := h
theorem d_rt {a c d : L2.St → Hp → Prop} {b : V → Hp → Prop} (h : b v H) : (Ends.mk a b c d).rt v H := h
theorem d_bk {a c d : L2.St → Hp → Prop} {b : V → Hp → Prop} (h : c σ H) : (Ends.mk a b c d).bk σ H := h
theorem d_ct {a c d : L2.St → Hp → Prop} {b : V → Hp → Prop} (h : d σ H) : (Ends.mk a b c d).ct σ H := h
def kSet (K : PySem.W.Frag) (f : Str) (y x : V) (H : Hp) (R : Hp → Prop) : Prop := ∃ a C dx fs, x = .ref a ∧ H a = some (.ins C dx fs) ∧ Cls K C ∧ NoAttr K C f ∧ fs.length < 1000 ∧ R (upd H a (.ins C dx (putF f y fs)))
theorem s_fld {f : Str} (h : tb σ H fun y H1 => ta σ H1 fun x H2 => kSet K f y x H2 (D.nx σ)) : sFld K ta tb f D σ H := h
theorem k_set {f : Str} {R : Hp → Prop} {a C dx : Addr} {fs fs' : List (Str × V)} (h : H a = some (.ins C dx fs)) (c : Cls K C) (n : NoAttr K C f) (hp : putF f y fs = fs') (l : fs.length < 1000) (q : R (upd H a (.ins C dx fs'))) : kSet K f y (.ref a) H R := ⟨a, C, dx, fs, rfl, h, c, n, l, hp ▸ q⟩
theorem e_var (h : σ[i]? = some (some v)) (q : Q v H) : tVar i σ H Q := ⟨v, h, q⟩
theorem e_c (q : Q v H) : tC v σ H Q := q
theorem e_op (h : ta σ H fun x H1 => tb σ H1 fun y H2 => r x y H2 Q) : tOp r ta tb σ H Q := h
theorem e_un {ru : V → Hp → VK → Prop} (h : ta σ H fun x H1 => ru x H1 Q) : tUn ru ta σ H Q := h
theorem o_I0 {gg : Int → Int → V} {m n : Int} (q : Q (gg m n) H) : rI0 gg (.int m) (.int n) H Q := ⟨m, n, rfl, rfl, q⟩
theorem o_I {Cc : Int → Int → Prop} {gg : Int → Int → V} {m n : Int} (c : Cc m n) (q : Q (gg m n) H) : rI Cc gg (.int m) (.int n) H Q := ⟨m, n, rfl, rfl, c, q⟩
theorem o_U {gg : Int → V} {m : Int} (q : Q (gg m) H) : rU gg (.int m) H Q := ⟨m, rfl, q⟩
theorem o_eq (s : scal x y = true) (q : Q (.bl (decide (x = y))) H) : rEq x y H Q := ⟨s, q⟩
theorem o_ne (s : scal x y = true) (q : Q (.bl (!decide (x = y))) H) : rNe x y H Q := ⟨s, q⟩
theorem o_ixL {p : Addr} {xs : List V} {n : Int} (h : SqL K H p xs) (a : atI xs n = some v) (q : Q v H) : rIxL K (.ref p) (.int n) H Q := ⟨p, xs, n, v, rfl, rfl, h, a, q⟩
theorem o_ixT {p : Addr} {xs : List V} {n : Int} (h : SqT K H p xs) (a : atI xs n = some v) (q : Q v H) : rIxT K (.ref p) (.int n) H Q := ⟨p, xs, n, v, rfl, rfl, h, a, q⟩
def kFld (K : PySem.W.Frag) (f : Str) (x : V) (H : Hp) (Q : VK) : Prop := ∃ a C dx fs v, x = .ref a ∧ H a = some (.ins C dx fs) ∧ Cls K C ∧ NoAttr K C f ∧ fs.lookup f = some v ∧ Q v H
theorem e_fld {f : Str} (h : ta σ H fun x H1 => kFld K f x H1 Q) : tFld K ta f σ H Q := h
theorem k_fld {f : Str} {a C dx : Addr} {fs : List (Str × V)} (h : H a = some (.ins C dx fs)) (c : Cls K C) (n : NoAttr K C f) (l : fs.lookup f = some v) (q : Q v H) : kFld K f (.ref a) H Q := ⟨a, C, dx, fs, v, rfl, h, c, n, l, q⟩
def kMeth (C : Addr) (m : Str) (sp : Sp) (E : XK) (t : TA) (σ : L2.St) (x : V) (H : Hp) (Q : VK) : Prop := ∃ a dx fs, x = .ref a ∧ H a = some (.ins C dx fs) ∧ fs.lookup m = none ∧ t σ H fun vs H2 => sp (x :: vs) H2 Q E
theorem e_meth {C : Addr} {m : Str} {sp : Sp} {ES : L2.St → XK} (h : ta σ H fun x H1 => kMeth C m sp (ES σ) tl σ x H1 Q) : tMethS C m sp ES ta tl σ H Q := h
theorem k_meth {C a dx : Addr} {m : Str} {sp : Sp} {E : XK} {fs : List (Str × V)} (h : H a = some (.ins C dx fs)) (l : fs.lookup m = none) (q : tl σ H fun vs H2 => sp (.ref a :: vs) H2 Q E) : kMeth C m sp E tl σ (.ref a) H Q := ⟨a, dx, fs, rfl, h, l, q⟩
theorem e_call {sp : Sp} {ES : L2.St → XK} (h : tl σ H fun vs H1 => sp vs H1 Q (ES σ)) : tCallS sp ES tl σ H Q := h
theorem e_make {C : Addr} {sp : Sp} {ES : L2.St → XK} (h : tl σ H fun vs H1 => ∀ x dx, H1 x = none → H1 dx = none → dx ≠ x → sp (.ref x :: vs) (upd (upd H1 dx (.own x)) x (.ins C dx [])) (fun v H2 => v = .non ∧ Q (.ref x) H2) (ES σ)) : tMakeS C sp ES tl σ H Q := h
theorem e_cb {rc : List V → Hp → VK → Prop} (h : tl σ H fun vs H1 => rc vs H1 Q) : tCB rc tl σ H Q := h
theorem l_nil (h : QA [] H) : tNil σ H QA := h
theorem l_cons (h : ta σ H fun x H1 => tl σ H1 fun xs H2 => QA (x :: xs) H2) : tCons ta tl σ H QA := h
theorem e_lst (h : tl σ H fun xs H1 => xs.length ≤ sizeLine ∧ ∀ p, H1 p = none → Q (.ref p) (upd H1 p (.lst xs))) : tLst tl σ H Q := h
theorem e_tup (h : tl σ H fun xs H1 => xs.length ≤ sizeLine ∧ ∀ p, H1 p = none → Q (.ref p) (upd H1 p (.tup xs))) : tTup tl σ H Q := h
theorem e_bm {T : String} {rm : V → List V → Hp → VK → Prop} (h : ta σ H fun x H1 => tyV K T x H1 ∧ tl σ H1 fun xs H2 => rm x xs H2 Q) : tBM K T rm ta tl σ H Q := h
theorem e_bm0 {T : String} {rm : V → List V → Hp → VK → Prop} (h : ta σ H fun x H1 => tyV K T x H1 ∧ rm x [] H1 Q) : tBM0 K T rm ta σ H Q := h
theorem e_not (h : ta σ H fun x H1 => ∃ c, x = .bl c ∧ Q (.bl (!c)) H1) : tNotV ta σ H Q := h
theorem e_if (h : tt σ H fun c H1 => if c = true then ta σ H1 Q else tb σ H1 Q) : tIf tt ta tb σ H Q := h
def kT (x : V) (H : Hp) (QT : Bool → Hp → Prop) : Prop := ∃ k, x = .bl k ∧ QT k H
theorem k_t {b : Bool} (q : QT b H) : kT (.bl b) H QT := ⟨b, rfl, q⟩
theorem t_test (h : te σ H fun x H1 => kT x H1 QT) : tTest te σ H QT := h
theorem t_B (h : te σ H fun x H1 => kT x H1 QT) : tB te σ H QT := h
theorem t_and (h : tt σ H fun c H1 => if c = true then tu σ H1 QT else QT false H1) : tAnd tt tu σ H QT := h
theorem t_or (h : tt σ H fun c H1 => if c = true then QT true H1 else tu σ H1 QT) : tOr tt tu σ H QT := h
theorem t_not (h : tt σ H fun c H1 => QT (!c) H1) : tNot tt σ H QT := h
theorem e_and (h : ta σ H fun x H1 => ∃ c, x = .bl c ∧ if c = true then tb σ H1 Q else Q (.bl false) H1) : tAndV ta tb σ H Q := h
theorem e_or (h : ta σ H fun x H1 => ∃ c, x = .bl c ∧ if c = true then Q (.bl true) H1 else tb σ H1 Q) : tOrV ta tb σ H Q := h
theorem e_chain {r' : R2} (h : ta σ H fun x H1 => tb σ H1 fun y H2 => r x y H2 fun z H3 => kT z H3 fun k H4 => if k = true then tc σ H4 fun w' H5 => r' y w' H5 Q else Q (.bl false) H4) : tChain r r' ta tb tc σ H Q := by
  refine h
theorem s_raise {W : WX} {C : Addr} {fld : Str} (h : te σ H fun v H1 => okV v ∧ ∀ d, H1 d = none → W (.ref C) (some d) σ (upd H1 d (.xd [(fld, v)]))) : tRaiseE W C fld te D σ H := h
theorem e_sl {rs : V → Option Int → Option Int → Hp → VK → Prop} {to th : TO} (h : te σ H fun x H1 => to σ H1 fun l H2 => th σ H2 fun u H3 => rs x l u H3 Q) : tSl rs te to th σ H Q := h
theorem p_no {QO : Option Int → Hp → Prop} (h : QO none H) : tNoPart σ H QO := h
def kI (x : V) (H : Hp) (QO : Option Int → Hp → Prop) : Prop := ∃ n, x = .int n ∧ QO (some n) H
theorem k_i {QO : Option Int → Hp → Prop} {n : Int} (q : QO (some n) H) : kI (.int n) H QO := ⟨n, rfl, q⟩
theorem p_some {QO : Option Int → Hp → Prop} (h : te σ H fun x H1 => kI x H1 QO) : tPart te σ H QO := h
/-! ### ifs -/
theorem if_d {c A B : Prop} [Decidable c] (h1 : c → A) (h2 : ¬ c → B) : if decide c = true then A else B := by
  by_cases h : c
  · rw [if_pos (decide_eq_true h)]; exact h1 h
  · rw [if_neg (by rw [decide_eq_false h]; exact Bool.false_ne_true)]; exact h2 h
theorem if_nd {c A B : Prop} [Decidable c] (h1 : ¬ c → A) (h2 : c → B) : if (!decide c) = true then A else B := by
  by_cases h : c
  · rw [decide_eq_true h]; exact iteF (h2 h)
  · rw [decide_eq_false h]; exact iteT (h1 h)
theorem if_dT {c A B : Prop} [Decidable c] (h : c) (q : A) : if decide c = true then A else B := by rw [if_pos (decide_eq_true h)]; exact q
theorem if_dF {c A B : Prop} [Decidable c] (h : ¬ c) (q : B) : if decide c = true then A else B := if_d (fun z => absurd z h) fun _ => q
theorem if_ndT {c A B : Prop} [Decidable c] (h : ¬ c) (q : A) : if (!decide c) = true then A else B := if_nd (fun _ => q) fun z => absurd z h
theorem if_ndF {c A B : Prop} [Decidable c] (h : c) (q : B) : if (!decide c) = true then A else B := if_nd (fun z => absurd h z) fun _ => q
theorem if_b {b : Bool} {A B : Prop} (h1 : b = true → A) (h2 : b = false → B) : if b = true then A else B := by
  cases b with
  | true => exact iteT (h1 rfl)
  | false => exact iteF (h2 rfl)
end
/-! ### lists of values -/
theorem upd_rw {H : Hp} {a : Addr} {o : HO} (h : H a = some o) : upd H a o = H := by
  funext b
  by_cases hb : b = a
  · rw [hb, upd_same, h]
  · rw [upd_ne hb]
theorem sz {n : Nat} (h : n ≤ 100000) : n ≤ sizeLine := by rw [sizeLine_eq]; omega
theorem szl {n : Nat} (h : n < 100000) : n < sizeLine := by rw [sizeLine_eq]; omega
/-! ### what a step may touch -/
/-- all that was tracked, but at fp, is as it was -/
def Fp (fp : List Addr) (H H' : Hp) : Prop := ∀ b o, H b = some o → b ∉ fp → H' b = some o
theorem Fp.refl (fp : List Addr) (H : Hp) : Fp fp H H := fun _ _ h _ => h
theorem Fp.trans {fp : List Addr} {H H1 H2 : Hp} (a : Fp fp H H1) (b : Fp fp H1 H2) : Fp fp H H2 := fun c o h n => b c o (a c o h n) n
theorem Fp.mono {fp fq : List Addr} {H H' : Hp} (a : Fp fp H H') (s : ∀ x, x ∈ fp → x ∈ fq) : Fp fq H H' := fun c o h n => a c o h fun z => n (s c z)
theorem Fp.new {fp : List Addr} {H : Hp} {a : Addr} {o : HO} (h : H a = none) : Fp fp H (upd H a o) := fun c u e _ => by rw [upd_ne (ne_of_none e h)]; exact e
theorem Fp.at_ {fp : List Addr} {H : Hp} {a : Addr} {o : HO} (h : a ∈ fp) : Fp fp H (upd H a o) := fun c u e n => by
  rw [upd_ne (fun z => n (by rw [z]; exact h))]
  exact e
/-- what was new in H does not count -/
theorem Fp.drop {fp fq : List Addr} {H H' : Hp} (a : Fp fp H H') (s : ∀ x, x ∈ fp → x ∈ fq ∨ H x = none) : Fp fq H H' := fun c o h n => a c o h fun z => by
  rcases s c z with q | q
  · exact n q
  · rw [q] at h; cases h
theorem Fp.free {fp : List Addr} {H H' : Hp} (e : Fp fp H H') {l : Addr} (n : l ∉ fp) (h : H' l = none) : H l = none := by
  cases q : H l with
  | none => rfl
  | some o => rw [e l o q n] at h; cases h
theorem Fp.seq {K : PySem.W.Frag} {fp : List Addr} {H H' : Hp} {a : Addr} {xs : List V} (e : Fp fp H H') (n : a ∉ fp) (h : SqL K H a xs) : SqL K H' a xs := by
  rcases h with (h | ⟨o, h⟩) | h
  · exact .inl (.inl (e _ _ h n))
  · exact .inl (.inr ⟨o, e _ _ h n⟩)
  · exact .inr h
theorem Fp.tup {K : PySem.W.Frag} {fp : List Addr} {H H' : Hp} {a : Addr} {xs : List V} (e : Fp fp H H') (n : a ∉ fp) (h : SqT K H a xs) : SqT K H' a xs := by
  rcases h with (h | ⟨o, h⟩) | h
  · exact .inl (.inl (e _ _ h n))
  · exact .inl (.inr ⟨o, e _ _ h n⟩)
  · exact .inr h

/-! ### built-ins by name -/
section
variable {X : Cx} {K : PySem.W.Frag} {H : Hp} {Q : VK} {v : V}
def rLn (K : PySem.W.Frag) : List V → Hp → VK → Prop := fun xs H Q => ∃ p ys, xs = [.ref p] ∧ (SqL K H p ys ∨ SqT K H p ys) ∧ Q (.int ys.length) H
theorem call_ln : CallR X (.builtin "len") (rLn X.K) := call_len_seq
theorem c_ln {p : Addr} {ys : List V} (h : SqL K H p ys) (q : Q (.int ys.length) H) : rLn K [.ref p] H Q := ⟨p, ys, rfl, .inl h, q⟩
theorem c_lnT {p : Addr} {ys : List V} (h : SqT K H p ys) (q : Q (.int ys.length) H) : rLn K [.ref p] H Q := ⟨p, ys, rfl, .inr h, q⟩
def rAb : List V → Hp → VK → Prop := fun xs H Q => ∃ i, xs = [.int i] ∧ Q (.int (if i < 0 then -i else i)) H
theorem call_ab : CallR X (.builtin "abs") rAb := call_abs
theorem c_ab {i : Int} (q : Q (.int (if i < 0 then -i else i)) H) : rAb [.int i] H Q := ⟨i, rfl, q⟩
def rIn1 : List V → Hp → VK → Prop := fun xs H Q => ∃ i, xs = [.int i] ∧ Q (.int i) H
theorem call_in : CallR X (.type "int") rIn1 := fun pins s σ H xs us Q I r ⟨i, e, q⟩ => call_int1 pins s σ H xs us Q I r (.inl ⟨i, e, q⟩)
theorem c_in {i : Int} (q : Q (.int i) H) : rIn1 [.int i] H Q := ⟨i, rfl, q⟩
def rMx : List V → Hp → VK → Prop := fun xs H Q => ∃ i j, xs = [.int i, .int j] ∧ Q (.int (if j > i then j else i)) H
theorem call_mx (hc : X.calm = true) : CallR X (.builtin "max") rMx := call_max2 hc
theorem c_mx {i j : Int} (q : Q (.int (if j > i then j else i)) H) : rMx [.int i, .int j] H Q := ⟨i, j, rfl, q⟩
def rMn : List V → Hp → VK → Prop := fun xs H Q => ∃ i j, xs = [.int i, .int j] ∧ Q (.int (if j < i then j else i)) H
theorem call_mn (hc : X.calm = true) : CallR X (.builtin "min") rMn := call_min2 hc
theorem c_mn {i j : Int} (q : Q (.int (if j < i then j else i)) H) : rMn [.int i, .int j] H Q := ⟨i, j, rfl, q⟩
def rLs (K : PySem.W.Frag) : List V → Hp → VK → Prop := fun xs H Q => ∃ p ys, xs = [.ref p] ∧ (SqL K H p ys ∨ SqT K H p ys) ∧ ∀ l, H l = none → Q (.ref l) (upd H l (.lst ys))
theorem call_ls : CallR X (.type "list") (rLs X.K) := call_list_of
theorem c_ls {p : Addr} {ys : List V} (h : SqL K H p ys) (q : ∀ l, H l = none → Q (.ref l) (upd H l (.lst ys))) : rLs K [.ref p] H Q := ⟨p, ys, rfl, .inl h, q⟩
theorem c_app {l : Addr} {xs : List V} (h : H l = some (.lst xs)) (z : xs.length < sizeLine) (q : Q .non (upd H l (.lst (xs ++ [v])))) : rAppend (.ref l) [v] H Q := ⟨l, xs, v, rfl, rfl, h, z, q⟩
theorem c_pop0 {l : Addr} {x : V} {xs : List V} (h : H l = some (.lst (x :: xs))) (z : xs.length < 100000) (q : Q x (upd H l (.lst xs))) : rPopAt (.ref l) [.int 0] H Q :=
  ⟨l, x :: xs, 0, 0, x, rfl, rfl, h, by decide, by decide, by
    unfold seqIndex?
    first | rfl | simp, rfl, q⟩
theorem c_setL {p : Addr} {xs : List V} {n : Int} {j : Nat} {R : Hp → Prop} (h : H p = some (.lst xs)) (e : n = (j : Int)) (hj : j < xs.length) (q : R (upd H p (.lst (xs.set j v)))) : rSetL (.ref p) (.int n) v H R := by
  subst e
  exact ⟨p, xs, _, j, rfl, rfl, h, Evl.ixN_nat hj, q⟩
theorem g_sub {to ti : TE} {ts : TSet} {σ : L2.St} {R : L2.St → Hp → Prop} (h : to σ H fun o H1 => ti σ H1 fun i H2 => ts o i v H2 fun H3 => R σ H3) : gSub to ti ts v σ H R := h
theorem o_cat {l b : Addr} {xs zs : List V} (h : H l = some (.lst xs)) (h' : H b = some (.lst zs)) (z : xs.length + zs.length ≤ sizeLine) (q : ∀ p, H p = none → Q (.ref p) (upd H p (.lst (xs ++ zs)))) : rCat (.ref l) (.ref b) H Q := ⟨l, b, xs, zs, rfl, rfl, h, h', z, q⟩
theorem o_slL {a : Addr} {xs : List V} {lo hi : Option Int} (h : SqL K H a xs) (q : ∀ p, H p = none → Q (.ref p) (upd H p (.lst (cutV xs lo hi)))) : rSlL K (.ref a) lo hi H Q := ⟨a, xs, rfl, h, q⟩
/-- data of one level, as PyData -/
def toD : V → PyData
  | .bl b => .bool b
  | .int i => .int i
  | .str x => .str x
  | _ => .none
def flat : V → Bool
  | .non => true | .bl _ => true | .int _ => true | .str x => PyData.strOk x | _ => false
theorem dp_flat {x : V} (h : flat x = true) : Dp K H x (toD x) := by
  cases x with
  | non => exact .non
  | bl b => exact .bl b
  | int i => exact .int i
  | str z => exact .str z
  | byt _ => cases h
  | flt _ => cases h
  | ref _ => cases h
  | ty _ => cases h
theorem dp_flats : ∀ {xs : List V}, (∀ x ∈ xs, flat x = true) → DpAll K H xs (xs.map toD)
  | [], _ => .nil
  | x :: xs, h => .cons (dp_flat (h x List.mem_cons_self)) (dp_flats fun y hy => h y (List.mem_cons_of_mem _ hy))
theorem lay_flat {x : V} (h : flat x = true) : (toD x).canLay0 = true := by
  cases x with
  | str z => show PyData.strOk z = true; exact h
  | non => rfl
  | bl b => rfl
  | int i => rfl
  | byt _ => cases h
  | flt _ => cases h
  | ref _ => cases h
  | ty _ => cases h
theorem lay_flats : ∀ {xs : List V}, (∀ x ∈ xs, flat x = true) → PyData.canLayAll0 (xs.map toD) = true
  | [], _ => rfl
  | x :: xs, h => by
    show ((toD x).canLay0 && PyData.canLayAll0 (xs.map toD)) = true
    rw [lay_flat (h x List.mem_cons_self), lay_flats fun y hy => h y (List.mem_cons_of_mem _ hy)]
    rfl
theorem depth_flat (x : V) : (toD x).depth ≤ 1 := by
  cases x <;> first | decide | (simp [toD, PyData.depth])
theorem depth_flats : ∀ xs : List V, PyData.depthAll (xs.map toD) ≤ 1
  | [] => by simp [PyData.depthAll]
  | x :: xs => by
    have h1 := depth_flat x
    have h2 := depth_flats xs
    show PyData.depthAll (toD x :: xs.map toD) ≤ 1
    simp only [PyData.depthAll]
    omega
theorem shaped_flat {x : V} (h : flat x = true) : SeqAt.shaped (toD x) = true := by
  show ((toD x).canLay0 && decide ((toD x).depth ≤ 64)) = true
  rw [lay_flat h, decide_eq_true (Nat.le_trans (depth_flat x) (by decide))]
  rfl
theorem shaped_flats {xs : List V} (h : ∀ x ∈ xs, flat x = true) : SeqAt.shaped (.list (xs.map toD)) = true := by
  have d1 := depth_flats xs
  show (PyData.canLay0 (.list (xs.map toD)) && decide (PyData.depth (.list (xs.map toD)) ≤ 64)) = true
  have e1 : PyData.canLay0 (.list (xs.map toD)) = PyData.canLayAll0 (xs.map toD) := by simp only [PyData.canLay0]
  have e2 : PyData.depth (.list (xs.map toD)) ≤ 64 := by simp only [PyData.depth]; omega
  rw [e1, lay_flats h, decide_eq_true e2]
  rfl
theorem shaped_flatT {xs : List V} (h : ∀ x ∈ xs, flat x = true) : SeqAt.shaped (.tuple (xs.map toD)) = true := by
  have d1 := depth_flats xs
  show (PyData.canLay0 (.tuple (xs.map toD)) && decide (PyData.depth (.tuple (xs.map toD)) ≤ 64)) = true
  have e1 : PyData.canLay0 (.tuple (xs.map toD)) = PyData.canLayAll0 (xs.map toD) := by simp only [PyData.canLay0]
  have e2 : PyData.depth (.tuple (xs.map toD)) ≤ 64 := by simp only [PyData.depth]; omega
  rw [e1, lay_flats h, decide_eq_true e2]
  rfl
/-- the same data on both sides -/
theorem eqv_self {d : PyData} (h : SeqAt.shaped d = true) : PyData.eqv d d = true := by
  have h1 : d.canLay0 = true := SeqAt.canLay_of_shaped h
  first | exact SeqAt.eqv_refl d h1 | exact P3.eqv_refl d h1 | exact eqv_refl d h1
theorem o_eqD {x y : V} {d : PyData} (h1 : Dp K H x d) (h2 : Dp K H y d) (s : SeqAt.shaped d = true) (q : Q (.bl true) H) : rEqD K x y H Q := ⟨d, d, h1, h2, s, s, by rw [eqv_self s]; exact q⟩
theorem o_neD {x y : V} {d : PyData} (h1 : Dp K H x d) (h2 : Dp K H y d) (s : SeqAt.shaped d = true) (q : Q (.bl false) H) : rNeD K x y H Q := ⟨d, d, h1, h2, s, s, by rw [eqv_self s]; exact q⟩
/-- two lists of plain values that are one list -/
theorem o_neL {a b : Addr} {xs : List V} (h1 : SqL K H a xs) (h2 : SqL K H b xs) (f : ∀ x ∈ xs, flat x = true) (q : Q (.bl false) H) : rNeD K (.ref a) (.ref b) H Q :=
  o_neD (.lst h1 (dp_flats f)) (.lst h2 (dp_flats f)) (shaped_flats f) q
theorem o_eqL {a b : Addr} {xs : List V} (h1 : SqL K H a xs) (h2 : SqL K H b xs) (f : ∀ x ∈ xs, flat x = true) (q : Q (.bl true) H) : rEqD K (.ref a) (.ref b) H Q :=
  o_eqD (.lst h1 (dp_flats f)) (.lst h2 (dp_flats f)) (shaped_flats f) q
theorem o_neT {a b : Addr} {xs : List V} (h1 : SqT K H a xs) (h2 : SqT K H b xs) (f : ∀ x ∈ xs, flat x = true) (q : Q (.bl false) H) : rNeD K (.ref a) (.ref b) H Q :=
  o_neD (.tup h1 (dp_flats f)) (.tup h2 (dp_flats f)) (shaped_flatT f) q
theorem flat_ints (ns : List Int) : ∀ x ∈ ns.map V.int, flat x = true := fun x hx => by
  obtain ⟨n, _, rfl⟩ := List.mem_map.mp hx
  rfl
end

/-! ### loops and comprehensions -/
section
variable {K : PySem.W.Frag} {D : Ends} {σ : L2.St} {H : Hp} {tb : TS} {te tl : TE} {tt tc : TT} {g : TG} {Q : VK} {j : Nat} {b : Addr} {xs ys : List V} {vs : List Nat}
theorem f_list (Pv : Nat → L2.St → Hp → Prop) (hv : σ[j]? = some (some (.ref b))) (hS : SqL K H b xs) (h0 : Pv 0 σ H) (hl : ∀ i σ' H', i ≤ xs.length → Pv i σ' H' → SqL K H' b xs)
    (hs : ∀ i x σ' H', xs[i]? = some x → Pv i σ' H' → g x σ' H' fun σ2 H2 => tb { D with nx := Pv (i + 1), ct := Pv (i + 1), bk := D.nx } σ2 H2) (hd : ∀ σ' H', Pv xs.length σ' H' → D.nx σ' H') : tFor (iList K (tVar j)) g tb D σ H :=
  ⟨_, hv, b, rfl, ⟨_, hS⟩, for_list Pv h0 hl hs hd⟩
/-- over a list that an expression hands back -/
theorem f_listE (h : tl σ H fun x H1 => ∃ (p : Addr) (xs : List V) (Pv : Nat → L2.St → Hp → Prop), x = .ref p ∧ SqL K H1 p xs ∧ Pv 0 σ H1 ∧ (∀ i σ' H', i ≤ xs.length → Pv i σ' H' → SqL K H' p xs) ∧
    (∀ i x σ' H', xs[i]? = some x → Pv i σ' H' → g x σ' H' fun σ2 H2 => tb { D with nx := Pv (i + 1), ct := Pv (i + 1), bk := D.nx } σ2 H2) ∧ ∀ σ' H', Pv xs.length σ' H' → D.nx σ' H') (up : ∀ R R' : VK, (∀ x H1, R x H1 → R' x H1) → tl σ H R → tl σ H R') : tFor (iList K tl) g tb D σ H :=
  up _ _ (fun _ _ ⟨p, xs, Pv, e, hS, h0, hl, hs, hd⟩ => ⟨p, e, ⟨xs, hS⟩, for_list Pv h0 hl hs hd⟩) h
/-- over the first n of a list -/
theorem f_listS {n : Int} (hv : σ[j]? = some (some (.ref b))) (hS : SqL K H b xs)
    (h : ∀ c, H c = none → ∃ Pv : Nat → L2.St → Hp → Prop, Pv 0 σ (upd H c (.lst (cutV xs none (some n)))) ∧ (∀ i σ' H', i ≤ (cutV xs none (some n)).length → Pv i σ' H' → SqL K H' c (cutV xs none (some n))) ∧
      (∀ i x σ' H', (cutV xs none (some n))[i]? = some x → Pv i σ' H' → g x σ' H' fun σ2 H2 => tb { D with nx := Pv (i + 1), ct := Pv (i + 1), bk := D.nx } σ2 H2) ∧ ∀ σ' H', Pv (cutV xs none (some n)).length σ' H' → D.nx σ' H') :
    tFor (iList K (tSl (rSlL K) (tVar j) tNoPart (tPart (tC (.int n))))) g tb D σ H := by
  show tSl (rSlL K) (tVar j) tNoPart (tPart (tC (.int n))) σ H _
  refine e_sl (e_var hv (p_no (p_some (e_c (k_i (o_slL hS fun c hc => ?_))))))
  obtain ⟨Pv, h0, hl, hs, hd⟩ := h c hc
  exact ⟨c, rfl, ⟨_, Or.inl (Or.inl upd_same)⟩, for_list Pv h0 hl hs hd⟩
theorem Fp.add {fp : List Addr} {H H1 H2 : Hp} (F : Fp [] H H1) (f : Fp fp H1 H2) (n : ∀ z ∈ fp, H z = none) : Fp [] H H2 := fun c o h m => f c o (F c o h (by simp)) fun z => by rw [n c z] at h; cases h
/-- for i in range(n) -/
def kRng (g : TG) (tb : TS) (D : Ends) (σ : L2.St) (x : V) (H1 : Hp) : Prop := iRng1 (fun _ _ R => R [x] H1) σ H1 fun J H1 => ∃ W : Nat → Nat → L2.St → Hp → Prop, (∃ m, W 0 m σ H1) ∧ ∀ i m σ H, W i m σ H →
  (J.stop i H ∧ D.nx σ H) ∨ (J.go i H ∧ ∃ N : L2.St → Hp → Prop, (∀ σ' H', N σ' H' → ∃ m', m' < m ∧ W (i + 1) m' σ' H') ∧ ∀ x H', J.yld i H x H' → g x σ H' fun σ2 H2 => tb { D with nx := N, ct := N, bk := D.nx } σ2 H2)
theorem f_rng1 (h : te σ H fun x H1 => kRng g tb D σ x H1) : tFor (iRng1 (tCons te tNil)) g tb D σ H := h
theorem k_rng (Pv : Nat → L2.St → Hp → Prop) {n : Int} (h1 : -(2 ^ 62) ≤ n) (h2 : n < 2 ^ 62) (h0 : Pv 0 σ H)
    (hs : ∀ i σ' H', i < n.toNat → Pv i σ' H' → g (.int (i : Nat)) σ' H' fun σ2 H2 => tb { D with nx := Pv (i + 1), ct := Pv (i + 1), bk := D.nx } σ2 H2) (hd : ∀ σ' H', Pv n.toNat σ' H' → D.nx σ' H') : kRng g tb D σ (.int n) H :=
  ⟨n, rfl, h1, h2, for_range (lo := 0) (n := n.toNat) Pv h0 (fun i σ' H' hi p => by
    have e0 : (0 : Int) + (i : Int) = (i : Int) := Int.zero_add _
    rw [e0]
    exact hs i σ' H' hi p) hd⟩
theorem w_by (W : Nat → L2.St → Hp → Prop) (m0 : Nat) (h0 : W m0 σ H) (hs : ∀ m σ' H', W m σ' H' → tc σ' H' fun k H1 => if k = true then ∃ N : L2.St → Hp → Prop, (∀ σ2 H2, N σ2 H2 → ∃ m', m' < m ∧ W m' σ2 H2) ∧ tb { D with nx := N, ct := N, bk := D.nx } σ' H1 else D.nx σ' H1) :
    tWhile tc tb D σ H := ⟨W, ⟨m0, h0⟩, hs⟩
theorem take_snoc {α : Type} {l : List α} {i : Nat} {x : α} (h : l[i]? = some x) : l.take (i + 1) = l.take i ++ [x] := by
  obtain ⟨hi, rfl⟩ := List.getElem?_eq_some_iff.mp h
  rw [List.take_succ, List.getElem?_eq_getElem hi]
  rfl
/-- [e for x in xs], e without a trace in the heap -/
theorem lc_pure (hv : σ[j]? = some (some (.ref b))) (hS : SqL K H b xs) (hlen : ys.length = xs.length) (hz : xs.length < 100000)
    (hs : ∀ (E : Addr) (i : Nat) (x y : V) (H' : Hp) (R : VK), H E = none → xs[i]? = some x → ys[i]? = some y → H' = upd H E (.lst (ys.take i)) → R y H' → g x (wipe σ vs) H' fun σ2 H2 => wipe σ2 vs = wipe σ vs ∧ te σ2 H2 R)
    (q : ∀ E, H E = none → Q (.ref E) (upd H E (.lst ys))) : tLc (iList K (tVar j)) g tYes te vs σ H Q := by
  refine ⟨_, hv, b, rfl, ⟨_, hS⟩, fun E hE => ?_⟩
  refine lc_list (K := K) (a := b) (xs := xs) (fun i H' => H' = upd H E (.lst (ys.take i))) (by rw [List.take_zero]) (fun i H' hi e => ?_) (fun i x H' hx e => ?_) fun H' e => ?_
  · subst e; exact (Fp.new (fp := []) hE).seq (by simp) hS
  · have hi : i < xs.length := (List.getElem?_eq_some_iff.mp hx).1
    have hy : ys[i]? = some ys[i] := List.getElem?_eq_getElem (by omega)
    have z := hs E i x _ H' (fun y H4 => ∃ acc, H4 E = some (.lst acc) ∧ acc.length < sizeLine ∧ upd H4 E (.lst (acc ++ [y])) = upd H E (.lst (ys.take (i + 1)))) hE hx hy e
      ⟨ys.take i, by rw [e]; exact upd_same, szl (by rw [List.length_take]; omega), by rw [e, upd_upd, take_snoc hy]⟩
    exact z
  · rw [e, ← hlen, List.take_length]
    exact q E hE
theorem lc_pureR {n : Int} (h1 : 0 ≤ n) (h2 : n < 100000) (hlen : (ys.length : Int) = n)
    (hs : ∀ (E : Addr) (i : Nat) (y : V) (H' : Hp) (R : VK), H E = none → (i : Int) < n → ys[i]? = some y → H' = upd H E (.lst (ys.take i)) → R y H' → g (.int (i : Nat)) (wipe σ vs) H' fun σ2 H2 => wipe σ2 vs = wipe σ vs ∧ te σ2 H2 R)
    (q : ∀ E, H E = none → Q (.ref E) (upd H E (.lst ys))) : (iRng1 (fun _ _ R => R [V.int n] H)) σ H fun J H1 => ∀ E, H1 E = none → ∃ W : Nat → Nat → Hp → Prop, (∃ m, W 0 m (upd H1 E (.lst []))) ∧ ∀ i m H, W i m H →
    (J.stop i H ∧ Q (.ref E) H) ∨ (J.go i H ∧ ∃ Nx : Hp → Prop, (∀ H', Nx H' → ∃ m', m' < m ∧ W (i + 1) m' H') ∧ ∀ x H', J.yld i H x H' → g x (wipe σ vs) H' fun σ2 H2 => wipe σ2 vs = wipe σ vs ∧ tYes σ2 H2 fun b H3 =>
      if b = true then te σ2 H3 fun y H4 => ∃ acc, H4 E = some (.lst acc) ∧ acc.length < sizeLine ∧ Nx (upd H4 E (.lst (acc ++ [y]))) else Nx H3) := by
  refine ⟨n, rfl, by omega, by omega, fun E hE => ?_⟩
  refine lc_range (lo := 0) (n := n.toNat) (fun i H' => H' = upd H E (.lst (ys.take i))) (by rw [List.take_zero]) (fun i H' hi e => ?_) fun H' e => ?_
  · have hy : ys[i]? = some ys[i] := List.getElem?_eq_getElem (by omega)
    have e0 : (0 : Int) + (i : Int) = (i : Int) := Int.zero_add _
    rw [e0]
    exact hs E i _ H' (fun y H4 => ∃ acc, H4 E = some (.lst acc) ∧ acc.length < sizeLine ∧ upd H4 E (.lst (acc ++ [y])) = upd H E (.lst (ys.take (i + 1)))) hE (by omega) hy e
      ⟨ys.take i, by rw [e]; exact upd_same, szl (by rw [List.length_take]; omega), by rw [e, upd_upd, take_snoc hy]⟩
  · have : n.toNat = ys.length := by omega
    rw [e, this, List.take_length]
    exact q E hE
def kLcR (g : TG) (te : TE) (vs : List Nat) (σ : L2.St) (Q : VK) (x : V) (H : Hp) : Prop := (iRng1 (fun _ _ R => R [x] H)) σ H fun J H1 => ∀ E, H1 E = none → ∃ W : Nat → Nat → Hp → Prop, (∃ m, W 0 m (upd H1 E (.lst []))) ∧ ∀ i m H, W i m H →
    (J.stop i H ∧ Q (.ref E) H) ∨ (J.go i H ∧ ∃ Nx : Hp → Prop, (∀ H', Nx H' → ∃ m', m' < m ∧ W (i + 1) m' H') ∧ ∀ x H', J.yld i H x H' → g x (wipe σ vs) H' fun σ2 H2 => wipe σ2 vs = wipe σ vs ∧ tYes σ2 H2 fun b H3 =>
      if b = true then te σ2 H3 fun y H4 => ∃ acc, H4 E = some (.lst acc) ∧ acc.length < sizeLine ∧ Nx (upd H4 E (.lst (acc ++ [y]))) else Nx H3)
theorem fm_snoc {α : Type} {f : α → Option V} {l : List α} {i : Nat} {x : α} (h : l[i]? = some x) : (l.take (i + 1)).filterMap f = (l.take i).filterMap f ++ (f x).toList := by
  rw [take_snoc h, List.filterMap_append]
  cases e : f x <;> simp [e]
/-- [e for x in xs if t], where t and e may make new objects -/
theorem lc_filt (f : V → Option V) (hv : σ[j]? = some (some (.ref b))) (hS : SqL K H b xs) (hz : xs.length < 100000)
    (hs : ∀ (E : Addr) (i : Nat) (x : V) (H' : Hp) (R : VK) (N : Hp → Prop), H E = none → xs[i]? = some x → H' E = some (.lst ((xs.take i).filterMap f)) → Fp [] H H' → (∀ y H4, f x = some y → Fp [] H' H4 → R y H4) → (f x = none → ∀ H4, Fp [] H' H4 → N H4) →
      g x (wipe σ vs) H' fun σ2 H2 => wipe σ2 vs = wipe σ vs ∧ tt σ2 H2 fun k H3 => if k = true then te σ2 H3 R else N H3)
    (q : ∀ E H', H E = none → H' E = some (.lst (xs.filterMap f)) → Fp [] H H' → Q (.ref E) H') : tLc (iList K (tVar j)) g tt te vs σ H Q := by
  refine ⟨_, hv, b, rfl, ⟨_, hS⟩, fun E hE => ?_⟩
  refine lc_list (K := K) (a := b) (xs := xs) (fun i H' => H' E = some (.lst ((xs.take i).filterMap f)) ∧ Fp [] H H') ⟨by rw [List.take_zero]; exact upd_same, Fp.new hE⟩ (fun i H' hi e => ?_) (fun i x H' hx e => ?_) fun H' e => ?_
  · exact e.2.seq (by simp) hS
  · have hi : i < xs.length := (List.getElem?_eq_some_iff.mp hx).1
    exact hs E i x H' (fun y H4 => ∃ acc, H4 E = some (.lst acc) ∧ acc.length < sizeLine ∧ (upd H4 E (.lst (acc ++ [y]))) E = some (.lst ((xs.take (i + 1)).filterMap f)) ∧ Fp [] H (upd H4 E (.lst (acc ++ [y])))) (fun H4 => H4 E = some (.lst ((xs.take (i + 1)).filterMap f)) ∧ Fp [] H H4) hE hx e.1 e.2
      (fun y H4 ey f4 => ⟨_, f4 _ _ e.1 (by simp), szl (Nat.lt_of_le_of_lt (List.length_filterMap_le _ _) (by rw [List.length_take]; omega)), by rw [upd_same, fm_snoc hx, ey]; rfl, Fp.drop (fp := [E]) (((e.2.trans f4).mono (by simp)).trans (Fp.at_ (by simp))) fun z hz => by rcases List.mem_singleton.mp hz with rfl; exact .inr hE⟩)
      (fun ey H4 f4 => ⟨by rw [fm_snoc hx, ey]; simpa using f4 _ _ e.1 (by simp), e.2.trans f4⟩)
  · rw [List.take_length] at e
    exact q E H' hE e.1 e.2
def kLcF (g : TG) (tt : TT) (te : TE) (vs : List Nat) (σ : L2.St) (Q : VK) (x : V) (H : Hp) : Prop := (iRng1 (fun _ _ R => R [x] H)) σ H fun J H1 => ∀ E, H1 E = none → ∃ W : Nat → Nat → Hp → Prop, (∃ m, W 0 m (upd H1 E (.lst []))) ∧ ∀ i m H, W i m H →
    (J.stop i H ∧ Q (.ref E) H) ∨ (J.go i H ∧ ∃ Nx : Hp → Prop, (∀ H', Nx H' → ∃ m', m' < m ∧ W (i + 1) m' H') ∧ ∀ x H', J.yld i H x H' → g x (wipe σ vs) H' fun σ2 H2 => wipe σ2 vs = wipe σ vs ∧ tt σ2 H2 fun b H3 =>
      if b = true then te σ2 H3 fun y H4 => ∃ acc, H4 E = some (.lst acc) ∧ acc.length < sizeLine ∧ Nx (upd H4 E (.lst (acc ++ [y]))) else Nx H3)
theorem e_lcF (h : tl σ H fun x H1 => kLcF g tt te vs σ Q x H1) : tLc (iRng1 (tCons tl tNil)) g tt te vs σ H Q := h
theorem fm_range {f : Nat → Option V} {i : Nat} : (List.range (i + 1)).filterMap f = (List.range i).filterMap f ++ (f i).toList := by
  rw [List.range_succ, List.filterMap_append]
  cases e : f i <;> simp [e]
/-- [e for i in range(n) if t] -/
theorem k_lcF {n : Int} (f : Nat → Option V) (h1 : 0 ≤ n) (h2 : n < 100000)
    (hs : ∀ (E : Addr) (i : Nat) (H' : Hp) (R : VK) (N : Hp → Prop), H E = none → (i : Int) < n → H' E = some (.lst ((List.range i).filterMap f)) → Fp [] H H' → (∀ y H4, f i = some y → Fp [] H' H4 → R y H4) → (f i = none → ∀ H4, Fp [] H' H4 → N H4) →
      g (.int (i : Nat)) (wipe σ vs) H' fun σ2 H2 => wipe σ2 vs = wipe σ vs ∧ tt σ2 H2 fun k H3 => if k = true then te σ2 H3 R else N H3)
    (q : ∀ E H', H E = none → H' E = some (.lst ((List.range n.toNat).filterMap f)) → Fp [] H H' → Q (.ref E) H') : kLcF g tt te vs σ Q (.int n) H := by
  refine ⟨n, rfl, by omega, by omega, fun E hE => ?_⟩
  refine lc_range (lo := 0) (n := n.toNat) (fun i H' => H' E = some (.lst ((List.range i).filterMap f)) ∧ Fp [] H H') ⟨upd_same, Fp.new hE⟩ (fun i H' hi e => ?_) fun H' e => q E H' hE e.1 e.2
  have e0 : (0 : Int) + (i : Int) = (i : Int) := Int.zero_add _
  rw [e0]
  exact hs E i H' (fun y H4 => ∃ acc, H4 E = some (.lst acc) ∧ acc.length < sizeLine ∧ (upd H4 E (.lst (acc ++ [y]))) E = some (.lst ((List.range (i + 1)).filterMap f)) ∧ Fp [] H (upd H4 E (.lst (acc ++ [y])))) (fun H4 => H4 E = some (.lst ((List.range (i + 1)).filterMap f)) ∧ Fp [] H H4) hE (by omega) e.1 e.2
    (fun y H4 ey f4 => ⟨_, f4 _ _ e.1 (by simp), szl (Nat.lt_of_le_of_lt (List.length_filterMap_le _ _) (by rw [List.length_range]; omega)), by rw [upd_same, fm_range, ey]; rfl, Fp.drop (fp := [E]) (((e.2.trans f4).mono (by simp)).trans (Fp.at_ (by simp))) fun z hz => by rcases List.mem_singleton.mp hz with rfl; exact .inr hE⟩)
    (fun ey H4 f4 => ⟨by rw [fm_range, ey]; simpa using f4 _ _ e.1 (by simp), e.2.trans f4⟩)
theorem e_lcR (h : tl σ H fun x H1 => kLcR g te vs σ Q x H1) : tLc (iRng1 (tCons tl tNil)) g tYes te vs σ H Q := h
theorem k_lcR {n : Int} (h1 : 0 ≤ n) (h2 : n < 100000) (hlen : (ys.length : Int) = n)
    (hs : ∀ (E : Addr) (i : Nat) (y : V) (H' : Hp) (R : VK), H E = none → (i : Int) < n → ys[i]? = some y → H' = upd H E (.lst (ys.take i)) → R y H' → g (.int (i : Nat)) (wipe σ vs) H' fun σ2 H2 => wipe σ2 vs = wipe σ vs ∧ te σ2 H2 R)
    (q : ∀ E, H E = none → Q (.ref E) (upd H E (.lst ys))) : kLcR g te vs σ Q (.int n) H := lc_pureR h1 h2 hlen hs q
end

theorem atI_zero {α : Type} (x : α) (xs : List α) : atI (x :: xs) 0 = some x := by
  have h : (x :: xs)[0]? = some x := rfl
  exact atI_nat (j := 0) h
theorem int_inj {i j : Int} (h : V.int i = V.int j) : i = j := V.int.inj h
theorem int_ne {i j : Int} (h : ¬ V.int i = V.int j) : i ≠ j := fun z => h (by rw [z])

theorem k_ty {K : PySem.W.Frag} {H : Hp} {p : Addr} {xs : List V} {R : Prop} (h : SqL K H p xs) (q : R) : tyV K "list" (.ref p) H ∧ R := ⟨Or.inl ⟨rfl, xs, h⟩, q⟩

theorem o_rep {K : PySem.W.Frag} {H : Hp} {Q : VK} {l : Addr} {n : Int} {xs : List V} (h : H l = some (.lst xs)) (h1 : 0 ≤ n) (h2 : xs.length * n.toNat ≤ 100000) (h3 : n < 2 ^ 63) (q : ∀ p, H p = none → Q (.ref p) (upd H p (.lst (List.replicate n.toNat xs).flatten))) : rRep (.ref l) (.int n) H Q :=
  ⟨l, n, xs, rfl, rfl, h, by omega, h3, sz h2, q⟩

theorem c_isBool {K : PySem.W.Frag} {H : Hp} {Q : VK} {b : Bool} (q : Q (.bl true) H) : rIsi K [.bl b, .ty "bool"] H Q := ⟨.bl b, .ty "bool", .type "bool", .type "bool", true, rfl, .ty _, .base (.bl b), kit_ty (by decide +kernel), q⟩
theorem c_isInt {K : PySem.W.Frag} {H : Hp} {Q : VK} {n : Int} (q : Q (.bl true) H) : rIsi K [.int n, .ty "int"] H Q := ⟨.int n, .ty "int", .type "int", .type "int", true, rfl, .ty _, .base (.int n), kit_ty (by decide +kernel), q⟩
theorem c_isBoolN {K : PySem.W.Frag} {H : Hp} {Q : VK} {n : Int} (q : Q (.bl false) H) : rIsi K [.int n, .ty "bool"] H Q := ⟨.int n, .ty "bool", .type "int", .type "bool", false, rfl, .ty _, .base (.int n), kit_ty (by decide +kernel), q⟩
theorem c_isList {K : PySem.W.Frag} {H : Hp} {Q : VK} {a : Addr} {xs : List V} (h : H a = some (.lst xs)) (q : Q (.bl true) H) : rIsi K [.ref a, .ty "list"] H Q := ⟨.ref a, .ty "list", .type "list", .type "list", true, rfl, .ty _, .base (.lst h), kit_ty (by decide +kernel), q⟩
theorem c_isTup {K : PySem.W.Frag} {H : Hp} {Q : VK} {a : Addr} {xs : List V} (h : H a = some (.tup xs)) (q : Q (.bl true) H) : rIsi K [.ref a, .ty "tuple"] H Q := ⟨.ref a, .ty "tuple", .type "tuple", .type "tuple", true, rfl, .ty _, .base (.tup h), kit_ty (by decide +kernel), q⟩
theorem c_isTupB {K : PySem.W.Frag} {H : Hp} {Q : VK} {a : Addr} {xs : List V} (h : H a = some (.tup xs)) (q : Q (.bl false) H) : rIsi K [.ref a, .ty "bool"] H Q := ⟨.ref a, .ty "bool", .type "tuple", .type "bool", false, rfl, .ty _, .base (.tup h), kit_ty (by decide +kernel), q⟩
/-- is True, is False -/
def rIsB : V → V → Hp → VK → Prop := fun x y H Q => ∃ a b, x = .bl a ∧ y = .bl b ∧ Q (.bl (decide (a = b))) H
def rNotB : V → V → Hp → VK → Prop := fun x y H Q => ∃ a b, x = .bl a ∧ y = .bl b ∧ Q (.bl (!decide (a = b))) H
theorem bo_beq (a b : Bool) : (Value.bool a == Value.bool b) = decide (a = b) := by cases a <;> cases b <;> decide +kernel
theorem op_isB {X : Cx} : OpR X (compareOp .Is) rIsB := by
  intro pins s σ H x y v u Q I rx ry h
  obtain ⟨a, b, rfl, rfl, q⟩ := h
  cases (show v = Value.bool a from rx)
  cases (show u = Value.bool b from ry)
  exact wpAny_is_plain rfl (fin_bl I q (bo_beq a b).symm)
theorem op_notB {X : Cx} : OpR X (compareOp .IsNot) rNotB := by
  intro pins s σ H x y v u Q I rx ry h
  obtain ⟨a, b, rfl, rfl, q⟩ := h
  cases (show v = Value.bool a from rx)
  cases (show u = Value.bool b from ry)
  exact wpAny_isNot_plain rfl (fin_bl I q (congrArg not (bo_beq a b).symm))
theorem o_isB {H : Hp} {Q : VK} {a b : Bool} (q : Q (.bl (decide (a = b))) H) : rIsB (.bl a) (.bl b) H Q := ⟨a, b, rfl, rfl, q⟩
theorem o_notB {H : Hp} {Q : VK} {a b : Bool} (q : Q (.bl (!decide (a = b))) H) : rNotB (.bl a) (.bl b) H Q := ⟨a, b, rfl, rfl, q⟩
theorem c_isTupI {K : PySem.W.Frag} {H : Hp} {Q : VK} {n : Int} (q : Q (.bl false) H) : rIsi K [.int n, .ty "tuple"] H Q := ⟨.int n, .ty "tuple", .type "int", .type "tuple", false, rfl, .ty _, .base (.int n), kit_ty (by decide +kernel), q⟩
theorem c_isNonB {K : PySem.W.Frag} {H : Hp} {Q : VK} (q : Q (.bl false) H) : rIsi K [.non, .ty "bool"] H Q := ⟨.non, .ty "bool", .type "NoneType", .type "bool", false, rfl, .ty _, .base .non, kit_ty (by decide +kernel), q⟩
theorem c_isNonT {K : PySem.W.Frag} {H : Hp} {Q : VK} (q : Q (.bl false) H) : rIsi K [.non, .ty "tuple"] H Q := ⟨.non, .ty "tuple", .type "NoneType", .type "tuple", false, rfl, .ty _, .base .non, kit_ty (by decide +kernel), q⟩
theorem k_bl {c : Bool} {P : Bool → Prop} (h : P c) : ∃ c', V.bl c = V.bl c' ∧ P c' := ⟨c, rfl, h⟩

section
variable {K : PySem.W.Frag} {H : Hp} {Q : VK} {σ : L2.St} {te : TE} {C D ae dd CT : Addr} {f : Str} {fs : List (Str × V)} {v : V} {cls : Value} {de : Option Addr}
def kXf (a : Addr) (cls : Value) (d : Option Addr) (C : Addr) (f : Str) (x : V) (H1 : Hp) (Q : VK) : Prop := x = .ref a ∧ cls = .ref C ∧ ∃ (dd : Addr) (fs : List (Str × V)) (v : V), d = some dd ∧ H1 dd = some (.xd fs) ∧ fs.lookup f = some v ∧ Q v H1
theorem e_xf (h : te σ H fun x H1 => kXf ae cls de C f x H1 Q) : tXf ae cls de C f te σ H Q := h
theorem k_xf (h : H dd = some (.xd fs)) (l : fs.lookup f = some v) (q : Q v H) : kXf ae (.ref C) (some dd) C f (.ref ae) H Q := ⟨rfl, rfl, dd, fs, v, rfl, h, l, q⟩
theorem c_isED (h : H dd = some (.xd fs)) (k : PySem.W.kitOne K (.ref D) (.ref CT) = some true) (q : Q (.bl true) H) : rIsED K D ae (.ref D) (some dd) [.ref ae, .ref CT] H Q :=
  ⟨.ref CT, .ref CT, true, dd, fs, rfl, rfl, rfl, h, fun u r => r, k, q⟩
theorem c_isEDty {n : String} (h : H dd = some (.xd fs)) (k : PySem.W.kitOne K (.ref D) (.type n) = some true) (q : Q (.bl true) H) : rIsED K D ae (.ref D) (some dd) [.ref ae, .ty n] H Q :=
  ⟨.ty n, .type n, true, dd, fs, rfl, rfl, rfl, h, fun u r => r, k, q⟩
theorem w_as {c : Value} {i : Nat} {ts : Addr → Value → Option Addr → TS} {Wout : WX} {D : Ends} (e : PySem.W.exmOne K cls c = some true)
    (h : ∀ a, H a = none → ts a cls de { nx := fun σ' H' => D.nx (σ'.set i none) H', rt := D.rt, bk := fun σ' H' => D.bk (σ'.set i none) H', ct := fun σ' H' => D.ct (σ'.set i none) H' } (σ.set i (some (.ref a))) H) : WE (wAs K c i ts Wout D) σ cls de H :=
  ⟨true, e, fun _ => h, fun z => Bool.noConfusion z⟩
end

theorem s_cut {D : Ends} {σ : L2.St} {H : Hp} {t u : TS} (Mid : L2.St → Hp → Prop) (h1 : t { D with nx := Mid } σ H) (h2 : ∀ σ' H', Mid σ' H' → u D σ' H') : Evl.tCut t u D σ H := ⟨Mid, h1, h2⟩

/-- a test whose outcomes are told once -/
def tUpT (t : TT) : TT := fun σ H Q => ∃ P : Bool → Hp → Prop, t σ H P ∧ ∀ b H1, P b H1 → Q b H1
theorem pt_up {X : Cx} {e : Expr} {t : TT} (h : PT X e t) : PT X e (tUpT t) := ⟨fun pins s σ H Q I ⟨P, q, m⟩ => thn (h.run pins s σ H P I q) fun _ _ ⟨H1, J, z⟩ => ⟨H1, J, m _ _ z⟩⟩
theorem t_up {t : TT} {σ : L2.St} {H : Hp} {Q : Bool → Hp → Prop} (P : Bool → Hp → Prop) (h : t σ H P) (k : ∀ b H1, P b H1 → Q b H1) : tUpT t σ H Q := ⟨P, h, k⟩
theorem cut1 {x : V} {xs : List V} : cutV (x :: xs) (some 1) none = xs := by
  unfold cutV
  simp [HT.sIx]

/-! ### dicts by texts -/
section
variable {K : PySem.W.Frag} {D : Ends} {σ : L2.St} {H : Hp} {Q : VK} {td ty tv te : TE} {a : Addr} {kvs : List (Key × V)} {s : Str} {v : V} {x y c : Int} {i : Nat}
theorem val_hit (k : Key) (v : V) (r : List (Key × V)) : valV ((k, v) :: r) k = some v := by simp [valV]
theorem val_miss {k k' : Key} (h : ¬ k = k') (v : V) (r : List (Key × V)) : valV ((k, v) :: r) k' = valV r k' := by simp [valV, h]
theorem val_nil (k : Key) : valV ([] : List (Key × V)) k = none := rfl
def kDGet (x y : V) (H : Hp) (Q : VK) : Prop := ∃ a v, x = .ref a ∧ DGet H a y (some v) ∧ Q v H
theorem e_dget (h : td σ H fun x H1 => ty σ H1 fun y H2 => kDGet x y H2 Q) : tDGet td ty σ H Q := h
theorem k_dget (h : H a = some (.dK kvs)) (l : valV kvs (Sum.inr s) = some v) (q : Q v H) : kDGet (.ref a) (.str s) H Q := ⟨a, v, rfl, .inl ⟨kvs, Sum.inr s, .inl h, rfl, l.symm⟩, q⟩
def kDPut (v x y : V) (H : Hp) (R : Hp → Prop) : Prop := ∃ a H4, x = .ref a ∧ DPut H a y v H4 ∧ R H4
theorem s_dput (h : tv σ H fun v H1 => td σ H1 fun x H2 => ty σ H2 fun y H3 => kDPut v x y H3 (D.nx σ)) : sDPut td ty tv D σ H := h
theorem k_dput {R : Hp → Prop} (h : H a = some (.dK kvs)) (hl : kvs.length < 100000) (q : R (upd H a (.dK (putK kvs (Sum.inr s) v)))) : kDPut v (.ref a) (.str s) H R := ⟨a, _, rfl, DPut.k (k := Sum.inr s) h (szl hl), q⟩
theorem c_sum {ns : List Int} (h : SqL K H a (ns.map V.int)) (q : Q (.int ns.sum) H) : rSum K [.ref a] H Q := ⟨a, ns, rfl, h, q⟩
/-! ### x ≤ y ≤ c -/
theorem o_chC (q : Q (.bl (decide (x ≤ y ∧ y ≤ c))) H) :
    rI0 (fun i j => V.bl (decide (i ≤ j))) (.int x) (.int y) H fun z H3 => kT z H3 fun k H4 => if k = true then tC (.int c) σ H4 fun w' H5 => rI0 (fun i j => V.bl (decide (i ≤ j))) (.int y) w' H5 Q else Q (.bl false) H4 := by
  refine o_I0 (k_t ?_)
  refine if_d (fun h => e_c (o_I0 ?_)) (fun h => ?_)
  · rw [show decide (y ≤ c) = decide (x ≤ y ∧ y ≤ c) from decide_eq_decide.mpr ⟨fun z => ⟨h, z⟩, fun z => z.2⟩]; exact q
  · rw [show false = decide (x ≤ y ∧ y ≤ c) from (decide_eq_false fun z => h z.1).symm]; exact q
theorem o_chV (hv : σ[i]? = some (some (.int c))) (q : Q (.bl (decide (x ≤ y ∧ y ≤ c))) H) :
    rI0 (fun i j => V.bl (decide (i ≤ j))) (.int x) (.int y) H fun z H3 => kT z H3 fun k H4 => if k = true then tVar i σ H4 fun w' H5 => rI0 (fun i j => V.bl (decide (i ≤ j))) (.int y) w' H5 Q else Q (.bl false) H4 := by
  refine o_I0 (k_t ?_)
  refine if_d (fun h => e_var hv (o_I0 ?_)) (fun h => ?_)
  · rw [show decide (y ≤ c) = decide (x ≤ y ∧ y ≤ c) from decide_eq_decide.mpr ⟨fun z => ⟨h, z⟩, fun z => z.2⟩]; exact q
  · rw [show false = decide (x ≤ y ∧ y ≤ c) from (decide_eq_false fun z => h z.1).symm]; exact q
theorem e_makeK {C : Addr} {m : Nat} {sp : Sp} {gV : List V → List V → List V} {ES : L2.St → XK} {tk : TA} (h : tk σ H fun zs H2 => zs.length = m ∧ ∀ x dx, H2 x = none → H2 dx = none → dx ≠ x →
  sp (gV [.ref x] zs) (upd (upd H2 dx (.own x)) x (.ins C dx [])) (fun v H3 => v = .non ∧ Q (.ref x) H3) (ES σ)) : tMakeKS C m sp gV ES tk σ H Q := h
def kTup (K : PySem.W.Frag) (n : Nat) (t : TGs) (v : V) (σ : L2.St) (H : Hp) (R : L2.St → Hp → Prop) : Prop := ∃ a xs, v = .ref a ∧ SqT K H a xs ∧ xs.length = n ∧ t xs σ H R
theorem g_tup {n : Nat} {t : TGs} {R : L2.St → Hp → Prop} {xs : List V} (h : SqT K H a xs) (hn : xs.length = n) (q : t xs σ H R) : gTup K n t (.ref a) σ H R := ⟨a, xs, rfl, h, hn, q⟩
theorem g_cons {t : TG} {u : TGs} {R : L2.St → Hp → Prop} {r : List V} (q : t v σ H fun σ' H' => u r σ' H' R) : gCons t u (v :: r) σ H R := ⟨v, r, rfl, q⟩
theorem g_nil {R : L2.St → Hp → Prop} (q : R σ H) : gNil [] σ H R := ⟨rfl, q⟩
end

def PL (fs : List (Str × V)) (n : Nat) : Prop := fs.length ≤ n
theorem PL.nil {n : Nat} : PL [] n := Nat.zero_le _
theorem putF_length (f : Str) (v : V) : ∀ fs : List (Str × V), (putF f v fs).length ≤ fs.length + 1
  | [] => Nat.le_refl _
  | (g, y) :: r => by
    by_cases h : g = f
    · rw [show putF f v ((g, y) :: r) = (g, v) :: r from if_pos h]
      exact Nat.le_succ _
    · rw [putF_miss h]
      exact Nat.succ_le_succ (putF_length f v r)
theorem PL.put {f : Str} {v : V} {fs : List (Str × V)} {n : Nat} (h : PL fs n) : PL (putF f v fs) (n + 1) := Nat.le_trans (putF_length f v fs) (Nat.succ_le_succ h)
theorem PL.lt {fs : List (Str × V)} {n : Nat} (h : PL fs n) (hn : n < 1000) : fs.length < 1000 := Nat.lt_of_le_of_lt h hn

/-- objects that stand -/
def Obs (H : Hp) (l : List (Addr × HO)) : Prop := ∀ p ∈ l, H p.1 = some p.2
theorem Obs.nil {H : Hp} : Obs H [] := fun p hp => by cases hp
theorem Obs.fp {H H1 : Hp} {l : List (Addr × HO)} {fp : List Addr} (u : Obs H l) (f : Fp fp H H1) (n : ∀ p ∈ l, p.1 ∉ fp) : Obs H1 l := fun p hp => f _ _ (u p hp) (n p hp)
theorem Obs.fp0 {H H1 : Hp} {l : List (Addr × HO)} (u : Obs H l) (f : Fp [] H H1) : Obs H1 l := u.fp f fun _ _ => by simp
theorem Obs.add {H : Hp} {l : List (Addr × HO)} {t : Addr} {o : HO} (u : Obs H l) (h : H t = none) : Obs (upd H t o) ((t, o) :: l) := fun p hp => by
  rcases List.mem_cons.mp hp with rfl | hp
  · exact upd_same
  · exact Fp.new (fp := []) h _ _ (u p hp) (by simp)
theorem Obs.cons {H : Hp} {l : List (Addr × HO)} {t : Addr} {o : HO} (u : Obs H l) (h : H t = some o) : Obs H ((t, o) :: l) := fun p hp => by
  rcases List.mem_cons.mp hp with rfl | hp
  · exact h
  · exact u p hp
/-- xs[i], read for an augmented assignment -/
theorem get_list {X : Cx} : PGet X (rIxL X.K) := by
  intro pins s σ H o i ov iv Q I rx ry h
  obtain ⟨p, xs, n, z, rfl, rfl, hq, he, q⟩ := h
  cases rx
  obtain ⟨t, rfl⟩ := ry
  obtain ⟨its, r, pl, hz⟩ := I.list hq
  obtain ⟨j, h1, h2, h3, h4, h5⟩ := atI_get he
  obtain ⟨w, ew, rw'⟩ := r.get h2
  have hl := r.length
  have hn := line63
  have fin : EP X pins σ Q w s := ⟨z, H, I, rw', q⟩
  by_cases h0 : 0 ≤ n
  · have hj : n.toNat = j := by
      rw [seqIndex_of h0 h5] at h1
      exact Option.some.inj h1
    refine L2.thn (wpAny_getItem_list (x := w) (Q := fun r s' => r = w ∧ EP X pins σ Q r s') pl.isList h0 (by omega) (by rw [hj]; simpa using ew) ⟨rfl, fin⟩) fun _ _ e => e.2
  · have hj : (n + (its.toArray.size : Int)).toNat = j := by
      rw [seqIndex_neg (by omega) h4] at h1
      rw [List.size_toArray, ← hl]
      exact Option.some.inj h1
    refine L2.thn (wpAny_getItem_list_neg (x := w) (Q := fun r s' => r = w ∧ EP X pins σ Q r s') pl.isList (by omega) (by rw [List.size_toArray] <;> omega) (by omega) (by rw [hj]; simpa using ew) ⟨rfl, fin⟩) fun _ _ e => e.2
theorem s_augS {D : Ends} {σ : L2.St} {H : Hp} {to ti te : TE} {tget : V → V → Hp → VK → Prop} {tip : TIp} {tset : TSet} (h : to σ H fun o H1 => ti σ H1 fun i H2 => tget o i H2 fun x H3 => te σ H3 fun y H4 => tip x y H4 fun z H5 => tset o i z H5 fun H6 => D.nx σ H6) : tAugS to ti te tget tip tset D σ H := h
theorem ip_I {f : Int → Int → Int} {m n : Int} {H : Hp} {Q : VK} (q : Q (.int (f m n)) H) : ipI f (.int m) (.int n) H Q := ⟨m, n, rfl, rfl, q⟩
def kAug (i : Nat) (te : TE) (tip : TIp) (σ : L2.St) (x : V) (H : Hp) (N : L2.St → Hp → Prop) : Prop := te σ H fun y H1 => tip x y H1 fun z H2 => N (σ.set i (some z)) H2
theorem s_augV {D : Ends} {σ : L2.St} {H : Hp} {te : TE} {tip : TIp} {i : Nat} {x : V} (hx : σ[i]? = some (some x)) (h : te σ H fun y H1 => tip x y H1 fun z H2 => D.nx (σ.set i (some z)) H2) : tAug i te tip D σ H := ⟨x, hx, h⟩

/-! ### comprehensions over enumerate(list), over a list that is made -/
section
variable {K : PySem.W.Frag} {σ : L2.St} {H : Hp} {Q : VK} {g : TG} {tt : TT} {te ta : TE} {vs : List Nat} {tl : TA} {a : Addr} {xs : List V}
def lcT (J : It) (g : TG) (tt : TT) (te : TE) (vs : List Nat) (σ : L2.St) (Q : VK) (H1 : Hp) : Prop := ∀ E, H1 E = none → ∃ W : Nat → Nat → Hp → Prop, (∃ m, W 0 m (upd H1 E (.lst []))) ∧ ∀ i m H, W i m H →
    (J.stop i H ∧ Q (.ref E) H) ∨ (J.go i H ∧ ∃ Nx : Hp → Prop, (∀ H', Nx H' → ∃ m', m' < m ∧ W (i + 1) m' H') ∧ ∀ x H', J.yld i H x H' → g x (wipe σ vs) H' fun σ2 H2 => wipe σ2 vs = wipe σ vs ∧ tt σ2 H2 fun b H3 =>
      if b = true then te σ2 H3 fun y H4 => ∃ acc, H4 E = some (.lst acc) ∧ acc.length < sizeLine ∧ Nx (upd H4 E (.lst (acc ++ [y]))) else Nx H3)
def kLcE (K : PySem.W.Frag) (g : TG) (tt : TT) (te : TE) (vs : List Nat) (σ : L2.St) (Q : VK) (ys : List V) (H1 : Hp) : Prop := ∃ a xs, ys = [.ref a] ∧ SqL K H1 a xs ∧ lcT (Ite K a) g tt te vs σ Q H1
theorem e_lcE (h : tl σ H fun ys H1 => kLcE K g tt te vs σ Q ys H1) : tLc (iEnum K tl) g tt te vs σ H Q := h
theorem k_lcE (F : Nat → Option V) (hS : SqL K H a xs) (hz : xs.length < 100000)
    (hs : ∀ (E T : Addr) (i : Nat) (x : V) (H' : Hp) (R : VK) (N : Hp → Prop), H E = none → xs[i]? = some x → H' T = some (.tup [.int (i : Nat), x]) → H' E = some (.lst ((List.range i).filterMap F)) → Fp [] H H' → (∀ y H4, F i = some y → Fp [] H' H4 → R y H4) → (F i = none → ∀ H4, Fp [] H' H4 → N H4) →
      g (.ref T) (wipe σ vs) H' fun σ2 H2 => wipe σ2 vs = wipe σ vs ∧ tt σ2 H2 fun k H3 => if k = true then te σ2 H3 R else N H3)
    (q : ∀ E H', H E = none → H' E = some (.lst ((List.range xs.length).filterMap F)) → Fp [] H H' → Q (.ref E) H') : kLcE K g tt te vs σ Q [.ref a] H := by
  refine ⟨a, xs, rfl, hS, fun E hE => ?_⟩
  refine ⟨fun i m H' => m = xs.length - i ∧ i ≤ xs.length ∧ H' E = some (.lst ((List.range i).filterMap F)) ∧ Fp [] H H', ⟨_, rfl, Nat.zero_le _, upd_same, Fp.new hE⟩, ?_⟩
  rintro i m H' ⟨rfl, hi, e1, e2⟩
  have hq : SqL K H' a xs := e2.seq (by simp) hS
  by_cases hlt : i < xs.length
  · refine .inr ⟨⟨xs, xs[i], hq, List.getElem?_eq_getElem hlt⟩, fun H4 => H4 E = some (.lst ((List.range (i + 1)).filterMap F)) ∧ Fp [] H H4, fun H4 z => ⟨_, by omega, rfl, by omega, z.1, z.2⟩, ?_⟩
    rintro v H2 ⟨T, x, rfl, hT, rfl, hx⟩
    have hx2 := hx xs hq
    have fT : Fp [] H' (upd H' T (.tup [.int (i : Nat), x])) := Fp.new hT
    have f2 := e2.trans fT
    have E2 := fT _ _ e1 (by simp)
    exact hs E T i x _ (fun y H4 => ∃ acc, H4 E = some (.lst acc) ∧ acc.length < sizeLine ∧ (upd H4 E (.lst (acc ++ [y]))) E = some (.lst ((List.range (i + 1)).filterMap F)) ∧ Fp [] H (upd H4 E (.lst (acc ++ [y])))) (fun H4 => H4 E = some (.lst ((List.range (i + 1)).filterMap F)) ∧ Fp [] H H4) hE hx2 upd_same E2 f2
      (fun y H4 ey f4 => ⟨_, f4 _ _ E2 (by simp), szl (Nat.lt_of_le_of_lt (List.length_filterMap_le _ _) (by rw [List.length_range]; omega)), by rw [upd_same, fm_range, ey]; rfl, Fp.drop (fp := [E]) (((f2.trans f4).mono (by simp)).trans (Fp.at_ (by simp))) fun z hz => by rcases List.mem_singleton.mp hz with rfl; exact .inr hE⟩)
      (fun ey H4 f4 => ⟨by rw [fm_range, ey]; simpa using f4 _ _ E2 (by simp), f2.trans f4⟩)
  · have hi2 : i = xs.length := by omega
    subst hi2
    exact .inl ⟨⟨xs, hq, Nat.le_refl _⟩, q E H' hE e1 e2⟩
def kLcL (K : PySem.W.Frag) (g : TG) (tt : TT) (te : TE) (vs : List Nat) (σ : L2.St) (Q : VK) (x : V) (H : Hp) : Prop := (iList K fun _ _ R => R x H) σ H fun J H1 => lcT J g tt te vs σ Q H1
theorem e_lcL (h : ta σ H fun x H1 => kLcL K g tt te vs σ Q x H1) : tLc (iList K ta) g tt te vs σ H Q := h
theorem k_lcL (f : V → Option V) (hS : SqL K H a xs) (hz : xs.length < 100000)
    (hs : ∀ (E : Addr) (i : Nat) (x : V) (H' : Hp) (R : VK) (N : Hp → Prop), H E = none → xs[i]? = some x → H' E = some (.lst ((xs.take i).filterMap f)) → Fp [] H H' → (∀ y H4, f x = some y → Fp [] H' H4 → R y H4) → (f x = none → ∀ H4, Fp [] H' H4 → N H4) →
      g x (wipe σ vs) H' fun σ2 H2 => wipe σ2 vs = wipe σ vs ∧ tt σ2 H2 fun k H3 => if k = true then te σ2 H3 R else N H3)
    (q : ∀ E H', H E = none → H' E = some (.lst (xs.filterMap f)) → Fp [] H H' → Q (.ref E) H') : kLcL K g tt te vs σ Q (.ref a) H := by
  refine ⟨a, rfl, ⟨_, hS⟩, fun E hE => ?_⟩
  refine lc_list (K := K) (a := a) (xs := xs) (fun i H' => H' E = some (.lst ((xs.take i).filterMap f)) ∧ Fp [] H H') ⟨by rw [List.take_zero]; exact upd_same, Fp.new hE⟩ (fun i H' hi e => ?_) (fun i x H' hx e => ?_) fun H' e => ?_
  · exact e.2.seq (by simp) hS
  · have hi : i < xs.length := (List.getElem?_eq_some_iff.mp hx).1
    exact hs E i x H' (fun y H4 => ∃ acc, H4 E = some (.lst acc) ∧ acc.length < sizeLine ∧ (upd H4 E (.lst (acc ++ [y]))) E = some (.lst ((xs.take (i + 1)).filterMap f)) ∧ Fp [] H (upd H4 E (.lst (acc ++ [y])))) (fun H4 => H4 E = some (.lst ((xs.take (i + 1)).filterMap f)) ∧ Fp [] H H4) hE hx e.1 e.2
      (fun y H4 ey f4 => ⟨_, f4 _ _ e.1 (by simp), szl (Nat.lt_of_le_of_lt (List.length_filterMap_le _ _) (by rw [List.length_take]; omega)), by rw [upd_same, fm_snoc hx, ey]; rfl, Fp.drop (fp := [E]) (((e.2.trans f4).mono (by simp)).trans (Fp.at_ (by simp))) fun z hz => by rcases List.mem_singleton.mp hz with rfl; exact .inr hE⟩)
      (fun ey H4 f4 => ⟨by rw [fm_snoc hx, ey]; simpa using f4 _ _ e.1 (by simp), e.2.trans f4⟩)
  · rw [List.take_length] at e
    exact q E H' hE e.1 e.2
end
theorem cut_take {xs : List V} {n : Nat} : cutV xs none (some (n : Int)) = xs.take n := by
  unfold cutV
  rw [HT.sIx_nat, HT.sIx_none, List.drop_zero, Nat.sub_zero, List.take_eq_take_iff]
  omega
theorem cut_drop {xs : List V} {n : Nat} : cutV xs (some (n : Int)) none = xs.drop n := by
  unfold cutV
  rw [HT.sIx_nat, HT.sIx_none]
  by_cases h : n ≤ xs.length
  · rw [Nat.min_eq_left h, List.take_of_length_le (by rw [List.length_drop]; exact Nat.le_refl _)]
  · rw [Nat.min_eq_right (by omega), List.drop_of_length_le (Nat.le_refl _), List.drop_of_length_le (by omega), List.take_nil]
theorem c_ext {l b : Addr} {xs zs : List V} {H : Hp} {Q : VK} (h : H l = some (.lst xs)) (h' : H b = some (.lst zs)) (z : xs.length + zs.length ≤ 100000) (q : Q .non (upd H l (.lst (xs ++ zs)))) : rExtend (.ref l) [.ref b] H Q := ⟨l, b, xs, zs, rfl, rfl, h, h', sz z, q⟩
/-- [e for k in range(n)], e with its own doing -/
theorem k_lcS {σ : L2.St} {H : Hp} {Q : VK} {g : TG} {te : TE} {vs : List Nat} {n : Int} (J : Addr → Nat → List V → Hp → Prop) (h1 : 0 ≤ n) (h2 : n < 100000) (h0 : ∀ E, H E = none → J E 0 [] (upd H E (.lst [])))
    (hs : ∀ (E : Addr) (i : Nat) (acc : List V) (H' : Hp) (R : VK), H E = none → (i : Int) < n → acc.length = i → H' E = some (.lst acc) → J E i acc H' → (∀ y H4, H4 E = some (.lst acc) → J E (i + 1) (acc ++ [y]) (upd H4 E (.lst (acc ++ [y]))) → R y H4) →
      g (.int (i : Nat)) (wipe σ vs) H' fun σ2 H2 => wipe σ2 vs = wipe σ vs ∧ te σ2 H2 R)
    (q : ∀ E acc H', H E = none → acc.length = n.toNat → H' E = some (.lst acc) → J E n.toNat acc H' → Q (.ref E) H') : kLcR g te vs σ Q (.int n) H := by
  refine ⟨n, rfl, by omega, by omega, fun E hE => ?_⟩
  refine lc_range (lo := 0) (n := n.toNat) (fun i H' => ∃ acc, acc.length = i ∧ H' E = some (.lst acc) ∧ J E i acc H') ⟨[], rfl, upd_same, h0 E hE⟩ (fun i H' hi ⟨acc, ha, e, j⟩ => ?_) fun H' ⟨acc, ha, e, j⟩ => q E acc H' hE ha e j
  have e0 : (0 : Int) + (i : Int) = (i : Int) := Int.zero_add _
  rw [e0]
  exact hs E i acc H' (fun y H4 => ∃ acc, H4 E = some (.lst acc) ∧ acc.length < sizeLine ∧ ∃ acc2, acc2.length = i + 1 ∧ (upd H4 E (.lst (acc ++ [y]))) E = some (.lst acc2) ∧ J E (i + 1) acc2 (upd H4 E (.lst (acc ++ [y])))) hE (by omega) ha e j
    fun y H4 e4 j4 => ⟨acc, e4, szl (by omega), _, by rw [List.length_append, ha]; rfl, upd_same, j4⟩
theorem ints_of : ∀ {acc : List V}, (∀ y ∈ acc, ∃ z, y = V.int z) → ∃ ys : List Int, acc = ys.map V.int
  | [], _ => ⟨[], rfl⟩
  | y :: r, h => by
    obtain ⟨z, rfl⟩ := h y List.mem_cons_self
    obtain ⟨ys, rfl⟩ := ints_of fun x hx => h x (List.mem_cons_of_mem _ hx)
    exact ⟨z :: ys, rfl⟩
/-! ### what stands -/
def Inn (H : Hp) (L : List Addr) : Prop := ∀ y ∈ L, ∃ o, H y = some o
theorem Inn.nil {H : Hp} : Inn H [] := fun _ h => by cases h
theorem Inn.cons {H : Hp} {L : List Addr} {x : Addr} {o : HO} (h : H x = some o) (I : Inn H L) : Inn H (x :: L) := fun y hy => by
  rcases List.mem_cons.mp hy with rfl | hy
  · exact ⟨_, h⟩
  · exact I y hy
theorem Inn.app {H : Hp} {L M : List Addr} (I : Inn H L) (J : Inn H M) : Inn H (L ++ M) := fun y hy => (List.mem_append.mp hy).elim (I y) (J y)
theorem Inn.fresh {H : Hp} {L : List Addr} {x : Addr} (I : Inn H L) (h : H x = none) : x ∉ L := fun z => by
  obtain ⟨o, e⟩ := I x z
  rw [h] at e
  cases e
theorem Inn.ne {H : Hp} {L : List Addr} {x y : Addr} (I : Inn H L) (hy : y ∈ L) (h : H x = none) : x ≠ y := fun z => I.fresh h (z ▸ hy)
theorem Inn.fp {H H1 : Hp} {L : List Addr} (I : Inn H L) (f : Fp [] H H1) : Inn H1 L := fun y hy => by
  obtain ⟨o, e⟩ := I y hy
  exact ⟨o, f _ _ e (by simp)⟩
theorem Inn.mono {H : Hp} {L M : List Addr} (I : Inn H L) (h : ∀ x ∈ M, x ∈ L) : Inn H M := fun y hy => I y (h y hy)
theorem nd_new {L : List Addr} {x : Addr} (n : L.Nodup) (h : x ∉ L) : (x :: L).Nodup := List.nodup_cons.mpr ⟨h, n⟩
theorem nin_c {L : List Addr} {x y : Addr} (n : x ≠ y) (h : x ∉ L) : x ∉ y :: L := fun z => (List.mem_cons.mp z).elim n h
def kTru (K : PySem.W.Frag) (x : V) (H : Hp) (QT : Bool → Hp → Prop) : Prop := ∃ k, TruV K x H k ∧ QT k H
def tTr (K : PySem.W.Frag) (ta : TE) : TT := fun σ H Q => ta σ H fun x H' => kTru K x H' Q
theorem pt_tr {X : Cx} {a : Expr} {ta : TE} (ha : PE X a ta) (he : ∀ whole, isTrue a X.env whole = (do let v ← whole; standAt a.pos; holding [v] (truthy v))) : PT X a (tTr X.K ta) := pt_truth ha he
theorem t_tru {K : PySem.W.Frag} {σ : L2.St} {te : TE} {H : Hp} {QT : Bool → Hp → Prop} (h : te σ H fun x H1 => kTru K x H1 QT) : tTr K te σ H QT := h
theorem k_truL {K : PySem.W.Frag} {H : Hp} {QT : Bool → Hp → Prop} {p : Addr} {xs : List V} (h : SqL K H p xs) (q : QT (!xs.isEmpty) H) : kTru K (.ref p) H QT := ⟨_, Or.inl ⟨xs, h, rfl⟩, q⟩
/-- [e for k in range(n) if t], t and e with their own doing -/
theorem k_lcSF {σ : L2.St} {H : Hp} {Q : VK} {g : TG} {tt : TT} {te : TE} {vs : List Nat} {n : Int} (J : Addr → Nat → List V → Hp → Prop) (h1 : 0 ≤ n) (h2 : n < 100000) (h0 : ∀ E, H E = none → J E 0 [] (upd H E (.lst [])))
    (hs : ∀ (E : Addr) (i : Nat) (acc : List V) (H' : Hp) (R : VK) (N : Hp → Prop), H E = none → (i : Int) < n → acc.length ≤ i → H' E = some (.lst acc) → J E i acc H' → (∀ y H4, H4 E = some (.lst acc) → J E (i + 1) (acc ++ [y]) (upd H4 E (.lst (acc ++ [y]))) → R y H4) → (∀ H4, H4 E = some (.lst acc) → J E (i + 1) acc H4 → N H4) →
      g (.int (i : Nat)) (wipe σ vs) H' fun σ2 H2 => wipe σ2 vs = wipe σ vs ∧ tt σ2 H2 fun k H3 => if k = true then te σ2 H3 R else N H3)
    (q : ∀ E acc H', H E = none → acc.length ≤ n.toNat → H' E = some (.lst acc) → J E n.toNat acc H' → Q (.ref E) H') : kLcF g tt te vs σ Q (.int n) H := by
  refine ⟨n, rfl, by omega, by omega, fun E hE => ?_⟩
  refine lc_range (lo := 0) (n := n.toNat) (fun i H' => ∃ acc, acc.length ≤ i ∧ H' E = some (.lst acc) ∧ J E i acc H') ⟨[], Nat.le_refl _, upd_same, h0 E hE⟩ (fun i H' hi ⟨acc, ha, e, j⟩ => ?_) fun H' ⟨acc, ha, e, j⟩ => q E acc H' hE ha e j
  have e0 : (0 : Int) + (i : Int) = (i : Int) := Int.zero_add _
  rw [e0]
  exact hs E i acc H' (fun y H4 => ∃ acc, H4 E = some (.lst acc) ∧ acc.length < sizeLine ∧ ∃ acc2, acc2.length ≤ i + 1 ∧ (upd H4 E (.lst (acc ++ [y]))) E = some (.lst acc2) ∧ J E (i + 1) acc2 (upd H4 E (.lst (acc ++ [y])))) (fun H4 => ∃ acc2, acc2.length ≤ i + 1 ∧ H4 E = some (.lst acc2) ∧ J E (i + 1) acc2 H4) hE (by omega) ha e j
    (fun y H4 e4 j4 => ⟨acc, e4, szl (by omega), _, by rw [List.length_append]; simp; omega, upd_same, j4⟩) fun H4 e4 j4 => ⟨acc, by omega, e4, j4⟩
/-- for x in a list that an expression hands back -/
def kForL (K : PySem.W.Frag) (g : TG) (tb : TS) (D : Ends) (σ : L2.St) (x : V) (H1 : Hp) : Prop := (iList K fun _ _ R => R x H1) σ H1 fun J H1 => ∃ W : Nat → Nat → L2.St → Hp → Prop, (∃ m, W 0 m σ H1) ∧ ∀ i m σ H, W i m σ H →
  (J.stop i H ∧ D.nx σ H) ∨ (J.go i H ∧ ∃ N : L2.St → Hp → Prop, (∀ σ' H', N σ' H' → ∃ m', m' < m ∧ W (i + 1) m' σ' H') ∧ ∀ x H', J.yld i H x H' → g x σ H' fun σ2 H2 => tb { D with nx := N, ct := N, bk := D.nx } σ2 H2)
theorem f_lst {K : PySem.W.Frag} {g : TG} {tb : TS} {D : Ends} {σ : L2.St} {H : Hp} {te : TE} (h : te σ H fun x H1 => kForL K g tb D σ x H1) : tFor (iList K te) g tb D σ H := h
theorem k_forL {K : PySem.W.Frag} {g : TG} {tb : TS} {D : Ends} {σ : L2.St} {H : Hp} {p : Addr} {xs : List V} (Pv : Nat → L2.St → Hp → Prop) (hS : SqL K H p xs) (h0 : Pv 0 σ H) (hl : ∀ i σ' H', i ≤ xs.length → Pv i σ' H' → SqL K H' p xs)
    (hs : ∀ i x σ' H', xs[i]? = some x → Pv i σ' H' → g x σ' H' fun σ2 H2 => tb { D with nx := Pv (i + 1), ct := Pv (i + 1), bk := D.nx } σ2 H2) (hd : ∀ σ' H', Pv xs.length σ' H' → D.nx σ' H') : kForL K g tb D σ (.ref p) H :=
  ⟨p, rfl, ⟨xs, hS⟩, for_list Pv h0 hl hs hd⟩
theorem t_yes {σ : L2.St} {H : Hp} {QT : Bool → Hp → Prop} (h : QT true H) : tYes σ H QT := h
theorem ixN_last {n : Nat} (h : 0 < n) : ixN n (-1) = some (n - 1) := by
  unfold ixN
  rw [if_neg (by decide), if_pos (by omega)]
  congr 1
  omega
/-- xs[-1] = v -/
theorem c_setE {p : Addr} {xs : List V} {x v : V} {H : Hp} {R : Hp → Prop} (h : H p = some (.lst (xs ++ [x]))) (q : R (upd H p (.lst (xs ++ [v])))) : rSetL (.ref p) (.int (-1)) v H R := by
  refine ⟨p, xs ++ [x], -1, xs.length, rfl, rfl, h, by rw [ixN_last (by simp)]; simp, ?_⟩
  rw [List.set_append_right _ _ (Nat.le_refl _), Nat.sub_self]
  exact q
/-- [e for x in xs if t] by places, xs in a name -/
theorem lc_filtN {K : PySem.W.Frag} {σ : L2.St} {H : Hp} {Q : VK} {g : TG} {tt : TT} {te : TE} {vs : List Nat} {j : Nat} {b : Addr} {xs : List V} (F : Nat → Option V) (hv : σ[j]? = some (some (.ref b))) (hS : SqL K H b xs) (hz : xs.length < 100000)
    (hs : ∀ (E : Addr) (i : Nat) (x : V) (H' : Hp) (R : VK) (N : Hp → Prop), H E = none → xs[i]? = some x → H' E = some (.lst ((List.range i).filterMap F)) → Fp [] H H' → (∀ y H4, F i = some y → Fp [] H' H4 → R y H4) → (F i = none → ∀ H4, Fp [] H' H4 → N H4) →
      g x (wipe σ vs) H' fun σ2 H2 => wipe σ2 vs = wipe σ vs ∧ tt σ2 H2 fun k H3 => if k = true then te σ2 H3 R else N H3)
    (q : ∀ E H', H E = none → H' E = some (.lst ((List.range xs.length).filterMap F)) → Fp [] H H' → Q (.ref E) H') : tLc (iList K (tVar j)) g tt te vs σ H Q := by
  refine ⟨_, hv, b, rfl, ⟨_, hS⟩, fun E hE => ?_⟩
  refine lc_list (K := K) (a := b) (xs := xs) (fun i H' => H' E = some (.lst ((List.range i).filterMap F)) ∧ Fp [] H H') ⟨upd_same, Fp.new hE⟩ (fun i H' hi e => ?_) (fun i x H' hx e => ?_) fun H' e => q E H' hE e.1 e.2
  · exact e.2.seq (by simp) hS
  · have hi : i < xs.length := (List.getElem?_eq_some_iff.mp hx).1
    exact hs E i x H' (fun y H4 => ∃ acc, H4 E = some (.lst acc) ∧ acc.length < sizeLine ∧ (upd H4 E (.lst (acc ++ [y]))) E = some (.lst ((List.range (i + 1)).filterMap F)) ∧ Fp [] H (upd H4 E (.lst (acc ++ [y])))) (fun H4 => H4 E = some (.lst ((List.range (i + 1)).filterMap F)) ∧ Fp [] H H4) hE hx e.1 e.2
      (fun y H4 ey f4 => ⟨_, f4 _ _ e.1 (by simp), szl (Nat.lt_of_le_of_lt (List.length_filterMap_le _ _) (by rw [List.length_range]; omega)), by rw [upd_same, fm_range, ey]; rfl, Fp.drop (fp := [E]) (((e.2.trans f4).mono (by simp)).trans (Fp.at_ (by simp))) fun z hz => by rcases List.mem_singleton.mp hz with rfl; exact .inr hE⟩)
      (fun ey H4 f4 => ⟨by rw [fm_range, ey]; simpa using f4 _ _ e.1 (by simp), e.2.trans f4⟩)
theorem fm_len {F : Nat → Option V} {p : Nat → Bool} : ∀ {l : List Nat}, (∀ i ∈ l, (F i).isSome = p i) → (l.filterMap F).length = (l.filter p).length
  | [], _ => rfl
  | i :: r, h => by
    have h1 := h i List.mem_cons_self
    have ih := fm_len (F := F) (p := p) (l := r) fun x hx => h x (List.mem_cons_of_mem _ hx)
    cases e : F i with
    | none =>
      rw [e] at h1
      rw [List.filterMap_cons_none e, List.filter_cons_of_neg (by rw [← h1]; exact Bool.false_ne_true), ih]
    | some y =>
      rw [e] at h1
      rw [List.filterMap_cons_some e, List.filter_cons_of_pos h1.symm, List.length_cons, List.length_cons, ih]
/-! ### data in data -/
def LD (k : Nat) (d : PyData) : Prop := d.canLay0 = true ∧ d.depth ≤ k
theorem LD.int {k : Nat} (z : Int) : LD (k + 1) (.int z) := ⟨rfl, by simp [PyData.depth]⟩
theorem LD.bl {k : Nat} (b : Bool) : LD (k + 1) (.bool b) := ⟨rfl, by simp [PyData.depth]⟩
theorem LD.non {k : Nat} : LD (k + 1) .none := ⟨rfl, by simp [PyData.depth]⟩
theorem LD.str {k : Nat} {x : Str} (h : PyData.strOk x = true) : LD (k + 1) (.str x) := ⟨h, by simp [PyData.depth]⟩
theorem LD.all {k : Nat} : ∀ {ds : List PyData}, (∀ d ∈ ds, LD k d) → PyData.canLayAll0 ds = true ∧ PyData.depthAll ds ≤ k
  | [], _ => ⟨rfl, by simp [PyData.depthAll]⟩
  | d :: r, h => by
    obtain ⟨h1, h2⟩ := h d List.mem_cons_self
    obtain ⟨i1, i2⟩ := LD.all (ds := r) fun x hx => h x (List.mem_cons_of_mem _ hx)
    refine ⟨?_, ?_⟩
    · show (d.canLay0 && PyData.canLayAll0 r) = true
      rw [h1, i1]; rfl
    · simp only [PyData.depthAll]; omega
theorem LD.list {k : Nat} {ds : List PyData} (h : ∀ d ∈ ds, LD k d) : LD (k + 1) (.list ds) := by
  obtain ⟨h1, h2⟩ := LD.all h
  exact ⟨by simp only [PyData.canLay0]; exact h1, by simp only [PyData.depth]; omega⟩
theorem LD.tup {k : Nat} {ds : List PyData} (h : ∀ d ∈ ds, LD k d) : LD (k + 1) (.tuple ds) := by
  obtain ⟨h1, h2⟩ := LD.all h
  exact ⟨by simp only [PyData.canLay0]; exact h1, by simp only [PyData.depth]; omega⟩
theorem LD.sh {k : Nat} {d : PyData} (h : LD k d) (hk : k ≤ 64 := by decide) : SeqAt.shaped d = true := by
  show (d.canLay0 && decide (d.depth ≤ 64)) = true
  rw [h.1, decide_eq_true (Nat.le_trans h.2 hk)]; rfl
def dInts (ns : List Int) : PyData := .list (ns.map PyData.int)
theorem dp_ints {K : PySem.W.Frag} {H : Hp} : ∀ ns : List Int, DpAll K H (ns.map V.int) (ns.map PyData.int)
  | [] => .nil
  | n :: r => .cons (.int n) (dp_ints r)
theorem LD.ints {k : Nat} (ns : List Int) : LD (k + 2) (dInts ns) := LD.list fun d hd => by
  obtain ⟨n, _, rfl⟩ := List.mem_map.mp hd
  exact LD.int n
theorem g_unl {K : PySem.W.Frag} {H : Hp} {σ : L2.St} {n : Nat} {t : TGs} {R : L2.St → Hp → Prop} {a : Addr} {xs : List V} (h : SqL K H a xs) (hn : xs.length = n) (q : t xs σ H R) : gUnl K n t (.ref a) σ H R := ⟨a, xs, rfl, h, hn, q⟩
theorem c_clr {l : Addr} {xs : List V} {H : Hp} {Q : VK} (h : H l = some (.lst xs)) (q : Q .non (upd H l (.lst []))) : rClear (.ref l) [] H Q := ⟨l, xs, rfl, rfl, h, q⟩
/-- [e for x in xs], e with its own doing -/
theorem k_lcLS {K : PySem.W.Frag} {σ : L2.St} {H : Hp} {Q : VK} {g : TG} {te : TE} {vs : List Nat} {a : Addr} {xs : List V} (J : Addr → Nat → List V → Hp → Prop) (hS : SqL K H a xs) (hz : xs.length < 100000) (h0 : ∀ E, H E = none → J E 0 [] (upd H E (.lst [])))
    (hl : ∀ E i acc H', J E i acc H' → SqL K H' a xs)
    (hs : ∀ (E : Addr) (i : Nat) (x : V) (acc : List V) (H' : Hp) (R : VK), H E = none → xs[i]? = some x → acc.length = i → H' E = some (.lst acc) → J E i acc H' → (∀ y H4, H4 E = some (.lst acc) → J E (i + 1) (acc ++ [y]) (upd H4 E (.lst (acc ++ [y]))) → R y H4) →
      g x (wipe σ vs) H' fun σ2 H2 => wipe σ2 vs = wipe σ vs ∧ te σ2 H2 R)
    (q : ∀ E acc H', H E = none → acc.length = xs.length → H' E = some (.lst acc) → J E xs.length acc H' → Q (.ref E) H') : kLcL K g tYes te vs σ Q (.ref a) H := by
  refine ⟨a, rfl, ⟨_, hS⟩, fun E hE => ?_⟩
  refine lc_list (K := K) (a := a) (xs := xs) (fun i H' => ∃ acc, acc.length = i ∧ H' E = some (.lst acc) ∧ J E i acc H') ⟨[], rfl, upd_same, h0 E hE⟩ (fun i H' hi ⟨acc, _, _, j⟩ => hl E i acc H' j) (fun i x H' hx ⟨acc, ha, e, j⟩ => ?_) fun H' ⟨acc, ha, e, j⟩ => q E acc H' hE ha e j
  have hi : i < xs.length := (List.getElem?_eq_some_iff.mp hx).1
  exact hs E i x acc H' (fun y H4 => ∃ acc, H4 E = some (.lst acc) ∧ acc.length < sizeLine ∧ ∃ acc2, acc2.length = i + 1 ∧ (upd H4 E (.lst (acc ++ [y]))) E = some (.lst acc2) ∧ J E (i + 1) acc2 (upd H4 E (.lst (acc ++ [y])))) hE hx ha e j
    fun y H4 e4 j4 => ⟨acc, e4, szl (by omega), _, by rw [List.length_append, ha]; rfl, upd_same, j4⟩
end Rd
set_option Elab.async false
set_option maxRecDepth 100000
set_option maxHeartbeats 4000000
set_option linter.all false
set_option autoImplicit false
/-! A small separation logic over the heap of the hand layer. -/
namespace Sl
open PySem PySem.Spec PyProof.Rows L2 Sx Rd
/-- what never changes -/
def Imm : HO → Prop
  | .tup _ => True | .frz _ _ => True | .rng _ _ => True | .xd _ => True | .met _ _ => True
  | _ => False
def Agree (S : Addr → Prop) (H H' : Hp) : Prop := (∀ a, S a → H' a = H a) ∧ ∀ a o, H a = some o → Imm o → H' a = some o
structure As where
  at_ : Hp → (Addr → Prop) → Prop
  loc : ∀ {H H' : Hp} {S : Addr → Prop}, at_ H S → Agree S H H' → at_ H' S
  dom : ∀ {H : Hp} {S : Addr → Prop}, at_ H S → ∀ a, S a → H a ≠ none
def emp : As := ⟨fun _ S => ∀ a, ¬ S a, fun h _ => h, fun h a s => absurd s (h a)⟩
def cell (a : Addr) (o : HO) : As := ⟨fun H S => (∀ b, S b ↔ b = a) ∧ H a = some o, fun h g => ⟨h.1, by rw [g.1 a ((h.1 a).mpr rfl)]; exact h.2⟩, fun h b s => by
  rw [(h.1 b).mp s, h.2]; simp⟩
def icell (a : Addr) (o : HO) : As := ⟨fun H S => (∀ b, ¬ S b) ∧ H a = some o ∧ Imm o, fun h g => ⟨h.1, g.2 _ _ h.2.1 h.2.2, h.2.2⟩, fun h b s => absurd s (h.1 b)⟩
abbrev tcell (a : Addr) (xs : List V) : As := icell a (.tup xs)
def pur (φ : Prop) : As := ⟨fun _ S => (∀ a, ¬ S a) ∧ φ, fun h _ => h, fun h a s => absurd s (h.1 a)⟩
def ex {α : Type} (P : α → As) : As := ⟨fun H S => ∃ x, (P x).at_ H S, fun ⟨x, h⟩ g => ⟨x, (P x).loc h g⟩, fun ⟨x, h⟩ => (P x).dom h⟩
def star (P Q : As) : As := ⟨fun H S => ∃ S1 S2 : Addr → Prop, (∀ a, S a ↔ S1 a ∨ S2 a) ∧ (∀ a, S1 a → ¬ S2 a) ∧ P.at_ H S1 ∧ Q.at_ H S2,
  fun ⟨S1, S2, e, d, h1, h2⟩ g => ⟨S1, S2, e, d, P.loc h1 ⟨fun a s => g.1 a ((e a).mpr (.inl s)), g.2⟩, Q.loc h2 ⟨fun a s => g.1 a ((e a).mpr (.inr s)), g.2⟩⟩,
  fun ⟨S1, S2, e, d, h1, h2⟩ a s => by
    rcases (e a).mp s with s | s
    · exact P.dom h1 a s
    · exact Q.dom h2 a s⟩
/-- many, apart from each other -/
def all : List As → As
  | [] => emp
  | P :: L => star P (all L)
def St (L : List As) (H : Hp) : Prop := ∃ S, (all L).at_ H S
/-- what entails what, for the same cells or fewer -/
def Ent (L M : List As) : Prop := ∀ H S, (all L).at_ H S → ∃ S', (∀ a, S' a → S a) ∧ (all M).at_ H S'
theorem Ent.refl (L : List As) : Ent L L := fun _ S h => ⟨S, fun _ s => s, h⟩
theorem Ent.trans {L M N : List As} (a : Ent L M) (b : Ent M N) : Ent L N := fun H S h => by
  obtain ⟨S1, i1, h1⟩ := a H S h
  obtain ⟨S2, i2, h2⟩ := b H S1 h1
  exact ⟨S2, fun x s => i1 x (i2 x s), h2⟩
theorem Ent.cons {P : As} {L M : List As} (a : Ent L M) : Ent (P :: L) (P :: M) := fun H S ⟨S1, S2, e, d, h1, h2⟩ => by
  obtain ⟨S3, i3, h3⟩ := a H S2 h2
  exact ⟨fun x => S1 x ∨ S3 x, fun x s => (e x).mpr (s.imp id (i3 x)), S1, S3, fun _ => Iff.rfl, fun x s t => d x s (i3 x t), h1, h3⟩
theorem Ent.swap {P Q : As} {L : List As} : Ent (P :: Q :: L) (Q :: P :: L) := fun H S ⟨S1, S2, e, d, h1, S3, S4, e2, d2, h3, h4⟩ =>
  ⟨S, fun _ s => s, S3, fun x => S1 x ∨ S4 x, fun x => by rw [e x, e2 x]; exact ⟨fun h => by rcases h with h | h | h <;> simp [h], fun h => by rcases h with h | h | h <;> simp [h]⟩,
    fun x s t => by
      rcases t with t | t
      · exact d x t ((e2 x).mpr (.inl s))
      · exact d2 x s t, h3, S1, S4, fun _ => Iff.rfl, fun x s t => d x s ((e2 x).mpr (.inr t)), h1, h4⟩
theorem Ent.drop {P : As} {L : List As} : Ent (P :: L) L := fun H S ⟨S1, S2, e, d, h1, h2⟩ => ⟨S2, fun x s => (e x).mpr (.inr s), h2⟩
theorem Ent.st {L M : List As} {H : Hp} (a : Ent L M) (h : St L H) : St M H := let ⟨S, h⟩ := h; let ⟨S', _, h'⟩ := a H S h; ⟨S', h'⟩
theorem Ent.app {L M : List As} (a : Ent L M) : ∀ R : List As, Ent (R ++ L) (R ++ M)
  | [] => a
  | _ :: R => (a.app R).cons
/-- P stands in L, R is the rest -/
inductive Sel (P : As) : List As → List As → Prop
  | here {R : List As} : Sel P (P :: R) R
  | there {Q : As} {L R : List As} : Sel P L R → Sel P (Q :: L) (Q :: R)
theorem Sel.ent {P : As} {L R : List As} (s : Sel P L R) : Ent L (P :: R) := by
  induction s with
  | here => exact Ent.refl _
  | there s ih => exact (Ent.cons ih).trans Ent.swap
theorem Sel.ent' {P : As} {L R : List As} (s : Sel P L R) : Ent (P :: R) L := by
  induction s with
  | here => exact Ent.refl _
  | there s ih => exact Ent.swap.trans (Ent.cons ih)
inductive Sels : List As → List As → List As → Prop
  | nil {L : List As} : Sels [] L L
  | cons {P : As} {Ps L M R : List As} : Sel P L M → Sels Ps M R → Sels (P :: Ps) L R
theorem Sels.all : ∀ L : List As, Sels L L []
  | [] => .nil
  | _ :: L => .cons .here (Sels.all L)
theorem Sels.skip {Q : As} {Ps L R : List As} (s : Sels Ps L R) : Sels Ps (Q :: L) (Q :: R) := by
  induction s with
  | nil => exact .nil
  | cons a _ ih => exact .cons (.there a) ih
theorem Sels.ent {Ps L R : List As} (s : Sels Ps L R) : Ent L (Ps ++ R) := by
  induction s with
  | nil => exact Ent.refl _
  | cons a _ ih => exact a.ent.trans ih.cons
theorem Sels.ent' {Ps L R : List As} (s : Sels Ps L R) : Ent (Ps ++ R) L := by
  induction s with
  | nil => exact Ent.refl _
  | cons a _ ih => exact ih.cons.trans a.ent'
section
variable {L M R : List As} {H : Hp} {a p : Addr} {o o' : HO} {P Q : As} {φ : Prop} {xs : List V}
theorem St.sel (h : St L H) (s : Sel P L R) : St (P :: R) H := s.ent.st h
theorem St.sels {Ps : List As} (h : St L H) (s : Sels Ps L R) : St (Ps ++ R) H := s.ent.st h
theorem St.get0 (h : St (cell a o :: R) H) : H a = some o := by
  obtain ⟨S, S1, S2, e, d, h1, h2⟩ := h
  exact h1.2
theorem St.get (h : St L H) (s : Sel (cell a o) L R) : H a = some o := (h.sel s).get0
theorem St.geti (h : St L H) (s : Sel (icell a o) L R) : H a = some o := by
  obtain ⟨S, S1, S2, e, d, h1, h2⟩ := h.sel s
  exact h1.2.1
theorem St.upd0 (h : St (cell a o :: R) H) (i : ¬ Imm o) : St (cell a o' :: R) (upd H a o') := by
  obtain ⟨S, S1, S2, e, d, ⟨h0, h1⟩, h2⟩ := h
  refine ⟨S, S1, S2, e, d, ⟨h0, upd_same⟩, (all R).loc h2 ⟨fun b s => upd_ne fun z => ?_, fun b u g j => ?_⟩⟩
  · exact d a ((h0 a).mpr rfl) (z ▸ s)
  · rw [upd_ne fun z => ?_, g]
    subst z
    rw [h1] at g
    cases g
    exact i j
theorem St.upd (h : St L H) (s : Sel (cell a o) L R) (i : ¬ Imm o) : St (cell a o' :: R) (upd H a o') := (h.sel s).upd0 i
theorem St.agree_new (n : H p = none) {S : Addr → Prop} (dm : ∀ b, S b → H b ≠ none) : Agree S H (L2.upd H p o) := ⟨fun b s => upd_ne fun z => dm b s (z ▸ n), fun b u g _ => by rw [upd_ne fun z => ?_, g]; subst z; rw [n] at g; cases g⟩
theorem St.new (h : St L H) (n : H p = none) : St (cell p o :: L) (L2.upd H p o) := by
  obtain ⟨S, h⟩ := h
  have dm := (all L).dom h
  refine ⟨fun b => b = p ∨ S b, fun b => b = p, S, fun _ => Iff.rfl, fun b z s => dm b s (z ▸ n), ⟨fun _ => Iff.rfl, upd_same⟩, (all L).loc h (St.agree_new n dm)⟩
theorem St.newi (h : St L H) (n : H p = none) (i : Imm o) : St (icell p o :: L) (L2.upd H p o) := by
  obtain ⟨S, h⟩ := h
  have dm := (all L).dom h
  exact ⟨S, fun _ => False, S, fun _ => ⟨.inr, fun z => z.elim (fun f => f.elim) id⟩, fun _ f => f.elim, ⟨fun _ f => f, upd_same, i⟩, (all L).loc h (St.agree_new n dm)⟩
theorem St.keep (h : St L H) (n : H p = none) : St L (L2.upd H p o) := by
  obtain ⟨S, h⟩ := h
  exact ⟨S, (all L).loc h (St.agree_new n ((all L).dom h))⟩
theorem St.cons0 {L : List As} (h : St (P :: L) H) : St L H := Ent.drop.st h
theorem St.drop (h : St L H) (s : Sel P L R) : St R H := (h.sel s).cons0
theorem St.dup (h : St L H) (s : Sel (icell a o) L R) : St (icell a o :: L) H := by
  obtain ⟨S, S1, S2, e, d, h1, h2⟩ := h.sel s
  obtain ⟨S0, h0⟩ := h
  exact ⟨S0, S1, S0, fun b => ⟨.inr, fun z => z.elim (fun f => absurd f (h1.1 b)) id⟩, fun b f => absurd f (h1.1 b), h1, h0⟩
theorem ent_ex {α : Type} {P : α → As} (x : α) : Ent (P x :: R) (ex P :: R) := fun H S ⟨S1, S2, e, d, h1, h2⟩ => ⟨S, fun _ s => s, S1, S2, e, d, ⟨x, h1⟩, h2⟩
theorem St.exU {α : Type} {P : α → As} (h : St (ex P :: R) H) : ∃ x, St (P x :: R) H := by
  obtain ⟨S, S1, S2, e, d, ⟨x, h1⟩, h2⟩ := h
  exact ⟨x, S, S1, S2, e, d, h1, h2⟩
theorem St.exI {α : Type} {P : α → As} (x : α) (h : St (P x :: R) H) : St (ex P :: R) H := (ent_ex x).st h
theorem St.purU (h : St (pur φ :: R) H) : φ ∧ St R H := by
  refine ⟨?_, h.cons0⟩
  obtain ⟨S, S1, S2, e, d, ⟨_, f⟩, h2⟩ := h
  exact f
theorem St.purI (f : φ) (h : St R H) : St (pur φ :: R) H := by
  obtain ⟨S, h⟩ := h
  exact ⟨S, fun _ => False, S, fun _ => ⟨.inr, fun z => z.elim (fun f => f.elim) id⟩, fun _ f => f.elim, ⟨fun _ f => f, f⟩, h⟩
theorem star_assoc1 {P Q T : As} {H : Hp} {S : Addr → Prop} (h : (star (star P Q) T).at_ H S) : (star P (star Q T)).at_ H S := by
  obtain ⟨S1, S2, e, d, ⟨S3, S4, e2, d2, h3, h4⟩, h2⟩ := h
  refine ⟨S3, fun x => S4 x ∨ S2 x, fun x => by rw [e x, e2 x]; exact or_assoc, fun x s t => ?_, h3, S4, S2, fun _ => Iff.rfl, fun x s t => d x ((e2 x).mpr (.inr s)) t, h4, h2⟩
  rcases t with t | t
  · exact d2 x s t
  · exact d x ((e2 x).mpr (.inl s)) t
theorem star_assoc2 {P Q T : As} {H : Hp} {S : Addr → Prop} (h : (star P (star Q T)).at_ H S) : (star (star P Q) T).at_ H S := by
  obtain ⟨S1, S2, e, d, h1, S3, S4, e2, d2, h3, h4⟩ := h
  refine ⟨fun x => S1 x ∨ S3 x, S4, fun x => by rw [e x, e2 x]; exact or_assoc.symm, fun x s t => ?_, ⟨S1, S3, fun _ => Iff.rfl, fun x s t => d x s ((e2 x).mpr (.inl t)), h1, h3⟩, h4⟩
  rcases s with s | s
  · exact d x s ((e2 x).mpr (.inr t))
  · exact d2 x s t
theorem ent_allU : ∀ (L R : List As), Ent (all L :: R) (L ++ R)
  | [], R => Ent.drop
  | P :: L, R => fun H S h => by
    have h' := star_assoc1 h
    exact (Ent.cons (ent_allU L R)) H S h'
theorem ent_allI : ∀ (L R : List As), Ent (L ++ R) (all L :: R)
  | [], R => fun H S h => ⟨S, fun _ s => s, fun _ => False, S, fun _ => ⟨.inr, fun z => z.elim (fun f => f.elim) id⟩, fun _ f => f.elim, fun _ f => f, h⟩
  | P :: L, R => fun H S h => by
    obtain ⟨S', i, h'⟩ := (Ent.cons (ent_allI L R)) H S h
    exact ⟨S', i, star_assoc2 h'⟩
theorem St.allU (h : St (all L :: R) H) : St (L ++ R) H := (ent_allU L R).st h
theorem St.allI (h : St (L ++ R) H) : St (all L :: R) H := (ent_allI L R).st h
/-- a new thing in a question -/
theorem nw {Rk : V → Hp → Prop} (h : St L H) (q : ∀ p H', St (cell p o :: L) H' → Rk (.ref p) H') : ∀ p, H p = none → Rk (.ref p) (L2.upd H p o) := fun p n => q p _ (h.new n)
theorem nwT {Rk : V → Hp → Prop} (h : St L H) (q : ∀ p H', St (tcell p xs :: L) H' → Rk (.ref p) H') : ∀ p, H p = none → Rk (.ref p) (L2.upd H p (.tup xs)) := fun p n => q p _ (h.newi n trivial)
theorem wr {Rk : Hp → Prop} (h : St L H) (s : Sel (cell a o) L R) (i : ¬ Imm o) (q : ∀ H', St (cell a o' :: R) H' → Rk H') : Rk (L2.upd H a o') := q _ (h.upd s i)
end
/-! ### promises over footprints, framed -/
/-- an assertion from a predicate with a list of cells -/
def fpa (P : Hp → List Addr → Prop) (l : ∀ (H H' : Hp) (A : List Addr), P H A → Agree (fun a => a ∈ A) H H' → P H' A) (d : ∀ (H : Hp) (A : List Addr), P H A → ∀ a, a ∈ A → H a ≠ none) : As :=
  ⟨fun H S => ∃ A : List Addr, (∀ a, S a ↔ a ∈ A) ∧ P H A, fun ⟨A, e, h⟩ g => ⟨A, e, l _ _ _ h ⟨fun a s => g.1 a ((e a).mpr s), g.2⟩⟩, fun ⟨A, e, h⟩ a s => d _ _ h a ((e a).mp s)⟩
theorem Agree.of_fp {A : List Addr} {S : Addr → Prop} {H H' : Hp} (f : Fp A H H') (im : ∀ a ∈ A, ∀ o, H a = some o → ¬ Imm o) (dm : ∀ b, S b → H b ≠ none) (dj : ∀ b, S b → b ∉ A) : Agree S H H' :=
  ⟨fun b s => by
    cases e : H b with
    | none => exact absurd e (dm b s)
    | some o => exact f b o e (dj b s), fun b o e i => f b o e fun m => im b m o e i⟩
end Sl
namespace Sl
open PySem PySem.Spec PyProof.Rows L2 Sx Rd
/-! ### steps -/
section
variable {K : PySem.W.Frag} {D : Ends} {σ : L2.St} {L R : List As} {H : Hp} {Q : VK} {Rk : Hp → Prop} {a b l p C dx : Addr} {f : Str} {fs fs' : List (Str × V)} {v x y : V} {xs ys : List V} {tl : TA} {te ta tb tv td ty : TE} {i j : Nat} {n : Int}
theorem k_setS (hs : St L H) (s : Sel (cell a (.ins C dx fs)) L R) (c : Cls K C) (n : NoAttr K C f) (hp : putF f y fs = fs') (l : fs.length < 1000) (q : ∀ H', St (cell a (.ins C dx fs') :: R) H' → Rk H') : kSet K f y (.ref a) H Rk :=
  k_set (hs.get s) c n hp l (q _ (hs.upd s id))
def kAug (K : PySem.W.Frag) (tv : TE) (rd : V → V → Hp → VK → Prop) (f : Str) (σ : L2.St) (x : V) (H1 : Hp) (R : Hp → Prop) : Prop := ∃ a C dx fs v, x = .ref a ∧ H1 a = some (.ins C dx fs) ∧ Cls K C ∧ NoAttr K C f ∧ fs.lookup f = some v ∧
  tv σ H1 fun y H2 => rd v y H2 fun z H3 => ∃ dx' fs', H3 a = some (.ins C dx' fs') ∧ fs'.length < 1000 ∧ R (upd H3 a (.ins C dx' (putF f z fs')))
theorem s_aug {rd : V → V → Hp → VK → Prop} (h : ta σ H fun x H1 => kAug K tv rd f σ x H1 (D.nx σ)) : sFldAug K ta tv rd f D σ H := h
/-- self.f += e, e an int that touches nothing -/
theorem k_augA {m : Int} (hs : St L H) (s : Sel (cell a (.ins C dx fs)) L R) (c : Cls K C) (na : NoAttr K C f) (lk : fs.lookup f = some (.int m)) (hp : putF f (.int (m + n)) fs = fs') (l : fs.length < 1000)
    (ht : ∀ Q' : VK, Q' (.int n) H → tv σ H Q') (q : ∀ H', St (cell a (.ins C dx fs') :: R) H' → Rk H') : kAug K tv rAdd f σ (.ref a) H Rk :=
  ⟨a, C, dx, fs, _, rfl, hs.get s, c, na, lk, ht _ ⟨m, n, rfl, rfl, dx, fs, hs.get s, l, by rw [hp]; exact q _ (hs.upd s id)⟩⟩
theorem c_appS (hs : St L H) (s : Sel (cell l (.lst xs)) L R) (z : xs.length < 100000) (q : ∀ H', St (cell l (.lst (xs ++ [v])) :: R) H' → Q .non H') : rAppend (.ref l) [v] H Q := c_app (hs.get s) (szl z) (q _ (hs.upd s id))
theorem c_pop0S (hs : St L H) (s : Sel (cell l (.lst (x :: xs))) L R) (z : xs.length < 100000) (q : ∀ H', St (cell l (.lst xs) :: R) H' → Q x H') : rPopAt (.ref l) [.int 0] H Q := c_pop0 (hs.get s) z (q _ (hs.upd s id))
theorem c_popS (hs : St L H) (s : Sel (cell l (.lst (xs ++ [x]))) L R) (q : ∀ H', St (cell l (.lst xs) :: R) H' → Q x H') : rPop (.ref l) [] H Q :=
  ⟨l, _, x, rfl, rfl, hs.get s, by simp, by rw [List.dropLast_concat]; exact q _ (hs.upd s id)⟩
theorem c_extS (hs : St L H) (s : Sel (cell l (.lst xs)) L R) (h : H b = some (.lst ys)) (z : xs.length + ys.length ≤ 100000) (q : ∀ H', St (cell l (.lst (xs ++ ys)) :: R) H' → Q .non H') : rExtend (.ref l) [.ref b] H Q :=
  ⟨l, b, xs, ys, rfl, rfl, hs.get s, h, sz z, q _ (hs.upd s id)⟩
theorem c_clrS (hs : St L H) (s : Sel (cell l (.lst xs)) L R) (q : ∀ H', St (cell l (.lst []) :: R) H' → Q .non H') : rClear (.ref l) [] H Q := ⟨l, xs, rfl, rfl, hs.get s, q _ (hs.upd s id)⟩
theorem c_setLS (hs : St L H) (s : Sel (cell l (.lst xs)) L R) (e : n = (j : Int)) (hj : j < xs.length) (q : ∀ H', St (cell l (.lst (xs.set j v)) :: R) H' → Rk H') : rSetL (.ref l) (.int n) v H Rk := c_setL (hs.get s) e hj (q _ (hs.upd s id))
def kNewL (xs : List V) (H : Hp) (Q : VK) : Prop := xs.length ≤ sizeLine ∧ ∀ p, H p = none → Q (.ref p) (upd H p (.lst xs))
theorem e_lstS (h : tl σ H fun xs H1 => kNewL xs H1 Q) : tLst tl σ H Q := h
theorem k_newL (hs : St L H) (z : xs.length ≤ 100000) (q : ∀ p H', St (cell p (.lst xs) :: L) H' → Q (.ref p) H') : kNewL xs H Q := ⟨sz z, fun p n => q p _ (hs.new n)⟩
def kNewT (xs : List V) (H : Hp) (Q : VK) : Prop := xs.length ≤ sizeLine ∧ ∀ p, H p = none → Q (.ref p) (upd H p (.tup xs))
theorem e_tupS (h : tl σ H fun xs H1 => kNewT xs H1 Q) : tTup tl σ H Q := h
theorem k_newT (hs : St L H) (z : xs.length ≤ 100000) (q : ∀ p H', St (tcell p xs :: L) H' → Q (.ref p) H') : kNewT xs H Q := ⟨sz z, fun p n => q p _ (hs.newi n trivial)⟩
theorem o_catS {zs : List V} (hs : St L H) (h : H l = some (.lst xs)) (h' : H b = some (.lst zs)) (z : xs.length + zs.length ≤ 100000) (q : ∀ p H', St (cell p (.lst (xs ++ zs)) :: L) H' → Q (.ref p) H') : rCat (.ref l) (.ref b) H Q := o_cat h h' (sz z) fun p n => q p _ (hs.new n)
theorem o_catAS {zs : List V} (hs : St L H) (h : SqT K H l xs) (h' : SqT K H b zs) (z : xs.length + zs.length ≤ 100000) (n1 : xs ≠ []) (n2 : zs ≠ []) (q : ∀ p H', St (tcell p (xs ++ zs) :: L) H' → Q (.ref p) H') : rCatA K (.ref l) (.ref b) H Q :=
  ⟨l, b, xs, zs, rfl, rfl, h, h', sz z, fun e => absurd e n1, fun _ e => absurd e n2, fun _ _ p n => q p _ (hs.newi n trivial)⟩
theorem o_slLS {lo hi : Option Int} (hs : St L H) (h : SqL K H a xs) (q : ∀ p H', St (cell p (.lst (cutV xs lo hi)) :: L) H' → Q (.ref p) H') : rSlL K (.ref a) lo hi H Q := o_slL h fun p n => q p _ (hs.new n)
theorem o_repS {Kx : PySem.W.Frag} (hs : St L H) (h : H l = some (.lst [v])) (h1 : 0 ≤ n) (h2 : n ≤ 100000) (q : ∀ p H', St (cell p (.lst (List.replicate n.toNat v)) :: L) H' → Q (.ref p) H') : rRep (.ref l) (.int n) H Q :=
  Rd.o_rep (K := Kx) h h1 (by simp; omega) (by omega) fun p n' => by
    have e : ∀ k : Nat, (List.replicate k [v]).flatten = List.replicate k v := fun k => by
      induction k with
      | zero => rfl
      | succ k ih => rw [List.replicate_succ, List.flatten_cons, ih]; rfl
    rw [e]; exact q p _ (hs.new n')
theorem c_lsS (hs : St L H) (h : SqL K H p ys) (q : ∀ l H', St (cell l (.lst ys) :: L) H' → Q (.ref l) H') : rLs K [.ref p] H Q := c_ls h fun l n => q l _ (hs.new n)
def kMake (C : Addr) (sp : Sp) (E : XK) (vs : List V) (H1 : Hp) (Q : VK) : Prop := ∀ x dx, H1 x = none → H1 dx = none → dx ≠ x → sp (.ref x :: vs) (upd (upd H1 dx (.own x)) x (.ins C dx [])) (fun v H2 => v = .non ∧ Q (.ref x) H2) E
theorem e_makeS {sp : Sp} {ES : L2.St → XK} (h : tl σ H fun vs H1 => kMake C sp (ES σ) vs H1 Q) : tMakeS C sp ES tl σ H Q := h
theorem k_make {sp : Sp} {E : XK} {vs : List V} (hs : St L H) (q : ∀ x dx H', St (cell x (.ins C dx []) :: L) H' → sp (.ref x :: vs) H' (fun v H2 => v = .non ∧ Q (.ref x) H2) E) : kMake C sp E vs H Q := fun x dx n1 n2 ne =>
  q x dx _ ((hs.keep n2).new (by rw [upd_ne ne.symm]; exact n1))
def kMakeK (C : Addr) (m : Nat) (sp : Sp) (gV : List V → List V → List V) (E : XK) (zs : List V) (H2 : Hp) (Q : VK) : Prop := zs.length = m ∧ ∀ x dx, H2 x = none → H2 dx = none → dx ≠ x →
  sp (gV [.ref x] zs) (upd (upd H2 dx (.own x)) x (.ins C dx [])) (fun v H3 => v = .non ∧ Q (.ref x) H3) E
theorem e_makeKS {m : Nat} {sp : Sp} {gV : List V → List V → List V} {ES : L2.St → XK} (h : tl σ H fun zs H2 => kMakeK C m sp gV (ES σ) zs H2 Q) : tMakeKS C m sp gV ES tl σ H Q := h
theorem k_makeK {m : Nat} {sp : Sp} {gV : List V → List V → List V} {E : XK} {zs : List V} (hs : St L H) (hm : zs.length = m) (q : ∀ x dx H', St (cell x (.ins C dx []) :: L) H' → sp (gV [.ref x] zs) H' (fun v H2 => v = .non ∧ Q (.ref x) H2) E) : kMakeK C m sp gV E zs H Q :=
  ⟨hm, fun x dx n1 n2 ne => q x dx _ ((hs.keep n2).new (by rw [upd_ne ne.symm]; exact n1))⟩
def kNewD (H : Hp) (Q : VK) : Prop := ∀ p, H p = none → Q (.ref p) (upd H p (.dK []))
theorem e_dnew (h : kNewD H Q) : tDNewK σ H Q := h
theorem k_newD (hs : St L H) (q : ∀ p H', St (cell p (.dK []) :: L) H' → Q (.ref p) H') : kNewD H Q := fun p n => q p _ (hs.new n)
theorem k_dputS {kvs kvs' : List (Key × V)} {s : Str} (hs : St L H) (se : Sel (cell a (.dK kvs)) L R) (hl : kvs.length < 100000) (e : putK kvs (Sum.inr s) v = kvs') (q : ∀ H', St (cell a (.dK kvs') :: R) H' → Rk H') : kDPut v (.ref a) (.str s) H Rk :=
  k_dput (hs.get se) hl (by rw [e]; exact q _ (hs.upd se id))
def kRaise (W : WX) (C : Addr) (fld : Str) (σ : L2.St) (v : V) (H1 : Hp) : Prop := okV v ∧ ∀ d, H1 d = none → W (.ref C) (some d) σ (upd H1 d (.xd [(fld, v)]))
theorem s_raiseS {W : WX} {fld : Str} (h : te σ H fun v H1 => kRaise W C fld σ v H1) : tRaiseE W C fld te D σ H := h
theorem k_raise {W : WX} {fld : Str} (hs : St L H) (o : okV v) (q : ∀ d H', St (icell d (.xd [(fld, v)]) :: L) H' → W (.ref C) (some d) σ H') : kRaise W C fld σ v H := ⟨o, fun d n => q d _ (hs.newi n trivial)⟩
/-! ### persistent facts -/
def per (φ : Hp → Prop) (m : ∀ (H H' : Hp), φ H → (∀ a o, H a = some o → Imm o → H' a = some o) → φ H') : As := ⟨fun H S => (∀ a, ¬ S a) ∧ φ H, fun h g => ⟨h.1, m _ _ h.2 g.2⟩, fun h a s => absurd s (h.1 a)⟩
theorem St.perU {φ : Hp → Prop} {m : ∀ (H H' : Hp), φ H → (∀ a o, H a = some o → Imm o → H' a = some o) → φ H'} (h : St L H) (s : Sel (per φ m) L R) : φ H := by
  obtain ⟨S, S1, S2, e, d, h1, h2⟩ := h.sel s
  exact h1.2
theorem St.perI {φ : Hp → Prop} {m : ∀ (H H' : Hp), φ H → (∀ a o, H a = some o → Imm o → H' a = some o) → φ H'} (h : St L H) (f : φ H) : St (per φ m :: L) H := by
  obtain ⟨S, h⟩ := h
  exact ⟨S, fun _ => False, S, fun _ => ⟨.inr, fun z => z.elim (fun f => f.elim) id⟩, fun _ f => f.elim, ⟨fun _ f => f, f⟩, h⟩
theorem St.perD {φ : Hp → Prop} {m : ∀ (H H' : Hp), φ H → (∀ a o, H a = some o → Imm o → H' a = some o) → φ H'} (h : St L H) (s : Sel (per φ m) L R) : St (per φ m :: L) H := h.perI (h.perU s)
end
end Sl
namespace Sl
open PySem PySem.Spec PyProof.Rows L2 Sx Rd
section
variable {L R : List As} {H H1 : Hp} {Q0 : As} {A A' ft : List Addr} {P P' : Hp → List Addr → Prop}
/-- from a promise over footprints to assertions -/
theorem step_gen {l' : ∀ (H H' : Hp) (A : List Addr), P' H A → Agree (fun a => a ∈ A) H H' → P' H' A} {d' : ∀ (H : Hp) (A : List Addr), P' H A → ∀ a, a ∈ A → H a ≠ none}
    (h : St (Q0 :: R) H) (hA : ∀ S, Q0.at_ H S → ∀ x ∈ A, S x) (f : Fp ft H H1) (hf : ∀ x ∈ ft, (x ∈ A ∨ H x = none) ∧ ∀ o, H x = some o → ¬ Imm o) (p : P' H1 A') (hA' : ∀ x ∈ A', x ∈ A ∨ H x = none) : St (fpa P' l' d' :: R) H1 := by
  obtain ⟨S, S1, S2, e, d, h1, h2⟩ := h
  have dm := (all R).dom h2
  have hS := hA S1 h1
  refine ⟨fun x => x ∈ A' ∨ S2 x, fun x => x ∈ A', S2, fun _ => Iff.rfl, fun x m s => ?_, ⟨A', fun _ => Iff.rfl, p⟩, (all R).loc h2 ⟨fun b s => ?_, fun b o g i => f b o g fun m => (hf b m).2 o g i⟩⟩
  · rcases hA' x m with m | m
    · exact d x (hS x m) s
    · exact dm x s m
  · cases g : H b with
    | none => exact absurd g (dm b s)
    | some o =>
      refine f b o g fun m => ?_
      rcases (hf b m).1 with q | q
      · exact d b (hS b q) s
      · rw [q] at g; cases g
theorem fpa_U {l : ∀ (H H' : Hp) (A : List Addr), P H A → Agree (fun a => a ∈ A) H H' → P H' A} {dd : ∀ (H : Hp) (A : List Addr), P H A → ∀ a, a ∈ A → H a ≠ none} (h : St (fpa P l dd :: R) H) : ∃ A, P H A ∧
    ∀ (P' : Hp → List Addr → Prop) (l' : ∀ (H H' : Hp) (A : List Addr), P' H A → Agree (fun a => a ∈ A) H H' → P' H' A) (d' : ∀ (H : Hp) (A : List Addr), P' H A → ∀ a, a ∈ A → H a ≠ none) (ft A' : List Addr) (H1 : Hp),
      Fp ft H H1 → (∀ x ∈ ft, (x ∈ A ∨ H x = none) ∧ ∀ o, H x = some o → ¬ Imm o) → P' H1 A' → (∀ x ∈ A', x ∈ A ∨ H x = none) → St (fpa P' l' d' :: R) H1 := by
  obtain ⟨S, S1, S2, e, d, ⟨A, eA, h1⟩, h2⟩ := id h
  refine ⟨A, h1, fun P' l' d' ft A' H1 f hf p hA' => ?_⟩
  have h' : St (fpa (fun H A1 => A1 = A ∧ P H A) (fun H H' A1 ⟨x, y⟩ g => ⟨x, l _ _ _ y ⟨fun a m => g.1 a (by rw [x]; exact m), g.2⟩⟩) (fun H A1 ⟨x, y⟩ a m => by rw [x] at m; exact dd _ _ y a m) :: R) H := ⟨S, S1, S2, e, d, ⟨A, eA, rfl, h1⟩, h2⟩
  refine step_gen h' (fun S ⟨A1, e1, e2, _⟩ x m => (e1 x).mpr (by rw [e2]; exact m)) f hf p hA'
theorem fpa_new {l' : ∀ (H H' : Hp) (A : List Addr), P' H A → Agree (fun a => a ∈ A) H H' → P' H' A} {d' : ∀ (H : Hp) (A : List Addr), P' H A → ∀ a, a ∈ A → H a ≠ none}
    (h : St L H) (f : Fp [] H H1) (p : P' H1 A') (n : ∀ x ∈ A', H x = none) : St (fpa P' l' d' :: L) H1 := by
  have h' : St (emp :: L) H := by
    obtain ⟨S, h⟩ := h
    exact ⟨S, fun _ => False, S, fun _ => ⟨.inr, fun z => z.elim (fun f => f.elim) id⟩, fun _ f => f.elim, fun _ f => f, h⟩
  exact step_gen (A := []) h' (fun _ _ x m => by simp at m) f (fun x m => by simp at m) p fun x m => .inr (n x m)
theorem fpa_cell {a : Addr} {o : HO} {l' : ∀ (H H' : Hp) (A : List Addr), P' H A → Agree (fun a => a ∈ A) H H' → P' H' A} {d' : ∀ (H : Hp) (A : List Addr), P' H A → ∀ a, a ∈ A → H a ≠ none}
    (h : St (cell a o :: R) H) (i : ¬ Imm o) (f : Fp [a] H H1) (p : P' H1 A') (n : ∀ x ∈ A', x = a ∨ H x = none) : St (fpa P' l' d' :: R) H1 :=
  step_gen (A := [a]) h (fun S g x m => (g.1 x).mpr (List.mem_singleton.mp m)) f (fun x m => ⟨.inl m, fun u e => by rw [List.mem_singleton.mp m, h.get0] at e; cases e; exact i⟩) p fun x m => (n x m).imp (fun e => by rw [e]; simp) id
theorem St.keepF (h : St L H) (f : Fp [] H H1) : St L H1 := by
  obtain ⟨S, h⟩ := h
  exact ⟨S, (all L).loc h (Agree.of_fp f (fun a m => by simp at m) ((all L).dom h) fun b s => by simp)⟩
/-! ### lists of owned things -/
def lA {α : Type} (P : V → α → As) : List V → List α → As
  | [], [] => emp
  | v :: vs, x :: xs => star (P v x) (lA P vs xs)
  | _, _ => pur False
variable {α : Type} {Pa : V → α → As} {v : V} {x : α} {vs ws : List V} {xs ys : List α}
theorem lA.len (h : St (lA Pa vs xs :: R) H) : vs.length = xs.length := by
  induction vs generalizing xs R with
  | nil =>
    cases xs with
    | nil => rfl
    | cons x xs => exact h.purU.1.elim
  | cons v vs ih =>
    cases xs with
    | nil => exact h.purU.1.elim
    | cons x xs =>
      have h' : St (lA Pa vs xs :: Pa v x :: R) H := by
        obtain ⟨S, h⟩ := h
        exact Ent.swap.st ⟨S, star_assoc1 h⟩
      simp [ih h']
theorem St.starU {P Q : As} (h : St (star P Q :: R) H) : St (P :: Q :: R) H := by
  obtain ⟨S, h⟩ := h
  exact ⟨S, star_assoc1 h⟩
theorem St.starI {P Q : As} (h : St (P :: Q :: R) H) : St (star P Q :: R) H := by
  obtain ⟨S, h⟩ := h
  exact ⟨S, star_assoc2 h⟩
theorem lA.consU (h : St (lA Pa vs (x :: xs) :: R) H) : ∃ v ws, vs = v :: ws ∧ St (Pa v x :: lA Pa ws xs :: R) H := by
  cases vs with
  | nil => exact h.purU.1.elim
  | cons v ws => exact ⟨v, ws, rfl, h.starU⟩
theorem lA.consI (h : St (Pa v x :: lA Pa vs xs :: R) H) : St (lA Pa (v :: vs) (x :: xs) :: R) H := h.starI
theorem lA.nilI (h : St R H) : St (lA Pa [] [] :: R) H := by
  obtain ⟨S, h⟩ := h
  exact ⟨S, fun _ => False, S, fun _ => ⟨.inr, fun z => z.elim (fun f => f.elim) id⟩, fun _ f => f.elim, fun _ f => f, h⟩
theorem lA.nilU (h : St (lA Pa vs [] :: R) H) : vs = [] := List.eq_nil_of_length_eq_zero (lA.len h)
theorem lA.appI (h : St (lA Pa vs xs :: lA Pa ws ys :: R) H) : St (lA Pa (vs ++ ws) (xs ++ ys) :: R) H := by
  induction vs generalizing xs R with
  | nil =>
    cases xs with
    | nil => exact h.cons0
    | cons x xs => exact h.purU.1.elim
  | cons v vs ih =>
    cases xs with
    | nil => exact h.purU.1.elim
    | cons x xs =>
      have h1 := (Ent.cons Ent.swap).st (Ent.swap.st h.starU)
      exact lA.consI (Ent.swap.st (ih (R := Pa v x :: R) ((Ent.cons Ent.swap).st h1 |> fun h => (Ent.cons Ent.swap).st h)))
theorem lA.snocI (h : St (lA Pa vs xs :: Pa v x :: R) H) : St (lA Pa (vs ++ [v]) (xs ++ [x]) :: R) H := by
  refine lA.appI (Ent.swap.st ?_)
  refine lA.consI ?_
  have h1 := Ent.swap.st h
  have h2 : St (lA Pa [] [] :: Pa v x :: lA Pa vs xs :: R) H := lA.nilI h1
  exact Ent.swap.st h2
theorem lA.appU {xs ys : List α} (h : St (lA Pa vs (xs ++ ys) :: R) H) : ∃ v1 v2, vs = v1 ++ v2 ∧ St (lA Pa v1 xs :: lA Pa v2 ys :: R) H := by
  induction xs generalizing vs R with
  | nil => exact ⟨[], vs, rfl, lA.nilI h⟩
  | cons x xs ih =>
    obtain ⟨v, ws, rfl, h1⟩ := lA.consU h
    obtain ⟨v1, v2, rfl, h2⟩ := ih (Ent.swap.st h1)
    exact ⟨v :: v1, v2, rfl, lA.consI (Ent.swap.st ((Ent.cons Ent.swap).st h2))⟩
/-- all but the i-th -/
def lH (P : V → α → As) (vs : List V) (xs : List α) (i : Nat) : As := star (lA P (vs.take i) (xs.take i)) (lA P (vs.drop (i + 1)) (xs.drop (i + 1)))
theorem lA.out {i : Nat} (h : St (lA Pa vs xs :: R) H) (hx : xs[i]? = some x) : ∃ v, vs[i]? = some v ∧ St (Pa v x :: lH Pa vs xs i :: R) H := by
  obtain ⟨hi, rfl⟩ := List.getElem?_eq_some_iff.mp hx
  have e : xs = xs.take i ++ (xs[i] :: xs.drop (i + 1)) := by rw [List.getElem_cons_drop, List.take_append_drop]
  rw [e] at h
  obtain ⟨v1, v2, rfl, h1⟩ := lA.appU h
  have l1 : v1.length = i := by rw [lA.len h1, List.length_take]; omega
  obtain ⟨v, ws, rfl, h2⟩ := lA.consU (Ent.swap.st h1)
  refine ⟨v, by rw [List.getElem?_append_right (by omega), l1, Nat.sub_self]; rfl, ?_⟩
  have e1 : (v1 ++ v :: ws).take i = v1 := by rw [← l1, List.take_left]
  have e2 : (v1 ++ v :: ws).drop (i + 1) = ws := by rw [← l1, List.drop_append]; simp
  unfold lH
  rw [e1, e2]
  have h3 := (Ent.cons Ent.swap).st h2
  have h4 : St (Pa v xs[i] :: star (lA Pa v1 (xs.take i)) (lA Pa ws (xs.drop (i + 1))) :: R) H := by
    obtain ⟨S, S1, S2, e, d, g1, g2⟩ := h3
    exact ⟨S, S1, S2, e, d, g1, star_assoc2 g2⟩
  exact h4
theorem lA.back {i : Nat} (hi : i < xs.length) (hv : vs[i]? = some v) (h : St (Pa v x :: lH Pa vs xs i :: R) H) : St (lA Pa vs (xs.set i x) :: R) H := by
  unfold lH at h
  have h3 : St (Pa v x :: lA Pa (vs.take i) (xs.take i) :: lA Pa (vs.drop (i + 1)) (xs.drop (i + 1)) :: R) H := by
    obtain ⟨S, S1, S2, e, d, g1, g2⟩ := h
    exact ⟨S, S1, S2, e, d, g1, star_assoc1 g2⟩
  have h4 := lA.appI (Ent.swap.st (lA.consI ((Ent.cons Ent.swap).st h3)))
  obtain ⟨hj, rfl⟩ := List.getElem?_eq_some_iff.mp hv
  rw [show vs.take i ++ vs[i] :: vs.drop (i + 1) = vs by rw [List.getElem_cons_drop, List.take_append_drop]] at h4
  rw [show xs.set i x = xs.take i ++ x :: xs.drop (i + 1) from List.set_eq_take_append_cons_drop .. |>.trans (if_pos hi)]
  exact h4
end
end Sl
namespace Sl
open PySem PySem.Spec PyProof.Rows L2 Sx Rd
section
variable {L M R : List As} {H : Hp} {P Q : As} {α : Type} {Pa : V → α → As} {v : V} {x : α} {vs ws : List V} {xs ys : List α}
theorem St.sel2 (h : St L H) (s1 : Sel P L M) (s2 : Sel Q M R) : St (P :: Q :: R) H := (Ent.cons s2.ent).st (h.sel s1)
theorem St.sel3 {T : As} {N : List As} (h : St L H) (s1 : Sel P L M) (s2 : Sel Q M N) (s3 : Sel T N R) : St (P :: Q :: T :: R) H := (Ent.cons (Ent.cons s3.ent)).st (h.sel2 s1 s2)
theorem lA.snocS (h : St L H) (s1 : Sel (lA Pa vs xs) L M) (s2 : Sel (Pa v x) M R) : St (lA Pa (vs ++ [v]) (xs ++ [x]) :: R) H := lA.snocI (h.sel2 s1 s2)
theorem lA.consS (h : St L H) (s1 : Sel (Pa v x) L M) (s2 : Sel (lA Pa vs xs) M R) : St (lA Pa (v :: vs) (x :: xs) :: R) H := lA.consI (h.sel2 s1 s2)
theorem lA.appS (h : St L H) (s1 : Sel (lA Pa vs xs) L M) (s2 : Sel (lA Pa ws ys) M R) : St (lA Pa (vs ++ ws) (xs ++ ys) :: R) H := lA.appI (h.sel2 s1 s2)
theorem lA.unS (h : St L H) (s : Sel (lA Pa vs (x :: xs)) L R) : ∃ v ws, vs = v :: ws ∧ St (Pa v x :: lA Pa ws xs :: R) H := lA.consU (h.sel s)
theorem lA.lenS (h : St L H) (s : Sel (lA Pa vs xs) L R) : vs.length = xs.length := lA.len (h.sel s)
theorem lA.outS {i : Nat} (h : St L H) (s : Sel (lA Pa vs xs) L R) (hx : xs[i]? = some x) : ∃ v, vs[i]? = some v ∧ St (Pa v x :: lH Pa vs xs i :: R) H := lA.out (h.sel s) hx
theorem lA.backS {i : Nat} (h : St L H) (s1 : Sel (Pa v x) L M) (s2 : Sel (lH Pa vs xs i) M R) (hi : i < xs.length) (hv : vs[i]? = some v) : St (lA Pa vs (xs.set i x) :: R) H := lA.back hi hv (h.sel2 s1 s2)
/-- given back as it was -/
theorem lA.backE {i : Nat} (h : St L H) (s1 : Sel (Pa v x) L M) (s2 : Sel (lH Pa vs xs i) M R) (hx : xs[i]? = some x) (hv : vs[i]? = some v) : St (lA Pa vs xs :: R) H := by
  obtain ⟨hi, rfl⟩ := List.getElem?_eq_some_iff.mp hx
  have z := lA.backS h s1 s2 hi hv
  rwa [List.set_getElem_self] at z
end
end Sl
namespace Sl
open PySem PySem.Spec PyProof.Rows L2 Sx Rd
/-! ### comprehensions -/
section
variable {K : PySem.W.Frag} {σ : L2.St} {H : Hp} {Q : VK} {g : TG} {tt : TT} {te : TE} {vs : List Nat} {L R0 : List As} {p : Addr} {xs : List V}
/-- what a turn has to bring about -/
abbrev LcStep (g : TG) (tt : TT) (te : TE) (vs : List Nat) (σ : L2.St) (φ : Nat → List V → Prop) (Lf : Nat → List V → List As) (E : Addr) (i : Nat) (x : V) (acc : List V) (H' : Hp) : Prop :=
  ∀ (R : VK) (N : Hp → Prop), (∀ y H4, φ (i + 1) (acc ++ [y]) → St (cell E (.lst acc) :: Lf (i + 1) (acc ++ [y])) H4 → R y H4) → (∀ H4, φ (i + 1) acc → St (cell E (.lst acc) :: Lf (i + 1) acc) H4 → N H4) →
    g x (wipe σ vs) H' fun σ2 H2 => wipe σ2 vs = wipe σ vs ∧ tt σ2 H2 fun b H3 => if b = true then te σ2 H3 R else N H3
theorem k_lcLS (φ : Nat → List V → Prop) (Lf : Nat → List V → List As) (hs : St (Lf 0 []) H) (hq : SqL K H p xs) (hz : xs.length < 100000) (f0 : φ 0 [])
    (hl : ∀ i E acc H', φ i acc → St (cell E (.lst acc) :: Lf i acc) H' → SqL K H' p xs)
    (st : ∀ E i x acc H', xs[i]? = some x → acc.length ≤ i → φ i acc → St (cell E (.lst acc) :: Lf i acc) H' → LcStep g tt te vs σ φ Lf E i x acc H')
    (q : ∀ E acc H', acc.length ≤ xs.length → φ xs.length acc → St (cell E (.lst acc) :: Lf xs.length acc) H' → Q (.ref E) H') : kLcL K g tt te vs σ Q (.ref p) H := by
  refine ⟨p, rfl, ⟨_, hq⟩, fun E hE => ?_⟩
  refine lc_list (K := K) (a := p) (xs := xs) (fun i H' => ∃ acc, acc.length ≤ i ∧ φ i acc ∧ St (cell E (.lst acc) :: Lf i acc) H') ⟨[], Nat.le_refl _, f0, hs.new hE⟩ (fun i H' hi ⟨acc, _, f, h⟩ => hl i E acc H' f h) (fun i x H' hx ⟨acc, ha, f, h⟩ => ?_) fun H' ⟨acc, ha, f, h⟩ => q E acc H' ha f h
  have hi : i < xs.length := (List.getElem?_eq_some_iff.mp hx).1
  exact st E i x acc H' hx ha f h _ _ (fun y H4 f4 h4 => ⟨acc, h4.get0, szl (by omega), acc ++ [y], by rw [List.length_append]; simp; omega, f4, h4.upd0 id⟩) fun H4 f4 h4 => ⟨acc, by omega, f4, h4⟩
/-- over range(n) -/
theorem k_lcFS {n : Int} (φ : Nat → List V → Prop) (Lf : Nat → List V → List As) (hs : St (Lf 0 []) H) (h1 : 0 ≤ n) (h2 : n < 100000) (f0 : φ 0 [])
    (st : ∀ E (i : Nat) acc H', (i : Int) < n → acc.length ≤ i → φ i acc → St (cell E (.lst acc) :: Lf i acc) H' → LcStep g tt te vs σ φ Lf E i (.int (i : Nat)) acc H')
    (q : ∀ E acc H', acc.length ≤ n.toNat → φ n.toNat acc → St (cell E (.lst acc) :: Lf n.toNat acc) H' → Q (.ref E) H') : kLcF g tt te vs σ Q (.int n) H := by
  refine ⟨n, rfl, by omega, by omega, fun E hE => ?_⟩
  refine lc_range (lo := 0) (n := n.toNat) (fun i H' => ∃ acc, acc.length ≤ i ∧ φ i acc ∧ St (cell E (.lst acc) :: Lf i acc) H') ⟨[], Nat.le_refl _, f0, hs.new hE⟩ (fun i H' hi ⟨acc, ha, f, h⟩ => ?_) fun H' ⟨acc, ha, f, h⟩ => q E acc H' ha f h
  have e0 : (0 : Int) + (i : Int) = (i : Int) := Int.zero_add _
  rw [e0]
  exact st E i acc H' (by omega) ha f h _ _ (fun y H4 f4 h4 => ⟨acc, h4.get0, szl (by omega), acc ++ [y], by rw [List.length_append]; simp; omega, f4, h4.upd0 id⟩) fun H4 f4 h4 => ⟨acc, by omega, f4, h4⟩
/-- over enumerate(list) -/
theorem k_lcES (φ : Nat → List V → Prop) (Lf : Nat → List V → List As) (hs : St (Lf 0 []) H) (hq : SqL K H p xs) (hz : xs.length < 100000) (f0 : φ 0 [])
    (hl : ∀ i E acc H', φ i acc → St (cell E (.lst acc) :: Lf i acc) H' → SqL K H' p xs)
    (st : ∀ E T i x acc H', xs[i]? = some x → acc.length ≤ i → φ i acc → H' T = some (.tup [.int (i : Nat), x]) → St (cell E (.lst acc) :: Lf i acc) H' → LcStep g tt te vs σ φ Lf E i (.ref T) acc H')
    (q : ∀ E acc H', acc.length ≤ xs.length → φ xs.length acc → St (cell E (.lst acc) :: Lf xs.length acc) H' → Q (.ref E) H') : kLcE K g tt te vs σ Q [.ref p] H := by
  refine ⟨p, xs, rfl, hq, fun E hE => ?_⟩
  refine ⟨fun i m H' => m = xs.length - i ∧ i ≤ xs.length ∧ ∃ acc, acc.length ≤ i ∧ φ i acc ∧ St (cell E (.lst acc) :: Lf i acc) H', ⟨_, rfl, Nat.zero_le _, [], Nat.le_refl _, f0, hs.new hE⟩, ?_⟩
  rintro i m H' ⟨rfl, hi, acc, ha, f, h⟩
  have hq' := hl i E acc H' f h
  by_cases hlt : i < xs.length
  · refine .inr ⟨⟨xs, xs[i], hq', List.getElem?_eq_getElem hlt⟩, fun H4 => ∃ acc, acc.length ≤ i + 1 ∧ φ (i + 1) acc ∧ St (cell E (.lst acc) :: Lf (i + 1) acc) H4, fun H4 z => ⟨_, by omega, rfl, by omega, z⟩, ?_⟩
    rintro v H2 ⟨T, x, rfl, hT, rfl, hx⟩
    exact st E T i x acc _ (hx xs hq') ha f upd_same (h.keep hT) _ _ (fun y H4 f4 h4 => ⟨acc, h4.get0, szl (by omega), acc ++ [y], by rw [List.length_append]; simp; omega, f4, h4.upd0 id⟩) fun H4 f4 h4 => ⟨acc, by omega, f4, h4⟩
  · have hi2 : i = xs.length := by omega
    subst hi2
    exact .inl ⟨⟨xs, hq', Nat.le_refl _⟩, q E acc H' ha f h⟩
/-- one more assertion that grows -/
theorem k_lcLX (X : Nat → List V → As) (hs : St L H) (hq : SqL K H p xs) (hz : xs.length < 100000) (h0 : St L H → St (X 0 [] :: L) H)
    (hl : ∀ i E acc H', St (cell E (.lst acc) :: X i acc :: L) H' → SqL K H' p xs)
    (st : ∀ E i x acc H', xs[i]? = some x → acc.length ≤ i → St (cell E (.lst acc) :: X i acc :: L) H' → LcStep g tt te vs σ (fun _ _ => True) (fun i acc => X i acc :: L) E i x acc H')
    (q : ∀ E acc H', acc.length ≤ xs.length → St (cell E (.lst acc) :: X xs.length acc :: L) H' → Q (.ref E) H') : kLcL K g tt te vs σ Q (.ref p) H :=
  k_lcLS (fun _ _ => True) (fun i acc => X i acc :: L) (h0 hs) hq hz trivial (fun i E acc H' _ h => hl i E acc H' h) (fun E i x acc H' hx ha _ h => st E i x acc H' hx ha h) fun E acc H' ha _ h => q E acc H' ha h
theorem St.perm {M R : List As} (h : St L H) (s : Sels M L R) : St M H := by
  have z := h.sels s
  have e : ∀ M : List As, Ent (M ++ R) M := fun M => by
    induction M with
    | nil => exact fun H S h => ⟨fun _ => False, fun _ f => f.elim, fun _ f => f⟩
    | cons P M ih => exact ih.cons
  exact (e M).st z
/-- a test that is none -/
theorem lc_yes {σ2 : L2.St} {H2 : Hp} {R : VK} {N : Hp → Prop} (h : te σ2 H2 R) : tYes σ2 H2 fun b H3 => if b = true then te σ2 H3 R else N H3 := t_yes (iteT h)
end
end Sl
namespace Sl
open PySem PySem.Spec PyProof.Rows L2 Sx Rd
/-- a cut without a promise of its own: what follows is read on each way -/
theorem s_cut0 {D : Ends} {σ : L2.St} {H : Hp} {t u : TS} (h : t { D with nx := u D } σ H) : Evl.tCut t u D σ H := s_cut (u D) h fun _ _ z => z
end Sl
namespace Sl
open PySem PySem.Spec PyProof.Rows L2 Sx Rd
theorem St.nil {H : Hp} : St [] H := ⟨fun _ => False, fun _ f => f⟩
theorem ix_ints {ns : List Int} {r : Int} (h0 : 0 ≤ r) (h1 : r < ns.length) : ∃ m ∈ ns, atI (ns.map V.int) r = some (.int m) := by
  obtain ⟨j, rfl⟩ := Int.eq_ofNat_of_zero_le h0
  have hj : j < ns.length := by omega
  exact ⟨ns[j], List.getElem_mem hj, atI_nat (by rw [List.getElem?_map, List.getElem?_eq_getElem hj]; rfl)⟩
end Sl
namespace Sl
open PySem PySem.Spec PyProof.Rows L2 Sx Rd
theorem ix_of (ns : List Int) {xs : List V} {r : Int} (e : xs = ns.map V.int) (h0 : 0 ≤ r) (h1 : r < ns.length) : ∃ m ∈ ns, atI xs r = some (.int m) := by
  subst e
  exact ix_ints h0 h1
end Sl
namespace Sl
open PySem PySem.Spec PyProof.Rows L2 Sx Rd
theorem t_up0 {t : TT} {σ : L2.St} {H : Hp} {Q : Bool → Hp → Prop} (h : t σ H Q) : tUpT t σ H Q := t_up Q h fun _ _ z => z
end Sl
namespace Sl
open PySem PySem.Spec PyProof.Rows L2 Sx Rd
/-- a new thing, found behind a promise over footprints -/
theorem St.newF {L : List As} {H H1 : Hp} {a : Addr} {o : HO} (h : St L H) (f : Fp [] H H1) (n : H a = none) (g : H1 a = some o) : St (cell a o :: L) H1 := by
  obtain ⟨S, h⟩ := h
  have dm := (all L).dom h
  exact ⟨fun b => b = a ∨ S b, fun b => b = a, S, fun _ => Iff.rfl, fun b z s => dm b s (z ▸ n), ⟨fun _ => Iff.rfl, g⟩, (all L).loc h (Agree.of_fp f (fun _ m => by simp at m) dm fun _ _ => by simp)⟩
theorem St.newiF {L : List As} {H H1 : Hp} {a : Addr} {o : HO} (h : St L H) (f : Fp [] H H1) (g : H1 a = some o) (i : Imm o) : St (icell a o :: L) H1 := by
  obtain ⟨S, h⟩ := h.keepF f
  exact ⟨S, fun _ => False, S, fun _ => ⟨.inr, fun z => z.elim (fun f => f.elim) id⟩, fun _ f => f.elim, ⟨fun _ f => f, g, i⟩, h⟩
end Sl
namespace Sl
open PySem PySem.Spec PyProof.Rows L2 Sx Rd
theorem St.iadd {L : List As} {H : Hp} {a : Addr} {o : HO} (h : St L H) (g : H a = some o) (i : Imm o) : St (icell a o :: L) H := by
  obtain ⟨S, h⟩ := h
  exact ⟨S, fun _ => False, S, fun _ => ⟨.inr, fun z => z.elim (fun f => f.elim) id⟩, fun _ f => f.elim, ⟨fun _ f => f, g, i⟩, h⟩
end Sl
namespace Sl
open PySem PySem.Spec PyProof.Rows L2 Sx Rd
/-- a list that is only read: tracked, frozen or known -/
def sqA (K : PySem.W.Frag) (b : Addr) (xs : List V) : As := ⟨fun H S => SqL K H b xs ∧ ((H b = some (.lst xs) ∧ ∀ x, S x ↔ x = b) ∨ ((∀ x, ¬ S x) ∧ ((∃ o, H b = some (.frz o (.lst xs))) ∨ ∀ H' : Hp, SqL K H' b xs))),
  fun {H H' S} ⟨h, c⟩ g => by
    rcases c with ⟨e, s⟩ | ⟨s, ⟨o, e⟩ | e⟩
    · have e' : H' b = some (.lst xs) := by rw [g.1 b ((s b).mpr rfl)]; exact e
      exact ⟨.inl (.inl e'), .inl ⟨e', s⟩⟩
    · have e' := g.2 _ _ e trivial
      exact ⟨.inl (.inr ⟨o, e'⟩), .inr ⟨s, .inl ⟨o, e'⟩⟩⟩
    · exact ⟨e H', .inr ⟨s, .inr e⟩⟩,
  fun {H S} ⟨h, c⟩ a m => by
    rcases c with ⟨e, s⟩ | ⟨s, _⟩
    · rw [(s a).mp m, e]; simp
    · exact absurd m (s a)⟩
theorem sqA.U {K : PySem.W.Frag} {b : Addr} {xs : List V} {L R : List As} {H : Hp} (hs : St L H) (s : Sel (sqA K b xs) L R) : SqL K H b xs := by
  obtain ⟨S, S1, S2, e, d, h1, h2⟩ := hs.sel s
  exact h1.1
theorem sqA.new {K : PySem.W.Frag} {b : Addr} {xs : List V} {H : Hp} (h : SqL K H b xs) : St [sqA K b xs] H := by
  have mk : ∀ S : Addr → Prop, (sqA K b xs).at_ H S → St [sqA K b xs] H := fun S h => ⟨S, S, fun _ => False, fun _ => ⟨.inl, fun z => z.elim id fun f => f.elim⟩, fun _ _ f => f, h, fun _ f => f⟩
  rcases id h with (e | ⟨o, e⟩) | e
  · exact mk (fun x => x = b) ⟨h, .inl ⟨e, fun _ => Iff.rfl⟩⟩
  · exact mk (fun _ => False) ⟨h, .inr ⟨fun _ f => f, .inl ⟨o, e⟩⟩⟩
  · exact mk (fun _ => False) ⟨h, .inr ⟨fun _ f => f, .inr fun H' => .inr e⟩⟩
end Sl
set_option Elab.async false
set_option maxRecDepth 100000
set_option maxHeartbeats 100000000
set_option linter.all false
namespace My
open PySem L2 Sx Rd Sl
def top (i : Nat) : Stmt := PySem.Challenge.pw_tickrings_k13_receiving.main.body.getD i (.Pass ⟨0, 0, 0, 0⟩)
abbrev s_wall : Stmt := top 0
abbrev s_lost_mark : Stmt := top 2
abbrev s_is_mark : Stmt := top 3
abbrev s_lost_by : Stmt := top 4
abbrev s_joined : Stmt := top 5
abbrev s_bytes_among : Stmt := top 6
abbrev s_Receiver_init : Stmt := inClass (top 8) 0
abbrev s_Receiver_can_step : Stmt := inClass (top 8) 1
abbrev s_Receiver_step : Stmt := inClass (top 8) 2
abbrev s_Receiver_close_idle : Stmt := inClass (top 8) 3
abbrev s_Receiver_add : Stmt := inClass (top 8) 4
abbrev s_RingError_init : Stmt := inClass (top 11) 0
abbrev s_Ring_init : Stmt := inClass (top 13) 0
abbrev s_Ring_held : Stmt := inClass (top 13) 1
abbrev s_Ring_is_full : Stmt := inClass (top 13) 2
abbrev s_Ring_put : Stmt := inClass (top 13) 3
abbrev s_Ring_first : Stmt := inClass (top 13) 4
abbrev s_Ring_take : Stmt := inClass (top 13) 5
abbrev s_Ring_listed : Stmt := inClass (top 13) 6
abbrev s_Ring_next : Stmt := inClass (top 13) 7
abbrev s_ReceiveQueue_init : Stmt := inClass (top 15) 0
abbrev s_ReceiveQueue_arrive : Stmt := inClass (top 15) 1
abbrev s_ReceiveQueue_first : Stmt := inClass (top 15) 2
abbrev s_ReceiveQueue_take : Stmt := inClass (top 15) 3
abbrev s_ReceiveQueue_oldest_tick : Stmt := inClass (top 15) 4
abbrev s_ReceiveQueue_bytes_held : Stmt := inClass (top 15) 5
abbrev s_ReceiveQueue_contents : Stmt := inClass (top 15) 6
abbrev s_ReceiveQueue_append : Stmt := inClass (top 15) 7
abbrev s_ReceiveQueue_lose : Stmt := inClass (top 15) 8
abbrev s_copied : Stmt := top 17
abbrev s_SlotRing_init : Stmt := inClass (top 18) 0
abbrev s_SlotRing_can_arm : Stmt := inClass (top 18) 1
abbrev s_SlotRing_arm : Stmt := inClass (top 18) 2
abbrev s_SlotRing_open_slot : Stmt := inClass (top 18) 3
abbrev s_SlotRing_open_bytes : Stmt := inClass (top 18) 4
abbrev s_SlotRing_open_count : Stmt := inClass (top 18) 5
abbrev s_SlotRing_add : Stmt := inClass (top 18) 6
abbrev s_SlotRing_close : Stmt := inClass (top 18) 7
abbrev s_SlotRing_oldest : Stmt := inClass (top 18) 8
abbrev s_SlotRing_reap : Stmt := inClass (top 18) 9
abbrev s_SlotRing_filled_slots : Stmt := inClass (top 18) 10
abbrev s_SlotRing_buffers : Stmt := inClass (top 18) 11
abbrev s_law_state : Stmt := top 20
abbrev s_law_draw : Stmt := top 21
abbrev s_law_pick : Stmt := top 22
abbrev s_law_arrives : Stmt := top 23
abbrev s_law_close : Stmt := top 24
abbrev s_law_steps : Stmt := top 25
abbrev s_law_idles : Stmt := top 26
abbrev s_law_agrees : Stmt := top 27
abbrev s_law_changes : Stmt := top 28
abbrev s_law : Stmt := top 29
theorem sc_wall : FnScope ["k"] ["k"] (defScope s_wall) := ⟨rfl, rfl, rfl, by decide +kernel, rfl, by decide +kernel, by decide +kernel⟩
theorem sc_lost_mark : FnScope ["many"] ["many"] (defScope s_lost_mark) := ⟨rfl, rfl, rfl, by decide +kernel, rfl, by decide +kernel, by decide +kernel⟩
theorem sc_is_mark : FnScope ["item"] ["item"] (defScope s_is_mark) := ⟨rfl, rfl, rfl, by decide +kernel, rfl, by decide +kernel, by decide +kernel⟩
theorem sc_lost_by : FnScope ["mark"] ["mark"] (defScope s_lost_by) := ⟨rfl, rfl, rfl, by decide +kernel, rfl, by decide +kernel, by decide +kernel⟩
theorem sc_joined : FnScope ["mark", "other"] ["mark", "other"] (defScope s_joined) := ⟨rfl, rfl, rfl, by decide +kernel, rfl, by decide +kernel, by decide +kernel⟩
theorem sc_bytes_among : FnScope ["items", "item"] ["items"] (defScope s_bytes_among) := ⟨rfl, rfl, rfl, by decide +kernel, rfl, by decide +kernel, by decide +kernel⟩
theorem sc_Receiver_init : FnScope ["self", "queue", "ring", "size", "idle"] ["self", "queue", "ring", "size", "idle"] (defScope s_Receiver_init) := ⟨rfl, rfl, rfl, by decide +kernel, rfl, by decide +kernel, by decide +kernel⟩
theorem sc_Receiver_can_step : FnScope ["self"] ["self"] (defScope s_Receiver_can_step) := ⟨rfl, rfl, rfl, by decide +kernel, rfl, by decide +kernel, by decide +kernel⟩
theorem sc_Receiver_step : FnScope ["self", "now", "item"] ["self", "now"] (defScope s_Receiver_step) := ⟨rfl, rfl, rfl, by decide +kernel, rfl, by decide +kernel, by decide +kernel⟩
theorem sc_Receiver_close_idle : FnScope ["self", "now"] ["self", "now"] (defScope s_Receiver_close_idle) := ⟨rfl, rfl, rfl, by decide +kernel, rfl, by decide +kernel, by decide +kernel⟩
theorem sc_Receiver_add : FnScope ["self", "byte", "now"] ["self", "byte", "now"] (defScope s_Receiver_add) := ⟨rfl, rfl, rfl, by decide +kernel, rfl, by decide +kernel, by decide +kernel⟩
theorem sc_RingError_init : NdefX.NScope ["self", "held", "__class__"] ["self", "held"] ["__class__"] (defScope s_RingError_init) := NdefX.nscope_by (by decide +kernel)
theorem sc_Ring_init : FnScope ["self", "cells"] ["self", "cells"] (defScope s_Ring_init) := ⟨rfl, rfl, rfl, by decide +kernel, rfl, by decide +kernel, by decide +kernel⟩
theorem sc_Ring_held : FnScope ["self", "many"] ["self"] (defScope s_Ring_held) := ⟨rfl, rfl, rfl, by decide +kernel, rfl, by decide +kernel, by decide +kernel⟩
theorem sc_Ring_is_full : FnScope ["self"] ["self"] (defScope s_Ring_is_full) := ⟨rfl, rfl, rfl, by decide +kernel, rfl, by decide +kernel, by decide +kernel⟩
theorem sc_Ring_put : FnScope ["self", "value"] ["self", "value"] (defScope s_Ring_put) := ⟨rfl, rfl, rfl, by decide +kernel, rfl, by decide +kernel, by decide +kernel⟩
theorem sc_Ring_first : FnScope ["self"] ["self"] (defScope s_Ring_first) := ⟨rfl, rfl, rfl, by decide +kernel, rfl, by decide +kernel, by decide +kernel⟩
theorem sc_Ring_take : FnScope ["self", "value"] ["self"] (defScope s_Ring_take) := ⟨rfl, rfl, rfl, by decide +kernel, rfl, by decide +kernel, by decide +kernel⟩
theorem sc_Ring_listed : FnScope ["self", "cells", "at"] ["self"] (defScope s_Ring_listed) := ⟨rfl, rfl, rfl, by decide +kernel, rfl, by decide +kernel, by decide +kernel⟩
theorem sc_Ring_next : FnScope ["self", "counter"] ["self", "counter"] (defScope s_Ring_next) := ⟨rfl, rfl, rfl, by decide +kernel, rfl, by decide +kernel, by decide +kernel⟩
theorem sc_ReceiveQueue_init : FnScope ["self", "capacity"] ["self", "capacity"] (defScope s_ReceiveQueue_init) := ⟨rfl, rfl, rfl, by decide +kernel, rfl, by decide +kernel, by decide +kernel⟩
theorem sc_ReceiveQueue_arrive : FnScope ["self", "byte", "tick"] ["self", "byte", "tick"] (defScope s_ReceiveQueue_arrive) := ⟨rfl, rfl, rfl, by decide +kernel, rfl, by decide +kernel, by decide +kernel⟩
theorem sc_ReceiveQueue_first : FnScope ["self"] ["self"] (defScope s_ReceiveQueue_first) := ⟨rfl, rfl, rfl, by decide +kernel, rfl, by decide +kernel, by decide +kernel⟩
theorem sc_ReceiveQueue_take : FnScope ["self"] ["self"] (defScope s_ReceiveQueue_take) := ⟨rfl, rfl, rfl, by decide +kernel, rfl, by decide +kernel, by decide +kernel⟩
theorem sc_ReceiveQueue_oldest_tick : FnScope ["self"] ["self"] (defScope s_ReceiveQueue_oldest_tick) := ⟨rfl, rfl, rfl, by decide +kernel, rfl, by decide +kernel, by decide +kernel⟩
theorem sc_ReceiveQueue_bytes_held : FnScope ["self"] ["self"] (defScope s_ReceiveQueue_bytes_held) := ⟨rfl, rfl, rfl, by decide +kernel, rfl, by decide +kernel, by decide +kernel⟩
theorem sc_ReceiveQueue_contents : FnScope ["self"] ["self"] (defScope s_ReceiveQueue_contents) := ⟨rfl, rfl, rfl, by decide +kernel, rfl, by decide +kernel, by decide +kernel⟩
theorem sc_ReceiveQueue_append : FnScope ["self", "item", "tick"] ["self", "item", "tick"] (defScope s_ReceiveQueue_append) := ⟨rfl, rfl, rfl, by decide +kernel, rfl, by decide +kernel, by decide +kernel⟩
theorem sc_ReceiveQueue_lose : FnScope ["self", "tick"] ["self", "tick"] (defScope s_ReceiveQueue_lose) := ⟨rfl, rfl, rfl, by decide +kernel, rfl, by decide +kernel, by decide +kernel⟩
theorem sc_copied : FnScope ["slot", "buffer", "data", "lost"] ["slot"] (defScope s_copied) := ⟨rfl, rfl, rfl, by decide +kernel, rfl, by decide +kernel, by decide +kernel⟩
theorem sc_SlotRing_init : FnScope ["self", "slots"] ["self", "slots"] (defScope s_SlotRing_init) := ⟨rfl, rfl, rfl, by decide +kernel, rfl, by decide +kernel, by decide +kernel⟩
theorem sc_SlotRing_can_arm : FnScope ["self"] ["self"] (defScope s_SlotRing_can_arm) := ⟨rfl, rfl, rfl, by decide +kernel, rfl, by decide +kernel, by decide +kernel⟩
theorem sc_SlotRing_arm : FnScope ["self", "buffer"] ["self", "buffer"] (defScope s_SlotRing_arm) := ⟨rfl, rfl, rfl, by decide +kernel, rfl, by decide +kernel, by decide +kernel⟩
theorem sc_SlotRing_open_slot : FnScope ["self"] ["self"] (defScope s_SlotRing_open_slot) := ⟨rfl, rfl, rfl, by decide +kernel, rfl, by decide +kernel, by decide +kernel⟩
theorem sc_SlotRing_open_bytes : FnScope ["self"] ["self"] (defScope s_SlotRing_open_bytes) := ⟨rfl, rfl, rfl, by decide +kernel, rfl, by decide +kernel, by decide +kernel⟩
theorem sc_SlotRing_open_count : FnScope ["self"] ["self"] (defScope s_SlotRing_open_count) := ⟨rfl, rfl, rfl, by decide +kernel, rfl, by decide +kernel, by decide +kernel⟩
theorem sc_SlotRing_add : FnScope ["self", "byte"] ["self", "byte"] (defScope s_SlotRing_add) := ⟨rfl, rfl, rfl, by decide +kernel, rfl, by decide +kernel, by decide +kernel⟩
theorem sc_SlotRing_close : FnScope ["self", "lost", "buffer"] ["self", "lost"] (defScope s_SlotRing_close) := ⟨rfl, rfl, rfl, by decide +kernel, rfl, by decide +kernel, by decide +kernel⟩
theorem sc_SlotRing_oldest : FnScope ["self"] ["self"] (defScope s_SlotRing_oldest) := ⟨rfl, rfl, rfl, by decide +kernel, rfl, by decide +kernel, by decide +kernel⟩
theorem sc_SlotRing_reap : FnScope ["self"] ["self"] (defScope s_SlotRing_reap) := ⟨rfl, rfl, rfl, by decide +kernel, rfl, by decide +kernel, by decide +kernel⟩
theorem sc_SlotRing_filled_slots : FnScope ["self", "slot"] ["self"] (defScope s_SlotRing_filled_slots) := ⟨rfl, rfl, rfl, by decide +kernel, rfl, by decide +kernel, by decide +kernel⟩
theorem sc_SlotRing_buffers : FnScope ["self"] ["self"] (defScope s_SlotRing_buffers) := ⟨rfl, rfl, rfl, by decide +kernel, rfl, by decide +kernel, by decide +kernel⟩
theorem sc_law_state : FnScope ["script", "seed", "cell"] ["script"] (defScope s_law_state) := ⟨rfl, rfl, rfl, by decide +kernel, rfl, by decide +kernel, by decide +kernel⟩
theorem sc_law_draw : FnScope ["state", "many", "cells", "value", "mixed"] ["state", "many"] (defScope s_law_draw) := ⟨rfl, rfl, rfl, by decide +kernel, rfl, by decide +kernel, by decide +kernel⟩
theorem sc_law_pick : FnScope ["state", "row"] ["state", "row"] (defScope s_law_pick) := ⟨rfl, rfl, rfl, by decide +kernel, rfl, by decide +kernel, by decide +kernel⟩
theorem sc_law_arrives : FnScope ["queue", "world", "byte", "tick", "items", "item"] ["queue", "world", "byte", "tick"] (defScope s_law_arrives) := ⟨rfl, rfl, rfl, by decide +kernel, rfl, by decide +kernel, by decide +kernel⟩
theorem sc_law_close : FnScope ["world", "lost", "filled"] ["world", "lost"] (defScope s_law_close) := ⟨rfl, rfl, rfl, by decide +kernel, rfl, by decide +kernel, by decide +kernel⟩
theorem sc_law_steps : FnScope ["receiver", "world", "size", "now", "able", "item", "due", "added"] ["receiver", "world", "size", "now"] (defScope s_law_steps) := ⟨rfl, rfl, rfl, by decide +kernel, rfl, by decide +kernel, by decide +kernel⟩
theorem sc_law_idles : FnScope ["receiver", "world", "idle", "now", "due", "told"] ["receiver", "world", "idle", "now"] (defScope s_law_idles) := ⟨rfl, rfl, rfl, by decide +kernel, rfl, by decide +kernel, by decide +kernel⟩
theorem sc_law_agrees : FnScope ["receiver", "queue", "ring", "world"] ["receiver", "queue", "ring", "world"] (defScope s_law_agrees) := ⟨rfl, rfl, rfl, by decide +kernel, rfl, by decide +kernel, by decide +kernel⟩
theorem sc_law_changes : FnScope ["state", "queue", "ring", "world", "slots", "now", "kind", "k", "armed"] ["state", "queue", "ring", "world", "slots", "now"] (defScope s_law_changes) := ⟨rfl, rfl, rfl, by decide +kernel, rfl, by decide +kernel, by decide +kernel⟩
theorem sc_law : FnScope ["script", "state", "slots", "size", "idle", "queue", "ring", "receiver", "world", "now", "cell", "k"] ["script"] (defScope s_law) := ⟨rfl, rfl, rfl, by decide +kernel, rfl, by decide +kernel, by decide +kernel⟩
/-- where things stand -/
structure Ads where
  (C_Receiver C_TickringsError C_RingError C_Ring C_ReceiveQueue C_SlotRing : Addr)
  (f_wall f_lost_mark f_is_mark f_lost_by f_joined f_bytes_among f_Receiver_init f_Receiver_can_step f_Receiver_step f_Receiver_close_idle f_Receiver_add f_RingError_init f_Ring_init f_Ring_held f_Ring_is_full f_Ring_put f_Ring_first f_Ring_take f_Ring_listed f_Ring_next f_ReceiveQueue_init f_ReceiveQueue_arrive f_ReceiveQueue_first f_ReceiveQueue_take f_ReceiveQueue_oldest_tick f_ReceiveQueue_bytes_held f_ReceiveQueue_contents f_ReceiveQueue_append f_ReceiveQueue_lose f_copied f_SlotRing_init f_SlotRing_can_arm f_SlotRing_arm f_SlotRing_open_slot f_SlotRing_open_bytes f_SlotRing_open_count f_SlotRing_add f_SlotRing_close f_SlotRing_oldest f_SlotRing_reap f_SlotRing_filled_slots f_SlotRing_buffers f_law_state f_law_draw f_law_pick f_law_arrives f_law_close f_law_steps f_law_idles f_law_agrees f_law_changes f_law : Addr)
  (fd_wall fd_lost_mark fd_is_mark fd_lost_by fd_joined fd_bytes_among fd_Receiver_init fd_Receiver_can_step fd_Receiver_step fd_Receiver_close_idle fd_Receiver_add fd_RingError_init fd_Ring_init fd_Ring_held fd_Ring_is_full fd_Ring_put fd_Ring_first fd_Ring_take fd_Ring_listed fd_Ring_next fd_ReceiveQueue_init fd_ReceiveQueue_arrive fd_ReceiveQueue_first fd_ReceiveQueue_take fd_ReceiveQueue_oldest_tick fd_ReceiveQueue_bytes_held fd_ReceiveQueue_contents fd_ReceiveQueue_append fd_ReceiveQueue_lose fd_copied fd_SlotRing_init fd_SlotRing_can_arm fd_SlotRing_arm fd_SlotRing_open_slot fd_SlotRing_open_bytes fd_SlotRing_open_count fd_SlotRing_add fd_SlotRing_close fd_SlotRing_oldest fd_SlotRing_reap fd_SlotRing_filled_slots fd_SlotRing_buffers fd_law_state fd_law_draw fd_law_pick fd_law_arrives fd_law_close fd_law_steps fd_law_idles fd_law_agrees fd_law_changes fd_law : FuncData)
def F_Receiver (x0 x1 x2 x3 x4 : V) : List (Str × V) := [("queue", x0), ("ring", x1), ("size", x2), ("idle", x3), ("latest", x4)]
section
variable {x0 x1 x2 x3 x4 v : V}
theorem F_Receiver_queue_l : (F_Receiver x0 x1 x2 x3 x4).lookup ("queue" : Str) = some x0 := by unfold F_Receiver; rw [look_hit]
theorem F_Receiver_queue_p : putF "queue" v (F_Receiver x0 x1 x2 x3 x4) = F_Receiver v x1 x2 x3 x4 := by unfold F_Receiver; rw [putF_hit]; try rfl
theorem F_Receiver_ring_l : (F_Receiver x0 x1 x2 x3 x4).lookup ("ring" : Str) = some x1 := by unfold F_Receiver; rw [look_miss (by decide +kernel), look_hit]
theorem F_Receiver_ring_p : putF "ring" v (F_Receiver x0 x1 x2 x3 x4) = F_Receiver x0 v x2 x3 x4 := by unfold F_Receiver; rw [putF_miss (by decide +kernel), putF_hit]; try rfl
theorem F_Receiver_size_l : (F_Receiver x0 x1 x2 x3 x4).lookup ("size" : Str) = some x2 := by unfold F_Receiver; rw [look_miss (by decide +kernel), look_miss (by decide +kernel), look_hit]
theorem F_Receiver_size_p : putF "size" v (F_Receiver x0 x1 x2 x3 x4) = F_Receiver x0 x1 v x3 x4 := by unfold F_Receiver; rw [putF_miss (by decide +kernel), putF_miss (by decide +kernel), putF_hit]; try rfl
theorem F_Receiver_idle_l : (F_Receiver x0 x1 x2 x3 x4).lookup ("idle" : Str) = some x3 := by unfold F_Receiver; rw [look_miss (by decide +kernel), look_miss (by decide +kernel), look_miss (by decide +kernel), look_hit]
theorem F_Receiver_idle_p : putF "idle" v (F_Receiver x0 x1 x2 x3 x4) = F_Receiver x0 x1 x2 v x4 := by unfold F_Receiver; rw [putF_miss (by decide +kernel), putF_miss (by decide +kernel), putF_miss (by decide +kernel), putF_hit]; try rfl
theorem F_Receiver_latest_l : (F_Receiver x0 x1 x2 x3 x4).lookup ("latest" : Str) = some x4 := by unfold F_Receiver; rw [look_miss (by decide +kernel), look_miss (by decide +kernel), look_miss (by decide +kernel), look_miss (by decide +kernel), look_hit]
theorem F_Receiver_latest_p : putF "latest" v (F_Receiver x0 x1 x2 x3 x4) = F_Receiver x0 x1 x2 x3 v := by unfold F_Receiver; rw [putF_miss (by decide +kernel), putF_miss (by decide +kernel), putF_miss (by decide +kernel), putF_miss (by decide +kernel), putF_hit]; try rfl
theorem F_Receiver_m_can_step : (F_Receiver x0 x1 x2 x3 x4).lookup ("can_step" : Str) = none := by unfold F_Receiver; rw [look_miss (by decide +kernel), look_miss (by decide +kernel), look_miss (by decide +kernel), look_miss (by decide +kernel), look_miss (by decide +kernel)]; try rfl
theorem F_Receiver_m_step : (F_Receiver x0 x1 x2 x3 x4).lookup ("step" : Str) = none := by unfold F_Receiver; rw [look_miss (by decide +kernel), look_miss (by decide +kernel), look_miss (by decide +kernel), look_miss (by decide +kernel), look_miss (by decide +kernel)]; try rfl
theorem F_Receiver_m_close_idle : (F_Receiver x0 x1 x2 x3 x4).lookup ("close_idle" : Str) = none := by unfold F_Receiver; rw [look_miss (by decide +kernel), look_miss (by decide +kernel), look_miss (by decide +kernel), look_miss (by decide +kernel), look_miss (by decide +kernel)]; try rfl
theorem F_Receiver_m_add : (F_Receiver x0 x1 x2 x3 x4).lookup ("_add" : Str) = none := by unfold F_Receiver; rw [look_miss (by decide +kernel), look_miss (by decide +kernel), look_miss (by decide +kernel), look_miss (by decide +kernel), look_miss (by decide +kernel)]; try rfl
theorem F_Receiver_len : (F_Receiver x0 x1 x2 x3 x4).length < 1000 := by show 5 < 1000; decide
theorem F_Receiver_i1 : putF "ring" x1 ([(("queue" : Str), x0)] : List (Str × V)) = [(("queue" : Str), x0), (("ring" : Str), x1)] := by rw [putF_miss (by decide +kernel)]; rfl
theorem F_Receiver_i2 : putF "size" x2 ([(("queue" : Str), x0), (("ring" : Str), x1)] : List (Str × V)) = [(("queue" : Str), x0), (("ring" : Str), x1), (("size" : Str), x2)] := by rw [putF_miss (by decide +kernel), putF_miss (by decide +kernel)]; rfl
theorem F_Receiver_i3 : putF "idle" x3 ([(("queue" : Str), x0), (("ring" : Str), x1), (("size" : Str), x2)] : List (Str × V)) = [(("queue" : Str), x0), (("ring" : Str), x1), (("size" : Str), x2), (("idle" : Str), x3)] := by rw [putF_miss (by decide +kernel), putF_miss (by decide +kernel), putF_miss (by decide +kernel)]; rfl
theorem F_Receiver_i4 : putF "latest" x4 ([(("queue" : Str), x0), (("ring" : Str), x1), (("size" : Str), x2), (("idle" : Str), x3)] : List (Str × V)) = [(("queue" : Str), x0), (("ring" : Str), x1), (("size" : Str), x2), (("idle" : Str), x3), (("latest" : Str), x4)] := by rw [putF_miss (by decide +kernel), putF_miss (by decide +kernel), putF_miss (by decide +kernel), putF_miss (by decide +kernel)]; rfl
theorem F_Receiver_init : putF "latest" x4 (putF "idle" x3 (putF "size" x2 (putF "ring" x1 (putF "queue" x0 [])))) = F_Receiver x0 x1 x2 x3 x4 := by unfold F_Receiver; rw [putF_nil, F_Receiver_i1, F_Receiver_i2, F_Receiver_i3, F_Receiver_i4]
end
def F_Ring (x0 x1 x2 : V) : List (Str × V) := [("_cells", x0), ("written", x1), ("taken", x2)]
section
variable {x0 x1 x2 v : V}
theorem F_Ring_cells_l : (F_Ring x0 x1 x2).lookup ("_cells" : Str) = some x0 := by unfold F_Ring; rw [look_hit]
theorem F_Ring_cells_p : putF "_cells" v (F_Ring x0 x1 x2) = F_Ring v x1 x2 := by unfold F_Ring; rw [putF_hit]; try rfl
theorem F_Ring_written_l : (F_Ring x0 x1 x2).lookup ("written" : Str) = some x1 := by unfold F_Ring; rw [look_miss (by decide +kernel), look_hit]
theorem F_Ring_written_p : putF "written" v (F_Ring x0 x1 x2) = F_Ring x0 v x2 := by unfold F_Ring; rw [putF_miss (by decide +kernel), putF_hit]; try rfl
theorem F_Ring_taken_l : (F_Ring x0 x1 x2).lookup ("taken" : Str) = some x2 := by unfold F_Ring; rw [look_miss (by decide +kernel), look_miss (by decide +kernel), look_hit]
theorem F_Ring_taken_p : putF "taken" v (F_Ring x0 x1 x2) = F_Ring x0 x1 v := by unfold F_Ring; rw [putF_miss (by decide +kernel), putF_miss (by decide +kernel), putF_hit]; try rfl
theorem F_Ring_m_held : (F_Ring x0 x1 x2).lookup ("held" : Str) = none := by unfold F_Ring; rw [look_miss (by decide +kernel), look_miss (by decide +kernel), look_miss (by decide +kernel)]; try rfl
theorem F_Ring_m_is_full : (F_Ring x0 x1 x2).lookup ("is_full" : Str) = none := by unfold F_Ring; rw [look_miss (by decide +kernel), look_miss (by decide +kernel), look_miss (by decide +kernel)]; try rfl
theorem F_Ring_m_put : (F_Ring x0 x1 x2).lookup ("put" : Str) = none := by unfold F_Ring; rw [look_miss (by decide +kernel), look_miss (by decide +kernel), look_miss (by decide +kernel)]; try rfl
theorem F_Ring_m_first : (F_Ring x0 x1 x2).lookup ("first" : Str) = none := by unfold F_Ring; rw [look_miss (by decide +kernel), look_miss (by decide +kernel), look_miss (by decide +kernel)]; try rfl
theorem F_Ring_m_take : (F_Ring x0 x1 x2).lookup ("take" : Str) = none := by unfold F_Ring; rw [look_miss (by decide +kernel), look_miss (by decide +kernel), look_miss (by decide +kernel)]; try rfl
theorem F_Ring_m_listed : (F_Ring x0 x1 x2).lookup ("listed" : Str) = none := by unfold F_Ring; rw [look_miss (by decide +kernel), look_miss (by decide +kernel), look_miss (by decide +kernel)]; try rfl
theorem F_Ring_m_next : (F_Ring x0 x1 x2).lookup ("_next" : Str) = none := by unfold F_Ring; rw [look_miss (by decide +kernel), look_miss (by decide +kernel), look_miss (by decide +kernel)]; try rfl
theorem F_Ring_len : (F_Ring x0 x1 x2).length < 1000 := by show 3 < 1000; decide
theorem F_Ring_i1 : putF "written" x1 ([(("_cells" : Str), x0)] : List (Str × V)) = [(("_cells" : Str), x0), (("written" : Str), x1)] := by rw [putF_miss (by decide +kernel)]; rfl
theorem F_Ring_i2 : putF "taken" x2 ([(("_cells" : Str), x0), (("written" : Str), x1)] : List (Str × V)) = [(("_cells" : Str), x0), (("written" : Str), x1), (("taken" : Str), x2)] := by rw [putF_miss (by decide +kernel), putF_miss (by decide +kernel)]; rfl
theorem F_Ring_init : putF "taken" x2 (putF "written" x1 (putF "_cells" x0 [])) = F_Ring x0 x1 x2 := by unfold F_Ring; rw [putF_nil, F_Ring_i1, F_Ring_i2]
end
def F_ReceiveQueue (x0 x1 x2 : V) : List (Str × V) := [("capacity", x0), ("_items", x1), ("_ticks", x2)]
section
variable {x0 x1 x2 v : V}
theorem F_ReceiveQueue_capacity_l : (F_ReceiveQueue x0 x1 x2).lookup ("capacity" : Str) = some x0 := by unfold F_ReceiveQueue; rw [look_hit]
theorem F_ReceiveQueue_capacity_p : putF "capacity" v (F_ReceiveQueue x0 x1 x2) = F_ReceiveQueue v x1 x2 := by unfold F_ReceiveQueue; rw [putF_hit]; try rfl
theorem F_ReceiveQueue_items_l : (F_ReceiveQueue x0 x1 x2).lookup ("_items" : Str) = some x1 := by unfold F_ReceiveQueue; rw [look_miss (by decide +kernel), look_hit]
theorem F_ReceiveQueue_items_p : putF "_items" v (F_ReceiveQueue x0 x1 x2) = F_ReceiveQueue x0 v x2 := by unfold F_ReceiveQueue; rw [putF_miss (by decide +kernel), putF_hit]; try rfl
theorem F_ReceiveQueue_ticks_l : (F_ReceiveQueue x0 x1 x2).lookup ("_ticks" : Str) = some x2 := by unfold F_ReceiveQueue; rw [look_miss (by decide +kernel), look_miss (by decide +kernel), look_hit]
theorem F_ReceiveQueue_ticks_p : putF "_ticks" v (F_ReceiveQueue x0 x1 x2) = F_ReceiveQueue x0 x1 v := by unfold F_ReceiveQueue; rw [putF_miss (by decide +kernel), putF_miss (by decide +kernel), putF_hit]; try rfl
theorem F_ReceiveQueue_m_arrive : (F_ReceiveQueue x0 x1 x2).lookup ("arrive" : Str) = none := by unfold F_ReceiveQueue; rw [look_miss (by decide +kernel), look_miss (by decide +kernel), look_miss (by decide +kernel)]; try rfl
theorem F_ReceiveQueue_m_first : (F_ReceiveQueue x0 x1 x2).lookup ("first" : Str) = none := by unfold F_ReceiveQueue; rw [look_miss (by decide +kernel), look_miss (by decide +kernel), look_miss (by decide +kernel)]; try rfl
theorem F_ReceiveQueue_m_take : (F_ReceiveQueue x0 x1 x2).lookup ("take" : Str) = none := by unfold F_ReceiveQueue; rw [look_miss (by decide +kernel), look_miss (by decide +kernel), look_miss (by decide +kernel)]; try rfl
theorem F_ReceiveQueue_m_oldest_tick : (F_ReceiveQueue x0 x1 x2).lookup ("oldest_tick" : Str) = none := by unfold F_ReceiveQueue; rw [look_miss (by decide +kernel), look_miss (by decide +kernel), look_miss (by decide +kernel)]; try rfl
theorem F_ReceiveQueue_m_bytes_held : (F_ReceiveQueue x0 x1 x2).lookup ("bytes_held" : Str) = none := by unfold F_ReceiveQueue; rw [look_miss (by decide +kernel), look_miss (by decide +kernel), look_miss (by decide +kernel)]; try rfl
theorem F_ReceiveQueue_m_contents : (F_ReceiveQueue x0 x1 x2).lookup ("contents" : Str) = none := by unfold F_ReceiveQueue; rw [look_miss (by decide +kernel), look_miss (by decide +kernel), look_miss (by decide +kernel)]; try rfl
theorem F_ReceiveQueue_m_append : (F_ReceiveQueue x0 x1 x2).lookup ("_append" : Str) = none := by unfold F_ReceiveQueue; rw [look_miss (by decide +kernel), look_miss (by decide +kernel), look_miss (by decide +kernel)]; try rfl
theorem F_ReceiveQueue_m_lose : (F_ReceiveQueue x0 x1 x2).lookup ("_lose" : Str) = none := by unfold F_ReceiveQueue; rw [look_miss (by decide +kernel), look_miss (by decide +kernel), look_miss (by decide +kernel)]; try rfl
theorem F_ReceiveQueue_len : (F_ReceiveQueue x0 x1 x2).length < 1000 := by show 3 < 1000; decide
theorem F_ReceiveQueue_i1 : putF "_items" x1 ([(("capacity" : Str), x0)] : List (Str × V)) = [(("capacity" : Str), x0), (("_items" : Str), x1)] := by rw [putF_miss (by decide +kernel)]; rfl
theorem F_ReceiveQueue_i2 : putF "_ticks" x2 ([(("capacity" : Str), x0), (("_items" : Str), x1)] : List (Str × V)) = [(("capacity" : Str), x0), (("_items" : Str), x1), (("_ticks" : Str), x2)] := by rw [putF_miss (by decide +kernel), putF_miss (by decide +kernel)]; rfl
theorem F_ReceiveQueue_init : putF "_ticks" x2 (putF "_items" x1 (putF "capacity" x0 [])) = F_ReceiveQueue x0 x1 x2 := by unfold F_ReceiveQueue; rw [putF_nil, F_ReceiveQueue_i1, F_ReceiveQueue_i2]
end
def F_SlotRing (x0 x1 x2 x3 : V) : List (Str × V) := [("_slots", x0), ("_armed", x1), ("_filled", x2), ("_added", x3)]
section
variable {x0 x1 x2 x3 v : V}
theorem F_SlotRing_slots_l : (F_SlotRing x0 x1 x2 x3).lookup ("_slots" : Str) = some x0 := by unfold F_SlotRing; rw [look_hit]
theorem F_SlotRing_slots_p : putF "_slots" v (F_SlotRing x0 x1 x2 x3) = F_SlotRing v x1 x2 x3 := by unfold F_SlotRing; rw [putF_hit]; try rfl
theorem F_SlotRing_armed_l : (F_SlotRing x0 x1 x2 x3).lookup ("_armed" : Str) = some x1 := by unfold F_SlotRing; rw [look_miss (by decide +kernel), look_hit]
theorem F_SlotRing_armed_p : putF "_armed" v (F_SlotRing x0 x1 x2 x3) = F_SlotRing x0 v x2 x3 := by unfold F_SlotRing; rw [putF_miss (by decide +kernel), putF_hit]; try rfl
theorem F_SlotRing_filled_l : (F_SlotRing x0 x1 x2 x3).lookup ("_filled" : Str) = some x2 := by unfold F_SlotRing; rw [look_miss (by decide +kernel), look_miss (by decide +kernel), look_hit]
theorem F_SlotRing_filled_p : putF "_filled" v (F_SlotRing x0 x1 x2 x3) = F_SlotRing x0 x1 v x3 := by unfold F_SlotRing; rw [putF_miss (by decide +kernel), putF_miss (by decide +kernel), putF_hit]; try rfl
theorem F_SlotRing_added_l : (F_SlotRing x0 x1 x2 x3).lookup ("_added" : Str) = some x3 := by unfold F_SlotRing; rw [look_miss (by decide +kernel), look_miss (by decide +kernel), look_miss (by decide +kernel), look_hit]
theorem F_SlotRing_added_p : putF "_added" v (F_SlotRing x0 x1 x2 x3) = F_SlotRing x0 x1 x2 v := by unfold F_SlotRing; rw [putF_miss (by decide +kernel), putF_miss (by decide +kernel), putF_miss (by decide +kernel), putF_hit]; try rfl
theorem F_SlotRing_m_can_arm : (F_SlotRing x0 x1 x2 x3).lookup ("can_arm" : Str) = none := by unfold F_SlotRing; rw [look_miss (by decide +kernel), look_miss (by decide +kernel), look_miss (by decide +kernel), look_miss (by decide +kernel)]; try rfl
theorem F_SlotRing_m_arm : (F_SlotRing x0 x1 x2 x3).lookup ("arm" : Str) = none := by unfold F_SlotRing; rw [look_miss (by decide +kernel), look_miss (by decide +kernel), look_miss (by decide +kernel), look_miss (by decide +kernel)]; try rfl
theorem F_SlotRing_m_open_slot : (F_SlotRing x0 x1 x2 x3).lookup ("open_slot" : Str) = none := by unfold F_SlotRing; rw [look_miss (by decide +kernel), look_miss (by decide +kernel), look_miss (by decide +kernel), look_miss (by decide +kernel)]; try rfl
theorem F_SlotRing_m_open_bytes : (F_SlotRing x0 x1 x2 x3).lookup ("open_bytes" : Str) = none := by unfold F_SlotRing; rw [look_miss (by decide +kernel), look_miss (by decide +kernel), look_miss (by decide +kernel), look_miss (by decide +kernel)]; try rfl
theorem F_SlotRing_m_open_count : (F_SlotRing x0 x1 x2 x3).lookup ("open_count" : Str) = none := by unfold F_SlotRing; rw [look_miss (by decide +kernel), look_miss (by decide +kernel), look_miss (by decide +kernel), look_miss (by decide +kernel)]; try rfl
theorem F_SlotRing_m_add : (F_SlotRing x0 x1 x2 x3).lookup ("add" : Str) = none := by unfold F_SlotRing; rw [look_miss (by decide +kernel), look_miss (by decide +kernel), look_miss (by decide +kernel), look_miss (by decide +kernel)]; try rfl
theorem F_SlotRing_m_close : (F_SlotRing x0 x1 x2 x3).lookup ("close" : Str) = none := by unfold F_SlotRing; rw [look_miss (by decide +kernel), look_miss (by decide +kernel), look_miss (by decide +kernel), look_miss (by decide +kernel)]; try rfl
theorem F_SlotRing_m_oldest : (F_SlotRing x0 x1 x2 x3).lookup ("oldest" : Str) = none := by unfold F_SlotRing; rw [look_miss (by decide +kernel), look_miss (by decide +kernel), look_miss (by decide +kernel), look_miss (by decide +kernel)]; try rfl
theorem F_SlotRing_m_reap : (F_SlotRing x0 x1 x2 x3).lookup ("reap" : Str) = none := by unfold F_SlotRing; rw [look_miss (by decide +kernel), look_miss (by decide +kernel), look_miss (by decide +kernel), look_miss (by decide +kernel)]; try rfl
theorem F_SlotRing_m_filled_slots : (F_SlotRing x0 x1 x2 x3).lookup ("filled_slots" : Str) = none := by unfold F_SlotRing; rw [look_miss (by decide +kernel), look_miss (by decide +kernel), look_miss (by decide +kernel), look_miss (by decide +kernel)]; try rfl
theorem F_SlotRing_m_buffers : (F_SlotRing x0 x1 x2 x3).lookup ("buffers" : Str) = none := by unfold F_SlotRing; rw [look_miss (by decide +kernel), look_miss (by decide +kernel), look_miss (by decide +kernel), look_miss (by decide +kernel)]; try rfl
theorem F_SlotRing_len : (F_SlotRing x0 x1 x2 x3).length < 1000 := by show 4 < 1000; decide
theorem F_SlotRing_i1 : putF "_armed" x1 ([(("_slots" : Str), x0)] : List (Str × V)) = [(("_slots" : Str), x0), (("_armed" : Str), x1)] := by rw [putF_miss (by decide +kernel)]; rfl
theorem F_SlotRing_i2 : putF "_filled" x2 ([(("_slots" : Str), x0), (("_armed" : Str), x1)] : List (Str × V)) = [(("_slots" : Str), x0), (("_armed" : Str), x1), (("_filled" : Str), x2)] := by rw [putF_miss (by decide +kernel), putF_miss (by decide +kernel)]; rfl
theorem F_SlotRing_i3 : putF "_added" x3 ([(("_slots" : Str), x0), (("_armed" : Str), x1), (("_filled" : Str), x2)] : List (Str × V)) = [(("_slots" : Str), x0), (("_armed" : Str), x1), (("_filled" : Str), x2), (("_added" : Str), x3)] := by rw [putF_miss (by decide +kernel), putF_miss (by decide +kernel), putF_miss (by decide +kernel)]; rfl
theorem F_SlotRing_init : putF "_added" x3 (putF "_filled" x2 (putF "_armed" x1 (putF "_slots" x0 []))) = F_SlotRing x0 x1 x2 x3 := by unfold F_SlotRing; rw [putF_nil, F_SlotRing_i1, F_SlotRing_i2, F_SlotRing_i3]
end
def sp_law0 (K : PySem.W.Frag) : Sp := A1 fun v H Q _ => ∃ (b : Addr) (ns : List Int), v = .ref b ∧ SqL K H b (ns.map V.int) ∧ ns.length ≤ 63 ∧ ∀ H1, Q (.bl true) H1
abbrev sp_law (K : PySem.W.Frag) (a : Ads) : Sp := sp_law0 K
/-- what the top has written -/
structure Txt (P : Program) (w : World) (K : PySem.W.Frag) (mg : Str → Option Value) (base : Heap) (a : Ads) : Prop where
  g_abs : mg "abs" = none
  g_bool : mg "bool" = none
  g_int : mg "int" = none
  g_isinstance : mg "isinstance" = none
  g_len : mg "len" = none
  g_list : mg "list" = none
  g_range : mg "range" = none
  g_tuple : mg "tuple" = none
  F_wall : Fun K "_wall" "_wall" s_wall a.f_wall a.fd_wall
  b_wall : Binds K a.fd_wall ["k"] []
  g_wall : mg "_wall" = some (.ref a.f_wall)
  F_lost_mark : Fun K "lost_mark" "lost_mark" s_lost_mark a.f_lost_mark a.fd_lost_mark
  b_lost_mark : Binds K a.fd_lost_mark ["many"] []
  g_lost_mark : mg "lost_mark" = some (.ref a.f_lost_mark)
  F_is_mark : Fun K "is_mark" "is_mark" s_is_mark a.f_is_mark a.fd_is_mark
  b_is_mark : Binds K a.fd_is_mark ["item"] []
  g_is_mark : mg "is_mark" = some (.ref a.f_is_mark)
  F_lost_by : Fun K "lost_by" "lost_by" s_lost_by a.f_lost_by a.fd_lost_by
  b_lost_by : Binds K a.fd_lost_by ["mark"] []
  g_lost_by : mg "lost_by" = some (.ref a.f_lost_by)
  F_joined : Fun K "joined" "joined" s_joined a.f_joined a.fd_joined
  b_joined : Binds K a.fd_joined ["mark", "other"] []
  g_joined : mg "joined" = some (.ref a.f_joined)
  F_bytes_among : Fun K "bytes_among" "bytes_among" s_bytes_among a.f_bytes_among a.fd_bytes_among
  b_bytes_among : Binds K a.fd_bytes_among ["items"] []
  g_bytes_among : mg "bytes_among" = some (.ref a.f_bytes_among)
  F_Receiver_init : Fun K "__init__" "Receiver.__init__" s_Receiver_init a.f_Receiver_init a.fd_Receiver_init
  b_Receiver_init : Binds K a.fd_Receiver_init ["self", "queue", "ring", "size", "idle"] []
  mk_Receiver : Mk K a.C_Receiver a.f_Receiver_init
  F_Receiver_can_step : Fun K "can_step" "Receiver.can_step" s_Receiver_can_step a.f_Receiver_can_step a.fd_Receiver_can_step
  b_Receiver_can_step : Binds K a.fd_Receiver_can_step ["self"] []
  m_Receiver_can_step : Meth K a.C_Receiver "can_step" a.f_Receiver_can_step
  F_Receiver_step : Fun K "step" "Receiver.step" s_Receiver_step a.f_Receiver_step a.fd_Receiver_step
  b_Receiver_step : Binds K a.fd_Receiver_step ["self", "now"] []
  m_Receiver_step : Meth K a.C_Receiver "step" a.f_Receiver_step
  F_Receiver_close_idle : Fun K "close_idle" "Receiver.close_idle" s_Receiver_close_idle a.f_Receiver_close_idle a.fd_Receiver_close_idle
  b_Receiver_close_idle : Binds K a.fd_Receiver_close_idle ["self", "now"] []
  m_Receiver_close_idle : Meth K a.C_Receiver "close_idle" a.f_Receiver_close_idle
  F_Receiver_add : Fun K "_add" "Receiver._add" s_Receiver_add a.f_Receiver_add a.fd_Receiver_add
  b_Receiver_add : Binds K a.fd_Receiver_add ["self", "byte", "now"] []
  m_Receiver_add : Meth K a.C_Receiver "_add" a.f_Receiver_add
  F_Ring_init : Fun K "__init__" "Ring.__init__" s_Ring_init a.f_Ring_init a.fd_Ring_init
  b_Ring_init : Binds K a.fd_Ring_init ["self", "cells"] []
  mk_Ring : Mk K a.C_Ring a.f_Ring_init
  F_Ring_held : Fun K "held" "Ring.held" s_Ring_held a.f_Ring_held a.fd_Ring_held
  b_Ring_held : Binds K a.fd_Ring_held ["self"] []
  m_Ring_held : Meth K a.C_Ring "held" a.f_Ring_held
  F_Ring_is_full : Fun K "is_full" "Ring.is_full" s_Ring_is_full a.f_Ring_is_full a.fd_Ring_is_full
  b_Ring_is_full : Binds K a.fd_Ring_is_full ["self"] []
  m_Ring_is_full : Meth K a.C_Ring "is_full" a.f_Ring_is_full
  F_Ring_put : Fun K "put" "Ring.put" s_Ring_put a.f_Ring_put a.fd_Ring_put
  b_Ring_put : Binds K a.fd_Ring_put ["self", "value"] []
  m_Ring_put : Meth K a.C_Ring "put" a.f_Ring_put
  F_Ring_first : Fun K "first" "Ring.first" s_Ring_first a.f_Ring_first a.fd_Ring_first
  b_Ring_first : Binds K a.fd_Ring_first ["self"] []
  m_Ring_first : Meth K a.C_Ring "first" a.f_Ring_first
  F_Ring_take : Fun K "take" "Ring.take" s_Ring_take a.f_Ring_take a.fd_Ring_take
  b_Ring_take : Binds K a.fd_Ring_take ["self"] []
  m_Ring_take : Meth K a.C_Ring "take" a.f_Ring_take
  F_Ring_listed : Fun K "listed" "Ring.listed" s_Ring_listed a.f_Ring_listed a.fd_Ring_listed
  b_Ring_listed : Binds K a.fd_Ring_listed ["self"] []
  m_Ring_listed : Meth K a.C_Ring "listed" a.f_Ring_listed
  F_Ring_next : Fun K "_next" "Ring._next" s_Ring_next a.f_Ring_next a.fd_Ring_next
  b_Ring_next : Binds K a.fd_Ring_next ["self", "counter"] []
  m_Ring_next : Meth K a.C_Ring "_next" a.f_Ring_next
  F_ReceiveQueue_init : Fun K "__init__" "ReceiveQueue.__init__" s_ReceiveQueue_init a.f_ReceiveQueue_init a.fd_ReceiveQueue_init
  b_ReceiveQueue_init : Binds K a.fd_ReceiveQueue_init ["self", "capacity"] []
  mk_ReceiveQueue : Mk K a.C_ReceiveQueue a.f_ReceiveQueue_init
  F_ReceiveQueue_arrive : Fun K "arrive" "ReceiveQueue.arrive" s_ReceiveQueue_arrive a.f_ReceiveQueue_arrive a.fd_ReceiveQueue_arrive
  b_ReceiveQueue_arrive : Binds K a.fd_ReceiveQueue_arrive ["self", "byte", "tick"] []
  m_ReceiveQueue_arrive : Meth K a.C_ReceiveQueue "arrive" a.f_ReceiveQueue_arrive
  F_ReceiveQueue_first : Fun K "first" "ReceiveQueue.first" s_ReceiveQueue_first a.f_ReceiveQueue_first a.fd_ReceiveQueue_first
  b_ReceiveQueue_first : Binds K a.fd_ReceiveQueue_first ["self"] []
  m_ReceiveQueue_first : Meth K a.C_ReceiveQueue "first" a.f_ReceiveQueue_first
  F_ReceiveQueue_take : Fun K "take" "ReceiveQueue.take" s_ReceiveQueue_take a.f_ReceiveQueue_take a.fd_ReceiveQueue_take
  b_ReceiveQueue_take : Binds K a.fd_ReceiveQueue_take ["self"] []
  m_ReceiveQueue_take : Meth K a.C_ReceiveQueue "take" a.f_ReceiveQueue_take
  F_ReceiveQueue_oldest_tick : Fun K "oldest_tick" "ReceiveQueue.oldest_tick" s_ReceiveQueue_oldest_tick a.f_ReceiveQueue_oldest_tick a.fd_ReceiveQueue_oldest_tick
  b_ReceiveQueue_oldest_tick : Binds K a.fd_ReceiveQueue_oldest_tick ["self"] []
  m_ReceiveQueue_oldest_tick : Meth K a.C_ReceiveQueue "oldest_tick" a.f_ReceiveQueue_oldest_tick
  F_ReceiveQueue_bytes_held : Fun K "bytes_held" "ReceiveQueue.bytes_held" s_ReceiveQueue_bytes_held a.f_ReceiveQueue_bytes_held a.fd_ReceiveQueue_bytes_held
  b_ReceiveQueue_bytes_held : Binds K a.fd_ReceiveQueue_bytes_held ["self"] []
  m_ReceiveQueue_bytes_held : Meth K a.C_ReceiveQueue "bytes_held" a.f_ReceiveQueue_bytes_held
  F_ReceiveQueue_contents : Fun K "contents" "ReceiveQueue.contents" s_ReceiveQueue_contents a.f_ReceiveQueue_contents a.fd_ReceiveQueue_contents
  b_ReceiveQueue_contents : Binds K a.fd_ReceiveQueue_contents ["self"] []
  m_ReceiveQueue_contents : Meth K a.C_ReceiveQueue "contents" a.f_ReceiveQueue_contents
  F_ReceiveQueue_append : Fun K "_append" "ReceiveQueue._append" s_ReceiveQueue_append a.f_ReceiveQueue_append a.fd_ReceiveQueue_append
  b_ReceiveQueue_append : Binds K a.fd_ReceiveQueue_append ["self", "item", "tick"] []
  m_ReceiveQueue_append : Meth K a.C_ReceiveQueue "_append" a.f_ReceiveQueue_append
  F_ReceiveQueue_lose : Fun K "_lose" "ReceiveQueue._lose" s_ReceiveQueue_lose a.f_ReceiveQueue_lose a.fd_ReceiveQueue_lose
  b_ReceiveQueue_lose : Binds K a.fd_ReceiveQueue_lose ["self", "tick"] []
  m_ReceiveQueue_lose : Meth K a.C_ReceiveQueue "_lose" a.f_ReceiveQueue_lose
  F_copied : Fun K "_copied" "_copied" s_copied a.f_copied a.fd_copied
  b_copied : Binds K a.fd_copied ["slot"] []
  g_copied : mg "_copied" = some (.ref a.f_copied)
  F_SlotRing_init : Fun K "__init__" "SlotRing.__init__" s_SlotRing_init a.f_SlotRing_init a.fd_SlotRing_init
  b_SlotRing_init : Binds K a.fd_SlotRing_init ["self", "slots"] []
  mk_SlotRing : Mk K a.C_SlotRing a.f_SlotRing_init
  F_SlotRing_can_arm : Fun K "can_arm" "SlotRing.can_arm" s_SlotRing_can_arm a.f_SlotRing_can_arm a.fd_SlotRing_can_arm
  b_SlotRing_can_arm : Binds K a.fd_SlotRing_can_arm ["self"] []
  m_SlotRing_can_arm : Meth K a.C_SlotRing "can_arm" a.f_SlotRing_can_arm
  F_SlotRing_arm : Fun K "arm" "SlotRing.arm" s_SlotRing_arm a.f_SlotRing_arm a.fd_SlotRing_arm
  b_SlotRing_arm : Binds K a.fd_SlotRing_arm ["self", "buffer"] []
  m_SlotRing_arm : Meth K a.C_SlotRing "arm" a.f_SlotRing_arm
  F_SlotRing_open_slot : Fun K "open_slot" "SlotRing.open_slot" s_SlotRing_open_slot a.f_SlotRing_open_slot a.fd_SlotRing_open_slot
  b_SlotRing_open_slot : Binds K a.fd_SlotRing_open_slot ["self"] []
  m_SlotRing_open_slot : Meth K a.C_SlotRing "open_slot" a.f_SlotRing_open_slot
  F_SlotRing_open_bytes : Fun K "open_bytes" "SlotRing.open_bytes" s_SlotRing_open_bytes a.f_SlotRing_open_bytes a.fd_SlotRing_open_bytes
  b_SlotRing_open_bytes : Binds K a.fd_SlotRing_open_bytes ["self"] []
  m_SlotRing_open_bytes : Meth K a.C_SlotRing "open_bytes" a.f_SlotRing_open_bytes
  F_SlotRing_open_count : Fun K "open_count" "SlotRing.open_count" s_SlotRing_open_count a.f_SlotRing_open_count a.fd_SlotRing_open_count
  b_SlotRing_open_count : Binds K a.fd_SlotRing_open_count ["self"] []
  m_SlotRing_open_count : Meth K a.C_SlotRing "open_count" a.f_SlotRing_open_count
  F_SlotRing_add : Fun K "add" "SlotRing.add" s_SlotRing_add a.f_SlotRing_add a.fd_SlotRing_add
  b_SlotRing_add : Binds K a.fd_SlotRing_add ["self", "byte"] []
  m_SlotRing_add : Meth K a.C_SlotRing "add" a.f_SlotRing_add
  F_SlotRing_close : Fun K "close" "SlotRing.close" s_SlotRing_close a.f_SlotRing_close a.fd_SlotRing_close
  b_SlotRing_close : Binds K a.fd_SlotRing_close ["self", "lost"] []
  m_SlotRing_close : Meth K a.C_SlotRing "close" a.f_SlotRing_close
  F_SlotRing_oldest : Fun K "oldest" "SlotRing.oldest" s_SlotRing_oldest a.f_SlotRing_oldest a.fd_SlotRing_oldest
  b_SlotRing_oldest : Binds K a.fd_SlotRing_oldest ["self"] []
  m_SlotRing_oldest : Meth K a.C_SlotRing "oldest" a.f_SlotRing_oldest
  F_SlotRing_reap : Fun K "reap" "SlotRing.reap" s_SlotRing_reap a.f_SlotRing_reap a.fd_SlotRing_reap
  b_SlotRing_reap : Binds K a.fd_SlotRing_reap ["self"] []
  m_SlotRing_reap : Meth K a.C_SlotRing "reap" a.f_SlotRing_reap
  F_SlotRing_filled_slots : Fun K "filled_slots" "SlotRing.filled_slots" s_SlotRing_filled_slots a.f_SlotRing_filled_slots a.fd_SlotRing_filled_slots
  b_SlotRing_filled_slots : Binds K a.fd_SlotRing_filled_slots ["self"] []
  m_SlotRing_filled_slots : Meth K a.C_SlotRing "filled_slots" a.f_SlotRing_filled_slots
  F_SlotRing_buffers : Fun K "buffers" "SlotRing.buffers" s_SlotRing_buffers a.f_SlotRing_buffers a.fd_SlotRing_buffers
  b_SlotRing_buffers : Binds K a.fd_SlotRing_buffers ["self"] []
  m_SlotRing_buffers : Meth K a.C_SlotRing "buffers" a.f_SlotRing_buffers
  F_law_state : Fun K "_law_state" "_law_state" s_law_state a.f_law_state a.fd_law_state
  b_law_state : Binds K a.fd_law_state ["script"] []
  g_law_state : mg "_law_state" = some (.ref a.f_law_state)
  F_law_draw : Fun K "_law_draw" "_law_draw" s_law_draw a.f_law_draw a.fd_law_draw
  b_law_draw : Binds K a.fd_law_draw ["state", "many"] []
  g_law_draw : mg "_law_draw" = some (.ref a.f_law_draw)
  F_law_pick : Fun K "_law_pick" "_law_pick" s_law_pick a.f_law_pick a.fd_law_pick
  b_law_pick : Binds K a.fd_law_pick ["state", "row"] []
  g_law_pick : mg "_law_pick" = some (.ref a.f_law_pick)
  F_law_arrives : Fun K "_law_arrives" "_law_arrives" s_law_arrives a.f_law_arrives a.fd_law_arrives
  b_law_arrives : Binds K a.fd_law_arrives ["queue", "world", "byte", "tick"] []
  g_law_arrives : mg "_law_arrives" = some (.ref a.f_law_arrives)
  F_law_close : Fun K "_law_close" "_law_close" s_law_close a.f_law_close a.fd_law_close
  b_law_close : Binds K a.fd_law_close ["world", "lost"] []
  g_law_close : mg "_law_close" = some (.ref a.f_law_close)
  F_law_steps : Fun K "_law_steps" "_law_steps" s_law_steps a.f_law_steps a.fd_law_steps
  b_law_steps : Binds K a.fd_law_steps ["receiver", "world", "size", "now"] []
  g_law_steps : mg "_law_steps" = some (.ref a.f_law_steps)
  F_law_idles : Fun K "_law_idles" "_law_idles" s_law_idles a.f_law_idles a.fd_law_idles
  b_law_idles : Binds K a.fd_law_idles ["receiver", "world", "idle", "now"] []
  g_law_idles : mg "_law_idles" = some (.ref a.f_law_idles)
  F_law_agrees : Fun K "_law_agrees" "_law_agrees" s_law_agrees a.f_law_agrees a.fd_law_agrees
  b_law_agrees : Binds K a.fd_law_agrees ["receiver", "queue", "ring", "world"] []
  g_law_agrees : mg "_law_agrees" = some (.ref a.f_law_agrees)
  F_law_changes : Fun K "_law_changes" "_law_changes" s_law_changes a.f_law_changes a.fd_law_changes
  b_law_changes : Binds K a.fd_law_changes ["state", "queue", "ring", "world", "slots", "now"] []
  g_law_changes : mg "_law_changes" = some (.ref a.f_law_changes)
  F_law : Fun K "law" "law" s_law a.f_law a.fd_law
  b_law : Binds K a.fd_law ["script"] []
  g_law : mg "law" = some (.ref a.f_law)
  g_Receiver : mg "Receiver" = some (.ref a.C_Receiver)
  g_TickringsError : mg "TickringsError" = some (.ref a.C_TickringsError)
  g_RingError : mg "RingError" = some (.ref a.C_RingError)
  g_Ring : mg "Ring" = some (.ref a.C_Ring)
  g_ReceiveQueue : mg "ReceiveQueue" = some (.ref a.C_ReceiveQueue)
  g_SlotRing : mg "SlotRing" = some (.ref a.C_SlotRing)
  cl_Receiver : Cls K a.C_Receiver
  n_Receiver_queue : NoAttr K a.C_Receiver "queue"
  n_Receiver_ring : NoAttr K a.C_Receiver "ring"
  n_Receiver_size : NoAttr K a.C_Receiver "size"
  n_Receiver_idle : NoAttr K a.C_Receiver "idle"
  n_Receiver_latest : NoAttr K a.C_Receiver "latest"
  cl_Ring : Cls K a.C_Ring
  n_Ring_cells : NoAttr K a.C_Ring "_cells"
  n_Ring_written : NoAttr K a.C_Ring "written"
  n_Ring_taken : NoAttr K a.C_Ring "taken"
  cl_ReceiveQueue : Cls K a.C_ReceiveQueue
  n_ReceiveQueue_capacity : NoAttr K a.C_ReceiveQueue "capacity"
  n_ReceiveQueue_items : NoAttr K a.C_ReceiveQueue "_items"
  n_ReceiveQueue_ticks : NoAttr K a.C_ReceiveQueue "_ticks"
  cl_SlotRing : Cls K a.C_SlotRing
  n_SlotRing_slots : NoAttr K a.C_SlotRing "_slots"
  n_SlotRing_armed : NoAttr K a.C_SlotRing "_armed"
  n_SlotRing_filled : NoAttr K a.C_SlotRing "_filled"
  n_SlotRing_added : NoAttr K a.C_SlotRing "_added"
  e_RingError : EK P w K mg base "RingError" "held" a.C_RingError a.f_RingError_init a.fd_RingError_init ["self", "held"]
local macro_rules | `(tactic| walk_at "ne") => `(tactic| (first | with_reducible assumption | with_reducible exact Ne.symm (by with_reducible assumption)))
local macro_rules | `(tactic| walk_at "nin") => `(tactic| (simp only [List.mem_cons, List.not_mem_nil, or_false, not_or, not_false_eq_true]; (repeat' refine And.intro ?_ ?_); (all_goals walk_at "ne")))
local macro_rules | `(tactic| walk_at "hl") => `(tactic| (first | (with_reducible assumption) | exact upd_same | ((with_reducible refine' (upd_ne ?hne).trans ?hgo); (case hne => walk_at "ne"); (case hgo => walk_at "hl"))))
local macro_rules | `(tactic| walk_at "sq") => `(tactic| (first | (with_reducible assumption) | exact Or.inl (Or.inl (by walk_at "hl"))))
local macro_rules | `(tactic| walk_at "ar") => `(tactic| (first | omega | exact ⟨by omega, by omega⟩ | exact Or.inl ⟨by omega, by omega⟩ | exact Or.inr ⟨by omega, by omega⟩ | (show (0 : Int) < _; omega) | (show (0 : Int) < _ ∧ _ < (1073741824 : Int); omega)))
local macro_rules | `(tactic| walk_at "cls") => `(tactic| (first | exact Txt.cl_Receiver (by assumption) | exact Txt.cl_Ring (by assumption) | exact Txt.cl_ReceiveQueue (by assumption) | exact Txt.cl_SlotRing (by assumption)))
local macro_rules | `(tactic| walk_at "noa") => `(tactic| (first | exact Txt.n_Receiver_queue (by assumption) | exact Txt.n_Receiver_ring (by assumption) | exact Txt.n_Receiver_size (by assumption) | exact Txt.n_Receiver_idle (by assumption) | exact Txt.n_Receiver_latest (by assumption) | exact Txt.n_Ring_cells (by assumption) | exact Txt.n_Ring_written (by assumption) | exact Txt.n_Ring_taken (by assumption) | exact Txt.n_ReceiveQueue_capacity (by assumption) | exact Txt.n_ReceiveQueue_items (by assumption) | exact Txt.n_ReceiveQueue_ticks (by assumption) | exact Txt.n_SlotRing_slots (by assumption) | exact Txt.n_SlotRing_armed (by assumption) | exact Txt.n_SlotRing_filled (by assumption) | exact Txt.n_SlotRing_added (by assumption)))
local macro_rules | `(tactic| walk_at "lkp") => `(tactic| (first | (with_reducible exact F_Receiver_queue_l) | (with_reducible exact F_Receiver_ring_l) | (with_reducible exact F_Receiver_size_l) | (with_reducible exact F_Receiver_idle_l) | (with_reducible exact F_Receiver_latest_l) | (with_reducible exact F_Ring_cells_l) | (with_reducible exact F_Ring_written_l) | (with_reducible exact F_Ring_taken_l) | (with_reducible exact F_ReceiveQueue_capacity_l) | (with_reducible exact F_ReceiveQueue_items_l) | (with_reducible exact F_ReceiveQueue_ticks_l) | (with_reducible exact F_SlotRing_slots_l) | (with_reducible exact F_SlotRing_armed_l) | (with_reducible exact F_SlotRing_filled_l) | (with_reducible exact F_SlotRing_added_l)))
local macro_rules | `(tactic| walk_at "ptf") => `(tactic| (first | (with_reducible exact F_Receiver_queue_p) | (with_reducible exact F_Receiver_ring_p) | (with_reducible exact F_Receiver_size_p) | (with_reducible exact F_Receiver_idle_p) | (with_reducible exact F_Receiver_latest_p) | (with_reducible exact F_Ring_cells_p) | (with_reducible exact F_Ring_written_p) | (with_reducible exact F_Ring_taken_p) | (with_reducible exact F_ReceiveQueue_capacity_p) | (with_reducible exact F_ReceiveQueue_items_p) | (with_reducible exact F_ReceiveQueue_ticks_p) | (with_reducible exact F_SlotRing_slots_p) | (with_reducible exact F_SlotRing_armed_p) | (with_reducible exact F_SlotRing_filled_p) | (with_reducible exact F_SlotRing_added_p) | exact rfl))
local macro_rules | `(tactic| walk_at "lnF") => `(tactic| (first | (with_reducible exact F_Receiver_len) | (with_reducible exact F_Ring_len) | (with_reducible exact F_ReceiveQueue_len) | (with_reducible exact F_SlotRing_len) | (refine PL.lt (n := 60) ?_ (by decide); (repeat refine PL.put ?_); exact PL.nil) | decide))
local macro_rules | `(tactic| walk_at "nol") => `(tactic| (first | (with_reducible exact F_Receiver_m_can_step) | (with_reducible exact F_Receiver_m_step) | (with_reducible exact F_Receiver_m_close_idle) | (with_reducible exact F_Receiver_m_add) | (with_reducible exact F_Ring_m_held) | (with_reducible exact F_Ring_m_is_full) | (with_reducible exact F_Ring_m_put) | (with_reducible exact F_Ring_m_first) | (with_reducible exact F_Ring_m_take) | (with_reducible exact F_Ring_m_listed) | (with_reducible exact F_Ring_m_next) | (with_reducible exact F_ReceiveQueue_m_arrive) | (with_reducible exact F_ReceiveQueue_m_first) | (with_reducible exact F_ReceiveQueue_m_take) | (with_reducible exact F_ReceiveQueue_m_oldest_tick) | (with_reducible exact F_ReceiveQueue_m_bytes_held) | (with_reducible exact F_ReceiveQueue_m_contents) | (with_reducible exact F_ReceiveQueue_m_append) | (with_reducible exact F_ReceiveQueue_m_lose) | (with_reducible exact F_SlotRing_m_can_arm) | (with_reducible exact F_SlotRing_m_arm) | (with_reducible exact F_SlotRing_m_open_slot) | (with_reducible exact F_SlotRing_m_open_bytes) | (with_reducible exact F_SlotRing_m_open_count) | (with_reducible exact F_SlotRing_m_add) | (with_reducible exact F_SlotRing_m_close) | (with_reducible exact F_SlotRing_m_oldest) | (with_reducible exact F_SlotRing_m_reap) | (with_reducible exact F_SlotRing_m_filled_slots) | (with_reducible exact F_SlotRing_m_buffers)))
local macro_rules | `(tactic| walk_at "r1") => `(tactic| (first
  | with_reducible apply l_cons | ((with_reducible apply e_var); (case h => exact rfl)) | with_reducible apply l_nil | with_reducible apply s_seq | with_reducible apply e_c | with_reducible apply g_name
  | with_reducible apply s_asg | with_reducible apply e_call | with_reducible apply k_t | with_reducible apply e_op | with_reducible apply e_cb | with_reducible apply t_test
  | with_reducible apply s_if | with_reducible apply t_or | with_reducible apply t_and | with_reducible apply t_B | with_reducible apply s_next | with_reducible apply p_some
  | with_reducible apply p_no | with_reducible apply e_sl | with_reducible apply k_i | with_reducible apply e_lst | with_reducible apply t_not | with_reducible apply o_I0
  | ((with_reducible refine' o_I ?hc ?_); (case hc => walk_at "ar")) | with_reducible apply e_meth | ((with_reducible refine' k_meth ?h1 ?h2 ?_); (case h1 => walk_at "hl"); (case h2 => walk_at "nol")) | with_reducible apply e_fld | ((with_reducible refine' k_fld ?h1 ?h2 ?h3 ?h4 ?_); (case h1 => walk_at "hl"); (case h2 => walk_at "cls"); (case h3 => walk_at "noa"); (case h4 => walk_at "lkp")) | with_reducible apply e_not
  | with_reducible apply s_ret | ((with_reducible refine' k_ty ?h1 ?_); (case h1 => walk_at "sq")) | with_reducible apply s_drop | with_reducible apply s_retN | with_reducible apply s_cont | with_reducible apply s_break
  | with_reducible apply o_chC | ((with_reducible refine' o_chV ?hv ?_); (case hv => exact rfl)) | with_reducible apply e_un | with_reducible apply o_U | ((with_reducible refine' o_eq ?hs ?_); (case hs => exact rfl)) | ((with_reducible refine' o_ne ?hs ?_); (case hs => exact rfl))
  | ((with_reducible refine' o_ixL ?h1 ?h2 ?_); (case h1 => walk_at "sq"); (case h2 => first | exact rfl | exact atI_zero _ _)) | with_reducible apply s_fld | with_reducible apply e_make | ((with_reducible refine' k_set ?h1 ?h2 ?h3 ?h4 ?h5 ?_); (case h1 => walk_at "hl"); (case h2 => walk_at "cls"); (case h3 => walk_at "noa"); (case h4 => walk_at "ptf"); (case h5 => walk_at "lnF")) | with_reducible apply e_tup | with_reducible apply e_bm
  | with_reducible apply e_bm0 | with_reducible apply e_if | with_reducible apply e_chain | with_reducible apply s_raise | with_reducible apply g_sub | ((with_reducible refine' c_ln ?h1 ?_); (case h1 => walk_at "sq"))
  | ((with_reducible refine' c_pop0 ?h1 ?h2 ?_); (case h1 => walk_at "hl"); (case h2 => omega)) | with_reducible apply c_isBool | with_reducible apply c_isInt | with_reducible apply c_isBoolN | with_reducible apply c_isTupI | with_reducible apply c_isNonB
  | with_reducible apply c_isNonT | ((with_reducible refine' c_isList ?h1 ?_); (case h1 => walk_at "hl")) | ((with_reducible refine' c_isTup ?h1 ?_); (case h1 => walk_at "hl")) | ((with_reducible refine' c_isTupB ?h1 ?_); (case h1 => walk_at "hl")) | with_reducible apply o_isB | with_reducible apply o_notB
  | with_reducible apply e_and | with_reducible apply e_or | with_reducible apply k_bl | with_reducible apply e_xf | with_reducible apply s_augS | ((with_reducible refine' s_augV ?hv ?_); (case hv => exact rfl))
  | with_reducible apply ip_I | with_reducible apply e_lcE | ((with_reducible refine' k_xf ?h1 ?h2 ?_); (case h1 => walk_at "hl"); (case h2 => exact look_hit _ _ _)) | ((with_reducible refine' o_slL ?h1 ?_); (case h1 => walk_at "sq")) | ((with_reducible refine' k_dget ?h1 ?h2 ?_); (case h1 => walk_at "hl"); (case h2 => with_reducible assumption)) | with_reducible apply e_dget
  | with_reducible apply s_dput | with_reducible apply e_makeK | with_reducible apply g_cons | with_reducible apply g_nil | with_reducible apply c_ab | with_reducible apply c_in
  | with_reducible apply c_mx | with_reducible apply c_mn | with_reducible apply a1 | with_reducible apply a2 | with_reducible apply a3 | with_reducible apply a4
  | with_reducible apply a5 | with_reducible apply a6 | with_reducible apply a0 | with_reducible apply t_tru | with_reducible apply t_yes | ((with_reducible refine' k_truL ?h1 ?_); (case h1 => walk_at "sq")) | with_reducible refine d_nx ?_ | with_reducible refine d_rt ?_ | with_reducible refine d_bk ?_
  | with_reducible refine d_ct ?_))
local macro_rules | `(tactic| walk_at "r") => `(tactic| (repeat walk_at "r1"))
local macro_rules | `(tactic| walk_at "sel") => `(tactic| (first | with_reducible exact Sl.Sel.here | ((with_reducible refine' Sl.Sel.there ?t); (case t => walk_at "sel"))))
local macro_rules | `(tactic| walk_at "sels") => `(tactic| (first | with_reducible exact Sl.Sels.nil | ((with_reducible refine' Sl.Sels.cons ?a ?b); (case a => walk_at "sel"); (case b => walk_at "sels")) | with_reducible exact Sl.Sels.all _ | ((with_reducible refine' Sl.Sels.skip ?t); (case t => walk_at "sels"))))
local macro_rules | `(tactic| walk_at "selm") => `(tactic| ((try (simp only [])); (try simp only [List.map_append, List.map_cons, List.map_nil]); walk_at "sels"))
local macro_rules | `(tactic| walk_at "hg") => do
  let h := Lean.mkIdent `hs
  `(tactic| (first | (with_reducible assumption) | ((with_reducible refine' Sl.St.get $h ?s); (case s => walk_at "sel")) | ((with_reducible refine' Sl.St.geti $h ?s); (case s => walk_at "sel"))))
local macro_rules | `(tactic| walk_at "sg") => do
  let h := Lean.mkIdent `hs
  `(tactic| (first | (with_reducible assumption) | exact Or.inl (Or.inl (by walk_at "hg")) | (refine' Sl.sqA.U $h ?s; (case s => walk_at "sel"))))
local macro_rules | `(tactic| walk_at "le5") => `(tactic| (first | omega | (simp only [List.length_cons, List.length_nil, List.length_append, List.length_map]; omega) | (show _ ≤ _; decide) | (show _ < _; decide)))
local macro_rules | `(tactic| walk_at "km") => `(tactic| fail)
local macro_rules | `(tactic| walk_at "kf") => `(tactic| fail)
local macro_rules | `(tactic| walk_at "x1") => do
  let h := Lean.mkIdent `hs
  `(tactic| (first
  | with_reducible apply l_cons | ((with_reducible apply e_var); (case h => exact rfl)) | with_reducible apply l_nil | with_reducible apply s_seq | with_reducible apply e_c | with_reducible apply g_name
  | with_reducible apply s_asg | with_reducible apply e_call | with_reducible apply k_t | with_reducible apply e_op | with_reducible apply e_cb | with_reducible apply t_test
  | with_reducible apply s_if | with_reducible apply t_or | with_reducible apply t_and | with_reducible apply t_B | with_reducible apply s_next | with_reducible apply p_some
  | with_reducible apply p_no | with_reducible apply e_sl | with_reducible apply k_i | with_reducible apply Sl.e_lstS | with_reducible apply t_not | with_reducible apply o_I0
  | ((with_reducible refine' o_I ?hc ?_); (case hc => walk_at "ar")) | with_reducible apply e_meth | ((with_reducible refine' k_meth ?h1 ?h2 ?_); (case h1 => walk_at "hg"); (case h2 => walk_at "nol")) | walk_at "km" | with_reducible apply e_fld
  | ((with_reducible refine' k_fld ?h1 ?h2 ?h3 ?h4 ?_); (case h1 => walk_at "hg"); (case h2 => walk_at "cls"); (case h3 => walk_at "noa"); (case h4 => walk_at "lkp")) | walk_at "kf" | with_reducible apply e_not
  | with_reducible apply s_ret | ((with_reducible refine' k_ty ?h1 ?_); (case h1 => walk_at "sg")) | with_reducible apply s_drop | with_reducible apply s_retN | with_reducible apply s_cont | with_reducible apply s_break
  | with_reducible apply o_chC | ((with_reducible refine' o_chV ?hv ?_); (case hv => exact rfl)) | with_reducible apply e_un | with_reducible apply o_U | ((with_reducible refine' o_eq ?hs ?_); (case hs => exact rfl)) | ((with_reducible refine' o_ne ?hs ?_); (case hs => exact rfl))
  | ((with_reducible refine' o_ixL ?h1 ?h2 ?_); (case h1 => walk_at "sg"); (case h2 => first | exact rfl | exact atI_zero _ _)) | ((with_reducible refine' o_ixT ?h1 ?h2 ?_); (case h1 => walk_at "sg"); (case h2 => first | exact rfl | exact atI_zero _ _)) | with_reducible apply s_fld | with_reducible apply Sl.e_makeS
  | ((with_reducible refine' Sl.k_setS $h ?h1 ?h2 ?h3 ?h4 ?h5 ?_); (case h1 => walk_at "sel"); (case h2 => walk_at "cls"); (case h3 => walk_at "noa"); (case h4 => walk_at "ptf"); (case h5 => walk_at "lnF"); (clear $h; intro _ $h)) | with_reducible apply Sl.e_tupS | with_reducible apply e_bm
  | with_reducible apply e_bm0 | with_reducible apply e_if | with_reducible apply e_chain | with_reducible apply s_raise | with_reducible apply g_sub | ((with_reducible refine' c_ln ?h1 ?_); (case h1 => walk_at "sg")) | ((with_reducible refine' c_lnT ?h1 ?_); (case h1 => walk_at "sg"))
  | ((with_reducible refine' Sl.k_newL $h ?h1 ?_); (case h1 => walk_at "le5"); (clear $h; intro _ _ $h)) | ((with_reducible refine' Sl.k_newT $h ?h1 ?_); (case h1 => walk_at "le5"); (clear $h; intro _ _ $h)) | ((with_reducible refine' Sl.k_make $h ?_); (clear $h; intro _ _ _ $h))
  | ((with_reducible refine' Sl.c_appS $h ?h1 ?h2 ?_); (case h1 => walk_at "sel"); (case h2 => walk_at "le5"); (clear $h; intro _ $h)) | ((with_reducible refine' Sl.c_pop0S $h ?h1 ?h2 ?_); (case h1 => walk_at "sel"); (case h2 => walk_at "le5"); (clear $h; intro _ $h))
  | ((with_reducible refine' Sl.c_lsS $h ?h1 ?_); (case h1 => walk_at "sg"); (clear $h; intro _ _ $h)) | ((with_reducible refine' Sl.o_slLS $h ?h1 ?_); (case h1 => walk_at "sg"); (clear $h; intro _ _ $h)) | ((with_reducible refine' Sl.c_clrS $h ?h1 ?_); (case h1 => walk_at "sel"); (clear $h; intro _ $h))
  | ((with_reducible refine' Sl.o_catS $h ?h1 ?h2 ?h3 ?_); (case h1 => walk_at "hg"); (case h2 => walk_at "hg"); (case h3 => walk_at "le5"); (clear $h; intro _ _ $h)) | ((with_reducible refine' Sl.c_extS $h ?h1 ?h2 ?h3 ?_); (case h1 => walk_at "sel"); (case h2 => walk_at "hg"); (case h3 => walk_at "le5"); (clear $h; intro _ $h))
  | ((with_reducible refine' Sl.k_raise $h ?h1 ?_); (case h1 => exact okV_int ⟨by omega, by omega⟩); (clear $h; intro _ _ $h))
  | with_reducible apply c_isBool | with_reducible apply c_isInt | with_reducible apply c_isBoolN | with_reducible apply c_isTupI | with_reducible apply c_isNonB
  | with_reducible apply c_isNonT | ((with_reducible refine' c_isList ?h1 ?_); (case h1 => walk_at "hg")) | ((with_reducible refine' c_isTup ?h1 ?_); (case h1 => walk_at "hg")) | ((with_reducible refine' c_isTupB ?h1 ?_); (case h1 => walk_at "hg")) | with_reducible apply o_isB | with_reducible apply o_notB
  | with_reducible apply e_and | with_reducible apply e_or | with_reducible apply k_bl | with_reducible apply e_xf | with_reducible apply s_augS | ((with_reducible refine' s_augV ?hv ?_); (case hv => exact rfl)) | with_reducible apply Sl.s_aug
  | with_reducible apply ip_I | with_reducible apply e_lcE | with_reducible apply e_lcL | with_reducible apply f_lst | with_reducible apply e_lcF | with_reducible apply f_rng1 | ((with_reducible refine' k_xf ?h1 ?h2 ?_); (case h1 => walk_at "hg"); (case h2 => exact look_hit _ _ _)) | ((with_reducible refine' k_dget ?h1 ?h2 ?_); (case h1 => walk_at "hg"); (case h2 => with_reducible assumption)) | with_reducible apply e_dget
  | with_reducible apply s_dput | with_reducible apply Sl.e_makeKS | with_reducible apply g_cons | with_reducible apply g_nil | ((with_reducible refine' g_tup ?h1 ?h2 ?_); (case h1 => walk_at "sg"); (case h2 => exact rfl)) | with_reducible apply c_ab | with_reducible apply c_in
  | with_reducible apply c_mx | with_reducible apply c_mn | with_reducible apply a1 | with_reducible apply a2 | with_reducible apply a3 | with_reducible apply a4
  | with_reducible apply a5 | with_reducible apply a6 | with_reducible apply a0 | with_reducible apply t_tru | with_reducible apply t_yes | ((with_reducible refine' k_truL ?h1 ?_); (case h1 => walk_at "sg")) | with_reducible refine d_nx ?_ | with_reducible refine d_rt ?_ | with_reducible refine d_bk ?_
  | with_reducible refine d_ct ?_))
local macro_rules | `(tactic| walk_at "x") => `(tactic| (repeat walk_at "x1"))
section
variable {P : Program} {w : World} {K : PySem.W.Frag} {mg : Str → Option Value} {base : Heap} {a : Ads}
/-! ### the script's numbers, drawn -/
def StAt (H : Hp) (st sl : Addr) : Prop := ∃ (ns : List Int) (m : Int), H st = some (.lst [.ref sl, .int m]) ∧ H sl = some (.lst (ns.map V.int)) ∧ ns.length ≤ 63 ∧ (∀ z ∈ ns, 0 ≤ z) ∧ 0 ≤ m ∧ m ≤ 2147483647
theorem StAt.ne {H : Hp} {st sl : Addr} (s : StAt H st sl) : st ≠ sl := by
  obtain ⟨ns, m, h1, h2, _⟩ := s
  refine ne_of h1 h2 fun z => ?_
  have z2 := HO.lst.inj z
  cases ns with
  | nil => cases z2
  | cons y ys => cases (List.cons.inj z2).1
theorem StAt.fp {H H1 : Hp} {st sl : Addr} {fp : List Addr} (s : StAt H st sl) (f : Fp fp H H1) (n1 : st ∉ fp) (n2 : sl ∉ fp) : StAt H1 st sl := by
  obtain ⟨ns, m, h1, h2, r⟩ := s
  exact ⟨ns, m, f _ _ h1 n1, f _ _ h2 n2, r⟩
theorem StAt.inn {H : Hp} {st sl : Addr} (s : StAt H st sl) : Inn H [st, sl] := by
  obtain ⟨ns, m, h1, h2, r⟩ := s
  exact .cons h1 (.cons h2 .nil)
theorem StAt.nd {H : Hp} {st sl : Addr} (s : StAt H st sl) : [st, sl].Nodup := by simp [s.ne]
/-- [draw for k in range(n)] -/
theorem k_lcD {σ : L2.St} {H : Hp} {Q : VK} {g : TG} {te : TE} {vs : List Nat} {n : Int} {st sl : Addr} (P : V → Prop) (h1 : 0 ≤ n) (h2 : n < 100000) (S : StAt H st sl)
    (hs : ∀ (i : Nat) (H' : Hp) (R : VK), (i : Int) < n → StAt H' st sl → Fp [st, sl] H H' → (∀ y H4, P y → StAt H4 st sl → Fp [st, sl] H' H4 → R y H4) →
      g (.int (i : Nat)) (wipe σ vs) H' fun σ2 H2 => wipe σ2 vs = wipe σ vs ∧ te σ2 H2 R)
    (q : ∀ E acc H', H E = none → acc.length = n.toNat → H' E = some (.lst acc) → (∀ y ∈ acc, P y) → StAt H' st sl → Fp [st, sl] H H' → st ≠ E → sl ≠ E → Q (.ref E) H') : kLcR g te vs σ Q (.int n) H := by
  obtain ⟨_, _, z1, z2, _⟩ := id S
  refine k_lcS (fun E i acc H' => (∀ y ∈ acc, P y) ∧ StAt H' st sl ∧ Fp [st, sl] H H') h1 h2 (fun E hE => ⟨by simp, S.fp (Fp.new (fp := []) hE) (by simp) (by simp), Fp.new hE⟩) (fun E i acc H' R hE hi hl e ⟨j1, j2, j3⟩ k => hs i H' R hi j2 j3 fun y H4 py S4 f4 => ?_) fun E acc H' hE hl e ⟨j1, j2, j3⟩ => q E acc H' hE hl e j1 j2 j3 (ne_of_none z1 hE) (ne_of_none z2 hE)
  have n1 := ne_of_none z1 hE
  have n2 := ne_of_none z2 hE
  refine k y H4 (f4 _ _ e (by simp [n1.symm, n2.symm])) ⟨fun x hx => ?_, S4.fp (Fp.at_ (fp := [E]) (by simp)) (by simp [n1]) (by simp [n2]), Fp.drop (fp := [E, st, sl]) (((j3.trans f4).mono (fun z hz => List.mem_cons_of_mem _ hz)).trans (Fp.at_ (by simp))) fun z hz => ?_⟩
  · rcases List.mem_append.mp hx with hx | hx
    · exact j1 x hx
    · rw [List.mem_singleton.mp hx]; exact py
  · rcases List.mem_cons.mp hz with rfl | hz
    · exact .inr hE
    · exact .inl hz
/-- [e for k in range(n) if draw] -/
theorem k_lcDF {σ : L2.St} {H : Hp} {Q : VK} {g : TG} {tt : TT} {te : TE} {vs : List Nat} {n : Int} {st sl : Addr} (P : V → Prop) (h1 : 0 ≤ n) (h2 : n < 100000) (S : StAt H st sl)
    (hs : ∀ (i : Nat) (H' : Hp) (R : VK) (N : Hp → Prop), (i : Int) < n → StAt H' st sl → Fp [st, sl] H H' → (∀ y H4, P y → StAt H4 st sl → Fp [st, sl] H' H4 → R y H4) → (∀ H4, StAt H4 st sl → Fp [st, sl] H' H4 → N H4) →
      g (.int (i : Nat)) (wipe σ vs) H' fun σ2 H2 => wipe σ2 vs = wipe σ vs ∧ tt σ2 H2 fun k H3 => if k = true then te σ2 H3 R else N H3)
    (q : ∀ E acc H', H E = none → acc.length ≤ n.toNat → H' E = some (.lst acc) → (∀ y ∈ acc, P y) → StAt H' st sl → Fp [st, sl] H H' → st ≠ E → sl ≠ E → Q (.ref E) H') : kLcF g tt te vs σ Q (.int n) H := by
  obtain ⟨_, _, z1, z2, _⟩ := id S
  refine k_lcSF (fun E i acc H' => (∀ y ∈ acc, P y) ∧ StAt H' st sl ∧ Fp [st, sl] H H') h1 h2 (fun E hE => ⟨by simp, S.fp (Fp.new (fp := []) hE) (by simp) (by simp), Fp.new hE⟩) (fun E i acc H' R N hE hi hl e ⟨j1, j2, j3⟩ k kn => ?_) fun E acc H' hE hl e ⟨j1, j2, j3⟩ => q E acc H' hE hl e j1 j2 j3 (ne_of_none z1 hE) (ne_of_none z2 hE)
  have n1 := ne_of_none z1 hE
  have n2 := ne_of_none z2 hE
  refine hs i H' R N hi j2 j3 (fun y H4 py S4 f4 => ?_) fun H4 S4 f4 => kn H4 (f4 _ _ e (by simp [n1.symm, n2.symm])) ⟨j1, S4, j3.trans f4⟩
  refine k y H4 (f4 _ _ e (by simp [n1.symm, n2.symm])) ⟨fun x hx => ?_, S4.fp (Fp.at_ (fp := [E]) (by simp)) (by simp [n1]) (by simp [n2]), Fp.drop (fp := [E, st, sl]) (((j3.trans f4).mono (fun z hz => List.mem_cons_of_mem _ hz)).trans (Fp.at_ (by simp))) fun z hz => ?_⟩
  · rcases List.mem_append.mp hx with hx | hx
    · exact j1 x hx
    · rw [List.mem_singleton.mp hx]; exact py
  · rcases List.mem_cons.mp hz with rfl | hz
    · exact .inr hE
    · exact .inl hz
def sp_law_state (K : PySem.W.Frag) (a : Ads) : Sp := A1 fun v H Q _ => ∃ (b : Addr) (ns : List Int), v = .ref b ∧ SqL K H b (ns.map V.int) ∧ ns.length ≤ 63 ∧
  ∀ st sl H1, H st = none → H sl = none → StAt H1 st sl → Fp [] H H1 → Q (.ref st) H1
def sp_law_draw (K : PySem.W.Frag) (a : Ads) : Sp := A2 fun s m H Q _ => ∃ (st sl : Addr) (k : Int), s = .ref st ∧ m = .int k ∧ StAt H st sl ∧ 1 ≤ k ∧ k < 1073741824 ∧
  ∀ r H1, 0 ≤ r → r < k → StAt H1 st sl → Fp [st, sl] H H1 → Q (.int r) H1
theorem ok_law_state (T : Txt P w K mg base a) : FnOk P w K mg base (L2.CX P w) 1 a.f_law_state a.fd_law_state ["script"] (sp_law_state K a) := by
  refine T.F_law_state.okX sc_law_state (fun vs H Q E h => A1.len h) (fun cdv A outer s H vs Q E hr h => ?_)
  have hu := hu_of hr
  obtain ⟨v_script, rfl, h⟩ := h
  refine ⟨_, (pss_cons (ps_set (i := 1) sc_law_state.nd rfl (by first | exact Or.inl rfl | exact Or.inr rfl) pe_int)
    (pss_cons (ps_for (passes_of rfl) rfl (pi_list (pv 0)) (pg_name (i := 2) sc_law_state.nd rfl (by first | exact Or.inl rfl | exact Or.inr rfl)) (pss_one (ps_set (i := 1) sc_law_state.nd rfl (by first | exact Or.inl rfl | exact Or.inr rfl) (pe_op op_mod (pe_callTy call_in (by rfl) T.g_int (by decide +kernel) (pa_cons (pe_op op_add (pe_op op_mul (pv 1) pe_int) (pv 2)) pa_nil)) pe_int))))
    (pss_one (ps_ret (pe_lst (pa_cons (pe_lc (own := [("cell", 2)]) (g := (gName 2)) (tt := tYes) (te := (tCB rAb (tCons (tVar 2) tNil))) rfl sc_law_state.nd (pi_list (pv 0)) (blkOk_by (N := ["script", "seed", "cell"]) (sc := defScope s_law_state) (own := [("cell", 2)]) (by decide +kernel)) (fun _ _ _ _ _ => by exact (pg_name (i := 2) sc_law_state.nd rfl (by first | exact Or.inl rfl | exact Or.inr rfl))) (fun _ _ _ _ _ => by exact pts_nil) (fun _ _ _ _ _ => by exact (pe_callB call_ab (by rfl) T.g_abs (by decide +kernel) (pa_cons (pv 2) pa_nil)))) (pa_cons (pe_op op_add (pv 1) pe_int) pa_nil))))))), ?_⟩
  obtain ⟨b, ns, rfl, hS, hn, k⟩ := h
  walk_at "r"
  refine f_list (xs := ns.map V.int) (fun i σ H1 => ∃ (sd : Int) (u : Option V), σ = [some (.ref b), some (.int sd), u] ∧ H1 = H ∧ 0 ≤ sd ∧ sd < 1000003) rfl hS ⟨7, none, rfl, rfl, by omega, by omega⟩ (fun i σ H1 _ ⟨_, _, _, e, _⟩ => e ▸ hS) ?_ ?_
  · rintro i x σ H1 hx ⟨sd, u, rfl, rfl, h0, h1⟩
    obtain ⟨z, rfl⟩ : ∃ z, x = V.int z := by
      obtain ⟨z, _, e⟩ := List.mem_map.mp (List.mem_of_getElem? hx)
      exact ⟨z, e.symm⟩
    walk_at "r"
    exact ⟨_, _, rfl, rfl, Int.emod_nonneg _ (by omega), Int.emod_lt_of_pos _ (by omega)⟩
  · rintro σ H1 ⟨sd, u, rfl, rfl, h0, h1⟩
    walk_at "r"
    refine lc_pure (xs := ns.map V.int) (ys := (ns.map fun z => if z < 0 then -z else z).map V.int) rfl hS (by simp) (by simp <;> omega) (fun E i x y H2 R hE hx hy e hR => ?_) fun E hE => ?_
    · obtain ⟨z, hz, rfl⟩ : ∃ z, ns[i]? = some z ∧ V.int z = x := by rw [List.getElem?_map] at hx; simpa using hx
      have hy' : V.int (if z < 0 then -z else z) = y := by simpa [List.getElem?_map, hz] using hy
      refine ⟨rfl, ?_⟩
      walk_at "r"
      rw [hy']
      exact hR
    · walk_at "r"
      refine ⟨sz (by simp), fun st hst => ?_⟩
      have nE : st ≠ E := ne_of_none upd_same hst |>.symm
      have nst : H1 st = none := by rw [upd_ne nE] at hst; exact hst
      refine k st E _ nst hE ⟨_, _, upd_same, by rw [upd_ne nE.symm, upd_same], by simpa using hn, fun z hz => ?_, by omega, by omega⟩ ((Fp.new hE).trans (Fp.new hst))
      obtain ⟨y, _, rfl⟩ := List.mem_map.mp hz
      split <;> omega
theorem ok_law_draw (T : Txt P w K mg base a) : FnOk P w K mg base (L2.CX P w) 1 a.f_law_draw a.fd_law_draw ["state", "many"] (sp_law_draw K a) := by
  refine T.F_law_draw.okX sc_law_draw (fun vs H Q E h => A2.len h) (fun cdv A outer s H vs Q E hr h => ?_)
  have hu := hu_of hr
  obtain ⟨v_state, v_many, rfl, h⟩ := h
  refine ⟨_, (pss_cons (ps_set (i := 2) sc_law_draw.nd rfl (by first | exact Or.inl rfl | exact Or.inr rfl) (pe_ix ix_list (pv 0) pe_int (fun _ _ => rfl)))
    (pss_cons (ps_while (passes_of rfl) (PW.pt (pw_and (pt_cmpR op_gt (pe_callB call_ln (by rfl) T.g_len (by decide +kernel) (pa_cons (pv 2) pa_nil)) pe_int (nomark _)) (pw_and1 (pt_cmpR op_eq (pe_ix ix_list (pv 2) pe_int (fun _ _ => rfl)) pe_int (nomark _))))) (pss_one (ps_expr (pe_bm PySem.F.plainAttrs_list PySem.F.slot_list_pop PySem.F.type_list_pop mt_popAt (pv 2) (pa_cons pe_int pa_nil)))))
    (pss_cons (ps_if (pt_cmpR op_gt (pe_callB call_ln (by rfl) T.g_len (by decide +kernel) (pa_cons (pv 2) pa_nil)) pe_int (nomark _)) (pss_cons (ps_set (i := 3) sc_law_draw.nd rfl (by first | exact Or.inl rfl | exact Or.inr rfl) (pe_ix ix_list (pv 2) pe_int (fun _ _ => rfl)))
    (pss_cons (ps_asg (pe_op op_fdiv (pv 3) (pv 1)) (pg_sub (pv 2) pe_int set_list))
    (pss_one (ps_ret (pe_op op_mod (pe_callTy call_in (by rfl) T.g_int (by decide +kernel) (pa_cons (pv 3) pa_nil)) (pv 1)))))) pss_nil)
    (pss_cons (ps_set (i := 4) sc_law_draw.nd rfl (by first | exact Or.inl rfl | exact Or.inr rfl) (pe_op op_mod (pe_callTy call_in (by rfl) T.g_int (by decide +kernel) (pa_cons (pe_op op_add (pe_op op_mul (pe_ix ix_list (pv 0) pe_int (fun _ _ => rfl)) pe_int) pe_int) pa_nil)) pe_int))
    (pss_cons (ps_asg (pv 4) (pg_sub (pv 0) pe_int set_list))
    (pss_one (ps_ret (pe_op op_mod (pe_callTy call_in (by rfl) T.g_int (by decide +kernel) (pa_cons (pe_op op_fdiv (pv 4) pe_int) pa_nil)) (pv 1))))))))), ?_⟩
  obtain ⟨st, sl, kk, rfl, rfl, S, k1, k2, k⟩ := h
  obtain ⟨ns, m, hst, hsl, hn, hpos, m0, m1⟩ := id S
  have nss := S.ne
  walk_at "r"
  refine w_by (fun q σ H1 => ∃ (ns1 : List Int), σ = [some (.ref st), some (.int kk), some (.ref sl), none, none] ∧ q = ns1.length ∧ H1 st = some (.lst [.ref sl, .int m]) ∧ H1 sl = some (.lst (ns1.map V.int)) ∧ ns1.length ≤ 63 ∧ (∀ z ∈ ns1, 0 ≤ z) ∧ Fp [st, sl] H H1) ns.length ⟨ns, rfl, rfl, hst, hsl, hn, hpos, Fp.refl _ _⟩ ?_
  rintro q σ H1 ⟨ns1, rfl, rfl, g1, g2, gn, gp, gf⟩
  walk_at "r"
  rw [List.length_map]
  cases ns1 with
  | nil =>
    refine if_dF (by simp) ?_
    refine iteF ?_
    walk_at "r"
    refine if_dF (by simp) ?_
    walk_at "r"
    refine c_setL (j := 1) g1 rfl (by simp) ?_
    walk_at "r"
    exact k _ _ (Int.emod_nonneg _ (by omega)) (Int.emod_lt_of_pos _ (by omega)) ⟨[], _, upd_same, by rw [upd_ne nss.symm]; exact g2, gn, gp, Int.emod_nonneg _ (by omega), by have := Int.emod_lt_of_pos (m * 48271 + 12345) (show (0 : Int) < 2147483647 by omega); omega⟩ (gf.trans (Fp.at_ (by simp)))
  | cons z zs =>
    rw [List.map_cons] at g2
    have gz : zs.length ≤ 62 := by simpa using gn
    have gl : ((zs.map V.int).length) < 100000 := by rw [List.length_map]; omega
    refine if_dT (by simp <;> omega) ?_
    walk_at "r"
    refine if_d (fun e => ?_) (fun e => ?_)
    · refine ⟨_, fun _ _ h => h, ?_⟩
      walk_at "r"
      exact ⟨zs.length, by simp, zs, rfl, rfl, by rw [upd_ne nss]; exact g1, upd_same, by omega, fun y hy => gp y (List.mem_cons_of_mem _ hy), gf.trans (Fp.at_ (by simp))⟩
    · walk_at "r"
      refine if_dT (by simp <;> omega) ?_
      walk_at "r"
      refine c_setL (j := 0) g2 rfl (by simp) ?_
      walk_at "r"
      have hz := gp z List.mem_cons_self
      exact k _ _ (Int.emod_nonneg _ (by omega)) (Int.emod_lt_of_pos _ (by omega)) ⟨z / kk :: zs, m, by rw [upd_ne nss]; exact g1, upd_same, gn, fun y hy => by
        rcases List.mem_cons.mp hy with rfl | hy
        · exact Int.ediv_nonneg hz (by omega)
        · exact gp y (List.mem_cons_of_mem _ hy), m0, m1⟩ (gf.trans (Fp.at_ (by simp)))
/-! ### the drawn numbers, as an assertion -/
def stP (st : Addr) (H : Hp) (A : List Addr) : Prop := ∃ sl, A = [st, sl] ∧ StAt H st sl
def StA (st : Addr) : As := fpa (stP st) (fun H H' A ⟨sl, e, ns, m, h1, h2, r⟩ g => ⟨sl, e, ns, m, by rw [g.1 st (by simp [e])]; exact h1, by rw [g.1 sl (by simp [e])]; exact h2, r⟩)
  (fun H A ⟨sl, e, ns, m, h1, h2, r⟩ a s => by rw [e] at s; simp only [List.mem_cons, List.not_mem_nil, or_false] at s; rcases s with rfl | rfl <;> simp [h1, h2])
theorem c_draw {L R : List As} {H : Hp} {Q : VK} {E : XK} {st : Addr} {k : Int} (hs : Sl.St L H) (s : Sel (StA st) L R) (k1 : 1 ≤ k) (k2 : k < 1073741824) (q : ∀ r H', 0 ≤ r → r < k → Sl.St (StA st :: R) H' → Q (.int r) H') : sp_law_draw K a [.ref st, .int k] H Q E := by
  obtain ⟨A, ⟨sl, rfl, S⟩, up⟩ := fpa_U (hs.sel s)
  refine a2 ⟨st, sl, k, rfl, rfl, S, k1, k2, fun r H1 r1 r2 S1 f => q r H1 r1 r2 (up _ _ _ [st, sl] [st, sl] H1 f (fun x m => ⟨.inl m, fun o e => ?_⟩) ⟨sl, rfl, S1⟩ fun x m => .inl m)⟩
  obtain ⟨ns, m', h1, h2, _⟩ := S
  simp only [List.mem_cons, List.not_mem_nil, or_false] at m
  rcases m with rfl | rfl
  · rw [h1] at e; cases e; exact id
  · rw [h2] at e; cases e; exact id
theorem c_state {L : List As} {H : Hp} {Q : VK} {E : XK} {b : Addr} {ns : List Int} (hs : Sl.St L H) (h : SqL K H b (ns.map V.int)) (hn : ns.length ≤ 63) (q : ∀ st H', Sl.St (StA st :: L) H' → Fp [] H H' → Q (.ref st) H') : sp_law_state K a [.ref b] H Q E :=
  a1 ⟨b, ns, rfl, h, hn, fun st sl H1 n1 n2 S f => q st H1 (fpa_new hs f ⟨sl, rfl, S⟩ fun x m => by
    simp only [List.mem_cons, List.not_mem_nil, or_false] at m
    rcases m with rfl | rfl <;> assumption) f⟩
/-! ### rings of cells -/
theorem mod2 {x M : Nat} (h : x < 2 * M) : x % M = if x < M then x else x - M := by
  by_cases c : x < M
  · rw [if_pos c, Nat.mod_eq_of_lt c]
  · rw [if_neg c, Nat.mod_eq_sub_mod (by omega), Nat.mod_eq_of_lt (by omega)]
structure RingAt (C : Addr) (H : Hp) (p l : Addr) (n wr tk : Nat) (xs : List V) : Prop where
  ob : ∃ dx, H p = some (.ins C dx (F_Ring (.ref l) (.int wr) (.int tk)))
  ls : ∃ cs : List V, H l = some (.lst cs) ∧ cs.length = n ∧ ∀ i x, xs[i]? = some x → cs[(tk + i) % n]? = some x
  n1 : 1 ≤ n
  nz : n ≤ 256
  wl : wr < 2 * n
  tl : tk < 2 * n
  ln : xs.length ≤ n
  wt : wr = (tk + xs.length) % (2 * n)
theorem RingAt.ne {C p l : Addr} {H : Hp} {n wr tk : Nat} {xs : List V} (R : RingAt C H p l n wr tk xs) : p ≠ l := by
  obtain ⟨⟨dx, ho⟩, ⟨cs, hl, _⟩, _⟩ := R
  exact ne_of ho hl (by intro z; cases z)
theorem RingAt.fp {C p l : Addr} {H H1 : Hp} {n wr tk : Nat} {xs : List V} {fp : List Addr} (R : RingAt C H p l n wr tk xs) (f : Fp fp H H1) (n1 : p ∉ fp) (n2 : l ∉ fp) : RingAt C H1 p l n wr tk xs := by
  obtain ⟨⟨dx, ho⟩, ⟨cs, hl, h⟩, a1, a2, a3, a4, a5, a6⟩ := R
  exact ⟨⟨dx, f _ _ ho n1⟩, ⟨cs, f _ _ hl n2, h⟩, a1, a2, a3, a4, a5, a6⟩
theorem RingAt.inn {C p l : Addr} {H : Hp} {n wr tk : Nat} {xs : List V} (R : RingAt C H p l n wr tk xs) : Inn H [p, l] := by
  obtain ⟨⟨dx, ho⟩, ⟨cs, hl, _⟩, _⟩ := R
  exact .cons ho (.cons hl .nil)
def sp_Ring_init (K : PySem.W.Frag) (a : Ads) : Sp := A2 fun s c H Q _ => ∃ (p dx : Addr) (n : Nat), s = .ref p ∧ c = .int n ∧ 1 ≤ n ∧ n ≤ 256 ∧ H p = some (.ins a.C_Ring dx []) ∧
  ∀ l H1, H l = none → RingAt a.C_Ring H1 p l n 0 0 [] → Fp [p] H H1 → Q .non H1
def sp_Ring_held (K : PySem.W.Frag) (a : Ads) : Sp := A1 fun s H Q _ => ∃ (p l : Addr) (n wr tk : Nat) (xs : List V), s = .ref p ∧ RingAt a.C_Ring H p l n wr tk xs ∧ Q (.int xs.length) H
def sp_Ring_is_full (K : PySem.W.Frag) (a : Ads) : Sp := A1 fun s H Q _ => ∃ (p l : Addr) (n wr tk : Nat) (xs : List V), s = .ref p ∧ RingAt a.C_Ring H p l n wr tk xs ∧ Q (.bl (decide (xs.length = n))) H
def sp_Ring_next (K : PySem.W.Frag) (a : Ads) : Sp := A2 fun s c H Q _ => ∃ (p l : Addr) (n wr tk j : Nat) (xs : List V), s = .ref p ∧ c = .int j ∧ RingAt a.C_Ring H p l n wr tk xs ∧ Q (.int ((j + 1) % (2 * n) : Nat)) H
def sp_Ring_put (K : PySem.W.Frag) (a : Ads) : Sp := A2 fun s v H Q E => ∃ (p l : Addr) (n wr tk : Nat) (xs : List V), s = .ref p ∧ RingAt a.C_Ring H p l n wr tk xs ∧
  (xs.length = n → ∀ d, H d = none → E (.ref a.C_RingError) (some d) (upd H d (.xd [("held", .int n)]))) ∧
  (xs.length < n → ∀ H1, RingAt a.C_Ring H1 p l n ((wr + 1) % (2 * n)) tk (xs ++ [v]) → Fp [p, l] H H1 → Q .non H1)
def sp_Ring_first (K : PySem.W.Frag) (a : Ads) : Sp := A1 fun s H Q E => ∃ (p l : Addr) (n wr tk : Nat) (xs : List V), s = .ref p ∧ RingAt a.C_Ring H p l n wr tk xs ∧
  (xs = [] → ∀ d, H d = none → E (.ref a.C_RingError) (some d) (upd H d (.xd [("held", .int 0)]))) ∧
  (∀ x ys, xs = x :: ys → Q x H)
def sp_Ring_take (K : PySem.W.Frag) (a : Ads) : Sp := A1 fun s H Q E => ∃ (p l : Addr) (n wr tk : Nat) (xs : List V), s = .ref p ∧ RingAt a.C_Ring H p l n wr tk xs ∧
  (xs = [] → ∀ d, H d = none → E (.ref a.C_RingError) (some d) (upd H d (.xd [("held", .int 0)]))) ∧
  (∀ x ys, xs = x :: ys → ∀ H1, RingAt a.C_Ring H1 p l n wr ((tk + 1) % (2 * n)) ys → Fp [p, l] H H1 → Q x H1)
def sp_Ring_listed (K : PySem.W.Frag) (a : Ads) : Sp := A1 fun s H Q _ => ∃ (p l : Addr) (n wr tk : Nat) (xs : List V), s = .ref p ∧ RingAt a.C_Ring H p l n wr tk xs ∧
  ∀ q, H q = none → Q (.ref q) (upd H q (.lst xs))
theorem ok_Ring_init (T : Txt P w K mg base a) : FnOk P w K mg base (L2.CX P w) 1 a.f_Ring_init a.fd_Ring_init ["self", "cells"] (sp_Ring_init K a) := by
  refine T.F_Ring_init.okX sc_Ring_init (fun vs H Q E h => A2.len h) (fun cdv A outer s H vs Q E hr h => ?_)
  have hu := hu_of hr
  obtain ⟨v_self, v_cells, rfl, h⟩ := h
  refine ⟨_, (pss_cons (ps_fld (pv 0) (pe_op op_rep (pe_lst (pa_cons pe_non pa_nil)) (pv 1)) rfl)
    (pss_cons (ps_fld (pv 0) pe_int rfl)
    (pss_one (ps_fld (pv 0) pe_int rfl)))), ?_⟩
  obtain ⟨p, dx, n, rfl, rfl, n1, nz, hp, k⟩ := h
  walk_at "r"
  refine ⟨sz (by decide), fun q hq => ?_⟩
  walk_at "r"
  refine o_rep (K := K) upd_same (by omega) (by simp; omega) (by omega) fun l hl => ?_
  have ql : q ≠ l := ne_of_none upd_same hl
  have pq : p ≠ q := ne_of_none hp hq
  have hl0 : H l = none := by rw [upd_ne ql.symm] at hl; exact hl
  have pl : p ≠ l := ne_of_none hp hl0
  walk_at "r"
  have ef : (List.replicate (n : Int).toNat [V.non]).flatten = List.replicate n V.non := by
    have e : (n : Int).toNat = n := Int.toNat_natCast n
    rw [e, List.flatten_replicate_singleton]
  refine k l _ hl0 ⟨⟨dx, by rw [upd_same, F_Ring_init]; rfl⟩, ⟨List.replicate n .non, by rw [upd_ne pl.symm, upd_ne pl.symm, upd_ne pl.symm, upd_same, ef], List.length_replicate, fun i x hx => by simp at hx⟩, n1, nz, by omega, by omega, by simp, by simp⟩ ?_
  exact ((((Fp.new hq).trans (Fp.new hl)).trans (Fp.at_ (by simp))).trans (Fp.at_ (by simp))).trans (Fp.at_ (by simp))
theorem ok_Ring_held (T : Txt P w K mg base a) : FnOk P w K mg base (L2.CX P w) 1 a.f_Ring_held a.fd_Ring_held ["self"] (sp_Ring_held K a) := by
  refine T.F_Ring_held.okX sc_Ring_held (fun vs H Q E h => A1.len h) (fun cdv A outer s H vs Q E hr h => ?_)
  have hu := hu_of hr
  obtain ⟨v_self, rfl, h⟩ := h
  refine ⟨_, (pss_cons (ps_set (i := 1) sc_Ring_held.nd rfl (by first | exact Or.inl rfl | exact Or.inr rfl) (pe_op op_sub (pe_fld (pv 0) rfl) (pe_fld (pv 0) rfl)))
    (pss_cons (ps_if (pt_cmpR op_lt (pv 1) pe_int (nomark _)) (pss_one (ps_ret (pe_op op_add (pv 1) (pe_op op_mul pe_int (pe_callB call_ln (by rfl) T.g_len (by decide +kernel) (pa_cons (pe_fld (pv 0) rfl) pa_nil)))))) pss_nil)
    (pss_one (ps_ret (pv 1))))), ?_⟩
  obtain ⟨p, l, n, wr, tk, xs, rfl, R, k⟩ := h
  obtain ⟨⟨dx, ho⟩, ⟨cs, hl, hcs, _⟩, n1, nz, wl, tl, ln, wt⟩ := id R
  have e2 := mod2 (x := tk + xs.length) (M := 2 * n) (by omega)
  walk_at "r"
  refine if_d (fun c => ?_) (fun c => ?_)
  · walk_at "r"
    have e : (wr : Int) - tk + 2 * (cs.length : Int) = xs.length := by rw [hcs]; split at e2 <;> omega
    rw [e]
    exact k
  · walk_at "r"
    have e : (wr : Int) - tk = xs.length := by split at e2 <;> omega
    rw [e]
    exact k
theorem ok_Ring_is_full (T : Txt P w K mg base a) : FnOk P w K mg base (L2.CX P w) 2 a.f_Ring_is_full a.fd_Ring_is_full ["self"] (sp_Ring_is_full K a) := by
  have G_Ring_held := ok_Ring_held T
  refine T.F_Ring_is_full.okX sc_Ring_is_full (fun vs H Q E h => A1.len h) (fun cdv A outer s H vs Q E hr h => ?_)
  have hu := hu_of hr
  obtain ⟨v_self, rfl, h⟩ := h
  refine ⟨_, (pss_one (ps_ret (pe_cmpR op_eq (pe_meth0S (pv 0) T.cl_Ring T.m_Ring_held G_Ring_held (hr.mono (by decide)) T.b_Ring_held (fun σ => passAt (takes_of rfl rfl rfl rfl) σ)) (pe_callB call_ln (by rfl) T.g_len (by decide +kernel) (pa_cons (pe_fld (pv 0) rfl) pa_nil)) (nomark _)))), ?_⟩
  obtain ⟨p, l, n, wr, tk, xs, rfl, R, k⟩ := h
  obtain ⟨⟨dx, ho⟩, ⟨cs, hl, hcs, _⟩, n1, nz, wl, tl, ln, wt⟩ := id R
  walk_at "r"
  refine a1 ⟨p, l, n, wr, tk, xs, rfl, R, ?_⟩
  walk_at "r"
  have e : decide (V.int (xs.length : Int) = V.int (cs.length : Int)) = decide (xs.length = n) := by
    rw [hcs]
    exact decide_eq_decide.mpr ⟨fun z => Int.ofNat.inj (V.int.inj z), fun z => by rw [z]⟩
  rw [e]
  exact k
theorem ok_Ring_next (T : Txt P w K mg base a) : FnOk P w K mg base (L2.CX P w) 1 a.f_Ring_next a.fd_Ring_next ["self", "counter"] (sp_Ring_next K a) := by
  refine T.F_Ring_next.okX sc_Ring_next (fun vs H Q E h => A2.len h) (fun cdv A outer s H vs Q E hr h => ?_)
  have hu := hu_of hr
  obtain ⟨v_self, v_counter, rfl, h⟩ := h
  refine ⟨_, (pss_one (ps_ret (pe_op op_mod (pe_op op_add (pv 1) pe_int) (pe_op op_mul pe_int (pe_callB call_ln (by rfl) T.g_len (by decide +kernel) (pa_cons (pe_fld (pv 0) rfl) pa_nil)))))), ?_⟩
  obtain ⟨p, l, n, wr, tk, j, xs, rfl, rfl, R, k⟩ := h
  obtain ⟨⟨dx, ho⟩, ⟨cs, hl, hcs, _⟩, n1, nz, wl, tl, ln, wt⟩ := id R
  walk_at "r"
  have e : ((j : Int) + 1) % (2 * (cs.length : Int)) = ((j + 1) % (2 * n) : Nat) := by rw [hcs]; push_cast; rfl
  rw [e]
  exact k
theorem ok_Ring_put (T : Txt P w K mg base a) : FnOk P w K mg base (L2.CX P w) 3 a.f_Ring_put a.fd_Ring_put ["self", "value"] (sp_Ring_put K a) := by
  have G_Ring_is_full := ok_Ring_is_full T
  have G_Ring_next := ok_Ring_next T
  refine T.F_Ring_put.okX sc_Ring_put (fun vs H Q E h => A2.len h) (fun cdv A outer s H vs Q E hr h => ?_)
  have hu := hu_of hr
  obtain ⟨v_self, v_value, rfl, h⟩ := h
  refine ⟨_, (pss_cons (ps_if (pt_val (pe_meth0S (pv 0) T.cl_Ring T.m_Ring_is_full G_Ring_is_full (hr.mono (by decide)) T.b_Ring_is_full (fun σ => passAt (takes_of rfl rfl rfl rfl) σ))) (pss_one (ps_raiseE rfl T.e_RingError (hr.mono (by decide)) (takes_of rfl rfl rfl rfl) rfl (pe_callB call_ln (by rfl) T.g_len (by decide +kernel) (pa_cons (pe_fld (pv 0) rfl) pa_nil)))) pss_nil)
    (pss_cons (ps_asg (pv 1) (pg_sub (pe_fld (pv 0) rfl) (pe_op op_mod (pe_fld (pv 0) rfl) (pe_callB call_ln (by rfl) T.g_len (by decide +kernel) (pa_cons (pe_fld (pv 0) rfl) pa_nil))) set_list))
    (pss_one (ps_fld (pv 0) (pe_methS (pv 0) T.cl_Ring T.m_Ring_next G_Ring_next (hr.mono (by decide)) T.b_Ring_next (fun σ => passAt (takes_of rfl rfl rfl rfl) σ) (pa_cons (pe_fld (pv 0) rfl) pa_nil)) rfl)))), ?_⟩
  obtain ⟨p, l, n, wr, tk, xs, rfl, R, kf, k⟩ := h
  obtain ⟨⟨dx, ho⟩, ⟨cs, hl, hcs, hat⟩, n1, nz, wl, tl, ln, wt⟩ := id R
  have npl := R.ne
  walk_at "r"
  refine a1 ⟨p, l, n, wr, tk, xs, rfl, R, ?_⟩
  walk_at "r"
  refine if_d (fun c => ?_) (fun c => ?_)
  · walk_at "r"
    rw [hcs]
    exact ⟨okV_int ⟨by omega, by omega⟩, fun d hd => kf c d hd⟩
  · walk_at "r"
    have hx : xs.length < n := by omega
    have ew : (wr : Int) % (cs.length : Int) = ((wr % n : Nat) : Int) := by rw [hcs]; push_cast; rfl
    rw [ew]
    refine c_setL (j := wr % n) hl rfl (by rw [hcs]; exact Nat.mod_lt _ (by omega)) ?_
    walk_at "r"
    have em : wr % n = (tk + xs.length) % n := by rw [wt, Nat.mod_mod_of_dvd _ (Nat.dvd_mul_left n 2)]
    have hn0 : 0 < n := by omega
    -- what the cells hold now
    have hat2 : ∀ i x, (xs ++ [v_value])[i]? = some x → (cs.set (wr % n) v_value)[(tk + i) % n]? = some x := fun i x hi => by
      by_cases hlt : i < xs.length
      · rw [List.getElem?_append_left hlt] at hi
        have hne : wr % n ≠ (tk + i) % n := fun z => by
          rw [em] at z
          have z2 := Nat.sub_mod_eq_zero_of_mod_eq z
          have z3 : tk + xs.length - (tk + i) = xs.length - i := by omega
          rw [z3, Nat.mod_eq_of_lt (by omega)] at z2
          omega
        rw [List.getElem?_set_ne hne]
        exact hat i x hi
      · have hi2 : i = xs.length := by
          have h2 := (List.getElem?_eq_some_iff.mp hi).1
          rw [List.length_append, List.length_singleton] at h2
          omega
        subst hi2
        rw [List.getElem?_append_right (Nat.le_refl _), Nat.sub_self] at hi
        have hv : v_value = x := by simpa using hi
        subst hv
        rw [← em, List.getElem?_set_self (by rw [hcs]; exact Nat.mod_lt _ hn0)]
    refine a2 ⟨p, l, n, wr, tk, wr, xs, rfl, rfl, ⟨⟨dx, by rw [upd_ne npl]; exact ho⟩, ⟨cs.set (wr % n) v_value, upd_same, by rw [List.length_set, hcs], fun i x hi => ?_⟩, n1, nz, wl, tl, ln, wt⟩, ?_⟩
    · refine hat2 i x ?_
      rw [List.getElem?_append_left (List.getElem?_eq_some_iff.mp hi).1]
      exact hi
    walk_at "r"
    refine k hx _ ⟨⟨dx, upd_same⟩, ⟨cs.set (wr % n) v_value, by rw [upd_ne npl.symm]; exact upd_same, by rw [List.length_set, hcs], hat2⟩, n1, nz, Nat.mod_lt _ (by omega), tl, by rw [List.length_append, List.length_singleton]; omega, ?_⟩ ((Fp.at_ (by simp)).trans (Fp.at_ (by simp)))
    rw [List.length_append, List.length_singleton, wt, Nat.mod_add_mod, Nat.add_assoc]
theorem ok_Ring_first (T : Txt P w K mg base a) : FnOk P w K mg base (L2.CX P w) 3 a.f_Ring_first a.fd_Ring_first ["self"] (sp_Ring_first K a) := by
  have G_Ring_held := ok_Ring_held T
  refine T.F_Ring_first.okX sc_Ring_first (fun vs H Q E h => A1.len h) (fun cdv A outer s H vs Q E hr h => ?_)
  have hu := hu_of hr
  obtain ⟨v_self, rfl, h⟩ := h
  refine ⟨_, (pss_cons (ps_if (pt_cmpR op_eq (pe_meth0S (pv 0) T.cl_Ring T.m_Ring_held G_Ring_held (hr.mono (by decide)) T.b_Ring_held (fun σ => passAt (takes_of rfl rfl rfl rfl) σ)) pe_int (nomark _)) (pss_one (ps_raiseE rfl T.e_RingError (hr.mono (by decide)) (takes_of rfl rfl rfl rfl) rfl pe_int)) pss_nil)
    (pss_one (ps_ret (pe_ix ix_list (pe_fld (pv 0) rfl) (pe_op op_mod (pe_fld (pv 0) rfl) (pe_callB call_ln (by rfl) T.g_len (by decide +kernel) (pa_cons (pe_fld (pv 0) rfl) pa_nil))) (fun _ _ => rfl))))), ?_⟩
  obtain ⟨p, l, n, wr, tk, xs, rfl, R, kf, k⟩ := h
  obtain ⟨⟨dx, ho⟩, ⟨cs, hl, hcs, hat⟩, n1, nz, wl, tl, ln, wt⟩ := id R
  walk_at "r"
  refine a1 ⟨p, l, n, wr, tk, xs, rfl, R, ?_⟩
  walk_at "r"
  refine if_d (fun c => ?_) (fun c => ?_)
  · walk_at "r"
    have c2 : xs = [] := List.eq_nil_of_length_eq_zero (Int.ofNat.inj (V.int.inj c))
    exact ⟨okV_int ⟨by omega, by omega⟩, fun d hd => kf c2 d hd⟩
  · walk_at "r"
    cases hx : xs with
    | nil => exact absurd (by rw [hx]; rfl) c
    | cons x ys =>
      have ew : (tk : Int) % (cs.length : Int) = ((tk % n : Nat) : Int) := by rw [hcs]; push_cast; rfl
      rw [ew]
      have hc := hat 0 x (by rw [hx]; rfl)
      refine o_ixL (Or.inl (Or.inl hl)) (atI_nat hc) ?_
      walk_at "r"
      exact k x ys hx
theorem ok_Ring_take (T : Txt P w K mg base a) : FnOk P w K mg base (L2.CX P w) 4 a.f_Ring_take a.fd_Ring_take ["self"] (sp_Ring_take K a) := by
  have G_Ring_first := ok_Ring_first T
  have G_Ring_next := ok_Ring_next T
  refine T.F_Ring_take.okX sc_Ring_take (fun vs H Q E h => A1.len h) (fun cdv A outer s H vs Q E hr h => ?_)
  have hu := hu_of hr
  obtain ⟨v_self, rfl, h⟩ := h
  refine ⟨_, (pss_cons (ps_set (i := 1) sc_Ring_take.nd rfl (by first | exact Or.inl rfl | exact Or.inr rfl) (pe_meth0S (pv 0) T.cl_Ring T.m_Ring_first G_Ring_first (hr.mono (by decide)) T.b_Ring_first (fun σ => passAt (takes_of rfl rfl rfl rfl) σ)))
    (pss_cons (ps_fld (pv 0) (pe_methS (pv 0) T.cl_Ring T.m_Ring_next G_Ring_next (hr.mono (by decide)) T.b_Ring_next (fun σ => passAt (takes_of rfl rfl rfl rfl) σ) (pa_cons (pe_fld (pv 0) rfl) pa_nil)) rfl)
    (pss_one (ps_ret (pv 1))))), ?_⟩
  obtain ⟨p, l, n, wr, tk, xs, rfl, R, kf, k⟩ := h
  obtain ⟨⟨dx, ho⟩, ⟨cs, hl, hcs, hat⟩, n1, nz, wl, tl, ln, wt⟩ := id R
  have npl := R.ne
  walk_at "r"
  refine a1 ⟨p, l, n, wr, tk, xs, rfl, R, fun e d hd => kf e d hd, fun x ys hx => ?_⟩
  walk_at "r"
  refine a2 ⟨p, l, n, wr, tk, tk, xs, rfl, rfl, R, ?_⟩
  walk_at "r"
  have hln : xs.length = ys.length + 1 := by rw [hx]; rfl
  refine k x ys hx _ ⟨⟨dx, upd_same⟩, ⟨cs, by rw [upd_ne npl.symm]; exact hl, hcs, fun i y hi => ?_⟩, n1, nz, wl, Nat.mod_lt _ (by omega), by omega, ?_⟩ (Fp.at_ (by simp))
  · have h2 := hat (i + 1) y (by rw [hx]; exact hi)
    have e : ((tk + 1) % (2 * n) + i) % n = (tk + (i + 1)) % n := by
      rw [← Nat.mod_add_mod ((tk + 1) % (2 * n)) n i, Nat.mod_mod_of_dvd _ (Nat.dvd_mul_left n 2), Nat.mod_add_mod]
      congr 1
      omega
    rw [e]
    exact h2
  · rw [Nat.mod_add_mod, wt, hln]
    congr 1
    omega
theorem ok_Ring_listed (T : Txt P w K mg base a) : FnOk P w K mg base (L2.CX P w) 2 a.f_Ring_listed a.fd_Ring_listed ["self"] (sp_Ring_listed K a) := by
  have G_Ring_held := ok_Ring_held T
  refine T.F_Ring_listed.okX sc_Ring_listed (fun vs H Q E h => A1.len h) (fun cdv A outer s H vs Q E hr h => ?_)
  have hu := hu_of hr
  obtain ⟨v_self, rfl, h⟩ := h
  refine ⟨_, (pss_cons (ps_set (i := 1) sc_Ring_listed.nd rfl (by first | exact Or.inl rfl | exact Or.inr rfl) (pe_callB call_ln (by rfl) T.g_len (by decide +kernel) (pa_cons (pe_fld (pv 0) rfl) pa_nil)))
    (pss_one (ps_ret (pe_lc (own := [("at", 2)]) (g := (gName 2)) (tt := tYes) (te := (tOp (rIxL K) (tFld K (tVar 0) "_cells") (tOp (rI (fun _ j => 0 < j) fun i j => .int (i % j)) (tOp (rI0 fun i j => .int (i + j)) (tFld K (tVar 0) "taken") (tVar 2)) (tVar 1)))) rfl sc_Ring_listed.nd (pi_range1 rfl T.g_range (pa_cons (pe_meth0S (pv 0) T.cl_Ring T.m_Ring_held G_Ring_held (hr.mono (by decide)) T.b_Ring_held (fun σ => passAt (takes_of rfl rfl rfl rfl) σ)) pa_nil)) (blkOk_by (N := ["self", "cells", "at"]) (sc := defScope s_Ring_listed) (own := [("at", 2)]) (by decide +kernel)) (fun _ _ _ _ _ => by exact (pg_name (i := 2) sc_Ring_listed.nd rfl (by first | exact Or.inl rfl | exact Or.inr rfl))) (fun _ _ _ _ _ => by exact pts_nil) (fun _ _ _ _ _ => by exact (pe_ix ix_list (pe_fld (pv 0) rfl) (pe_op op_mod (pe_op op_add (pe_fld (pv 0) rfl) (pv 2)) (pv 1)) (fun _ _ => rfl))))))), ?_⟩
  obtain ⟨p, l, n, wr, tk, xs, rfl, R, k⟩ := h
  obtain ⟨⟨dx, ho⟩, ⟨cs, hl, hcs, hat⟩, n1, nz, wl, tl, ln, wt⟩ := id R
  walk_at "r"
  refine e_lcR ?_
  walk_at "r"
  refine a1 ⟨p, l, n, wr, tk, xs, rfl, R, ?_⟩
  refine k_lcR (ys := xs) (by omega) (by omega) rfl (fun D i y H2 RR hD hi hy e hR => ?_) fun D hD => ?_
  · refine ⟨rfl, ?_⟩
    have npD : p ≠ D := ne_of_none ho hD
    have nlD : l ≠ D := ne_of_none hl hD
    subst e
    walk_at "r"
    have ew : ((tk : Int) + (i : Int)) % (cs.length : Int) = (((tk + i) % n : Nat) : Int) := by rw [hcs]; push_cast; rfl
    rw [ew]
    refine o_ixL (Or.inl (Or.inl (by rw [upd_ne nlD]; exact hl))) (atI_nat (hat i y hy)) ?_
    exact hR
  · exact k D hD
/-! ### rings, as assertions -/
def ringP (C p : Addr) (n : Nat) (xs : List V) (H : Hp) (A : List Addr) : Prop := ∃ l wr tk, A = [p, l] ∧ RingAt C H p l n wr tk xs
def RingA (C p : Addr) (n : Nat) (xs : List V) : As := fpa (ringP C p n xs) (fun H H' A ⟨l, wr, tk, e, R⟩ g => by
    obtain ⟨⟨dx, ho⟩, ⟨cs, hl, h⟩, a1, a2, a3, a4, a5, a6⟩ := R
    exact ⟨l, wr, tk, e, ⟨dx, by rw [g.1 p (by simp [e])]; exact ho⟩, ⟨cs, by rw [g.1 l (by simp [e])]; exact hl, h⟩, a1, a2, a3, a4, a5, a6⟩)
  (fun H A ⟨l, wr, tk, e, R⟩ a s => by
    obtain ⟨⟨dx, ho⟩, ⟨cs, hl, h⟩, r⟩ := R
    rw [e] at s; simp only [List.mem_cons, List.not_mem_nil, or_false] at s; rcases s with rfl | rfl <;> simp [ho, hl])
section
variable {L R : List As} {H : Hp} {Q : VK} {E : XK} {C p : Addr} {n : Nat} {xs : List V} {v : V}
theorem RingA.U (hs : Sl.St L H) (s : Sel (RingA C p n xs) L R) : ∃ l wr tk, RingAt C H p l n wr tk xs ∧ ∀ xs' wr' tk' H1, RingAt C H1 p l n wr' tk' xs' → Fp [p, l] H H1 → Sl.St (RingA C p n xs' :: R) H1 := by
  obtain ⟨A, ⟨l, wr, tk, rfl, S⟩, up⟩ := fpa_U (hs.sel s)
  refine ⟨l, wr, tk, S, fun xs' wr' tk' H1 S1 f => up _ _ _ [p, l] [p, l] H1 f (fun x m => ⟨.inl m, fun o e => ?_⟩) ⟨l, wr', tk', rfl, S1⟩ fun x m => .inl m⟩
  obtain ⟨⟨dx, ho⟩, ⟨cs, hl, h⟩, r⟩ := S
  simp only [List.mem_cons, List.not_mem_nil, or_false] at m
  rcases m with rfl | rfl
  · rw [ho] at e; cases e; exact id
  · rw [hl] at e; cases e; exact id
theorem RingA.le (hs : Sl.St L H) (s : Sel (RingA C p n xs) L R) : xs.length ≤ n ∧ 1 ≤ n ∧ n ≤ 256 := by
  obtain ⟨l, wr, tk, S, _⟩ := RingA.U hs s
  exact ⟨S.ln, S.n1, S.nz⟩
theorem RingA.ins (hs : Sl.St L H) (s : Sel (RingA C p n xs) L R) : ∃ dx x0 x1 x2, H p = some (.ins C dx (F_Ring x0 x1 x2)) := by
  obtain ⟨l, wr, tk, S, _⟩ := RingA.U hs s
  obtain ⟨dx, h⟩ := S.ob
  exact ⟨dx, _, _, _, h⟩
theorem km_Ring {m : Str} {sp : Sp} {tl : TA} {σ : L2.St} (hs : Sl.St L H) (s : Sel (RingA C p n xs) L R) (hm : ∀ x0 x1 x2, (F_Ring x0 x1 x2).lookup m = none) (q : tl σ H fun vs H2 => sp (.ref p :: vs) H2 Q E) : kMeth C m sp E tl σ (.ref p) H Q := by
  obtain ⟨dx, x0, x1, x2, h⟩ := RingA.ins hs s
  exact k_meth h (hm _ _ _) q
theorem c_ring_init {dx : Addr} (hs : Sl.St L H) (s : Sel (cell p (.ins a.C_Ring dx [])) L R) (n1 : 1 ≤ n) (nz : n ≤ 256) (q : ∀ H', Sl.St (RingA a.C_Ring p n [] :: R) H' → Q .non H') : sp_Ring_init K a [.ref p, .int n] H Q E :=
  a2 ⟨p, dx, n, rfl, rfl, n1, nz, hs.get s, fun l H1 nl S f => q H1 (fpa_cell (hs.sel s) id f ⟨l, _, _, rfl, S⟩ fun x m => by
    simp only [List.mem_cons, List.not_mem_nil, or_false] at m
    rcases m with rfl | rfl
    · exact .inl rfl
    · exact .inr nl)⟩
theorem c_ring_held (hs : Sl.St L H) (s : Sel (RingA a.C_Ring p n xs) L R) (q : Q (.int xs.length) H) : sp_Ring_held K a [.ref p] H Q E := by
  obtain ⟨l, wr, tk, S, _⟩ := RingA.U hs s
  exact a1 ⟨p, l, n, wr, tk, xs, rfl, S, q⟩
theorem c_ring_full (hs : Sl.St L H) (s : Sel (RingA a.C_Ring p n xs) L R) (q : Q (.bl (decide (xs.length = n))) H) : sp_Ring_is_full K a [.ref p] H Q E := by
  obtain ⟨l, wr, tk, S, _⟩ := RingA.U hs s
  exact a1 ⟨p, l, n, wr, tk, xs, rfl, S, q⟩
theorem c_ring_put (hs : Sl.St L H) (s : Sel (RingA a.C_Ring p n xs) L R) (e : xs.length = n → ∀ d, H d = none → E (.ref a.C_RingError) (some d) (upd H d (.xd [("held", .int n)]))) (q : xs.length < n → ∀ H', Sl.St (RingA a.C_Ring p n (xs ++ [v]) :: R) H' → Q .non H') : sp_Ring_put K a [.ref p, v] H Q E := by
  obtain ⟨l, wr, tk, S, up⟩ := RingA.U hs s
  exact a2 ⟨p, l, n, wr, tk, xs, rfl, S, e, fun h H1 S1 f => q h H1 (up _ _ _ _ S1 f)⟩
theorem c_ring_first (hs : Sl.St L H) (s : Sel (RingA a.C_Ring p n xs) L R) (e : xs = [] → ∀ d, H d = none → E (.ref a.C_RingError) (some d) (upd H d (.xd [("held", .int 0)]))) (q : ∀ x ys, xs = x :: ys → Q x H) : sp_Ring_first K a [.ref p] H Q E := by
  obtain ⟨l, wr, tk, S, up⟩ := RingA.U hs s
  exact a1 ⟨p, l, n, wr, tk, xs, rfl, S, e, q⟩
theorem c_ring_take (hs : Sl.St L H) (s : Sel (RingA a.C_Ring p n xs) L R) (e : xs = [] → ∀ d, H d = none → E (.ref a.C_RingError) (some d) (upd H d (.xd [("held", .int 0)]))) (q : ∀ x ys, xs = x :: ys → ∀ H', Sl.St (RingA a.C_Ring p n ys :: R) H' → Q x H') : sp_Ring_take K a [.ref p] H Q E := by
  obtain ⟨l, wr, tk, S, up⟩ := RingA.U hs s
  exact a1 ⟨p, l, n, wr, tk, xs, rfl, S, e, fun x ys h H1 S1 f => q x ys h H1 (up _ _ _ _ S1 f)⟩
theorem c_ring_listed (hs : Sl.St L H) (s : Sel (RingA a.C_Ring p n xs) L R) (q : ∀ b H', Sl.St (cell b (.lst xs) :: L) H' → Q (.ref b) H') : sp_Ring_listed K a [.ref p] H Q E := by
  obtain ⟨l, wr, tk, S, up⟩ := RingA.U hs s
  exact a1 ⟨p, l, n, wr, tk, xs, rfl, S, fun b nb => q b _ (hs.new nb)⟩
end
local macro_rules | `(tactic| walk_at "km") => do let h := Lean.mkIdent `hs; `(tactic| ((with_reducible refine' km_Ring $h ?s ?m ?_); (case s => walk_at "sel"); (case m => intros; walk_at "nol")))
end
end My
set_option Elab.async false
set_option maxRecDepth 100000
set_option maxHeartbeats 100000000
set_option linter.all false
namespace My
open PySem L2 Sx Rd Sl
local macro_rules | `(tactic| walk_at "ne") => `(tactic| (first | with_reducible assumption | with_reducible exact Ne.symm (by with_reducible assumption)))
local macro_rules | `(tactic| walk_at "nin") => `(tactic| (simp only [List.mem_cons, List.not_mem_nil, or_false, not_or, not_false_eq_true]; (repeat' refine And.intro ?_ ?_); (all_goals walk_at "ne")))
local macro_rules | `(tactic| walk_at "hl") => `(tactic| (first | (with_reducible assumption) | exact upd_same | ((with_reducible refine' (upd_ne ?hne).trans ?hgo); (case hne => walk_at "ne"); (case hgo => walk_at "hl"))))
local macro_rules | `(tactic| walk_at "sq") => `(tactic| (first | (with_reducible assumption) | exact Or.inl (Or.inl (by walk_at "hl"))))
local macro_rules | `(tactic| walk_at "ar") => `(tactic| (first | omega | exact ⟨by omega, by omega⟩ | exact Or.inl ⟨by omega, by omega⟩ | exact Or.inr ⟨by omega, by omega⟩ | (show (0 : Int) < _; omega) | (show (0 : Int) < _ ∧ _ < (1073741824 : Int); omega)))
local macro_rules | `(tactic| walk_at "cls") => `(tactic| (first | exact Txt.cl_Receiver (by assumption) | exact Txt.cl_Ring (by assumption) | exact Txt.cl_ReceiveQueue (by assumption) | exact Txt.cl_SlotRing (by assumption)))
local macro_rules | `(tactic| walk_at "noa") => `(tactic| (first | exact Txt.n_Receiver_queue (by assumption) | exact Txt.n_Receiver_ring (by assumption) | exact Txt.n_Receiver_size (by assumption) | exact Txt.n_Receiver_idle (by assumption) | exact Txt.n_Receiver_latest (by assumption) | exact Txt.n_Ring_cells (by assumption) | exact Txt.n_Ring_written (by assumption) | exact Txt.n_Ring_taken (by assumption) | exact Txt.n_ReceiveQueue_capacity (by assumption) | exact Txt.n_ReceiveQueue_items (by assumption) | exact Txt.n_ReceiveQueue_ticks (by assumption) | exact Txt.n_SlotRing_slots (by assumption) | exact Txt.n_SlotRing_armed (by assumption) | exact Txt.n_SlotRing_filled (by assumption) | exact Txt.n_SlotRing_added (by assumption)))
local macro_rules | `(tactic| walk_at "lkp") => `(tactic| (first | (with_reducible exact F_Receiver_queue_l) | (with_reducible exact F_Receiver_ring_l) | (with_reducible exact F_Receiver_size_l) | (with_reducible exact F_Receiver_idle_l) | (with_reducible exact F_Receiver_latest_l) | (with_reducible exact F_Ring_cells_l) | (with_reducible exact F_Ring_written_l) | (with_reducible exact F_Ring_taken_l) | (with_reducible exact F_ReceiveQueue_capacity_l) | (with_reducible exact F_ReceiveQueue_items_l) | (with_reducible exact F_ReceiveQueue_ticks_l) | (with_reducible exact F_SlotRing_slots_l) | (with_reducible exact F_SlotRing_armed_l) | (with_reducible exact F_SlotRing_filled_l) | (with_reducible exact F_SlotRing_added_l)))
local macro_rules | `(tactic| walk_at "ptf") => `(tactic| (first | (with_reducible exact F_Receiver_queue_p) | (with_reducible exact F_Receiver_ring_p) | (with_reducible exact F_Receiver_size_p) | (with_reducible exact F_Receiver_idle_p) | (with_reducible exact F_Receiver_latest_p) | (with_reducible exact F_Ring_cells_p) | (with_reducible exact F_Ring_written_p) | (with_reducible exact F_Ring_taken_p) | (with_reducible exact F_ReceiveQueue_capacity_p) | (with_reducible exact F_ReceiveQueue_items_p) | (with_reducible exact F_ReceiveQueue_ticks_p) | (with_reducible exact F_SlotRing_slots_p) | (with_reducible exact F_SlotRing_armed_p) | (with_reducible exact F_SlotRing_filled_p) | (with_reducible exact F_SlotRing_added_p) | exact rfl))
local macro_rules | `(tactic| walk_at "lnF") => `(tactic| (first | (with_reducible exact F_Receiver_len) | (with_reducible exact F_Ring_len) | (with_reducible exact F_ReceiveQueue_len) | (with_reducible exact F_SlotRing_len) | (refine PL.lt (n := 60) ?_ (by decide); (repeat refine PL.put ?_); exact PL.nil) | decide))
local macro_rules | `(tactic| walk_at "nol") => `(tactic| (first | (with_reducible exact F_Receiver_m_can_step) | (with_reducible exact F_Receiver_m_step) | (with_reducible exact F_Receiver_m_close_idle) | (with_reducible exact F_Receiver_m_add) | (with_reducible exact F_Ring_m_held) | (with_reducible exact F_Ring_m_is_full) | (with_reducible exact F_Ring_m_put) | (with_reducible exact F_Ring_m_first) | (with_reducible exact F_Ring_m_take) | (with_reducible exact F_Ring_m_listed) | (with_reducible exact F_Ring_m_next) | (with_reducible exact F_ReceiveQueue_m_arrive) | (with_reducible exact F_ReceiveQueue_m_first) | (with_reducible exact F_ReceiveQueue_m_take) | (with_reducible exact F_ReceiveQueue_m_oldest_tick) | (with_reducible exact F_ReceiveQueue_m_bytes_held) | (with_reducible exact F_ReceiveQueue_m_contents) | (with_reducible exact F_ReceiveQueue_m_append) | (with_reducible exact F_ReceiveQueue_m_lose) | (with_reducible exact F_SlotRing_m_can_arm) | (with_reducible exact F_SlotRing_m_arm) | (with_reducible exact F_SlotRing_m_open_slot) | (with_reducible exact F_SlotRing_m_open_bytes) | (with_reducible exact F_SlotRing_m_open_count) | (with_reducible exact F_SlotRing_m_add) | (with_reducible exact F_SlotRing_m_close) | (with_reducible exact F_SlotRing_m_oldest) | (with_reducible exact F_SlotRing_m_reap) | (with_reducible exact F_SlotRing_m_filled_slots) | (with_reducible exact F_SlotRing_m_buffers)))
local macro_rules | `(tactic| walk_at "r1") => `(tactic| (first
  | with_reducible apply l_cons | ((with_reducible apply e_var); (case h => exact rfl)) | with_reducible apply l_nil | with_reducible apply s_seq | with_reducible apply e_c | with_reducible apply g_name
  | with_reducible apply s_asg | with_reducible apply e_call | with_reducible apply k_t | with_reducible apply e_op | with_reducible apply e_cb | with_reducible apply t_test
  | with_reducible apply s_if | with_reducible apply t_or | with_reducible apply t_and | with_reducible apply t_B | with_reducible apply s_next | with_reducible apply p_some
  | with_reducible apply p_no | with_reducible apply e_sl | with_reducible apply k_i | with_reducible apply e_lst | with_reducible apply t_not | with_reducible apply o_I0
  | ((with_reducible refine' o_I ?hc ?_); (case hc => walk_at "ar")) | with_reducible apply e_meth | ((with_reducible refine' k_meth ?h1 ?h2 ?_); (case h1 => walk_at "hl"); (case h2 => walk_at "nol")) | with_reducible apply e_fld | ((with_reducible refine' k_fld ?h1 ?h2 ?h3 ?h4 ?_); (case h1 => walk_at "hl"); (case h2 => walk_at "cls"); (case h3 => walk_at "noa"); (case h4 => walk_at "lkp")) | with_reducible apply e_not
  | with_reducible apply s_ret | ((with_reducible refine' k_ty ?h1 ?_); (case h1 => walk_at "sq")) | with_reducible apply s_drop | with_reducible apply s_retN | with_reducible apply s_cont | with_reducible apply s_break
  | with_reducible apply o_chC | ((with_reducible refine' o_chV ?hv ?_); (case hv => exact rfl)) | with_reducible apply e_un | with_reducible apply o_U | ((with_reducible refine' o_eq ?hs ?_); (case hs => exact rfl)) | ((with_reducible refine' o_ne ?hs ?_); (case hs => exact rfl))
  | ((with_reducible refine' o_ixL ?h1 ?h2 ?_); (case h1 => walk_at "sq"); (case h2 => first | exact rfl | exact atI_zero _ _)) | with_reducible apply s_fld | with_reducible apply e_make | ((with_reducible refine' k_set ?h1 ?h2 ?h3 ?h4 ?h5 ?_); (case h1 => walk_at "hl"); (case h2 => walk_at "cls"); (case h3 => walk_at "noa"); (case h4 => walk_at "ptf"); (case h5 => walk_at "lnF")) | with_reducible apply e_tup | with_reducible apply e_bm
  | with_reducible apply e_bm0 | with_reducible apply e_if | with_reducible apply e_chain | with_reducible apply s_raise | with_reducible apply g_sub | ((with_reducible refine' c_ln ?h1 ?_); (case h1 => walk_at "sq"))
  | ((with_reducible refine' c_pop0 ?h1 ?h2 ?_); (case h1 => walk_at "hl"); (case h2 => omega)) | with_reducible apply c_isBool | with_reducible apply c_isInt | with_reducible apply c_isBoolN | with_reducible apply c_isTupI | with_reducible apply c_isNonB
  | with_reducible apply c_isNonT | ((with_reducible refine' c_isList ?h1 ?_); (case h1 => walk_at "hl")) | ((with_reducible refine' c_isTup ?h1 ?_); (case h1 => walk_at "hl")) | ((with_reducible refine' c_isTupB ?h1 ?_); (case h1 => walk_at "hl")) | with_reducible apply o_isB | with_reducible apply o_notB
  | with_reducible apply e_and | with_reducible apply e_or | with_reducible apply k_bl | with_reducible apply e_xf | with_reducible apply s_augS | ((with_reducible refine' s_augV ?hv ?_); (case hv => exact rfl))
  | with_reducible apply ip_I | with_reducible apply e_lcE | ((with_reducible refine' k_xf ?h1 ?h2 ?_); (case h1 => walk_at "hl"); (case h2 => exact look_hit _ _ _)) | ((with_reducible refine' o_slL ?h1 ?_); (case h1 => walk_at "sq")) | ((with_reducible refine' k_dget ?h1 ?h2 ?_); (case h1 => walk_at "hl"); (case h2 => with_reducible assumption)) | with_reducible apply e_dget
  | with_reducible apply s_dput | with_reducible apply e_makeK | with_reducible apply g_cons | with_reducible apply g_nil | with_reducible apply c_ab | with_reducible apply c_in
  | with_reducible apply c_mx | with_reducible apply c_mn | with_reducible apply a1 | with_reducible apply a2 | with_reducible apply a3 | with_reducible apply a4
  | with_reducible apply a5 | with_reducible apply a6 | with_reducible apply a0 | with_reducible apply t_tru | with_reducible apply t_yes | ((with_reducible refine' k_truL ?h1 ?_); (case h1 => walk_at "sq")) | with_reducible refine d_nx ?_ | with_reducible refine d_rt ?_ | with_reducible refine d_bk ?_
  | with_reducible refine d_ct ?_))
local macro_rules | `(tactic| walk_at "r") => `(tactic| (repeat walk_at "r1"))
local macro_rules | `(tactic| walk_at "sel") => `(tactic| (first | with_reducible exact Sl.Sel.here | ((with_reducible refine' Sl.Sel.there ?t); (case t => walk_at "sel"))))
local macro_rules | `(tactic| walk_at "sels") => `(tactic| (first | with_reducible exact Sl.Sels.nil | ((with_reducible refine' Sl.Sels.cons ?a ?b); (case a => walk_at "sel"); (case b => walk_at "sels")) | with_reducible exact Sl.Sels.all _ | ((with_reducible refine' Sl.Sels.skip ?t); (case t => walk_at "sels"))))
local macro_rules | `(tactic| walk_at "selm") => `(tactic| ((try (simp only [])); (try simp only [List.map_append, List.map_cons, List.map_nil]); walk_at "sels"))
local macro_rules | `(tactic| walk_at "hg") => do
  let h := Lean.mkIdent `hs
  `(tactic| (first | (with_reducible assumption) | ((with_reducible refine' Sl.St.get $h ?s); (case s => walk_at "sel")) | ((with_reducible refine' Sl.St.geti $h ?s); (case s => walk_at "sel"))))
local macro_rules | `(tactic| walk_at "sg") => do
  let h := Lean.mkIdent `hs
  `(tactic| (first | (with_reducible assumption) | exact Or.inl (Or.inl (by walk_at "hg")) | (refine' Sl.sqA.U $h ?s; (case s => walk_at "sel"))))
local macro_rules | `(tactic| walk_at "le5") => `(tactic| (first | omega | (simp only [List.length_cons, List.length_nil, List.length_append, List.length_map]; omega) | (show _ ≤ _; decide) | (show _ < _; decide)))
local macro_rules | `(tactic| walk_at "km") => `(tactic| fail)
local macro_rules | `(tactic| walk_at "kf") => `(tactic| fail)
local macro_rules | `(tactic| walk_at "x1") => do
  let h := Lean.mkIdent `hs
  `(tactic| (first
  | with_reducible apply l_cons | ((with_reducible apply e_var); (case h => exact rfl)) | with_reducible apply l_nil | with_reducible apply s_seq | with_reducible apply e_c | with_reducible apply g_name
  | with_reducible apply s_asg | with_reducible apply e_call | with_reducible apply k_t | with_reducible apply e_op | with_reducible apply e_cb | with_reducible apply t_test
  | with_reducible apply s_if | with_reducible apply t_or | with_reducible apply t_and | with_reducible apply t_B | with_reducible apply s_next | with_reducible apply p_some
  | with_reducible apply p_no | with_reducible apply e_sl | with_reducible apply k_i | with_reducible apply Sl.e_lstS | with_reducible apply t_not | with_reducible apply o_I0
  | ((with_reducible refine' o_I ?hc ?_); (case hc => walk_at "ar")) | with_reducible apply e_meth | ((with_reducible refine' k_meth ?h1 ?h2 ?_); (case h1 => walk_at "hg"); (case h2 => walk_at "nol")) | walk_at "km" | with_reducible apply e_fld
  | ((with_reducible refine' k_fld ?h1 ?h2 ?h3 ?h4 ?_); (case h1 => walk_at "hg"); (case h2 => walk_at "cls"); (case h3 => walk_at "noa"); (case h4 => walk_at "lkp")) | walk_at "kf" | with_reducible apply e_not
  | with_reducible apply s_ret | ((with_reducible refine' k_ty ?h1 ?_); (case h1 => walk_at "sg")) | with_reducible apply s_drop | with_reducible apply s_retN | with_reducible apply s_cont | with_reducible apply s_break
  | with_reducible apply o_chC | ((with_reducible refine' o_chV ?hv ?_); (case hv => exact rfl)) | with_reducible apply e_un | with_reducible apply o_U | ((with_reducible refine' o_eq ?hs ?_); (case hs => exact rfl)) | ((with_reducible refine' o_ne ?hs ?_); (case hs => exact rfl))
  | ((with_reducible refine' o_ixL ?h1 ?h2 ?_); (case h1 => walk_at "sg"); (case h2 => first | exact rfl | exact atI_zero _ _)) | ((with_reducible refine' o_ixT ?h1 ?h2 ?_); (case h1 => walk_at "sg"); (case h2 => first | exact rfl | exact atI_zero _ _)) | with_reducible apply s_fld | with_reducible apply Sl.e_makeS
  | ((with_reducible refine' Sl.k_setS $h ?h1 ?h2 ?h3 ?h4 ?h5 ?_); (case h1 => walk_at "sel"); (case h2 => walk_at "cls"); (case h3 => walk_at "noa"); (case h4 => walk_at "ptf"); (case h5 => walk_at "lnF"); (clear $h; intro _ $h)) | with_reducible apply Sl.e_tupS | with_reducible apply e_bm
  | with_reducible apply e_bm0 | with_reducible apply e_if | with_reducible apply e_chain | with_reducible apply s_raise | with_reducible apply g_sub | ((with_reducible refine' c_ln ?h1 ?_); (case h1 => walk_at "sg")) | ((with_reducible refine' c_lnT ?h1 ?_); (case h1 => walk_at "sg"))
  | ((with_reducible refine' Sl.k_newL $h ?h1 ?_); (case h1 => walk_at "le5"); (clear $h; intro _ _ $h)) | ((with_reducible refine' Sl.k_newT $h ?h1 ?_); (case h1 => walk_at "le5"); (clear $h; intro _ _ $h)) | ((with_reducible refine' Sl.k_make $h ?_); (clear $h; intro _ _ _ $h))
  | ((with_reducible refine' Sl.c_appS $h ?h1 ?h2 ?_); (case h1 => walk_at "sel"); (case h2 => walk_at "le5"); (clear $h; intro _ $h)) | ((with_reducible refine' Sl.c_pop0S $h ?h1 ?h2 ?_); (case h1 => walk_at "sel"); (case h2 => walk_at "le5"); (clear $h; intro _ $h))
  | ((with_reducible refine' Sl.c_lsS $h ?h1 ?_); (case h1 => walk_at "sg"); (clear $h; intro _ _ $h)) | ((with_reducible refine' Sl.o_slLS $h ?h1 ?_); (case h1 => walk_at "sg"); (clear $h; intro _ _ $h)) | ((with_reducible refine' Sl.c_clrS $h ?h1 ?_); (case h1 => walk_at "sel"); (clear $h; intro _ $h))
  | ((with_reducible refine' Sl.o_catS $h ?h1 ?h2 ?h3 ?_); (case h1 => walk_at "hg"); (case h2 => walk_at "hg"); (case h3 => walk_at "le5"); (clear $h; intro _ _ $h)) | ((with_reducible refine' Sl.c_extS $h ?h1 ?h2 ?h3 ?_); (case h1 => walk_at "sel"); (case h2 => walk_at "hg"); (case h3 => walk_at "le5"); (clear $h; intro _ $h))
  | ((with_reducible refine' Sl.k_raise $h ?h1 ?_); (case h1 => exact okV_int ⟨by omega, by omega⟩); (clear $h; intro _ _ $h))
  | with_reducible apply c_isBool | with_reducible apply c_isInt | with_reducible apply c_isBoolN | with_reducible apply c_isTupI | with_reducible apply c_isNonB
  | with_reducible apply c_isNonT | ((with_reducible refine' c_isList ?h1 ?_); (case h1 => walk_at "hg")) | ((with_reducible refine' c_isTup ?h1 ?_); (case h1 => walk_at "hg")) | ((with_reducible refine' c_isTupB ?h1 ?_); (case h1 => walk_at "hg")) | with_reducible apply o_isB | with_reducible apply o_notB
  | with_reducible apply e_and | with_reducible apply e_or | with_reducible apply k_bl | with_reducible apply e_xf | with_reducible apply s_augS | ((with_reducible refine' s_augV ?hv ?_); (case hv => exact rfl)) | with_reducible apply Sl.s_aug
  | with_reducible apply ip_I | with_reducible apply e_lcE | with_reducible apply e_lcL | with_reducible apply f_lst | with_reducible apply e_lcF | with_reducible apply f_rng1 | ((with_reducible refine' k_xf ?h1 ?h2 ?_); (case h1 => walk_at "hg"); (case h2 => exact look_hit _ _ _)) | ((with_reducible refine' k_dget ?h1 ?h2 ?_); (case h1 => walk_at "hg"); (case h2 => with_reducible assumption)) | with_reducible apply e_dget
  | with_reducible apply s_dput | with_reducible apply Sl.e_makeKS | with_reducible apply g_cons | with_reducible apply g_nil | ((with_reducible refine' g_tup ?h1 ?h2 ?_); (case h1 => walk_at "sg"); (case h2 => exact rfl)) | with_reducible apply c_ab | with_reducible apply c_in
  | with_reducible apply c_mx | with_reducible apply c_mn | with_reducible apply a1 | with_reducible apply a2 | with_reducible apply a3 | with_reducible apply a4
  | with_reducible apply a5 | with_reducible apply a6 | with_reducible apply a0 | with_reducible apply t_tru | with_reducible apply t_yes | ((with_reducible refine' k_truL ?h1 ?_); (case h1 => walk_at "sg")) | with_reducible refine d_nx ?_ | with_reducible refine d_rt ?_ | with_reducible refine d_bk ?_
  | with_reducible refine d_ct ?_))
local macro_rules | `(tactic| walk_at "x") => `(tactic| (repeat walk_at "x1"))
local macro_rules | `(tactic| walk_at "km") => do let h := Lean.mkIdent `hs; `(tactic| ((with_reducible refine' km_Ring $h ?s ?m ?_); (case s => walk_at "sel"); (case m => intros; walk_at "nol")))
section
variable {P : Program} {w : World} {K : PySem.W.Frag} {mg : Str → Option Value} {base : Heap} {a : Ads}
/-! ### rings of slots, as assertions -/
abbrev Slt := Int × List Int × Int
def slotA (v : V) (s : Slt) : As := ex fun t => ex fun d => Sl.all [pur (v = .ref t), tcell t [.int s.1, .ref d, .int s.2.2], cell d (.lst (s.2.1.map V.int))]
def SrA (a : Ads) (p : Addr) (n : Nat) (ab dt : List Int) (fs : List Slt) : As := ex fun dx => ex fun pa => ex fun pf => ex fun ad => ex fun vs => Sl.all [pur (ab.length + fs.length ≤ n), cell p (.ins a.C_SlotRing dx (F_SlotRing (.int n) (.ref pa) (.ref pf) (.ref ad))),
  RingA a.C_Ring pa n (ab.map V.int), RingA a.C_Ring pf n vs, cell ad (.lst (dt.map V.int)), lA slotA vs fs]
section
variable {L R : List As} {H : Hp} {Q : VK} {E : XK} {p : Addr} {n : Nat} {ab dt : List Int} {fs : List Slt} {v : V} {s : Slt}
theorem slotA.U (hs : Sl.St L H) (se : Sel (slotA v s) L R) : ∃ t d, v = .ref t ∧ Sl.St (tcell t [.int s.1, .ref d, .int s.2.2] :: cell d (.lst (s.2.1.map V.int)) :: R) H := by
  obtain ⟨t, h⟩ := (hs.sel se).exU
  obtain ⟨d, h⟩ := h.exU
  obtain ⟨e, h⟩ := h.allU.purU
  exact ⟨t, d, e, h⟩
theorem slotA.I {t d : Addr} (hs : Sl.St L H) (se : Sels [tcell t [.int s.1, .ref d, .int s.2.2], cell d (.lst (s.2.1.map V.int))] L R) : Sl.St (slotA (.ref t) s :: R) H :=
  Sl.St.exI t (Sl.St.exI d (Sl.St.allI (L := [_, _, _]) (Sl.St.purI rfl (hs.sels se))))
theorem SrA.U (hs : Sl.St L H) (se : Sel (SrA a p n ab dt fs) L R) : ∃ dx pa pf ad vs, ab.length + fs.length ≤ n ∧ vs.length = fs.length ∧ n ≤ 256 ∧ Sl.St (cell p (.ins a.C_SlotRing dx (F_SlotRing (.int n) (.ref pa) (.ref pf) (.ref ad))) ::
    RingA a.C_Ring pa n (ab.map V.int) :: RingA a.C_Ring pf n vs :: cell ad (.lst (dt.map V.int)) :: lA slotA vs fs :: R) H := by
  obtain ⟨dx, h⟩ := (hs.sel se).exU
  obtain ⟨pa, h⟩ := h.exU
  obtain ⟨pf, h⟩ := h.exU
  obtain ⟨ad, h⟩ := h.exU
  obtain ⟨vs, h⟩ := h.exU
  obtain ⟨e, h⟩ := h.allU.purU
  exact ⟨dx, pa, pf, ad, vs, e, lA.len (h.sel (.there (.there (.there (.there .here))))), (RingA.le h (.there .here)).2.2, h⟩
theorem km_SlotRing {m : Str} {sp : Sp} {tl : TA} {σ : L2.St} (hs : Sl.St L H) (se : Sel (SrA a p n ab dt fs) L R) (hm : ∀ x0 x1 x2 x3, (F_SlotRing x0 x1 x2 x3).lookup m = none) (q : tl σ H fun vs H2 => sp (.ref p :: vs) H2 Q E) : kMeth a.C_SlotRing m sp E tl σ (.ref p) H Q := by
  obtain ⟨dx, pa, pf, ad, vs, _, _, _, h⟩ := SrA.U hs se
  exact k_meth h.get0 (hm _ _ _ _) q
theorem SrA.I {dx pa pf ad : Addr} {vs : List V} (hs : Sl.St L H) (le : ab.length + fs.length ≤ n) (se : Sels [cell p (.ins a.C_SlotRing dx (F_SlotRing (.int n) (.ref pa) (.ref pf) (.ref ad))), RingA a.C_Ring pa n (ab.map V.int), RingA a.C_Ring pf n vs, cell ad (.lst (dt.map V.int)), lA slotA vs fs] L R) :
    Sl.St (SrA a p n ab dt fs :: R) H :=
  Sl.St.exI dx (Sl.St.exI pa (Sl.St.exI pf (Sl.St.exI ad (Sl.St.exI vs (Sl.St.allI (L := [_, _, _, _, _, _]) (Sl.St.purI le (hs.sels se)))))))
end
local macro_rules | `(tactic| walk_at "km") => do let h := Lean.mkIdent `hs; `(tactic| ((with_reducible refine' km_SlotRing $h ?s ?m ?_); (case s => walk_at "sel"); (case m => intros; walk_at "nol")))
def sp_copied (K : PySem.W.Frag) (a : Ads) : Sp := A1 fun v H Q E => ∃ (s : Slt) (L R : List As), Sl.St L H ∧ Sel (slotA v s) L R ∧ ∀ t H', Sl.St (slotA (.ref t) s :: L) H' → Q (.ref t) H'
def sp_SlotRing_init (K : PySem.W.Frag) (a : Ads) : Sp := A2 fun s v H Q E => ∃ (p dx : Addr) (n : Nat) (L R : List As), s = .ref p ∧ v = .int n ∧ 1 ≤ n ∧ n ≤ 256 ∧ Sl.St L H ∧ Sel (cell p (.ins a.C_SlotRing dx [])) L R ∧ ∀ H', Sl.St (SrA a p n [] [] [] :: R) H' → Q .non H'
/-- a promise about a ring of slots -/
def SrSp (a : Ads) (s : V) (H : Hp) (φ : Addr → Nat → List Int → List Int → List Slt → List As → List As → Prop) : Prop := ∃ (p : Addr) (n : Nat) (ab dt : List Int) (fs : List Slt) (L R : List As), s = .ref p ∧ Sl.St L H ∧ Sel (SrA a p n ab dt fs) L R ∧ φ p n ab dt fs L R
def sp_SlotRing_can_arm (K : PySem.W.Frag) (a : Ads) : Sp := A1 fun s H Q E => SrSp a s H fun p n ab dt fs L R => Q (.bl (decide (ab.length + fs.length < n))) H
def sp_SlotRing_arm (K : PySem.W.Frag) (a : Ads) : Sp := A2 fun s v H Q E => SrSp a s H fun p n ab dt fs L R => ∃ z : Int, v = .int z ∧ (ab.length + fs.length = n → Q (.bl false) H) ∧ (ab.length + fs.length < n → ∀ H', Sl.St (SrA a p n (ab ++ [z]) dt fs :: R) H' → Q (.bl true) H')
def sp_SlotRing_open_slot (K : PySem.W.Frag) (a : Ads) : Sp := A1 fun s H Q E => SrSp a s H fun p n ab dt fs L R => (ab = [] → Q .non H) ∧ (∀ b r, ab = b :: r → Q (.int b) H)
def sp_SlotRing_open_bytes (K : PySem.W.Frag) (a : Ads) : Sp := A1 fun s H Q E => SrSp a s H fun p n ab dt fs L R => ∀ q H', Sl.St (cell q (.lst (dt.map V.int)) :: L) H' → Q (.ref q) H'
def sp_SlotRing_open_count (K : PySem.W.Frag) (a : Ads) : Sp := A1 fun s H Q E => SrSp a s H fun p n ab dt fs L R => Q (.int dt.length) H
def sp_SlotRing_add (K : PySem.W.Frag) (a : Ads) : Sp := A2 fun s v H Q E => SrSp a s H fun p n ab dt fs L R => ∃ z : Int, v = .int z ∧ dt.length < 90000 ∧ (ab = [] → ∀ d, H d = none → E (.ref a.C_RingError) (some d) (upd H d (.xd [("held", .int 0)]))) ∧
  (ab ≠ [] → ∀ H', Sl.St (SrA a p n ab (dt ++ [z]) fs :: R) H' → Q .non H')
def sp_SlotRing_close (K : PySem.W.Frag) (a : Ads) : Sp := A2 fun s v H Q E => SrSp a s H fun p n ab dt fs L R => ∃ z : Int, v = .int z ∧ (ab = [] → ∀ d, H d = none → E (.ref a.C_RingError) (some d) (upd H d (.xd [("held", .int 0)]))) ∧
  (∀ b r, ab = b :: r → ∀ H', Sl.St (SrA a p n r [] (fs ++ [(b, dt, z)]) :: R) H' → Q .non H')
def sp_SlotRing_oldest (K : PySem.W.Frag) (a : Ads) : Sp := A1 fun s H Q E => SrSp a s H fun p n ab dt fs L R => (fs = [] → Q .non H) ∧ (∀ x r, fs = x :: r → ∀ t H', Sl.St (slotA (.ref t) x :: L) H' → Q (.ref t) H')
def sp_SlotRing_reap (K : PySem.W.Frag) (a : Ads) : Sp := A1 fun s H Q E => SrSp a s H fun p n ab dt fs L R => (fs = [] → ∀ d, H d = none → E (.ref a.C_RingError) (some d) (upd H d (.xd [("held", .int 0)]))) ∧
  (∀ x r, fs = x :: r → ∀ t H', Sl.St (slotA (.ref t) x :: SrA a p n ab dt r :: R) H' → Q (.ref t) H')
theorem ok_copied (T : Txt P w K mg base a) : FnOk P w K mg base (L2.CX P w) 1 a.f_copied a.fd_copied ["slot"] (sp_copied K a) := by
  refine T.F_copied.okX sc_copied (fun vs H Q E h => A1.len h) (fun cdv A outer s H vs Q E hr h => ?_)
  have hu := hu_of hr
  obtain ⟨v_slot, rfl, h⟩ := h
  refine ⟨_, (pss_cons (ps_asg (pv 0) (pg_tup rfl (pgs_cons (pg_name (i := 1) sc_copied.nd rfl (by first | exact Or.inl rfl | exact Or.inr rfl)) (pgs_cons (pg_name (i := 2) sc_copied.nd rfl (by first | exact Or.inl rfl | exact Or.inr rfl)) (pgs_cons (pg_name (i := 3) sc_copied.nd rfl (by first | exact Or.inl rfl | exact Or.inr rfl)) pgs_nil)))))
    (pss_one (ps_ret (pe_tup (pa_cons (pv 1) (pa_cons (pe_callTy call_ls (by rfl) T.g_list (by decide +kernel) (pa_cons (pv 2) pa_nil)) (pa_cons (pv 3) pa_nil))))))), ?_⟩
  obtain ⟨s, L, R, hs, se, k⟩ := h
  obtain ⟨t, d, rfl, hs⟩ := slotA.U hs se
  walk_at "x"
  refine k _ _ ((Ent.cons se.ent').st ?_)
  have h1 := slotA.I (s := s) hs (by walk_at "sels")
  exact Ent.swap.st (slotA.I (s := s) h1 (by walk_at "sels"))
theorem ok_SlotRing_init (T : Txt P w K mg base a) : FnOk P w K mg base (L2.CX P w) 3 a.f_SlotRing_init a.fd_SlotRing_init ["self", "slots"] (sp_SlotRing_init K a) := by
  have G_Ring_init := ok_Ring_init T
  refine T.F_SlotRing_init.okX sc_SlotRing_init (fun vs H Q E h => A2.len h) (fun cdv A outer s H vs Q E hr h => ?_)
  have hu := hu_of hr
  obtain ⟨v_self, v_slots, rfl, h⟩ := h
  refine ⟨_, (pss_cons (ps_fld (pv 0) (pv 1) rfl)
    (pss_cons (ps_fld (pv 0) (pe_makeS T.mk_Ring G_Ring_init (hr.mono (by decide)) rfl T.g_Ring T.b_Ring_init (fun σ => passAt (takes_of rfl rfl rfl rfl) σ) (pa_cons (pv 1) pa_nil)) rfl)
    (pss_cons (ps_fld (pv 0) (pe_makeS T.mk_Ring G_Ring_init (hr.mono (by decide)) rfl T.g_Ring T.b_Ring_init (fun σ => passAt (takes_of rfl rfl rfl rfl) σ) (pa_cons (pv 1) pa_nil)) rfl)
    (pss_one (ps_fld (pv 0) (pe_lst pa_nil) rfl))))), ?_⟩
  obtain ⟨p, dx, n, L, R, rfl, rfl, n1, nz, hs, se, k⟩ := h
  have hs := hs.sel se
  walk_at "x"
  refine c_ring_init hs (by walk_at "sel") n1 nz fun H1 hs => ⟨rfl, ?_⟩
  walk_at "x"
  refine c_ring_init hs (by walk_at "sel") n1 nz fun H1 hs => ⟨rfl, ?_⟩
  walk_at "x"
  exact k _ (SrA.I (ab := []) (dt := []) (fs := []) (vs := []) (lA.nilI (by rw [F_SlotRing_init] at hs; exact hs)) (by simp) (by walk_at "selm"))
theorem ok_SlotRing_can_arm (T : Txt P w K mg base a) : FnOk P w K mg base (L2.CX P w) 2 a.f_SlotRing_can_arm a.fd_SlotRing_can_arm ["self"] (sp_SlotRing_can_arm K a) := by
  have G_Ring_held := ok_Ring_held T
  refine T.F_SlotRing_can_arm.okX sc_SlotRing_can_arm (fun vs H Q E h => A1.len h) (fun cdv A outer s H vs Q E hr h => ?_)
  have hu := hu_of hr
  obtain ⟨v_self, rfl, h⟩ := h
  refine ⟨_, (pss_one (ps_ret (pe_cmpR op_lt (pe_op op_add (pe_meth0S (pe_fld (pv 0) rfl) T.cl_Ring T.m_Ring_held G_Ring_held (hr.mono (by decide)) T.b_Ring_held (fun σ => passAt (takes_of rfl rfl rfl rfl) σ)) (pe_meth0S (pe_fld (pv 0) rfl) T.cl_Ring T.m_Ring_held G_Ring_held (hr.mono (by decide)) T.b_Ring_held (fun σ => passAt (takes_of rfl rfl rfl rfl) σ))) (pe_fld (pv 0) rfl) (nomark _)))), ?_⟩
  obtain ⟨p, n, ab, dt, fs, L, R, rfl, hs, se, k⟩ := h
  obtain ⟨dx, pa, pf, ad, vs, le, hl, nz, hs⟩ := SrA.U hs se
  walk_at "x"
  refine c_ring_held hs (by walk_at "sel") ?_
  walk_at "x"
  refine c_ring_held hs (by walk_at "sel") ?_
  walk_at "x"
  rw [List.length_map, hl, decide_eq_decide.mpr (show ((ab.length : Int) + (fs.length : Int) < (n : Int)) ↔ ab.length + fs.length < n by omega)]
  exact k
theorem ok_SlotRing_arm (T : Txt P w K mg base a) : FnOk P w K mg base (L2.CX P w) 4 a.f_SlotRing_arm a.fd_SlotRing_arm ["self", "buffer"] (sp_SlotRing_arm K a) := by
  have G_SlotRing_can_arm := ok_SlotRing_can_arm T
  have G_Ring_put := ok_Ring_put T
  refine T.F_SlotRing_arm.okX sc_SlotRing_arm (fun vs H Q E h => A2.len h) (fun cdv A outer s H vs Q E hr h => ?_)
  have hu := hu_of hr
  obtain ⟨v_self, v_buffer, rfl, h⟩ := h
  refine ⟨_, (pss_cons (ps_if (pt_not (pt_val (pe_meth0S (pv 0) T.cl_SlotRing T.m_SlotRing_can_arm G_SlotRing_can_arm (hr.mono (by decide)) T.b_SlotRing_can_arm (fun σ => passAt (takes_of rfl rfl rfl rfl) σ)))) (pss_one (ps_ret pe_bl)) pss_nil)
    (pss_cons (ps_expr (pe_methS (pe_fld (pv 0) rfl) T.cl_Ring T.m_Ring_put G_Ring_put (hr.mono (by decide)) T.b_Ring_put (fun σ => passAt (takes_of rfl rfl rfl rfl) σ) (pa_cons (pv 1) pa_nil)))
    (pss_one (ps_ret pe_bl)))), ?_⟩
  obtain ⟨p, n, ab, dt, fs, L, R, rfl, hs, se, z, rfl, k0, k1⟩ := h
  have hs := hs.sel se
  have se : Sel (SrA a p n ab dt fs) _ R := .here
  walk_at "x"
  refine a1 ⟨p, n, ab, dt, fs, _, R, rfl, hs, se, ?_⟩
  walk_at "x"
  refine if_b (fun c => ?_) (fun c => ?_)
  · obtain ⟨dx, pa, pf, ad, vs, le, hl, nz, hs⟩ := SrA.U hs se
    walk_at "x"
    exact k0 (by simp at c; omega)
  · obtain ⟨dx, pa, pf, ad, vs, le, hl, nz, hs⟩ := SrA.U hs se
    simp at c
    walk_at "x"
    refine c_ring_put hs (by walk_at "sel") (fun h => by simp at h; omega) fun _ H1 hs => ?_
    walk_at "x"
    exact k1 c _ (SrA.I (ab := ab ++ [z]) hs (by simp; omega) (by walk_at "selm"))
theorem ok_SlotRing_open_slot (T : Txt P w K mg base a) : FnOk P w K mg base (L2.CX P w) 4 a.f_SlotRing_open_slot a.fd_SlotRing_open_slot ["self"] (sp_SlotRing_open_slot K a) := by
  have G_Ring_held := ok_Ring_held T
  have G_Ring_first := ok_Ring_first T
  refine T.F_SlotRing_open_slot.okX sc_SlotRing_open_slot (fun vs H Q E h => A1.len h) (fun cdv A outer s H vs Q E hr h => ?_)
  have hu := hu_of hr
  obtain ⟨v_self, rfl, h⟩ := h
  refine ⟨_, (pss_cons (ps_if (pt_cmpR op_eq (pe_meth0S (pe_fld (pv 0) rfl) T.cl_Ring T.m_Ring_held G_Ring_held (hr.mono (by decide)) T.b_Ring_held (fun σ => passAt (takes_of rfl rfl rfl rfl) σ)) pe_int (nomark _)) (pss_one (ps_ret pe_non)) pss_nil)
    (pss_one (ps_ret (pe_meth0S (pe_fld (pv 0) rfl) T.cl_Ring T.m_Ring_first G_Ring_first (hr.mono (by decide)) T.b_Ring_first (fun σ => passAt (takes_of rfl rfl rfl rfl) σ))))), ?_⟩
  obtain ⟨p, n, ab, dt, fs, L, R, rfl, hs, se, k0, k1⟩ := h
  obtain ⟨dx, pa, pf, ad, vs, le, hl, nz, hs⟩ := SrA.U hs se
  walk_at "x"
  refine c_ring_held hs (by walk_at "sel") ?_
  walk_at "x"
  cases ab with
  | nil => exact if_dT rfl (by walk_at "x"; exact k0 rfl)
  | cons b r =>
    refine if_dF (by simp; omega) ?_
    walk_at "x"
    refine c_ring_first hs (by walk_at "sel") (fun h => by simp at h) fun x ys h => ?_
    obtain ⟨rfl, rfl⟩ := List.cons.inj h
    exact k1 b r rfl
theorem ok_SlotRing_open_bytes (T : Txt P w K mg base a) : FnOk P w K mg base (L2.CX P w) 1 a.f_SlotRing_open_bytes a.fd_SlotRing_open_bytes ["self"] (sp_SlotRing_open_bytes K a) := by
  refine T.F_SlotRing_open_bytes.okX sc_SlotRing_open_bytes (fun vs H Q E h => A1.len h) (fun cdv A outer s H vs Q E hr h => ?_)
  have hu := hu_of hr
  obtain ⟨v_self, rfl, h⟩ := h
  refine ⟨_, (pss_one (ps_ret (pe_callTy call_ls (by rfl) T.g_list (by decide +kernel) (pa_cons (pe_fld (pv 0) rfl) pa_nil)))), ?_⟩
  obtain ⟨p, n, ab, dt, fs, L, R, rfl, hs, se, k⟩ := h
  obtain ⟨dx, pa, pf, ad, vs, le, hl, nz, hs⟩ := SrA.U hs se
  walk_at "x"
  exact k _ _ ((Ent.cons se.ent').st (Ent.swap.st (SrA.I hs le (by walk_at "sels"))))
theorem ok_SlotRing_open_count (T : Txt P w K mg base a) : FnOk P w K mg base (L2.CX P w) 1 a.f_SlotRing_open_count a.fd_SlotRing_open_count ["self"] (sp_SlotRing_open_count K a) := by
  refine T.F_SlotRing_open_count.okX sc_SlotRing_open_count (fun vs H Q E h => A1.len h) (fun cdv A outer s H vs Q E hr h => ?_)
  have hu := hu_of hr
  obtain ⟨v_self, rfl, h⟩ := h
  refine ⟨_, (pss_one (ps_ret (pe_callB call_ln (by rfl) T.g_len (by decide +kernel) (pa_cons (pe_fld (pv 0) rfl) pa_nil)))), ?_⟩
  obtain ⟨p, n, ab, dt, fs, L, R, rfl, hs, se, k⟩ := h
  obtain ⟨dx, pa, pf, ad, vs, le, hl, nz, hs⟩ := SrA.U hs se
  walk_at "x"
  rw [List.length_map]
  exact k
theorem ok_SlotRing_add (T : Txt P w K mg base a) : FnOk P w K mg base (L2.CX P w) 3 a.f_SlotRing_add a.fd_SlotRing_add ["self", "byte"] (sp_SlotRing_add K a) := by
  have G_Ring_held := ok_Ring_held T
  refine T.F_SlotRing_add.okX sc_SlotRing_add (fun vs H Q E h => A2.len h) (fun cdv A outer s H vs Q E hr h => ?_)
  have hu := hu_of hr
  obtain ⟨v_self, v_byte, rfl, h⟩ := h
  refine ⟨_, (pss_cons (ps_if (pt_cmpR op_eq (pe_meth0S (pe_fld (pv 0) rfl) T.cl_Ring T.m_Ring_held G_Ring_held (hr.mono (by decide)) T.b_Ring_held (fun σ => passAt (takes_of rfl rfl rfl rfl) σ)) pe_int (nomark _)) (pss_one (ps_raiseE rfl T.e_RingError (hr.mono (by decide)) (takes_of rfl rfl rfl rfl) rfl pe_int)) pss_nil)
    (pss_one (ps_expr (pe_bm PySem.F.plainAttrs_list PySem.F.slot_list_append PySem.F.type_list_append mt_append (pe_fld (pv 0) rfl) (pa_cons (pv 1) pa_nil))))), ?_⟩
  obtain ⟨p, n, ab, dt, fs, L, R, rfl, hs, se, z, rfl, hz, k0, k1⟩ := h
  obtain ⟨dx, pa, pf, ad, vs, le, hl, nz, hs⟩ := SrA.U hs se
  walk_at "x"
  refine c_ring_held hs (by walk_at "sel") ?_
  walk_at "x"
  cases ab with
  | nil =>
    refine if_dT rfl ?_
    walk_at "x"
    exact ⟨okV_int ⟨by omega, by omega⟩, k0 rfl⟩
  | cons b r =>
    refine if_dF (by simp; omega) ?_
    walk_at "x"
    exact k1 (by simp) _ (SrA.I (dt := dt ++ [z]) hs le (by walk_at "selm"))
theorem ok_SlotRing_close (T : Txt P w K mg base a) : FnOk P w K mg base (L2.CX P w) 5 a.f_SlotRing_close a.fd_SlotRing_close ["self", "lost"] (sp_SlotRing_close K a) := by
  have G_Ring_take := ok_Ring_take T
  have G_Ring_put := ok_Ring_put T
  refine T.F_SlotRing_close.okX sc_SlotRing_close (fun vs H Q E h => A2.len h) (fun cdv A outer s H vs Q E hr h => ?_)
  have hu := hu_of hr
  obtain ⟨v_self, v_lost, rfl, h⟩ := h
  refine ⟨_, (pss_cons (ps_set (i := 2) sc_SlotRing_close.nd rfl (by first | exact Or.inl rfl | exact Or.inr rfl) (pe_meth0S (pe_fld (pv 0) rfl) T.cl_Ring T.m_Ring_take G_Ring_take (hr.mono (by decide)) T.b_Ring_take (fun σ => passAt (takes_of rfl rfl rfl rfl) σ)))
    (pss_cons (ps_expr (pe_methS (pe_fld (pv 0) rfl) T.cl_Ring T.m_Ring_put G_Ring_put (hr.mono (by decide)) T.b_Ring_put (fun σ => passAt (takes_of rfl rfl rfl rfl) σ) (pa_cons (pe_tup (pa_cons (pv 2) (pa_cons (pe_fld (pv 0) rfl) (pa_cons (pv 1) pa_nil)))) pa_nil)))
    (pss_one (ps_fld (pv 0) (pe_lst pa_nil) rfl)))), ?_⟩
  obtain ⟨p, n, ab, dt, fs, L, R, rfl, hs, se, z, rfl, k0, k1⟩ := h
  obtain ⟨dx, pa, pf, ad, vs, le, hl, nz, hs⟩ := SrA.U hs se
  walk_at "x"
  refine c_ring_take hs (by walk_at "sel") (fun h d hd => k0 (by simpa using h) d hd) fun x ys h H1 hs => ?_
  cases ab with
  | nil => cases h
  | cons b r =>
    obtain ⟨rfl, rfl⟩ := List.cons.inj h
    simp only [List.length_cons] at le
    walk_at "x"
    refine c_ring_put hs (by walk_at "sel") (fun h => by omega) fun _ H2 hs => ?_
    walk_at "x"
    refine k1 b r rfl _ ?_
    have h1 := slotA.I (s := (b, dt, z)) hs (by walk_at "sels")
    have h2 := lA.snocS (Pa := slotA) (x := (b, dt, z)) (xs := fs) h1 (by walk_at "sel") (by walk_at "sel")
    exact SrA.I (fs := fs ++ [(b, dt, z)]) (dt := []) h2 (by simp; omega) (by walk_at "selm")
theorem ok_SlotRing_oldest (T : Txt P w K mg base a) : FnOk P w K mg base (L2.CX P w) 4 a.f_SlotRing_oldest a.fd_SlotRing_oldest ["self"] (sp_SlotRing_oldest K a) := by
  have G_Ring_held := ok_Ring_held T
  have G_copied := ok_copied T
  have G_Ring_first := ok_Ring_first T
  refine T.F_SlotRing_oldest.okX sc_SlotRing_oldest (fun vs H Q E h => A1.len h) (fun cdv A outer s H vs Q E hr h => ?_)
  have hu := hu_of hr
  obtain ⟨v_self, rfl, h⟩ := h
  refine ⟨_, (pss_cons (ps_if (pt_cmpR op_eq (pe_meth0S (pe_fld (pv 0) rfl) T.cl_Ring T.m_Ring_held G_Ring_held (hr.mono (by decide)) T.b_Ring_held (fun σ => passAt (takes_of rfl rfl rfl rfl) σ)) pe_int (nomark _)) (pss_one (ps_ret pe_non)) pss_nil)
    (pss_one (ps_ret (pe_callS G_copied (hr.mono (by decide)) rfl T.g_copied T.F_copied.kp T.b_copied (fun σ => passAt (takes_of rfl rfl rfl rfl) σ) (pa_cons (pe_meth0S (pe_fld (pv 0) rfl) T.cl_Ring T.m_Ring_first G_Ring_first (hr.mono (by decide)) T.b_Ring_first (fun σ => passAt (takes_of rfl rfl rfl rfl) σ)) pa_nil))))), ?_⟩
  obtain ⟨p, n, ab, dt, fs, L, R, rfl, hs, se, k0, k1⟩ := h
  obtain ⟨dx, pa, pf, ad, vs, le, hl, nz, hs⟩ := SrA.U hs se
  walk_at "x"
  refine c_ring_held hs (by walk_at "sel") ?_
  walk_at "x"
  cases fs with
  | nil =>
    rw [List.length_nil] at hl
    rw [hl]
    exact if_dT rfl (by walk_at "x"; exact k0 rfl)
  | cons x r =>
    simp only [List.length_cons] at hl
    refine if_dF (by rw [hl]; simp; omega) ?_
    walk_at "x"
    refine c_ring_first hs (by walk_at "sel") (fun h => by rw [h] at hl; simp at hl) fun y ys h => ?_
    subst h
    obtain ⟨v, ws, e, h1⟩ := lA.unS (Pa := slotA) hs (by walk_at "sel")
    obtain ⟨rfl, rfl⟩ := List.cons.inj e
    walk_at "x"
    refine a1 ⟨x, _, _, h1, .here, fun t H1 hs => ?_⟩
    have h2 := lA.consS (Pa := slotA) (x := x) (xs := r) hs (.there .here) (by walk_at "sel")
    refine k1 x r rfl t _ ((Ent.cons se.ent').st ?_)
    exact Ent.swap.st (SrA.I h2 le (by walk_at "sels"))
theorem ok_SlotRing_reap (T : Txt P w K mg base a) : FnOk P w K mg base (L2.CX P w) 5 a.f_SlotRing_reap a.fd_SlotRing_reap ["self"] (sp_SlotRing_reap K a) := by
  have G_copied := ok_copied T
  have G_Ring_take := ok_Ring_take T
  refine T.F_SlotRing_reap.okX sc_SlotRing_reap (fun vs H Q E h => A1.len h) (fun cdv A outer s H vs Q E hr h => ?_)
  have hu := hu_of hr
  obtain ⟨v_self, rfl, h⟩ := h
  refine ⟨_, (pss_one (ps_ret (pe_callS G_copied (hr.mono (by decide)) rfl T.g_copied T.F_copied.kp T.b_copied (fun σ => passAt (takes_of rfl rfl rfl rfl) σ) (pa_cons (pe_meth0S (pe_fld (pv 0) rfl) T.cl_Ring T.m_Ring_take G_Ring_take (hr.mono (by decide)) T.b_Ring_take (fun σ => passAt (takes_of rfl rfl rfl rfl) σ)) pa_nil)))), ?_⟩
  obtain ⟨p, n, ab, dt, fs, L, R, rfl, hs, se, k0, k1⟩ := h
  obtain ⟨dx, pa, pf, ad, vs, le, hl, nz, hs⟩ := SrA.U hs se
  walk_at "x"
  refine c_ring_take hs (by walk_at "sel") (fun h d hd => k0 (by rw [h] at hl; exact List.eq_nil_of_length_eq_zero hl.symm) d hd) fun y ys h H1 hs => ?_
  subst h
  cases fs with
  | nil => cases hl
  | cons x r =>
    obtain ⟨v, ws, e, h1⟩ := lA.unS (Pa := slotA) hs (by walk_at "sel")
    obtain ⟨rfl, rfl⟩ := List.cons.inj e
    walk_at "x"
    refine a1 ⟨x, _, _, h1, .here, fun t H1 hs => ?_⟩
    simp only [List.length_cons] at le
    refine k1 x r rfl t _ ?_
    have h2 := hs.drop (P := slotA _ x) (.there .here)
    exact Ent.swap.st (SrA.I h2 (by omega) (by walk_at "sels"))
end
end My
set_option Elab.async false
set_option maxRecDepth 100000
set_option maxHeartbeats 100000000
set_option linter.all false
namespace My
open PySem L2 Sx Rd Sl
local macro_rules | `(tactic| walk_at "ne") => `(tactic| (first | with_reducible assumption | with_reducible exact Ne.symm (by with_reducible assumption)))
local macro_rules | `(tactic| walk_at "nin") => `(tactic| (simp only [List.mem_cons, List.not_mem_nil, or_false, not_or, not_false_eq_true]; (repeat' refine And.intro ?_ ?_); (all_goals walk_at "ne")))
local macro_rules | `(tactic| walk_at "hl") => `(tactic| (first | (with_reducible assumption) | exact upd_same | ((with_reducible refine' (upd_ne ?hne).trans ?hgo); (case hne => walk_at "ne"); (case hgo => walk_at "hl"))))
local macro_rules | `(tactic| walk_at "sq") => `(tactic| (first | (with_reducible assumption) | exact Or.inl (Or.inl (by walk_at "hl"))))
local macro_rules | `(tactic| walk_at "ar") => `(tactic| (first | omega | exact ⟨by omega, by omega⟩ | exact Or.inl ⟨by omega, by omega⟩ | exact Or.inr ⟨by omega, by omega⟩ | (show (0 : Int) < _; omega) | (show (0 : Int) < _ ∧ _ < (1073741824 : Int); omega)))
local macro_rules | `(tactic| walk_at "cls") => `(tactic| (first | exact Txt.cl_Receiver (by assumption) | exact Txt.cl_Ring (by assumption) | exact Txt.cl_ReceiveQueue (by assumption) | exact Txt.cl_SlotRing (by assumption)))
local macro_rules | `(tactic| walk_at "noa") => `(tactic| (first | exact Txt.n_Receiver_queue (by assumption) | exact Txt.n_Receiver_ring (by assumption) | exact Txt.n_Receiver_size (by assumption) | exact Txt.n_Receiver_idle (by assumption) | exact Txt.n_Receiver_latest (by assumption) | exact Txt.n_Ring_cells (by assumption) | exact Txt.n_Ring_written (by assumption) | exact Txt.n_Ring_taken (by assumption) | exact Txt.n_ReceiveQueue_capacity (by assumption) | exact Txt.n_ReceiveQueue_items (by assumption) | exact Txt.n_ReceiveQueue_ticks (by assumption) | exact Txt.n_SlotRing_slots (by assumption) | exact Txt.n_SlotRing_armed (by assumption) | exact Txt.n_SlotRing_filled (by assumption) | exact Txt.n_SlotRing_added (by assumption)))
local macro_rules | `(tactic| walk_at "lkp") => `(tactic| (first | (with_reducible exact F_Receiver_queue_l) | (with_reducible exact F_Receiver_ring_l) | (with_reducible exact F_Receiver_size_l) | (with_reducible exact F_Receiver_idle_l) | (with_reducible exact F_Receiver_latest_l) | (with_reducible exact F_Ring_cells_l) | (with_reducible exact F_Ring_written_l) | (with_reducible exact F_Ring_taken_l) | (with_reducible exact F_ReceiveQueue_capacity_l) | (with_reducible exact F_ReceiveQueue_items_l) | (with_reducible exact F_ReceiveQueue_ticks_l) | (with_reducible exact F_SlotRing_slots_l) | (with_reducible exact F_SlotRing_armed_l) | (with_reducible exact F_SlotRing_filled_l) | (with_reducible exact F_SlotRing_added_l)))
local macro_rules | `(tactic| walk_at "ptf") => `(tactic| (first | (with_reducible exact F_Receiver_queue_p) | (with_reducible exact F_Receiver_ring_p) | (with_reducible exact F_Receiver_size_p) | (with_reducible exact F_Receiver_idle_p) | (with_reducible exact F_Receiver_latest_p) | (with_reducible exact F_Ring_cells_p) | (with_reducible exact F_Ring_written_p) | (with_reducible exact F_Ring_taken_p) | (with_reducible exact F_ReceiveQueue_capacity_p) | (with_reducible exact F_ReceiveQueue_items_p) | (with_reducible exact F_ReceiveQueue_ticks_p) | (with_reducible exact F_SlotRing_slots_p) | (with_reducible exact F_SlotRing_armed_p) | (with_reducible exact F_SlotRing_filled_p) | (with_reducible exact F_SlotRing_added_p) | exact rfl))
local macro_rules | `(tactic| walk_at "lnF") => `(tactic| (first | (with_reducible exact F_Receiver_len) | (with_reducible exact F_Ring_len) | (with_reducible exact F_ReceiveQueue_len) | (with_reducible exact F_SlotRing_len) | (refine PL.lt (n := 60) ?_ (by decide); (repeat refine PL.put ?_); exact PL.nil) | decide))
local macro_rules | `(tactic| walk_at "nol") => `(tactic| (first | (with_reducible exact F_Receiver_m_can_step) | (with_reducible exact F_Receiver_m_step) | (with_reducible exact F_Receiver_m_close_idle) | (with_reducible exact F_Receiver_m_add) | (with_reducible exact F_Ring_m_held) | (with_reducible exact F_Ring_m_is_full) | (with_reducible exact F_Ring_m_put) | (with_reducible exact F_Ring_m_first) | (with_reducible exact F_Ring_m_take) | (with_reducible exact F_Ring_m_listed) | (with_reducible exact F_Ring_m_next) | (with_reducible exact F_ReceiveQueue_m_arrive) | (with_reducible exact F_ReceiveQueue_m_first) | (with_reducible exact F_ReceiveQueue_m_take) | (with_reducible exact F_ReceiveQueue_m_oldest_tick) | (with_reducible exact F_ReceiveQueue_m_bytes_held) | (with_reducible exact F_ReceiveQueue_m_contents) | (with_reducible exact F_ReceiveQueue_m_append) | (with_reducible exact F_ReceiveQueue_m_lose) | (with_reducible exact F_SlotRing_m_can_arm) | (with_reducible exact F_SlotRing_m_arm) | (with_reducible exact F_SlotRing_m_open_slot) | (with_reducible exact F_SlotRing_m_open_bytes) | (with_reducible exact F_SlotRing_m_open_count) | (with_reducible exact F_SlotRing_m_add) | (with_reducible exact F_SlotRing_m_close) | (with_reducible exact F_SlotRing_m_oldest) | (with_reducible exact F_SlotRing_m_reap) | (with_reducible exact F_SlotRing_m_filled_slots) | (with_reducible exact F_SlotRing_m_buffers)))
local macro_rules | `(tactic| walk_at "r1") => `(tactic| (first
  | with_reducible apply l_cons | ((with_reducible apply e_var); (case h => exact rfl)) | with_reducible apply l_nil | with_reducible apply s_seq | with_reducible apply e_c | with_reducible apply g_name
  | with_reducible apply s_asg | with_reducible apply e_call | with_reducible apply k_t | with_reducible apply e_op | with_reducible apply e_cb | with_reducible apply t_test
  | with_reducible apply s_if | with_reducible apply t_or | with_reducible apply t_and | with_reducible apply t_B | with_reducible apply s_next | with_reducible apply p_some
  | with_reducible apply p_no | with_reducible apply e_sl | with_reducible apply k_i | with_reducible apply e_lst | with_reducible apply t_not | with_reducible apply o_I0
  | ((with_reducible refine' o_I ?hc ?_); (case hc => walk_at "ar")) | with_reducible apply e_meth | ((with_reducible refine' k_meth ?h1 ?h2 ?_); (case h1 => walk_at "hl"); (case h2 => walk_at "nol")) | with_reducible apply e_fld | ((with_reducible refine' k_fld ?h1 ?h2 ?h3 ?h4 ?_); (case h1 => walk_at "hl"); (case h2 => walk_at "cls"); (case h3 => walk_at "noa"); (case h4 => walk_at "lkp")) | with_reducible apply e_not
  | with_reducible apply s_ret | ((with_reducible refine' k_ty ?h1 ?_); (case h1 => walk_at "sq")) | with_reducible apply s_drop | with_reducible apply s_retN | with_reducible apply s_cont | with_reducible apply s_break
  | with_reducible apply o_chC | ((with_reducible refine' o_chV ?hv ?_); (case hv => exact rfl)) | with_reducible apply e_un | with_reducible apply o_U | ((with_reducible refine' o_eq ?hs ?_); (case hs => exact rfl)) | ((with_reducible refine' o_ne ?hs ?_); (case hs => exact rfl))
  | ((with_reducible refine' o_ixL ?h1 ?h2 ?_); (case h1 => walk_at "sq"); (case h2 => first | exact rfl | exact atI_zero _ _)) | with_reducible apply s_fld | with_reducible apply e_make | ((with_reducible refine' k_set ?h1 ?h2 ?h3 ?h4 ?h5 ?_); (case h1 => walk_at "hl"); (case h2 => walk_at "cls"); (case h3 => walk_at "noa"); (case h4 => walk_at "ptf"); (case h5 => walk_at "lnF")) | with_reducible apply e_tup | with_reducible apply e_bm
  | with_reducible apply e_bm0 | with_reducible apply e_if | with_reducible apply e_chain | with_reducible apply s_raise | with_reducible apply g_sub | ((with_reducible refine' c_ln ?h1 ?_); (case h1 => walk_at "sq"))
  | ((with_reducible refine' c_pop0 ?h1 ?h2 ?_); (case h1 => walk_at "hl"); (case h2 => omega)) | with_reducible apply c_isBool | with_reducible apply c_isInt | with_reducible apply c_isBoolN | with_reducible apply c_isTupI | with_reducible apply c_isNonB
  | with_reducible apply c_isNonT | ((with_reducible refine' c_isList ?h1 ?_); (case h1 => walk_at "hl")) | ((with_reducible refine' c_isTup ?h1 ?_); (case h1 => walk_at "hl")) | ((with_reducible refine' c_isTupB ?h1 ?_); (case h1 => walk_at "hl")) | with_reducible apply o_isB | with_reducible apply o_notB
  | with_reducible apply e_and | with_reducible apply e_or | with_reducible apply k_bl | with_reducible apply e_xf | with_reducible apply s_augS | ((with_reducible refine' s_augV ?hv ?_); (case hv => exact rfl))
  | with_reducible apply ip_I | with_reducible apply e_lcE | ((with_reducible refine' k_xf ?h1 ?h2 ?_); (case h1 => walk_at "hl"); (case h2 => exact look_hit _ _ _)) | ((with_reducible refine' o_slL ?h1 ?_); (case h1 => walk_at "sq")) | ((with_reducible refine' k_dget ?h1 ?h2 ?_); (case h1 => walk_at "hl"); (case h2 => with_reducible assumption)) | with_reducible apply e_dget
  | with_reducible apply s_dput | with_reducible apply e_makeK | with_reducible apply g_cons | with_reducible apply g_nil | with_reducible apply c_ab | with_reducible apply c_in
  | with_reducible apply c_mx | with_reducible apply c_mn | with_reducible apply a1 | with_reducible apply a2 | with_reducible apply a3 | with_reducible apply a4
  | with_reducible apply a5 | with_reducible apply a6 | with_reducible apply a0 | with_reducible apply t_tru | with_reducible apply t_yes | ((with_reducible refine' k_truL ?h1 ?_); (case h1 => walk_at "sq")) | with_reducible refine d_nx ?_ | with_reducible refine d_rt ?_ | with_reducible refine d_bk ?_
  | with_reducible refine d_ct ?_))
local macro_rules | `(tactic| walk_at "r") => `(tactic| (repeat walk_at "r1"))
local macro_rules | `(tactic| walk_at "sel") => `(tactic| (first | with_reducible exact Sl.Sel.here | ((with_reducible refine' Sl.Sel.there ?t); (case t => walk_at "sel"))))
local macro_rules | `(tactic| walk_at "sels") => `(tactic| (first | with_reducible exact Sl.Sels.nil | ((with_reducible refine' Sl.Sels.cons ?a ?b); (case a => walk_at "sel"); (case b => walk_at "sels")) | with_reducible exact Sl.Sels.all _ | ((with_reducible refine' Sl.Sels.skip ?t); (case t => walk_at "sels"))))
local macro_rules | `(tactic| walk_at "selm") => `(tactic| ((try (simp only [])); (try simp only [List.map_append, List.map_cons, List.map_nil]); walk_at "sels"))
local macro_rules | `(tactic| walk_at "hg") => do
  let h := Lean.mkIdent `hs
  `(tactic| (first | (with_reducible assumption) | ((with_reducible refine' Sl.St.get $h ?s); (case s => walk_at "sel")) | ((with_reducible refine' Sl.St.geti $h ?s); (case s => walk_at "sel"))))
local macro_rules | `(tactic| walk_at "sg") => do
  let h := Lean.mkIdent `hs
  `(tactic| (first | (with_reducible assumption) | exact Or.inl (Or.inl (by walk_at "hg")) | (refine' Sl.sqA.U $h ?s; (case s => walk_at "sel"))))
local macro_rules | `(tactic| walk_at "le5") => `(tactic| (first | omega | (simp only [List.length_cons, List.length_nil, List.length_append, List.length_map]; omega) | (show _ ≤ _; decide) | (show _ < _; decide)))
local macro_rules | `(tactic| walk_at "km") => `(tactic| fail)
local macro_rules | `(tactic| walk_at "kf") => `(tactic| fail)
local macro_rules | `(tactic| walk_at "x1") => do
  let h := Lean.mkIdent `hs
  `(tactic| (first
  | with_reducible apply l_cons | ((with_reducible apply e_var); (case h => exact rfl)) | with_reducible apply l_nil | with_reducible apply s_seq | with_reducible apply e_c | with_reducible apply g_name
  | with_reducible apply s_asg | with_reducible apply e_call | with_reducible apply k_t | with_reducible apply e_op | with_reducible apply e_cb | with_reducible apply t_test
  | with_reducible apply s_if | with_reducible apply t_or | with_reducible apply t_and | with_reducible apply t_B | with_reducible apply s_next | with_reducible apply p_some
  | with_reducible apply p_no | with_reducible apply e_sl | with_reducible apply k_i | with_reducible apply Sl.e_lstS | with_reducible apply t_not | with_reducible apply o_I0
  | ((with_reducible refine' o_I ?hc ?_); (case hc => walk_at "ar")) | with_reducible apply e_meth | ((with_reducible refine' k_meth ?h1 ?h2 ?_); (case h1 => walk_at "hg"); (case h2 => walk_at "nol")) | walk_at "km" | with_reducible apply e_fld
  | ((with_reducible refine' k_fld ?h1 ?h2 ?h3 ?h4 ?_); (case h1 => walk_at "hg"); (case h2 => walk_at "cls"); (case h3 => walk_at "noa"); (case h4 => walk_at "lkp")) | walk_at "kf" | with_reducible apply e_not
  | with_reducible apply s_ret | ((with_reducible refine' k_ty ?h1 ?_); (case h1 => walk_at "sg")) | with_reducible apply s_drop | with_reducible apply s_retN | with_reducible apply s_cont | with_reducible apply s_break
  | with_reducible apply o_chC | ((with_reducible refine' o_chV ?hv ?_); (case hv => exact rfl)) | with_reducible apply e_un | with_reducible apply o_U | ((with_reducible refine' o_eq ?hs ?_); (case hs => exact rfl)) | ((with_reducible refine' o_ne ?hs ?_); (case hs => exact rfl))
  | ((with_reducible refine' o_ixL ?h1 ?h2 ?_); (case h1 => walk_at "sg"); (case h2 => first | exact rfl | exact atI_zero _ _)) | ((with_reducible refine' o_ixT ?h1 ?h2 ?_); (case h1 => walk_at "sg"); (case h2 => first | exact rfl | exact atI_zero _ _)) | with_reducible apply s_fld | with_reducible apply Sl.e_makeS
  | ((with_reducible refine' Sl.k_setS $h ?h1 ?h2 ?h3 ?h4 ?h5 ?_); (case h1 => walk_at "sel"); (case h2 => walk_at "cls"); (case h3 => walk_at "noa"); (case h4 => walk_at "ptf"); (case h5 => walk_at "lnF"); (clear $h; intro _ $h)) | with_reducible apply Sl.e_tupS | with_reducible apply e_bm
  | with_reducible apply e_bm0 | with_reducible apply e_if | with_reducible apply e_chain | with_reducible apply s_raise | with_reducible apply g_sub | ((with_reducible refine' c_ln ?h1 ?_); (case h1 => walk_at "sg")) | ((with_reducible refine' c_lnT ?h1 ?_); (case h1 => walk_at "sg"))
  | ((with_reducible refine' Sl.k_newL $h ?h1 ?_); (case h1 => walk_at "le5"); (clear $h; intro _ _ $h)) | ((with_reducible refine' Sl.k_newT $h ?h1 ?_); (case h1 => walk_at "le5"); (clear $h; intro _ _ $h)) | ((with_reducible refine' Sl.k_make $h ?_); (clear $h; intro _ _ _ $h))
  | ((with_reducible refine' Sl.c_appS $h ?h1 ?h2 ?_); (case h1 => walk_at "sel"); (case h2 => walk_at "le5"); (clear $h; intro _ $h)) | ((with_reducible refine' Sl.c_pop0S $h ?h1 ?h2 ?_); (case h1 => walk_at "sel"); (case h2 => walk_at "le5"); (clear $h; intro _ $h))
  | ((with_reducible refine' Sl.c_lsS $h ?h1 ?_); (case h1 => walk_at "sg"); (clear $h; intro _ _ $h)) | ((with_reducible refine' Sl.o_slLS $h ?h1 ?_); (case h1 => walk_at "sg"); (clear $h; intro _ _ $h)) | ((with_reducible refine' Sl.c_clrS $h ?h1 ?_); (case h1 => walk_at "sel"); (clear $h; intro _ $h))
  | ((with_reducible refine' Sl.o_catS $h ?h1 ?h2 ?h3 ?_); (case h1 => walk_at "hg"); (case h2 => walk_at "hg"); (case h3 => walk_at "le5"); (clear $h; intro _ _ $h)) | ((with_reducible refine' Sl.c_extS $h ?h1 ?h2 ?h3 ?_); (case h1 => walk_at "sel"); (case h2 => walk_at "hg"); (case h3 => walk_at "le5"); (clear $h; intro _ $h))
  | ((with_reducible refine' Sl.k_raise $h ?h1 ?_); (case h1 => exact okV_int ⟨by omega, by omega⟩); (clear $h; intro _ _ $h))
  | with_reducible apply c_isBool | with_reducible apply c_isInt | with_reducible apply c_isBoolN | with_reducible apply c_isTupI | with_reducible apply c_isNonB
  | with_reducible apply c_isNonT | ((with_reducible refine' c_isList ?h1 ?_); (case h1 => walk_at "hg")) | ((with_reducible refine' c_isTup ?h1 ?_); (case h1 => walk_at "hg")) | ((with_reducible refine' c_isTupB ?h1 ?_); (case h1 => walk_at "hg")) | with_reducible apply o_isB | with_reducible apply o_notB
  | with_reducible apply e_and | with_reducible apply e_or | with_reducible apply k_bl | with_reducible apply e_xf | with_reducible apply s_augS | ((with_reducible refine' s_augV ?hv ?_); (case hv => exact rfl)) | with_reducible apply Sl.s_aug
  | with_reducible apply ip_I | with_reducible apply e_lcE | with_reducible apply e_lcL | with_reducible apply f_lst | with_reducible apply e_lcF | with_reducible apply f_rng1 | ((with_reducible refine' k_xf ?h1 ?h2 ?_); (case h1 => walk_at "hg"); (case h2 => exact look_hit _ _ _)) | ((with_reducible refine' k_dget ?h1 ?h2 ?_); (case h1 => walk_at "hg"); (case h2 => with_reducible assumption)) | with_reducible apply e_dget
  | with_reducible apply s_dput | with_reducible apply Sl.e_makeKS | with_reducible apply g_cons | with_reducible apply g_nil | ((with_reducible refine' g_tup ?h1 ?h2 ?_); (case h1 => walk_at "sg"); (case h2 => exact rfl)) | with_reducible apply c_ab | with_reducible apply c_in
  | with_reducible apply c_mx | with_reducible apply c_mn | with_reducible apply a1 | with_reducible apply a2 | with_reducible apply a3 | with_reducible apply a4
  | with_reducible apply a5 | with_reducible apply a6 | with_reducible apply a0 | with_reducible apply t_tru | with_reducible apply t_yes | ((with_reducible refine' k_truL ?h1 ?_); (case h1 => walk_at "sg")) | with_reducible refine d_nx ?_ | with_reducible refine d_rt ?_ | with_reducible refine d_bk ?_
  | with_reducible refine d_ct ?_))
local macro_rules | `(tactic| walk_at "x") => `(tactic| (repeat walk_at "x1"))
local macro_rules | `(tactic| walk_at "km") => do let h := Lean.mkIdent `hs; `(tactic| ((with_reducible refine' km_Ring $h ?s ?m ?_); (case s => walk_at "sel"); (case m => intros; walk_at "nol")))
local macro_rules | `(tactic| walk_at "km") => do let h := Lean.mkIdent `hs; `(tactic| ((with_reducible refine' km_SlotRing $h ?s ?m ?_); (case s => walk_at "sel"); (case m => intros; walk_at "nol")))
section
variable {P : Program} {w : World} {K : PySem.W.Frag} {mg : Str → Option Value} {base : Heap} {a : Ads}
def sp_SlotRing_filled_slots (K : PySem.W.Frag) (a : Ads) : Sp := A1 fun s H Q E => SrSp a s H fun p n ab dt fs L R => ∀ q vs H', Sl.St (cell q (.lst vs) :: lA slotA vs fs :: L) H' → Q (.ref q) H'
theorem ok_SlotRing_filled_slots (T : Txt P w K mg base a) : FnOk P w K mg base (L2.CX P w) 3 a.f_SlotRing_filled_slots a.fd_SlotRing_filled_slots ["self"] (sp_SlotRing_filled_slots K a) := by
  have G_Ring_listed := ok_Ring_listed T
  have G_copied := ok_copied T
  refine T.F_SlotRing_filled_slots.okX sc_SlotRing_filled_slots (fun vs H Q E h => A1.len h) (fun cdv A outer s H vs Q E hr h => ?_)
  have hu := hu_of hr
  obtain ⟨v_self, rfl, h⟩ := h
  refine ⟨_, (pss_one (ps_ret (pe_lc (own := [("slot", 1)]) (g := (gName 1)) (tt := tYes) (te := (tCallS (sp_copied K a) (WE (fun _ _ _ _ => False)) (tCons (tVar 1) tNil))) rfl sc_SlotRing_filled_slots.nd (pi_list (pe_meth0S (pe_fld (pv 0) rfl) T.cl_Ring T.m_Ring_listed G_Ring_listed (hr.mono (by decide)) T.b_Ring_listed (fun σ => passAt (takes_of rfl rfl rfl rfl) σ))) (blkOk_by (N := ["self", "slot"]) (sc := defScope s_SlotRing_filled_slots) (own := [("slot", 1)]) (by decide +kernel)) (fun _ _ _ _ _ => by exact (pg_name (i := 1) sc_SlotRing_filled_slots.nd rfl (by first | exact Or.inl rfl | exact Or.inr rfl))) (fun _ _ _ _ _ => by exact pts_nil) (fun _ _ _ _ _ => by exact (pe_callS G_copied (hr.mono (by decide)) rfl T.g_copied T.F_copied.kp T.b_copied (fun σ => passNo) (pa_cons (pv 1) pa_nil)))))), ?_⟩
  obtain ⟨p, n, ab, dt, fs, L, R, rfl, hs, se, k⟩ := h
  obtain ⟨dx, pa, pf, ad, vs, le, hl, nz, hs⟩ := SrA.U hs se
  walk_at "x"
  refine c_ring_listed hs (by walk_at "sel") fun b H1 hs => ?_
  walk_at "x"
  refine k_lcLX (fun i acc => lA slotA acc (fs.take i)) hs (by walk_at "sg") (by omega) lA.nilI (fun i E acc H' hs => by walk_at "sg") (fun E i x acc H' hx ha hs R0 N y _ => ?_) fun E acc H' ha hs => ?_
  · have hi : i < fs.length := by rw [← hl]; exact (List.getElem?_eq_some_iff.mp hx).1
    obtain ⟨v, hv, hs⟩ := lA.outS (Pa := slotA) (xs := fs) hs (by walk_at "sel") (List.getElem?_eq_getElem hi)
    cases hv.symm.trans hx
    walk_at "x"
    refine ⟨rfl, lc_yes ?_⟩
    walk_at "x"
    refine a1 ⟨fs[i], _, _, hs, .here, fun t H2 hs => ?_⟩
    have hs := lA.backE (Pa := slotA) hs (.there .here) (by walk_at "sel") (List.getElem?_eq_getElem hi) hv
    have hs := lA.snocS (Pa := slotA) (x := fs[i]) (xs := fs.take i) hs (by walk_at "sel") (by walk_at "sel")
    rw [← take_snoc (List.getElem?_eq_getElem hi)] at hs
    exact y _ _ trivial (hs.perm (by walk_at "selm"))
  · rw [hl, List.take_length] at hs
    have hs := SrA.I hs le (by walk_at "sels")
    exact k _ _ _ ((Ent.cons (Ent.cons se.ent')).st (hs.perm (by walk_at "sels")))
def sp_SlotRing_buffers (K : PySem.W.Frag) (a : Ads) : Sp := A1 fun s H Q E => SrSp a s H fun p n ab dt fs L R => ∀ q H', Sl.St (cell q (.lst ((fs.map (·.1) ++ ab).map V.int)) :: L) H' → Q (.ref q) H'
/-! ### items: bytes and marks -/
inductive It where
  | b (z : Int)
  | m (n : Int)
def isB : It → Bool
  | .b _ => true
  | .m _ => false
def ItV (H : Hp) (v : V) : It → Prop
  | .b z => v = .int z
  | .m n => ∃ t, v = .ref t ∧ H t = some (.tup [.str "lost", .int n])
/-- no tuple stands there -/
def NoT (H : Hp) (fp : List Addr) : Prop := ∀ a ∈ fp, ∀ xs, H a ≠ some (.tup xs)
theorem NoT.nil {H : Hp} : NoT H [] := fun _ h => by cases h
theorem NoT.cons {H : Hp} {a : Addr} {fp : List Addr} {xs : List V} (h : H a = some (.lst xs)) (n : NoT H fp) : NoT H (a :: fp) := fun y hy zs e => by
  rcases List.mem_cons.mp hy with rfl | hy
  · rw [h] at e; cases e
  · exact n y hy zs e
theorem NoT.free {H : Hp} {a : Addr} {fp : List Addr} (h : H a = none) (n : NoT H fp) : NoT H (a :: fp) := fun y hy zs e => by
  rcases List.mem_cons.mp hy with rfl | hy
  · rw [h] at e; cases e
  · exact n y hy zs e
theorem NoT.ins {H : Hp} {a C d : Addr} {fp : List Addr} {fs : List (Str × V)} (h : H a = some (.ins C d fs)) (n : NoT H fp) : NoT H (a :: fp) := fun y hy zs e => by
  rcases List.mem_cons.mp hy with rfl | hy
  · rw [h] at e; cases e
  · exact n y hy zs e
theorem NoT.app {H : Hp} {fp fq : List Addr} (n : NoT H fp) (m : NoT H fq) : NoT H (fp ++ fq) := fun y hy => (List.mem_append.mp hy).elim (n y) (m y)
theorem ItV.fp {H H1 : Hp} {fp : List Addr} {v : V} {x : It} (h : ItV H v x) (f : Fp fp H H1) (n : NoT H fp) : ItV H1 v x := by
  cases x with
  | b z => exact h
  | m k =>
    obtain ⟨t, e, g⟩ := h
    exact ⟨t, e, f _ _ g fun z => n t z _ g⟩
/-- a row of items -/
def Its (H : Hp) (vs : List V) (xs : List It) : Prop := vs.length = xs.length ∧ ∀ (i : Nat) (v : V) (x : It), vs[i]? = some v → xs[i]? = some x → ItV H v x
theorem Its.nil {H : Hp} : Its H [] [] := ⟨rfl, fun i v x h => by simp at h⟩
theorem Its.fp {H H1 : Hp} {fp : List Addr} {vs : List V} {xs : List It} (h : Its H vs xs) (f : Fp fp H H1) (n : NoT H fp) : Its H1 vs xs := ⟨h.1, fun i v x hv hx => (h.2 i v x hv hx).fp f n⟩
theorem Its.app {H : Hp} {vs : List V} {xs : List It} {v : V} {x : It} (h : Its H vs xs) (hx : ItV H v x) : Its H (vs ++ [v]) (xs ++ [x]) := by
  refine ⟨by rw [List.length_append, List.length_append, h.1]; rfl, fun i w y hw hy => ?_⟩
  by_cases c : i < vs.length
  · rw [List.getElem?_append_left c] at hw
    rw [List.getElem?_append_left (by rw [← h.1]; exact c)] at hy
    exact h.2 i w y hw hy
  · have e : i = vs.length := by
      have := (List.getElem?_eq_some_iff.mp hw).1
      rw [List.length_append, List.length_singleton] at this
      omega
    subst e
    rw [List.getElem?_concat_length] at hw
    rw [h.1, List.getElem?_concat_length] at hy
    rw [← Option.some.inj hw, ← Option.some.inj hy]
    exact hx
theorem Its.snoc {H : Hp} {vs : List V} {xs : List It} {x : It} (h : Its H vs (xs ++ [x])) : ∃ ws v, vs = ws ++ [v] ∧ Its H ws xs ∧ ItV H v x := by
  have hl := h.1
  rw [List.length_append, List.length_singleton] at hl
  have hne : vs ≠ [] := fun e => by rw [e] at hl; simp at hl
  obtain ⟨ws, v, rfl⟩ : ∃ ws v, vs = ws ++ [v] := ⟨vs.dropLast, vs.getLast hne, (List.dropLast_concat_getLast hne).symm⟩
  rw [List.length_append, List.length_singleton] at hl
  have hl2 : ws.length = xs.length := by omega
  refine ⟨ws, v, rfl, ⟨hl2, fun i w y hw hy => ?_⟩, ?_⟩
  · have hi := (List.getElem?_eq_some_iff.mp hw).1
    exact h.2 i w y (by rw [List.getElem?_append_left hi]; exact hw) (by rw [List.getElem?_append_left (by omega)]; exact hy)
  · exact h.2 ws.length v x (by rw [List.getElem?_concat_length]) (by rw [hl2, List.getElem?_concat_length])
theorem Its.cons {H : Hp} {vs : List V} {xs : List It} {x : It} (h : Its H vs (x :: xs)) : ∃ v ws, vs = v :: ws ∧ Its H ws xs ∧ ItV H v x := by
  cases vs with
  | nil => cases h.1
  | cons v ws => exact ⟨v, ws, rfl, ⟨by simpa using h.1, fun i w y hw hy => h.2 (i + 1) w y hw hy⟩, h.2 0 v x rfl rfl⟩
/-- the number of the bytes among them -/
def bys (xs : List It) : Nat := ((List.range xs.length).filter fun i => (xs[i]?).elim false isB).length
def byF (vs : List V) (xs : List It) (i : Nat) : Option V := if (xs[i]?).elim false isB = true then vs[i]? else none
theorem byF_len {vs : List V} {xs : List It} (h : vs.length = xs.length) : ((List.range vs.length).filterMap (byF vs xs)).length = bys xs := by
  unfold bys
  rw [h]
  refine fm_len fun i hi => ?_
  have hi2 : i < vs.length := by rw [h]; exact List.mem_range.mp hi
  unfold byF
  cases (xs[i]?).elim false isB with
  | true => rw [if_pos rfl, List.getElem?_eq_getElem hi2]; rfl
  | false => rfl
def sp_lost_mark (K : PySem.W.Frag) (a : Ads) : Sp := A1 fun v H Q _ => ∃ n : Int, v = .int n ∧ ∀ t H1, H t = none → H1 t = some (.tup [.str "lost", .int n]) → Fp [] H H1 → Q (.ref t) H1
def sp_is_mark (K : PySem.W.Frag) (a : Ads) : Sp := A1 fun v H Q _ => ∃ x : It, ItV H v x ∧ Q (.bl (!isB x)) H
def sp_lost_by (K : PySem.W.Frag) (a : Ads) : Sp := A1 fun v H Q _ => ∃ n : Int, ItV H v (.m n) ∧ Q (.int n) H
def sp_joined (K : PySem.W.Frag) (a : Ads) : Sp := A2 fun v u H Q _ => ∃ n k : Int, ItV H v (.m n) ∧ ItV H u (.m k) ∧ ∀ t H1, H t = none → H1 t = some (.tup [.str "lost", .int (n + k)]) → Fp [] H H1 → Q (.ref t) H1
def sp_bytes_among (K : PySem.W.Frag) (a : Ads) : Sp := A1 fun v H Q _ => ∃ (p : Addr) (vs : List V) (xs : List It), v = .ref p ∧ H p = some (.lst vs) ∧ Its H vs xs ∧ xs.length < 100000 ∧ ∀ H1, Fp [] H H1 → Q (.int (bys xs)) H1
theorem ok_lost_mark (T : Txt P w K mg base a) : FnOk P w K mg base (L2.CX P w) 1 a.f_lost_mark a.fd_lost_mark ["many"] (sp_lost_mark K a) := by
  refine T.F_lost_mark.okX sc_lost_mark (fun vs H Q E h => A1.len h) (fun cdv A outer s H vs Q E hr h => ?_)
  have hu := hu_of hr
  obtain ⟨v_many, rfl, h⟩ := h
  refine ⟨_, (pss_one (ps_ret (pe_tup (pa_cons pe_str (pa_cons (pv 0) pa_nil))))), ?_⟩
  obtain ⟨n, rfl, k⟩ := h
  walk_at "r"
  refine ⟨sz (by simp), fun t ht => ?_⟩
  walk_at "r"
  exact k t _ ht upd_same (Fp.new ht)
theorem ok_is_mark (T : Txt P w K mg base a) : FnOk P w K mg base (L2.CX P w) 1 a.f_is_mark a.fd_is_mark ["item"] (sp_is_mark K a) := by
  refine T.F_is_mark.okX sc_is_mark (fun vs H Q E h => A1.len h) (fun cdv A outer s H vs Q E hr h => ?_)
  have hu := hu_of hr
  obtain ⟨v_item, rfl, h⟩ := h
  refine ⟨_, (pss_one (ps_ret (pe_callB call_isi (by rfl) T.g_isinstance (by decide +kernel) (pa_cons (pv 0) (pa_cons (pe_bltn (v := .ty "tuple") rfl T.g_tuple (by decide +kernel) rfl) pa_nil))))), ?_⟩
  obtain ⟨x, hx, k⟩ := h
  walk_at "r"
  cases x with
  | b z =>
    obtain rfl : v_item = .int z := hx
    walk_at "r"
    exact k
  | m n =>
    obtain ⟨t, rfl, g⟩ := hx
    walk_at "r"
    exact k
theorem ok_lost_by (T : Txt P w K mg base a) : FnOk P w K mg base (L2.CX P w) 1 a.f_lost_by a.fd_lost_by ["mark"] (sp_lost_by K a) := by
  refine T.F_lost_by.okX sc_lost_by (fun vs H Q E h => A1.len h) (fun cdv A outer s H vs Q E hr h => ?_)
  have hu := hu_of hr
  obtain ⟨v_mark, rfl, h⟩ := h
  refine ⟨_, (pss_one (ps_ret (pe_ix ix_tup (pv 0) pe_int (fun _ _ => rfl)))), ?_⟩
  obtain ⟨n, ⟨t, rfl, g⟩, k⟩ := h
  walk_at "r"
  refine o_ixT (Or.inl (Or.inl g)) (show atI [V.str "lost", V.int n] ((1 : Nat) : Int) = some (.int n) from atI_nat rfl) ?_
  walk_at "r"
  exact k
theorem ok_joined (T : Txt P w K mg base a) : FnOk P w K mg base (L2.CX P w) 2 a.f_joined a.fd_joined ["mark", "other"] (sp_joined K a) := by
  have G_lost_mark := ok_lost_mark T
  have G_lost_by := ok_lost_by T
  refine T.F_joined.okX sc_joined (fun vs H Q E h => A2.len h) (fun cdv A outer s H vs Q E hr h => ?_)
  have hu := hu_of hr
  obtain ⟨v_mark, v_other, rfl, h⟩ := h
  refine ⟨_, (pss_one (ps_ret (pe_callS G_lost_mark (hr.mono (by decide)) rfl T.g_lost_mark T.F_lost_mark.kp T.b_lost_mark (fun σ => passAt (takes_of rfl rfl rfl rfl) σ) (pa_cons (pe_op op_add (pe_callS G_lost_by (hr.mono (by decide)) rfl T.g_lost_by T.F_lost_by.kp T.b_lost_by (fun σ => passAt (takes_of rfl rfl rfl rfl) σ) (pa_cons (pv 0) pa_nil)) (pe_callS G_lost_by (hr.mono (by decide)) rfl T.g_lost_by T.F_lost_by.kp T.b_lost_by (fun σ => passAt (takes_of rfl rfl rfl rfl) σ) (pa_cons (pv 1) pa_nil))) pa_nil)))), ?_⟩
  obtain ⟨n, k2, h1, h2, k⟩ := h
  walk_at "r"
  refine a1 ⟨n, h1, ?_⟩
  walk_at "r"
  refine a1 ⟨k2, h2, ?_⟩
  walk_at "r"
  exact a1 ⟨n + k2, rfl, fun t H1 ht g f => k t H1 ht g f⟩
theorem ok_bytes_among (T : Txt P w K mg base a) : FnOk P w K mg base (L2.CX P w) 2 a.f_bytes_among a.fd_bytes_among ["items"] (sp_bytes_among K a) := by
  have G_is_mark := ok_is_mark T
  refine T.F_bytes_among.okX sc_bytes_among (fun vs H Q E h => A1.len h) (fun cdv A outer s H vs Q E hr h => ?_)
  have hu := hu_of hr
  obtain ⟨v_items, rfl, h⟩ := h
  refine ⟨_, (pss_one (ps_ret (pe_callB call_ln (by rfl) T.g_len (by decide +kernel) (pa_cons (pe_lc (own := [("item", 1)]) (g := (gName 1)) (tt := (tNot (tB (tCallS (sp_is_mark K a) (WE (fun _ _ _ _ => False)) (tCons (tVar 1) tNil))))) (te := (tVar 1)) rfl sc_bytes_among.nd (pi_list (pv 0)) (blkOk_by (N := ["items", "item"]) (sc := defScope s_bytes_among) (own := [("item", 1)]) (by decide +kernel)) (fun _ _ _ _ _ => by exact (pg_name (i := 1) sc_bytes_among.nd rfl (by first | exact Or.inl rfl | exact Or.inr rfl))) (fun _ _ _ _ _ => by exact (pts_one (pt_not (pt_val (pe_callS G_is_mark (hr.mono (by decide)) rfl T.g_is_mark T.F_is_mark.kp T.b_is_mark (fun σ => passNo) (pa_cons (pv 1) pa_nil)))))) (fun _ _ _ _ _ => by exact (pv 1))) pa_nil)))), ?_⟩
  obtain ⟨p, vs, xs, rfl, hp, hi, hl, k⟩ := h
  have hlen := hi.1
  walk_at "r"
  refine lc_filtN (xs := vs) (byF vs xs) rfl (Or.inl (Or.inl hp)) (by omega) (fun E2 i x H' R N hE hx hacc F kR kN => ?_) fun E2 H2 hE hacc F => ?_
  · have hi2 : i < vs.length := (List.getElem?_eq_some_iff.mp hx).1
    have ex : xs[i]? = some xs[i] := List.getElem?_eq_getElem (by omega)
    have hv := (hi.2 i x _ hx ex).fp F NoT.nil
    refine ⟨rfl, ?_⟩
    walk_at "r"
    refine a1 ⟨_, hv, ?_⟩
    walk_at "r"
    cases hb : isB xs[i] with
    | true =>
      refine iteT ?_
      walk_at "r"
      exact kR _ _ (by unfold byF; rw [ex, Option.elim, hb, if_pos rfl, hx]) (Fp.refl _ _)
    | false =>
      refine iteF ?_
      exact kN (by unfold byF; rw [ex, Option.elim, hb, if_neg Bool.false_ne_true]) _ (Fp.refl _ _)
  · walk_at "r"
    rw [byF_len hlen]
    exact k _ F
/-! ### receive queues -/
def its (R : List (It × Int)) : List It := R.map (·.1)
def tks (R : List (It × Int)) : List Int := R.map (·.2)
structure RqAt (C : Addr) (H : Hp) (p il tl : Addr) (cap : Int) (R : List (It × Int)) : Prop where
  ob : ∃ dx, H p = some (.ins C dx (F_ReceiveQueue (.int cap) (.ref il) (.ref tl)))
  is : ∃ vs, H il = some (.lst vs) ∧ Its H vs (its R)
  ts : H tl = some (.lst ((tks R).map V.int))
  ne : il ≠ tl
theorem RqAt.np {C : Addr} {H : Hp} {p il tl l : Addr} {cap : Int} {R : List (It × Int)} {vs : List V} (s : RqAt C H p il tl cap R) (h : H l = some (.lst vs)) : p ≠ l := by
  obtain ⟨_, z⟩ := s.ob
  exact ne_of z h (fun z => by cases z)
theorem RqAt.inn {C : Addr} {H : Hp} {p il tl : Addr} {cap : Int} {R : List (It × Int)} (s : RqAt C H p il tl cap R) : Inn H [p, il, tl] := by
  obtain ⟨_, z⟩ := s.ob
  obtain ⟨_, z1, _⟩ := s.is
  exact .cons z (.cons z1 (.cons s.ts .nil))
theorem RqAt.fp {C : Addr} {H H1 : Hp} {p il tl : Addr} {cap : Int} {R : List (It × Int)} {ft : List Addr} (s : RqAt C H p il tl cap R) (f : Fp ft H H1) (n : NoT H ft) (n0 : p ∉ ft) (n1 : il ∉ ft) (n2 : tl ∉ ft) : RqAt C H1 p il tl cap R := by
  obtain ⟨⟨dx, z⟩, ⟨vs, z1, z2⟩, z3, z4⟩ := s
  exact ⟨⟨dx, f _ _ z n0⟩, ⟨vs, f _ _ z1 n1, z2.fp f n⟩, f _ _ z3 n2, z4⟩
theorem RqAt.fp0 {C : Addr} {H H1 : Hp} {p il tl : Addr} {cap : Int} {R : List (It × Int)} (s : RqAt C H p il tl cap R) (f : Fp [] H H1) : RqAt C H1 p il tl cap R := s.fp f NoT.nil (by simp) (by simp) (by simp)
theorem RqAt.not {C : Addr} {H : Hp} {p il tl : Addr} {cap : Int} {R : List (It × Int)} (s : RqAt C H p il tl cap R) : NoT H [il, tl] := by
  obtain ⟨_, z1, _⟩ := s.is
  exact .cons z1 (.cons s.ts .nil)
/-- the row after one more byte is lost -/
def losT (R : List (It × Int)) (t : Int) : List (It × Int) := match R.getLast? with
  | some (.m n, t0) => R.dropLast ++ [(.m (n + 1), t0)]
  | _ => R ++ [(.m 1, t)]
def arrT (R : List (It × Int)) (cap z t : Int) : List (It × Int) := if (bys (its R) : Int) < cap then R ++ [(.b z, t)] else losT R t
theorem losT_m {S : List (It × Int)} {n t0 t : Int} : losT (S ++ [(.m n, t0)]) t = S ++ [(.m (n + 1), t0)] := by
  unfold losT; rw [List.getLast?_concat, List.dropLast_concat]
theorem losT_b {S : List (It × Int)} {z t0 t : Int} : losT (S ++ [(.b z, t0)]) t = S ++ [(.b z, t0)] ++ [(.m 1, t)] := by
  unfold losT; rw [List.getLast?_concat]
theorem losT_n {t : Int} : losT [] t = [(.m 1, t)] := rfl
theorem snoc_cases {α : Type} (l : List α) : l = [] ∨ ∃ r x, l = r ++ [x] := by
  by_cases h : l = []
  · exact .inl h
  · exact .inr ⟨l.dropLast, l.getLast h, (List.dropLast_concat_getLast h).symm⟩
def fstK (H : Hp) (R : List (It × Int)) (Q : VK) : Prop := (R = [] → Q .non H) ∧ (∀ (x : It) (t : Int) (S : List (It × Int)) (v : V), R = (x, t) :: S → ItV H v x → Q v H)
def tckK (H : Hp) (R : List (It × Int)) (Q : VK) : Prop := (R = [] → Q .non H) ∧ (∀ (x : It) (t : Int) (S : List (It × Int)), R = (x, t) :: S → Q (.int t) H)
def sp_ReceiveQueue_init (K : PySem.W.Frag) (a : Ads) : Sp := A2 fun s v H Q E => ∃ (p dx : Addr) (cap : Int), s = .ref p ∧ v = .int cap ∧ H p = some (.ins a.C_ReceiveQueue dx []) ∧
  ∀ il tl H1, H il = none → H tl = none → il ≠ tl → RqAt a.C_ReceiveQueue H1 p il tl cap [] → Fp [p] H H1 → Q .non H1
def sp_ReceiveQueue_append (K : PySem.W.Frag) (a : Ads) : Sp := A3 fun s v u H Q E => ∃ (p il tl : Addr) (cap t : Int) (x : It) (R : List (It × Int)), s = .ref p ∧ ItV H v x ∧ u = .int t ∧ RqAt a.C_ReceiveQueue H p il tl cap R ∧ R.length < 90000 ∧
  ∀ H1, RqAt a.C_ReceiveQueue H1 p il tl cap (R ++ [(x, t)]) → Fp [il, tl] H H1 → Q .non H1
def sp_ReceiveQueue_lose (K : PySem.W.Frag) (a : Ads) : Sp := A2 fun s u H Q E => ∃ (p il tl : Addr) (cap t : Int) (R : List (It × Int)), s = .ref p ∧ u = .int t ∧ RqAt a.C_ReceiveQueue H p il tl cap R ∧ R.length < 90000 ∧
  ∀ H1, RqAt a.C_ReceiveQueue H1 p il tl cap (losT R t) → Fp [il, tl] H H1 → Q .non H1
def sp_ReceiveQueue_arrive (K : PySem.W.Frag) (a : Ads) : Sp := A3 fun s v u H Q E => ∃ (p il tl : Addr) (cap z t : Int) (R : List (It × Int)), s = .ref p ∧ v = .int z ∧ u = .int t ∧ RqAt a.C_ReceiveQueue H p il tl cap R ∧ R.length < 90000 ∧
  ∀ H1, RqAt a.C_ReceiveQueue H1 p il tl cap (arrT R cap z t) → Fp [il, tl] H H1 → Q (.bl (decide ((bys (its R) : Int) < cap))) H1
def sp_ReceiveQueue_first (K : PySem.W.Frag) (a : Ads) : Sp := A1 fun s H Q E => ∃ (p il tl : Addr) (cap : Int) (R : List (It × Int)), s = .ref p ∧ RqAt a.C_ReceiveQueue H p il tl cap R ∧ fstK H R Q
def sp_ReceiveQueue_take (K : PySem.W.Frag) (a : Ads) : Sp := A1 fun s H Q E => ∃ (p il tl : Addr) (cap : Int) (R : List (It × Int)), s = .ref p ∧ RqAt a.C_ReceiveQueue H p il tl cap R ∧ R.length < 90000 ∧
  (R = [] → Q .non H) ∧ (∀ x t S v H1, R = (x, t) :: S → ItV H1 v x → RqAt a.C_ReceiveQueue H1 p il tl cap S → Fp [il, tl] H H1 → Q v H1)
def sp_ReceiveQueue_oldest_tick (K : PySem.W.Frag) (a : Ads) : Sp := A1 fun s H Q E => ∃ (p il tl : Addr) (cap : Int) (R : List (It × Int)), s = .ref p ∧ RqAt a.C_ReceiveQueue H p il tl cap R ∧ tckK H R Q
def sp_ReceiveQueue_bytes_held (K : PySem.W.Frag) (a : Ads) : Sp := A1 fun s H Q E => ∃ (p il tl : Addr) (cap : Int) (R : List (It × Int)), s = .ref p ∧ RqAt a.C_ReceiveQueue H p il tl cap R ∧ R.length < 90000 ∧ ∀ H1, Fp [] H H1 → Q (.int (bys (its R))) H1
def sp_ReceiveQueue_contents (K : PySem.W.Frag) (a : Ads) : Sp := A1 fun s H Q E => ∃ (p il tl : Addr) (cap : Int) (R : List (It × Int)), s = .ref p ∧ RqAt a.C_ReceiveQueue H p il tl cap R ∧ ∀ l vs H1, H l = none → H1 l = some (.lst vs) → Its H1 vs (its R) → Fp [] H H1 → Q (.ref l) H1
theorem ok_ReceiveQueue_init (T : Txt P w K mg base a) : FnOk P w K mg base (L2.CX P w) 1 a.f_ReceiveQueue_init a.fd_ReceiveQueue_init ["self", "capacity"] (sp_ReceiveQueue_init K a) := by
  refine T.F_ReceiveQueue_init.okX sc_ReceiveQueue_init (fun vs H Q E h => A2.len h) (fun cdv A outer s H vs Q E hr h => ?_)
  have hu := hu_of hr
  obtain ⟨v_self, v_capacity, rfl, h⟩ := h
  refine ⟨_, (pss_cons (ps_fld (pv 0) (pv 1) rfl)
    (pss_cons (ps_fld (pv 0) (pe_lst pa_nil) rfl)
    (pss_one (ps_fld (pv 0) (pe_lst pa_nil) rfl)))), ?_⟩
  obtain ⟨p, dx, cap, rfl, rfl, hp, k⟩ := h
  walk_at "r"
  refine ⟨sz (by simp), fun il hil => ?_⟩
  have np : il ≠ p := fun z => by rw [z, upd_same] at hil; cases hil
  have hil0 : H il = none := by rw [upd_ne np] at hil; exact hil
  walk_at "r"
  refine ⟨sz (by simp), fun tl htl => ?_⟩
  have nt : tl ≠ p := fun z => by rw [z, upd_same] at htl; cases htl
  have ni : tl ≠ il := fun z => by rw [z, upd_ne np, upd_same] at htl; cases htl
  have htl0 : H tl = none := by rw [upd_ne nt, upd_ne ni, upd_ne nt] at htl; exact htl
  walk_at "r"
  refine k il tl _ hil0 htl0 ni.symm ⟨⟨dx, by rw [upd_same, F_ReceiveQueue_init]⟩, ⟨[], by rw [upd_ne np, upd_ne ni.symm, upd_ne np, upd_same], .nil⟩, by rw [upd_ne nt, upd_same]; rfl, ni.symm⟩ ?_
  exact ((((Fp.at_ (by simp)).trans (Fp.new hil)).trans (Fp.at_ (by simp))).trans (Fp.new htl)).trans (Fp.at_ (by simp))
theorem ok_ReceiveQueue_append (T : Txt P w K mg base a) : FnOk P w K mg base (L2.CX P w) 1 a.f_ReceiveQueue_append a.fd_ReceiveQueue_append ["self", "item", "tick"] (sp_ReceiveQueue_append K a) := by
  refine T.F_ReceiveQueue_append.okX sc_ReceiveQueue_append (fun vs H Q E h => A3.len h) (fun cdv A outer s H vs Q E hr h => ?_)
  have hu := hu_of hr
  obtain ⟨v_self, v_item, v_tick, rfl, h⟩ := h
  refine ⟨_, (pss_cons (ps_expr (pe_bm PySem.F.plainAttrs_list PySem.F.slot_list_append PySem.F.type_list_append mt_append (pe_fld (pv 0) rfl) (pa_cons (pv 1) pa_nil)))
    (pss_one (ps_expr (pe_bm PySem.F.plainAttrs_list PySem.F.slot_list_append PySem.F.type_list_append mt_append (pe_fld (pv 0) rfl) (pa_cons (pv 2) pa_nil))))), ?_⟩
  obtain ⟨p, il, tl, cap, t, x, R, rfl, hx, rfl, B, hl, k⟩ := h
  obtain ⟨⟨dx, hp⟩, ⟨vs, hi, hv⟩, ht, ne⟩ := id B
  have npi := B.np hi
  have npt := B.np ht
  have hlv := hv.1
  unfold its at hlv
  rw [List.length_map] at hlv
  walk_at "r"
  refine c_app hi (sz (by omega)) ?_
  have f1 : Fp [il] H (upd H il (.lst (vs ++ [v_item]))) := Fp.at_ (by simp)
  have i1 : upd H il (.lst (vs ++ [v_item])) il = some (.lst (vs ++ [v_item])) := upd_same
  have hv1 := (hv.app hx).fp f1 (.cons hi .nil)
  have p1 := f1 _ _ hp (by simp [npi])
  have t1 := f1 _ _ ht (by simp [ne.symm])
  generalize upd H il _ = H1 at f1 i1 hv1 p1 t1 ⊢
  walk_at "r"
  refine c_app t1 (sz (by simp [tks]; omega)) ?_
  have f2 : Fp [tl] H1 (upd H1 tl (.lst ((tks R).map V.int ++ [.int t]))) := Fp.at_ (by simp)
  walk_at "r"
  refine k _ ⟨⟨dx, f2 _ _ p1 (by simp [npt])⟩, ⟨_, f2 _ _ i1 (by simp [ne]), ?_⟩, by rw [upd_same]; simp [tks], ne⟩ ((f1.mono (by simp)).trans (f2.mono (by simp)))
  have e : its (R ++ [(x, t)]) = its R ++ [x] := by simp [its]
  rw [e]
  exact hv1.fp f2 (.cons t1 .nil)
theorem ok_ReceiveQueue_lose (T : Txt P w K mg base a) : FnOk P w K mg base (L2.CX P w) 3 a.f_ReceiveQueue_lose a.fd_ReceiveQueue_lose ["self", "tick"] (sp_ReceiveQueue_lose K a) := by
  have G_is_mark := ok_is_mark T
  have G_joined := ok_joined T
  have G_lost_mark := ok_lost_mark T
  have G_ReceiveQueue_append := ok_ReceiveQueue_append T
  refine T.F_ReceiveQueue_lose.okX sc_ReceiveQueue_lose (fun vs H Q E h => A2.len h) (fun cdv A outer s H vs Q E hr h => ?_)
  have hu := hu_of hr
  obtain ⟨v_self, v_tick, rfl, h⟩ := h
  refine ⟨_, (pss_one (ps_if (pt_up (PW.pt (pw_and (pt_tr (pe_fld (pv 0) rfl) (by intro _; rfl)) (pw_and1 (pt_val (pe_callS G_is_mark (hr.mono (by decide)) rfl T.g_is_mark T.F_is_mark.kp T.b_is_mark (fun σ => passAt (takes_of rfl rfl rfl rfl) σ) (pa_cons (pe_ix ix_list (pe_fld (pv 0) rfl) (pe_un un_neg pe_int) (fun _ _ => rfl)) pa_nil))))))) (pss_one (ps_asg (pe_callS G_joined (hr.mono (by decide)) rfl T.g_joined T.F_joined.kp T.b_joined (fun σ => passAt (takes_of rfl rfl rfl rfl) σ) (pa_cons (pe_ix ix_list (pe_fld (pv 0) rfl) (pe_un un_neg pe_int) (fun _ _ => rfl)) (pa_cons (pe_callS G_lost_mark (hr.mono (by decide)) rfl T.g_lost_mark T.F_lost_mark.kp T.b_lost_mark (fun σ => passAt (takes_of rfl rfl rfl rfl) σ) (pa_cons pe_int pa_nil)) pa_nil))) (pg_sub (pe_fld (pv 0) rfl) (pe_un un_neg pe_int) set_list))) (pss_one (ps_expr (pe_methS (pv 0) T.cl_ReceiveQueue T.m_ReceiveQueue_append G_ReceiveQueue_append (hr.mono (by decide)) T.b_ReceiveQueue_append (fun σ => passAt (takes_of rfl rfl rfl rfl) σ) (pa_cons (pe_callS G_lost_mark (hr.mono (by decide)) rfl T.g_lost_mark T.F_lost_mark.kp T.b_lost_mark (fun σ => passAt (takes_of rfl rfl rfl rfl) σ) (pa_cons pe_int pa_nil)) (pa_cons (pv 1) pa_nil))))))), ?_⟩
  obtain ⟨p, il, tl, cap, t, R, rfl, rfl, B, hl, k⟩ := h
  obtain ⟨⟨dx, hp⟩, ⟨vs, hi, hv⟩, ht, ne⟩ := id B
  have npi := B.np hi
  walk_at "r"
  rcases snoc_cases R with rfl | ⟨S, ⟨x, t0⟩, rfl⟩
  · have e : vs = [] := List.eq_nil_of_length_eq_zero hv.1
    subst e
    refine t_up (fun b H1 => b = false ∧ H1 = H) ?_ ?_
    · walk_at "r"
      exact ⟨rfl, rfl⟩
    · rintro _ _ ⟨rfl, rfl⟩
      refine iteF ?_
      walk_at "r"
      refine a1 ⟨1, rfl, fun q H2 hq g2 f2 => ?_⟩
      walk_at "r"
      refine a3 ⟨p, il, tl, cap, t, .m 1, [], rfl, ⟨q, rfl, g2⟩, rfl, B.fp0 f2, hl, fun H3 B3 f3 => ?_⟩
      walk_at "r"
      exact k H3 B3 ((f2.mono (by simp)).trans f3)
  · have e : its (S ++ [(x, t0)]) = its S ++ [x] := by simp [its]
    rw [e] at hv
    obtain ⟨ws, v, rfl, hw, hx⟩ := hv.snoc
    cases x with
    | b z =>
      refine t_up (fun b H1 => b = false ∧ H1 = H) ?_ ?_
      · walk_at "r"
        refine if_b (fun _ => ?_) (fun _ => ⟨rfl, rfl⟩)
        walk_at "r"
        refine o_ixL (Or.inl (Or.inl hi)) (atI_last ws v) ?_
        walk_at "r"
        refine a1 ⟨.b z, hx, ?_⟩
        walk_at "r"
        exact ⟨rfl, rfl⟩
      · rintro _ _ ⟨rfl, rfl⟩
        refine iteF ?_
        walk_at "r"
        refine a1 ⟨1, rfl, fun q H2 hq g2 f2 => ?_⟩
        walk_at "r"
        refine a3 ⟨p, il, tl, cap, t, .m 1, _, rfl, ⟨q, rfl, g2⟩, rfl, B.fp0 f2, hl, fun H3 B3 f3 => ?_⟩
        rw [← losT_b] at B3
        walk_at "r"
        exact k H3 B3 ((f2.mono (by simp)).trans f3)
    | m n =>
      refine t_up (fun b H1 => b = true ∧ H1 = H) ?_ ?_
      · walk_at "r"
        rw [show (ws ++ [v]).isEmpty = false by cases ws <;> rfl]
        refine iteT ?_
        walk_at "r"
        refine o_ixL (Or.inl (Or.inl hi)) (atI_last ws v) ?_
        walk_at "r"
        refine a1 ⟨.m n, hx, ?_⟩
        walk_at "r"
        exact ⟨rfl, rfl⟩
      · rintro _ _ ⟨rfl, rfl⟩
        refine iteT ?_
        walk_at "r"
        refine o_ixL (Or.inl (Or.inl hi)) (atI_last ws v) ?_
        walk_at "r"
        refine a1 ⟨1, rfl, fun q H2 hq g2 f2 => ?_⟩
        have hx2 := hx.fp f2 .nil
        walk_at "r"
        refine a2 ⟨n, 1, hx2, ⟨q, rfl, g2⟩, fun q3 H3 hq3 g3 f3 => ?_⟩
        have f4 := f2.trans f3
        have p4 := f4 _ _ hp (by simp)
        have i4 := f4 _ _ hi (by simp)
        have t4 := f4 _ _ ht (by simp)
        have w4 := hw.fp f4 .nil
        walk_at "r"
        refine c_setE i4 ?_
        have f5 : Fp [il] H3 (upd H3 il (.lst (ws ++ [.ref q3]))) := Fp.at_ (by simp)
        walk_at "r"
        rw [losT_m] at k
        refine k _ ⟨⟨dx, f5 _ _ p4 (by simp [npi])⟩, ⟨_, upd_same, ?_⟩, by rw [f5 _ _ t4 (by simp [ne.symm])]; simp [tks], ne⟩ ((f4.mono (by simp)).trans (f5.mono (by simp)))
        have e2 : its (S ++ [(.m (n + 1), t0)]) = its S ++ [.m (n + 1)] := by simp [its]
        rw [e2]
        have n4 : NoT H3 [il] := .cons i4 .nil
        exact (w4.fp f5 n4).app (ItV.fp (x := .m (n + 1)) ⟨q3, rfl, g3⟩ f5 n4)
theorem ok_ReceiveQueue_bytes_held (T : Txt P w K mg base a) : FnOk P w K mg base (L2.CX P w) 3 a.f_ReceiveQueue_bytes_held a.fd_ReceiveQueue_bytes_held ["self"] (sp_ReceiveQueue_bytes_held K a) := by
  have G_bytes_among := ok_bytes_among T
  refine T.F_ReceiveQueue_bytes_held.okX sc_ReceiveQueue_bytes_held (fun vs H Q E h => A1.len h) (fun cdv A outer s H vs Q E hr h => ?_)
  have hu := hu_of hr
  obtain ⟨v_self, rfl, h⟩ := h
  refine ⟨_, (pss_one (ps_ret (pe_callS G_bytes_among (hr.mono (by decide)) rfl T.g_bytes_among T.F_bytes_among.kp T.b_bytes_among (fun σ => passAt (takes_of rfl rfl rfl rfl) σ) (pa_cons (pe_fld (pv 0) rfl) pa_nil)))), ?_⟩
  obtain ⟨p, il, tl, cap, R, rfl, B, hl, k⟩ := h
  obtain ⟨⟨dx, hp⟩, ⟨vs, hi, hv⟩, ht, ne⟩ := id B
  walk_at "r"
  exact a1 ⟨il, vs, its R, rfl, hi, hv, by simp [its]; omega, k⟩
theorem ok_ReceiveQueue_arrive (T : Txt P w K mg base a) : FnOk P w K mg base (L2.CX P w) 4 a.f_ReceiveQueue_arrive a.fd_ReceiveQueue_arrive ["self", "byte", "tick"] (sp_ReceiveQueue_arrive K a) := by
  have G_ReceiveQueue_bytes_held := ok_ReceiveQueue_bytes_held T
  have G_ReceiveQueue_lose := ok_ReceiveQueue_lose T
  have G_ReceiveQueue_append := ok_ReceiveQueue_append T
  refine T.F_ReceiveQueue_arrive.okX sc_ReceiveQueue_arrive (fun vs H Q E h => A3.len h) (fun cdv A outer s H vs Q E hr h => ?_)
  have hu := hu_of hr
  obtain ⟨v_self, v_byte, v_tick, rfl, h⟩ := h
  refine ⟨_, (pss_cons (ps_if (pt_cmpR op_ge (pe_meth0S (pv 0) T.cl_ReceiveQueue T.m_ReceiveQueue_bytes_held G_ReceiveQueue_bytes_held (hr.mono (by decide)) T.b_ReceiveQueue_bytes_held (fun σ => passAt (takes_of rfl rfl rfl rfl) σ)) (pe_fld (pv 0) rfl) (nomark _)) (pss_cons (ps_expr (pe_methS (pv 0) T.cl_ReceiveQueue T.m_ReceiveQueue_lose G_ReceiveQueue_lose (hr.mono (by decide)) T.b_ReceiveQueue_lose (fun σ => passAt (takes_of rfl rfl rfl rfl) σ) (pa_cons (pv 2) pa_nil)))
    (pss_one (ps_ret pe_bl))) pss_nil)
    (pss_cons (ps_expr (pe_methS (pv 0) T.cl_ReceiveQueue T.m_ReceiveQueue_append G_ReceiveQueue_append (hr.mono (by decide)) T.b_ReceiveQueue_append (fun σ => passAt (takes_of rfl rfl rfl rfl) σ) (pa_cons (pv 1) (pa_cons (pv 2) pa_nil))))
    (pss_one (ps_ret pe_bl)))), ?_⟩
  obtain ⟨p, il, tl, cap, z, t, R, rfl, rfl, rfl, B, hl, k⟩ := h
  obtain ⟨⟨dx, hp⟩, _⟩ := id B
  walk_at "r"
  refine a1 ⟨p, il, tl, cap, R, rfl, B, hl, fun H1 f1 => ?_⟩
  have B1 := B.fp0 f1
  obtain ⟨⟨dx1, hp1⟩, _⟩ := id B1
  walk_at "r"
  refine if_d (fun c => ?_) (fun c => ?_)
  · walk_at "r"
    refine a2 ⟨p, il, tl, cap, t, R, rfl, rfl, B1, hl, fun H2 B2 f2 => ?_⟩
    walk_at "r"
    have e : arrT R cap z t = losT R t := if_neg (by omega)
    have e2 : decide ((bys (its R) : Int) < cap) = false := decide_eq_false (by omega)
    rw [e, e2] at k
    exact k _ B2 ((f1.mono (by simp)).trans f2)
  · walk_at "r"
    refine a3 ⟨p, il, tl, cap, t, .b z, R, rfl, rfl, rfl, B1, hl, fun H2 B2 f2 => ?_⟩
    walk_at "r"
    have e : arrT R cap z t = R ++ [(.b z, t)] := if_pos (by omega)
    have e2 : decide ((bys (its R) : Int) < cap) = true := decide_eq_true (by omega)
    rw [e, e2] at k
    exact k _ B2 ((f1.mono (by simp)).trans f2)
theorem ok_ReceiveQueue_contents (T : Txt P w K mg base a) : FnOk P w K mg base (L2.CX P w) 1 a.f_ReceiveQueue_contents a.fd_ReceiveQueue_contents ["self"] (sp_ReceiveQueue_contents K a) := by
  refine T.F_ReceiveQueue_contents.okX sc_ReceiveQueue_contents (fun vs H Q E h => A1.len h) (fun cdv A outer s H vs Q E hr h => ?_)
  have hu := hu_of hr
  obtain ⟨v_self, rfl, h⟩ := h
  refine ⟨_, (pss_one (ps_ret (pe_callTy call_ls (by rfl) T.g_list (by decide +kernel) (pa_cons (pe_fld (pv 0) rfl) pa_nil)))), ?_⟩
  obtain ⟨p, il, tl, cap, R, rfl, B, k⟩ := h
  obtain ⟨⟨dx, hp⟩, ⟨vs, hi, hv⟩, ht, ne⟩ := id B
  walk_at "r"
  refine c_ls (Or.inl (Or.inl hi)) fun l hl2 => ?_
  walk_at "r"
  have f : Fp [] H (upd H l (.lst vs)) := Fp.new hl2
  exact k l vs _ hl2 upd_same (hv.fp f .nil) f
theorem ok_ReceiveQueue_first (T : Txt P w K mg base a) : FnOk P w K mg base (L2.CX P w) 1 a.f_ReceiveQueue_first a.fd_ReceiveQueue_first ["self"] (sp_ReceiveQueue_first K a) := by
  refine T.F_ReceiveQueue_first.okX sc_ReceiveQueue_first (fun vs H Q E h => A1.len h) (fun cdv A outer s H vs Q E hr h => ?_)
  have hu := hu_of hr
  obtain ⟨v_self, rfl, h⟩ := h
  refine ⟨_, (pss_cons (ps_if (pt_not (pt_tr (pe_fld (pv 0) rfl) (by intro _; rfl))) (pss_one (ps_ret pe_non)) pss_nil)
    (pss_one (ps_ret (pe_ix ix_list (pe_fld (pv 0) rfl) pe_int (fun _ _ => rfl))))), ?_⟩
  obtain ⟨p, il, tl, cap, R, rfl, B, k0, k1⟩ := h
  obtain ⟨⟨dx, hp⟩, ⟨vs, hi, hv⟩, ht, ne⟩ := id B
  walk_at "r"
  cases R with
  | nil =>
    have e : vs = [] := List.eq_nil_of_length_eq_zero hv.1
    subst e
    refine iteT ?_
    walk_at "r"
    exact k0 rfl
  | cons xt S =>
    obtain ⟨v, ws, rfl, hw, hx⟩ := Its.cons (xs := its S) (x := xt.1) hv
    refine iteF ?_
    walk_at "r"
    exact k1 _ _ S v rfl hx
theorem ok_ReceiveQueue_take (T : Txt P w K mg base a) : FnOk P w K mg base (L2.CX P w) 1 a.f_ReceiveQueue_take a.fd_ReceiveQueue_take ["self"] (sp_ReceiveQueue_take K a) := by
  refine T.F_ReceiveQueue_take.okX sc_ReceiveQueue_take (fun vs H Q E h => A1.len h) (fun cdv A outer s H vs Q E hr h => ?_)
  have hu := hu_of hr
  obtain ⟨v_self, rfl, h⟩ := h
  refine ⟨_, (pss_cons (ps_if (pt_not (pt_tr (pe_fld (pv 0) rfl) (by intro _; rfl))) (pss_one (ps_ret pe_non)) pss_nil)
    (pss_cons (ps_expr (pe_bm PySem.F.plainAttrs_list PySem.F.slot_list_pop PySem.F.type_list_pop mt_popAt (pe_fld (pv 0) rfl) (pa_cons pe_int pa_nil)))
    (pss_one (ps_ret (pe_bm PySem.F.plainAttrs_list PySem.F.slot_list_pop PySem.F.type_list_pop mt_popAt (pe_fld (pv 0) rfl) (pa_cons pe_int pa_nil)))))), ?_⟩
  obtain ⟨p, il, tl, cap, R, rfl, B, hl, k0, k1⟩ := h
  obtain ⟨⟨dx, hp⟩, ⟨vs, hi, hv⟩, ht, ne⟩ := id B
  have npi := B.np hi
  have npt := B.np ht
  walk_at "r"
  cases R with
  | nil =>
    have e : vs = [] := List.eq_nil_of_length_eq_zero hv.1
    subst e
    refine iteT ?_
    walk_at "r"
    exact k0 rfl
  | cons xt S =>
    obtain ⟨v, ws, rfl, hw, hx⟩ := Its.cons (xs := its S) (x := xt.1) hv
    rw [List.length_cons] at hl
    have hwl := hw.1
    unfold its at hwl
    rw [List.length_map] at hwl
    refine iteF ?_
    have ht2 : H tl = some (.lst (.int xt.2 :: (tks S).map V.int)) := ht
    walk_at "r"
    refine c_pop0 ht2 (by simp [tks]; omega) ?_
    have f1 : Fp [tl] H (upd H tl (.lst ((tks S).map V.int))) := Fp.at_ (by simp)
    have i1 := f1 _ _ hi (by simp [ne])
    have p1 := f1 _ _ hp (by simp [npt])
    have t1 : upd H tl (.lst ((tks S).map V.int)) tl = some (.lst ((tks S).map V.int)) := upd_same
    have n1 : NoT H [tl] := .cons ht .nil
    have hw1 := hw.fp f1 n1
    have hx1 := hx.fp f1 n1
    generalize upd H tl _ = H1 at f1 i1 p1 t1 hw1 hx1 ⊢
    walk_at "r"
    have f2 : Fp [il] H1 (upd H1 il (.lst ws)) := Fp.at_ (by simp)
    have n2 : NoT H1 [il] := .cons i1 .nil
    walk_at "r"
    exact k1 _ _ S v _ rfl (hx1.fp f2 n2) ⟨⟨dx, f2 _ _ p1 (by simp [npi])⟩, ⟨ws, upd_same, hw1.fp f2 n2⟩, f2 _ _ t1 (by simp [ne.symm]), ne⟩ ((f1.mono (by simp)).trans (f2.mono (by simp)))
end
end My
set_option Elab.async false
set_option maxRecDepth 100000
set_option maxHeartbeats 100000000
set_option linter.all false
namespace My
open PySem L2 Sx Rd Sl
local macro_rules | `(tactic| walk_at "ne") => `(tactic| (first | with_reducible assumption | with_reducible exact Ne.symm (by with_reducible assumption)))
local macro_rules | `(tactic| walk_at "nin") => `(tactic| (simp only [List.mem_cons, List.not_mem_nil, or_false, not_or, not_false_eq_true]; (repeat' refine And.intro ?_ ?_); (all_goals walk_at "ne")))
local macro_rules | `(tactic| walk_at "hl") => `(tactic| (first | (with_reducible assumption) | exact upd_same | ((with_reducible refine' (upd_ne ?hne).trans ?hgo); (case hne => walk_at "ne"); (case hgo => walk_at "hl"))))
local macro_rules | `(tactic| walk_at "sq") => `(tactic| (first | (with_reducible assumption) | exact Or.inl (Or.inl (by walk_at "hl"))))
local macro_rules | `(tactic| walk_at "ar") => `(tactic| (first | omega | exact ⟨by omega, by omega⟩ | exact Or.inl ⟨by omega, by omega⟩ | exact Or.inr ⟨by omega, by omega⟩ | (show (0 : Int) < _; omega) | (show (0 : Int) < _ ∧ _ < (1073741824 : Int); omega)))
local macro_rules | `(tactic| walk_at "cls") => `(tactic| (first | exact Txt.cl_Receiver (by assumption) | exact Txt.cl_Ring (by assumption) | exact Txt.cl_ReceiveQueue (by assumption) | exact Txt.cl_SlotRing (by assumption)))
local macro_rules | `(tactic| walk_at "noa") => `(tactic| (first | exact Txt.n_Receiver_queue (by assumption) | exact Txt.n_Receiver_ring (by assumption) | exact Txt.n_Receiver_size (by assumption) | exact Txt.n_Receiver_idle (by assumption) | exact Txt.n_Receiver_latest (by assumption) | exact Txt.n_Ring_cells (by assumption) | exact Txt.n_Ring_written (by assumption) | exact Txt.n_Ring_taken (by assumption) | exact Txt.n_ReceiveQueue_capacity (by assumption) | exact Txt.n_ReceiveQueue_items (by assumption) | exact Txt.n_ReceiveQueue_ticks (by assumption) | exact Txt.n_SlotRing_slots (by assumption) | exact Txt.n_SlotRing_armed (by assumption) | exact Txt.n_SlotRing_filled (by assumption) | exact Txt.n_SlotRing_added (by assumption)))
local macro_rules | `(tactic| walk_at "lkp") => `(tactic| (first | (with_reducible exact F_Receiver_queue_l) | (with_reducible exact F_Receiver_ring_l) | (with_reducible exact F_Receiver_size_l) | (with_reducible exact F_Receiver_idle_l) | (with_reducible exact F_Receiver_latest_l) | (with_reducible exact F_Ring_cells_l) | (with_reducible exact F_Ring_written_l) | (with_reducible exact F_Ring_taken_l) | (with_reducible exact F_ReceiveQueue_capacity_l) | (with_reducible exact F_ReceiveQueue_items_l) | (with_reducible exact F_ReceiveQueue_ticks_l) | (with_reducible exact F_SlotRing_slots_l) | (with_reducible exact F_SlotRing_armed_l) | (with_reducible exact F_SlotRing_filled_l) | (with_reducible exact F_SlotRing_added_l)))
local macro_rules | `(tactic| walk_at "ptf") => `(tactic| (first | (with_reducible exact F_Receiver_queue_p) | (with_reducible exact F_Receiver_ring_p) | (with_reducible exact F_Receiver_size_p) | (with_reducible exact F_Receiver_idle_p) | (with_reducible exact F_Receiver_latest_p) | (with_reducible exact F_Ring_cells_p) | (with_reducible exact F_Ring_written_p) | (with_reducible exact F_Ring_taken_p) | (with_reducible exact F_ReceiveQueue_capacity_p) | (with_reducible exact F_ReceiveQueue_items_p) | (with_reducible exact F_ReceiveQueue_ticks_p) | (with_reducible exact F_SlotRing_slots_p) | (with_reducible exact F_SlotRing_armed_p) | (with_reducible exact F_SlotRing_filled_p) | (with_reducible exact F_SlotRing_added_p) | exact rfl))
local macro_rules | `(tactic| walk_at "lnF") => `(tactic| (first | (with_reducible exact F_Receiver_len) | (with_reducible exact F_Ring_len) | (with_reducible exact F_ReceiveQueue_len) | (with_reducible exact F_SlotRing_len) | (refine PL.lt (n := 60) ?_ (by decide); (repeat refine PL.put ?_); exact PL.nil) | decide))
local macro_rules | `(tactic| walk_at "nol") => `(tactic| (first | (with_reducible exact F_Receiver_m_can_step) | (with_reducible exact F_Receiver_m_step) | (with_reducible exact F_Receiver_m_close_idle) | (with_reducible exact F_Receiver_m_add) | (with_reducible exact F_Ring_m_held) | (with_reducible exact F_Ring_m_is_full) | (with_reducible exact F_Ring_m_put) | (with_reducible exact F_Ring_m_first) | (with_reducible exact F_Ring_m_take) | (with_reducible exact F_Ring_m_listed) | (with_reducible exact F_Ring_m_next) | (with_reducible exact F_ReceiveQueue_m_arrive) | (with_reducible exact F_ReceiveQueue_m_first) | (with_reducible exact F_ReceiveQueue_m_take) | (with_reducible exact F_ReceiveQueue_m_oldest_tick) | (with_reducible exact F_ReceiveQueue_m_bytes_held) | (with_reducible exact F_ReceiveQueue_m_contents) | (with_reducible exact F_ReceiveQueue_m_append) | (with_reducible exact F_ReceiveQueue_m_lose) | (with_reducible exact F_SlotRing_m_can_arm) | (with_reducible exact F_SlotRing_m_arm) | (with_reducible exact F_SlotRing_m_open_slot) | (with_reducible exact F_SlotRing_m_open_bytes) | (with_reducible exact F_SlotRing_m_open_count) | (with_reducible exact F_SlotRing_m_add) | (with_reducible exact F_SlotRing_m_close) | (with_reducible exact F_SlotRing_m_oldest) | (with_reducible exact F_SlotRing_m_reap) | (with_reducible exact F_SlotRing_m_filled_slots) | (with_reducible exact F_SlotRing_m_buffers)))
local macro_rules | `(tactic| walk_at "r1") => `(tactic| (first
  | with_reducible apply l_cons | ((with_reducible apply e_var); (case h => exact rfl)) | with_reducible apply l_nil | with_reducible apply s_seq | with_reducible apply e_c | with_reducible apply g_name
  | with_reducible apply s_asg | with_reducible apply e_call | with_reducible apply k_t | with_reducible apply e_op | with_reducible apply e_cb | with_reducible apply t_test
  | with_reducible apply s_if | with_reducible apply t_or | with_reducible apply t_and | with_reducible apply t_B | with_reducible apply s_next | with_reducible apply p_some
  | with_reducible apply p_no | with_reducible apply e_sl | with_reducible apply k_i | with_reducible apply e_lst | with_reducible apply t_not | with_reducible apply o_I0
  | ((with_reducible refine' o_I ?hc ?_); (case hc => walk_at "ar")) | with_reducible apply e_meth | ((with_reducible refine' k_meth ?h1 ?h2 ?_); (case h1 => walk_at "hl"); (case h2 => walk_at "nol")) | with_reducible apply e_fld | ((with_reducible refine' k_fld ?h1 ?h2 ?h3 ?h4 ?_); (case h1 => walk_at "hl"); (case h2 => walk_at "cls"); (case h3 => walk_at "noa"); (case h4 => walk_at "lkp")) | with_reducible apply e_not
  | with_reducible apply s_ret | ((with_reducible refine' k_ty ?h1 ?_); (case h1 => walk_at "sq")) | with_reducible apply s_drop | with_reducible apply s_retN | with_reducible apply s_cont | with_reducible apply s_break
  | with_reducible apply o_chC | ((with_reducible refine' o_chV ?hv ?_); (case hv => exact rfl)) | with_reducible apply e_un | with_reducible apply o_U | ((with_reducible refine' o_eq ?hs ?_); (case hs => exact rfl)) | ((with_reducible refine' o_ne ?hs ?_); (case hs => exact rfl))
  | ((with_reducible refine' o_ixL ?h1 ?h2 ?_); (case h1 => walk_at "sq"); (case h2 => first | exact rfl | exact atI_zero _ _)) | with_reducible apply s_fld | with_reducible apply e_make | ((with_reducible refine' k_set ?h1 ?h2 ?h3 ?h4 ?h5 ?_); (case h1 => walk_at "hl"); (case h2 => walk_at "cls"); (case h3 => walk_at "noa"); (case h4 => walk_at "ptf"); (case h5 => walk_at "lnF")) | with_reducible apply e_tup | with_reducible apply e_bm
  | with_reducible apply e_bm0 | with_reducible apply e_if | with_reducible apply e_chain | with_reducible apply s_raise | with_reducible apply g_sub | ((with_reducible refine' c_ln ?h1 ?_); (case h1 => walk_at "sq"))
  | ((with_reducible refine' c_pop0 ?h1 ?h2 ?_); (case h1 => walk_at "hl"); (case h2 => omega)) | with_reducible apply c_isBool | with_reducible apply c_isInt | with_reducible apply c_isBoolN | with_reducible apply c_isTupI | with_reducible apply c_isNonB
  | with_reducible apply c_isNonT | ((with_reducible refine' c_isList ?h1 ?_); (case h1 => walk_at "hl")) | ((with_reducible refine' c_isTup ?h1 ?_); (case h1 => walk_at "hl")) | ((with_reducible refine' c_isTupB ?h1 ?_); (case h1 => walk_at "hl")) | with_reducible apply o_isB | with_reducible apply o_notB
  | with_reducible apply e_and | with_reducible apply e_or | with_reducible apply k_bl | with_reducible apply e_xf | with_reducible apply s_augS | ((with_reducible refine' s_augV ?hv ?_); (case hv => exact rfl))
  | with_reducible apply ip_I | with_reducible apply e_lcE | ((with_reducible refine' k_xf ?h1 ?h2 ?_); (case h1 => walk_at "hl"); (case h2 => exact look_hit _ _ _)) | ((with_reducible refine' o_slL ?h1 ?_); (case h1 => walk_at "sq")) | ((with_reducible refine' k_dget ?h1 ?h2 ?_); (case h1 => walk_at "hl"); (case h2 => with_reducible assumption)) | with_reducible apply e_dget
  | with_reducible apply s_dput | with_reducible apply e_makeK | with_reducible apply g_cons | with_reducible apply g_nil | with_reducible apply c_ab | with_reducible apply c_in
  | with_reducible apply c_mx | with_reducible apply c_mn | with_reducible apply a1 | with_reducible apply a2 | with_reducible apply a3 | with_reducible apply a4
  | with_reducible apply a5 | with_reducible apply a6 | with_reducible apply a0 | with_reducible apply t_tru | with_reducible apply t_yes | ((with_reducible refine' k_truL ?h1 ?_); (case h1 => walk_at "sq")) | with_reducible refine d_nx ?_ | with_reducible refine d_rt ?_ | with_reducible refine d_bk ?_
  | with_reducible refine d_ct ?_))
local macro_rules | `(tactic| walk_at "r") => `(tactic| (repeat walk_at "r1"))
local macro_rules | `(tactic| walk_at "sel") => `(tactic| (first | with_reducible exact Sl.Sel.here | ((with_reducible refine' Sl.Sel.there ?t); (case t => walk_at "sel"))))
local macro_rules | `(tactic| walk_at "sels") => `(tactic| (first | with_reducible exact Sl.Sels.nil | ((with_reducible refine' Sl.Sels.cons ?a ?b); (case a => walk_at "sel"); (case b => walk_at "sels")) | with_reducible exact Sl.Sels.all _ | ((with_reducible refine' Sl.Sels.skip ?t); (case t => walk_at "sels"))))
local macro_rules | `(tactic| walk_at "selm") => `(tactic| ((try (simp only [])); (try simp only [List.map_append, List.map_cons, List.map_nil]); walk_at "sels"))
local macro_rules | `(tactic| walk_at "hg") => do
  let h := Lean.mkIdent `hs
  `(tactic| (first | (with_reducible assumption) | ((with_reducible refine' Sl.St.get $h ?s); (case s => walk_at "sel")) | ((with_reducible refine' Sl.St.geti $h ?s); (case s => walk_at "sel"))))
local macro_rules | `(tactic| walk_at "sg") => do
  let h := Lean.mkIdent `hs
  `(tactic| (first | (with_reducible assumption) | exact Or.inl (Or.inl (by walk_at "hg")) | (refine' Sl.sqA.U $h ?s; (case s => walk_at "sel"))))
local macro_rules | `(tactic| walk_at "le5") => `(tactic| (first | omega | (simp only [List.length_cons, List.length_nil, List.length_append, List.length_map]; omega) | (show _ ≤ _; decide) | (show _ < _; decide)))
local macro_rules | `(tactic| walk_at "km") => `(tactic| fail)
local macro_rules | `(tactic| walk_at "kf") => `(tactic| fail)
local macro_rules | `(tactic| walk_at "x1") => do
  let h := Lean.mkIdent `hs
  `(tactic| (first
  | with_reducible apply l_cons | ((with_reducible apply e_var); (case h => exact rfl)) | with_reducible apply l_nil | with_reducible apply s_seq | with_reducible apply e_c | with_reducible apply g_name
  | with_reducible apply s_asg | with_reducible apply e_call | with_reducible apply k_t | with_reducible apply e_op | with_reducible apply e_cb | with_reducible apply t_test
  | with_reducible apply s_if | with_reducible apply t_or | with_reducible apply t_and | with_reducible apply t_B | with_reducible apply s_next | with_reducible apply p_some
  | with_reducible apply p_no | with_reducible apply e_sl | with_reducible apply k_i | with_reducible apply Sl.e_lstS | with_reducible apply t_not | with_reducible apply o_I0
  | ((with_reducible refine' o_I ?hc ?_); (case hc => walk_at "ar")) | with_reducible apply e_meth | ((with_reducible refine' k_meth ?h1 ?h2 ?_); (case h1 => walk_at "hg"); (case h2 => walk_at "nol")) | walk_at "km" | with_reducible apply e_fld
  | ((with_reducible refine' k_fld ?h1 ?h2 ?h3 ?h4 ?_); (case h1 => walk_at "hg"); (case h2 => walk_at "cls"); (case h3 => walk_at "noa"); (case h4 => walk_at "lkp")) | walk_at "kf" | with_reducible apply e_not
  | with_reducible apply s_ret | ((with_reducible refine' k_ty ?h1 ?_); (case h1 => walk_at "sg")) | with_reducible apply s_drop | with_reducible apply s_retN | with_reducible apply s_cont | with_reducible apply s_break
  | with_reducible apply o_chC | ((with_reducible refine' o_chV ?hv ?_); (case hv => exact rfl)) | with_reducible apply e_un | with_reducible apply o_U | ((with_reducible refine' o_eq ?hs ?_); (case hs => exact rfl)) | ((with_reducible refine' o_ne ?hs ?_); (case hs => exact rfl))
  | ((with_reducible refine' o_ixL ?h1 ?h2 ?_); (case h1 => walk_at "sg"); (case h2 => first | exact rfl | exact atI_zero _ _)) | ((with_reducible refine' o_ixT ?h1 ?h2 ?_); (case h1 => walk_at "sg"); (case h2 => first | exact rfl | exact atI_zero _ _)) | with_reducible apply s_fld | with_reducible apply Sl.e_makeS
  | ((with_reducible refine' Sl.k_setS $h ?h1 ?h2 ?h3 ?h4 ?h5 ?_); (case h1 => walk_at "sel"); (case h2 => walk_at "cls"); (case h3 => walk_at "noa"); (case h4 => walk_at "ptf"); (case h5 => walk_at "lnF"); (clear $h; intro _ $h)) | with_reducible apply Sl.e_tupS | with_reducible apply e_bm
  | with_reducible apply e_bm0 | with_reducible apply e_if | with_reducible apply e_chain | with_reducible apply s_raise | with_reducible apply g_sub | ((with_reducible refine' c_ln ?h1 ?_); (case h1 => walk_at "sg")) | ((with_reducible refine' c_lnT ?h1 ?_); (case h1 => walk_at "sg"))
  | ((with_reducible refine' Sl.k_newL $h ?h1 ?_); (case h1 => walk_at "le5"); (clear $h; intro _ _ $h)) | ((with_reducible refine' Sl.k_newT $h ?h1 ?_); (case h1 => walk_at "le5"); (clear $h; intro _ _ $h)) | ((with_reducible refine' Sl.k_make $h ?_); (clear $h; intro _ _ _ $h))
  | ((with_reducible refine' Sl.c_appS $h ?h1 ?h2 ?_); (case h1 => walk_at "sel"); (case h2 => walk_at "le5"); (clear $h; intro _ $h)) | ((with_reducible refine' Sl.c_pop0S $h ?h1 ?h2 ?_); (case h1 => walk_at "sel"); (case h2 => walk_at "le5"); (clear $h; intro _ $h))
  | ((with_reducible refine' Sl.c_lsS $h ?h1 ?_); (case h1 => walk_at "sg"); (clear $h; intro _ _ $h)) | ((with_reducible refine' Sl.o_slLS $h ?h1 ?_); (case h1 => walk_at "sg"); (clear $h; intro _ _ $h)) | ((with_reducible refine' Sl.c_clrS $h ?h1 ?_); (case h1 => walk_at "sel"); (clear $h; intro _ $h))
  | ((with_reducible refine' Sl.o_catS $h ?h1 ?h2 ?h3 ?_); (case h1 => walk_at "hg"); (case h2 => walk_at "hg"); (case h3 => walk_at "le5"); (clear $h; intro _ _ $h)) | ((with_reducible refine' Sl.c_extS $h ?h1 ?h2 ?h3 ?_); (case h1 => walk_at "sel"); (case h2 => walk_at "hg"); (case h3 => walk_at "le5"); (clear $h; intro _ $h))
  | ((with_reducible refine' Sl.k_raise $h ?h1 ?_); (case h1 => exact okV_int ⟨by omega, by omega⟩); (clear $h; intro _ _ $h))
  | with_reducible apply c_isBool | with_reducible apply c_isInt | with_reducible apply c_isBoolN | with_reducible apply c_isTupI | with_reducible apply c_isNonB
  | with_reducible apply c_isNonT | ((with_reducible refine' c_isList ?h1 ?_); (case h1 => walk_at "hg")) | ((with_reducible refine' c_isTup ?h1 ?_); (case h1 => walk_at "hg")) | ((with_reducible refine' c_isTupB ?h1 ?_); (case h1 => walk_at "hg")) | with_reducible apply o_isB | with_reducible apply o_notB
  | with_reducible apply e_and | with_reducible apply e_or | with_reducible apply k_bl | with_reducible apply e_xf | with_reducible apply s_augS | ((with_reducible refine' s_augV ?hv ?_); (case hv => exact rfl)) | with_reducible apply Sl.s_aug
  | with_reducible apply ip_I | with_reducible apply e_lcE | with_reducible apply e_lcL | with_reducible apply f_lst | with_reducible apply e_lcF | with_reducible apply f_rng1 | ((with_reducible refine' k_xf ?h1 ?h2 ?_); (case h1 => walk_at "hg"); (case h2 => exact look_hit _ _ _)) | ((with_reducible refine' k_dget ?h1 ?h2 ?_); (case h1 => walk_at "hg"); (case h2 => with_reducible assumption)) | with_reducible apply e_dget
  | with_reducible apply s_dput | with_reducible apply Sl.e_makeKS | with_reducible apply g_cons | with_reducible apply g_nil | ((with_reducible refine' g_tup ?h1 ?h2 ?_); (case h1 => walk_at "sg"); (case h2 => exact rfl)) | with_reducible apply c_ab | with_reducible apply c_in
  | with_reducible apply c_mx | with_reducible apply c_mn | with_reducible apply a1 | with_reducible apply a2 | with_reducible apply a3 | with_reducible apply a4
  | with_reducible apply a5 | with_reducible apply a6 | with_reducible apply a0 | with_reducible apply t_tru | with_reducible apply t_yes | ((with_reducible refine' k_truL ?h1 ?_); (case h1 => walk_at "sg")) | with_reducible refine d_nx ?_ | with_reducible refine d_rt ?_ | with_reducible refine d_bk ?_
  | with_reducible refine d_ct ?_))
local macro_rules | `(tactic| walk_at "x") => `(tactic| (repeat walk_at "x1"))
local macro_rules | `(tactic| walk_at "km") => do let h := Lean.mkIdent `hs; `(tactic| ((with_reducible refine' km_Ring $h ?s ?m ?_); (case s => walk_at "sel"); (case m => intros; walk_at "nol")))
local macro_rules | `(tactic| walk_at "km") => do let h := Lean.mkIdent `hs; `(tactic| ((with_reducible refine' km_SlotRing $h ?s ?m ?_); (case s => walk_at "sel"); (case m => intros; walk_at "nol")))
section
variable {P : Program} {w : World} {K : PySem.W.Frag} {mg : Str → Option Value} {base : Heap} {a : Ads}
/-! ### one of a row of numbers, drawn -/
def sp_law_pick (K : PySem.W.Frag) (a : Ads) : Sp := A2 fun s r H Q _ => ∃ (st sl l : Addr) (xs : List Int), s = .ref st ∧ r = .ref l ∧ StAt H st sl ∧ H l = some (.lst (xs.map V.int)) ∧ st ≠ l ∧ sl ≠ l ∧ 1 ≤ xs.length ∧ xs.length ≤ 1000 ∧
  ∀ x H1, x ∈ xs → StAt H1 st sl → Fp [st, sl] H H1 → Q (.int x) H1
theorem ok_law_pick (T : Txt P w K mg base a) : FnOk P w K mg base (L2.CX P w) 2 a.f_law_pick a.fd_law_pick ["state", "row"] (sp_law_pick K a) := by
  have G_law_draw := ok_law_draw T
  refine T.F_law_pick.okX sc_law_pick (fun vs H Q E h => A2.len h) (fun cdv A outer s H vs Q E hr h => ?_)
  have hu := hu_of hr
  obtain ⟨v_state, v_row, rfl, h⟩ := h
  refine ⟨_, (pss_one (ps_ret (pe_ix ix_list (pv 1) (pe_callS G_law_draw (hr.mono (by decide)) rfl T.g_law_draw T.F_law_draw.kp T.b_law_draw (fun σ => passAt (takes_of rfl rfl rfl rfl) σ) (pa_cons (pv 0) (pa_cons (pe_callB call_ln (by rfl) T.g_len (by decide +kernel) (pa_cons (pv 1) pa_nil)) pa_nil))) (fun _ _ => rfl)))), ?_⟩
  obtain ⟨st, sl, l, xs, rfl, rfl, S, hl, n1, n2, h1, h2, k⟩ := h
  walk_at "r"
  refine a2 ⟨st, sl, _, rfl, rfl, S, by rw [List.length_map]; omega, by rw [List.length_map]; omega, fun r H1 r0 r1 S1 f1 => ?_⟩
  rw [List.length_map] at r1
  obtain ⟨n, rfl⟩ : ∃ n : Nat, r = n := ⟨r.toNat, by omega⟩
  have hn : n < xs.length := by omega
  have e1 : xs[n]? = some xs[n] := List.getElem?_eq_getElem hn
  refine o_ixL (Or.inl (Or.inl (f1 _ _ hl (by simp [n1.symm, n2.symm])))) (atI_nat (by rw [List.getElem?_map, e1]; rfl)) ?_
  walk_at "r"
  exact k _ H1 (List.mem_of_getElem? e1) S1 f1
theorem c_pick {L R M : List As} {H : Hp} {Q : VK} {E : XK} {st l : Addr} (xs : List Int) {vs : List V} (hs : Sl.St L H) (s : Sel (StA st) L R) (s2 : Sel (cell l (.lst vs)) R M) (e : vs = xs.map V.int) (h1 : 1 ≤ xs.length) (h2 : xs.length ≤ 1000)
    (q : ∀ x H', x ∈ xs → Sl.St (StA st :: R) H' → Q (.int x) H') : sp_law_pick K a [.ref st, .ref l] H Q E := by
  have h0 := hs.sel2 s s2
  obtain ⟨A, ⟨sl, rfl, S⟩, up⟩ := fpa_U (hs.sel s)
  have hl := h0.get (.there .here)
  obtain ⟨ns, m', g1, g2, _⟩ := id S
  have hd : st ≠ l ∧ sl ≠ l := by
    obtain ⟨S0, S1, S2, e0, d0, ⟨A, eA, sl', rfl, S'⟩, S3, S4, e1, d1, k1, k2⟩ := h0
    have hsl : sl' = sl := by
      obtain ⟨ns', m2, q1, _⟩ := S'
      rw [g1] at q1
      have := HO.lst.inj (Option.some.inj q1)
      simp at this
      exact this.1.symm
    subst hsl
    exact ⟨fun z => d0 st ((eA st).mpr (by simp)) ((e1 st).mpr (.inl ((k1.1 st).mpr z))), fun z => d0 sl' ((eA sl').mpr (by simp)) ((e1 sl').mpr (.inl ((k1.1 sl').mpr z)))⟩
  refine a2 ⟨st, sl, l, xs, rfl, rfl, S, by rw [hl, e], hd.1, hd.2, h1, h2, fun x H1 hx S1 f => q x H1 hx (up _ _ _ [st, sl] [st, sl] H1 f (fun x m => ⟨.inl m, fun o e => ?_⟩) ⟨sl, rfl, S1⟩ fun x m => .inl m)⟩
  simp only [List.mem_cons, List.not_mem_nil, or_false] at m
  rcases m with rfl | rfl
  · rw [g1] at e; cases e; exact id
  · rw [g2] at e; cases e; exact id
/-! ### items as data, as assertions -/
def dIt : It → PyData
  | .b z => .int z
  | .m n => .tuple [.str "lost", .int n]
theorem dIt_ld (x : It) : LD 3 (dIt x) := by
  cases x with
  | b z => exact LD.int z
  | m n =>
    refine LD.tup fun d hd => ?_
    simp only [List.mem_cons, List.not_mem_nil, or_false] at hd
    rcases hd with rfl | rfl
    · exact LD.str (by decide +kernel)
    · exact LD.int n
theorem dIts_ld (xs : List It) : LD 4 (.list (xs.map dIt)) := LD.list fun d hd => by
  obtain ⟨s, _, rfl⟩ := List.mem_map.mp hd
  exact dIt_ld s
theorem ItV.dp {K : PySem.W.Frag} {H : Hp} {v : V} {x : It} (h : ItV H v x) : Dp K H v (dIt x) := by
  cases x with
  | b z => obtain rfl : v = .int z := h; exact .int z
  | m n =>
    obtain ⟨t, rfl, g⟩ := h
    exact .tup (Or.inl (Or.inl g)) (.cons (.str _) (.cons (.int n) .nil))
theorem Its.dp {K : PySem.W.Frag} {H : Hp} : ∀ {vs : List V} {xs : List It}, Its H vs xs → DpAll K H vs (xs.map dIt)
  | vs, [], h => by rw [List.eq_nil_of_length_eq_zero h.1]; exact .nil
  | vs, x :: xs, h => by
    obtain ⟨v, ws, rfl, hw, hx⟩ := h.cons
    exact .cons hx.dp hw.dp
theorem ItV.imm {H H' : Hp} {v : V} {x : It} (h : ItV H v x) (g : ∀ a o, H a = some o → Imm o → H' a = some o) : ItV H' v x := by
  cases x with
  | b z => exact h
  | m n =>
    obtain ⟨t, e, h⟩ := h
    exact ⟨t, e, g _ _ h trivial⟩
theorem Its.imm {H H' : Hp} {vs : List V} {xs : List It} (h : Its H vs xs) (g : ∀ a o, H a = some o → Imm o → H' a = some o) : Its H' vs xs := ⟨h.1, fun i v x hv hx => (h.2 i v x hv hx).imm g⟩
def itA (v : V) (x : It) : As := per (fun H => ItV H v x) fun _ _ h g => h.imm g
def itsA (vs : List V) (xs : List It) : As := per (fun H => Its H vs xs) fun _ _ h g => h.imm g
section
variable {L R : List As} {H : Hp} {v : V} {x : It} {vs ws : List V} {xs ys : List It}
theorem itA.U (hs : Sl.St L H) (s : Sel (itA v x) L R) : ItV H v x := hs.perU s
theorem itsA.U (hs : Sl.St L H) (s : Sel (itsA vs xs) L R) : Its H vs xs := hs.perU s
theorem itA.I (hs : Sl.St L H) (h : ItV H v x) : Sl.St (itA v x :: L) H := hs.perI h
theorem itsA.I (hs : Sl.St L H) (h : Its H vs xs) : Sl.St (itsA vs xs :: L) H := hs.perI h
end
theorem bys_nil : bys [] = 0 := rfl
/-! ### receive queues, as assertions -/
def rqP (C p : Addr) (cap : Int) (R : List (It × Int)) (H : Hp) (A : List Addr) : Prop := ∃ il tl, A = [p, il, tl] ∧ RqAt C H p il tl cap R
def RqA (C p : Addr) (cap : Int) (R : List (It × Int)) : As := fpa (rqP C p cap R) (fun H H' A ⟨il, tl, e, B⟩ g => by
    obtain ⟨⟨dx, ho⟩, ⟨vs, hi, hv⟩, ht, ne⟩ := B
    exact ⟨il, tl, e, ⟨dx, by rw [g.1 p (by simp [e])]; exact ho⟩, ⟨vs, by rw [g.1 il (by simp [e])]; exact hi, hv.imm g.2⟩, by rw [g.1 tl (by simp [e])]; exact ht, ne⟩)
  (fun H A ⟨il, tl, e, B⟩ a s => by
    obtain ⟨⟨dx, ho⟩, ⟨vs, hi, hv⟩, ht, ne⟩ := B
    rw [e] at s; simp only [List.mem_cons, List.not_mem_nil, or_false] at s; rcases s with rfl | rfl | rfl <;> simp [ho, hi, ht])
section
variable {L M : List As} {H : Hp} {Q : VK} {E : XK} {C p : Addr} {cap z t : Int} {R : List (It × Int)} {v : V}
theorem RqA.U (hs : Sl.St L H) (s : Sel (RqA C p cap R) L M) : ∃ il tl, RqAt C H p il tl cap R ∧ ∀ R' H1 ft, RqAt C H1 p il tl cap R' → Fp ft H H1 → (∀ x ∈ ft, x = p ∨ x = il ∨ x = tl) → Sl.St (RqA C p cap R' :: M) H1 := by
  obtain ⟨A, ⟨il, tl, rfl, B⟩, up⟩ := fpa_U (hs.sel s)
  refine ⟨il, tl, B, fun R' H1 ft B1 f hf => up _ _ _ ft [p, il, tl] H1 f (fun x m => ⟨.inl (by simpa using hf x m), fun o e => ?_⟩) ⟨il, tl, rfl, B1⟩ fun x m => .inl m⟩
  obtain ⟨⟨dx, ho⟩, ⟨vs, hi, hv⟩, ht, ne⟩ := B
  rcases hf x m with rfl | rfl | rfl
  · rw [ho] at e; cases e; exact id
  · rw [hi] at e; cases e; exact id
  · rw [ht] at e; cases e; exact id
theorem km_Rq {m : Str} {sp : Sp} {tl : TA} {σ : L2.St} (hs : Sl.St L H) (s : Sel (RqA C p cap R) L M) (hm : ∀ x0 x1 x2, (F_ReceiveQueue x0 x1 x2).lookup m = none) (q : tl σ H fun vs H2 => sp (.ref p :: vs) H2 Q E) : kMeth C m sp E tl σ (.ref p) H Q := by
  obtain ⟨il, tl, B, _⟩ := RqA.U hs s
  obtain ⟨dx, h⟩ := B.ob
  exact k_meth h (hm _ _ _) q
theorem kf_Rq_cap {K : PySem.W.Frag} (hs : Sl.St L H) (s : Sel (RqA C p cap R) L M) (c : Cls K C) (n : NoAttr K C "capacity") (q : Q (.int cap) H) : kFld K "capacity" (.ref p) H Q := by
  obtain ⟨il, tl, B, _⟩ := RqA.U hs s
  obtain ⟨dx, h⟩ := B.ob
  exact k_fld h c n F_ReceiveQueue_capacity_l q
theorem c_rq_init {dx : Addr} (hs : Sl.St L H) (s : Sel (cell p (.ins a.C_ReceiveQueue dx [])) L M) (q : ∀ H', Sl.St (RqA a.C_ReceiveQueue p cap [] :: M) H' → Q .non H') : sp_ReceiveQueue_init K a [.ref p, .int cap] H Q E :=
  a2 ⟨p, dx, cap, rfl, rfl, hs.get s, fun il tl H1 n1 n2 _ B f => q H1 (fpa_cell (hs.sel s) id f ⟨il, tl, rfl, B⟩ fun x m => by
    simp only [List.mem_cons, List.not_mem_nil, or_false] at m
    rcases m with rfl | rfl | rfl
    · exact .inl rfl
    · exact .inr n1
    · exact .inr n2)⟩
theorem c_rq_arrive (hs : Sl.St L H) (s : Sel (RqA a.C_ReceiveQueue p cap R) L M) (hR : R.length < 90000) (q : ∀ H', Sl.St (RqA a.C_ReceiveQueue p cap (arrT R cap z t) :: M) H' → Q (.bl (decide ((bys (its R) : Int) < cap))) H') : sp_ReceiveQueue_arrive K a [.ref p, .int z, .int t] H Q E := by
  obtain ⟨il, tl, B, up⟩ := RqA.U hs s
  exact a3 ⟨p, il, tl, cap, z, t, R, rfl, rfl, rfl, B, hR, fun H1 B1 f => q H1 (up _ _ _ B1 f (by simp))⟩
theorem c_rq_first (hs : Sl.St L H) (s : Sel (RqA a.C_ReceiveQueue p cap R) L M) (q0 : R = [] → Q .non H) (q1 : ∀ x t S v, R = (x, t) :: S → ItV H v x → Q v H) : sp_ReceiveQueue_first K a [.ref p] H Q E := by
  obtain ⟨il, tl, B, up⟩ := RqA.U hs s
  exact a1 ⟨p, il, tl, cap, R, rfl, B, q0, q1⟩
theorem c_rq_take (hs : Sl.St L H) (s : Sel (RqA a.C_ReceiveQueue p cap R) L M) (hR : R.length < 90000) (q0 : R = [] → Q .non H) (q1 : ∀ x t S v H', R = (x, t) :: S → ItV H' v x → Sl.St (RqA a.C_ReceiveQueue p cap S :: M) H' → Q v H') : sp_ReceiveQueue_take K a [.ref p] H Q E := by
  obtain ⟨il, tl, B, up⟩ := RqA.U hs s
  exact a1 ⟨p, il, tl, cap, R, rfl, B, hR, q0, fun x t S v H1 e i B1 f => q1 x t S v H1 e i (up _ _ _ B1 f (by simp))⟩
theorem c_rq_oldest_tick (hs : Sl.St L H) (s : Sel (RqA a.C_ReceiveQueue p cap R) L M) (q0 : R = [] → Q .non H) (q1 : ∀ x t S, R = (x, t) :: S → Q (.int t) H) : sp_ReceiveQueue_oldest_tick K a [.ref p] H Q E := by
  obtain ⟨il, tl, B, up⟩ := RqA.U hs s
  exact a1 ⟨p, il, tl, cap, R, rfl, B, q0, q1⟩
theorem c_rq_bytes_held (hs : Sl.St L H) (s : Sel (RqA a.C_ReceiveQueue p cap R) L M) (hR : R.length < 90000) (q : ∀ H', Sl.St L H' → Q (.int (bys (its R))) H') : sp_ReceiveQueue_bytes_held K a [.ref p] H Q E := by
  obtain ⟨il, tl, B, up⟩ := RqA.U hs s
  exact a1 ⟨p, il, tl, cap, R, rfl, B, hR, fun H1 f => q H1 (hs.keepF f)⟩
theorem c_rq_contents (hs : Sl.St L H) (s : Sel (RqA a.C_ReceiveQueue p cap R) L M) (q : ∀ l vs H', Its H' vs (its R) → Sl.St (cell l (.lst vs) :: L) H' → Q (.ref l) H') : sp_ReceiveQueue_contents K a [.ref p] H Q E := by
  obtain ⟨il, tl, B, up⟩ := RqA.U hs s
  exact a1 ⟨p, il, tl, cap, R, rfl, B, fun l vs H1 n g i f => q l vs H1 i (hs.newF f n g)⟩
end
local macro_rules | `(tactic| walk_at "km") => do let h := Lean.mkIdent `hs; `(tactic| ((with_reducible refine' km_Rq $h ?s ?m ?_); (case s => walk_at "sel"); (case m => intros; walk_at "nol")))
local macro_rules | `(tactic| walk_at "kf") => do let h := Lean.mkIdent `hs; `(tactic| ((with_reducible refine' kf_Rq_cap $h ?s ?c ?n ?_); (case s => walk_at "sel"); (case c => walk_at "cls"); (case n => walk_at "noa")))
end
end My
set_option Elab.async false
set_option maxRecDepth 100000
set_option maxHeartbeats 100000000
set_option linter.all false
namespace My
open PySem L2 Sx Rd Sl
local macro_rules | `(tactic| walk_at "ne") => `(tactic| (first | with_reducible assumption | with_reducible exact Ne.symm (by with_reducible assumption)))
local macro_rules | `(tactic| walk_at "nin") => `(tactic| (simp only [List.mem_cons, List.not_mem_nil, or_false, not_or, not_false_eq_true]; (repeat' refine And.intro ?_ ?_); (all_goals walk_at "ne")))
local macro_rules | `(tactic| walk_at "hl") => `(tactic| (first | (with_reducible assumption) | exact upd_same | ((with_reducible refine' (upd_ne ?hne).trans ?hgo); (case hne => walk_at "ne"); (case hgo => walk_at "hl"))))
local macro_rules | `(tactic| walk_at "sq") => `(tactic| (first | (with_reducible assumption) | exact Or.inl (Or.inl (by walk_at "hl"))))
local macro_rules | `(tactic| walk_at "ar") => `(tactic| (first | omega | exact ⟨by omega, by omega⟩ | exact Or.inl ⟨by omega, by omega⟩ | exact Or.inr ⟨by omega, by omega⟩ | (show (0 : Int) < _; omega) | (show (0 : Int) < _ ∧ _ < (1073741824 : Int); omega)))
local macro_rules | `(tactic| walk_at "cls") => `(tactic| (first | exact Txt.cl_Receiver (by assumption) | exact Txt.cl_Ring (by assumption) | exact Txt.cl_ReceiveQueue (by assumption) | exact Txt.cl_SlotRing (by assumption)))
local macro_rules | `(tactic| walk_at "noa") => `(tactic| (first | exact Txt.n_Receiver_queue (by assumption) | exact Txt.n_Receiver_ring (by assumption) | exact Txt.n_Receiver_size (by assumption) | exact Txt.n_Receiver_idle (by assumption) | exact Txt.n_Receiver_latest (by assumption) | exact Txt.n_Ring_cells (by assumption) | exact Txt.n_Ring_written (by assumption) | exact Txt.n_Ring_taken (by assumption) | exact Txt.n_ReceiveQueue_capacity (by assumption) | exact Txt.n_ReceiveQueue_items (by assumption) | exact Txt.n_ReceiveQueue_ticks (by assumption) | exact Txt.n_SlotRing_slots (by assumption) | exact Txt.n_SlotRing_armed (by assumption) | exact Txt.n_SlotRing_filled (by assumption) | exact Txt.n_SlotRing_added (by assumption)))
local macro_rules | `(tactic| walk_at "lkp") => `(tactic| (first | (with_reducible exact F_Receiver_queue_l) | (with_reducible exact F_Receiver_ring_l) | (with_reducible exact F_Receiver_size_l) | (with_reducible exact F_Receiver_idle_l) | (with_reducible exact F_Receiver_latest_l) | (with_reducible exact F_Ring_cells_l) | (with_reducible exact F_Ring_written_l) | (with_reducible exact F_Ring_taken_l) | (with_reducible exact F_ReceiveQueue_capacity_l) | (with_reducible exact F_ReceiveQueue_items_l) | (with_reducible exact F_ReceiveQueue_ticks_l) | (with_reducible exact F_SlotRing_slots_l) | (with_reducible exact F_SlotRing_armed_l) | (with_reducible exact F_SlotRing_filled_l) | (with_reducible exact F_SlotRing_added_l)))
local macro_rules | `(tactic| walk_at "ptf") => `(tactic| (first | (with_reducible exact F_Receiver_queue_p) | (with_reducible exact F_Receiver_ring_p) | (with_reducible exact F_Receiver_size_p) | (with_reducible exact F_Receiver_idle_p) | (with_reducible exact F_Receiver_latest_p) | (with_reducible exact F_Ring_cells_p) | (with_reducible exact F_Ring_written_p) | (with_reducible exact F_Ring_taken_p) | (with_reducible exact F_ReceiveQueue_capacity_p) | (with_reducible exact F_ReceiveQueue_items_p) | (with_reducible exact F_ReceiveQueue_ticks_p) | (with_reducible exact F_SlotRing_slots_p) | (with_reducible exact F_SlotRing_armed_p) | (with_reducible exact F_SlotRing_filled_p) | (with_reducible exact F_SlotRing_added_p) | exact rfl))
local macro_rules | `(tactic| walk_at "lnF") => `(tactic| (first | (with_reducible exact F_Receiver_len) | (with_reducible exact F_Ring_len) | (with_reducible exact F_ReceiveQueue_len) | (with_reducible exact F_SlotRing_len) | (refine PL.lt (n := 60) ?_ (by decide); (repeat refine PL.put ?_); exact PL.nil) | decide))
local macro_rules | `(tactic| walk_at "nol") => `(tactic| (first | (with_reducible exact F_Receiver_m_can_step) | (with_reducible exact F_Receiver_m_step) | (with_reducible exact F_Receiver_m_close_idle) | (with_reducible exact F_Receiver_m_add) | (with_reducible exact F_Ring_m_held) | (with_reducible exact F_Ring_m_is_full) | (with_reducible exact F_Ring_m_put) | (with_reducible exact F_Ring_m_first) | (with_reducible exact F_Ring_m_take) | (with_reducible exact F_Ring_m_listed) | (with_reducible exact F_Ring_m_next) | (with_reducible exact F_ReceiveQueue_m_arrive) | (with_reducible exact F_ReceiveQueue_m_first) | (with_reducible exact F_ReceiveQueue_m_take) | (with_reducible exact F_ReceiveQueue_m_oldest_tick) | (with_reducible exact F_ReceiveQueue_m_bytes_held) | (with_reducible exact F_ReceiveQueue_m_contents) | (with_reducible exact F_ReceiveQueue_m_append) | (with_reducible exact F_ReceiveQueue_m_lose) | (with_reducible exact F_SlotRing_m_can_arm) | (with_reducible exact F_SlotRing_m_arm) | (with_reducible exact F_SlotRing_m_open_slot) | (with_reducible exact F_SlotRing_m_open_bytes) | (with_reducible exact F_SlotRing_m_open_count) | (with_reducible exact F_SlotRing_m_add) | (with_reducible exact F_SlotRing_m_close) | (with_reducible exact F_SlotRing_m_oldest) | (with_reducible exact F_SlotRing_m_reap) | (with_reducible exact F_SlotRing_m_filled_slots) | (with_reducible exact F_SlotRing_m_buffers)))
local macro_rules | `(tactic| walk_at "r1") => `(tactic| (first
  | with_reducible apply l_cons | ((with_reducible apply e_var); (case h => exact rfl)) | with_reducible apply l_nil | with_reducible apply s_seq | with_reducible apply e_c | with_reducible apply g_name
  | with_reducible apply s_asg | with_reducible apply e_call | with_reducible apply k_t | with_reducible apply e_op | with_reducible apply e_cb | with_reducible apply t_test
  | with_reducible apply s_if | with_reducible apply t_or | with_reducible apply t_and | with_reducible apply t_B | with_reducible apply s_next | with_reducible apply p_some
  | with_reducible apply p_no | with_reducible apply e_sl | with_reducible apply k_i | with_reducible apply e_lst | with_reducible apply t_not | with_reducible apply o_I0
  | ((with_reducible refine' o_I ?hc ?_); (case hc => walk_at "ar")) | with_reducible apply e_meth | ((with_reducible refine' k_meth ?h1 ?h2 ?_); (case h1 => walk_at "hl"); (case h2 => walk_at "nol")) | with_reducible apply e_fld | ((with_reducible refine' k_fld ?h1 ?h2 ?h3 ?h4 ?_); (case h1 => walk_at "hl"); (case h2 => walk_at "cls"); (case h3 => walk_at "noa"); (case h4 => walk_at "lkp")) | with_reducible apply e_not
  | with_reducible apply s_ret | ((with_reducible refine' k_ty ?h1 ?_); (case h1 => walk_at "sq")) | with_reducible apply s_drop | with_reducible apply s_retN | with_reducible apply s_cont | with_reducible apply s_break
  | with_reducible apply o_chC | ((with_reducible refine' o_chV ?hv ?_); (case hv => exact rfl)) | with_reducible apply e_un | with_reducible apply o_U | ((with_reducible refine' o_eq ?hs ?_); (case hs => exact rfl)) | ((with_reducible refine' o_ne ?hs ?_); (case hs => exact rfl))
  | ((with_reducible refine' o_ixL ?h1 ?h2 ?_); (case h1 => walk_at "sq"); (case h2 => first | exact rfl | exact atI_zero _ _)) | with_reducible apply s_fld | with_reducible apply e_make | ((with_reducible refine' k_set ?h1 ?h2 ?h3 ?h4 ?h5 ?_); (case h1 => walk_at "hl"); (case h2 => walk_at "cls"); (case h3 => walk_at "noa"); (case h4 => walk_at "ptf"); (case h5 => walk_at "lnF")) | with_reducible apply e_tup | with_reducible apply e_bm
  | with_reducible apply e_bm0 | with_reducible apply e_if | with_reducible apply e_chain | with_reducible apply s_raise | with_reducible apply g_sub | ((with_reducible refine' c_ln ?h1 ?_); (case h1 => walk_at "sq"))
  | ((with_reducible refine' c_pop0 ?h1 ?h2 ?_); (case h1 => walk_at "hl"); (case h2 => omega)) | with_reducible apply c_isBool | with_reducible apply c_isInt | with_reducible apply c_isBoolN | with_reducible apply c_isTupI | with_reducible apply c_isNonB
  | with_reducible apply c_isNonT | ((with_reducible refine' c_isList ?h1 ?_); (case h1 => walk_at "hl")) | ((with_reducible refine' c_isTup ?h1 ?_); (case h1 => walk_at "hl")) | ((with_reducible refine' c_isTupB ?h1 ?_); (case h1 => walk_at "hl")) | with_reducible apply o_isB | with_reducible apply o_notB
  | with_reducible apply e_and | with_reducible apply e_or | with_reducible apply k_bl | with_reducible apply e_xf | with_reducible apply s_augS | ((with_reducible refine' s_augV ?hv ?_); (case hv => exact rfl))
  | with_reducible apply ip_I | with_reducible apply e_lcE | ((with_reducible refine' k_xf ?h1 ?h2 ?_); (case h1 => walk_at "hl"); (case h2 => exact look_hit _ _ _)) | ((with_reducible refine' o_slL ?h1 ?_); (case h1 => walk_at "sq")) | ((with_reducible refine' k_dget ?h1 ?h2 ?_); (case h1 => walk_at "hl"); (case h2 => with_reducible assumption)) | with_reducible apply e_dget
  | with_reducible apply s_dput | with_reducible apply e_makeK | with_reducible apply g_cons | with_reducible apply g_nil | with_reducible apply c_ab | with_reducible apply c_in
  | with_reducible apply c_mx | with_reducible apply c_mn | with_reducible apply a1 | with_reducible apply a2 | with_reducible apply a3 | with_reducible apply a4
  | with_reducible apply a5 | with_reducible apply a6 | with_reducible apply a0 | with_reducible apply t_tru | with_reducible apply t_yes | ((with_reducible refine' k_truL ?h1 ?_); (case h1 => walk_at "sq")) | with_reducible refine d_nx ?_ | with_reducible refine d_rt ?_ | with_reducible refine d_bk ?_
  | with_reducible refine d_ct ?_))
local macro_rules | `(tactic| walk_at "r") => `(tactic| (repeat walk_at "r1"))
local macro_rules | `(tactic| walk_at "sel") => `(tactic| (first | with_reducible exact Sl.Sel.here | ((with_reducible refine' Sl.Sel.there ?t); (case t => walk_at "sel"))))
local macro_rules | `(tactic| walk_at "sels") => `(tactic| (first | with_reducible exact Sl.Sels.nil | ((with_reducible refine' Sl.Sels.cons ?a ?b); (case a => walk_at "sel"); (case b => walk_at "sels")) | with_reducible exact Sl.Sels.all _ | ((with_reducible refine' Sl.Sels.skip ?t); (case t => walk_at "sels"))))
local macro_rules | `(tactic| walk_at "selm") => `(tactic| ((try (simp only [])); (try simp only [List.map_append, List.map_cons, List.map_nil]); walk_at "sels"))
local macro_rules | `(tactic| walk_at "hg") => do
  let h := Lean.mkIdent `hs
  `(tactic| (first | (with_reducible assumption) | ((with_reducible refine' Sl.St.get $h ?s); (case s => walk_at "sel")) | ((with_reducible refine' Sl.St.geti $h ?s); (case s => walk_at "sel"))))
local macro_rules | `(tactic| walk_at "sg") => do
  let h := Lean.mkIdent `hs
  `(tactic| (first | (with_reducible assumption) | exact Or.inl (Or.inl (by walk_at "hg")) | (refine' Sl.sqA.U $h ?s; (case s => walk_at "sel"))))
local macro_rules | `(tactic| walk_at "le5") => `(tactic| (first | omega | (simp only [List.length_cons, List.length_nil, List.length_append, List.length_map]; omega) | (show _ ≤ _; decide) | (show _ < _; decide)))
local macro_rules | `(tactic| walk_at "km") => `(tactic| fail)
local macro_rules | `(tactic| walk_at "kf") => `(tactic| fail)
local macro_rules | `(tactic| walk_at "x1") => do
  let h := Lean.mkIdent `hs
  `(tactic| (first
  | with_reducible apply l_cons | ((with_reducible apply e_var); (case h => exact rfl)) | with_reducible apply l_nil | with_reducible apply s_seq | with_reducible apply e_c | with_reducible apply g_name
  | with_reducible apply s_asg | with_reducible apply e_call | with_reducible apply k_t | with_reducible apply e_op | with_reducible apply e_cb | with_reducible apply t_test
  | with_reducible apply s_if | with_reducible apply t_or | with_reducible apply t_and | with_reducible apply t_B | with_reducible apply s_next | with_reducible apply p_some
  | with_reducible apply p_no | with_reducible apply e_sl | with_reducible apply k_i | with_reducible apply Sl.e_lstS | with_reducible apply t_not | with_reducible apply o_I0
  | ((with_reducible refine' o_I ?hc ?_); (case hc => walk_at "ar")) | with_reducible apply e_meth | ((with_reducible refine' k_meth ?h1 ?h2 ?_); (case h1 => walk_at "hg"); (case h2 => walk_at "nol")) | walk_at "km" | with_reducible apply e_fld
  | ((with_reducible refine' k_fld ?h1 ?h2 ?h3 ?h4 ?_); (case h1 => walk_at "hg"); (case h2 => walk_at "cls"); (case h3 => walk_at "noa"); (case h4 => walk_at "lkp")) | walk_at "kf" | with_reducible apply e_not
  | with_reducible apply s_ret | ((with_reducible refine' k_ty ?h1 ?_); (case h1 => walk_at "sg")) | with_reducible apply s_drop | with_reducible apply s_retN | with_reducible apply s_cont | with_reducible apply s_break
  | with_reducible apply o_chC | ((with_reducible refine' o_chV ?hv ?_); (case hv => exact rfl)) | with_reducible apply e_un | with_reducible apply o_U | ((with_reducible refine' o_eq ?hs ?_); (case hs => exact rfl)) | ((with_reducible refine' o_ne ?hs ?_); (case hs => exact rfl))
  | ((with_reducible refine' o_ixL ?h1 ?h2 ?_); (case h1 => walk_at "sg"); (case h2 => first | exact rfl | exact atI_zero _ _)) | ((with_reducible refine' o_ixT ?h1 ?h2 ?_); (case h1 => walk_at "sg"); (case h2 => first | exact rfl | exact atI_zero _ _)) | with_reducible apply s_fld | with_reducible apply Sl.e_makeS
  | ((with_reducible refine' Sl.k_setS $h ?h1 ?h2 ?h3 ?h4 ?h5 ?_); (case h1 => walk_at "sel"); (case h2 => walk_at "cls"); (case h3 => walk_at "noa"); (case h4 => walk_at "ptf"); (case h5 => walk_at "lnF"); (clear $h; intro _ $h)) | with_reducible apply Sl.e_tupS | with_reducible apply e_bm
  | with_reducible apply e_bm0 | with_reducible apply e_if | with_reducible apply e_chain | with_reducible apply s_raise | with_reducible apply g_sub | ((with_reducible refine' c_ln ?h1 ?_); (case h1 => walk_at "sg")) | ((with_reducible refine' c_lnT ?h1 ?_); (case h1 => walk_at "sg"))
  | ((with_reducible refine' Sl.k_newL $h ?h1 ?_); (case h1 => walk_at "le5"); (clear $h; intro _ _ $h)) | ((with_reducible refine' Sl.k_newT $h ?h1 ?_); (case h1 => walk_at "le5"); (clear $h; intro _ _ $h)) | ((with_reducible refine' Sl.k_make $h ?_); (clear $h; intro _ _ _ $h))
  | ((with_reducible refine' Sl.c_appS $h ?h1 ?h2 ?_); (case h1 => walk_at "sel"); (case h2 => walk_at "le5"); (clear $h; intro _ $h)) | ((with_reducible refine' Sl.c_pop0S $h ?h1 ?h2 ?_); (case h1 => walk_at "sel"); (case h2 => walk_at "le5"); (clear $h; intro _ $h))
  | ((with_reducible refine' Sl.c_lsS $h ?h1 ?_); (case h1 => walk_at "sg"); (clear $h; intro _ _ $h)) | ((with_reducible refine' Sl.o_slLS $h ?h1 ?_); (case h1 => walk_at "sg"); (clear $h; intro _ _ $h)) | ((with_reducible refine' Sl.c_clrS $h ?h1 ?_); (case h1 => walk_at "sel"); (clear $h; intro _ $h))
  | ((with_reducible refine' Sl.o_catS $h ?h1 ?h2 ?h3 ?_); (case h1 => walk_at "hg"); (case h2 => walk_at "hg"); (case h3 => walk_at "le5"); (clear $h; intro _ _ $h)) | ((with_reducible refine' Sl.c_extS $h ?h1 ?h2 ?h3 ?_); (case h1 => walk_at "sel"); (case h2 => walk_at "hg"); (case h3 => walk_at "le5"); (clear $h; intro _ $h))
  | ((with_reducible refine' Sl.k_raise $h ?h1 ?_); (case h1 => exact okV_int ⟨by omega, by omega⟩); (clear $h; intro _ _ $h))
  | with_reducible apply c_isBool | with_reducible apply c_isInt | with_reducible apply c_isBoolN | with_reducible apply c_isTupI | with_reducible apply c_isNonB
  | with_reducible apply c_isNonT | ((with_reducible refine' c_isList ?h1 ?_); (case h1 => walk_at "hg")) | ((with_reducible refine' c_isTup ?h1 ?_); (case h1 => walk_at "hg")) | ((with_reducible refine' c_isTupB ?h1 ?_); (case h1 => walk_at "hg")) | with_reducible apply o_isB | with_reducible apply o_notB
  | with_reducible apply e_and | with_reducible apply e_or | with_reducible apply k_bl | with_reducible apply e_xf | with_reducible apply s_augS | ((with_reducible refine' s_augV ?hv ?_); (case hv => exact rfl)) | with_reducible apply Sl.s_aug
  | with_reducible apply ip_I | with_reducible apply e_lcE | with_reducible apply e_lcL | with_reducible apply f_lst | with_reducible apply e_lcF | with_reducible apply f_rng1 | ((with_reducible refine' k_xf ?h1 ?h2 ?_); (case h1 => walk_at "hg"); (case h2 => exact look_hit _ _ _)) | ((with_reducible refine' k_dget ?h1 ?h2 ?_); (case h1 => walk_at "hg"); (case h2 => with_reducible assumption)) | with_reducible apply e_dget
  | with_reducible apply s_dput | with_reducible apply Sl.e_makeKS | with_reducible apply g_cons | with_reducible apply g_nil | ((with_reducible refine' g_tup ?h1 ?h2 ?_); (case h1 => walk_at "sg"); (case h2 => exact rfl)) | with_reducible apply c_ab | with_reducible apply c_in
  | with_reducible apply c_mx | with_reducible apply c_mn | with_reducible apply a1 | with_reducible apply a2 | with_reducible apply a3 | with_reducible apply a4
  | with_reducible apply a5 | with_reducible apply a6 | with_reducible apply a0 | with_reducible apply t_tru | with_reducible apply t_yes | ((with_reducible refine' k_truL ?h1 ?_); (case h1 => walk_at "sg")) | with_reducible refine d_nx ?_ | with_reducible refine d_rt ?_ | with_reducible refine d_bk ?_
  | with_reducible refine d_ct ?_))
local macro_rules | `(tactic| walk_at "x") => `(tactic| (repeat walk_at "x1"))
local macro_rules | `(tactic| walk_at "km") => do let h := Lean.mkIdent `hs; `(tactic| ((with_reducible refine' km_Ring $h ?s ?m ?_); (case s => walk_at "sel"); (case m => intros; walk_at "nol")))
local macro_rules | `(tactic| walk_at "km") => do let h := Lean.mkIdent `hs; `(tactic| ((with_reducible refine' km_SlotRing $h ?s ?m ?_); (case s => walk_at "sel"); (case m => intros; walk_at "nol")))
local macro_rules | `(tactic| walk_at "km") => do let h := Lean.mkIdent `hs; `(tactic| ((with_reducible refine' km_Rq $h ?s ?m ?_); (case s => walk_at "sel"); (case m => intros; walk_at "nol")))
local macro_rules | `(tactic| walk_at "kf") => do let h := Lean.mkIdent `hs; `(tactic| ((with_reducible refine' kf_Rq_cap $h ?s ?c ?n ?_); (case s => walk_at "sel"); (case c => walk_at "cls"); (case n => walk_at "noa")))
section
variable {P : Program} {w : World} {K : PySem.W.Frag} {mg : Str → Option Value} {base : Heap} {a : Ads}
/-! ### the receive handler -/
def RvA (a : Ads) (p qp rp : Addr) (size idle latest : Int) : As := ex fun dx => cell p (.ins a.C_Receiver dx (F_Receiver (.ref qp) (.ref rp) (.int size) (.int idle) (.int latest)))
/-- the state behind a step: armed, open, filled, latest -/
def rvStep (x : It) (size now : Int) (ab dt : List Int) (fs : List Slt) (latest : Int) : List Int × List Int × List Slt × Int := match x, ab with
  | .b z, b :: r => if ((dt ++ [z]).length : Int) = size then (r, [], fs ++ [(b, dt ++ [z], 0)], now) else (b :: r, dt ++ [z], fs, now)
  | .m n, b :: r => (r, [], fs ++ [(b, dt, n)], latest)
  | _, [] => ([], dt, fs, latest)
section
variable {L M : List As} {H : Hp} {Q : VK} {E : XK} {p qp rp : Addr} {size idle latest : Int}
theorem RvA.U (hs : Sl.St L H) (s : Sel (RvA a p qp rp size idle latest) L M) : ∃ dx, Sl.St (cell p (.ins a.C_Receiver dx (F_Receiver (.ref qp) (.ref rp) (.int size) (.int idle) (.int latest))) :: M) H := (hs.sel s).exU
theorem RvA.I {dx : Addr} (hs : Sl.St L H) (s : Sel (cell p (.ins a.C_Receiver dx (F_Receiver (.ref qp) (.ref rp) (.int size) (.int idle) (.int latest)))) L M) : Sl.St (RvA a p qp rp size idle latest :: M) H := Sl.St.exI dx (hs.sel s)
theorem km_Rv {m : Str} {sp : Sp} {tl : TA} {σ : L2.St} (hs : Sl.St L H) (s : Sel (RvA a p qp rp size idle latest) L M) (hm : ∀ x0 x1 x2 x3 x4, (F_Receiver x0 x1 x2 x3 x4).lookup m = none) (q : tl σ H fun vs H2 => sp (.ref p :: vs) H2 Q E) : kMeth a.C_Receiver m sp E tl σ (.ref p) H Q := by
  obtain ⟨dx, h⟩ := RvA.U hs s
  exact k_meth h.get0 (hm _ _ _ _ _) q
end
local macro_rules | `(tactic| walk_at "km") => do let h := Lean.mkIdent `hs; `(tactic| ((with_reducible refine' km_Rv $h ?s ?m ?_); (case s => walk_at "sel"); (case m => intros; walk_at "nol")))
def RvSp (a : Ads) (s : V) (H : Hp) (φ : Addr → Addr → Addr → Int → Int → Int → Int → List (It × Int) → Nat → List Int → List Int → List Slt → List As → List As → Prop) : Prop :=
  ∃ (p qp rp : Addr) (size idle latest cap : Int) (Rq : List (It × Int)) (n : Nat) (ab dt : List Int) (fs : List Slt) (L R : List As), s = .ref p ∧ Sl.St L H ∧ Sels [RvA a p qp rp size idle latest, RqA a.C_ReceiveQueue qp cap Rq, SrA a rp n ab dt fs] L R ∧ Rq.length < 90000 ∧ dt.length < 89000 ∧ φ p qp rp size idle latest cap Rq n ab dt fs L R
def sp_Receiver_init (K : PySem.W.Frag) (a : Ads) : Sp := A5 fun s q r z i H Q E => ∃ (p dx qp rp : Addr) (size idle : Int) (L R : List As), s = .ref p ∧ q = .ref qp ∧ r = .ref rp ∧ z = .int size ∧ i = .int idle ∧ Sl.St L H ∧ Sel (cell p (.ins a.C_Receiver dx [])) L R ∧ ∀ H', Sl.St (RvA a p qp rp size idle 0 :: R) H' → Q .non H'
def sp_Receiver_can_step (K : PySem.W.Frag) (a : Ads) : Sp := A1 fun s H Q E => RvSp a s H fun p qp rp size idle latest cap Rq n ab dt fs L R => Q (.bl (!Rq.isEmpty && !ab.isEmpty)) H
def sp_Receiver_step (K : PySem.W.Frag) (a : Ads) : Sp := A2 fun s t H Q E => RvSp a s H fun p qp rp size idle latest cap Rq n ab dt fs L R => ∃ (now : Int) (x : It) (u : Int) (S : List (It × Int)), t = .int now ∧ Rq = (x, u) :: S ∧ ab ≠ [] ∧
  ∀ v H', ItV H' v x → Sl.St (RvA a p qp rp size idle (rvStep x size now ab dt fs latest).2.2.2 :: RqA a.C_ReceiveQueue qp cap S :: SrA a rp n (rvStep x size now ab dt fs latest).1 (rvStep x size now ab dt fs latest).2.1 (rvStep x size now ab dt fs latest).2.2.1 :: R) H' → Q v H'
def sp_Receiver_close_idle (K : PySem.W.Frag) (a : Ads) : Sp := A2 fun s t H Q E => RvSp a s H fun p qp rp size idle latest cap Rq n ab dt fs L R => ∃ now : Int, t = .int now ∧ (dt ≠ [] → ab ≠ []) ∧
  ((dt = [] ∨ now - latest < idle) → Q (.bl false) H) ∧ (∀ b r, dt ≠ [] → ¬ now - latest < idle → ab = b :: r → ∀ H', Sl.St (RvA a p qp rp size idle latest :: RqA a.C_ReceiveQueue qp cap Rq :: SrA a rp n r [] (fs ++ [(b, dt, 0)]) :: R) H' → Q (.bl true) H')
def sp_Receiver_add (K : PySem.W.Frag) (a : Ads) : Sp := A3 fun s v t H Q E => RvSp a s H fun p qp rp size idle latest cap Rq n ab dt fs L R => ∃ (z now : Int), v = .int z ∧ t = .int now ∧ ab ≠ [] ∧
  ∀ H', Sl.St (RvA a p qp rp size idle (rvStep (.b z) size now ab dt fs latest).2.2.2 :: RqA a.C_ReceiveQueue qp cap Rq :: SrA a rp n (rvStep (.b z) size now ab dt fs latest).1 (rvStep (.b z) size now ab dt fs latest).2.1 (rvStep (.b z) size now ab dt fs latest).2.2.1 :: R) H' → Q .non H'
theorem ok_Receiver_init (T : Txt P w K mg base a) : FnOk P w K mg base (L2.CX P w) 1 a.f_Receiver_init a.fd_Receiver_init ["self", "queue", "ring", "size", "idle"] (sp_Receiver_init K a) := by
  refine T.F_Receiver_init.okX sc_Receiver_init (fun vs H Q E h => A5.len h) (fun cdv A outer s H vs Q E hr h => ?_)
  have hu := hu_of hr
  obtain ⟨v_self, v_queue, v_ring, v_size, v_idle, rfl, h⟩ := h
  refine ⟨_, (pss_cons (ps_fld (pv 0) (pv 1) rfl)
    (pss_cons (ps_fld (pv 0) (pv 2) rfl)
    (pss_cons (ps_fld (pv 0) (pv 3) rfl)
    (pss_cons (ps_fld (pv 0) (pv 4) rfl)
    (pss_one (ps_fld (pv 0) pe_int rfl)))))), ?_⟩
  obtain ⟨p, dx, qp, rp, size, idle, L, R, rfl, rfl, rfl, rfl, rfl, hs, se, k⟩ := h
  have hs := hs.sel se
  walk_at "x"
  rw [F_Receiver_init] at hs
  exact k _ (RvA.I hs .here)
theorem ok_Receiver_can_step (T : Txt P w K mg base a) : FnOk P w K mg base (L2.CX P w) 5 a.f_Receiver_can_step a.fd_Receiver_can_step ["self"] (sp_Receiver_can_step K a) := by
  have G_ReceiveQueue_first := ok_ReceiveQueue_first T
  have G_SlotRing_open_slot := ok_SlotRing_open_slot T
  refine T.F_Receiver_can_step.okX sc_Receiver_can_step (fun vs H Q E h => A1.len h) (fun cdv A outer s H vs Q E hr h => ?_)
  have hu := hu_of hr
  obtain ⟨v_self, rfl, h⟩ := h
  refine ⟨_, (pss_one (ps_ret (pe_and (pe_cmpR op_notN (pe_meth0S (pe_fld (pv 0) rfl) T.cl_ReceiveQueue T.m_ReceiveQueue_first G_ReceiveQueue_first (hr.mono (by decide)) T.b_ReceiveQueue_first (fun σ => passAt (takes_of rfl rfl rfl rfl) σ)) pe_non (nomark _)) (pe_one (pe_cmpR op_notN (pe_meth0S (pe_fld (pv 0) rfl) T.cl_SlotRing T.m_SlotRing_open_slot G_SlotRing_open_slot (hr.mono (by decide)) T.b_SlotRing_open_slot (fun σ => passAt (takes_of rfl rfl rfl rfl) σ)) pe_non (nomark _)))))), ?_⟩
  obtain ⟨p, qp, rp, size, idle, latest, cap, Rq, n, ab, dt, fs, L, R, rfl, hs, se, hR, hd, k⟩ := h
  have hs := hs.sels se
  simp only [List.cons_append, List.nil_append] at hs
  have hU := RvA.U hs .here
  clear hs
  obtain ⟨dx, hs⟩ := hU
  walk_at "x"
  refine c_rq_first hs (by walk_at "sel") (fun e => ?_) fun x t S v e i => ?_
  · subst e
    walk_at "x"
    refine ⟨rfl, ?_⟩
    walk_at "x"
    exact k
  · subst e
    walk_at "x"
    refine ⟨rfl, ?_⟩
    walk_at "x"
    have hv : v ≠ .non := by
      cases x with
      | b z => obtain rfl : v = .int z := i; exact V.noConfusion
      | m k => obtain ⟨t, rfl, _⟩ := i; exact V.noConfusion
    refine if_ndT hv ?_
    walk_at "x"
    refine a1 ⟨rp, n, ab, dt, fs, _, _, rfl, hs, by walk_at "sel", fun e => ?_, fun b r e => ?_⟩
    · subst e
      walk_at "x"
      exact ⟨rfl, by walk_at "x"; exact k⟩
    · subst e
      walk_at "x"
      exact ⟨rfl, by walk_at "x"; exact k⟩
theorem ok_Receiver_add (T : Txt P w K mg base a) : FnOk P w K mg base (L2.CX P w) 6 a.f_Receiver_add a.fd_Receiver_add ["self", "byte", "now"] (sp_Receiver_add K a) := by
  have G_SlotRing_add := ok_SlotRing_add T
  have G_SlotRing_open_count := ok_SlotRing_open_count T
  have G_SlotRing_close := ok_SlotRing_close T
  refine T.F_Receiver_add.okX sc_Receiver_add (fun vs H Q E h => A3.len h) (fun cdv A outer s H vs Q E hr h => ?_)
  have hu := hu_of hr
  obtain ⟨v_self, v_byte, v_now, rfl, h⟩ := h
  refine ⟨_, (pss_cons (ps_expr (pe_methS (pe_fld (pv 0) rfl) T.cl_SlotRing T.m_SlotRing_add G_SlotRing_add (hr.mono (by decide)) T.b_SlotRing_add (fun σ => passAt (takes_of rfl rfl rfl rfl) σ) (pa_cons (pv 1) pa_nil)))
    (pss_cons (ps_fld (pv 0) (pv 2) rfl)
    (pss_one (ps_if (pt_cmpR op_eq (pe_meth0S (pe_fld (pv 0) rfl) T.cl_SlotRing T.m_SlotRing_open_count G_SlotRing_open_count (hr.mono (by decide)) T.b_SlotRing_open_count (fun σ => passAt (takes_of rfl rfl rfl rfl) σ)) (pe_fld (pv 0) rfl) (nomark _)) (pss_one (ps_expr (pe_methS (pe_fld (pv 0) rfl) T.cl_SlotRing T.m_SlotRing_close G_SlotRing_close (hr.mono (by decide)) T.b_SlotRing_close (fun σ => passAt (takes_of rfl rfl rfl rfl) σ) (pa_cons pe_int pa_nil)))) pss_nil)))), ?_⟩
  obtain ⟨p, qp, rp, size, idle, latest, cap, Rq, n, ab, dt, fs, L, R, rfl, hs, se, hR, hd, z, now, rfl, rfl, hab, k⟩ := h
  have hs := hs.sels se
  simp only [List.cons_append, List.nil_append] at hs
  have hU := RvA.U hs .here
  clear hs
  obtain ⟨dx, hs⟩ := hU
  walk_at "x"
  refine a2 ⟨rp, n, ab, dt, fs, _, _, rfl, hs, by walk_at "sel", z, rfl, by omega, fun e => absurd e hab, fun _ H1 hs => ?_⟩
  walk_at "x"
  refine Rd.a1 ⟨rp, n, ab, dt ++ [z], fs, _, _, rfl, hs, by walk_at "sel", ?_⟩
  walk_at "x"
  obtain ⟨b, r, rfl⟩ := List.exists_cons_of_ne_nil hab
  refine if_d (fun c => ?_) (fun c => ?_)
  · walk_at "x"
    refine Rd.a2 ⟨rp, n, b :: r, dt ++ [z], fs, _, _, rfl, hs, by walk_at "sel", 0, rfl, (fun h => by cases h), fun b' r' e H2 hs => ?_⟩
    obtain ⟨rfl, rfl⟩ := List.cons.inj e
    walk_at "x"
    have e : rvStep (.b z) size now (b :: r) dt fs latest = (r, [], fs ++ [(b, dt ++ [z], 0)], now) := if_pos (int_inj c)
    rw [e] at k
    have hs := RvA.I hs (by walk_at "sel")
    exact k _ (hs.perm (by walk_at "sels"))
  · walk_at "x"
    have e : rvStep (.b z) size now (b :: r) dt fs latest = (b :: r, dt ++ [z], fs, now) := if_neg (int_ne c)
    rw [e] at k
    have hs := RvA.I hs (by walk_at "sel")
    exact k _ (hs.perm (by walk_at "sels"))
theorem ok_Receiver_step (T : Txt P w K mg base a) : FnOk P w K mg base (L2.CX P w) 7 a.f_Receiver_step a.fd_Receiver_step ["self", "now"] (sp_Receiver_step K a) := by
  have G_ReceiveQueue_take := ok_ReceiveQueue_take T
  have G_is_mark := ok_is_mark T
  have G_SlotRing_close := ok_SlotRing_close T
  have G_lost_by := ok_lost_by T
  have G_Receiver_add := ok_Receiver_add T
  refine T.F_Receiver_step.okX sc_Receiver_step (fun vs H Q E h => A2.len h) (fun cdv A outer s H vs Q E hr h => ?_)
  have hu := hu_of hr
  obtain ⟨v_self, v_now, rfl, h⟩ := h
  refine ⟨_, (pss_cons (ps_set (i := 2) sc_Receiver_step.nd rfl (by first | exact Or.inl rfl | exact Or.inr rfl) (pe_meth0S (pe_fld (pv 0) rfl) T.cl_ReceiveQueue T.m_ReceiveQueue_take G_ReceiveQueue_take (hr.mono (by decide)) T.b_ReceiveQueue_take (fun σ => passAt (takes_of rfl rfl rfl rfl) σ)))
    (Evl.pss_cut (ps_if (pt_val (pe_callS G_is_mark (hr.mono (by decide)) rfl T.g_is_mark T.F_is_mark.kp T.b_is_mark (fun σ => passAt (takes_of rfl rfl rfl rfl) σ) (pa_cons (pv 2) pa_nil))) (pss_one (ps_expr (pe_methS (pe_fld (pv 0) rfl) T.cl_SlotRing T.m_SlotRing_close G_SlotRing_close (hr.mono (by decide)) T.b_SlotRing_close (fun σ => passAt (takes_of rfl rfl rfl rfl) σ) (pa_cons (pe_callS G_lost_by (hr.mono (by decide)) rfl T.g_lost_by T.F_lost_by.kp T.b_lost_by (fun σ => passAt (takes_of rfl rfl rfl rfl) σ) (pa_cons (pv 2) pa_nil)) pa_nil)))) (pss_one (ps_expr (pe_methS (pv 0) T.cl_Receiver T.m_Receiver_add G_Receiver_add (hr.mono (by decide)) T.b_Receiver_add (fun σ => passAt (takes_of rfl rfl rfl rfl) σ) (pa_cons (pv 2) (pa_cons (pv 1) pa_nil))))))
    (pss_one (ps_ret (pv 2))))), ?_⟩
  obtain ⟨p, qp, rp, size, idle, latest, cap, Rq, n, ab, dt, fs, L, R, rfl, hs, se, hR, hd, now, x, u, S, rfl, rfl, hab, k⟩ := h
  have hs := hs.sels se
  simp only [List.cons_append, List.nil_append] at hs
  have hU := RvA.U hs .here
  clear hs
  obtain ⟨dx, hs⟩ := hU
  walk_at "x"
  refine c_rq_take hs (by walk_at "sel") hR (fun e => by cases e) fun x' u' S' v H1 e iv hs2 => ?_
  obtain ⟨e1, rfl⟩ := List.cons.inj e
  obtain ⟨rfl, rfl⟩ := Prod.mk.inj e1
  clear e e1 hs
  have hs := hs2
  clear hs2
  simp only [List.length_cons] at hR
  walk_at "x"
  refine s_cut0 ?_
  walk_at "x"
  refine a1 ⟨x, iv, ?_⟩
  walk_at "x"
  obtain ⟨b, r, rfl⟩ := List.exists_cons_of_ne_nil hab
  cases x with
  | m m =>
    refine iteT ?_
    walk_at "x"
    refine a1 ⟨m, iv, ?_⟩
    walk_at "x"
    have hs := itA.I hs iv
    refine a2 ⟨rp, n, b :: r, dt, fs, _, _, rfl, hs, by walk_at "sel", m, rfl, (fun h => by cases h), fun b' r' e H2 hs => ?_⟩
    obtain ⟨rfl, rfl⟩ := List.cons.inj e
    walk_at "x"
    have iv := itA.U hs (by walk_at "sel")
    have e : rvStep (.m m) size now (b :: r) dt fs latest = (r, [], fs ++ [(b, dt, m)], latest) := rfl
    rw [e] at k
    have hs := RvA.I hs (by walk_at "sel")
    exact k _ _ iv (hs.perm (by walk_at "sels"))
  | b z =>
    obtain rfl : v = .int z := iv
    refine iteF ?_
    have hs := RvA.I hs (by walk_at "sel")
    walk_at "x"
    refine a3 ⟨p, qp, rp, size, idle, latest, cap, S, n, b :: r, dt, fs, _, _, rfl, hs, by walk_at "sels", by omega, hd, z, now, rfl, rfl, hab, fun H2 hs => ?_⟩
    walk_at "x"
    exact k _ _ rfl hs
theorem ok_Receiver_close_idle (T : Txt P w K mg base a) : FnOk P w K mg base (L2.CX P w) 6 a.f_Receiver_close_idle a.fd_Receiver_close_idle ["self", "now"] (sp_Receiver_close_idle K a) := by
  have G_SlotRing_open_count := ok_SlotRing_open_count T
  have G_SlotRing_close := ok_SlotRing_close T
  refine T.F_Receiver_close_idle.okX sc_Receiver_close_idle (fun vs H Q E h => A2.len h) (fun cdv A outer s H vs Q E hr h => ?_)
  have hu := hu_of hr
  obtain ⟨v_self, v_now, rfl, h⟩ := h
  refine ⟨_, (pss_cons (ps_if (PW.pt (pw_or (pt_cmpR op_eq (pe_meth0S (pe_fld (pv 0) rfl) T.cl_SlotRing T.m_SlotRing_open_count G_SlotRing_open_count (hr.mono (by decide)) T.b_SlotRing_open_count (fun σ => passAt (takes_of rfl rfl rfl rfl) σ)) pe_int (nomark _)) (pw_or1 (pt_cmpR op_lt (pe_op op_sub (pv 1) (pe_fld (pv 0) rfl)) (pe_fld (pv 0) rfl) (nomark _))))) (pss_one (ps_ret pe_bl)) pss_nil)
    (pss_cons (ps_expr (pe_methS (pe_fld (pv 0) rfl) T.cl_SlotRing T.m_SlotRing_close G_SlotRing_close (hr.mono (by decide)) T.b_SlotRing_close (fun σ => passAt (takes_of rfl rfl rfl rfl) σ) (pa_cons pe_int pa_nil)))
    (pss_one (ps_ret pe_bl)))), ?_⟩
  obtain ⟨p, qp, rp, size, idle, latest, cap, Rq, n, ab, dt, fs, L, R, rfl, hs, se, hR, hd, now, rfl, hda, k0, k1⟩ := h
  have hs := hs.sels se
  simp only [List.cons_append, List.nil_append] at hs
  have hU := RvA.U hs .here
  clear hs
  obtain ⟨dx, hs⟩ := hU
  walk_at "x"
  refine a1 ⟨rp, n, ab, dt, fs, _, _, rfl, hs, by walk_at "sel", ?_⟩
  walk_at "x"
  refine if_d (fun c => ?_) (fun c => ?_)
  · walk_at "x"
    exact k0 (.inl (List.eq_nil_of_length_eq_zero (by have := int_inj c; omega)))
  · have hdn : dt ≠ [] := fun e => c (by rw [e]; rfl)
    walk_at "x"
    refine if_d (fun c => ?_) (fun c => ?_)
    · walk_at "x"
      exact k0 (.inr c)
    · walk_at "x"
      obtain ⟨b, r, rfl⟩ := List.exists_cons_of_ne_nil (hda hdn)
      refine a2 ⟨rp, n, b :: r, dt, fs, _, _, rfl, hs, by walk_at "sel", 0, rfl, (fun h => by cases h), fun b' r' e H2 hs => ?_⟩
      obtain ⟨rfl, rfl⟩ := List.cons.inj e
      walk_at "x"
      have hs := RvA.I hs (by walk_at "sel")
      exact k1 b r hdn c rfl _ (hs.perm (by walk_at "sels"))
/-! ### data of slots -/
def dSl (s : Slt) : PyData := .tuple [.int s.1, dInts s.2.1, .int s.2.2]
theorem dSl_ld (s : Slt) : LD 4 (dSl s) := LD.tup fun d hd => by
  simp only [List.mem_cons, List.not_mem_nil, or_false] at hd
  rcases hd with rfl | rfl | rfl
  · exact LD.int _
  · exact LD.ints _
  · exact LD.int _
theorem dSls_ld (ss : List Slt) : LD 5 (.list (ss.map dSl)) := LD.list fun d hd => by
  obtain ⟨s, _, rfl⟩ := List.mem_map.mp hd
  exact dSl_ld s
section
variable {L R : List As} {H : Hp} {v : V} {s : Slt} {vs : List V} {ss : List Slt}
theorem slotA.dp (hs : Sl.St L H) (se : Sel (slotA v s) L R) : Dp K H v (dSl s) := by
  obtain ⟨t, d, rfl, h⟩ := slotA.U hs se
  exact .tup (Or.inl (Or.inl (h.geti .here))) (.cons (.int _) (.cons (.lst (Or.inl (Or.inl (h.get (.there .here)))) (dp_ints _)) (.cons (.int _) .nil)))
theorem slotsA.dp : ∀ {vs : List V} {ss : List Slt} {L R : List As}, Sl.St L H → Sel (lA slotA vs ss) L R → DpAll K H vs (ss.map dSl)
  | vs, [], L, R, hs, se => by rw [lA.nilU (hs.sel se)]; exact .nil
  | vs, x :: ss, L, R, hs, se => by
    obtain ⟨v, ws, rfl, h⟩ := lA.unS hs se
    exact .cons (slotA.dp h .here) (slotsA.dp h (.there .here))
end
end
end My
set_option Elab.async false
set_option maxRecDepth 100000
set_option maxHeartbeats 100000000
set_option linter.all false
namespace My
open PySem L2 Sx Rd Sl
local macro_rules | `(tactic| walk_at "ne") => `(tactic| (first | with_reducible assumption | with_reducible exact Ne.symm (by with_reducible assumption)))
local macro_rules | `(tactic| walk_at "nin") => `(tactic| (simp only [List.mem_cons, List.not_mem_nil, or_false, not_or, not_false_eq_true]; (repeat' refine And.intro ?_ ?_); (all_goals walk_at "ne")))
local macro_rules | `(tactic| walk_at "hl") => `(tactic| (first | (with_reducible assumption) | exact upd_same | ((with_reducible refine' (upd_ne ?hne).trans ?hgo); (case hne => walk_at "ne"); (case hgo => walk_at "hl"))))
local macro_rules | `(tactic| walk_at "sq") => `(tactic| (first | (with_reducible assumption) | exact Or.inl (Or.inl (by walk_at "hl"))))
local macro_rules | `(tactic| walk_at "ar") => `(tactic| (first | omega | exact ⟨by omega, by omega⟩ | exact Or.inl ⟨by omega, by omega⟩ | exact Or.inr ⟨by omega, by omega⟩ | (show (0 : Int) < _; omega) | (show (0 : Int) < _ ∧ _ < (1073741824 : Int); omega)))
local macro_rules | `(tactic| walk_at "cls") => `(tactic| (first | exact Txt.cl_Receiver (by assumption) | exact Txt.cl_Ring (by assumption) | exact Txt.cl_ReceiveQueue (by assumption) | exact Txt.cl_SlotRing (by assumption)))
local macro_rules | `(tactic| walk_at "noa") => `(tactic| (first | exact Txt.n_Receiver_queue (by assumption) | exact Txt.n_Receiver_ring (by assumption) | exact Txt.n_Receiver_size (by assumption) | exact Txt.n_Receiver_idle (by assumption) | exact Txt.n_Receiver_latest (by assumption) | exact Txt.n_Ring_cells (by assumption) | exact Txt.n_Ring_written (by assumption) | exact Txt.n_Ring_taken (by assumption) | exact Txt.n_ReceiveQueue_capacity (by assumption) | exact Txt.n_ReceiveQueue_items (by assumption) | exact Txt.n_ReceiveQueue_ticks (by assumption) | exact Txt.n_SlotRing_slots (by assumption) | exact Txt.n_SlotRing_armed (by assumption) | exact Txt.n_SlotRing_filled (by assumption) | exact Txt.n_SlotRing_added (by assumption)))
local macro_rules | `(tactic| walk_at "lkp") => `(tactic| (first | (with_reducible exact F_Receiver_queue_l) | (with_reducible exact F_Receiver_ring_l) | (with_reducible exact F_Receiver_size_l) | (with_reducible exact F_Receiver_idle_l) | (with_reducible exact F_Receiver_latest_l) | (with_reducible exact F_Ring_cells_l) | (with_reducible exact F_Ring_written_l) | (with_reducible exact F_Ring_taken_l) | (with_reducible exact F_ReceiveQueue_capacity_l) | (with_reducible exact F_ReceiveQueue_items_l) | (with_reducible exact F_ReceiveQueue_ticks_l) | (with_reducible exact F_SlotRing_slots_l) | (with_reducible exact F_SlotRing_armed_l) | (with_reducible exact F_SlotRing_filled_l) | (with_reducible exact F_SlotRing_added_l)))
local macro_rules | `(tactic| walk_at "ptf") => `(tactic| (first | (with_reducible exact F_Receiver_queue_p) | (with_reducible exact F_Receiver_ring_p) | (with_reducible exact F_Receiver_size_p) | (with_reducible exact F_Receiver_idle_p) | (with_reducible exact F_Receiver_latest_p) | (with_reducible exact F_Ring_cells_p) | (with_reducible exact F_Ring_written_p) | (with_reducible exact F_Ring_taken_p) | (with_reducible exact F_ReceiveQueue_capacity_p) | (with_reducible exact F_ReceiveQueue_items_p) | (with_reducible exact F_ReceiveQueue_ticks_p) | (with_reducible exact F_SlotRing_slots_p) | (with_reducible exact F_SlotRing_armed_p) | (with_reducible exact F_SlotRing_filled_p) | (with_reducible exact F_SlotRing_added_p) | exact rfl))
local macro_rules | `(tactic| walk_at "lnF") => `(tactic| (first | (with_reducible exact F_Receiver_len) | (with_reducible exact F_Ring_len) | (with_reducible exact F_ReceiveQueue_len) | (with_reducible exact F_SlotRing_len) | (refine PL.lt (n := 60) ?_ (by decide); (repeat refine PL.put ?_); exact PL.nil) | decide))
local macro_rules | `(tactic| walk_at "nol") => `(tactic| (first | (with_reducible exact F_Receiver_m_can_step) | (with_reducible exact F_Receiver_m_step) | (with_reducible exact F_Receiver_m_close_idle) | (with_reducible exact F_Receiver_m_add) | (with_reducible exact F_Ring_m_held) | (with_reducible exact F_Ring_m_is_full) | (with_reducible exact F_Ring_m_put) | (with_reducible exact F_Ring_m_first) | (with_reducible exact F_Ring_m_take) | (with_reducible exact F_Ring_m_listed) | (with_reducible exact F_Ring_m_next) | (with_reducible exact F_ReceiveQueue_m_arrive) | (with_reducible exact F_ReceiveQueue_m_first) | (with_reducible exact F_ReceiveQueue_m_take) | (with_reducible exact F_ReceiveQueue_m_oldest_tick) | (with_reducible exact F_ReceiveQueue_m_bytes_held) | (with_reducible exact F_ReceiveQueue_m_contents) | (with_reducible exact F_ReceiveQueue_m_append) | (with_reducible exact F_ReceiveQueue_m_lose) | (with_reducible exact F_SlotRing_m_can_arm) | (with_reducible exact F_SlotRing_m_arm) | (with_reducible exact F_SlotRing_m_open_slot) | (with_reducible exact F_SlotRing_m_open_bytes) | (with_reducible exact F_SlotRing_m_open_count) | (with_reducible exact F_SlotRing_m_add) | (with_reducible exact F_SlotRing_m_close) | (with_reducible exact F_SlotRing_m_oldest) | (with_reducible exact F_SlotRing_m_reap) | (with_reducible exact F_SlotRing_m_filled_slots) | (with_reducible exact F_SlotRing_m_buffers)))
local macro_rules | `(tactic| walk_at "r1") => `(tactic| (first
  | with_reducible apply l_cons | ((with_reducible apply e_var); (case h => exact rfl)) | with_reducible apply l_nil | with_reducible apply s_seq | with_reducible apply e_c | with_reducible apply g_name
  | with_reducible apply s_asg | with_reducible apply e_call | with_reducible apply k_t | with_reducible apply e_op | with_reducible apply e_cb | with_reducible apply t_test
  | with_reducible apply s_if | with_reducible apply t_or | with_reducible apply t_and | with_reducible apply t_B | with_reducible apply s_next | with_reducible apply p_some
  | with_reducible apply p_no | with_reducible apply e_sl | with_reducible apply k_i | with_reducible apply e_lst | with_reducible apply t_not | with_reducible apply o_I0
  | ((with_reducible refine' o_I ?hc ?_); (case hc => walk_at "ar")) | with_reducible apply e_meth | ((with_reducible refine' k_meth ?h1 ?h2 ?_); (case h1 => walk_at "hl"); (case h2 => walk_at "nol")) | with_reducible apply e_fld | ((with_reducible refine' k_fld ?h1 ?h2 ?h3 ?h4 ?_); (case h1 => walk_at "hl"); (case h2 => walk_at "cls"); (case h3 => walk_at "noa"); (case h4 => walk_at "lkp")) | with_reducible apply e_not
  | with_reducible apply s_ret | ((with_reducible refine' k_ty ?h1 ?_); (case h1 => walk_at "sq")) | with_reducible apply s_drop | with_reducible apply s_retN | with_reducible apply s_cont | with_reducible apply s_break
  | with_reducible apply o_chC | ((with_reducible refine' o_chV ?hv ?_); (case hv => exact rfl)) | with_reducible apply e_un | with_reducible apply o_U | ((with_reducible refine' o_eq ?hs ?_); (case hs => exact rfl)) | ((with_reducible refine' o_ne ?hs ?_); (case hs => exact rfl))
  | ((with_reducible refine' o_ixL ?h1 ?h2 ?_); (case h1 => walk_at "sq"); (case h2 => first | exact rfl | exact atI_zero _ _)) | with_reducible apply s_fld | with_reducible apply e_make | ((with_reducible refine' k_set ?h1 ?h2 ?h3 ?h4 ?h5 ?_); (case h1 => walk_at "hl"); (case h2 => walk_at "cls"); (case h3 => walk_at "noa"); (case h4 => walk_at "ptf"); (case h5 => walk_at "lnF")) | with_reducible apply e_tup | with_reducible apply e_bm
  | with_reducible apply e_bm0 | with_reducible apply e_if | with_reducible apply e_chain | with_reducible apply s_raise | with_reducible apply g_sub | ((with_reducible refine' c_ln ?h1 ?_); (case h1 => walk_at "sq"))
  | ((with_reducible refine' c_pop0 ?h1 ?h2 ?_); (case h1 => walk_at "hl"); (case h2 => omega)) | with_reducible apply c_isBool | with_reducible apply c_isInt | with_reducible apply c_isBoolN | with_reducible apply c_isTupI | with_reducible apply c_isNonB
  | with_reducible apply c_isNonT | ((with_reducible refine' c_isList ?h1 ?_); (case h1 => walk_at "hl")) | ((with_reducible refine' c_isTup ?h1 ?_); (case h1 => walk_at "hl")) | ((with_reducible refine' c_isTupB ?h1 ?_); (case h1 => walk_at "hl")) | with_reducible apply o_isB | with_reducible apply o_notB
  | with_reducible apply e_and | with_reducible apply e_or | with_reducible apply k_bl | with_reducible apply e_xf | with_reducible apply s_augS | ((with_reducible refine' s_augV ?hv ?_); (case hv => exact rfl))
  | with_reducible apply ip_I | with_reducible apply e_lcE | ((with_reducible refine' k_xf ?h1 ?h2 ?_); (case h1 => walk_at "hl"); (case h2 => exact look_hit _ _ _)) | ((with_reducible refine' o_slL ?h1 ?_); (case h1 => walk_at "sq")) | ((with_reducible refine' k_dget ?h1 ?h2 ?_); (case h1 => walk_at "hl"); (case h2 => with_reducible assumption)) | with_reducible apply e_dget
  | with_reducible apply s_dput | with_reducible apply e_makeK | with_reducible apply g_cons | with_reducible apply g_nil | with_reducible apply c_ab | with_reducible apply c_in
  | with_reducible apply c_mx | with_reducible apply c_mn | with_reducible apply a1 | with_reducible apply a2 | with_reducible apply a3 | with_reducible apply a4
  | with_reducible apply a5 | with_reducible apply a6 | with_reducible apply a0 | with_reducible apply t_tru | with_reducible apply t_yes | ((with_reducible refine' k_truL ?h1 ?_); (case h1 => walk_at "sq")) | with_reducible refine d_nx ?_ | with_reducible refine d_rt ?_ | with_reducible refine d_bk ?_
  | with_reducible refine d_ct ?_))
local macro_rules | `(tactic| walk_at "r") => `(tactic| (repeat walk_at "r1"))
local macro_rules | `(tactic| walk_at "sel") => `(tactic| (first | with_reducible exact Sl.Sel.here | ((with_reducible refine' Sl.Sel.there ?t); (case t => walk_at "sel"))))
local macro_rules | `(tactic| walk_at "sels") => `(tactic| (first | with_reducible exact Sl.Sels.nil | ((with_reducible refine' Sl.Sels.cons ?a ?b); (case a => walk_at "sel"); (case b => walk_at "sels")) | with_reducible exact Sl.Sels.all _ | ((with_reducible refine' Sl.Sels.skip ?t); (case t => walk_at "sels"))))
local macro_rules | `(tactic| walk_at "selm") => `(tactic| ((try (simp only [])); (try simp only [List.map_append, List.map_cons, List.map_nil]); walk_at "sels"))
local macro_rules | `(tactic| walk_at "hg") => do
  let h := Lean.mkIdent `hs
  `(tactic| (first | (with_reducible assumption) | ((with_reducible refine' Sl.St.get $h ?s); (case s => walk_at "sel")) | ((with_reducible refine' Sl.St.geti $h ?s); (case s => walk_at "sel"))))
local macro_rules | `(tactic| walk_at "sg") => do
  let h := Lean.mkIdent `hs
  `(tactic| (first | (with_reducible assumption) | exact Or.inl (Or.inl (by walk_at "hg")) | (refine' Sl.sqA.U $h ?s; (case s => walk_at "sel"))))
local macro_rules | `(tactic| walk_at "le5") => `(tactic| (first | omega | (simp only [List.length_cons, List.length_nil, List.length_append, List.length_map]; omega) | (show _ ≤ _; decide) | (show _ < _; decide)))
local macro_rules | `(tactic| walk_at "km") => `(tactic| fail)
local macro_rules | `(tactic| walk_at "kf") => `(tactic| fail)
local macro_rules | `(tactic| walk_at "x1") => do
  let h := Lean.mkIdent `hs
  `(tactic| (first
  | with_reducible apply l_cons | ((with_reducible apply e_var); (case h => exact rfl)) | with_reducible apply l_nil | with_reducible apply s_seq | with_reducible apply e_c | with_reducible apply g_name
  | with_reducible apply s_asg | with_reducible apply e_call | with_reducible apply k_t | with_reducible apply e_op | with_reducible apply e_cb | with_reducible apply t_test
  | with_reducible apply s_if | with_reducible apply t_or | with_reducible apply t_and | with_reducible apply t_B | with_reducible apply s_next | with_reducible apply p_some
  | with_reducible apply p_no | with_reducible apply e_sl | with_reducible apply k_i | with_reducible apply Sl.e_lstS | with_reducible apply t_not | with_reducible apply o_I0
  | ((with_reducible refine' o_I ?hc ?_); (case hc => walk_at "ar")) | with_reducible apply e_meth | ((with_reducible refine' k_meth ?h1 ?h2 ?_); (case h1 => walk_at "hg"); (case h2 => walk_at "nol")) | walk_at "km" | with_reducible apply e_fld
  | ((with_reducible refine' k_fld ?h1 ?h2 ?h3 ?h4 ?_); (case h1 => walk_at "hg"); (case h2 => walk_at "cls"); (case h3 => walk_at "noa"); (case h4 => walk_at "lkp")) | walk_at "kf" | with_reducible apply e_not
  | with_reducible apply s_ret | ((with_reducible refine' k_ty ?h1 ?_); (case h1 => walk_at "sg")) | with_reducible apply s_drop | with_reducible apply s_retN | with_reducible apply s_cont | with_reducible apply s_break
  | with_reducible apply o_chC | ((with_reducible refine' o_chV ?hv ?_); (case hv => exact rfl)) | with_reducible apply e_un | with_reducible apply o_U | ((with_reducible refine' o_eq ?hs ?_); (case hs => exact rfl)) | ((with_reducible refine' o_ne ?hs ?_); (case hs => exact rfl))
  | ((with_reducible refine' o_ixL ?h1 ?h2 ?_); (case h1 => walk_at "sg"); (case h2 => first | exact rfl | exact atI_zero _ _)) | ((with_reducible refine' o_ixT ?h1 ?h2 ?_); (case h1 => walk_at "sg"); (case h2 => first | exact rfl | exact atI_zero _ _)) | with_reducible apply s_fld | with_reducible apply Sl.e_makeS
  | ((with_reducible refine' Sl.k_setS $h ?h1 ?h2 ?h3 ?h4 ?h5 ?_); (case h1 => walk_at "sel"); (case h2 => walk_at "cls"); (case h3 => walk_at "noa"); (case h4 => walk_at "ptf"); (case h5 => walk_at "lnF"); (clear $h; intro _ $h)) | with_reducible apply Sl.e_tupS | with_reducible apply e_bm
  | with_reducible apply e_bm0 | with_reducible apply e_if | with_reducible apply e_chain | with_reducible apply s_raise | with_reducible apply g_sub | ((with_reducible refine' c_ln ?h1 ?_); (case h1 => walk_at "sg")) | ((with_reducible refine' c_lnT ?h1 ?_); (case h1 => walk_at "sg"))
  | ((with_reducible refine' Sl.k_newL $h ?h1 ?_); (case h1 => walk_at "le5"); (clear $h; intro _ _ $h)) | ((with_reducible refine' Sl.k_newT $h ?h1 ?_); (case h1 => walk_at "le5"); (clear $h; intro _ _ $h)) | ((with_reducible refine' Sl.k_make $h ?_); (clear $h; intro _ _ _ $h))
  | ((with_reducible refine' Sl.c_appS $h ?h1 ?h2 ?_); (case h1 => walk_at "sel"); (case h2 => walk_at "le5"); (clear $h; intro _ $h)) | ((with_reducible refine' Sl.c_pop0S $h ?h1 ?h2 ?_); (case h1 => walk_at "sel"); (case h2 => walk_at "le5"); (clear $h; intro _ $h))
  | ((with_reducible refine' Sl.c_lsS $h ?h1 ?_); (case h1 => walk_at "sg"); (clear $h; intro _ _ $h)) | ((with_reducible refine' Sl.o_slLS $h ?h1 ?_); (case h1 => walk_at "sg"); (clear $h; intro _ _ $h)) | ((with_reducible refine' Sl.c_clrS $h ?h1 ?_); (case h1 => walk_at "sel"); (clear $h; intro _ $h))
  | ((with_reducible refine' Sl.o_catS $h ?h1 ?h2 ?h3 ?_); (case h1 => walk_at "hg"); (case h2 => walk_at "hg"); (case h3 => walk_at "le5"); (clear $h; intro _ _ $h)) | ((with_reducible refine' Sl.c_extS $h ?h1 ?h2 ?h3 ?_); (case h1 => walk_at "sel"); (case h2 => walk_at "hg"); (case h3 => walk_at "le5"); (clear $h; intro _ $h))
  | ((with_reducible refine' Sl.k_raise $h ?h1 ?_); (case h1 => exact okV_int ⟨by omega, by omega⟩); (clear $h; intro _ _ $h))
  | with_reducible apply c_isBool | with_reducible apply c_isInt | with_reducible apply c_isBoolN | with_reducible apply c_isTupI | with_reducible apply c_isNonB
  | with_reducible apply c_isNonT | ((with_reducible refine' c_isList ?h1 ?_); (case h1 => walk_at "hg")) | ((with_reducible refine' c_isTup ?h1 ?_); (case h1 => walk_at "hg")) | ((with_reducible refine' c_isTupB ?h1 ?_); (case h1 => walk_at "hg")) | with_reducible apply o_isB | with_reducible apply o_notB
  | with_reducible apply e_and | with_reducible apply e_or | with_reducible apply k_bl | with_reducible apply e_xf | with_reducible apply s_augS | ((with_reducible refine' s_augV ?hv ?_); (case hv => exact rfl)) | with_reducible apply Sl.s_aug
  | with_reducible apply ip_I | with_reducible apply e_lcE | with_reducible apply e_lcL | with_reducible apply f_lst | with_reducible apply e_lcF | with_reducible apply f_rng1 | ((with_reducible refine' k_xf ?h1 ?h2 ?_); (case h1 => walk_at "hg"); (case h2 => exact look_hit _ _ _)) | ((with_reducible refine' k_dget ?h1 ?h2 ?_); (case h1 => walk_at "hg"); (case h2 => with_reducible assumption)) | with_reducible apply e_dget
  | with_reducible apply s_dput | with_reducible apply Sl.e_makeKS | with_reducible apply g_cons | with_reducible apply g_nil | ((with_reducible refine' g_tup ?h1 ?h2 ?_); (case h1 => walk_at "sg"); (case h2 => exact rfl)) | with_reducible apply c_ab | with_reducible apply c_in
  | with_reducible apply c_mx | with_reducible apply c_mn | with_reducible apply a1 | with_reducible apply a2 | with_reducible apply a3 | with_reducible apply a4
  | with_reducible apply a5 | with_reducible apply a6 | with_reducible apply a0 | with_reducible apply t_tru | with_reducible apply t_yes | ((with_reducible refine' k_truL ?h1 ?_); (case h1 => walk_at "sg")) | with_reducible refine d_nx ?_ | with_reducible refine d_rt ?_ | with_reducible refine d_bk ?_
  | with_reducible refine d_ct ?_))
local macro_rules | `(tactic| walk_at "x") => `(tactic| (repeat walk_at "x1"))
local macro_rules | `(tactic| walk_at "km") => do let h := Lean.mkIdent `hs; `(tactic| ((with_reducible refine' km_Ring $h ?s ?m ?_); (case s => walk_at "sel"); (case m => intros; walk_at "nol")))
local macro_rules | `(tactic| walk_at "km") => do let h := Lean.mkIdent `hs; `(tactic| ((with_reducible refine' km_SlotRing $h ?s ?m ?_); (case s => walk_at "sel"); (case m => intros; walk_at "nol")))
local macro_rules | `(tactic| walk_at "km") => do let h := Lean.mkIdent `hs; `(tactic| ((with_reducible refine' km_Rq $h ?s ?m ?_); (case s => walk_at "sel"); (case m => intros; walk_at "nol")))
local macro_rules | `(tactic| walk_at "kf") => do let h := Lean.mkIdent `hs; `(tactic| ((with_reducible refine' kf_Rq_cap $h ?s ?c ?n ?_); (case s => walk_at "sel"); (case c => walk_at "cls"); (case n => walk_at "noa")))
local macro_rules | `(tactic| walk_at "km") => do let h := Lean.mkIdent `hs; `(tactic| ((with_reducible refine' km_Rv $h ?s ?m ?_); (case s => walk_at "sel"); (case m => intros; walk_at "nol")))
section
variable {P : Program} {w : World} {K : PySem.W.Frag} {mg : Str → Option Value} {base : Heap} {a : Ads}
/-! ### counts of bytes -/
theorem bys_snoc (xs : List It) (x : It) : bys (xs ++ [x]) = bys xs + (if isB x = true then 1 else 0) := by
  unfold bys
  rw [List.length_append, List.length_singleton, List.range_succ, List.filter_append, List.length_append]
  congr 1
  · congr 1
    refine List.filter_congr fun i hi => ?_
    rw [List.getElem?_append_left (List.mem_range.mp hi)]
  · rw [List.filter_cons, List.getElem?_append_right (Nat.le_refl _), Nat.sub_self]
    show List.length (if isB x = true then _ else _) = _
    split <;> rfl
theorem bys_take {xs : List It} {i : Nat} {x : It} (h : xs[i]? = some x) : bys (xs.take (i + 1)) = bys (xs.take i) + (if isB x = true then 1 else 0) := by rw [take_snoc h, bys_snoc]
theorem its_app (R : List (It × Int)) (x : It) (t : Int) : its (R ++ [(x, t)]) = its R ++ [x] := by simp [its]
/-! ### the law's own lists -/
def WdA (pw : Addr) (xs : List It) (ab dt : List Int) (fs : List Slt) (lat nxt : Int) : As := ex fun il => ex fun al => ex fun dl => ex fun fl => ex fun vs => ex fun vi => Sl.all [cell pw (.lst [.ref il, .ref al, .ref dl, .ref fl, .int lat, .int nxt]), cell il (.lst vi), itsA vi xs,
  cell al (.lst (ab.map V.int)), cell dl (.lst (dt.map V.int)), cell fl (.lst vs), lA slotA vs fs]
section
variable {L R : List As} {H : Hp} {pw : Addr} {xs : List It} {ab dt : List Int} {fs : List Slt} {lat nxt : Int}
theorem WdA.U (hs : Sl.St L H) (se : Sel (WdA pw xs ab dt fs lat nxt) L R) : ∃ il al dl fl vs vi, vs.length = fs.length ∧ Its H vi xs ∧ Sl.St (cell pw (.lst [.ref il, .ref al, .ref dl, .ref fl, .int lat, .int nxt]) :: cell il (.lst vi) :: itsA vi xs ::
  cell al (.lst (ab.map V.int)) :: cell dl (.lst (dt.map V.int)) :: cell fl (.lst vs) :: lA slotA vs fs :: R) H := by
  obtain ⟨il, h⟩ := (hs.sel se).exU
  obtain ⟨al, h⟩ := h.exU
  obtain ⟨dl, h⟩ := h.exU
  obtain ⟨fl, h⟩ := h.exU
  obtain ⟨vs, h⟩ := h.exU
  obtain ⟨vi, h⟩ := h.exU
  have h := h.allU
  exact ⟨il, al, dl, fl, vs, vi, lA.lenS h (.there (.there (.there (.there (.there (.there .here)))))), itsA.U h (.there (.there .here)), h⟩
theorem WdA.I {il al dl fl : Addr} {vs vi : List V} (hs : Sl.St L H) (se : Sels [cell pw (.lst [.ref il, .ref al, .ref dl, .ref fl, .int lat, .int nxt]), cell il (.lst vi), itsA vi xs, cell al (.lst (ab.map V.int)), cell dl (.lst (dt.map V.int)), cell fl (.lst vs), lA slotA vs fs] L R) : Sl.St (WdA pw xs ab dt fs lat nxt :: R) H :=
  Sl.St.exI il (Sl.St.exI al (Sl.St.exI dl (Sl.St.exI fl (Sl.St.exI vs (Sl.St.exI vi (Sl.St.allI (L := [_, _, _, _, _, _, _]) (hs.sels se)))))))
/-- its row of items put anew -/
theorem WdA.I2 {il al dl fl : Addr} {vs vi : List V} (hs : Sl.St L H) (hi : Its H vi xs) (se : Sels [cell pw (.lst [.ref il, .ref al, .ref dl, .ref fl, .int lat, .int nxt]), cell il (.lst vi), cell al (.lst (ab.map V.int)), cell dl (.lst (dt.map V.int)), cell fl (.lst vs), lA slotA vs fs] L R) : Sl.St (WdA pw xs ab dt fs lat nxt :: R) H := by
  cases se with
  | cons s0 se => cases se with
    | cons s1 se => exact WdA.I (hs.perI hi : Sl.St (itsA vi xs :: L) H) (.cons (.there s0) (.cons (.there s1) (.cons .here se)))
end
def sp_law_close (K : PySem.W.Frag) (a : Ads) : Sp := A2 fun s v H Q E => ∃ (pw : Addr) (xs : List It) (b : Int) (r dt : List Int) (fs : List Slt) (lat nxt lost : Int) (L R : List As), s = .ref pw ∧ v = .int lost ∧ Sl.St L H ∧ Sel (WdA pw xs (b :: r) dt fs lat nxt) L R ∧ r.length < 1000 ∧ fs.length < 1000 ∧
  ∀ H', Sl.St (WdA pw xs r [] (fs ++ [(b, dt, lost)]) lat nxt :: R) H' → Q .non H'
def sp_law_arrives (K : PySem.W.Frag) (a : Ads) : Sp := A4 fun q s v t H Q E => ∃ (qp pw : Addr) (cap z now : Int) (Rq : List (It × Int)) (ab dt : List Int) (fs : List Slt) (lat nxt : Int) (L R : List As), q = .ref qp ∧ s = .ref pw ∧ v = .int z ∧ t = .int now ∧ Sl.St L H ∧ Sels [RqA a.C_ReceiveQueue qp cap Rq, WdA pw (its Rq) ab dt fs lat nxt] L R ∧ Rq.length < 90000 ∧ 1 ≤ cap ∧
  ∀ H', Sl.St (RqA a.C_ReceiveQueue qp cap (arrT Rq cap z now) :: WdA pw (its (arrT Rq cap z now)) ab dt fs lat nxt :: R) H' → Q .non H'
theorem ok_law_close (T : Txt P w K mg base a) : FnOk P w K mg base (L2.CX P w) 1 a.f_law_close a.fd_law_close ["world", "lost"] (sp_law_close K a) := by
  refine T.F_law_close.okX sc_law_close (fun vs H Q E h => A2.len h) (fun cdv A outer s H vs Q E hr h => ?_)
  have hu := hu_of hr
  obtain ⟨v_world, v_lost, rfl, h⟩ := h
  refine ⟨_, (pss_cons (ps_set (i := 2) sc_law_close.nd rfl (by first | exact Or.inl rfl | exact Or.inr rfl) (pe_ix ix_list (pv 0) pe_int (fun _ _ => rfl)))
    (pss_cons (ps_expr (pe_bm PySem.F.plainAttrs_list PySem.F.slot_list_append PySem.F.type_list_append mt_append (pv 2) (pa_cons (pe_tup (pa_cons (pe_bm PySem.F.plainAttrs_list PySem.F.slot_list_pop PySem.F.type_list_pop mt_popAt (pe_ix ix_list (pv 0) pe_int (fun _ _ => rfl)) (pa_cons pe_int pa_nil)) (pa_cons (pe_ix ix_list (pv 0) pe_int (fun _ _ => rfl)) (pa_cons (pv 1) pa_nil)))) pa_nil)))
    (pss_one (ps_asg (pe_lst pa_nil) (pg_sub (pv 0) pe_int set_list))))), ?_⟩
  obtain ⟨pw, xs, b, r, dt, fs, lat, nxt, lost, L, R, rfl, rfl, hs, se, hr, hf, k⟩ := h
  have hU := WdA.U hs se
  clear hs
  obtain ⟨il, al, dl, fl, vs, vi, hl, hi, hs⟩ := hU
  simp only [List.map_cons] at hs
  walk_at "x"
  refine c_setLS (j := 2) hs (by walk_at "sel") rfl (by simp) fun H1 hs => ?_
  walk_at "x"
  have hs := slotA.I (s := (b, dt, lost)) hs (by walk_at "sels")
  have hs := lA.snocS (Pa := slotA) (x := (b, dt, lost)) (xs := fs) hs (by walk_at "sel") (by walk_at "sel")
  exact k _ (WdA.I (xs := xs) (ab := r) (dt := []) (fs := fs ++ [(b, dt, lost)]) hs (by simp only [List.set]; walk_at "selm"))
theorem ok_law_arrives (T : Txt P w K mg base a) : FnOk P w K mg base (L2.CX P w) 5 a.f_law_arrives a.fd_law_arrives ["queue", "world", "byte", "tick"] (sp_law_arrives K a) := by
  have G_ReceiveQueue_arrive := ok_ReceiveQueue_arrive T
  refine T.F_law_arrives.okX sc_law_arrives (fun vs H Q E h => A4.len h) (fun cdv A outer s H vs Q E hr h => ?_)
  have hu := hu_of hr
  obtain ⟨v_queue, v_world, v_byte, v_tick, rfl, h⟩ := h
  refine ⟨_, (pss_cons (ps_set (i := 4) sc_law_arrives.nd rfl (by first | exact Or.inl rfl | exact Or.inr rfl) (pe_ix ix_list (pv 1) pe_int (fun _ _ => rfl)))
    (pss_cons (ps_expr (pe_methS (pv 0) T.cl_ReceiveQueue T.m_ReceiveQueue_arrive G_ReceiveQueue_arrive (hr.mono (by decide)) T.b_ReceiveQueue_arrive (fun σ => passAt (takes_of rfl rfl rfl rfl) σ) (pa_cons (pv 2) (pa_cons (pv 3) pa_nil))))
    (pss_one (ps_if (pt_cmpR op_lt (pe_callB call_ln (by rfl) T.g_len (by decide +kernel) (pa_cons (pe_lc (own := [("item", 5)]) (g := (gName 5)) (tt := (tNot (tB (tCB (rIsi K) (tCons (tVar 5) (tCons (tC (.ty "tuple")) tNil)))))) (te := (tVar 5)) rfl sc_law_arrives.nd (pi_list (pv 4)) (blkOk_by (N := ["queue", "world", "byte", "tick", "items", "item"]) (sc := defScope s_law_arrives) (own := [("item", 5)]) (by decide +kernel)) (fun _ _ _ _ _ => by exact (pg_name (i := 5) sc_law_arrives.nd rfl (by first | exact Or.inl rfl | exact Or.inr rfl))) (fun _ _ _ _ _ => by exact (pts_one (pt_not (pt_val (pe_callB call_isi (by rfl) T.g_isinstance (by decide +kernel) (pa_cons (pv 5) (pa_cons (pe_bltn (v := .ty "tuple") rfl T.g_tuple (by decide +kernel) rfl) pa_nil))))))) (fun _ _ _ _ _ => by exact (pv 5))) pa_nil)) (pe_fld (pv 0) rfl) (nomark _)) (pss_one (ps_expr (pe_bm PySem.F.plainAttrs_list PySem.F.slot_list_append PySem.F.type_list_append mt_append (pv 4) (pa_cons (pv 2) pa_nil)))) (pss_one (ps_if (pt_val (pe_callB call_isi (by rfl) T.g_isinstance (by decide +kernel) (pa_cons (pe_ix ix_list (pv 4) (pe_op op_sub (pe_callB call_ln (by rfl) T.g_len (by decide +kernel) (pa_cons (pv 4) pa_nil)) pe_int) (fun _ _ => rfl)) (pa_cons (pe_bltn (v := .ty "tuple") rfl T.g_tuple (by decide +kernel) rfl) pa_nil)))) (pss_one (ps_asg (pe_tup (pa_cons pe_str (pa_cons (pe_op op_add (pe_ix ix_tup (pe_ix ix_list (pv 4) (pe_op op_sub (pe_callB call_ln (by rfl) T.g_len (by decide +kernel) (pa_cons (pv 4) pa_nil)) pe_int) (fun _ _ => rfl)) pe_int (fun _ _ => rfl)) pe_int) pa_nil))) (pg_sub (pv 4) (pe_op op_sub (pe_callB call_ln (by rfl) T.g_len (by decide +kernel) (pa_cons (pv 4) pa_nil)) pe_int) set_list))) (pss_one (ps_expr (pe_bm PySem.F.plainAttrs_list PySem.F.slot_list_append PySem.F.type_list_append mt_append (pv 4) (pa_cons (pe_tup (pa_cons pe_str (pa_cons pe_int pa_nil))) pa_nil)))))))))), ?_⟩
  obtain ⟨qp, pw, cap, z, now, Rq, ab, dt, fs, lat, nxt, L, R, rfl, rfl, rfl, rfl, hs, se, hR, hc, k⟩ := h
  have hs := hs.sels se
  simp only [List.cons_append, List.nil_append] at hs
  have hU := WdA.U hs (.there .here)
  clear hs
  obtain ⟨il, al, dl, fl, vs, vi, hl, hi, hs⟩ := hU
  have hil := hi.1
  rw [show (its Rq).length = Rq.length by simp [its]] at hil
  walk_at "x"
  refine c_rq_arrive hs (by walk_at "sel") hR fun H1 hs => ?_
  walk_at "x"
  refine k_lcLS (fun i acc => acc.length = bys ((its Rq).take i)) (fun _ _ => _) hs (by walk_at "sg") (by omega) rfl (fun i E acc H' _ hs => by walk_at "sg") (fun E i x acc H' hx ha f hs R0 N y n => ?_) fun E acc H' ha f hs => ?_
  · have hi := itsA.U hs (by walk_at "sel")
    have hlt : i < (its Rq).length := by rw [← hi.1]; exact (List.getElem?_eq_some_iff.mp hx).1
    have hxi := List.getElem?_eq_getElem hlt
    have iv := hi.2 i x _ hx hxi
    walk_at "x"
    refine ⟨rfl, ?_⟩
    walk_at "x"
    cases hx0 : (its Rq)[i] with
    | b z =>
      rw [hx0] at iv hxi
      obtain rfl : x = .int z := iv
      walk_at "x"
      refine iteT ?_
      walk_at "x"
      refine y _ _ ?_ (hs.perm (by walk_at "selm"))
      show (acc ++ [_]).length = bys (List.take (i + 1) (its Rq))
      rw [bys_take hxi, List.length_append, f]; rfl
    | m k =>
      rw [hx0] at iv hxi
      obtain ⟨t, rfl, g⟩ := iv
      walk_at "x"
      refine iteF ?_
      refine n _ ?_ (hs.perm (by walk_at "selm"))
      show acc.length = bys (List.take (i + 1) (its Rq))
      rw [bys_take hxi, f]; rfl
  · rw [hi.1, List.take_length] at f
    walk_at "x"
    rw [f]
    refine if_d (fun c => ?_) (fun c => ?_)
    · have e : arrT Rq cap z now = Rq ++ [(.b z, now)] := if_pos c
      rw [e] at hs k
      walk_at "x"
      have hi := itsA.U hs (by walk_at "sel")
      have hs := WdA.I2 (xs := its (Rq ++ [(.b z, now)])) (ab := ab) (dt := dt) (fs := fs) hs (by rw [its_app]; exact hi.app rfl) (by walk_at "sels")
      exact k _ (hs.perm (by walk_at "sels"))
    · have e : arrT Rq cap z now = losT Rq now := if_neg c
      rw [e] at hs k
      have hi := itsA.U hs (by walk_at "sel")
      rcases snoc_cases Rq with rfl | ⟨S, ⟨x, t0⟩, rfl⟩
      · exact absurd (by show (0 : Int) < cap; omega) c
      rw [its_app] at hi
      obtain ⟨ws, v, rfl, hws, hv⟩ := hi.snoc
      have hlen : ((ws ++ [v]).length : Int) - 1 = ((ws.length : Nat) : Int) := by simp
      walk_at "x"
      rw [hlen]
      refine o_ixL (by walk_at "sg") (atI_nat (List.getElem?_concat_length)) ?_
      cases x with
      | b z0 =>
        rw [losT_b] at hs k
        obtain rfl : v = .int z0 := hv
        walk_at "x"
        refine iteF ?_
        walk_at "x"
        have hi2 := itsA.U (xs := its (S ++ [(.b z0, t0)])) hs (by walk_at "sel")
        have hm : ItV _ _ (.m 1) := ⟨_, rfl, hs.geti (o := .tup [.str "lost", .int 1]) (by walk_at "sel")⟩
        have hs := WdA.I2 (xs := its (S ++ [(.b z0, t0)] ++ [(.m 1, now)])) (ab := ab) (dt := dt) (fs := fs) hs (by have z := hi2.app hm; rw [← its_app _ _ now] at z; exact z) (by walk_at "sels")
        exact k _ (hs.perm (by walk_at "sels"))
      | m m0 =>
        rw [losT_m] at hs k
        obtain ⟨t, rfl, g⟩ := hv
        walk_at "x"
        refine iteT ?_
        walk_at "x"
        rw [hlen]
        refine o_ixL (by walk_at "sg") (atI_nat (List.getElem?_concat_length)) ?_
        walk_at "x"
        rw [hlen]
        refine c_setLS (j := ws.length) hs (by walk_at "sel") rfl (by simp) fun H2 hs => ?_
        rw [List.set_append_right _ _ (Nat.le_refl _), Nat.sub_self] at hs
        simp only [List.set_cons_zero] at hs
        walk_at "x"
        have hi2 := itsA.U (vs := ws ++ [.ref t]) (xs := its (S ++ [(.m m0, t0)])) hs (by walk_at "sel")
        rw [its_app] at hi2
        obtain ⟨ws', v', e, hws', _⟩ := hi2.snoc
        obtain ⟨rfl, _⟩ := List.append_inj' e rfl
        have hm : ItV _ _ (.m (m0 + 1)) := ⟨_, rfl, hs.geti (o := .tup [.str "lost", .int (m0 + 1)]) (by walk_at "sel")⟩
        have hs := WdA.I2 (xs := its (S ++ [(.m (m0 + 1), t0)])) (ab := ab) (dt := dt) (fs := fs) hs (by have z := hws'.app hm; rw [← its_app _ _ t0] at z; exact z) (by walk_at "sels")
        exact k _ (hs.perm (by walk_at "sels"))
/-- what the steps do to a state of the law and the handler -/
def AgL (a : Ads) (p qp rp pw : Addr) (size idle cap nxt : Int) (n : Nat) (R : List (It × Int)) (ab dt : List Int) (fs : List Slt) (lat : Int) : List As := [RvA a p qp rp size idle lat, RqA a.C_ReceiveQueue qp cap R, SrA a rp n ab dt fs, WdA pw (its R) ab dt fs lat nxt]
def AgA (a : Ads) (p qp rp pw : Addr) (size idle cap nxt : Int) (n : Nat) (R : List (It × Int)) (ab dt : List Int) (fs : List Slt) (lat : Int) : As := Sl.all (AgL a p qp rp pw size idle cap nxt n R ab dt fs lat)
section
variable {L M : List As} {H : Hp} {p qp rp pw : Addr} {size idle cap nxt lat : Int} {n : Nat} {R : List (It × Int)} {ab dt : List Int} {fs : List Slt}
theorem AgA.U (hs : Sl.St L H) (se : Sel (AgA a p qp rp pw size idle cap nxt n R ab dt fs lat) L M) : Sl.St (RvA a p qp rp size idle lat :: RqA a.C_ReceiveQueue qp cap R :: SrA a rp n ab dt fs :: WdA pw (its R) ab dt fs lat nxt :: M) H := Sl.St.allU (L := [_, _, _, _]) (hs.sel se)
theorem AgA.I (hs : Sl.St L H) (se : Sels [RvA a p qp rp size idle lat, RqA a.C_ReceiveQueue qp cap R, SrA a rp n ab dt fs, WdA pw (its R) ab dt fs lat nxt] L M) : Sl.St (AgA a p qp rp pw size idle cap nxt n R ab dt fs lat :: M) H := Sl.St.allI (L := [_, _, _, _]) (hs.sels se)
end
def sp_law_steps (K : PySem.W.Frag) (a : Ads) : Sp := A4 fun s w z t H Q E => ∃ (p qp rp pw : Addr) (size idle cap nxt now : Int) (n : Nat) (R : List (It × Int)) (ab dt : List Int) (fs : List Slt) (lat : Int) (L M : List As), s = .ref p ∧ w = .ref pw ∧ z = .int size ∧ t = .int now ∧ Sl.St L H ∧ Sel (AgA a p qp rp pw size idle cap nxt n R ab dt fs lat) L M ∧ R.length < 90000 ∧ dt.length < 89000 ∧
  ∀ R' ab' dt' fs' lat' H', R'.length ≤ R.length → dt'.length ≤ dt.length + 1 → ((dt ≠ [] → ab ≠ []) → dt' ≠ [] → ab' ≠ []) → Sl.St (AgA a p qp rp pw size idle cap nxt n R' ab' dt' fs' lat' :: M) H' → Q (.bl true) H'
def sp_law_idles (K : PySem.W.Frag) (a : Ads) : Sp := A4 fun s w z t H Q E => ∃ (p qp rp pw : Addr) (size idle cap nxt now : Int) (n : Nat) (R : List (It × Int)) (ab dt : List Int) (fs : List Slt) (lat : Int) (L M : List As), s = .ref p ∧ w = .ref pw ∧ z = .int idle ∧ t = .int now ∧ Sl.St L H ∧ Sel (AgA a p qp rp pw size idle cap nxt n R ab dt fs lat) L M ∧ R.length < 90000 ∧ dt.length < 89000 ∧ (dt ≠ [] → ab ≠ []) ∧
  ∀ ab' dt' fs' H', dt'.length ≤ dt.length → (dt' ≠ [] → ab' ≠ []) → Sl.St (AgA a p qp rp pw size idle cap nxt n R ab' dt' fs' lat :: M) H' → Q (.bl true) H'
def sp_law_agrees (K : PySem.W.Frag) (a : Ads) : Sp := A4 fun s q r w H Q E => ∃ (p qp rp pw : Addr) (size idle cap nxt : Int) (n : Nat) (R : List (It × Int)) (ab dt : List Int) (fs : List Slt) (lat : Int) (L M : List As), s = .ref p ∧ q = .ref qp ∧ r = .ref rp ∧ w = .ref pw ∧ Sl.St L H ∧ Sel (AgA a p qp rp pw size idle cap nxt n R ab dt fs lat) L M ∧
  ∀ H', Sl.St (AgA a p qp rp pw size idle cap nxt n R ab dt fs lat :: M) H' → Q (.bl true) H'
def sp_law_changes (K : PySem.W.Frag) (a : Ads) : Sp := A6 fun s q r w z t H Q E => ∃ (st p qp rp pw : Addr) (size idle cap nxt now : Int) (n : Nat) (R : List (It × Int)) (ab dt : List Int) (fs : List Slt) (lat : Int) (L M : List As), s = .ref st ∧ q = .ref qp ∧ r = .ref rp ∧ w = .ref pw ∧ z = .int n ∧ t = .int now ∧ Sl.St L H ∧ Sels [StA st, AgA a p qp rp pw size idle cap nxt n R ab dt fs lat] L M ∧ R.length < 80000 ∧ 1 ≤ cap ∧
  ∀ R' ab' fs' nxt' H', R'.length ≤ R.length + 9 → ((dt ≠ [] → ab ≠ []) → dt ≠ [] → ab' ≠ []) → Sl.St (StA st :: AgA a p qp rp pw size idle cap nxt' n R' ab' dt fs' lat :: M) H' → Q .non H'
theorem arrT_len (R : List (It × Int)) (cap z t : Int) : (arrT R cap z t).length ≤ R.length + 1 := by
  unfold arrT losT
  split
  · simp
  · split <;> simp <;> omega
theorem ok_law_steps (T : Txt P w K mg base a) : FnOk P w K mg base (L2.CX P w) 8 a.f_law_steps a.fd_law_steps ["receiver", "world", "size", "now"] (sp_law_steps K a) := by
  have G_Receiver_can_step := ok_Receiver_can_step T
  have G_Receiver_step := ok_Receiver_step T
  have G_law_close := ok_law_close T
  refine T.F_law_steps.okX sc_law_steps (fun vs H Q E h => A4.len h) (fun cdv A outer s H vs Q E hr h => ?_)
  have hu := hu_of hr
  obtain ⟨v_receiver, v_world, v_size, v_now, rfl, h⟩ := h
  refine ⟨_, (pss_cons (ps_set (i := 4) sc_law_steps.nd rfl (by first | exact Or.inl rfl | exact Or.inr rfl) (pe_meth0S (pv 0) T.cl_Receiver T.m_Receiver_can_step G_Receiver_can_step (hr.mono (by decide)) T.b_Receiver_can_step (fun σ => passAt (takes_of rfl rfl rfl rfl) σ)))
    (pss_cons (ps_if (PW.pt (pw_or (pt_not (pt_val (pe_callB call_isi (by rfl) T.g_isinstance (by decide +kernel) (pa_cons (pv 4) (pa_cons (pe_bltn (v := .ty "bool") rfl T.g_bool (by decide +kernel) rfl) pa_nil))))) (pw_or1 (pt_cmpR op_ne (pv 4) (pe_and (pe_cmpR op_gt (pe_callB call_ln (by rfl) T.g_len (by decide +kernel) (pa_cons (pe_ix ix_list (pv 1) pe_int (fun _ _ => rfl)) pa_nil)) pe_int (nomark _)) (pe_one (pe_cmpR op_gt (pe_callB call_ln (by rfl) T.g_len (by decide +kernel) (pa_cons (pe_ix ix_list (pv 1) pe_int (fun _ _ => rfl)) pa_nil)) pe_int (nomark _)))) (nomark _))))) (pss_one (ps_ret pe_bl)) pss_nil)
    (pss_cons (ps_if (pt_not (pt_val (pv 4))) (pss_one (ps_ret pe_bl)) pss_nil)
    (pss_cons (ps_set (i := 5) sc_law_steps.nd rfl (by first | exact Or.inl rfl | exact Or.inr rfl) (pe_methS (pv 0) T.cl_Receiver T.m_Receiver_step G_Receiver_step (hr.mono (by decide)) T.b_Receiver_step (fun σ => passAt (takes_of rfl rfl rfl rfl) σ) (pa_cons (pv 3) pa_nil)))
    (pss_cons (ps_set (i := 6) sc_law_steps.nd rfl (by first | exact Or.inl rfl | exact Or.inr rfl) (pe_bm PySem.F.plainAttrs_list PySem.F.slot_list_pop PySem.F.type_list_pop mt_popAt (pe_ix ix_list (pv 1) pe_int (fun _ _ => rfl)) (pa_cons pe_int pa_nil)))
    (pss_cons (ps_if (PW.pt (pw_or (pt_val (pe_callB call_isi (by rfl) T.g_isinstance (by decide +kernel) (pa_cons (pv 5) (pa_cons (pe_bltn (v := .ty "bool") rfl T.g_bool (by decide +kernel) rfl) pa_nil)))) (pw_or1 (pt_cmpR (op_neD hr.units) (pv 5) (pv 6) (nomark _))))) (pss_one (ps_ret pe_bl)) pss_nil)
    (pss_cons (ps_if (pt_val (pe_callB call_isi (by rfl) T.g_isinstance (by decide +kernel) (pa_cons (pv 6) (pa_cons (pe_bltn (v := .ty "tuple") rfl T.g_tuple (by decide +kernel) rfl) pa_nil)))) (pss_cons (ps_expr (pe_callS G_law_close (hr.mono (by decide)) rfl T.g_law_close T.F_law_close.kp T.b_law_close (fun σ => passAt (takes_of rfl rfl rfl rfl) σ) (pa_cons (pv 1) (pa_cons (pe_ix ix_tup (pv 6) pe_int (fun _ _ => rfl)) pa_nil))))
    (pss_one (ps_ret (pe_callB call_isi (by rfl) T.g_isinstance (by decide +kernel) (pa_cons (pv 5) (pa_cons (pe_bltn (v := .ty "tuple") rfl T.g_tuple (by decide +kernel) rfl) pa_nil)))))) pss_nil)
    (pss_cons (ps_set (i := 7) sc_law_steps.nd rfl (by first | exact Or.inl rfl | exact Or.inr rfl) (pe_ix ix_list (pv 1) pe_int (fun _ _ => rfl)))
    (pss_cons (ps_expr (pe_bm PySem.F.plainAttrs_list PySem.F.slot_list_append PySem.F.type_list_append mt_append (pv 7) (pa_cons (pv 6) pa_nil)))
    (pss_cons (ps_asg (pv 3) (pg_sub (pv 1) pe_int set_list))
    (Evl.pss_cut (ps_if (pt_cmpR op_eq (pe_callB call_ln (by rfl) T.g_len (by decide +kernel) (pa_cons (pv 7) pa_nil)) (pv 2) (nomark _)) (pss_one (ps_expr (pe_callS G_law_close (hr.mono (by decide)) rfl T.g_law_close T.F_law_close.kp T.b_law_close (fun σ => passAt (takes_of rfl rfl rfl rfl) σ) (pa_cons (pv 1) (pa_cons pe_int pa_nil))))) pss_nil)
    (pss_one (ps_ret pe_bl))))))))))))), ?_⟩
  obtain ⟨p, qp, rp, pw, size, idle, cap, nxt, now, n, R, ab, dt, fs, lat, L, M, rfl, rfl, rfl, rfl, hs, se, hR, hd, k⟩ := h
  have hs := AgA.U hs se
  walk_at "x"
  refine a1 ⟨p, qp, rp, size, idle, lat, cap, R, n, ab, dt, fs, _, _, rfl, hs, by walk_at "sels", hR, hd, ?_⟩
  obtain ⟨dx, pa, pf, ad, vs0, le, hl0, nz, _⟩ := SrA.U hs (by walk_at "sel")
  have hU := WdA.U hs (by walk_at "sel")
  clear hs
  obtain ⟨il, al, dl, fl, vs, vi, hl, hi, hs⟩ := hU
  have hvi : vi.length = R.length := by rw [hi.1]; simp [its]
  walk_at "x"
  refine iteF ?_
  walk_at "x"
  rw [hvi]
  by_cases hb : R = [] ∨ ab = []
  · have e : (!R.isEmpty && !ab.isEmpty) = false := by rcases hb with rfl | rfl <;> simp
    rw [e]
    have fin : ∀ H', Sl.St (RvA a p qp rp size idle lat :: RqA a.C_ReceiveQueue qp cap R :: SrA a rp n ab dt fs :: WdA pw (its R) ab dt fs lat nxt :: M) H' → Q (.bl true) H' := fun H' hs => k R ab dt fs lat H' (Nat.le_refl _) (by omega) (fun h => h) ((AgA.I hs (by walk_at "sels")).perm (by walk_at "sels"))
    refine if_d (fun c => ?_) (fun c => ?_)
    · have hab : ab = [] := hb.resolve_left fun e => by rw [e] at c; simp at c
      walk_at "x"
      refine if_ndF (by rw [hab]; rfl) ?_
      walk_at "x"
      refine iteT ?_
      walk_at "x"
      have hs := WdA.I (xs := its R) (ab := ab) (dt := dt) (fs := fs) hs (by walk_at "sels")
      exact fin _ (hs.perm (by walk_at "sels"))
    · walk_at "x"
      refine iteF ?_
      walk_at "x"
      refine iteT ?_
      walk_at "x"
      have hs := WdA.I (xs := its R) (ab := ab) (dt := dt) (fs := fs) hs (by walk_at "sels")
      exact fin _ (hs.perm (by walk_at "sels"))
  · have hR0 : R ≠ [] := fun e => hb (.inl e)
    have hab : ab ≠ [] := fun e => hb (.inr e)
    obtain ⟨b, r, eab⟩ := List.exists_cons_of_ne_nil hab
    obtain ⟨⟨x, u⟩, S, eR⟩ := List.exists_cons_of_ne_nil hR0
    have e : (!R.isEmpty && !ab.isEmpty) = true := by rw [eab, eR]; rfl
    rw [e]
    refine if_d (fun c => ?_) (fun c => absurd (by rw [eR]; simp <;> omega) c)
    walk_at "x"
    refine if_ndF (by rw [eab]; simp <;> omega) ?_
    walk_at "x"
    refine iteF ?_
    walk_at "x"
    refine a2 ⟨p, qp, rp, size, idle, lat, cap, R, n, ab, dt, fs, _, _, rfl, hs, by walk_at "sels", hR, hd, now, x, u, S, rfl, eR, hab, fun v H1 iv hs1 => ?_⟩
    clear hs
    have hi1 := itsA.U hs1 (by walk_at "sel")
    rw [eR] at hi1
    obtain ⟨v0, ws, rfl, hws, iv0⟩ := hi1.cons
    rw [eab] at hs1 le
    rw [eR] at hvi
    simp only [List.length_cons] at hvi le
    have hSR : S.length ≤ R.length := by rw [eR]; simp
    have hws' : ∀ H', Sl.St (itsA (v0 :: ws) (its R) :: M) H' → Its H' ws (its S) := fun H' h => by
      have z := itsA.U h .here
      rw [eR] at z
      obtain ⟨v1, w1, e, z1, _⟩ := z.cons
      obtain ⟨_, rfl⟩ := List.cons.inj e
      exact z1
    cases x with
    | b z =>
      obtain rfl : v = .int z := iv
      obtain rfl : v0 = .int z := iv0
      have hs := hs1
      clear hs1
      walk_at "x"
      refine iteF ?_
      walk_at "x"
      refine o_neD (d := .int z) (.int z) (.int z) rfl ?_
      walk_at "x"
      refine iteF ?_
      walk_at "x"
      refine iteF ?_
      walk_at "x"
      refine c_setLS (j := 4) hs (by walk_at "sel") rfl (by simp) fun H1 hs => ?_
      simp only [List.set] at hs
      walk_at "x"
      have hw := hws' _ (hs.perm (by walk_at "sels"))
      refine s_cut0 ?_
      walk_at "x"
      refine if_d (fun c => ?_) (fun c => ?_)
      · have er : rvStep (.b z) size now (b :: r) dt fs lat = (r, [], fs ++ [(b, dt ++ [z], 0)], now) := if_pos (by have := int_inj c; simpa using this)
        simp only [er] at hs
        have hs := WdA.I2 (xs := its S) (ab := b :: r) (dt := dt ++ [z]) (fs := fs) hs hw (by walk_at "selm")
        walk_at "x"
        refine a2 ⟨pw, its S, b, r, dt ++ [z], fs, now, nxt, 0, _, _, rfl, rfl, hs, by walk_at "sel", by omega, by omega, fun H2 hs => ?_⟩
        walk_at "x"
        exact k S r [] (fs ++ [(b, dt ++ [z], 0)]) now _ hSR (by simp) (fun _ h => absurd rfl h) ((AgA.I hs (by walk_at "sels")).perm (by walk_at "sels"))
      · have er : rvStep (.b z) size now (b :: r) dt fs lat = (b :: r, dt ++ [z], fs, now) := if_neg (by have := int_ne c; simpa using this)
        simp only [er] at hs
        have hs := WdA.I2 (xs := its S) (ab := b :: r) (dt := dt ++ [z]) (fs := fs) hs hw (by walk_at "selm")
        walk_at "x"
        exact k S (b :: r) (dt ++ [z]) fs now _ hSR (by simp) (fun _ _ h => by cases h) ((AgA.I hs (by walk_at "sels")).perm (by walk_at "sels"))
    | m m =>
      obtain ⟨t, rfl, g⟩ := iv
      obtain ⟨t0, rfl, g0⟩ := iv0
      have hs := (hs1.iadd g trivial).iadd g0 trivial
      clear hs1
      walk_at "x"
      refine iteF ?_
      walk_at "x"
      refine o_neD (d := dIt (.m m)) (ItV.dp ⟨t, rfl, hs.geti (by walk_at "sel")⟩) (ItV.dp ⟨t0, rfl, hs.geti (by walk_at "sel")⟩) (dIt_ld _).sh ?_
      walk_at "x"
      refine iteF ?_
      walk_at "x"
      refine iteT ?_
      have hw := hws' _ (hs.perm (by walk_at "sels"))
      have hs := WdA.I2 (xs := its S) (ab := b :: r) (dt := dt) (fs := fs) hs hw (by walk_at "selm")
      walk_at "x"
      refine a2 ⟨pw, its S, b, r, dt, fs, lat, nxt, m, _, _, rfl, rfl, hs, by walk_at "sel", by omega, by omega, fun H2 hs => ?_⟩
      walk_at "x"
      have er : rvStep (.m m) size now (b :: r) dt fs lat = (r, [], fs ++ [(b, dt, m)], lat) := rfl
      simp only [er] at hs
      exact k S r [] (fs ++ [(b, dt, m)]) lat _ hSR (by simp) (fun _ h => absurd rfl h) ((AgA.I hs (by walk_at "sels")).perm (by walk_at "sels"))
end
end My
set_option Elab.async false
set_option maxRecDepth 100000
set_option maxHeartbeats 100000000
set_option linter.all false
namespace My
open PySem L2 Sx Rd Sl
local macro_rules | `(tactic| walk_at "ne") => `(tactic| (first | with_reducible assumption | with_reducible exact Ne.symm (by with_reducible assumption)))
local macro_rules | `(tactic| walk_at "nin") => `(tactic| (simp only [List.mem_cons, List.not_mem_nil, or_false, not_or, not_false_eq_true]; (repeat' refine And.intro ?_ ?_); (all_goals walk_at "ne")))
local macro_rules | `(tactic| walk_at "hl") => `(tactic| (first | (with_reducible assumption) | exact upd_same | ((with_reducible refine' (upd_ne ?hne).trans ?hgo); (case hne => walk_at "ne"); (case hgo => walk_at "hl"))))
local macro_rules | `(tactic| walk_at "sq") => `(tactic| (first | (with_reducible assumption) | exact Or.inl (Or.inl (by walk_at "hl"))))
local macro_rules | `(tactic| walk_at "ar") => `(tactic| (first | omega | exact ⟨by omega, by omega⟩ | exact Or.inl ⟨by omega, by omega⟩ | exact Or.inr ⟨by omega, by omega⟩ | (show (0 : Int) < _; omega) | (show (0 : Int) < _ ∧ _ < (1073741824 : Int); omega)))
local macro_rules | `(tactic| walk_at "cls") => `(tactic| (first | exact Txt.cl_Receiver (by assumption) | exact Txt.cl_Ring (by assumption) | exact Txt.cl_ReceiveQueue (by assumption) | exact Txt.cl_SlotRing (by assumption)))
local macro_rules | `(tactic| walk_at "noa") => `(tactic| (first | exact Txt.n_Receiver_queue (by assumption) | exact Txt.n_Receiver_ring (by assumption) | exact Txt.n_Receiver_size (by assumption) | exact Txt.n_Receiver_idle (by assumption) | exact Txt.n_Receiver_latest (by assumption) | exact Txt.n_Ring_cells (by assumption) | exact Txt.n_Ring_written (by assumption) | exact Txt.n_Ring_taken (by assumption) | exact Txt.n_ReceiveQueue_capacity (by assumption) | exact Txt.n_ReceiveQueue_items (by assumption) | exact Txt.n_ReceiveQueue_ticks (by assumption) | exact Txt.n_SlotRing_slots (by assumption) | exact Txt.n_SlotRing_armed (by assumption) | exact Txt.n_SlotRing_filled (by assumption) | exact Txt.n_SlotRing_added (by assumption)))
local macro_rules | `(tactic| walk_at "lkp") => `(tactic| (first | (with_reducible exact F_Receiver_queue_l) | (with_reducible exact F_Receiver_ring_l) | (with_reducible exact F_Receiver_size_l) | (with_reducible exact F_Receiver_idle_l) | (with_reducible exact F_Receiver_latest_l) | (with_reducible exact F_Ring_cells_l) | (with_reducible exact F_Ring_written_l) | (with_reducible exact F_Ring_taken_l) | (with_reducible exact F_ReceiveQueue_capacity_l) | (with_reducible exact F_ReceiveQueue_items_l) | (with_reducible exact F_ReceiveQueue_ticks_l) | (with_reducible exact F_SlotRing_slots_l) | (with_reducible exact F_SlotRing_armed_l) | (with_reducible exact F_SlotRing_filled_l) | (with_reducible exact F_SlotRing_added_l)))
local macro_rules | `(tactic| walk_at "ptf") => `(tactic| (first | (with_reducible exact F_Receiver_queue_p) | (with_reducible exact F_Receiver_ring_p) | (with_reducible exact F_Receiver_size_p) | (with_reducible exact F_Receiver_idle_p) | (with_reducible exact F_Receiver_latest_p) | (with_reducible exact F_Ring_cells_p) | (with_reducible exact F_Ring_written_p) | (with_reducible exact F_Ring_taken_p) | (with_reducible exact F_ReceiveQueue_capacity_p) | (with_reducible exact F_ReceiveQueue_items_p) | (with_reducible exact F_ReceiveQueue_ticks_p) | (with_reducible exact F_SlotRing_slots_p) | (with_reducible exact F_SlotRing_armed_p) | (with_reducible exact F_SlotRing_filled_p) | (with_reducible exact F_SlotRing_added_p) | exact rfl))
local macro_rules | `(tactic| walk_at "lnF") => `(tactic| (first | (with_reducible exact F_Receiver_len) | (with_reducible exact F_Ring_len) | (with_reducible exact F_ReceiveQueue_len) | (with_reducible exact F_SlotRing_len) | (refine PL.lt (n := 60) ?_ (by decide); (repeat refine PL.put ?_); exact PL.nil) | decide))
local macro_rules | `(tactic| walk_at "nol") => `(tactic| (first | (with_reducible exact F_Receiver_m_can_step) | (with_reducible exact F_Receiver_m_step) | (with_reducible exact F_Receiver_m_close_idle) | (with_reducible exact F_Receiver_m_add) | (with_reducible exact F_Ring_m_held) | (with_reducible exact F_Ring_m_is_full) | (with_reducible exact F_Ring_m_put) | (with_reducible exact F_Ring_m_first) | (with_reducible exact F_Ring_m_take) | (with_reducible exact F_Ring_m_listed) | (with_reducible exact F_Ring_m_next) | (with_reducible exact F_ReceiveQueue_m_arrive) | (with_reducible exact F_ReceiveQueue_m_first) | (with_reducible exact F_ReceiveQueue_m_take) | (with_reducible exact F_ReceiveQueue_m_oldest_tick) | (with_reducible exact F_ReceiveQueue_m_bytes_held) | (with_reducible exact F_ReceiveQueue_m_contents) | (with_reducible exact F_ReceiveQueue_m_append) | (with_reducible exact F_ReceiveQueue_m_lose) | (with_reducible exact F_SlotRing_m_can_arm) | (with_reducible exact F_SlotRing_m_arm) | (with_reducible exact F_SlotRing_m_open_slot) | (with_reducible exact F_SlotRing_m_open_bytes) | (with_reducible exact F_SlotRing_m_open_count) | (with_reducible exact F_SlotRing_m_add) | (with_reducible exact F_SlotRing_m_close) | (with_reducible exact F_SlotRing_m_oldest) | (with_reducible exact F_SlotRing_m_reap) | (with_reducible exact F_SlotRing_m_filled_slots) | (with_reducible exact F_SlotRing_m_buffers)))
local macro_rules | `(tactic| walk_at "r1") => `(tactic| (first
  | with_reducible apply l_cons | ((with_reducible apply e_var); (case h => exact rfl)) | with_reducible apply l_nil | with_reducible apply s_seq | with_reducible apply e_c | with_reducible apply g_name
  | with_reducible apply s_asg | with_reducible apply e_call | with_reducible apply k_t | with_reducible apply e_op | with_reducible apply e_cb | with_reducible apply t_test
  | with_reducible apply s_if | with_reducible apply t_or | with_reducible apply t_and | with_reducible apply t_B | with_reducible apply s_next | with_reducible apply p_some
  | with_reducible apply p_no | with_reducible apply e_sl | with_reducible apply k_i | with_reducible apply e_lst | with_reducible apply t_not | with_reducible apply o_I0
  | ((with_reducible refine' o_I ?hc ?_); (case hc => walk_at "ar")) | with_reducible apply e_meth | ((with_reducible refine' k_meth ?h1 ?h2 ?_); (case h1 => walk_at "hl"); (case h2 => walk_at "nol")) | with_reducible apply e_fld | ((with_reducible refine' k_fld ?h1 ?h2 ?h3 ?h4 ?_); (case h1 => walk_at "hl"); (case h2 => walk_at "cls"); (case h3 => walk_at "noa"); (case h4 => walk_at "lkp")) | with_reducible apply e_not
  | with_reducible apply s_ret | ((with_reducible refine' k_ty ?h1 ?_); (case h1 => walk_at "sq")) | with_reducible apply s_drop | with_reducible apply s_retN | with_reducible apply s_cont | with_reducible apply s_break
  | with_reducible apply o_chC | ((with_reducible refine' o_chV ?hv ?_); (case hv => exact rfl)) | with_reducible apply e_un | with_reducible apply o_U | ((with_reducible refine' o_eq ?hs ?_); (case hs => exact rfl)) | ((with_reducible refine' o_ne ?hs ?_); (case hs => exact rfl))
  | ((with_reducible refine' o_ixL ?h1 ?h2 ?_); (case h1 => walk_at "sq"); (case h2 => first | exact rfl | exact atI_zero _ _)) | with_reducible apply s_fld | with_reducible apply e_make | ((with_reducible refine' k_set ?h1 ?h2 ?h3 ?h4 ?h5 ?_); (case h1 => walk_at "hl"); (case h2 => walk_at "cls"); (case h3 => walk_at "noa"); (case h4 => walk_at "ptf"); (case h5 => walk_at "lnF")) | with_reducible apply e_tup | with_reducible apply e_bm
  | with_reducible apply e_bm0 | with_reducible apply e_if | with_reducible apply e_chain | with_reducible apply s_raise | with_reducible apply g_sub | ((with_reducible refine' c_ln ?h1 ?_); (case h1 => walk_at "sq"))
  | ((with_reducible refine' c_pop0 ?h1 ?h2 ?_); (case h1 => walk_at "hl"); (case h2 => omega)) | with_reducible apply c_isBool | with_reducible apply c_isInt | with_reducible apply c_isBoolN | with_reducible apply c_isTupI | with_reducible apply c_isNonB
  | with_reducible apply c_isNonT | ((with_reducible refine' c_isList ?h1 ?_); (case h1 => walk_at "hl")) | ((with_reducible refine' c_isTup ?h1 ?_); (case h1 => walk_at "hl")) | ((with_reducible refine' c_isTupB ?h1 ?_); (case h1 => walk_at "hl")) | with_reducible apply o_isB | with_reducible apply o_notB
  | with_reducible apply e_and | with_reducible apply e_or | with_reducible apply k_bl | with_reducible apply e_xf | with_reducible apply s_augS | ((with_reducible refine' s_augV ?hv ?_); (case hv => exact rfl))
  | with_reducible apply ip_I | with_reducible apply e_lcE | ((with_reducible refine' k_xf ?h1 ?h2 ?_); (case h1 => walk_at "hl"); (case h2 => exact look_hit _ _ _)) | ((with_reducible refine' o_slL ?h1 ?_); (case h1 => walk_at "sq")) | ((with_reducible refine' k_dget ?h1 ?h2 ?_); (case h1 => walk_at "hl"); (case h2 => with_reducible assumption)) | with_reducible apply e_dget
  | with_reducible apply s_dput | with_reducible apply e_makeK | with_reducible apply g_cons | with_reducible apply g_nil | with_reducible apply c_ab | with_reducible apply c_in
  | with_reducible apply c_mx | with_reducible apply c_mn | with_reducible apply a1 | with_reducible apply a2 | with_reducible apply a3 | with_reducible apply a4
  | with_reducible apply a5 | with_reducible apply a6 | with_reducible apply a0 | with_reducible apply t_tru | with_reducible apply t_yes | ((with_reducible refine' k_truL ?h1 ?_); (case h1 => walk_at "sq")) | with_reducible refine d_nx ?_ | with_reducible refine d_rt ?_ | with_reducible refine d_bk ?_
  | with_reducible refine d_ct ?_))
local macro_rules | `(tactic| walk_at "r") => `(tactic| (repeat walk_at "r1"))
local macro_rules | `(tactic| walk_at "sel") => `(tactic| (first | with_reducible exact Sl.Sel.here | ((with_reducible refine' Sl.Sel.there ?t); (case t => walk_at "sel"))))
local macro_rules | `(tactic| walk_at "sels") => `(tactic| (first | with_reducible exact Sl.Sels.nil | ((with_reducible refine' Sl.Sels.cons ?a ?b); (case a => walk_at "sel"); (case b => walk_at "sels")) | with_reducible exact Sl.Sels.all _ | ((with_reducible refine' Sl.Sels.skip ?t); (case t => walk_at "sels"))))
local macro_rules | `(tactic| walk_at "selm") => `(tactic| ((try (simp only [])); (try simp only [List.map_append, List.map_cons, List.map_nil]); walk_at "sels"))
local macro_rules | `(tactic| walk_at "hg") => do
  let h := Lean.mkIdent `hs
  `(tactic| (first | (with_reducible assumption) | ((with_reducible refine' Sl.St.get $h ?s); (case s => walk_at "sel")) | ((with_reducible refine' Sl.St.geti $h ?s); (case s => walk_at "sel"))))
local macro_rules | `(tactic| walk_at "sg") => do
  let h := Lean.mkIdent `hs
  `(tactic| (first | (with_reducible assumption) | exact Or.inl (Or.inl (by walk_at "hg")) | (refine' Sl.sqA.U $h ?s; (case s => walk_at "sel"))))
local macro_rules | `(tactic| walk_at "le5") => `(tactic| (first | omega | (simp only [List.length_cons, List.length_nil, List.length_append, List.length_map]; omega) | (show _ ≤ _; decide) | (show _ < _; decide)))
local macro_rules | `(tactic| walk_at "km") => `(tactic| fail)
local macro_rules | `(tactic| walk_at "kf") => `(tactic| fail)
local macro_rules | `(tactic| walk_at "x1") => do
  let h := Lean.mkIdent `hs
  `(tactic| (first
  | with_reducible apply l_cons | ((with_reducible apply e_var); (case h => exact rfl)) | with_reducible apply l_nil | with_reducible apply s_seq | with_reducible apply e_c | with_reducible apply g_name
  | with_reducible apply s_asg | with_reducible apply e_call | with_reducible apply k_t | with_reducible apply e_op | with_reducible apply e_cb | with_reducible apply t_test
  | with_reducible apply s_if | with_reducible apply t_or | with_reducible apply t_and | with_reducible apply t_B | with_reducible apply s_next | with_reducible apply p_some
  | with_reducible apply p_no | with_reducible apply e_sl | with_reducible apply k_i | with_reducible apply Sl.e_lstS | with_reducible apply t_not | with_reducible apply o_I0
  | ((with_reducible refine' o_I ?hc ?_); (case hc => walk_at "ar")) | with_reducible apply e_meth | ((with_reducible refine' k_meth ?h1 ?h2 ?_); (case h1 => walk_at "hg"); (case h2 => walk_at "nol")) | walk_at "km" | with_reducible apply e_fld
  | ((with_reducible refine' k_fld ?h1 ?h2 ?h3 ?h4 ?_); (case h1 => walk_at "hg"); (case h2 => walk_at "cls"); (case h3 => walk_at "noa"); (case h4 => walk_at "lkp")) | walk_at "kf" | with_reducible apply e_not
  | with_reducible apply s_ret | ((with_reducible refine' k_ty ?h1 ?_); (case h1 => walk_at "sg")) | with_reducible apply s_drop | with_reducible apply s_retN | with_reducible apply s_cont | with_reducible apply s_break
  | with_reducible apply o_chC | ((with_reducible refine' o_chV ?hv ?_); (case hv => exact rfl)) | with_reducible apply e_un | with_reducible apply o_U | ((with_reducible refine' o_eq ?hs ?_); (case hs => exact rfl)) | ((with_reducible refine' o_ne ?hs ?_); (case hs => exact rfl))
  | ((with_reducible refine' o_ixL ?h1 ?h2 ?_); (case h1 => walk_at "sg"); (case h2 => first | exact rfl | exact atI_zero _ _)) | ((with_reducible refine' o_ixT ?h1 ?h2 ?_); (case h1 => walk_at "sg"); (case h2 => first | exact rfl | exact atI_zero _ _)) | with_reducible apply s_fld | with_reducible apply Sl.e_makeS
  | ((with_reducible refine' Sl.k_setS $h ?h1 ?h2 ?h3 ?h4 ?h5 ?_); (case h1 => walk_at "sel"); (case h2 => walk_at "cls"); (case h3 => walk_at "noa"); (case h4 => walk_at "ptf"); (case h5 => walk_at "lnF"); (clear $h; intro _ $h)) | with_reducible apply Sl.e_tupS | with_reducible apply e_bm
  | with_reducible apply e_bm0 | with_reducible apply e_if | with_reducible apply e_chain | with_reducible apply s_raise | with_reducible apply g_sub | ((with_reducible refine' c_ln ?h1 ?_); (case h1 => walk_at "sg")) | ((with_reducible refine' c_lnT ?h1 ?_); (case h1 => walk_at "sg"))
  | ((with_reducible refine' Sl.k_newL $h ?h1 ?_); (case h1 => walk_at "le5"); (clear $h; intro _ _ $h)) | ((with_reducible refine' Sl.k_newT $h ?h1 ?_); (case h1 => walk_at "le5"); (clear $h; intro _ _ $h)) | ((with_reducible refine' Sl.k_make $h ?_); (clear $h; intro _ _ _ $h))
  | ((with_reducible refine' Sl.c_appS $h ?h1 ?h2 ?_); (case h1 => walk_at "sel"); (case h2 => walk_at "le5"); (clear $h; intro _ $h)) | ((with_reducible refine' Sl.c_pop0S $h ?h1 ?h2 ?_); (case h1 => walk_at "sel"); (case h2 => walk_at "le5"); (clear $h; intro _ $h))
  | ((with_reducible refine' Sl.c_lsS $h ?h1 ?_); (case h1 => walk_at "sg"); (clear $h; intro _ _ $h)) | ((with_reducible refine' Sl.o_slLS $h ?h1 ?_); (case h1 => walk_at "sg"); (clear $h; intro _ _ $h)) | ((with_reducible refine' Sl.c_clrS $h ?h1 ?_); (case h1 => walk_at "sel"); (clear $h; intro _ $h))
  | ((with_reducible refine' Sl.o_catS $h ?h1 ?h2 ?h3 ?_); (case h1 => walk_at "hg"); (case h2 => walk_at "hg"); (case h3 => walk_at "le5"); (clear $h; intro _ _ $h)) | ((with_reducible refine' Sl.c_extS $h ?h1 ?h2 ?h3 ?_); (case h1 => walk_at "sel"); (case h2 => walk_at "hg"); (case h3 => walk_at "le5"); (clear $h; intro _ $h))
  | ((with_reducible refine' Sl.k_raise $h ?h1 ?_); (case h1 => exact okV_int ⟨by omega, by omega⟩); (clear $h; intro _ _ $h))
  | with_reducible apply c_isBool | with_reducible apply c_isInt | with_reducible apply c_isBoolN | with_reducible apply c_isTupI | with_reducible apply c_isNonB
  | with_reducible apply c_isNonT | ((with_reducible refine' c_isList ?h1 ?_); (case h1 => walk_at "hg")) | ((with_reducible refine' c_isTup ?h1 ?_); (case h1 => walk_at "hg")) | ((with_reducible refine' c_isTupB ?h1 ?_); (case h1 => walk_at "hg")) | with_reducible apply o_isB | with_reducible apply o_notB
  | with_reducible apply e_and | with_reducible apply e_or | with_reducible apply k_bl | with_reducible apply e_xf | with_reducible apply s_augS | ((with_reducible refine' s_augV ?hv ?_); (case hv => exact rfl)) | with_reducible apply Sl.s_aug
  | with_reducible apply ip_I | with_reducible apply e_lcE | with_reducible apply e_lcL | with_reducible apply f_lst | with_reducible apply e_lcF | with_reducible apply f_rng1 | ((with_reducible refine' k_xf ?h1 ?h2 ?_); (case h1 => walk_at "hg"); (case h2 => exact look_hit _ _ _)) | ((with_reducible refine' k_dget ?h1 ?h2 ?_); (case h1 => walk_at "hg"); (case h2 => with_reducible assumption)) | with_reducible apply e_dget
  | with_reducible apply s_dput | with_reducible apply Sl.e_makeKS | with_reducible apply g_cons | with_reducible apply g_nil | ((with_reducible refine' g_tup ?h1 ?h2 ?_); (case h1 => walk_at "sg"); (case h2 => exact rfl)) | with_reducible apply c_ab | with_reducible apply c_in
  | with_reducible apply c_mx | with_reducible apply c_mn | with_reducible apply a1 | with_reducible apply a2 | with_reducible apply a3 | with_reducible apply a4
  | with_reducible apply a5 | with_reducible apply a6 | with_reducible apply a0 | with_reducible apply t_tru | with_reducible apply t_yes | ((with_reducible refine' k_truL ?h1 ?_); (case h1 => walk_at "sg")) | with_reducible refine d_nx ?_ | with_reducible refine d_rt ?_ | with_reducible refine d_bk ?_
  | with_reducible refine d_ct ?_))
local macro_rules | `(tactic| walk_at "x") => `(tactic| (repeat walk_at "x1"))
local macro_rules | `(tactic| walk_at "km") => do let h := Lean.mkIdent `hs; `(tactic| ((with_reducible refine' km_Ring $h ?s ?m ?_); (case s => walk_at "sel"); (case m => intros; walk_at "nol")))
local macro_rules | `(tactic| walk_at "km") => do let h := Lean.mkIdent `hs; `(tactic| ((with_reducible refine' km_SlotRing $h ?s ?m ?_); (case s => walk_at "sel"); (case m => intros; walk_at "nol")))
local macro_rules | `(tactic| walk_at "km") => do let h := Lean.mkIdent `hs; `(tactic| ((with_reducible refine' km_Rq $h ?s ?m ?_); (case s => walk_at "sel"); (case m => intros; walk_at "nol")))
local macro_rules | `(tactic| walk_at "kf") => do let h := Lean.mkIdent `hs; `(tactic| ((with_reducible refine' kf_Rq_cap $h ?s ?c ?n ?_); (case s => walk_at "sel"); (case c => walk_at "cls"); (case n => walk_at "noa")))
local macro_rules | `(tactic| walk_at "km") => do let h := Lean.mkIdent `hs; `(tactic| ((with_reducible refine' km_Rv $h ?s ?m ?_); (case s => walk_at "sel"); (case m => intros; walk_at "nol")))
section
variable {P : Program} {w : World} {K : PySem.W.Frag} {mg : Str → Option Value} {base : Heap} {a : Ads}
theorem ok_law_idles (T : Txt P w K mg base a) : FnOk P w K mg base (L2.CX P w) 7 a.f_law_idles a.fd_law_idles ["receiver", "world", "idle", "now"] (sp_law_idles K a) := by
  have G_Receiver_close_idle := ok_Receiver_close_idle T
  have G_law_close := ok_law_close T
  refine T.F_law_idles.okX sc_law_idles (fun vs H Q E h => A4.len h) (fun cdv A outer s H vs Q E hr h => ?_)
  have hu := hu_of hr
  obtain ⟨v_receiver, v_world, v_idle, v_now, rfl, h⟩ := h
  refine ⟨_, (pss_cons (ps_set (i := 4) sc_law_idles.nd rfl (by first | exact Or.inl rfl | exact Or.inr rfl) (pe_and (pe_cmpR op_gt (pe_callB call_ln (by rfl) T.g_len (by decide +kernel) (pa_cons (pe_ix ix_list (pv 1) pe_int (fun _ _ => rfl)) pa_nil)) pe_int (nomark _)) (pe_and (pe_cmpR op_gt (pe_callB call_ln (by rfl) T.g_len (by decide +kernel) (pa_cons (pe_ix ix_list (pv 1) pe_int (fun _ _ => rfl)) pa_nil)) pe_int (nomark _)) (pe_one (pe_cmpR op_ge (pe_op op_sub (pv 3) (pe_ix ix_list (pv 1) pe_int (fun _ _ => rfl))) (pv 2) (nomark _))))))
    (pss_cons (ps_set (i := 5) sc_law_idles.nd rfl (by first | exact Or.inl rfl | exact Or.inr rfl) (pe_methS (pv 0) T.cl_Receiver T.m_Receiver_close_idle G_Receiver_close_idle (hr.mono (by decide)) T.b_Receiver_close_idle (fun σ => passAt (takes_of rfl rfl rfl rfl) σ) (pa_cons (pv 3) pa_nil)))
    (Evl.pss_cut (ps_if (pt_val (pv 4)) (pss_one (ps_expr (pe_callS G_law_close (hr.mono (by decide)) rfl T.g_law_close T.F_law_close.kp T.b_law_close (fun σ => passAt (takes_of rfl rfl rfl rfl) σ) (pa_cons (pv 1) (pa_cons pe_int pa_nil))))) pss_nil)
    (pss_one (ps_ret (pe_and (pe_callB call_isi (by rfl) T.g_isinstance (by decide +kernel) (pa_cons (pv 5) (pa_cons (pe_bltn (v := .ty "bool") rfl T.g_bool (by decide +kernel) rfl) pa_nil))) (pe_one (pe_cmpR op_eq (pv 5) (pv 4) (nomark _))))))))), ?_⟩
  obtain ⟨p, qp, rp, pw, size, idle, cap, nxt, now, n, R, ab, dt, fs, lat, L, M, rfl, rfl, rfl, rfl, hs, se, hR, hd, hda, k⟩ := h
  have hs := AgA.U hs se
  obtain ⟨dx, pa, pf, ad, vs0, le, hl0, nz, _⟩ := SrA.U hs (by walk_at "sel")
  have hU := WdA.U hs (by walk_at "sel")
  clear hs
  obtain ⟨il, al, dl, fl, vs, vi, hl, hi, hs⟩ := hU
  have fin : ∀ H', Sl.St (RvA a p qp rp size idle lat :: RqA a.C_ReceiveQueue qp cap R :: SrA a rp n ab dt fs :: WdA pw (its R) ab dt fs lat nxt :: M) H' → Q (.bl true) H' := fun H' hs => k ab dt fs H' (by omega) hda ((AgA.I hs (by walk_at "sels")).perm (by walk_at "sels"))
  walk_at "x"
  rw [List.length_map]
  by_cases hn : dt = []
  · refine if_d (fun c => ?_) (fun c => ?_)
    · walk_at "x"
      rw [List.length_map]
      refine if_dF (by rw [hn]; simp) ?_
      walk_at "x"
      have hs := WdA.I (xs := its R) (ab := ab) (dt := dt) (fs := fs) hs (by walk_at "sels")
      refine a2 ⟨p, qp, rp, size, idle, lat, cap, R, n, ab, dt, fs, _, _, rfl, hs, by walk_at "sels", hR, hd, now, rfl, hda, (fun _ => ?_), fun b r h => absurd hn h⟩
      walk_at "x"
      refine s_cut0 ?_
      walk_at "x"
      refine iteF ?_
      walk_at "x"
      refine iteT ?_
      walk_at "x"
      exact fin _ (hs.perm (by walk_at "sels"))
    · walk_at "x"
      have hs := WdA.I (xs := its R) (ab := ab) (dt := dt) (fs := fs) hs (by walk_at "sels")
      refine a2 ⟨p, qp, rp, size, idle, lat, cap, R, n, ab, dt, fs, _, _, rfl, hs, by walk_at "sels", hR, hd, now, rfl, hda, (fun _ => ?_), fun b r h => absurd hn h⟩
      walk_at "x"
      refine s_cut0 ?_
      walk_at "x"
      refine iteF ?_
      walk_at "x"
      refine iteT ?_
      walk_at "x"
      exact fin _ (hs.perm (by walk_at "sels"))
  · have hab := hda hn
    obtain ⟨b, r, eab⟩ := List.exists_cons_of_ne_nil hab
    have hdl : 0 < dt.length := List.length_pos_iff.mpr hn
    refine if_dT (by rw [eab]; simp <;> omega) ?_
    walk_at "x"
    rw [List.length_map]
    refine if_dT (by omega) ?_
    walk_at "x"
    have hs := WdA.I (xs := its R) (ab := ab) (dt := dt) (fs := fs) hs (by walk_at "sels")
    refine a2 ⟨p, qp, rp, size, idle, lat, cap, R, n, ab, dt, fs, _, _, rfl, hs, by walk_at "sels", hR, hd, now, rfl, hda, (fun hc => ?_), fun b' r' h1 h2 h3 H2 hs2 => ?_⟩
    · have hlt : now - lat < idle := hc.resolve_left hn
      walk_at "x"
      refine s_cut0 ?_
      walk_at "x"
      refine if_dF (by omega) ?_
      walk_at "x"
      rw [decide_eq_false (show ¬ idle ≤ now - lat by omega)]
      refine iteT ?_
      walk_at "x"
      exact fin _ (hs.perm (by walk_at "sels"))
    · clear hs
      have hs := hs2
      rw [eab] at h3
      obtain ⟨rfl, rfl⟩ := List.cons.inj h3
      rw [eab] at hs le
      simp only [List.length_cons] at le
      walk_at "x"
      refine s_cut0 ?_
      walk_at "x"
      refine if_dT (by omega) ?_
      walk_at "x"
      refine Rd.a2 ⟨pw, its R, b, r, dt, fs, lat, nxt, 0, _, _, rfl, rfl, hs, by walk_at "sel", by omega, by omega, fun H3 hs => ?_⟩
      walk_at "x"
      refine iteT ?_
      walk_at "x"
      rw [decide_eq_true (show idle ≤ now - lat by omega)]
      exact k r [] (fs ++ [(b, dt, 0)]) _ (by simp) (fun h => absurd rfl h) ((AgA.I hs (by walk_at "sels")).perm (by walk_at "sels"))
theorem ok_law_agrees (T : Txt P w K mg base a) : FnOk P w K mg base (L2.CX P w) 5 a.f_law_agrees a.fd_law_agrees ["receiver", "queue", "ring", "world"] (sp_law_agrees K a) := by
  have G_ReceiveQueue_contents := ok_ReceiveQueue_contents T
  have G_SlotRing_open_bytes := ok_SlotRing_open_bytes T
  have G_SlotRing_filled_slots := ok_SlotRing_filled_slots T
  have G_SlotRing_open_slot := ok_SlotRing_open_slot T
  refine T.F_law_agrees.okX sc_law_agrees (fun vs H Q E h => A4.len h) (fun cdv A outer s H vs Q E hr h => ?_)
  have hu := hu_of hr
  obtain ⟨v_receiver, v_queue, v_ring, v_world, rfl, h⟩ := h
  refine ⟨_, (pss_cons (ps_if (PW.pt (pw_or (pt_cmpR (op_neD hr.units) (pe_meth0S (pv 1) T.cl_ReceiveQueue T.m_ReceiveQueue_contents G_ReceiveQueue_contents (hr.mono (by decide)) T.b_ReceiveQueue_contents (fun σ => passAt (takes_of rfl rfl rfl rfl) σ)) (pe_ix ix_list (pv 3) pe_int (fun _ _ => rfl)) (nomark _)) (pw_or (pt_cmpR (op_neD hr.units) (pe_meth0S (pv 2) T.cl_SlotRing T.m_SlotRing_open_bytes G_SlotRing_open_bytes (hr.mono (by decide)) T.b_SlotRing_open_bytes (fun σ => passAt (takes_of rfl rfl rfl rfl) σ)) (pe_ix ix_list (pv 3) pe_int (fun _ _ => rfl)) (nomark _)) (pw_or1 (pt_cmpR (op_neD hr.units) (pe_meth0S (pv 2) T.cl_SlotRing T.m_SlotRing_filled_slots G_SlotRing_filled_slots (hr.mono (by decide)) T.b_SlotRing_filled_slots (fun σ => passAt (takes_of rfl rfl rfl rfl) σ)) (pe_ix ix_list (pv 3) pe_int (fun _ _ => rfl)) (nomark _)))))) (pss_one (ps_ret pe_bl)) pss_nil)
    (pss_cons (ps_if (pt_cmpR op_eq (pe_callB call_ln (by rfl) T.g_len (by decide +kernel) (pa_cons (pe_ix ix_list (pv 3) pe_int (fun _ _ => rfl)) pa_nil)) pe_int (nomark _)) (pss_one (ps_ret (pe_cmpR op_isN (pe_meth0S (pv 2) T.cl_SlotRing T.m_SlotRing_open_slot G_SlotRing_open_slot (hr.mono (by decide)) T.b_SlotRing_open_slot (fun σ => passAt (takes_of rfl rfl rfl rfl) σ)) pe_non (nomark _)))) pss_nil)
    (pss_one (ps_ret (pe_and (pe_cmpR op_eq (pe_meth0S (pv 2) T.cl_SlotRing T.m_SlotRing_open_slot G_SlotRing_open_slot (hr.mono (by decide)) T.b_SlotRing_open_slot (fun σ => passAt (takes_of rfl rfl rfl rfl) σ)) (pe_ix ix_list (pe_ix ix_list (pv 3) pe_int (fun _ _ => rfl)) pe_int (fun _ _ => rfl)) (nomark _)) (pe_one (pe_cmpR op_eq (pe_fld (pv 0) rfl) (pe_ix ix_list (pv 3) pe_int (fun _ _ => rfl)) (nomark _)))))))), ?_⟩
  obtain ⟨p, qp, rp, pw, size, idle, cap, nxt, n, R, ab, dt, fs, lat, L, M, rfl, rfl, rfl, rfl, hs, se, k⟩ := h
  have hs := AgA.U hs se
  have hU := WdA.U hs (by walk_at "sel")
  clear hs
  obtain ⟨il, al, dl, fl, vs, vi, hl, hi, hs⟩ := hU
  walk_at "x"
  refine c_rq_contents hs (by walk_at "sel") fun l vs2 H1 hi2 hs => ?_
  walk_at "x"
  refine o_neD (.lst (Or.inl (Or.inl (by walk_at "hg"))) hi2.dp) (.lst (Or.inl (Or.inl (by walk_at "hg"))) (itsA.U (vs := vi) (xs := its R) hs (by walk_at "sel")).dp) (dIts_ld _).sh ?_
  walk_at "x"
  refine iteF ?_
  walk_at "x"
  refine Rd.a1 ⟨rp, n, ab, dt, fs, _, _, rfl, hs, by walk_at "sel", fun q H3 hs => ?_⟩
  walk_at "x"
  refine o_neL (Or.inl (Or.inl (by walk_at "hg"))) (Or.inl (Or.inl (by walk_at "hg"))) (flat_ints _) ?_
  walk_at "x"
  refine iteF ?_
  walk_at "x"
  refine Rd.a1 ⟨rp, n, ab, dt, fs, _, _, rfl, hs, by walk_at "sel", fun q2 vs2 H5 hs => ?_⟩
  walk_at "x"
  refine o_neD (.lst (Or.inl (Or.inl (by walk_at "hg"))) (slotsA.dp hs (.there .here))) (.lst (Or.inl (Or.inl (by walk_at "hg"))) (slotsA.dp (vs := vs) hs (by walk_at "sel"))) (dSls_ld fs).sh ?_
  walk_at "x"
  refine iteF ?_
  walk_at "x"
  rw [List.length_map]
  have fin : ∀ H', Sl.St (cell q2 (.lst vs2) :: lA slotA vs2 fs :: cell q (.lst (dt.map V.int)) :: cell l (.lst vs2) :: M) H' → True := fun _ _ => trivial
  clear fin
  have hs := WdA.I (xs := its R) (ab := ab) (dt := dt) (fs := fs) hs (by walk_at "sels")
  cases ab with
  | nil =>
    refine if_dT rfl ?_
    walk_at "x"
    refine Rd.a1 ⟨rp, n, [], dt, fs, _, _, rfl, hs, by walk_at "sel", (fun _ => ?_), fun b r e => by cases e⟩
    walk_at "x"
    refine ⟨rfl, ?_⟩
    walk_at "x"
    exact k _ ((AgA.I hs (by walk_at "sels")).perm (by walk_at "sels"))
  | cons b r =>
    refine if_dF (by simp <;> omega) ?_
    walk_at "x"
    refine Rd.a1 ⟨rp, n, b :: r, dt, fs, _, _, rfl, hs, by walk_at "sel", (fun e => by cases e), fun b' r' e => ?_⟩
    obtain ⟨rfl, rfl⟩ := List.cons.inj e
    have hU := WdA.U hs (by walk_at "sel")
    clear hs
    obtain ⟨il, al, dl, fl, vs, vi, hl, hi, hs⟩ := hU
    have hU := RvA.U hs (by walk_at "sel")
    clear hs
    obtain ⟨dx, hs⟩ := hU
    simp only [List.map_cons] at hs
    walk_at "x"
    refine if_dT rfl ?_
    walk_at "x"
    rw [decide_eq_true (rfl : V.int lat = V.int lat)]
    have hs := RvA.I hs (by walk_at "sel")
    have hs := WdA.I (xs := its R) (ab := b :: r) (dt := dt) (fs := fs) hs (by walk_at "selm")
    exact k _ ((AgA.I hs (by walk_at "sels")).perm (by walk_at "sels"))
theorem ok_law_changes (T : Txt P w K mg base a) : FnOk P w K mg base (L2.CX P w) 6 a.f_law_changes a.fd_law_changes ["state", "queue", "ring", "world", "slots", "now"] (sp_law_changes K a) := by
  have G_law_draw := ok_law_draw T
  have G_law_arrives := ok_law_arrives T
  have G_SlotRing_arm := ok_SlotRing_arm T
  have G_SlotRing_reap := ok_SlotRing_reap T
  refine T.F_law_changes.okX sc_law_changes (fun vs H Q E h => A6.len h) (fun cdv A outer s H vs Q E hr h => ?_)
  have hu := hu_of hr
  obtain ⟨v_state, v_queue, v_ring, v_world, v_slots, v_now, rfl, h⟩ := h
  refine ⟨_, (pss_cons (ps_set (i := 6) sc_law_changes.nd rfl (by first | exact Or.inl rfl | exact Or.inr rfl) (pe_callS G_law_draw (hr.mono (by decide)) rfl T.g_law_draw T.F_law_draw.kp T.b_law_draw (fun σ => passAt (takes_of rfl rfl rfl rfl) σ) (pa_cons (pv 0) (pa_cons pe_int pa_nil))))
    (pss_one (ps_if (pt_cmpR op_eq (pv 6) pe_int (nomark _)) (pss_one (ps_for (passes_of rfl) rfl (pi_range1 rfl T.g_range (pa_cons (pe_op op_add pe_int (pe_callS G_law_draw (hr.mono (by decide)) rfl T.g_law_draw T.F_law_draw.kp T.b_law_draw (fun σ => passAt (takes_of rfl rfl rfl rfl) σ) (pa_cons (pv 0) (pa_cons pe_int pa_nil)))) pa_nil)) (pg_name (i := 7) sc_law_changes.nd rfl (by first | exact Or.inl rfl | exact Or.inr rfl)) (pss_one (ps_expr (pe_callS G_law_arrives (hr.mono (by decide)) rfl T.g_law_arrives T.F_law_arrives.kp T.b_law_arrives (fun σ => passAt (takes_of rfl rfl rfl rfl) σ) (pa_cons (pv 1) (pa_cons (pv 3) (pa_cons (pe_callS G_law_draw (hr.mono (by decide)) rfl T.g_law_draw T.F_law_draw.kp T.b_law_draw (fun σ => passAt (takes_of rfl rfl rfl rfl) σ) (pa_cons (pv 0) (pa_cons pe_int pa_nil))) (pa_cons (pv 5) pa_nil))))))))) (pss_one (ps_if (pt_up (PW.pt (pw_and (pt_cmpR op_eq (pv 6) pe_int (nomark _)) (pw_and1 (pt_cmpR op_lt (pe_op op_add (pe_callB call_ln (by rfl) T.g_len (by decide +kernel) (pa_cons (pe_ix ix_list (pv 3) pe_int (fun _ _ => rfl)) pa_nil)) (pe_callB call_ln (by rfl) T.g_len (by decide +kernel) (pa_cons (pe_ix ix_list (pv 3) pe_int (fun _ _ => rfl)) pa_nil))) (pv 4) (nomark _)))))) (pss_cons (ps_set (i := 8) sc_law_changes.nd rfl (by first | exact Or.inl rfl | exact Or.inr rfl) (pe_ix ix_list (pv 3) pe_int (fun _ _ => rfl)))
    (pss_cons (ps_expr (pe_bm PySem.F.plainAttrs_list PySem.F.slot_list_append PySem.F.type_list_append mt_append (pv 8) (pa_cons (pe_ix ix_list (pv 3) pe_int (fun _ _ => rfl)) pa_nil)))
    (pss_cons (ps_expr (pe_methS (pv 2) T.cl_SlotRing T.m_SlotRing_arm G_SlotRing_arm (hr.mono (by decide)) T.b_SlotRing_arm (fun σ => passAt (takes_of rfl rfl rfl rfl) σ) (pa_cons (pe_ix ix_list (pv 3) pe_int (fun _ _ => rfl)) pa_nil)))
    (pss_one (ps_asg (pe_op op_add (pe_ix ix_list (pv 3) pe_int (fun _ _ => rfl)) pe_int) (pg_sub (pv 3) pe_int set_list)))))) (pss_one (ps_if (PW.pt (pw_and (pt_cmpR op_eq (pv 6) pe_int (nomark _)) (pw_and1 (pt_cmpR op_gt (pe_callB call_ln (by rfl) T.g_len (by decide +kernel) (pa_cons (pe_ix ix_list (pv 3) pe_int (fun _ _ => rfl)) pa_nil)) pe_int (nomark _))))) (pss_cons (ps_expr (pe_meth0S (pv 2) T.cl_SlotRing T.m_SlotRing_reap G_SlotRing_reap (hr.mono (by decide)) T.b_SlotRing_reap (fun σ => passAt (takes_of rfl rfl rfl rfl) σ)))
    (pss_one (ps_expr (pe_bm PySem.F.plainAttrs_list PySem.F.slot_list_pop PySem.F.type_list_pop mt_popAt (pe_ix ix_list (pv 3) pe_int (fun _ _ => rfl)) (pa_cons pe_int pa_nil))))) pss_nil))))))), ?_⟩
  obtain ⟨st, p, qp, rp, pw, size, idle, cap, nxt, now, n, R, ab, dt, fs, lat, L, M, rfl, rfl, rfl, rfl, rfl, rfl, hs, se, hR, hc, k⟩ := h
  have hs := hs.sels se
  simp only [List.cons_append, List.nil_append] at hs
  have hs := AgA.U hs (.there .here)
  have fin : ∀ H', Sl.St (StA st :: RvA a p qp rp size idle lat :: RqA a.C_ReceiveQueue qp cap R :: SrA a rp n ab dt fs :: WdA pw (its R) ab dt fs lat nxt :: M) H' → Q .non H' := fun H' hs => k R ab fs nxt H' (by omega) (fun h => h) ((AgA.I hs (by walk_at "sels")).perm (by walk_at "sels"))
  walk_at "x"
  refine c_draw hs (by walk_at "sel") (by omega) (by omega) fun r1 H1 ra1 rb1 hs => ?_
  walk_at "x"
  refine if_d (fun c => ?_) (fun c => ?_)
  · walk_at "x"
    refine c_draw hs (by walk_at "sel") (by omega) (by omega) fun r2 H2 ra2 rb2 hs => ?_
    walk_at "x"
    refine k_rng (fun i σ H' => ∃ (R' : List (It × Int)) (u : Option V), σ = [some (.ref st), some (.ref qp), some (.ref rp), some (.ref pw), some (.int n), some (.int now), some (.int r1), u, none] ∧ R'.length ≤ R.length + i ∧
      Sl.St (StA st :: RvA a p qp rp size idle lat :: RqA a.C_ReceiveQueue qp cap R' :: SrA a rp n ab dt fs :: WdA pw (its R') ab dt fs lat nxt :: M) H') (by omega) (by omega) ⟨R, _, rfl, by omega, hs.perm (by walk_at "sels")⟩ ?_ ?_
    · clear hs
      rintro i σ H3 hi ⟨R', u, rfl, hl, hs⟩
      walk_at "x"
      refine c_draw hs (by walk_at "sel") (by omega) (by omega) fun r3 H4 ra3 rb3 hs => ?_
      walk_at "x"
      refine Rd.a4 ⟨qp, pw, cap, r3, now, R', ab, dt, fs, lat, nxt, _, _, rfl, rfl, rfl, rfl, hs, by walk_at "sels", by omega, hc, fun H5 hs => ?_⟩
      walk_at "x"
      exact ⟨arrT R' cap r3 now, _, rfl, by have := arrT_len R' cap r3 now; omega, hs.perm (by walk_at "sels")⟩
    · rintro σ H3 ⟨R', u, rfl, hl, hs⟩
      walk_at "x"
      exact k R' ab fs nxt _ (by omega) (fun h => h) ((AgA.I hs (by walk_at "sels")).perm (by walk_at "sels"))
  · walk_at "x"
    refine t_up0 ?_
    have hU := WdA.U hs (by walk_at "sel")
    obtain ⟨dx, pa, pf, ad, vs0, le, hl0, nz, _⟩ := SrA.U hs (by walk_at "sel")
    clear hs
    obtain ⟨il, al, dl, fl, vs, vi, hl, hi, hs⟩ := hU
    walk_at "x"
    refine if_d (fun c1 => ?_) (fun c1 => ?_)
    · walk_at "x"
      rw [List.length_map, hl]
      refine if_d (fun c2 => ?_) (fun c2 => ?_)
      · walk_at "x"
        refine a2 ⟨rp, n, ab, dt, fs, _, _, rfl, hs, by walk_at "sel", nxt, rfl, (fun h => by omega), fun _ H2 hs => ?_⟩
        walk_at "x"
        refine c_setLS (j := 5) hs (by walk_at "sel") rfl (by simp) fun H3 hs => ?_
        simp only [List.set] at hs
        walk_at "x"
        have hs := WdA.I (xs := its R) (ab := ab ++ [nxt]) (dt := dt) (fs := fs) hs (by walk_at "selm")
        exact k R (ab ++ [nxt]) fs (nxt + 1) _ (by omega) (fun _ _ h => by simp at h) ((AgA.I hs (by walk_at "sels")).perm (by walk_at "sels"))
      · walk_at "x"
        refine if_dF (fun z => c2 (by have := int_inj c1; have := int_inj z; omega)) ?_
        refine iteF ?_
        walk_at "x"
        have hs := WdA.I (xs := its R) (ab := ab) (dt := dt) (fs := fs) hs (by walk_at "sels")
        exact fin _ (hs.perm (by walk_at "sels"))
    · refine iteF ?_
      walk_at "x"
      refine if_d (fun c3 => ?_) (fun c3 => ?_)
      · walk_at "x"
        rw [hl]
        cases fs with
        | nil =>
          refine if_dF (by simp) ?_
          walk_at "x"
          have hs := WdA.I (xs := its R) (ab := ab) (dt := dt) (fs := []) hs (by walk_at "sels")
          exact fin _ (hs.perm (by walk_at "sels"))
        | cons x r =>
          refine if_dT (by simp <;> omega) ?_
          simp only [List.length_cons] at hl le
          walk_at "x"
          refine Rd.a1 ⟨rp, n, ab, dt, x :: r, _, _, rfl, hs, by walk_at "sel", (fun h => by cases h), fun x' r' e t H2 hs => ?_⟩
          obtain ⟨rfl, rfl⟩ := List.cons.inj e
          have hU := lA.unS (Pa := slotA) (vs := vs) hs (by walk_at "sel")
          clear hs
          obtain ⟨v, ws, rfl, hs⟩ := hU
          simp only [List.length_cons] at hl
          walk_at "x"
          have hs := WdA.I (xs := its R) (ab := ab) (dt := dt) (fs := r) (vs := ws) hs (by walk_at "sels")
          exact k R ab r nxt _ (by omega) (fun h => h) ((AgA.I hs (by walk_at "sels")).perm (by walk_at "sels"))
      · refine iteF ?_
        walk_at "x"
        have hs := WdA.I (xs := its R) (ab := ab) (dt := dt) (fs := fs) hs (by walk_at "sels")
        exact fin _ (hs.perm (by walk_at "sels"))
end
end My
set_option Elab.async false
set_option maxRecDepth 100000
set_option maxHeartbeats 100000000
set_option linter.all false
namespace My
open PySem L2 Sx Rd Sl
local macro_rules | `(tactic| walk_at "ne") => `(tactic| (first | with_reducible assumption | with_reducible exact Ne.symm (by with_reducible assumption)))
local macro_rules | `(tactic| walk_at "nin") => `(tactic| (simp only [List.mem_cons, List.not_mem_nil, or_false, not_or, not_false_eq_true]; (repeat' refine And.intro ?_ ?_); (all_goals walk_at "ne")))
local macro_rules | `(tactic| walk_at "hl") => `(tactic| (first | (with_reducible assumption) | exact upd_same | ((with_reducible refine' (upd_ne ?hne).trans ?hgo); (case hne => walk_at "ne"); (case hgo => walk_at "hl"))))
local macro_rules | `(tactic| walk_at "sq") => `(tactic| (first | (with_reducible assumption) | exact Or.inl (Or.inl (by walk_at "hl"))))
local macro_rules | `(tactic| walk_at "ar") => `(tactic| (first | omega | exact ⟨by omega, by omega⟩ | exact Or.inl ⟨by omega, by omega⟩ | exact Or.inr ⟨by omega, by omega⟩ | (show (0 : Int) < _; omega) | (show (0 : Int) < _ ∧ _ < (1073741824 : Int); omega)))
local macro_rules | `(tactic| walk_at "cls") => `(tactic| (first | exact Txt.cl_Receiver (by assumption) | exact Txt.cl_Ring (by assumption) | exact Txt.cl_ReceiveQueue (by assumption) | exact Txt.cl_SlotRing (by assumption)))
local macro_rules | `(tactic| walk_at "noa") => `(tactic| (first | exact Txt.n_Receiver_queue (by assumption) | exact Txt.n_Receiver_ring (by assumption) | exact Txt.n_Receiver_size (by assumption) | exact Txt.n_Receiver_idle (by assumption) | exact Txt.n_Receiver_latest (by assumption) | exact Txt.n_Ring_cells (by assumption) | exact Txt.n_Ring_written (by assumption) | exact Txt.n_Ring_taken (by assumption) | exact Txt.n_ReceiveQueue_capacity (by assumption) | exact Txt.n_ReceiveQueue_items (by assumption) | exact Txt.n_ReceiveQueue_ticks (by assumption) | exact Txt.n_SlotRing_slots (by assumption) | exact Txt.n_SlotRing_armed (by assumption) | exact Txt.n_SlotRing_filled (by assumption) | exact Txt.n_SlotRing_added (by assumption)))
local macro_rules | `(tactic| walk_at "lkp") => `(tactic| (first | (with_reducible exact F_Receiver_queue_l) | (with_reducible exact F_Receiver_ring_l) | (with_reducible exact F_Receiver_size_l) | (with_reducible exact F_Receiver_idle_l) | (with_reducible exact F_Receiver_latest_l) | (with_reducible exact F_Ring_cells_l) | (with_reducible exact F_Ring_written_l) | (with_reducible exact F_Ring_taken_l) | (with_reducible exact F_ReceiveQueue_capacity_l) | (with_reducible exact F_ReceiveQueue_items_l) | (with_reducible exact F_ReceiveQueue_ticks_l) | (with_reducible exact F_SlotRing_slots_l) | (with_reducible exact F_SlotRing_armed_l) | (with_reducible exact F_SlotRing_filled_l) | (with_reducible exact F_SlotRing_added_l)))
local macro_rules | `(tactic| walk_at "ptf") => `(tactic| (first | (with_reducible exact F_Receiver_queue_p) | (with_reducible exact F_Receiver_ring_p) | (with_reducible exact F_Receiver_size_p) | (with_reducible exact F_Receiver_idle_p) | (with_reducible exact F_Receiver_latest_p) | (with_reducible exact F_Ring_cells_p) | (with_reducible exact F_Ring_written_p) | (with_reducible exact F_Ring_taken_p) | (with_reducible exact F_ReceiveQueue_capacity_p) | (with_reducible exact F_ReceiveQueue_items_p) | (with_reducible exact F_ReceiveQueue_ticks_p) | (with_reducible exact F_SlotRing_slots_p) | (with_reducible exact F_SlotRing_armed_p) | (with_reducible exact F_SlotRing_filled_p) | (with_reducible exact F_SlotRing_added_p) | exact rfl))
local macro_rules | `(tactic| walk_at "lnF") => `(tactic| (first | (with_reducible exact F_Receiver_len) | (with_reducible exact F_Ring_len) | (with_reducible exact F_ReceiveQueue_len) | (with_reducible exact F_SlotRing_len) | (refine PL.lt (n := 60) ?_ (by decide); (repeat refine PL.put ?_); exact PL.nil) | decide))
local macro_rules | `(tactic| walk_at "nol") => `(tactic| (first | (with_reducible exact F_Receiver_m_can_step) | (with_reducible exact F_Receiver_m_step) | (with_reducible exact F_Receiver_m_close_idle) | (with_reducible exact F_Receiver_m_add) | (with_reducible exact F_Ring_m_held) | (with_reducible exact F_Ring_m_is_full) | (with_reducible exact F_Ring_m_put) | (with_reducible exact F_Ring_m_first) | (with_reducible exact F_Ring_m_take) | (with_reducible exact F_Ring_m_listed) | (with_reducible exact F_Ring_m_next) | (with_reducible exact F_ReceiveQueue_m_arrive) | (with_reducible exact F_ReceiveQueue_m_first) | (with_reducible exact F_ReceiveQueue_m_take) | (with_reducible exact F_ReceiveQueue_m_oldest_tick) | (with_reducible exact F_ReceiveQueue_m_bytes_held) | (with_reducible exact F_ReceiveQueue_m_contents) | (with_reducible exact F_ReceiveQueue_m_append) | (with_reducible exact F_ReceiveQueue_m_lose) | (with_reducible exact F_SlotRing_m_can_arm) | (with_reducible exact F_SlotRing_m_arm) | (with_reducible exact F_SlotRing_m_open_slot) | (with_reducible exact F_SlotRing_m_open_bytes) | (with_reducible exact F_SlotRing_m_open_count) | (with_reducible exact F_SlotRing_m_add) | (with_reducible exact F_SlotRing_m_close) | (with_reducible exact F_SlotRing_m_oldest) | (with_reducible exact F_SlotRing_m_reap) | (with_reducible exact F_SlotRing_m_filled_slots) | (with_reducible exact F_SlotRing_m_buffers)))
local macro_rules | `(tactic| walk_at "r1") => `(tactic| (first
  | with_reducible apply l_cons | ((with_reducible apply e_var); (case h => exact rfl)) | with_reducible apply l_nil | with_reducible apply s_seq | with_reducible apply e_c | with_reducible apply g_name
  | with_reducible apply s_asg | with_reducible apply e_call | with_reducible apply k_t | with_reducible apply e_op | with_reducible apply e_cb | with_reducible apply t_test
  | with_reducible apply s_if | with_reducible apply t_or | with_reducible apply t_and | with_reducible apply t_B | with_reducible apply s_next | with_reducible apply p_some
  | with_reducible apply p_no | with_reducible apply e_sl | with_reducible apply k_i | with_reducible apply e_lst | with_reducible apply t_not | with_reducible apply o_I0
  | ((with_reducible refine' o_I ?hc ?_); (case hc => walk_at "ar")) | with_reducible apply e_meth | ((with_reducible refine' k_meth ?h1 ?h2 ?_); (case h1 => walk_at "hl"); (case h2 => walk_at "nol")) | with_reducible apply e_fld | ((with_reducible refine' k_fld ?h1 ?h2 ?h3 ?h4 ?_); (case h1 => walk_at "hl"); (case h2 => walk_at "cls"); (case h3 => walk_at "noa"); (case h4 => walk_at "lkp")) | with_reducible apply e_not
  | with_reducible apply s_ret | ((with_reducible refine' k_ty ?h1 ?_); (case h1 => walk_at "sq")) | with_reducible apply s_drop | with_reducible apply s_retN | with_reducible apply s_cont | with_reducible apply s_break
  | with_reducible apply o_chC | ((with_reducible refine' o_chV ?hv ?_); (case hv => exact rfl)) | with_reducible apply e_un | with_reducible apply o_U | ((with_reducible refine' o_eq ?hs ?_); (case hs => exact rfl)) | ((with_reducible refine' o_ne ?hs ?_); (case hs => exact rfl))
  | ((with_reducible refine' o_ixL ?h1 ?h2 ?_); (case h1 => walk_at "sq"); (case h2 => first | exact rfl | exact atI_zero _ _)) | with_reducible apply s_fld | with_reducible apply e_make | ((with_reducible refine' k_set ?h1 ?h2 ?h3 ?h4 ?h5 ?_); (case h1 => walk_at "hl"); (case h2 => walk_at "cls"); (case h3 => walk_at "noa"); (case h4 => walk_at "ptf"); (case h5 => walk_at "lnF")) | with_reducible apply e_tup | with_reducible apply e_bm
  | with_reducible apply e_bm0 | with_reducible apply e_if | with_reducible apply e_chain | with_reducible apply s_raise | with_reducible apply g_sub | ((with_reducible refine' c_ln ?h1 ?_); (case h1 => walk_at "sq"))
  | ((with_reducible refine' c_pop0 ?h1 ?h2 ?_); (case h1 => walk_at "hl"); (case h2 => omega)) | with_reducible apply c_isBool | with_reducible apply c_isInt | with_reducible apply c_isBoolN | with_reducible apply c_isTupI | with_reducible apply c_isNonB
  | with_reducible apply c_isNonT | ((with_reducible refine' c_isList ?h1 ?_); (case h1 => walk_at "hl")) | ((with_reducible refine' c_isTup ?h1 ?_); (case h1 => walk_at "hl")) | ((with_reducible refine' c_isTupB ?h1 ?_); (case h1 => walk_at "hl")) | with_reducible apply o_isB | with_reducible apply o_notB
  | with_reducible apply e_and | with_reducible apply e_or | with_reducible apply k_bl | with_reducible apply e_xf | with_reducible apply s_augS | ((with_reducible refine' s_augV ?hv ?_); (case hv => exact rfl))
  | with_reducible apply ip_I | with_reducible apply e_lcE | ((with_reducible refine' k_xf ?h1 ?h2 ?_); (case h1 => walk_at "hl"); (case h2 => exact look_hit _ _ _)) | ((with_reducible refine' o_slL ?h1 ?_); (case h1 => walk_at "sq")) | ((with_reducible refine' k_dget ?h1 ?h2 ?_); (case h1 => walk_at "hl"); (case h2 => with_reducible assumption)) | with_reducible apply e_dget
  | with_reducible apply s_dput | with_reducible apply e_makeK | with_reducible apply g_cons | with_reducible apply g_nil | with_reducible apply c_ab | with_reducible apply c_in
  | with_reducible apply c_mx | with_reducible apply c_mn | with_reducible apply a1 | with_reducible apply a2 | with_reducible apply a3 | with_reducible apply a4
  | with_reducible apply a5 | with_reducible apply a6 | with_reducible apply a0 | with_reducible apply t_tru | with_reducible apply t_yes | ((with_reducible refine' k_truL ?h1 ?_); (case h1 => walk_at "sq")) | with_reducible refine d_nx ?_ | with_reducible refine d_rt ?_ | with_reducible refine d_bk ?_
  | with_reducible refine d_ct ?_))
local macro_rules | `(tactic| walk_at "r") => `(tactic| (repeat walk_at "r1"))
local macro_rules | `(tactic| walk_at "sel") => `(tactic| (first | with_reducible exact Sl.Sel.here | ((with_reducible refine' Sl.Sel.there ?t); (case t => walk_at "sel"))))
local macro_rules | `(tactic| walk_at "sels") => `(tactic| (first | with_reducible exact Sl.Sels.nil | ((with_reducible refine' Sl.Sels.cons ?a ?b); (case a => walk_at "sel"); (case b => walk_at "sels")) | with_reducible exact Sl.Sels.all _ | ((with_reducible refine' Sl.Sels.skip ?t); (case t => walk_at "sels"))))
local macro_rules | `(tactic| walk_at "selm") => `(tactic| ((try (simp only [])); (try simp only [List.map_append, List.map_cons, List.map_nil]); walk_at "sels"))
local macro_rules | `(tactic| walk_at "hg") => do
  let h := Lean.mkIdent `hs
  `(tactic| (first | (with_reducible assumption) | ((with_reducible refine' Sl.St.get $h ?s); (case s => walk_at "sel")) | ((with_reducible refine' Sl.St.geti $h ?s); (case s => walk_at "sel"))))
local macro_rules | `(tactic| walk_at "sg") => do
  let h := Lean.mkIdent `hs
  `(tactic| (first | (with_reducible assumption) | exact Or.inl (Or.inl (by walk_at "hg")) | (refine' Sl.sqA.U $h ?s; (case s => walk_at "sel"))))
local macro_rules | `(tactic| walk_at "le5") => `(tactic| (first | omega | (simp only [List.length_cons, List.length_nil, List.length_append, List.length_map]; omega) | (show _ ≤ _; decide) | (show _ < _; decide)))
local macro_rules | `(tactic| walk_at "km") => `(tactic| fail)
local macro_rules | `(tactic| walk_at "kf") => `(tactic| fail)
local macro_rules | `(tactic| walk_at "x1") => do
  let h := Lean.mkIdent `hs
  `(tactic| (first
  | with_reducible apply l_cons | ((with_reducible apply e_var); (case h => exact rfl)) | with_reducible apply l_nil | with_reducible apply s_seq | with_reducible apply e_c | with_reducible apply g_name
  | with_reducible apply s_asg | with_reducible apply e_call | with_reducible apply k_t | with_reducible apply e_op | with_reducible apply e_cb | with_reducible apply t_test
  | with_reducible apply s_if | with_reducible apply t_or | with_reducible apply t_and | with_reducible apply t_B | with_reducible apply s_next | with_reducible apply p_some
  | with_reducible apply p_no | with_reducible apply e_sl | with_reducible apply k_i | with_reducible apply Sl.e_lstS | with_reducible apply t_not | with_reducible apply o_I0
  | ((with_reducible refine' o_I ?hc ?_); (case hc => walk_at "ar")) | with_reducible apply e_meth | ((with_reducible refine' k_meth ?h1 ?h2 ?_); (case h1 => walk_at "hg"); (case h2 => walk_at "nol")) | walk_at "km" | with_reducible apply e_fld
  | ((with_reducible refine' k_fld ?h1 ?h2 ?h3 ?h4 ?_); (case h1 => walk_at "hg"); (case h2 => walk_at "cls"); (case h3 => walk_at "noa"); (case h4 => walk_at "lkp")) | walk_at "kf" | with_reducible apply e_not
  | with_reducible apply s_ret | ((with_reducible refine' k_ty ?h1 ?_); (case h1 => walk_at "sg")) | with_reducible apply s_drop | with_reducible apply s_retN | with_reducible apply s_cont | with_reducible apply s_break
  | with_reducible apply o_chC | ((with_reducible refine' o_chV ?hv ?_); (case hv => exact rfl)) | with_reducible apply e_un | with_reducible apply o_U | ((with_reducible refine' o_eq ?hs ?_); (case hs => exact rfl)) | ((with_reducible refine' o_ne ?hs ?_); (case hs => exact rfl))
  | ((with_reducible refine' o_ixL ?h1 ?h2 ?_); (case h1 => walk_at "sg"); (case h2 => first | exact rfl | exact atI_zero _ _)) | ((with_reducible refine' o_ixT ?h1 ?h2 ?_); (case h1 => walk_at "sg"); (case h2 => first | exact rfl | exact atI_zero _ _)) | with_reducible apply s_fld | with_reducible apply Sl.e_makeS
  | ((with_reducible refine' Sl.k_setS $h ?h1 ?h2 ?h3 ?h4 ?h5 ?_); (case h1 => walk_at "sel"); (case h2 => walk_at "cls"); (case h3 => walk_at "noa"); (case h4 => walk_at "ptf"); (case h5 => walk_at "lnF"); (clear $h; intro _ $h)) | with_reducible apply Sl.e_tupS | with_reducible apply e_bm
  | with_reducible apply e_bm0 | with_reducible apply e_if | with_reducible apply e_chain | with_reducible apply s_raise | with_reducible apply g_sub | ((with_reducible refine' c_ln ?h1 ?_); (case h1 => walk_at "sg")) | ((with_reducible refine' c_lnT ?h1 ?_); (case h1 => walk_at "sg"))
  | ((with_reducible refine' Sl.k_newL $h ?h1 ?_); (case h1 => walk_at "le5"); (clear $h; intro _ _ $h)) | ((with_reducible refine' Sl.k_newT $h ?h1 ?_); (case h1 => walk_at "le5"); (clear $h; intro _ _ $h)) | ((with_reducible refine' Sl.k_make $h ?_); (clear $h; intro _ _ _ $h))
  | ((with_reducible refine' Sl.c_appS $h ?h1 ?h2 ?_); (case h1 => walk_at "sel"); (case h2 => walk_at "le5"); (clear $h; intro _ $h)) | ((with_reducible refine' Sl.c_pop0S $h ?h1 ?h2 ?_); (case h1 => walk_at "sel"); (case h2 => walk_at "le5"); (clear $h; intro _ $h))
  | ((with_reducible refine' Sl.c_lsS $h ?h1 ?_); (case h1 => walk_at "sg"); (clear $h; intro _ _ $h)) | ((with_reducible refine' Sl.o_slLS $h ?h1 ?_); (case h1 => walk_at "sg"); (clear $h; intro _ _ $h)) | ((with_reducible refine' Sl.c_clrS $h ?h1 ?_); (case h1 => walk_at "sel"); (clear $h; intro _ $h))
  | ((with_reducible refine' Sl.o_catS $h ?h1 ?h2 ?h3 ?_); (case h1 => walk_at "hg"); (case h2 => walk_at "hg"); (case h3 => walk_at "le5"); (clear $h; intro _ _ $h)) | ((with_reducible refine' Sl.c_extS $h ?h1 ?h2 ?h3 ?_); (case h1 => walk_at "sel"); (case h2 => walk_at "hg"); (case h3 => walk_at "le5"); (clear $h; intro _ $h))
  | ((with_reducible refine' Sl.k_raise $h ?h1 ?_); (case h1 => exact okV_int ⟨by omega, by omega⟩); (clear $h; intro _ _ $h))
  | with_reducible apply c_isBool | with_reducible apply c_isInt | with_reducible apply c_isBoolN | with_reducible apply c_isTupI | with_reducible apply c_isNonB
  | with_reducible apply c_isNonT | ((with_reducible refine' c_isList ?h1 ?_); (case h1 => walk_at "hg")) | ((with_reducible refine' c_isTup ?h1 ?_); (case h1 => walk_at "hg")) | ((with_reducible refine' c_isTupB ?h1 ?_); (case h1 => walk_at "hg")) | with_reducible apply o_isB | with_reducible apply o_notB
  | with_reducible apply e_and | with_reducible apply e_or | with_reducible apply k_bl | with_reducible apply e_xf | with_reducible apply s_augS | ((with_reducible refine' s_augV ?hv ?_); (case hv => exact rfl)) | with_reducible apply Sl.s_aug
  | with_reducible apply ip_I | with_reducible apply e_lcE | with_reducible apply e_lcL | with_reducible apply f_lst | with_reducible apply e_lcF | with_reducible apply f_rng1 | ((with_reducible refine' k_xf ?h1 ?h2 ?_); (case h1 => walk_at "hg"); (case h2 => exact look_hit _ _ _)) | ((with_reducible refine' k_dget ?h1 ?h2 ?_); (case h1 => walk_at "hg"); (case h2 => with_reducible assumption)) | with_reducible apply e_dget
  | with_reducible apply s_dput | with_reducible apply Sl.e_makeKS | with_reducible apply g_cons | with_reducible apply g_nil | ((with_reducible refine' g_tup ?h1 ?h2 ?_); (case h1 => walk_at "sg"); (case h2 => exact rfl)) | with_reducible apply c_ab | with_reducible apply c_in
  | with_reducible apply c_mx | with_reducible apply c_mn | with_reducible apply a1 | with_reducible apply a2 | with_reducible apply a3 | with_reducible apply a4
  | with_reducible apply a5 | with_reducible apply a6 | with_reducible apply a0 | with_reducible apply t_tru | with_reducible apply t_yes | ((with_reducible refine' k_truL ?h1 ?_); (case h1 => walk_at "sg")) | with_reducible refine d_nx ?_ | with_reducible refine d_rt ?_ | with_reducible refine d_bk ?_
  | with_reducible refine d_ct ?_))
local macro_rules | `(tactic| walk_at "x") => `(tactic| (repeat walk_at "x1"))
local macro_rules | `(tactic| walk_at "km") => do let h := Lean.mkIdent `hs; `(tactic| ((with_reducible refine' km_Ring $h ?s ?m ?_); (case s => walk_at "sel"); (case m => intros; walk_at "nol")))
local macro_rules | `(tactic| walk_at "km") => do let h := Lean.mkIdent `hs; `(tactic| ((with_reducible refine' km_SlotRing $h ?s ?m ?_); (case s => walk_at "sel"); (case m => intros; walk_at "nol")))
local macro_rules | `(tactic| walk_at "km") => do let h := Lean.mkIdent `hs; `(tactic| ((with_reducible refine' km_Rq $h ?s ?m ?_); (case s => walk_at "sel"); (case m => intros; walk_at "nol")))
local macro_rules | `(tactic| walk_at "kf") => do let h := Lean.mkIdent `hs; `(tactic| ((with_reducible refine' kf_Rq_cap $h ?s ?c ?n ?_); (case s => walk_at "sel"); (case c => walk_at "cls"); (case n => walk_at "noa")))
local macro_rules | `(tactic| walk_at "km") => do let h := Lean.mkIdent `hs; `(tactic| ((with_reducible refine' km_Rv $h ?s ?m ?_); (case s => walk_at "sel"); (case m => intros; walk_at "nol")))
section
variable {P : Program} {w : World} {K : PySem.W.Frag} {mg : Str → Option Value} {base : Heap} {a : Ads}
theorem ok_law (T : Txt P w K mg base a) : FnOk P w K mg base (L2.CX P w) 9 a.f_law a.fd_law ["script"] (sp_law K a) := by
  have G_law_state := ok_law_state T
  have G_law_draw := ok_law_draw T
  have G_law_pick := ok_law_pick T
  have G_ReceiveQueue_init := ok_ReceiveQueue_init T
  have G_SlotRing_init := ok_SlotRing_init T
  have G_Receiver_init := ok_Receiver_init T
  have G_law_changes := ok_law_changes T
  have G_law_idles := ok_law_idles T
  have G_law_steps := ok_law_steps T
  have G_law_agrees := ok_law_agrees T
  refine T.F_law.okX sc_law (fun vs H Q E h => A1.len h) (fun cdv A outer s H vs Q E hr h => ?_)
  have hu := hu_of hr
  obtain ⟨v_script, rfl, h⟩ := h
  refine ⟨_, (pss_cons (ps_set (i := 1) sc_law.nd rfl (by first | exact Or.inl rfl | exact Or.inr rfl) (pe_callS G_law_state (hr.mono (by decide)) rfl T.g_law_state T.F_law_state.kp T.b_law_state (fun σ => passAt (takes_of rfl rfl rfl rfl) σ) (pa_cons (pv 0) pa_nil)))
    (pss_cons (ps_set (i := 2) sc_law.nd rfl (by first | exact Or.inl rfl | exact Or.inr rfl) (pe_op op_add pe_int (pe_callS G_law_draw (hr.mono (by decide)) rfl T.g_law_draw T.F_law_draw.kp T.b_law_draw (fun σ => passAt (takes_of rfl rfl rfl rfl) σ) (pa_cons (pv 1) (pa_cons pe_int pa_nil)))))
    (pss_cons (ps_set (i := 3) sc_law.nd rfl (by first | exact Or.inl rfl | exact Or.inr rfl) (pe_op op_add pe_int (pe_callS G_law_draw (hr.mono (by decide)) rfl T.g_law_draw T.F_law_draw.kp T.b_law_draw (fun σ => passAt (takes_of rfl rfl rfl rfl) σ) (pa_cons (pv 1) (pa_cons (pe_callS G_law_pick (hr.mono (by decide)) rfl T.g_law_pick T.F_law_pick.kp T.b_law_pick (fun σ => passAt (takes_of rfl rfl rfl rfl) σ) (pa_cons (pv 1) (pa_cons (pe_lst (pa_cons pe_int (pa_cons pe_int (pa_cons pe_int pa_nil)))) pa_nil))) pa_nil)))))
    (pss_cons (ps_set (i := 4) sc_law.nd rfl (by first | exact Or.inl rfl | exact Or.inr rfl) (pe_op op_add pe_int (pe_callS G_law_draw (hr.mono (by decide)) rfl T.g_law_draw T.F_law_draw.kp T.b_law_draw (fun σ => passAt (takes_of rfl rfl rfl rfl) σ) (pa_cons (pv 1) (pa_cons (pe_callS G_law_pick (hr.mono (by decide)) rfl T.g_law_pick T.F_law_pick.kp T.b_law_pick (fun σ => passAt (takes_of rfl rfl rfl rfl) σ) (pa_cons (pv 1) (pa_cons (pe_lst (pa_cons pe_int (pa_cons pe_int pa_nil))) pa_nil))) pa_nil)))))
    (pss_cons (ps_set (i := 5) sc_law.nd rfl (by first | exact Or.inl rfl | exact Or.inr rfl) (pe_makeS T.mk_ReceiveQueue G_ReceiveQueue_init (hr.mono (by decide)) rfl T.g_ReceiveQueue T.b_ReceiveQueue_init (fun σ => passAt (takes_of rfl rfl rfl rfl) σ) (pa_cons (pe_op op_add pe_int (pe_callS G_law_draw (hr.mono (by decide)) rfl T.g_law_draw T.F_law_draw.kp T.b_law_draw (fun σ => passAt (takes_of rfl rfl rfl rfl) σ) (pa_cons (pv 1) (pa_cons (pe_callS G_law_pick (hr.mono (by decide)) rfl T.g_law_pick T.F_law_pick.kp T.b_law_pick (fun σ => passAt (takes_of rfl rfl rfl rfl) σ) (pa_cons (pv 1) (pa_cons (pe_lst (pa_cons pe_int (pa_cons pe_int pa_nil))) pa_nil))) pa_nil)))) pa_nil)))
    (pss_cons (ps_set (i := 6) sc_law.nd rfl (by first | exact Or.inl rfl | exact Or.inr rfl) (pe_makeS T.mk_SlotRing G_SlotRing_init (hr.mono (by decide)) rfl T.g_SlotRing T.b_SlotRing_init (fun σ => passAt (takes_of rfl rfl rfl rfl) σ) (pa_cons (pv 2) pa_nil)))
    (pss_cons (ps_set (i := 7) sc_law.nd rfl (by first | exact Or.inl rfl | exact Or.inr rfl) (pe_makeS T.mk_Receiver G_Receiver_init (hr.mono (by decide)) rfl T.g_Receiver T.b_Receiver_init (fun σ => passAt (takes_of rfl rfl rfl rfl) σ) (pa_cons (pv 5) (pa_cons (pv 6) (pa_cons (pv 3) (pa_cons (pv 4) pa_nil))))))
    (pss_cons (ps_if (PW.pt (pw_or (pt_cmpR op_ne (pe_fld (pv 7) rfl) (pv 3) (nomark _)) (pw_or (pt_cmpR op_ne (pe_fld (pv 7) rfl) (pv 4) (nomark _)) (pw_or1 (pt_cmpR op_ne (pe_fld (pv 7) rfl) pe_int (nomark _)))))) (pss_one (ps_ret pe_bl)) pss_nil)
    (pss_cons (ps_set (i := 8) sc_law.nd rfl (by first | exact Or.inl rfl | exact Or.inr rfl) (pe_lst (pa_cons (pe_lst pa_nil) (pa_cons (pe_lst pa_nil) (pa_cons (pe_lst pa_nil) (pa_cons (pe_lst pa_nil) (pa_cons pe_int (pa_cons pe_int pa_nil))))))))
    (pss_cons (ps_set (i := 9) sc_law.nd rfl (by first | exact Or.inl rfl | exact Or.inr rfl) pe_int)
    (pss_cons (ps_for (passes_of rfl) rfl (pi_list (pe_slice sl_list (pv 0) po_none (po_some pe_int))) (pg_name (i := 10) sc_law.nd rfl (by first | exact Or.inl rfl | exact Or.inr rfl)) (pss_cons (ps_expr (pe_callS G_law_changes (hr.mono (by decide)) rfl T.g_law_changes T.F_law_changes.kp T.b_law_changes (fun σ => passAt (takes_of rfl rfl rfl rfl) σ) (pa_cons (pv 1) (pa_cons (pv 5) (pa_cons (pv 6) (pa_cons (pv 8) (pa_cons (pv 2) (pa_cons (pv 9) pa_nil))))))))
    (pss_cons (ps_if (pt_not (pt_val (pe_callS G_law_idles (hr.mono (by decide)) rfl T.g_law_idles T.F_law_idles.kp T.b_law_idles (fun σ => passAt (takes_of rfl rfl rfl rfl) σ) (pa_cons (pv 7) (pa_cons (pv 8) (pa_cons (pv 4) (pa_cons (pv 9) pa_nil))))))) (pss_one (ps_ret pe_bl)) pss_nil)
    (pss_cons (ps_for (passes_of rfl) rfl (pi_range1 rfl T.g_range (pa_cons (pe_callS G_law_draw (hr.mono (by decide)) rfl T.g_law_draw T.F_law_draw.kp T.b_law_draw (fun σ => passAt (takes_of rfl rfl rfl rfl) σ) (pa_cons (pv 1) (pa_cons pe_int pa_nil))) pa_nil)) (pg_name (i := 11) sc_law.nd rfl (by first | exact Or.inl rfl | exact Or.inr rfl)) (pss_cons (ps_if (pt_not (pt_val (pe_callS G_law_steps (hr.mono (by decide)) rfl T.g_law_steps T.F_law_steps.kp T.b_law_steps (fun σ => passAt (takes_of rfl rfl rfl rfl) σ) (pa_cons (pv 7) (pa_cons (pv 8) (pa_cons (pv 3) (pa_cons (pv 9) pa_nil))))))) (pss_one (ps_ret pe_bl)) pss_nil)
    (pss_one (ps_set (i := 9) sc_law.nd rfl (by first | exact Or.inl rfl | exact Or.inr rfl) (pe_op op_add (pv 9) pe_int)))))
    (pss_cons (ps_set (i := 9) sc_law.nd rfl (by first | exact Or.inl rfl | exact Or.inr rfl) (pe_op op_add (pv 9) (pe_callS G_law_pick (hr.mono (by decide)) rfl T.g_law_pick T.F_law_pick.kp T.b_law_pick (fun σ => passAt (takes_of rfl rfl rfl rfl) σ) (pa_cons (pv 1) (pa_cons (pe_lst (pa_cons pe_int (pa_cons pe_int (pa_cons (pe_op op_sub (pv 4) pe_int) (pa_cons (pv 4) pa_nil))))) pa_nil)))))
    (pss_one (ps_if (pt_not (pt_val (pe_callS G_law_agrees (hr.mono (by decide)) rfl T.g_law_agrees T.F_law_agrees.kp T.b_law_agrees (fun σ => passAt (takes_of rfl rfl rfl rfl) σ) (pa_cons (pv 7) (pa_cons (pv 5) (pa_cons (pv 6) (pa_cons (pv 8) pa_nil))))))) (pss_one (ps_ret pe_bl)) pss_nil)))))))
    (pss_one (ps_ret (pe_callS G_law_agrees (hr.mono (by decide)) rfl T.g_law_agrees T.F_law_agrees.kp T.b_law_agrees (fun σ => passAt (takes_of rfl rfl rfl rfl) σ) (pa_cons (pv 7) (pa_cons (pv 5) (pa_cons (pv 6) (pa_cons (pv 8) pa_nil)))))))))))))))))), ?_⟩
  obtain ⟨b, ns, rfl, hS, hn, k⟩ := h
  have hs : Sl.St [sqA K b (ns.map V.int)] H := sqA.new hS
  walk_at "x"
  refine c_state hs hS hn fun st H1 hs _ => ?_
  walk_at "x"
  refine c_draw hs (by walk_at "sel") (by omega) (by omega) fun r1 H2 ra1 rb1 hs => ?_
  walk_at "x"
  obtain ⟨n, hn1⟩ : ∃ n : Nat, (n : Int) = 1 + r1 := ⟨(1 + r1).toNat, by omega⟩
  rw [← hn1]
  refine c_pick [2, 4, 16] hs (by walk_at "sel") (by walk_at "sel") (by rfl) (by simp) (by simp) fun m1 H3 hm1 hs => ?_
  have hm1 : 2 ≤ m1 ∧ m1 ≤ 16 := by simp at hm1; omega
  walk_at "x"
  refine c_draw hs (by walk_at "sel") (by omega) (by omega) fun r2 H4 ra2 rb2 hs => ?_
  walk_at "x"
  refine c_pick [3, 32] hs (by walk_at "sel") (by walk_at "sel") (by rfl) (by simp) (by simp) fun m2 H5 hm2 hs => ?_
  have hm2 : 3 ≤ m2 ∧ m2 ≤ 32 := by simp at hm2; omega
  walk_at "x"
  refine c_draw hs (by walk_at "sel") (by omega) (by omega) fun r3 H6 ra3 rb3 hs => ?_
  walk_at "x"
  refine c_pick [3, 16] hs (by walk_at "sel") (by walk_at "sel") (by rfl) (by simp) (by simp) fun m3 H7 hm3 hs => ?_
  have hm3 : 3 ≤ m3 ∧ m3 ≤ 16 := by simp at hm3; omega
  walk_at "x"
  refine c_draw hs (by walk_at "sel") (by omega) (by omega) fun r4 H8 ra4 rb4 hs => ?_
  walk_at "x"
  refine c_rq_init hs .here fun H9 hs => ⟨rfl, ?_⟩
  walk_at "x"
  refine Rd.a2 ⟨_, _, n, _, _, rfl, rfl, by omega, by omega, hs, .here, fun H10 hs => ⟨rfl, ?_⟩⟩
  walk_at "x"
  refine Rd.a5 ⟨_, _, _, _, _, _, _, _, rfl, rfl, rfl, rfl, rfl, hs, .here, fun H11 hs => ⟨rfl, ?_⟩⟩
  have hU := RvA.U hs .here
  clear hs
  obtain ⟨dx, hs⟩ := hU
  walk_at "x"
  refine if_ndF rfl ?_
  walk_at "x"
  refine if_ndF rfl ?_
  walk_at "x"
  refine if_ndF rfl ?_
  walk_at "x"
  have hs := RvA.I hs (by walk_at "sel")
  have hs := WdA.I2 (xs := its []) (ab := []) (dt := []) (fs := []) (vs := []) (vi := []) (lat := 0) (nxt := 7) (lA.nilI hs) Its.nil (by walk_at "selm")
  have hs := AgA.I (R := []) hs (by walk_at "sels")
  have hq := sqA.U (K := K) (xs := ns.map V.int) hs (by walk_at "sel")
  refine o_slLS hs hq fun c H12 hs => ?_
  rw [show (some 63 : Option Int) = some ((63 : Nat) : Int) from rfl, cut_take] at hs
  have hlen : ((ns.map V.int).take 63).length ≤ 63 := by simp; omega
  generalize (ns.map V.int).take 63 = xs at hs hlen
  refine k_forL (fun i σ H' => ∃ (p qp rp pw : Addr) (R : List (It × Int)) (ab dt : List Int) (fs : List Slt) (lat nxt now : Int) (u1 u2 : Option V), σ = [some (.ref b), some (.ref st), some (.int n), some (.int (1 + r2)), some (.int (1 + r3)), some (.ref qp), some (.ref rp), some (.ref p), some (.ref pw), some (.int now), u1, u2] ∧
    R.length ≤ 9 * i ∧ dt.length ≤ 5 * i ∧ (dt ≠ [] → ab ≠ []) ∧ Sl.St [cell c (.lst xs), AgA a p qp rp pw (1 + r2) (1 + r3) (1 + r4) nxt n R ab dt fs lat, StA st] H') (by walk_at "sg") ⟨_, _, _, _, [], [], [], [], 0, 7, 0, _, _, rfl, by simp, by simp, fun h => absurd rfl h, hs.perm (by walk_at "sels")⟩
    (fun i σ H' _ ⟨_, _, _, _, _, _, _, _, _, _, _, _, _, _, _, _, _, hs⟩ => by walk_at "sg") ?_ ?_
  · clear hs hq
    rintro i x σ H' hx ⟨p, qp, rp, pw, R, ab, dt, fs, lat, nxt, now, u1, u2, rfl, hR, hd, hda, hs⟩
    have hi : i < 63 := Nat.lt_of_lt_of_le (List.getElem?_eq_some_iff.mp hx).1 hlen
    walk_at "x"
    refine Rd.a6 ⟨st, p, qp, rp, pw, 1 + r2, 1 + r3, 1 + r4, nxt, now, n, R, ab, dt, fs, lat, _, _, rfl, rfl, rfl, rfl, rfl, rfl, hs, by walk_at "sels", by omega, by omega, fun R1 ab1 fs1 nxt1 H2 q1 q2 hs => ?_⟩
    walk_at "x"
    refine Rd.a4 ⟨p, qp, rp, pw, 1 + r2, 1 + r3, 1 + r4, nxt1, now, n, R1, ab1, dt, fs1, lat, _, _, rfl, rfl, rfl, rfl, hs, by walk_at "sel", by omega, by omega, q2 hda, fun ab2 dt2 fs2 H3 q3 q4 hs => ?_⟩
    walk_at "x"
    refine iteF ?_
    walk_at "x"
    refine c_draw hs (by walk_at "sel") (by omega) (by omega) fun r5 H4 ra5 rb5 hs => ?_
    walk_at "x"
    refine k_rng (fun j σ H' => ∃ (R : List (It × Int)) (ab dt : List Int) (fs : List Slt) (lat now : Int) (u2 : Option V), σ = [some (.ref b), some (.ref st), some (.int n), some (.int (1 + r2)), some (.int (1 + r3)), some (.ref qp), some (.ref rp), some (.ref p), some (.ref pw), some (.int now), some x, u2] ∧
      R.length ≤ 9 * (i + 1) ∧ dt.length ≤ 5 * i + j ∧ (dt ≠ [] → ab ≠ []) ∧ Sl.St [cell c (.lst xs), AgA a p qp rp pw (1 + r2) (1 + r3) (1 + r4) nxt1 n R ab dt fs lat, StA st] H') (by omega) (by omega) ⟨R1, ab2, dt2, fs2, lat, now, u2, rfl, by omega, by omega, q4, hs.perm (by walk_at "sels")⟩ ?_ ?_
    · clear hs
      rintro j σ H5 hj ⟨R3, ab3, dt3, fs3, lat3, now3, u3, rfl, g1, g2, g3, hs⟩
      walk_at "x"
      refine Rd.a4 ⟨p, qp, rp, pw, 1 + r2, 1 + r3, 1 + r4, nxt1, now3, n, R3, ab3, dt3, fs3, lat3, _, _, rfl, rfl, rfl, rfl, hs, by walk_at "sel", by omega, by omega, fun R4 ab4 dt4 fs4 lat4 H6 e1 e2 e3 hs => ?_⟩
      walk_at "x"
      refine iteF ?_
      walk_at "x"
      exact ⟨R4, ab4, dt4, fs4, lat4, _, _, rfl, by omega, by omega, e3 g3, hs.perm (by walk_at "sels")⟩
    · rintro σ H5 ⟨R3, ab3, dt3, fs3, lat3, now3, u3, rfl, g1, g2, g3, hs⟩
      walk_at "x"
      refine c_pick [0, 1, 1 + r3 - 1, 1 + r3] hs (by walk_at "sel") (by walk_at "sel") (by rfl) (by simp) (by simp) fun m4 H7 hm4 hs => ?_
      walk_at "x"
      refine Rd.a4 ⟨p, qp, rp, pw, 1 + r2, 1 + r3, 1 + r4, nxt1, n, R3, ab3, dt3, fs3, lat3, _, _, rfl, rfl, rfl, rfl, hs, by walk_at "sel", fun H8 hs => ?_⟩
      walk_at "x"
      refine iteF ?_
      walk_at "x"
      exact ⟨p, qp, rp, pw, R3, ab3, dt3, fs3, lat3, nxt1, _, _, _, rfl, by omega, by omega, g3, hs.perm (by walk_at "sels")⟩
  · rintro σ H' ⟨p, qp, rp, pw, R, ab, dt, fs, lat, nxt, now, u1, u2, rfl, hR, hd, hda, hs⟩
    walk_at "x"
    refine Rd.a4 ⟨p, qp, rp, pw, 1 + r2, 1 + r3, 1 + r4, nxt, n, R, ab, dt, fs, lat, _, _, rfl, rfl, rfl, rfl, hs, by walk_at "sel", fun H8 hs => ?_⟩
    walk_at "x"
    exact k _
end
end My
set_option Elab.async false
set_option maxRecDepth 100000
set_option maxHeartbeats 100000000
set_option linter.all false
namespace My
open PySem L2 Sx Rd Sl
local macro_rules | `(tactic| walk_at "ne") => `(tactic| (first | with_reducible assumption | with_reducible exact Ne.symm (by with_reducible assumption)))
local macro_rules | `(tactic| walk_at "nin") => `(tactic| (simp only [List.mem_cons, List.not_mem_nil, or_false, not_or, not_false_eq_true]; (repeat' refine And.intro ?_ ?_); (all_goals walk_at "ne")))
local macro_rules | `(tactic| walk_at "hl") => `(tactic| (first | (with_reducible assumption) | exact upd_same | ((with_reducible refine' (upd_ne ?hne).trans ?hgo); (case hne => walk_at "ne"); (case hgo => walk_at "hl"))))
local macro_rules | `(tactic| walk_at "sq") => `(tactic| (first | (with_reducible assumption) | exact Or.inl (Or.inl (by walk_at "hl"))))
local macro_rules | `(tactic| walk_at "ar") => `(tactic| (first | omega | exact ⟨by omega, by omega⟩ | exact Or.inl ⟨by omega, by omega⟩ | exact Or.inr ⟨by omega, by omega⟩ | (show (0 : Int) < _; omega) | (show (0 : Int) < _ ∧ _ < (1073741824 : Int); omega)))
local macro_rules | `(tactic| walk_at "cls") => `(tactic| (first | exact Txt.cl_Receiver (by assumption) | exact Txt.cl_Ring (by assumption) | exact Txt.cl_ReceiveQueue (by assumption) | exact Txt.cl_SlotRing (by assumption)))
local macro_rules | `(tactic| walk_at "noa") => `(tactic| (first | exact Txt.n_Receiver_queue (by assumption) | exact Txt.n_Receiver_ring (by assumption) | exact Txt.n_Receiver_size (by assumption) | exact Txt.n_Receiver_idle (by assumption) | exact Txt.n_Receiver_latest (by assumption) | exact Txt.n_Ring_cells (by assumption) | exact Txt.n_Ring_written (by assumption) | exact Txt.n_Ring_taken (by assumption) | exact Txt.n_ReceiveQueue_capacity (by assumption) | exact Txt.n_ReceiveQueue_items (by assumption) | exact Txt.n_ReceiveQueue_ticks (by assumption) | exact Txt.n_SlotRing_slots (by assumption) | exact Txt.n_SlotRing_armed (by assumption) | exact Txt.n_SlotRing_filled (by assumption) | exact Txt.n_SlotRing_added (by assumption)))
local macro_rules | `(tactic| walk_at "lkp") => `(tactic| (first | (with_reducible exact F_Receiver_queue_l) | (with_reducible exact F_Receiver_ring_l) | (with_reducible exact F_Receiver_size_l) | (with_reducible exact F_Receiver_idle_l) | (with_reducible exact F_Receiver_latest_l) | (with_reducible exact F_Ring_cells_l) | (with_reducible exact F_Ring_written_l) | (with_reducible exact F_Ring_taken_l) | (with_reducible exact F_ReceiveQueue_capacity_l) | (with_reducible exact F_ReceiveQueue_items_l) | (with_reducible exact F_ReceiveQueue_ticks_l) | (with_reducible exact F_SlotRing_slots_l) | (with_reducible exact F_SlotRing_armed_l) | (with_reducible exact F_SlotRing_filled_l) | (with_reducible exact F_SlotRing_added_l)))
local macro_rules | `(tactic| walk_at "ptf") => `(tactic| (first | (with_reducible exact F_Receiver_queue_p) | (with_reducible exact F_Receiver_ring_p) | (with_reducible exact F_Receiver_size_p) | (with_reducible exact F_Receiver_idle_p) | (with_reducible exact F_Receiver_latest_p) | (with_reducible exact F_Ring_cells_p) | (with_reducible exact F_Ring_written_p) | (with_reducible exact F_Ring_taken_p) | (with_reducible exact F_ReceiveQueue_capacity_p) | (with_reducible exact F_ReceiveQueue_items_p) | (with_reducible exact F_ReceiveQueue_ticks_p) | (with_reducible exact F_SlotRing_slots_p) | (with_reducible exact F_SlotRing_armed_p) | (with_reducible exact F_SlotRing_filled_p) | (with_reducible exact F_SlotRing_added_p) | exact rfl))
local macro_rules | `(tactic| walk_at "lnF") => `(tactic| (first | (with_reducible exact F_Receiver_len) | (with_reducible exact F_Ring_len) | (with_reducible exact F_ReceiveQueue_len) | (with_reducible exact F_SlotRing_len) | (refine PL.lt (n := 60) ?_ (by decide); (repeat refine PL.put ?_); exact PL.nil) | decide))
local macro_rules | `(tactic| walk_at "nol") => `(tactic| (first | (with_reducible exact F_Receiver_m_can_step) | (with_reducible exact F_Receiver_m_step) | (with_reducible exact F_Receiver_m_close_idle) | (with_reducible exact F_Receiver_m_add) | (with_reducible exact F_Ring_m_held) | (with_reducible exact F_Ring_m_is_full) | (with_reducible exact F_Ring_m_put) | (with_reducible exact F_Ring_m_first) | (with_reducible exact F_Ring_m_take) | (with_reducible exact F_Ring_m_listed) | (with_reducible exact F_Ring_m_next) | (with_reducible exact F_ReceiveQueue_m_arrive) | (with_reducible exact F_ReceiveQueue_m_first) | (with_reducible exact F_ReceiveQueue_m_take) | (with_reducible exact F_ReceiveQueue_m_oldest_tick) | (with_reducible exact F_ReceiveQueue_m_bytes_held) | (with_reducible exact F_ReceiveQueue_m_contents) | (with_reducible exact F_ReceiveQueue_m_append) | (with_reducible exact F_ReceiveQueue_m_lose) | (with_reducible exact F_SlotRing_m_can_arm) | (with_reducible exact F_SlotRing_m_arm) | (with_reducible exact F_SlotRing_m_open_slot) | (with_reducible exact F_SlotRing_m_open_bytes) | (with_reducible exact F_SlotRing_m_open_count) | (with_reducible exact F_SlotRing_m_add) | (with_reducible exact F_SlotRing_m_close) | (with_reducible exact F_SlotRing_m_oldest) | (with_reducible exact F_SlotRing_m_reap) | (with_reducible exact F_SlotRing_m_filled_slots) | (with_reducible exact F_SlotRing_m_buffers)))
local macro_rules | `(tactic| walk_at "r1") => `(tactic| (first
  | with_reducible apply l_cons | ((with_reducible apply e_var); (case h => exact rfl)) | with_reducible apply l_nil | with_reducible apply s_seq | with_reducible apply e_c | with_reducible apply g_name
  | with_reducible apply s_asg | with_reducible apply e_call | with_reducible apply k_t | with_reducible apply e_op | with_reducible apply e_cb | with_reducible apply t_test
  | with_reducible apply s_if | with_reducible apply t_or | with_reducible apply t_and | with_reducible apply t_B | with_reducible apply s_next | with_reducible apply p_some
  | with_reducible apply p_no | with_reducible apply e_sl | with_reducible apply k_i | with_reducible apply e_lst | with_reducible apply t_not | with_reducible apply o_I0
  | ((with_reducible refine' o_I ?hc ?_); (case hc => walk_at "ar")) | with_reducible apply e_meth | ((with_reducible refine' k_meth ?h1 ?h2 ?_); (case h1 => walk_at "hl"); (case h2 => walk_at "nol")) | with_reducible apply e_fld | ((with_reducible refine' k_fld ?h1 ?h2 ?h3 ?h4 ?_); (case h1 => walk_at "hl"); (case h2 => walk_at "cls"); (case h3 => walk_at "noa"); (case h4 => walk_at "lkp")) | with_reducible apply e_not
  | with_reducible apply s_ret | ((with_reducible refine' k_ty ?h1 ?_); (case h1 => walk_at "sq")) | with_reducible apply s_drop | with_reducible apply s_retN | with_reducible apply s_cont | with_reducible apply s_break
  | with_reducible apply o_chC | ((with_reducible refine' o_chV ?hv ?_); (case hv => exact rfl)) | with_reducible apply e_un | with_reducible apply o_U | ((with_reducible refine' o_eq ?hs ?_); (case hs => exact rfl)) | ((with_reducible refine' o_ne ?hs ?_); (case hs => exact rfl))
  | ((with_reducible refine' o_ixL ?h1 ?h2 ?_); (case h1 => walk_at "sq"); (case h2 => first | exact rfl | exact atI_zero _ _)) | with_reducible apply s_fld | with_reducible apply e_make | ((with_reducible refine' k_set ?h1 ?h2 ?h3 ?h4 ?h5 ?_); (case h1 => walk_at "hl"); (case h2 => walk_at "cls"); (case h3 => walk_at "noa"); (case h4 => walk_at "ptf"); (case h5 => walk_at "lnF")) | with_reducible apply e_tup | with_reducible apply e_bm
  | with_reducible apply e_bm0 | with_reducible apply e_if | with_reducible apply e_chain | with_reducible apply s_raise | with_reducible apply g_sub | ((with_reducible refine' c_ln ?h1 ?_); (case h1 => walk_at "sq"))
  | ((with_reducible refine' c_pop0 ?h1 ?h2 ?_); (case h1 => walk_at "hl"); (case h2 => omega)) | with_reducible apply c_isBool | with_reducible apply c_isInt | with_reducible apply c_isBoolN | with_reducible apply c_isTupI | with_reducible apply c_isNonB
  | with_reducible apply c_isNonT | ((with_reducible refine' c_isList ?h1 ?_); (case h1 => walk_at "hl")) | ((with_reducible refine' c_isTup ?h1 ?_); (case h1 => walk_at "hl")) | ((with_reducible refine' c_isTupB ?h1 ?_); (case h1 => walk_at "hl")) | with_reducible apply o_isB | with_reducible apply o_notB
  | with_reducible apply e_and | with_reducible apply e_or | with_reducible apply k_bl | with_reducible apply e_xf | with_reducible apply s_augS | ((with_reducible refine' s_augV ?hv ?_); (case hv => exact rfl))
  | with_reducible apply ip_I | with_reducible apply e_lcE | ((with_reducible refine' k_xf ?h1 ?h2 ?_); (case h1 => walk_at "hl"); (case h2 => exact look_hit _ _ _)) | ((with_reducible refine' o_slL ?h1 ?_); (case h1 => walk_at "sq")) | ((with_reducible refine' k_dget ?h1 ?h2 ?_); (case h1 => walk_at "hl"); (case h2 => with_reducible assumption)) | with_reducible apply e_dget
  | with_reducible apply s_dput | with_reducible apply e_makeK | with_reducible apply g_cons | with_reducible apply g_nil | with_reducible apply c_ab | with_reducible apply c_in
  | with_reducible apply c_mx | with_reducible apply c_mn | with_reducible apply a1 | with_reducible apply a2 | with_reducible apply a3 | with_reducible apply a4
  | with_reducible apply a5 | with_reducible apply a6 | with_reducible apply a0 | with_reducible apply t_tru | with_reducible apply t_yes | ((with_reducible refine' k_truL ?h1 ?_); (case h1 => walk_at "sq")) | with_reducible refine d_nx ?_ | with_reducible refine d_rt ?_ | with_reducible refine d_bk ?_
  | with_reducible refine d_ct ?_))
local macro_rules | `(tactic| walk_at "r") => `(tactic| (repeat walk_at "r1"))
local macro_rules | `(tactic| walk_at "sel") => `(tactic| (first | with_reducible exact Sl.Sel.here | ((with_reducible refine' Sl.Sel.there ?t); (case t => walk_at "sel"))))
local macro_rules | `(tactic| walk_at "sels") => `(tactic| (first | with_reducible exact Sl.Sels.nil | ((with_reducible refine' Sl.Sels.cons ?a ?b); (case a => walk_at "sel"); (case b => walk_at "sels")) | with_reducible exact Sl.Sels.all _ | ((with_reducible refine' Sl.Sels.skip ?t); (case t => walk_at "sels"))))
local macro_rules | `(tactic| walk_at "selm") => `(tactic| ((try (simp only [])); (try simp only [List.map_append, List.map_cons, List.map_nil]); walk_at "sels"))
local macro_rules | `(tactic| walk_at "hg") => do
  let h := Lean.mkIdent `hs
  `(tactic| (first | (with_reducible assumption) | ((with_reducible refine' Sl.St.get $h ?s); (case s => walk_at "sel")) | ((with_reducible refine' Sl.St.geti $h ?s); (case s => walk_at "sel"))))
local macro_rules | `(tactic| walk_at "sg") => do
  let h := Lean.mkIdent `hs
  `(tactic| (first | (with_reducible assumption) | exact Or.inl (Or.inl (by walk_at "hg")) | (refine' Sl.sqA.U $h ?s; (case s => walk_at "sel"))))
local macro_rules | `(tactic| walk_at "le5") => `(tactic| (first | omega | (simp only [List.length_cons, List.length_nil, List.length_append, List.length_map]; omega) | (show _ ≤ _; decide) | (show _ < _; decide)))
local macro_rules | `(tactic| walk_at "km") => `(tactic| fail)
local macro_rules | `(tactic| walk_at "kf") => `(tactic| fail)
local macro_rules | `(tactic| walk_at "x1") => do
  let h := Lean.mkIdent `hs
  `(tactic| (first
  | with_reducible apply l_cons | ((with_reducible apply e_var); (case h => exact rfl)) | with_reducible apply l_nil | with_reducible apply s_seq | with_reducible apply e_c | with_reducible apply g_name
  | with_reducible apply s_asg | with_reducible apply e_call | with_reducible apply k_t | with_reducible apply e_op | with_reducible apply e_cb | with_reducible apply t_test
  | with_reducible apply s_if | with_reducible apply t_or | with_reducible apply t_and | with_reducible apply t_B | with_reducible apply s_next | with_reducible apply p_some
  | with_reducible apply p_no | with_reducible apply e_sl | with_reducible apply k_i | with_reducible apply Sl.e_lstS | with_reducible apply t_not | with_reducible apply o_I0
  | ((with_reducible refine' o_I ?hc ?_); (case hc => walk_at "ar")) | with_reducible apply e_meth | ((with_reducible refine' k_meth ?h1 ?h2 ?_); (case h1 => walk_at "hg"); (case h2 => walk_at "nol")) | walk_at "km" | with_reducible apply e_fld
  | ((with_reducible refine' k_fld ?h1 ?h2 ?h3 ?h4 ?_); (case h1 => walk_at "hg"); (case h2 => walk_at "cls"); (case h3 => walk_at "noa"); (case h4 => walk_at "lkp")) | walk_at "kf" | with_reducible apply e_not
  | with_reducible apply s_ret | ((with_reducible refine' k_ty ?h1 ?_); (case h1 => walk_at "sg")) | with_reducible apply s_drop | with_reducible apply s_retN | with_reducible apply s_cont | with_reducible apply s_break
  | with_reducible apply o_chC | ((with_reducible refine' o_chV ?hv ?_); (case hv => exact rfl)) | with_reducible apply e_un | with_reducible apply o_U | ((with_reducible refine' o_eq ?hs ?_); (case hs => exact rfl)) | ((with_reducible refine' o_ne ?hs ?_); (case hs => exact rfl))
  | ((with_reducible refine' o_ixL ?h1 ?h2 ?_); (case h1 => walk_at "sg"); (case h2 => first | exact rfl | exact atI_zero _ _)) | ((with_reducible refine' o_ixT ?h1 ?h2 ?_); (case h1 => walk_at "sg"); (case h2 => first | exact rfl | exact atI_zero _ _)) | with_reducible apply s_fld | with_reducible apply Sl.e_makeS
  | ((with_reducible refine' Sl.k_setS $h ?h1 ?h2 ?h3 ?h4 ?h5 ?_); (case h1 => walk_at "sel"); (case h2 => walk_at "cls"); (case h3 => walk_at "noa"); (case h4 => walk_at "ptf"); (case h5 => walk_at "lnF"); (clear $h; intro _ $h)) | with_reducible apply Sl.e_tupS | with_reducible apply e_bm
  | with_reducible apply e_bm0 | with_reducible apply e_if | with_reducible apply e_chain | with_reducible apply s_raise | with_reducible apply g_sub | ((with_reducible refine' c_ln ?h1 ?_); (case h1 => walk_at "sg")) | ((with_reducible refine' c_lnT ?h1 ?_); (case h1 => walk_at "sg"))
  | ((with_reducible refine' Sl.k_newL $h ?h1 ?_); (case h1 => walk_at "le5"); (clear $h; intro _ _ $h)) | ((with_reducible refine' Sl.k_newT $h ?h1 ?_); (case h1 => walk_at "le5"); (clear $h; intro _ _ $h)) | ((with_reducible refine' Sl.k_make $h ?_); (clear $h; intro _ _ _ $h))
  | ((with_reducible refine' Sl.c_appS $h ?h1 ?h2 ?_); (case h1 => walk_at "sel"); (case h2 => walk_at "le5"); (clear $h; intro _ $h)) | ((with_reducible refine' Sl.c_pop0S $h ?h1 ?h2 ?_); (case h1 => walk_at "sel"); (case h2 => walk_at "le5"); (clear $h; intro _ $h))
  | ((with_reducible refine' Sl.c_lsS $h ?h1 ?_); (case h1 => walk_at "sg"); (clear $h; intro _ _ $h)) | ((with_reducible refine' Sl.o_slLS $h ?h1 ?_); (case h1 => walk_at "sg"); (clear $h; intro _ _ $h)) | ((with_reducible refine' Sl.c_clrS $h ?h1 ?_); (case h1 => walk_at "sel"); (clear $h; intro _ $h))
  | ((with_reducible refine' Sl.o_catS $h ?h1 ?h2 ?h3 ?_); (case h1 => walk_at "hg"); (case h2 => walk_at "hg"); (case h3 => walk_at "le5"); (clear $h; intro _ _ $h)) | ((with_reducible refine' Sl.c_extS $h ?h1 ?h2 ?h3 ?_); (case h1 => walk_at "sel"); (case h2 => walk_at "hg"); (case h3 => walk_at "le5"); (clear $h; intro _ $h))
  | ((with_reducible refine' Sl.k_raise $h ?h1 ?_); (case h1 => exact okV_int ⟨by omega, by omega⟩); (clear $h; intro _ _ $h))
  | with_reducible apply c_isBool | with_reducible apply c_isInt | with_reducible apply c_isBoolN | with_reducible apply c_isTupI | with_reducible apply c_isNonB
  | with_reducible apply c_isNonT | ((with_reducible refine' c_isList ?h1 ?_); (case h1 => walk_at "hg")) | ((with_reducible refine' c_isTup ?h1 ?_); (case h1 => walk_at "hg")) | ((with_reducible refine' c_isTupB ?h1 ?_); (case h1 => walk_at "hg")) | with_reducible apply o_isB | with_reducible apply o_notB
  | with_reducible apply e_and | with_reducible apply e_or | with_reducible apply k_bl | with_reducible apply e_xf | with_reducible apply s_augS | ((with_reducible refine' s_augV ?hv ?_); (case hv => exact rfl)) | with_reducible apply Sl.s_aug
  | with_reducible apply ip_I | with_reducible apply e_lcE | with_reducible apply e_lcL | with_reducible apply f_lst | with_reducible apply e_lcF | with_reducible apply f_rng1 | ((with_reducible refine' k_xf ?h1 ?h2 ?_); (case h1 => walk_at "hg"); (case h2 => exact look_hit _ _ _)) | ((with_reducible refine' k_dget ?h1 ?h2 ?_); (case h1 => walk_at "hg"); (case h2 => with_reducible assumption)) | with_reducible apply e_dget
  | with_reducible apply s_dput | with_reducible apply Sl.e_makeKS | with_reducible apply g_cons | with_reducible apply g_nil | ((with_reducible refine' g_tup ?h1 ?h2 ?_); (case h1 => walk_at "sg"); (case h2 => exact rfl)) | with_reducible apply c_ab | with_reducible apply c_in
  | with_reducible apply c_mx | with_reducible apply c_mn | with_reducible apply a1 | with_reducible apply a2 | with_reducible apply a3 | with_reducible apply a4
  | with_reducible apply a5 | with_reducible apply a6 | with_reducible apply a0 | with_reducible apply t_tru | with_reducible apply t_yes | ((with_reducible refine' k_truL ?h1 ?_); (case h1 => walk_at "sg")) | with_reducible refine d_nx ?_ | with_reducible refine d_rt ?_ | with_reducible refine d_bk ?_
  | with_reducible refine d_ct ?_))
local macro_rules | `(tactic| walk_at "x") => `(tactic| (repeat walk_at "x1"))
local macro_rules | `(tactic| walk_at "km") => do let h := Lean.mkIdent `hs; `(tactic| ((with_reducible refine' km_Ring $h ?s ?m ?_); (case s => walk_at "sel"); (case m => intros; walk_at "nol")))
local macro_rules | `(tactic| walk_at "km") => do let h := Lean.mkIdent `hs; `(tactic| ((with_reducible refine' km_SlotRing $h ?s ?m ?_); (case s => walk_at "sel"); (case m => intros; walk_at "nol")))
local macro_rules | `(tactic| walk_at "km") => do let h := Lean.mkIdent `hs; `(tactic| ((with_reducible refine' km_Rq $h ?s ?m ?_); (case s => walk_at "sel"); (case m => intros; walk_at "nol")))
local macro_rules | `(tactic| walk_at "kf") => do let h := Lean.mkIdent `hs; `(tactic| ((with_reducible refine' kf_Rq_cap $h ?s ?c ?n ?_); (case s => walk_at "sel"); (case c => walk_at "cls"); (case n => walk_at "noa")))
local macro_rules | `(tactic| walk_at "km") => do let h := Lean.mkIdent `hs; `(tactic| ((with_reducible refine' km_Rv $h ?s ?m ?_); (case s => walk_at "sel"); (case m => intros; walk_at "nol")))
section
variable {P : Program} {w : World} {K : PySem.W.Frag} {mg : Str → Option Value} {base : Heap} {a : Ads}
end
/-- the top's facts -/
theorem all_mk {l : PySem.W.OpenLaw} {w : World} {K : PySem.W.Frag} {h : Heap} {mg : Str → Option Value} {fa : Addr} (hl : l.prog = PySem.Challenge.pw_tickrings_k13_receiving) (X : K.In h) (G : h.Ns mainGlobals mg) (hfa : mg "law" = some (.ref fa))
    {C_Receiver C_TickringsError C_RingError C_Ring C_ReceiveQueue C_SlotRing : Addr} {f_wall f_lost_mark f_is_mark f_lost_by f_joined f_bytes_among f_Receiver_init f_Receiver_can_step f_Receiver_step f_Receiver_close_idle f_Receiver_add f_RingError_init f_Ring_init f_Ring_held f_Ring_is_full f_Ring_put f_Ring_first f_Ring_take f_Ring_listed f_Ring_next f_ReceiveQueue_init f_ReceiveQueue_arrive f_ReceiveQueue_first f_ReceiveQueue_take f_ReceiveQueue_oldest_tick f_ReceiveQueue_bytes_held f_ReceiveQueue_contents f_ReceiveQueue_append f_ReceiveQueue_lose f_copied f_SlotRing_init f_SlotRing_can_arm f_SlotRing_arm f_SlotRing_open_slot f_SlotRing_open_bytes f_SlotRing_open_count f_SlotRing_add f_SlotRing_close f_SlotRing_oldest f_SlotRing_reap f_SlotRing_filled_slots f_SlotRing_buffers f_law_state f_law_draw f_law_pick f_law_arrives f_law_close f_law_steps f_law_idles f_law_agrees f_law_changes f_law : Addr}
    {oc_wall : Value} {dc_wall : Value} {pm_wall : Value} {cd_wall : Value} {ct_wall : Value} {kV_wall : Value} {od_wall : Option Addr} {an_wall : Option Addr} {sl_wall : Array (Option Value)} {oc_lost_mark : Value} {dc_lost_mark : Value} {pm_lost_mark : Value} {cd_lost_mark : Value} {ct_lost_mark : Value} {kV_lost_mark : Value} {od_lost_mark : Option Addr} {an_lost_mark : Option Addr} {sl_lost_mark : Array (Option Value)} {oc_is_mark : Value} {dc_is_mark : Value} {pm_is_mark : Value} {cd_is_mark : Value} {ct_is_mark : Value} {kV_is_mark : Value} {od_is_mark : Option Addr} {an_is_mark : Option Addr} {sl_is_mark : Array (Option Value)} {oc_lost_by : Value} {dc_lost_by : Value} {pm_lost_by : Value} {cd_lost_by : Value} {ct_lost_by : Value} {kV_lost_by : Value} {od_lost_by : Option Addr} {an_lost_by : Option Addr} {sl_lost_by : Array (Option Value)} {oc_joined : Value} {dc_joined : Value} {pm_joined : Value} {cd_joined : Value} {ct_joined : Value} {kV_joined : Value} {od_joined : Option Addr} {an_joined : Option Addr} {sl_joined : Array (Option Value)} {oc_bytes_among : Value} {dc_bytes_among : Value} {pm_bytes_among : Value} {cd_bytes_among : Value} {ct_bytes_among : Value} {kV_bytes_among : Value} {od_bytes_among : Option Addr} {an_bytes_among : Option Addr} {sl_bytes_among : Array (Option Value)} {oc_Receiver_init : Value} {dc_Receiver_init : Value} {pm_Receiver_init : Value} {cd_Receiver_init : Value} {ct_Receiver_init : Value} {kV_Receiver_init : Value} {od_Receiver_init : Option Addr} {an_Receiver_init : Option Addr} {sl_Receiver_init : Array (Option Value)} {oc_Receiver_can_step : Value} {dc_Receiver_can_step : Value} {pm_Receiver_can_step : Value} {cd_Receiver_can_step : Value} {ct_Receiver_can_step : Value} {kV_Receiver_can_step : Value} {od_Receiver_can_step : Option Addr} {an_Receiver_can_step : Option Addr} {sl_Receiver_can_step : Array (Option Value)} {oc_Receiver_step : Value} {dc_Receiver_step : Value} {pm_Receiver_step : Value} {cd_Receiver_step : Value} {ct_Receiver_step : Value} {kV_Receiver_step : Value} {od_Receiver_step : Option Addr} {an_Receiver_step : Option Addr} {sl_Receiver_step : Array (Option Value)} {oc_Receiver_close_idle : Value} {dc_Receiver_close_idle : Value} {pm_Receiver_close_idle : Value} {cd_Receiver_close_idle : Value} {ct_Receiver_close_idle : Value} {kV_Receiver_close_idle : Value} {od_Receiver_close_idle : Option Addr} {an_Receiver_close_idle : Option Addr} {sl_Receiver_close_idle : Array (Option Value)} {oc_Receiver_add : Value} {dc_Receiver_add : Value} {pm_Receiver_add : Value} {cd_Receiver_add : Value} {ct_Receiver_add : Value} {kV_Receiver_add : Value} {od_Receiver_add : Option Addr} {an_Receiver_add : Option Addr} {sl_Receiver_add : Array (Option Value)} {oc_RingError_init : Value} {dc_RingError_init : Value} {pm_RingError_init : Value} {ct_RingError_init : Value} {kV_RingError_init : Value} {od_RingError_init : Option Addr} {an_RingError_init : Option Addr} {sl_RingError_init : Array (Option Value)} {nm_RingError : Str} {qn_RingError : Str} {N_RingError : Addr} {bs_RingError : List Value} {bm_RingError : List Value} {sub_RingError : List Value} {sn_RingError : List Str} {ab_RingError : Bool} {col_RingError : Option Bool} {dd_RingError : Option Addr} {k0_RingError k1_RingError k2_RingError k3_RingError k5_RingError : Option Value} {cda_RingError cc_RingError : Addr} {cl_RingError ccl_RingError : Value} {cld_RingError cdd_RingError : Option Addr} {csl_RingError ccs_RingError : Array (Option Value)} {vs_RingError : Array Value} {file_RingError : Str} {tf_RingError : Tok} {oc_Ring_init : Value} {dc_Ring_init : Value} {pm_Ring_init : Value} {cd_Ring_init : Value} {ct_Ring_init : Value} {kV_Ring_init : Value} {od_Ring_init : Option Addr} {an_Ring_init : Option Addr} {sl_Ring_init : Array (Option Value)} {oc_Ring_held : Value} {dc_Ring_held : Value} {pm_Ring_held : Value} {cd_Ring_held : Value} {ct_Ring_held : Value} {kV_Ring_held : Value} {od_Ring_held : Option Addr} {an_Ring_held : Option Addr} {sl_Ring_held : Array (Option Value)} {oc_Ring_is_full : Value} {dc_Ring_is_full : Value} {pm_Ring_is_full : Value} {cd_Ring_is_full : Value} {ct_Ring_is_full : Value} {kV_Ring_is_full : Value} {od_Ring_is_full : Option Addr} {an_Ring_is_full : Option Addr} {sl_Ring_is_full : Array (Option Value)} {oc_Ring_put : Value} {dc_Ring_put : Value} {pm_Ring_put : Value} {cd_Ring_put : Value} {ct_Ring_put : Value} {kV_Ring_put : Value} {od_Ring_put : Option Addr} {an_Ring_put : Option Addr} {sl_Ring_put : Array (Option Value)} {oc_Ring_first : Value} {dc_Ring_first : Value} {pm_Ring_first : Value} {cd_Ring_first : Value} {ct_Ring_first : Value} {kV_Ring_first : Value} {od_Ring_first : Option Addr} {an_Ring_first : Option Addr} {sl_Ring_first : Array (Option Value)} {oc_Ring_take : Value} {dc_Ring_take : Value} {pm_Ring_take : Value} {cd_Ring_take : Value} {ct_Ring_take : Value} {kV_Ring_take : Value} {od_Ring_take : Option Addr} {an_Ring_take : Option Addr} {sl_Ring_take : Array (Option Value)} {oc_Ring_listed : Value} {dc_Ring_listed : Value} {pm_Ring_listed : Value} {cd_Ring_listed : Value} {ct_Ring_listed : Value} {kV_Ring_listed : Value} {od_Ring_listed : Option Addr} {an_Ring_listed : Option Addr} {sl_Ring_listed : Array (Option Value)} {oc_Ring_next : Value} {dc_Ring_next : Value} {pm_Ring_next : Value} {cd_Ring_next : Value} {ct_Ring_next : Value} {kV_Ring_next : Value} {od_Ring_next : Option Addr} {an_Ring_next : Option Addr} {sl_Ring_next : Array (Option Value)} {oc_ReceiveQueue_init : Value} {dc_ReceiveQueue_init : Value} {pm_ReceiveQueue_init : Value} {cd_ReceiveQueue_init : Value} {ct_ReceiveQueue_init : Value} {kV_ReceiveQueue_init : Value} {od_ReceiveQueue_init : Option Addr} {an_ReceiveQueue_init : Option Addr} {sl_ReceiveQueue_init : Array (Option Value)} {oc_ReceiveQueue_arrive : Value} {dc_ReceiveQueue_arrive : Value} {pm_ReceiveQueue_arrive : Value} {cd_ReceiveQueue_arrive : Value} {ct_ReceiveQueue_arrive : Value} {kV_ReceiveQueue_arrive : Value} {od_ReceiveQueue_arrive : Option Addr} {an_ReceiveQueue_arrive : Option Addr} {sl_ReceiveQueue_arrive : Array (Option Value)} {oc_ReceiveQueue_first : Value} {dc_ReceiveQueue_first : Value} {pm_ReceiveQueue_first : Value} {cd_ReceiveQueue_first : Value} {ct_ReceiveQueue_first : Value} {kV_ReceiveQueue_first : Value} {od_ReceiveQueue_first : Option Addr} {an_ReceiveQueue_first : Option Addr} {sl_ReceiveQueue_first : Array (Option Value)} {oc_ReceiveQueue_take : Value} {dc_ReceiveQueue_take : Value} {pm_ReceiveQueue_take : Value} {cd_ReceiveQueue_take : Value} {ct_ReceiveQueue_take : Value} {kV_ReceiveQueue_take : Value} {od_ReceiveQueue_take : Option Addr} {an_ReceiveQueue_take : Option Addr} {sl_ReceiveQueue_take : Array (Option Value)} {oc_ReceiveQueue_oldest_tick : Value} {dc_ReceiveQueue_oldest_tick : Value} {pm_ReceiveQueue_oldest_tick : Value} {cd_ReceiveQueue_oldest_tick : Value} {ct_ReceiveQueue_oldest_tick : Value} {kV_ReceiveQueue_oldest_tick : Value} {od_ReceiveQueue_oldest_tick : Option Addr} {an_ReceiveQueue_oldest_tick : Option Addr} {sl_ReceiveQueue_oldest_tick : Array (Option Value)} {oc_ReceiveQueue_bytes_held : Value} {dc_ReceiveQueue_bytes_held : Value} {pm_ReceiveQueue_bytes_held : Value} {cd_ReceiveQueue_bytes_held : Value} {ct_ReceiveQueue_bytes_held : Value} {kV_ReceiveQueue_bytes_held : Value} {od_ReceiveQueue_bytes_held : Option Addr} {an_ReceiveQueue_bytes_held : Option Addr} {sl_ReceiveQueue_bytes_held : Array (Option Value)} {oc_ReceiveQueue_contents : Value} {dc_ReceiveQueue_contents : Value} {pm_ReceiveQueue_contents : Value} {cd_ReceiveQueue_contents : Value} {ct_ReceiveQueue_contents : Value} {kV_ReceiveQueue_contents : Value} {od_ReceiveQueue_contents : Option Addr} {an_ReceiveQueue_contents : Option Addr} {sl_ReceiveQueue_contents : Array (Option Value)} {oc_ReceiveQueue_append : Value} {dc_ReceiveQueue_append : Value} {pm_ReceiveQueue_append : Value} {cd_ReceiveQueue_append : Value} {ct_ReceiveQueue_append : Value} {kV_ReceiveQueue_append : Value} {od_ReceiveQueue_append : Option Addr} {an_ReceiveQueue_append : Option Addr} {sl_ReceiveQueue_append : Array (Option Value)} {oc_ReceiveQueue_lose : Value} {dc_ReceiveQueue_lose : Value} {pm_ReceiveQueue_lose : Value} {cd_ReceiveQueue_lose : Value} {ct_ReceiveQueue_lose : Value} {kV_ReceiveQueue_lose : Value} {od_ReceiveQueue_lose : Option Addr} {an_ReceiveQueue_lose : Option Addr} {sl_ReceiveQueue_lose : Array (Option Value)} {oc_copied : Value} {dc_copied : Value} {pm_copied : Value} {cd_copied : Value} {ct_copied : Value} {kV_copied : Value} {od_copied : Option Addr} {an_copied : Option Addr} {sl_copied : Array (Option Value)} {oc_SlotRing_init : Value} {dc_SlotRing_init : Value} {pm_SlotRing_init : Value} {cd_SlotRing_init : Value} {ct_SlotRing_init : Value} {kV_SlotRing_init : Value} {od_SlotRing_init : Option Addr} {an_SlotRing_init : Option Addr} {sl_SlotRing_init : Array (Option Value)} {oc_SlotRing_can_arm : Value} {dc_SlotRing_can_arm : Value} {pm_SlotRing_can_arm : Value} {cd_SlotRing_can_arm : Value} {ct_SlotRing_can_arm : Value} {kV_SlotRing_can_arm : Value} {od_SlotRing_can_arm : Option Addr} {an_SlotRing_can_arm : Option Addr} {sl_SlotRing_can_arm : Array (Option Value)} {oc_SlotRing_arm : Value} {dc_SlotRing_arm : Value} {pm_SlotRing_arm : Value} {cd_SlotRing_arm : Value} {ct_SlotRing_arm : Value} {kV_SlotRing_arm : Value} {od_SlotRing_arm : Option Addr} {an_SlotRing_arm : Option Addr} {sl_SlotRing_arm : Array (Option Value)} {oc_SlotRing_open_slot : Value} {dc_SlotRing_open_slot : Value} {pm_SlotRing_open_slot : Value} {cd_SlotRing_open_slot : Value} {ct_SlotRing_open_slot : Value} {kV_SlotRing_open_slot : Value} {od_SlotRing_open_slot : Option Addr} {an_SlotRing_open_slot : Option Addr} {sl_SlotRing_open_slot : Array (Option Value)} {oc_SlotRing_open_bytes : Value} {dc_SlotRing_open_bytes : Value} {pm_SlotRing_open_bytes : Value} {cd_SlotRing_open_bytes : Value} {ct_SlotRing_open_bytes : Value} {kV_SlotRing_open_bytes : Value} {od_SlotRing_open_bytes : Option Addr} {an_SlotRing_open_bytes : Option Addr} {sl_SlotRing_open_bytes : Array (Option Value)} {oc_SlotRing_open_count : Value} {dc_SlotRing_open_count : Value} {pm_SlotRing_open_count : Value} {cd_SlotRing_open_count : Value} {ct_SlotRing_open_count : Value} {kV_SlotRing_open_count : Value} {od_SlotRing_open_count : Option Addr} {an_SlotRing_open_count : Option Addr} {sl_SlotRing_open_count : Array (Option Value)} {oc_SlotRing_add : Value} {dc_SlotRing_add : Value} {pm_SlotRing_add : Value} {cd_SlotRing_add : Value} {ct_SlotRing_add : Value} {kV_SlotRing_add : Value} {od_SlotRing_add : Option Addr} {an_SlotRing_add : Option Addr} {sl_SlotRing_add : Array (Option Value)} {oc_SlotRing_close : Value} {dc_SlotRing_close : Value} {pm_SlotRing_close : Value} {cd_SlotRing_close : Value} {ct_SlotRing_close : Value} {kV_SlotRing_close : Value} {od_SlotRing_close : Option Addr} {an_SlotRing_close : Option Addr} {sl_SlotRing_close : Array (Option Value)} {oc_SlotRing_oldest : Value} {dc_SlotRing_oldest : Value} {pm_SlotRing_oldest : Value} {cd_SlotRing_oldest : Value} {ct_SlotRing_oldest : Value} {kV_SlotRing_oldest : Value} {od_SlotRing_oldest : Option Addr} {an_SlotRing_oldest : Option Addr} {sl_SlotRing_oldest : Array (Option Value)} {oc_SlotRing_reap : Value} {dc_SlotRing_reap : Value} {pm_SlotRing_reap : Value} {cd_SlotRing_reap : Value} {ct_SlotRing_reap : Value} {kV_SlotRing_reap : Value} {od_SlotRing_reap : Option Addr} {an_SlotRing_reap : Option Addr} {sl_SlotRing_reap : Array (Option Value)} {oc_SlotRing_filled_slots : Value} {dc_SlotRing_filled_slots : Value} {pm_SlotRing_filled_slots : Value} {cd_SlotRing_filled_slots : Value} {ct_SlotRing_filled_slots : Value} {kV_SlotRing_filled_slots : Value} {od_SlotRing_filled_slots : Option Addr} {an_SlotRing_filled_slots : Option Addr} {sl_SlotRing_filled_slots : Array (Option Value)} {oc_SlotRing_buffers : Value} {dc_SlotRing_buffers : Value} {pm_SlotRing_buffers : Value} {cd_SlotRing_buffers : Value} {ct_SlotRing_buffers : Value} {kV_SlotRing_buffers : Value} {od_SlotRing_buffers : Option Addr} {an_SlotRing_buffers : Option Addr} {sl_SlotRing_buffers : Array (Option Value)} {oc_law_state : Value} {dc_law_state : Value} {pm_law_state : Value} {cd_law_state : Value} {ct_law_state : Value} {kV_law_state : Value} {od_law_state : Option Addr} {an_law_state : Option Addr} {sl_law_state : Array (Option Value)} {oc_law_draw : Value} {dc_law_draw : Value} {pm_law_draw : Value} {cd_law_draw : Value} {ct_law_draw : Value} {kV_law_draw : Value} {od_law_draw : Option Addr} {an_law_draw : Option Addr} {sl_law_draw : Array (Option Value)} {oc_law_pick : Value} {dc_law_pick : Value} {pm_law_pick : Value} {cd_law_pick : Value} {ct_law_pick : Value} {kV_law_pick : Value} {od_law_pick : Option Addr} {an_law_pick : Option Addr} {sl_law_pick : Array (Option Value)} {oc_law_arrives : Value} {dc_law_arrives : Value} {pm_law_arrives : Value} {cd_law_arrives : Value} {ct_law_arrives : Value} {kV_law_arrives : Value} {od_law_arrives : Option Addr} {an_law_arrives : Option Addr} {sl_law_arrives : Array (Option Value)} {oc_law_close : Value} {dc_law_close : Value} {pm_law_close : Value} {cd_law_close : Value} {ct_law_close : Value} {kV_law_close : Value} {od_law_close : Option Addr} {an_law_close : Option Addr} {sl_law_close : Array (Option Value)} {oc_law_steps : Value} {dc_law_steps : Value} {pm_law_steps : Value} {cd_law_steps : Value} {ct_law_steps : Value} {kV_law_steps : Value} {od_law_steps : Option Addr} {an_law_steps : Option Addr} {sl_law_steps : Array (Option Value)} {oc_law_idles : Value} {dc_law_idles : Value} {pm_law_idles : Value} {cd_law_idles : Value} {ct_law_idles : Value} {kV_law_idles : Value} {od_law_idles : Option Addr} {an_law_idles : Option Addr} {sl_law_idles : Array (Option Value)} {oc_law_agrees : Value} {dc_law_agrees : Value} {pm_law_agrees : Value} {cd_law_agrees : Value} {ct_law_agrees : Value} {kV_law_agrees : Value} {od_law_agrees : Option Addr} {an_law_agrees : Option Addr} {sl_law_agrees : Array (Option Value)} {oc_law_changes : Value} {dc_law_changes : Value} {pm_law_changes : Value} {cd_law_changes : Value} {ct_law_changes : Value} {kV_law_changes : Value} {od_law_changes : Option Addr} {an_law_changes : Option Addr} {sl_law_changes : Array (Option Value)} {oc_law : Value} {dc_law : Value} {pm_law : Value} {cd_law : Value} {ct_law : Value} {kV_law : Value} {od_law : Option Addr} {an_law : Option Addr} {sl_law : Array (Option Value)}
    (gC_Receiver : PySem.W.nsIn K mainGlobals "Receiver" = some (some (.ref C_Receiver)))
    (gC_TickringsError : PySem.W.nsIn K mainGlobals "TickringsError" = some (some (.ref C_TickringsError)))
    (gC_RingError : PySem.W.nsIn K mainGlobals "RingError" = some (some (.ref C_RingError)))
    (gC_Ring : PySem.W.nsIn K mainGlobals "Ring" = some (some (.ref C_Ring)))
    (gC_ReceiveQueue : PySem.W.nsIn K mainGlobals "ReceiveQueue" = some (some (.ref C_ReceiveQueue)))
    (gC_SlotRing : PySem.W.nsIn K mainGlobals "SlotRing" = some (some (.ref C_SlotRing)))
    (a_wall : PySem.W.nsIn K mainGlobals "_wall" = some (some (.ref f_wall)))
    (l_wall : K.lookup f_wall = some ⟨oc_wall, od_wall, .func (PySem.W.fnOf "_wall" "_wall" (defArgs s_wall) (defBody s_wall) (defScope s_wall) .none kV_wall dc_wall pm_wall an_wall cd_wall ct_wall), sl_wall⟩)
    (c_wall : PySem.W.codeIn K cd_wall "_wall" = true)
    (k_wall : PySem.W.keepIn K (.ref f_wall) = true)
    (a_lost_mark : PySem.W.nsIn K mainGlobals "lost_mark" = some (some (.ref f_lost_mark)))
    (l_lost_mark : K.lookup f_lost_mark = some ⟨oc_lost_mark, od_lost_mark, .func (PySem.W.fnOf "lost_mark" "lost_mark" (defArgs s_lost_mark) (defBody s_lost_mark) (defScope s_lost_mark) .none kV_lost_mark dc_lost_mark pm_lost_mark an_lost_mark cd_lost_mark ct_lost_mark), sl_lost_mark⟩)
    (c_lost_mark : PySem.W.codeIn K cd_lost_mark "lost_mark" = true)
    (k_lost_mark : PySem.W.keepIn K (.ref f_lost_mark) = true)
    (a_is_mark : PySem.W.nsIn K mainGlobals "is_mark" = some (some (.ref f_is_mark)))
    (l_is_mark : K.lookup f_is_mark = some ⟨oc_is_mark, od_is_mark, .func (PySem.W.fnOf "is_mark" "is_mark" (defArgs s_is_mark) (defBody s_is_mark) (defScope s_is_mark) .none kV_is_mark dc_is_mark pm_is_mark an_is_mark cd_is_mark ct_is_mark), sl_is_mark⟩)
    (c_is_mark : PySem.W.codeIn K cd_is_mark "is_mark" = true)
    (k_is_mark : PySem.W.keepIn K (.ref f_is_mark) = true)
    (a_lost_by : PySem.W.nsIn K mainGlobals "lost_by" = some (some (.ref f_lost_by)))
    (l_lost_by : K.lookup f_lost_by = some ⟨oc_lost_by, od_lost_by, .func (PySem.W.fnOf "lost_by" "lost_by" (defArgs s_lost_by) (defBody s_lost_by) (defScope s_lost_by) .none kV_lost_by dc_lost_by pm_lost_by an_lost_by cd_lost_by ct_lost_by), sl_lost_by⟩)
    (c_lost_by : PySem.W.codeIn K cd_lost_by "lost_by" = true)
    (k_lost_by : PySem.W.keepIn K (.ref f_lost_by) = true)
    (a_joined : PySem.W.nsIn K mainGlobals "joined" = some (some (.ref f_joined)))
    (l_joined : K.lookup f_joined = some ⟨oc_joined, od_joined, .func (PySem.W.fnOf "joined" "joined" (defArgs s_joined) (defBody s_joined) (defScope s_joined) .none kV_joined dc_joined pm_joined an_joined cd_joined ct_joined), sl_joined⟩)
    (c_joined : PySem.W.codeIn K cd_joined "joined" = true)
    (k_joined : PySem.W.keepIn K (.ref f_joined) = true)
    (a_bytes_among : PySem.W.nsIn K mainGlobals "bytes_among" = some (some (.ref f_bytes_among)))
    (l_bytes_among : K.lookup f_bytes_among = some ⟨oc_bytes_among, od_bytes_among, .func (PySem.W.fnOf "bytes_among" "bytes_among" (defArgs s_bytes_among) (defBody s_bytes_among) (defScope s_bytes_among) .none kV_bytes_among dc_bytes_among pm_bytes_among an_bytes_among cd_bytes_among ct_bytes_among), sl_bytes_among⟩)
    (c_bytes_among : PySem.W.codeIn K cd_bytes_among "bytes_among" = true)
    (k_bytes_among : PySem.W.keepIn K (.ref f_bytes_among) = true)
    (a_Receiver_init : PySem.W.findIn K (.ref C_Receiver) "__init__" = some (some (.ref f_Receiver_init)))
    (i_Receiver_init : PySem.W.isFn K (.ref f_Receiver_init) = true)
    (l_Receiver_init : K.lookup f_Receiver_init = some ⟨oc_Receiver_init, od_Receiver_init, .func (PySem.W.fnOf "__init__" "Receiver.__init__" (defArgs s_Receiver_init) (defBody s_Receiver_init) (defScope s_Receiver_init) .none kV_Receiver_init dc_Receiver_init pm_Receiver_init an_Receiver_init cd_Receiver_init ct_Receiver_init), sl_Receiver_init⟩)
    (c_Receiver_init : PySem.W.codeIn K cd_Receiver_init "Receiver.__init__" = true)
    (k_Receiver_init : PySem.W.keepIn K (.ref f_Receiver_init) = true)
    (a_Receiver_can_step : PySem.W.findIn K (.ref C_Receiver) "can_step" = some (some (.ref f_Receiver_can_step)))
    (i_Receiver_can_step : PySem.W.isFn K (.ref f_Receiver_can_step) = true)
    (l_Receiver_can_step : K.lookup f_Receiver_can_step = some ⟨oc_Receiver_can_step, od_Receiver_can_step, .func (PySem.W.fnOf "can_step" "Receiver.can_step" (defArgs s_Receiver_can_step) (defBody s_Receiver_can_step) (defScope s_Receiver_can_step) .none kV_Receiver_can_step dc_Receiver_can_step pm_Receiver_can_step an_Receiver_can_step cd_Receiver_can_step ct_Receiver_can_step), sl_Receiver_can_step⟩)
    (c_Receiver_can_step : PySem.W.codeIn K cd_Receiver_can_step "Receiver.can_step" = true)
    (k_Receiver_can_step : PySem.W.keepIn K (.ref f_Receiver_can_step) = true)
    (a_Receiver_step : PySem.W.findIn K (.ref C_Receiver) "step" = some (some (.ref f_Receiver_step)))
    (i_Receiver_step : PySem.W.isFn K (.ref f_Receiver_step) = true)
    (l_Receiver_step : K.lookup f_Receiver_step = some ⟨oc_Receiver_step, od_Receiver_step, .func (PySem.W.fnOf "step" "Receiver.step" (defArgs s_Receiver_step) (defBody s_Receiver_step) (defScope s_Receiver_step) .none kV_Receiver_step dc_Receiver_step pm_Receiver_step an_Receiver_step cd_Receiver_step ct_Receiver_step), sl_Receiver_step⟩)
    (c_Receiver_step : PySem.W.codeIn K cd_Receiver_step "Receiver.step" = true)
    (k_Receiver_step : PySem.W.keepIn K (.ref f_Receiver_step) = true)
    (a_Receiver_close_idle : PySem.W.findIn K (.ref C_Receiver) "close_idle" = some (some (.ref f_Receiver_close_idle)))
    (i_Receiver_close_idle : PySem.W.isFn K (.ref f_Receiver_close_idle) = true)
    (l_Receiver_close_idle : K.lookup f_Receiver_close_idle = some ⟨oc_Receiver_close_idle, od_Receiver_close_idle, .func (PySem.W.fnOf "close_idle" "Receiver.close_idle" (defArgs s_Receiver_close_idle) (defBody s_Receiver_close_idle) (defScope s_Receiver_close_idle) .none kV_Receiver_close_idle dc_Receiver_close_idle pm_Receiver_close_idle an_Receiver_close_idle cd_Receiver_close_idle ct_Receiver_close_idle), sl_Receiver_close_idle⟩)
    (c_Receiver_close_idle : PySem.W.codeIn K cd_Receiver_close_idle "Receiver.close_idle" = true)
    (k_Receiver_close_idle : PySem.W.keepIn K (.ref f_Receiver_close_idle) = true)
    (a_Receiver_add : PySem.W.findIn K (.ref C_Receiver) "_add" = some (some (.ref f_Receiver_add)))
    (i_Receiver_add : PySem.W.isFn K (.ref f_Receiver_add) = true)
    (l_Receiver_add : K.lookup f_Receiver_add = some ⟨oc_Receiver_add, od_Receiver_add, .func (PySem.W.fnOf "_add" "Receiver._add" (defArgs s_Receiver_add) (defBody s_Receiver_add) (defScope s_Receiver_add) .none kV_Receiver_add dc_Receiver_add pm_Receiver_add an_Receiver_add cd_Receiver_add ct_Receiver_add), sl_Receiver_add⟩)
    (c_Receiver_add : PySem.W.codeIn K cd_Receiver_add "Receiver._add" = true)
    (k_Receiver_add : PySem.W.keepIn K (.ref f_Receiver_add) = true)
    (x_RingError : K.lookup C_RingError = some (excClassObj nm_RingError qn_RingError C_RingError N_RingError bs_RingError bm_RingError true sn_RingError sub_RingError ab_RingError col_RingError dd_RingError k0_RingError k1_RingError k2_RingError k3_RingError k5_RingError "ValueError.__new__"))
    (hbm_RingError : PySem.HandSPX.refsVE bm_RingError = true)
    (sa_RingError : PySem.W.findIn K (.ref C_RingError) "__setattr__" = some (some (.builtin "object.__setattr__")))
    (ex_RingError : PySem.W.subIn K (.ref C_RingError) (.type "BaseException") = some true)
    (ty_RingError : PySem.W.typeIn K (.ref C_RingError) = some (.type "type"))
    (kp_RingError : PySem.W.keepIn K (.ref C_RingError) = true)
    (su_RingError : PySem.W.ks_superIn K C_RingError C_RingError "__init__" = some (some (.builtin "ValueError.__init__")))
    (ve_RingError : PySem.W.subIn K (.ref C_RingError) (.type "ValueError") = some true)
    (op_RingError : PySem.W.nsIn K cStatics "thirdparty.any" = some none)
    (sm_RingError : PySem.W.mroIn K C_RingError (.ref C_RingError) = some true)
    (ic_RingError : PySem.W.findIn K (.ref C_RingError) "__init__" = some (some (.ref f_RingError_init)))
    (ti_RingError : PySem.W.typeIn K (.ref f_RingError_init) = some (.type "function"))
    (l_RingError_init : K.lookup f_RingError_init = some ⟨oc_RingError_init, od_RingError_init, .func (PySem.W.fnX "__init__" "RingError.__init__" (defArgs s_RingError_init) (defBody s_RingError_init) (defScope s_RingError_init) [("__class__", cc_RingError)] .none kV_RingError_init dc_RingError_init pm_RingError_init an_RingError_init (.ref cda_RingError) ct_RingError_init), sl_RingError_init⟩)
    (c_RingError_init : PySem.W.codeIn K (.ref cda_RingError) "RingError.__init__" = true)
    (ce_RingError : K.lookup cc_RingError = some ⟨cl_RingError, cld_RingError, .cell (some (.ref C_RingError)), csl_RingError⟩)
    (co_RingError : K.lookup cda_RingError = some ⟨ccl_RingError, cdd_RingError, .fields vs_RingError, ccs_RingError⟩)
    (cv_RingError : vs_RingError[2]? = some (.str file_RingError tf_RingError))
    (cf_RingError : ((PySem.Challenge.pw_tickrings_k13_receiving.main.file : Str) == file_RingError) = true)
    (no_RingError : PySem.W.findIn K (.ref C_RingError) "held" = some none)
    (ga_RingError : PySem.W.findIn K (.ref C_RingError) "__getattribute__" = some (some (.builtin "BaseException.__getattribute__")))
    (gg_RingError : PySem.W.findIn K (.ref C_RingError) "__getattr__" = some none)
    (hd_RingError : PySem.W.hasDictIn K C_RingError = true)
    (ha_RingError : PySem.W.findIn K (.ref C_RingError) "__class__" = some (some (.builtin "object.__class__")))
    (hn_RingError : PySem.W.specialIn K (.builtin "object.__class__") "__get__" = some (some (.builtin "getset_descriptor.__get__")))
    (ht_RingError : PySem.W.takesIn K (.builtin "object.__class__") = some true)
    (hm_RingError : PySem.W.mroIn K C_RingError (.type "object") = some true)
    (ow_RingError : PySem.W.subIn K (.ref C_RingError) (.ref C_RingError) = some true)
    (a_Ring_init : PySem.W.findIn K (.ref C_Ring) "__init__" = some (some (.ref f_Ring_init)))
    (i_Ring_init : PySem.W.isFn K (.ref f_Ring_init) = true)
    (l_Ring_init : K.lookup f_Ring_init = some ⟨oc_Ring_init, od_Ring_init, .func (PySem.W.fnOf "__init__" "Ring.__init__" (defArgs s_Ring_init) (defBody s_Ring_init) (defScope s_Ring_init) .none kV_Ring_init dc_Ring_init pm_Ring_init an_Ring_init cd_Ring_init ct_Ring_init), sl_Ring_init⟩)
    (c_Ring_init : PySem.W.codeIn K cd_Ring_init "Ring.__init__" = true)
    (k_Ring_init : PySem.W.keepIn K (.ref f_Ring_init) = true)
    (a_Ring_held : PySem.W.findIn K (.ref C_Ring) "held" = some (some (.ref f_Ring_held)))
    (i_Ring_held : PySem.W.isFn K (.ref f_Ring_held) = true)
    (l_Ring_held : K.lookup f_Ring_held = some ⟨oc_Ring_held, od_Ring_held, .func (PySem.W.fnOf "held" "Ring.held" (defArgs s_Ring_held) (defBody s_Ring_held) (defScope s_Ring_held) .none kV_Ring_held dc_Ring_held pm_Ring_held an_Ring_held cd_Ring_held ct_Ring_held), sl_Ring_held⟩)
    (c_Ring_held : PySem.W.codeIn K cd_Ring_held "Ring.held" = true)
    (k_Ring_held : PySem.W.keepIn K (.ref f_Ring_held) = true)
    (a_Ring_is_full : PySem.W.findIn K (.ref C_Ring) "is_full" = some (some (.ref f_Ring_is_full)))
    (i_Ring_is_full : PySem.W.isFn K (.ref f_Ring_is_full) = true)
    (l_Ring_is_full : K.lookup f_Ring_is_full = some ⟨oc_Ring_is_full, od_Ring_is_full, .func (PySem.W.fnOf "is_full" "Ring.is_full" (defArgs s_Ring_is_full) (defBody s_Ring_is_full) (defScope s_Ring_is_full) .none kV_Ring_is_full dc_Ring_is_full pm_Ring_is_full an_Ring_is_full cd_Ring_is_full ct_Ring_is_full), sl_Ring_is_full⟩)
    (c_Ring_is_full : PySem.W.codeIn K cd_Ring_is_full "Ring.is_full" = true)
    (k_Ring_is_full : PySem.W.keepIn K (.ref f_Ring_is_full) = true)
    (a_Ring_put : PySem.W.findIn K (.ref C_Ring) "put" = some (some (.ref f_Ring_put)))
    (i_Ring_put : PySem.W.isFn K (.ref f_Ring_put) = true)
    (l_Ring_put : K.lookup f_Ring_put = some ⟨oc_Ring_put, od_Ring_put, .func (PySem.W.fnOf "put" "Ring.put" (defArgs s_Ring_put) (defBody s_Ring_put) (defScope s_Ring_put) .none kV_Ring_put dc_Ring_put pm_Ring_put an_Ring_put cd_Ring_put ct_Ring_put), sl_Ring_put⟩)
    (c_Ring_put : PySem.W.codeIn K cd_Ring_put "Ring.put" = true)
    (k_Ring_put : PySem.W.keepIn K (.ref f_Ring_put) = true)
    (a_Ring_first : PySem.W.findIn K (.ref C_Ring) "first" = some (some (.ref f_Ring_first)))
    (i_Ring_first : PySem.W.isFn K (.ref f_Ring_first) = true)
    (l_Ring_first : K.lookup f_Ring_first = some ⟨oc_Ring_first, od_Ring_first, .func (PySem.W.fnOf "first" "Ring.first" (defArgs s_Ring_first) (defBody s_Ring_first) (defScope s_Ring_first) .none kV_Ring_first dc_Ring_first pm_Ring_first an_Ring_first cd_Ring_first ct_Ring_first), sl_Ring_first⟩)
    (c_Ring_first : PySem.W.codeIn K cd_Ring_first "Ring.first" = true)
    (k_Ring_first : PySem.W.keepIn K (.ref f_Ring_first) = true)
    (a_Ring_take : PySem.W.findIn K (.ref C_Ring) "take" = some (some (.ref f_Ring_take)))
    (i_Ring_take : PySem.W.isFn K (.ref f_Ring_take) = true)
    (l_Ring_take : K.lookup f_Ring_take = some ⟨oc_Ring_take, od_Ring_take, .func (PySem.W.fnOf "take" "Ring.take" (defArgs s_Ring_take) (defBody s_Ring_take) (defScope s_Ring_take) .none kV_Ring_take dc_Ring_take pm_Ring_take an_Ring_take cd_Ring_take ct_Ring_take), sl_Ring_take⟩)
    (c_Ring_take : PySem.W.codeIn K cd_Ring_take "Ring.take" = true)
    (k_Ring_take : PySem.W.keepIn K (.ref f_Ring_take) = true)
    (a_Ring_listed : PySem.W.findIn K (.ref C_Ring) "listed" = some (some (.ref f_Ring_listed)))
    (i_Ring_listed : PySem.W.isFn K (.ref f_Ring_listed) = true)
    (l_Ring_listed : K.lookup f_Ring_listed = some ⟨oc_Ring_listed, od_Ring_listed, .func (PySem.W.fnOf "listed" "Ring.listed" (defArgs s_Ring_listed) (defBody s_Ring_listed) (defScope s_Ring_listed) .none kV_Ring_listed dc_Ring_listed pm_Ring_listed an_Ring_listed cd_Ring_listed ct_Ring_listed), sl_Ring_listed⟩)
    (c_Ring_listed : PySem.W.codeIn K cd_Ring_listed "Ring.listed" = true)
    (k_Ring_listed : PySem.W.keepIn K (.ref f_Ring_listed) = true)
    (a_Ring_next : PySem.W.findIn K (.ref C_Ring) "_next" = some (some (.ref f_Ring_next)))
    (i_Ring_next : PySem.W.isFn K (.ref f_Ring_next) = true)
    (l_Ring_next : K.lookup f_Ring_next = some ⟨oc_Ring_next, od_Ring_next, .func (PySem.W.fnOf "_next" "Ring._next" (defArgs s_Ring_next) (defBody s_Ring_next) (defScope s_Ring_next) .none kV_Ring_next dc_Ring_next pm_Ring_next an_Ring_next cd_Ring_next ct_Ring_next), sl_Ring_next⟩)
    (c_Ring_next : PySem.W.codeIn K cd_Ring_next "Ring._next" = true)
    (k_Ring_next : PySem.W.keepIn K (.ref f_Ring_next) = true)
    (a_ReceiveQueue_init : PySem.W.findIn K (.ref C_ReceiveQueue) "__init__" = some (some (.ref f_ReceiveQueue_init)))
    (i_ReceiveQueue_init : PySem.W.isFn K (.ref f_ReceiveQueue_init) = true)
    (l_ReceiveQueue_init : K.lookup f_ReceiveQueue_init = some ⟨oc_ReceiveQueue_init, od_ReceiveQueue_init, .func (PySem.W.fnOf "__init__" "ReceiveQueue.__init__" (defArgs s_ReceiveQueue_init) (defBody s_ReceiveQueue_init) (defScope s_ReceiveQueue_init) .none kV_ReceiveQueue_init dc_ReceiveQueue_init pm_ReceiveQueue_init an_ReceiveQueue_init cd_ReceiveQueue_init ct_ReceiveQueue_init), sl_ReceiveQueue_init⟩)
    (c_ReceiveQueue_init : PySem.W.codeIn K cd_ReceiveQueue_init "ReceiveQueue.__init__" = true)
    (k_ReceiveQueue_init : PySem.W.keepIn K (.ref f_ReceiveQueue_init) = true)
    (a_ReceiveQueue_arrive : PySem.W.findIn K (.ref C_ReceiveQueue) "arrive" = some (some (.ref f_ReceiveQueue_arrive)))
    (i_ReceiveQueue_arrive : PySem.W.isFn K (.ref f_ReceiveQueue_arrive) = true)
    (l_ReceiveQueue_arrive : K.lookup f_ReceiveQueue_arrive = some ⟨oc_ReceiveQueue_arrive, od_ReceiveQueue_arrive, .func (PySem.W.fnOf "arrive" "ReceiveQueue.arrive" (defArgs s_ReceiveQueue_arrive) (defBody s_ReceiveQueue_arrive) (defScope s_ReceiveQueue_arrive) .none kV_ReceiveQueue_arrive dc_ReceiveQueue_arrive pm_ReceiveQueue_arrive an_ReceiveQueue_arrive cd_ReceiveQueue_arrive ct_ReceiveQueue_arrive), sl_ReceiveQueue_arrive⟩)
    (c_ReceiveQueue_arrive : PySem.W.codeIn K cd_ReceiveQueue_arrive "ReceiveQueue.arrive" = true)
    (k_ReceiveQueue_arrive : PySem.W.keepIn K (.ref f_ReceiveQueue_arrive) = true)
    (a_ReceiveQueue_first : PySem.W.findIn K (.ref C_ReceiveQueue) "first" = some (some (.ref f_ReceiveQueue_first)))
    (i_ReceiveQueue_first : PySem.W.isFn K (.ref f_ReceiveQueue_first) = true)
    (l_ReceiveQueue_first : K.lookup f_ReceiveQueue_first = some ⟨oc_ReceiveQueue_first, od_ReceiveQueue_first, .func (PySem.W.fnOf "first" "ReceiveQueue.first" (defArgs s_ReceiveQueue_first) (defBody s_ReceiveQueue_first) (defScope s_ReceiveQueue_first) .none kV_ReceiveQueue_first dc_ReceiveQueue_first pm_ReceiveQueue_first an_ReceiveQueue_first cd_ReceiveQueue_first ct_ReceiveQueue_first), sl_ReceiveQueue_first⟩)
    (c_ReceiveQueue_first : PySem.W.codeIn K cd_ReceiveQueue_first "ReceiveQueue.first" = true)
    (k_ReceiveQueue_first : PySem.W.keepIn K (.ref f_ReceiveQueue_first) = true)
    (a_ReceiveQueue_take : PySem.W.findIn K (.ref C_ReceiveQueue) "take" = some (some (.ref f_ReceiveQueue_take)))
    (i_ReceiveQueue_take : PySem.W.isFn K (.ref f_ReceiveQueue_take) = true)
    (l_ReceiveQueue_take : K.lookup f_ReceiveQueue_take = some ⟨oc_ReceiveQueue_take, od_ReceiveQueue_take, .func (PySem.W.fnOf "take" "ReceiveQueue.take" (defArgs s_ReceiveQueue_take) (defBody s_ReceiveQueue_take) (defScope s_ReceiveQueue_take) .none kV_ReceiveQueue_take dc_ReceiveQueue_take pm_ReceiveQueue_take an_ReceiveQueue_take cd_ReceiveQueue_take ct_ReceiveQueue_take), sl_ReceiveQueue_take⟩)
    (c_ReceiveQueue_take : PySem.W.codeIn K cd_ReceiveQueue_take "ReceiveQueue.take" = true)
    (k_ReceiveQueue_take : PySem.W.keepIn K (.ref f_ReceiveQueue_take) = true)
    (a_ReceiveQueue_oldest_tick : PySem.W.findIn K (.ref C_ReceiveQueue) "oldest_tick" = some (some (.ref f_ReceiveQueue_oldest_tick)))
    (i_ReceiveQueue_oldest_tick : PySem.W.isFn K (.ref f_ReceiveQueue_oldest_tick) = true)
    (l_ReceiveQueue_oldest_tick : K.lookup f_ReceiveQueue_oldest_tick = some ⟨oc_ReceiveQueue_oldest_tick, od_ReceiveQueue_oldest_tick, .func (PySem.W.fnOf "oldest_tick" "ReceiveQueue.oldest_tick" (defArgs s_ReceiveQueue_oldest_tick) (defBody s_ReceiveQueue_oldest_tick) (defScope s_ReceiveQueue_oldest_tick) .none kV_ReceiveQueue_oldest_tick dc_ReceiveQueue_oldest_tick pm_ReceiveQueue_oldest_tick an_ReceiveQueue_oldest_tick cd_ReceiveQueue_oldest_tick ct_ReceiveQueue_oldest_tick), sl_ReceiveQueue_oldest_tick⟩)
    (c_ReceiveQueue_oldest_tick : PySem.W.codeIn K cd_ReceiveQueue_oldest_tick "ReceiveQueue.oldest_tick" = true)
    (k_ReceiveQueue_oldest_tick : PySem.W.keepIn K (.ref f_ReceiveQueue_oldest_tick) = true)
    (a_ReceiveQueue_bytes_held : PySem.W.findIn K (.ref C_ReceiveQueue) "bytes_held" = some (some (.ref f_ReceiveQueue_bytes_held)))
    (i_ReceiveQueue_bytes_held : PySem.W.isFn K (.ref f_ReceiveQueue_bytes_held) = true)
    (l_ReceiveQueue_bytes_held : K.lookup f_ReceiveQueue_bytes_held = some ⟨oc_ReceiveQueue_bytes_held, od_ReceiveQueue_bytes_held, .func (PySem.W.fnOf "bytes_held" "ReceiveQueue.bytes_held" (defArgs s_ReceiveQueue_bytes_held) (defBody s_ReceiveQueue_bytes_held) (defScope s_ReceiveQueue_bytes_held) .none kV_ReceiveQueue_bytes_held dc_ReceiveQueue_bytes_held pm_ReceiveQueue_bytes_held an_ReceiveQueue_bytes_held cd_ReceiveQueue_bytes_held ct_ReceiveQueue_bytes_held), sl_ReceiveQueue_bytes_held⟩)
    (c_ReceiveQueue_bytes_held : PySem.W.codeIn K cd_ReceiveQueue_bytes_held "ReceiveQueue.bytes_held" = true)
    (k_ReceiveQueue_bytes_held : PySem.W.keepIn K (.ref f_ReceiveQueue_bytes_held) = true)
    (a_ReceiveQueue_contents : PySem.W.findIn K (.ref C_ReceiveQueue) "contents" = some (some (.ref f_ReceiveQueue_contents)))
    (i_ReceiveQueue_contents : PySem.W.isFn K (.ref f_ReceiveQueue_contents) = true)
    (l_ReceiveQueue_contents : K.lookup f_ReceiveQueue_contents = some ⟨oc_ReceiveQueue_contents, od_ReceiveQueue_contents, .func (PySem.W.fnOf "contents" "ReceiveQueue.contents" (defArgs s_ReceiveQueue_contents) (defBody s_ReceiveQueue_contents) (defScope s_ReceiveQueue_contents) .none kV_ReceiveQueue_contents dc_ReceiveQueue_contents pm_ReceiveQueue_contents an_ReceiveQueue_contents cd_ReceiveQueue_contents ct_ReceiveQueue_contents), sl_ReceiveQueue_contents⟩)
    (c_ReceiveQueue_contents : PySem.W.codeIn K cd_ReceiveQueue_contents "ReceiveQueue.contents" = true)
    (k_ReceiveQueue_contents : PySem.W.keepIn K (.ref f_ReceiveQueue_contents) = true)
    (a_ReceiveQueue_append : PySem.W.findIn K (.ref C_ReceiveQueue) "_append" = some (some (.ref f_ReceiveQueue_append)))
    (i_ReceiveQueue_append : PySem.W.isFn K (.ref f_ReceiveQueue_append) = true)
    (l_ReceiveQueue_append : K.lookup f_ReceiveQueue_append = some ⟨oc_ReceiveQueue_append, od_ReceiveQueue_append, .func (PySem.W.fnOf "_append" "ReceiveQueue._append" (defArgs s_ReceiveQueue_append) (defBody s_ReceiveQueue_append) (defScope s_ReceiveQueue_append) .none kV_ReceiveQueue_append dc_ReceiveQueue_append pm_ReceiveQueue_append an_ReceiveQueue_append cd_ReceiveQueue_append ct_ReceiveQueue_append), sl_ReceiveQueue_append⟩)
    (c_ReceiveQueue_append : PySem.W.codeIn K cd_ReceiveQueue_append "ReceiveQueue._append" = true)
    (k_ReceiveQueue_append : PySem.W.keepIn K (.ref f_ReceiveQueue_append) = true)
    (a_ReceiveQueue_lose : PySem.W.findIn K (.ref C_ReceiveQueue) "_lose" = some (some (.ref f_ReceiveQueue_lose)))
    (i_ReceiveQueue_lose : PySem.W.isFn K (.ref f_ReceiveQueue_lose) = true)
    (l_ReceiveQueue_lose : K.lookup f_ReceiveQueue_lose = some ⟨oc_ReceiveQueue_lose, od_ReceiveQueue_lose, .func (PySem.W.fnOf "_lose" "ReceiveQueue._lose" (defArgs s_ReceiveQueue_lose) (defBody s_ReceiveQueue_lose) (defScope s_ReceiveQueue_lose) .none kV_ReceiveQueue_lose dc_ReceiveQueue_lose pm_ReceiveQueue_lose an_ReceiveQueue_lose cd_ReceiveQueue_lose ct_ReceiveQueue_lose), sl_ReceiveQueue_lose⟩)
    (c_ReceiveQueue_lose : PySem.W.codeIn K cd_ReceiveQueue_lose "ReceiveQueue._lose" = true)
    (k_ReceiveQueue_lose : PySem.W.keepIn K (.ref f_ReceiveQueue_lose) = true)
    (a_copied : PySem.W.nsIn K mainGlobals "_copied" = some (some (.ref f_copied)))
    (l_copied : K.lookup f_copied = some ⟨oc_copied, od_copied, .func (PySem.W.fnOf "_copied" "_copied" (defArgs s_copied) (defBody s_copied) (defScope s_copied) .none kV_copied dc_copied pm_copied an_copied cd_copied ct_copied), sl_copied⟩)
    (c_copied : PySem.W.codeIn K cd_copied "_copied" = true)
    (k_copied : PySem.W.keepIn K (.ref f_copied) = true)
    (a_SlotRing_init : PySem.W.findIn K (.ref C_SlotRing) "__init__" = some (some (.ref f_SlotRing_init)))
    (i_SlotRing_init : PySem.W.isFn K (.ref f_SlotRing_init) = true)
    (l_SlotRing_init : K.lookup f_SlotRing_init = some ⟨oc_SlotRing_init, od_SlotRing_init, .func (PySem.W.fnOf "__init__" "SlotRing.__init__" (defArgs s_SlotRing_init) (defBody s_SlotRing_init) (defScope s_SlotRing_init) .none kV_SlotRing_init dc_SlotRing_init pm_SlotRing_init an_SlotRing_init cd_SlotRing_init ct_SlotRing_init), sl_SlotRing_init⟩)
    (c_SlotRing_init : PySem.W.codeIn K cd_SlotRing_init "SlotRing.__init__" = true)
    (k_SlotRing_init : PySem.W.keepIn K (.ref f_SlotRing_init) = true)
    (a_SlotRing_can_arm : PySem.W.findIn K (.ref C_SlotRing) "can_arm" = some (some (.ref f_SlotRing_can_arm)))
    (i_SlotRing_can_arm : PySem.W.isFn K (.ref f_SlotRing_can_arm) = true)
    (l_SlotRing_can_arm : K.lookup f_SlotRing_can_arm = some ⟨oc_SlotRing_can_arm, od_SlotRing_can_arm, .func (PySem.W.fnOf "can_arm" "SlotRing.can_arm" (defArgs s_SlotRing_can_arm) (defBody s_SlotRing_can_arm) (defScope s_SlotRing_can_arm) .none kV_SlotRing_can_arm dc_SlotRing_can_arm pm_SlotRing_can_arm an_SlotRing_can_arm cd_SlotRing_can_arm ct_SlotRing_can_arm), sl_SlotRing_can_arm⟩)
    (c_SlotRing_can_arm : PySem.W.codeIn K cd_SlotRing_can_arm "SlotRing.can_arm" = true)
    (k_SlotRing_can_arm : PySem.W.keepIn K (.ref f_SlotRing_can_arm) = true)
    (a_SlotRing_arm : PySem.W.findIn K (.ref C_SlotRing) "arm" = some (some (.ref f_SlotRing_arm)))
    (i_SlotRing_arm : PySem.W.isFn K (.ref f_SlotRing_arm) = true)
    (l_SlotRing_arm : K.lookup f_SlotRing_arm = some ⟨oc_SlotRing_arm, od_SlotRing_arm, .func (PySem.W.fnOf "arm" "SlotRing.arm" (defArgs s_SlotRing_arm) (defBody s_SlotRing_arm) (defScope s_SlotRing_arm) .none kV_SlotRing_arm dc_SlotRing_arm pm_SlotRing_arm an_SlotRing_arm cd_SlotRing_arm ct_SlotRing_arm), sl_SlotRing_arm⟩)
    (c_SlotRing_arm : PySem.W.codeIn K cd_SlotRing_arm "SlotRing.arm" = true)
    (k_SlotRing_arm : PySem.W.keepIn K (.ref f_SlotRing_arm) = true)
    (a_SlotRing_open_slot : PySem.W.findIn K (.ref C_SlotRing) "open_slot" = some (some (.ref f_SlotRing_open_slot)))
    (i_SlotRing_open_slot : PySem.W.isFn K (.ref f_SlotRing_open_slot) = true)
    (l_SlotRing_open_slot : K.lookup f_SlotRing_open_slot = some ⟨oc_SlotRing_open_slot, od_SlotRing_open_slot, .func (PySem.W.fnOf "open_slot" "SlotRing.open_slot" (defArgs s_SlotRing_open_slot) (defBody s_SlotRing_open_slot) (defScope s_SlotRing_open_slot) .none kV_SlotRing_open_slot dc_SlotRing_open_slot pm_SlotRing_open_slot an_SlotRing_open_slot cd_SlotRing_open_slot ct_SlotRing_open_slot), sl_SlotRing_open_slot⟩)
    (c_SlotRing_open_slot : PySem.W.codeIn K cd_SlotRing_open_slot "SlotRing.open_slot" = true)
    (k_SlotRing_open_slot : PySem.W.keepIn K (.ref f_SlotRing_open_slot) = true)
    (a_SlotRing_open_bytes : PySem.W.findIn K (.ref C_SlotRing) "open_bytes" = some (some (.ref f_SlotRing_open_bytes)))
    (i_SlotRing_open_bytes : PySem.W.isFn K (.ref f_SlotRing_open_bytes) = true)
    (l_SlotRing_open_bytes : K.lookup f_SlotRing_open_bytes = some ⟨oc_SlotRing_open_bytes, od_SlotRing_open_bytes, .func (PySem.W.fnOf "open_bytes" "SlotRing.open_bytes" (defArgs s_SlotRing_open_bytes) (defBody s_SlotRing_open_bytes) (defScope s_SlotRing_open_bytes) .none kV_SlotRing_open_bytes dc_SlotRing_open_bytes pm_SlotRing_open_bytes an_SlotRing_open_bytes cd_SlotRing_open_bytes ct_SlotRing_open_bytes), sl_SlotRing_open_bytes⟩)
    (c_SlotRing_open_bytes : PySem.W.codeIn K cd_SlotRing_open_bytes "SlotRing.open_bytes" = true)
    (k_SlotRing_open_bytes : PySem.W.keepIn K (.ref f_SlotRing_open_bytes) = true)
    (a_SlotRing_open_count : PySem.W.findIn K (.ref C_SlotRing) "open_count" = some (some (.ref f_SlotRing_open_count)))
    (i_SlotRing_open_count : PySem.W.isFn K (.ref f_SlotRing_open_count) = true)
    (l_SlotRing_open_count : K.lookup f_SlotRing_open_count = some ⟨oc_SlotRing_open_count, od_SlotRing_open_count, .func (PySem.W.fnOf "open_count" "SlotRing.open_count" (defArgs s_SlotRing_open_count) (defBody s_SlotRing_open_count) (defScope s_SlotRing_open_count) .none kV_SlotRing_open_count dc_SlotRing_open_count pm_SlotRing_open_count an_SlotRing_open_count cd_SlotRing_open_count ct_SlotRing_open_count), sl_SlotRing_open_count⟩)
    (c_SlotRing_open_count : PySem.W.codeIn K cd_SlotRing_open_count "SlotRing.open_count" = true)
    (k_SlotRing_open_count : PySem.W.keepIn K (.ref f_SlotRing_open_count) = true)
    (a_SlotRing_add : PySem.W.findIn K (.ref C_SlotRing) "add" = some (some (.ref f_SlotRing_add)))
    (i_SlotRing_add : PySem.W.isFn K (.ref f_SlotRing_add) = true)
    (l_SlotRing_add : K.lookup f_SlotRing_add = some ⟨oc_SlotRing_add, od_SlotRing_add, .func (PySem.W.fnOf "add" "SlotRing.add" (defArgs s_SlotRing_add) (defBody s_SlotRing_add) (defScope s_SlotRing_add) .none kV_SlotRing_add dc_SlotRing_add pm_SlotRing_add an_SlotRing_add cd_SlotRing_add ct_SlotRing_add), sl_SlotRing_add⟩)
    (c_SlotRing_add : PySem.W.codeIn K cd_SlotRing_add "SlotRing.add" = true)
    (k_SlotRing_add : PySem.W.keepIn K (.ref f_SlotRing_add) = true)
    (a_SlotRing_close : PySem.W.findIn K (.ref C_SlotRing) "close" = some (some (.ref f_SlotRing_close)))
    (i_SlotRing_close : PySem.W.isFn K (.ref f_SlotRing_close) = true)
    (l_SlotRing_close : K.lookup f_SlotRing_close = some ⟨oc_SlotRing_close, od_SlotRing_close, .func (PySem.W.fnOf "close" "SlotRing.close" (defArgs s_SlotRing_close) (defBody s_SlotRing_close) (defScope s_SlotRing_close) .none kV_SlotRing_close dc_SlotRing_close pm_SlotRing_close an_SlotRing_close cd_SlotRing_close ct_SlotRing_close), sl_SlotRing_close⟩)
    (c_SlotRing_close : PySem.W.codeIn K cd_SlotRing_close "SlotRing.close" = true)
    (k_SlotRing_close : PySem.W.keepIn K (.ref f_SlotRing_close) = true)
    (a_SlotRing_oldest : PySem.W.findIn K (.ref C_SlotRing) "oldest" = some (some (.ref f_SlotRing_oldest)))
    (i_SlotRing_oldest : PySem.W.isFn K (.ref f_SlotRing_oldest) = true)
    (l_SlotRing_oldest : K.lookup f_SlotRing_oldest = some ⟨oc_SlotRing_oldest, od_SlotRing_oldest, .func (PySem.W.fnOf "oldest" "SlotRing.oldest" (defArgs s_SlotRing_oldest) (defBody s_SlotRing_oldest) (defScope s_SlotRing_oldest) .none kV_SlotRing_oldest dc_SlotRing_oldest pm_SlotRing_oldest an_SlotRing_oldest cd_SlotRing_oldest ct_SlotRing_oldest), sl_SlotRing_oldest⟩)
    (c_SlotRing_oldest : PySem.W.codeIn K cd_SlotRing_oldest "SlotRing.oldest" = true)
    (k_SlotRing_oldest : PySem.W.keepIn K (.ref f_SlotRing_oldest) = true)
    (a_SlotRing_reap : PySem.W.findIn K (.ref C_SlotRing) "reap" = some (some (.ref f_SlotRing_reap)))
    (i_SlotRing_reap : PySem.W.isFn K (.ref f_SlotRing_reap) = true)
    (l_SlotRing_reap : K.lookup f_SlotRing_reap = some ⟨oc_SlotRing_reap, od_SlotRing_reap, .func (PySem.W.fnOf "reap" "SlotRing.reap" (defArgs s_SlotRing_reap) (defBody s_SlotRing_reap) (defScope s_SlotRing_reap) .none kV_SlotRing_reap dc_SlotRing_reap pm_SlotRing_reap an_SlotRing_reap cd_SlotRing_reap ct_SlotRing_reap), sl_SlotRing_reap⟩)
    (c_SlotRing_reap : PySem.W.codeIn K cd_SlotRing_reap "SlotRing.reap" = true)
    (k_SlotRing_reap : PySem.W.keepIn K (.ref f_SlotRing_reap) = true)
    (a_SlotRing_filled_slots : PySem.W.findIn K (.ref C_SlotRing) "filled_slots" = some (some (.ref f_SlotRing_filled_slots)))
    (i_SlotRing_filled_slots : PySem.W.isFn K (.ref f_SlotRing_filled_slots) = true)
    (l_SlotRing_filled_slots : K.lookup f_SlotRing_filled_slots = some ⟨oc_SlotRing_filled_slots, od_SlotRing_filled_slots, .func (PySem.W.fnOf "filled_slots" "SlotRing.filled_slots" (defArgs s_SlotRing_filled_slots) (defBody s_SlotRing_filled_slots) (defScope s_SlotRing_filled_slots) .none kV_SlotRing_filled_slots dc_SlotRing_filled_slots pm_SlotRing_filled_slots an_SlotRing_filled_slots cd_SlotRing_filled_slots ct_SlotRing_filled_slots), sl_SlotRing_filled_slots⟩)
    (c_SlotRing_filled_slots : PySem.W.codeIn K cd_SlotRing_filled_slots "SlotRing.filled_slots" = true)
    (k_SlotRing_filled_slots : PySem.W.keepIn K (.ref f_SlotRing_filled_slots) = true)
    (a_SlotRing_buffers : PySem.W.findIn K (.ref C_SlotRing) "buffers" = some (some (.ref f_SlotRing_buffers)))
    (i_SlotRing_buffers : PySem.W.isFn K (.ref f_SlotRing_buffers) = true)
    (l_SlotRing_buffers : K.lookup f_SlotRing_buffers = some ⟨oc_SlotRing_buffers, od_SlotRing_buffers, .func (PySem.W.fnOf "buffers" "SlotRing.buffers" (defArgs s_SlotRing_buffers) (defBody s_SlotRing_buffers) (defScope s_SlotRing_buffers) .none kV_SlotRing_buffers dc_SlotRing_buffers pm_SlotRing_buffers an_SlotRing_buffers cd_SlotRing_buffers ct_SlotRing_buffers), sl_SlotRing_buffers⟩)
    (c_SlotRing_buffers : PySem.W.codeIn K cd_SlotRing_buffers "SlotRing.buffers" = true)
    (k_SlotRing_buffers : PySem.W.keepIn K (.ref f_SlotRing_buffers) = true)
    (a_law_state : PySem.W.nsIn K mainGlobals "_law_state" = some (some (.ref f_law_state)))
    (l_law_state : K.lookup f_law_state = some ⟨oc_law_state, od_law_state, .func (PySem.W.fnOf "_law_state" "_law_state" (defArgs s_law_state) (defBody s_law_state) (defScope s_law_state) .none kV_law_state dc_law_state pm_law_state an_law_state cd_law_state ct_law_state), sl_law_state⟩)
    (c_law_state : PySem.W.codeIn K cd_law_state "_law_state" = true)
    (k_law_state : PySem.W.keepIn K (.ref f_law_state) = true)
    (a_law_draw : PySem.W.nsIn K mainGlobals "_law_draw" = some (some (.ref f_law_draw)))
    (l_law_draw : K.lookup f_law_draw = some ⟨oc_law_draw, od_law_draw, .func (PySem.W.fnOf "_law_draw" "_law_draw" (defArgs s_law_draw) (defBody s_law_draw) (defScope s_law_draw) .none kV_law_draw dc_law_draw pm_law_draw an_law_draw cd_law_draw ct_law_draw), sl_law_draw⟩)
    (c_law_draw : PySem.W.codeIn K cd_law_draw "_law_draw" = true)
    (k_law_draw : PySem.W.keepIn K (.ref f_law_draw) = true)
    (a_law_pick : PySem.W.nsIn K mainGlobals "_law_pick" = some (some (.ref f_law_pick)))
    (l_law_pick : K.lookup f_law_pick = some ⟨oc_law_pick, od_law_pick, .func (PySem.W.fnOf "_law_pick" "_law_pick" (defArgs s_law_pick) (defBody s_law_pick) (defScope s_law_pick) .none kV_law_pick dc_law_pick pm_law_pick an_law_pick cd_law_pick ct_law_pick), sl_law_pick⟩)
    (c_law_pick : PySem.W.codeIn K cd_law_pick "_law_pick" = true)
    (k_law_pick : PySem.W.keepIn K (.ref f_law_pick) = true)
    (a_law_arrives : PySem.W.nsIn K mainGlobals "_law_arrives" = some (some (.ref f_law_arrives)))
    (l_law_arrives : K.lookup f_law_arrives = some ⟨oc_law_arrives, od_law_arrives, .func (PySem.W.fnOf "_law_arrives" "_law_arrives" (defArgs s_law_arrives) (defBody s_law_arrives) (defScope s_law_arrives) .none kV_law_arrives dc_law_arrives pm_law_arrives an_law_arrives cd_law_arrives ct_law_arrives), sl_law_arrives⟩)
    (c_law_arrives : PySem.W.codeIn K cd_law_arrives "_law_arrives" = true)
    (k_law_arrives : PySem.W.keepIn K (.ref f_law_arrives) = true)
    (a_law_close : PySem.W.nsIn K mainGlobals "_law_close" = some (some (.ref f_law_close)))
    (l_law_close : K.lookup f_law_close = some ⟨oc_law_close, od_law_close, .func (PySem.W.fnOf "_law_close" "_law_close" (defArgs s_law_close) (defBody s_law_close) (defScope s_law_close) .none kV_law_close dc_law_close pm_law_close an_law_close cd_law_close ct_law_close), sl_law_close⟩)
    (c_law_close : PySem.W.codeIn K cd_law_close "_law_close" = true)
    (k_law_close : PySem.W.keepIn K (.ref f_law_close) = true)
    (a_law_steps : PySem.W.nsIn K mainGlobals "_law_steps" = some (some (.ref f_law_steps)))
    (l_law_steps : K.lookup f_law_steps = some ⟨oc_law_steps, od_law_steps, .func (PySem.W.fnOf "_law_steps" "_law_steps" (defArgs s_law_steps) (defBody s_law_steps) (defScope s_law_steps) .none kV_law_steps dc_law_steps pm_law_steps an_law_steps cd_law_steps ct_law_steps), sl_law_steps⟩)
    (c_law_steps : PySem.W.codeIn K cd_law_steps "_law_steps" = true)
    (k_law_steps : PySem.W.keepIn K (.ref f_law_steps) = true)
    (a_law_idles : PySem.W.nsIn K mainGlobals "_law_idles" = some (some (.ref f_law_idles)))
    (l_law_idles : K.lookup f_law_idles = some ⟨oc_law_idles, od_law_idles, .func (PySem.W.fnOf "_law_idles" "_law_idles" (defArgs s_law_idles) (defBody s_law_idles) (defScope s_law_idles) .none kV_law_idles dc_law_idles pm_law_idles an_law_idles cd_law_idles ct_law_idles), sl_law_idles⟩)
    (c_law_idles : PySem.W.codeIn K cd_law_idles "_law_idles" = true)
    (k_law_idles : PySem.W.keepIn K (.ref f_law_idles) = true)
    (a_law_agrees : PySem.W.nsIn K mainGlobals "_law_agrees" = some (some (.ref f_law_agrees)))
    (l_law_agrees : K.lookup f_law_agrees = some ⟨oc_law_agrees, od_law_agrees, .func (PySem.W.fnOf "_law_agrees" "_law_agrees" (defArgs s_law_agrees) (defBody s_law_agrees) (defScope s_law_agrees) .none kV_law_agrees dc_law_agrees pm_law_agrees an_law_agrees cd_law_agrees ct_law_agrees), sl_law_agrees⟩)
    (c_law_agrees : PySem.W.codeIn K cd_law_agrees "_law_agrees" = true)
    (k_law_agrees : PySem.W.keepIn K (.ref f_law_agrees) = true)
    (a_law_changes : PySem.W.nsIn K mainGlobals "_law_changes" = some (some (.ref f_law_changes)))
    (l_law_changes : K.lookup f_law_changes = some ⟨oc_law_changes, od_law_changes, .func (PySem.W.fnOf "_law_changes" "_law_changes" (defArgs s_law_changes) (defBody s_law_changes) (defScope s_law_changes) .none kV_law_changes dc_law_changes pm_law_changes an_law_changes cd_law_changes ct_law_changes), sl_law_changes⟩)
    (c_law_changes : PySem.W.codeIn K cd_law_changes "_law_changes" = true)
    (k_law_changes : PySem.W.keepIn K (.ref f_law_changes) = true)
    (a_law : PySem.W.nsIn K mainGlobals "law" = some (some (.ref f_law)))
    (l_law : K.lookup f_law = some ⟨oc_law, od_law, .func (PySem.W.fnOf "law" "law" (defArgs s_law) (defBody s_law) (defScope s_law) .none kV_law dc_law pm_law an_law cd_law ct_law), sl_law⟩)
    (c_law : PySem.W.codeIn K cd_law "law" = true)
    (k_law : PySem.W.keepIn K (.ref f_law) = true)
    (pg_Receiver : PySem.W.plainGet K C_Receiver Str.empty = true)
    (hd_Receiver : PySem.W.hasDictIn K C_Receiver = true)
    (po_Receiver : PySem.W.plainOver K C_Receiver = true)
    (sa_Receiver : PySem.W.findIn K (.ref C_Receiver) "__setattr__" = some (some (.builtin "object.__setattr__")))
    (mk_Receiver : PySem.W.makesIn K C_Receiver = true)
    (kc_Receiver : PySem.W.keepIn K (.ref C_Receiver) = true)
    (n_Receiver_queue : PySem.W.findIn K (.ref C_Receiver) "queue" = some none)
    (n_Receiver_ring : PySem.W.findIn K (.ref C_Receiver) "ring" = some none)
    (n_Receiver_size : PySem.W.findIn K (.ref C_Receiver) "size" = some none)
    (n_Receiver_idle : PySem.W.findIn K (.ref C_Receiver) "idle" = some none)
    (n_Receiver_latest : PySem.W.findIn K (.ref C_Receiver) "latest" = some none)
    (pg_Ring : PySem.W.plainGet K C_Ring Str.empty = true)
    (hd_Ring : PySem.W.hasDictIn K C_Ring = true)
    (po_Ring : PySem.W.plainOver K C_Ring = true)
    (sa_Ring : PySem.W.findIn K (.ref C_Ring) "__setattr__" = some (some (.builtin "object.__setattr__")))
    (mk_Ring : PySem.W.makesIn K C_Ring = true)
    (kc_Ring : PySem.W.keepIn K (.ref C_Ring) = true)
    (n_Ring_cells : PySem.W.findIn K (.ref C_Ring) "_cells" = some none)
    (n_Ring_written : PySem.W.findIn K (.ref C_Ring) "written" = some none)
    (n_Ring_taken : PySem.W.findIn K (.ref C_Ring) "taken" = some none)
    (pg_ReceiveQueue : PySem.W.plainGet K C_ReceiveQueue Str.empty = true)
    (hd_ReceiveQueue : PySem.W.hasDictIn K C_ReceiveQueue = true)
    (po_ReceiveQueue : PySem.W.plainOver K C_ReceiveQueue = true)
    (sa_ReceiveQueue : PySem.W.findIn K (.ref C_ReceiveQueue) "__setattr__" = some (some (.builtin "object.__setattr__")))
    (mk_ReceiveQueue : PySem.W.makesIn K C_ReceiveQueue = true)
    (kc_ReceiveQueue : PySem.W.keepIn K (.ref C_ReceiveQueue) = true)
    (n_ReceiveQueue_capacity : PySem.W.findIn K (.ref C_ReceiveQueue) "capacity" = some none)
    (n_ReceiveQueue_items : PySem.W.findIn K (.ref C_ReceiveQueue) "_items" = some none)
    (n_ReceiveQueue_ticks : PySem.W.findIn K (.ref C_ReceiveQueue) "_ticks" = some none)
    (pg_SlotRing : PySem.W.plainGet K C_SlotRing Str.empty = true)
    (hd_SlotRing : PySem.W.hasDictIn K C_SlotRing = true)
    (po_SlotRing : PySem.W.plainOver K C_SlotRing = true)
    (sa_SlotRing : PySem.W.findIn K (.ref C_SlotRing) "__setattr__" = some (some (.builtin "object.__setattr__")))
    (mk_SlotRing : PySem.W.makesIn K C_SlotRing = true)
    (kc_SlotRing : PySem.W.keepIn K (.ref C_SlotRing) = true)
    (n_SlotRing_slots : PySem.W.findIn K (.ref C_SlotRing) "_slots" = some none)
    (n_SlotRing_armed : PySem.W.findIn K (.ref C_SlotRing) "_armed" = some none)
    (n_SlotRing_filled : PySem.W.findIn K (.ref C_SlotRing) "_filled" = some none)
    (n_SlotRing_added : PySem.W.findIn K (.ref C_SlotRing) "_added" = some none)
    (z_abs : PySem.W.nsIn K mainGlobals "abs" = some none)
    (z_bool : PySem.W.nsIn K mainGlobals "bool" = some none)
    (z_int : PySem.W.nsIn K mainGlobals "int" = some none)
    (z_isinstance : PySem.W.nsIn K mainGlobals "isinstance" = some none)
    (z_len : PySem.W.nsIn K mainGlobals "len" = some none)
    (z_list : PySem.W.nsIn K mainGlobals "list" = some none)
    (z_range : PySem.W.nsIn K mainGlobals "range" = some none)
    (z_super : PySem.W.nsIn K mainGlobals "super" = some none)
    (z_tuple : PySem.W.nsIn K mainGlobals "tuple" = some none)
    : ∃ fd : FuncData, (∀ (s : Shared) (v : Value), BindsTo s fd ⟨[v], []⟩ [("script", v)]) ∧ ∀ base : Heap, K.In base → base.Ns mainGlobals mg → FnOk l.prog w K mg base (L2.CX l.prog w) 9 fa fd ["script"] (sp_law0 K) := by
  have e : f_law = fa := by
    have z := hfa.symm.trans (PySem.W.mg_of X G a_law)
    cases z
    rfl
  subst e
  have F_wall := fun_mk (st := s_wall) l_wall c_wall k_wall
  have b_wall := F_wall.binds (ps := ["k"]) fun _ _ _ _ _ _ us hl => match us, hl with | [_], _ => rfl
  have F_lost_mark := fun_mk (st := s_lost_mark) l_lost_mark c_lost_mark k_lost_mark
  have b_lost_mark := F_lost_mark.binds (ps := ["many"]) fun _ _ _ _ _ _ us hl => match us, hl with | [_], _ => rfl
  have F_is_mark := fun_mk (st := s_is_mark) l_is_mark c_is_mark k_is_mark
  have b_is_mark := F_is_mark.binds (ps := ["item"]) fun _ _ _ _ _ _ us hl => match us, hl with | [_], _ => rfl
  have F_lost_by := fun_mk (st := s_lost_by) l_lost_by c_lost_by k_lost_by
  have b_lost_by := F_lost_by.binds (ps := ["mark"]) fun _ _ _ _ _ _ us hl => match us, hl with | [_], _ => rfl
  have F_joined := fun_mk (st := s_joined) l_joined c_joined k_joined
  have b_joined := F_joined.binds (ps := ["mark", "other"]) fun _ _ _ _ _ _ us hl => match us, hl with | [_, _], _ => rfl
  have F_bytes_among := fun_mk (st := s_bytes_among) l_bytes_among c_bytes_among k_bytes_among
  have b_bytes_among := F_bytes_among.binds (ps := ["items"]) fun _ _ _ _ _ _ us hl => match us, hl with | [_], _ => rfl
  have F_Receiver_init := fun_mk (st := s_Receiver_init) l_Receiver_init c_Receiver_init k_Receiver_init
  have b_Receiver_init := F_Receiver_init.binds (ps := ["self", "queue", "ring", "size", "idle"]) fun _ _ _ _ _ _ us hl => match us, hl with | [_, _, _, _, _], _ => rfl
  have F_Receiver_can_step := fun_mk (st := s_Receiver_can_step) l_Receiver_can_step c_Receiver_can_step k_Receiver_can_step
  have b_Receiver_can_step := F_Receiver_can_step.binds (ps := ["self"]) fun _ _ _ _ _ _ us hl => match us, hl with | [_], _ => rfl
  have F_Receiver_step := fun_mk (st := s_Receiver_step) l_Receiver_step c_Receiver_step k_Receiver_step
  have b_Receiver_step := F_Receiver_step.binds (ps := ["self", "now"]) fun _ _ _ _ _ _ us hl => match us, hl with | [_, _], _ => rfl
  have F_Receiver_close_idle := fun_mk (st := s_Receiver_close_idle) l_Receiver_close_idle c_Receiver_close_idle k_Receiver_close_idle
  have b_Receiver_close_idle := F_Receiver_close_idle.binds (ps := ["self", "now"]) fun _ _ _ _ _ _ us hl => match us, hl with | [_, _], _ => rfl
  have F_Receiver_add := fun_mk (st := s_Receiver_add) l_Receiver_add c_Receiver_add k_Receiver_add
  have b_Receiver_add := F_Receiver_add.binds (ps := ["self", "byte", "now"]) fun _ _ _ _ _ _ us hl => match us, hl with | [_, _, _], _ => rfl
  have F_Ring_init := fun_mk (st := s_Ring_init) l_Ring_init c_Ring_init k_Ring_init
  have b_Ring_init := F_Ring_init.binds (ps := ["self", "cells"]) fun _ _ _ _ _ _ us hl => match us, hl with | [_, _], _ => rfl
  have F_Ring_held := fun_mk (st := s_Ring_held) l_Ring_held c_Ring_held k_Ring_held
  have b_Ring_held := F_Ring_held.binds (ps := ["self"]) fun _ _ _ _ _ _ us hl => match us, hl with | [_], _ => rfl
  have F_Ring_is_full := fun_mk (st := s_Ring_is_full) l_Ring_is_full c_Ring_is_full k_Ring_is_full
  have b_Ring_is_full := F_Ring_is_full.binds (ps := ["self"]) fun _ _ _ _ _ _ us hl => match us, hl with | [_], _ => rfl
  have F_Ring_put := fun_mk (st := s_Ring_put) l_Ring_put c_Ring_put k_Ring_put
  have b_Ring_put := F_Ring_put.binds (ps := ["self", "value"]) fun _ _ _ _ _ _ us hl => match us, hl with | [_, _], _ => rfl
  have F_Ring_first := fun_mk (st := s_Ring_first) l_Ring_first c_Ring_first k_Ring_first
  have b_Ring_first := F_Ring_first.binds (ps := ["self"]) fun _ _ _ _ _ _ us hl => match us, hl with | [_], _ => rfl
  have F_Ring_take := fun_mk (st := s_Ring_take) l_Ring_take c_Ring_take k_Ring_take
  have b_Ring_take := F_Ring_take.binds (ps := ["self"]) fun _ _ _ _ _ _ us hl => match us, hl with | [_], _ => rfl
  have F_Ring_listed := fun_mk (st := s_Ring_listed) l_Ring_listed c_Ring_listed k_Ring_listed
  have b_Ring_listed := F_Ring_listed.binds (ps := ["self"]) fun _ _ _ _ _ _ us hl => match us, hl with | [_], _ => rfl
  have F_Ring_next := fun_mk (st := s_Ring_next) l_Ring_next c_Ring_next k_Ring_next
  have b_Ring_next := F_Ring_next.binds (ps := ["self", "counter"]) fun _ _ _ _ _ _ us hl => match us, hl with | [_, _], _ => rfl
  have F_ReceiveQueue_init := fun_mk (st := s_ReceiveQueue_init) l_ReceiveQueue_init c_ReceiveQueue_init k_ReceiveQueue_init
  have b_ReceiveQueue_init := F_ReceiveQueue_init.binds (ps := ["self", "capacity"]) fun _ _ _ _ _ _ us hl => match us, hl with | [_, _], _ => rfl
  have F_ReceiveQueue_arrive := fun_mk (st := s_ReceiveQueue_arrive) l_ReceiveQueue_arrive c_ReceiveQueue_arrive k_ReceiveQueue_arrive
  have b_ReceiveQueue_arrive := F_ReceiveQueue_arrive.binds (ps := ["self", "byte", "tick"]) fun _ _ _ _ _ _ us hl => match us, hl with | [_, _, _], _ => rfl
  have F_ReceiveQueue_first := fun_mk (st := s_ReceiveQueue_first) l_ReceiveQueue_first c_ReceiveQueue_first k_ReceiveQueue_first
  have b_ReceiveQueue_first := F_ReceiveQueue_first.binds (ps := ["self"]) fun _ _ _ _ _ _ us hl => match us, hl with | [_], _ => rfl
  have F_ReceiveQueue_take := fun_mk (st := s_ReceiveQueue_take) l_ReceiveQueue_take c_ReceiveQueue_take k_ReceiveQueue_take
  have b_ReceiveQueue_take := F_ReceiveQueue_take.binds (ps := ["self"]) fun _ _ _ _ _ _ us hl => match us, hl with | [_], _ => rfl
  have F_ReceiveQueue_oldest_tick := fun_mk (st := s_ReceiveQueue_oldest_tick) l_ReceiveQueue_oldest_tick c_ReceiveQueue_oldest_tick k_ReceiveQueue_oldest_tick
  have b_ReceiveQueue_oldest_tick := F_ReceiveQueue_oldest_tick.binds (ps := ["self"]) fun _ _ _ _ _ _ us hl => match us, hl with | [_], _ => rfl
  have F_ReceiveQueue_bytes_held := fun_mk (st := s_ReceiveQueue_bytes_held) l_ReceiveQueue_bytes_held c_ReceiveQueue_bytes_held k_ReceiveQueue_bytes_held
  have b_ReceiveQueue_bytes_held := F_ReceiveQueue_bytes_held.binds (ps := ["self"]) fun _ _ _ _ _ _ us hl => match us, hl with | [_], _ => rfl
  have F_ReceiveQueue_contents := fun_mk (st := s_ReceiveQueue_contents) l_ReceiveQueue_contents c_ReceiveQueue_contents k_ReceiveQueue_contents
  have b_ReceiveQueue_contents := F_ReceiveQueue_contents.binds (ps := ["self"]) fun _ _ _ _ _ _ us hl => match us, hl with | [_], _ => rfl
  have F_ReceiveQueue_append := fun_mk (st := s_ReceiveQueue_append) l_ReceiveQueue_append c_ReceiveQueue_append k_ReceiveQueue_append
  have b_ReceiveQueue_append := F_ReceiveQueue_append.binds (ps := ["self", "item", "tick"]) fun _ _ _ _ _ _ us hl => match us, hl with | [_, _, _], _ => rfl
  have F_ReceiveQueue_lose := fun_mk (st := s_ReceiveQueue_lose) l_ReceiveQueue_lose c_ReceiveQueue_lose k_ReceiveQueue_lose
  have b_ReceiveQueue_lose := F_ReceiveQueue_lose.binds (ps := ["self", "tick"]) fun _ _ _ _ _ _ us hl => match us, hl with | [_, _], _ => rfl
  have F_copied := fun_mk (st := s_copied) l_copied c_copied k_copied
  have b_copied := F_copied.binds (ps := ["slot"]) fun _ _ _ _ _ _ us hl => match us, hl with | [_], _ => rfl
  have F_SlotRing_init := fun_mk (st := s_SlotRing_init) l_SlotRing_init c_SlotRing_init k_SlotRing_init
  have b_SlotRing_init := F_SlotRing_init.binds (ps := ["self", "slots"]) fun _ _ _ _ _ _ us hl => match us, hl with | [_, _], _ => rfl
  have F_SlotRing_can_arm := fun_mk (st := s_SlotRing_can_arm) l_SlotRing_can_arm c_SlotRing_can_arm k_SlotRing_can_arm
  have b_SlotRing_can_arm := F_SlotRing_can_arm.binds (ps := ["self"]) fun _ _ _ _ _ _ us hl => match us, hl with | [_], _ => rfl
  have F_SlotRing_arm := fun_mk (st := s_SlotRing_arm) l_SlotRing_arm c_SlotRing_arm k_SlotRing_arm
  have b_SlotRing_arm := F_SlotRing_arm.binds (ps := ["self", "buffer"]) fun _ _ _ _ _ _ us hl => match us, hl with | [_, _], _ => rfl
  have F_SlotRing_open_slot := fun_mk (st := s_SlotRing_open_slot) l_SlotRing_open_slot c_SlotRing_open_slot k_SlotRing_open_slot
  have b_SlotRing_open_slot := F_SlotRing_open_slot.binds (ps := ["self"]) fun _ _ _ _ _ _ us hl => match us, hl with | [_], _ => rfl
  have F_SlotRing_open_bytes := fun_mk (st := s_SlotRing_open_bytes) l_SlotRing_open_bytes c_SlotRing_open_bytes k_SlotRing_open_bytes
  have b_SlotRing_open_bytes := F_SlotRing_open_bytes.binds (ps := ["self"]) fun _ _ _ _ _ _ us hl => match us, hl with | [_], _ => rfl
  have F_SlotRing_open_count := fun_mk (st := s_SlotRing_open_count) l_SlotRing_open_count c_SlotRing_open_count k_SlotRing_open_count
  have b_SlotRing_open_count := F_SlotRing_open_count.binds (ps := ["self"]) fun _ _ _ _ _ _ us hl => match us, hl with | [_], _ => rfl
  have F_SlotRing_add := fun_mk (st := s_SlotRing_add) l_SlotRing_add c_SlotRing_add k_SlotRing_add
  have b_SlotRing_add := F_SlotRing_add.binds (ps := ["self", "byte"]) fun _ _ _ _ _ _ us hl => match us, hl with | [_, _], _ => rfl
  have F_SlotRing_close := fun_mk (st := s_SlotRing_close) l_SlotRing_close c_SlotRing_close k_SlotRing_close
  have b_SlotRing_close := F_SlotRing_close.binds (ps := ["self", "lost"]) fun _ _ _ _ _ _ us hl => match us, hl with | [_, _], _ => rfl
  have F_SlotRing_oldest := fun_mk (st := s_SlotRing_oldest) l_SlotRing_oldest c_SlotRing_oldest k_SlotRing_oldest
  have b_SlotRing_oldest := F_SlotRing_oldest.binds (ps := ["self"]) fun _ _ _ _ _ _ us hl => match us, hl with | [_], _ => rfl
  have F_SlotRing_reap := fun_mk (st := s_SlotRing_reap) l_SlotRing_reap c_SlotRing_reap k_SlotRing_reap
  have b_SlotRing_reap := F_SlotRing_reap.binds (ps := ["self"]) fun _ _ _ _ _ _ us hl => match us, hl with | [_], _ => rfl
  have F_SlotRing_filled_slots := fun_mk (st := s_SlotRing_filled_slots) l_SlotRing_filled_slots c_SlotRing_filled_slots k_SlotRing_filled_slots
  have b_SlotRing_filled_slots := F_SlotRing_filled_slots.binds (ps := ["self"]) fun _ _ _ _ _ _ us hl => match us, hl with | [_], _ => rfl
  have F_SlotRing_buffers := fun_mk (st := s_SlotRing_buffers) l_SlotRing_buffers c_SlotRing_buffers k_SlotRing_buffers
  have b_SlotRing_buffers := F_SlotRing_buffers.binds (ps := ["self"]) fun _ _ _ _ _ _ us hl => match us, hl with | [_], _ => rfl
  have F_law_state := fun_mk (st := s_law_state) l_law_state c_law_state k_law_state
  have b_law_state := F_law_state.binds (ps := ["script"]) fun _ _ _ _ _ _ us hl => match us, hl with | [_], _ => rfl
  have F_law_draw := fun_mk (st := s_law_draw) l_law_draw c_law_draw k_law_draw
  have b_law_draw := F_law_draw.binds (ps := ["state", "many"]) fun _ _ _ _ _ _ us hl => match us, hl with | [_, _], _ => rfl
  have F_law_pick := fun_mk (st := s_law_pick) l_law_pick c_law_pick k_law_pick
  have b_law_pick := F_law_pick.binds (ps := ["state", "row"]) fun _ _ _ _ _ _ us hl => match us, hl with | [_, _], _ => rfl
  have F_law_arrives := fun_mk (st := s_law_arrives) l_law_arrives c_law_arrives k_law_arrives
  have b_law_arrives := F_law_arrives.binds (ps := ["queue", "world", "byte", "tick"]) fun _ _ _ _ _ _ us hl => match us, hl with | [_, _, _, _], _ => rfl
  have F_law_close := fun_mk (st := s_law_close) l_law_close c_law_close k_law_close
  have b_law_close := F_law_close.binds (ps := ["world", "lost"]) fun _ _ _ _ _ _ us hl => match us, hl with | [_, _], _ => rfl
  have F_law_steps := fun_mk (st := s_law_steps) l_law_steps c_law_steps k_law_steps
  have b_law_steps := F_law_steps.binds (ps := ["receiver", "world", "size", "now"]) fun _ _ _ _ _ _ us hl => match us, hl with | [_, _, _, _], _ => rfl
  have F_law_idles := fun_mk (st := s_law_idles) l_law_idles c_law_idles k_law_idles
  have b_law_idles := F_law_idles.binds (ps := ["receiver", "world", "idle", "now"]) fun _ _ _ _ _ _ us hl => match us, hl with | [_, _, _, _], _ => rfl
  have F_law_agrees := fun_mk (st := s_law_agrees) l_law_agrees c_law_agrees k_law_agrees
  have b_law_agrees := F_law_agrees.binds (ps := ["receiver", "queue", "ring", "world"]) fun _ _ _ _ _ _ us hl => match us, hl with | [_, _, _, _], _ => rfl
  have F_law_changes := fun_mk (st := s_law_changes) l_law_changes c_law_changes k_law_changes
  have b_law_changes := F_law_changes.binds (ps := ["state", "queue", "ring", "world", "slots", "now"]) fun _ _ _ _ _ _ us hl => match us, hl with | [_, _, _, _, _, _], _ => rfl
  have F_law := fun_mk (st := s_law) l_law c_law k_law
  have b_law := F_law.binds (ps := ["script"]) fun _ _ _ _ _ _ us hl => match us, hl with | [_], _ => rfl
  let a : Ads := { C_Receiver := C_Receiver, C_TickringsError := C_TickringsError, C_RingError := C_RingError, C_Ring := C_Ring, C_ReceiveQueue := C_ReceiveQueue, C_SlotRing := C_SlotRing, f_wall := f_wall, f_lost_mark := f_lost_mark, f_is_mark := f_is_mark, f_lost_by := f_lost_by, f_joined := f_joined, f_bytes_among := f_bytes_among, f_Receiver_init := f_Receiver_init, f_Receiver_can_step := f_Receiver_can_step, f_Receiver_step := f_Receiver_step, f_Receiver_close_idle := f_Receiver_close_idle, f_Receiver_add := f_Receiver_add, f_RingError_init := f_RingError_init, f_Ring_init := f_Ring_init, f_Ring_held := f_Ring_held, f_Ring_is_full := f_Ring_is_full, f_Ring_put := f_Ring_put, f_Ring_first := f_Ring_first, f_Ring_take := f_Ring_take, f_Ring_listed := f_Ring_listed, f_Ring_next := f_Ring_next, f_ReceiveQueue_init := f_ReceiveQueue_init, f_ReceiveQueue_arrive := f_ReceiveQueue_arrive, f_ReceiveQueue_first := f_ReceiveQueue_first, f_ReceiveQueue_take := f_ReceiveQueue_take, f_ReceiveQueue_oldest_tick := f_ReceiveQueue_oldest_tick, f_ReceiveQueue_bytes_held := f_ReceiveQueue_bytes_held, f_ReceiveQueue_contents := f_ReceiveQueue_contents, f_ReceiveQueue_append := f_ReceiveQueue_append, f_ReceiveQueue_lose := f_ReceiveQueue_lose, f_copied := f_copied, f_SlotRing_init := f_SlotRing_init, f_SlotRing_can_arm := f_SlotRing_can_arm, f_SlotRing_arm := f_SlotRing_arm, f_SlotRing_open_slot := f_SlotRing_open_slot, f_SlotRing_open_bytes := f_SlotRing_open_bytes, f_SlotRing_open_count := f_SlotRing_open_count, f_SlotRing_add := f_SlotRing_add, f_SlotRing_close := f_SlotRing_close, f_SlotRing_oldest := f_SlotRing_oldest, f_SlotRing_reap := f_SlotRing_reap, f_SlotRing_filled_slots := f_SlotRing_filled_slots, f_SlotRing_buffers := f_SlotRing_buffers, f_law_state := f_law_state, f_law_draw := f_law_draw, f_law_pick := f_law_pick, f_law_arrives := f_law_arrives, f_law_close := f_law_close, f_law_steps := f_law_steps, f_law_idles := f_law_idles, f_law_agrees := f_law_agrees, f_law_changes := f_law_changes, f_law := f_law, fd_wall := (PySem.W.fnOf "_wall" "_wall" (defArgs s_wall) (defBody s_wall) (defScope s_wall) .none kV_wall dc_wall pm_wall an_wall cd_wall ct_wall), fd_lost_mark := (PySem.W.fnOf "lost_mark" "lost_mark" (defArgs s_lost_mark) (defBody s_lost_mark) (defScope s_lost_mark) .none kV_lost_mark dc_lost_mark pm_lost_mark an_lost_mark cd_lost_mark ct_lost_mark), fd_is_mark := (PySem.W.fnOf "is_mark" "is_mark" (defArgs s_is_mark) (defBody s_is_mark) (defScope s_is_mark) .none kV_is_mark dc_is_mark pm_is_mark an_is_mark cd_is_mark ct_is_mark), fd_lost_by := (PySem.W.fnOf "lost_by" "lost_by" (defArgs s_lost_by) (defBody s_lost_by) (defScope s_lost_by) .none kV_lost_by dc_lost_by pm_lost_by an_lost_by cd_lost_by ct_lost_by), fd_joined := (PySem.W.fnOf "joined" "joined" (defArgs s_joined) (defBody s_joined) (defScope s_joined) .none kV_joined dc_joined pm_joined an_joined cd_joined ct_joined), fd_bytes_among := (PySem.W.fnOf "bytes_among" "bytes_among" (defArgs s_bytes_among) (defBody s_bytes_among) (defScope s_bytes_among) .none kV_bytes_among dc_bytes_among pm_bytes_among an_bytes_among cd_bytes_among ct_bytes_among), fd_Receiver_init := (PySem.W.fnOf "__init__" "Receiver.__init__" (defArgs s_Receiver_init) (defBody s_Receiver_init) (defScope s_Receiver_init) .none kV_Receiver_init dc_Receiver_init pm_Receiver_init an_Receiver_init cd_Receiver_init ct_Receiver_init), fd_Receiver_can_step := (PySem.W.fnOf "can_step" "Receiver.can_step" (defArgs s_Receiver_can_step) (defBody s_Receiver_can_step) (defScope s_Receiver_can_step) .none kV_Receiver_can_step dc_Receiver_can_step pm_Receiver_can_step an_Receiver_can_step cd_Receiver_can_step ct_Receiver_can_step), fd_Receiver_step := (PySem.W.fnOf "step" "Receiver.step" (defArgs s_Receiver_step) (defBody s_Receiver_step) (defScope s_Receiver_step) .none kV_Receiver_step dc_Receiver_step pm_Receiver_step an_Receiver_step cd_Receiver_step ct_Receiver_step), fd_Receiver_close_idle := (PySem.W.fnOf "close_idle" "Receiver.close_idle" (defArgs s_Receiver_close_idle) (defBody s_Receiver_close_idle) (defScope s_Receiver_close_idle) .none kV_Receiver_close_idle dc_Receiver_close_idle pm_Receiver_close_idle an_Receiver_close_idle cd_Receiver_close_idle ct_Receiver_close_idle), fd_Receiver_add := (PySem.W.fnOf "_add" "Receiver._add" (defArgs s_Receiver_add) (defBody s_Receiver_add) (defScope s_Receiver_add) .none kV_Receiver_add dc_Receiver_add pm_Receiver_add an_Receiver_add cd_Receiver_add ct_Receiver_add), fd_RingError_init := (PySem.W.fnX "__init__" "RingError.__init__" (defArgs s_RingError_init) (defBody s_RingError_init) (defScope s_RingError_init) [("__class__", cc_RingError)] .none kV_RingError_init dc_RingError_init pm_RingError_init an_RingError_init (.ref cda_RingError) ct_RingError_init), fd_Ring_init := (PySem.W.fnOf "__init__" "Ring.__init__" (defArgs s_Ring_init) (defBody s_Ring_init) (defScope s_Ring_init) .none kV_Ring_init dc_Ring_init pm_Ring_init an_Ring_init cd_Ring_init ct_Ring_init), fd_Ring_held := (PySem.W.fnOf "held" "Ring.held" (defArgs s_Ring_held) (defBody s_Ring_held) (defScope s_Ring_held) .none kV_Ring_held dc_Ring_held pm_Ring_held an_Ring_held cd_Ring_held ct_Ring_held), fd_Ring_is_full := (PySem.W.fnOf "is_full" "Ring.is_full" (defArgs s_Ring_is_full) (defBody s_Ring_is_full) (defScope s_Ring_is_full) .none kV_Ring_is_full dc_Ring_is_full pm_Ring_is_full an_Ring_is_full cd_Ring_is_full ct_Ring_is_full), fd_Ring_put := (PySem.W.fnOf "put" "Ring.put" (defArgs s_Ring_put) (defBody s_Ring_put) (defScope s_Ring_put) .none kV_Ring_put dc_Ring_put pm_Ring_put an_Ring_put cd_Ring_put ct_Ring_put), fd_Ring_first := (PySem.W.fnOf "first" "Ring.first" (defArgs s_Ring_first) (defBody s_Ring_first) (defScope s_Ring_first) .none kV_Ring_first dc_Ring_first pm_Ring_first an_Ring_first cd_Ring_first ct_Ring_first), fd_Ring_take := (PySem.W.fnOf "take" "Ring.take" (defArgs s_Ring_take) (defBody s_Ring_take) (defScope s_Ring_take) .none kV_Ring_take dc_Ring_take pm_Ring_take an_Ring_take cd_Ring_take ct_Ring_take), fd_Ring_listed := (PySem.W.fnOf "listed" "Ring.listed" (defArgs s_Ring_listed) (defBody s_Ring_listed) (defScope s_Ring_listed) .none kV_Ring_listed dc_Ring_listed pm_Ring_listed an_Ring_listed cd_Ring_listed ct_Ring_listed), fd_Ring_next := (PySem.W.fnOf "_next" "Ring._next" (defArgs s_Ring_next) (defBody s_Ring_next) (defScope s_Ring_next) .none kV_Ring_next dc_Ring_next pm_Ring_next an_Ring_next cd_Ring_next ct_Ring_next), fd_ReceiveQueue_init := (PySem.W.fnOf "__init__" "ReceiveQueue.__init__" (defArgs s_ReceiveQueue_init) (defBody s_ReceiveQueue_init) (defScope s_ReceiveQueue_init) .none kV_ReceiveQueue_init dc_ReceiveQueue_init pm_ReceiveQueue_init an_ReceiveQueue_init cd_ReceiveQueue_init ct_ReceiveQueue_init), fd_ReceiveQueue_arrive := (PySem.W.fnOf "arrive" "ReceiveQueue.arrive" (defArgs s_ReceiveQueue_arrive) (defBody s_ReceiveQueue_arrive) (defScope s_ReceiveQueue_arrive) .none kV_ReceiveQueue_arrive dc_ReceiveQueue_arrive pm_ReceiveQueue_arrive an_ReceiveQueue_arrive cd_ReceiveQueue_arrive ct_ReceiveQueue_arrive), fd_ReceiveQueue_first := (PySem.W.fnOf "first" "ReceiveQueue.first" (defArgs s_ReceiveQueue_first) (defBody s_ReceiveQueue_first) (defScope s_ReceiveQueue_first) .none kV_ReceiveQueue_first dc_ReceiveQueue_first pm_ReceiveQueue_first an_ReceiveQueue_first cd_ReceiveQueue_first ct_ReceiveQueue_first), fd_ReceiveQueue_take := (PySem.W.fnOf "take" "ReceiveQueue.take" (defArgs s_ReceiveQueue_take) (defBody s_ReceiveQueue_take) (defScope s_ReceiveQueue_take) .none kV_ReceiveQueue_take dc_ReceiveQueue_take pm_ReceiveQueue_take an_ReceiveQueue_take cd_ReceiveQueue_take ct_ReceiveQueue_take), fd_ReceiveQueue_oldest_tick := (PySem.W.fnOf "oldest_tick" "ReceiveQueue.oldest_tick" (defArgs s_ReceiveQueue_oldest_tick) (defBody s_ReceiveQueue_oldest_tick) (defScope s_ReceiveQueue_oldest_tick) .none kV_ReceiveQueue_oldest_tick dc_ReceiveQueue_oldest_tick pm_ReceiveQueue_oldest_tick an_ReceiveQueue_oldest_tick cd_ReceiveQueue_oldest_tick ct_ReceiveQueue_oldest_tick), fd_ReceiveQueue_bytes_held := (PySem.W.fnOf "bytes_held" "ReceiveQueue.bytes_held" (defArgs s_ReceiveQueue_bytes_held) (defBody s_ReceiveQueue_bytes_held) (defScope s_ReceiveQueue_bytes_held) .none kV_ReceiveQueue_bytes_held dc_ReceiveQueue_bytes_held pm_ReceiveQueue_bytes_held an_ReceiveQueue_bytes_held cd_ReceiveQueue_bytes_held ct_ReceiveQueue_bytes_held), fd_ReceiveQueue_contents := (PySem.W.fnOf "contents" "ReceiveQueue.contents" (defArgs s_ReceiveQueue_contents) (defBody s_ReceiveQueue_contents) (defScope s_ReceiveQueue_contents) .none kV_ReceiveQueue_contents dc_ReceiveQueue_contents pm_ReceiveQueue_contents an_ReceiveQueue_contents cd_ReceiveQueue_contents ct_ReceiveQueue_contents), fd_ReceiveQueue_append := (PySem.W.fnOf "_append" "ReceiveQueue._append" (defArgs s_ReceiveQueue_append) (defBody s_ReceiveQueue_append) (defScope s_ReceiveQueue_append) .none kV_ReceiveQueue_append dc_ReceiveQueue_append pm_ReceiveQueue_append an_ReceiveQueue_append cd_ReceiveQueue_append ct_ReceiveQueue_append), fd_ReceiveQueue_lose := (PySem.W.fnOf "_lose" "ReceiveQueue._lose" (defArgs s_ReceiveQueue_lose) (defBody s_ReceiveQueue_lose) (defScope s_ReceiveQueue_lose) .none kV_ReceiveQueue_lose dc_ReceiveQueue_lose pm_ReceiveQueue_lose an_ReceiveQueue_lose cd_ReceiveQueue_lose ct_ReceiveQueue_lose), fd_copied := (PySem.W.fnOf "_copied" "_copied" (defArgs s_copied) (defBody s_copied) (defScope s_copied) .none kV_copied dc_copied pm_copied an_copied cd_copied ct_copied), fd_SlotRing_init := (PySem.W.fnOf "__init__" "SlotRing.__init__" (defArgs s_SlotRing_init) (defBody s_SlotRing_init) (defScope s_SlotRing_init) .none kV_SlotRing_init dc_SlotRing_init pm_SlotRing_init an_SlotRing_init cd_SlotRing_init ct_SlotRing_init), fd_SlotRing_can_arm := (PySem.W.fnOf "can_arm" "SlotRing.can_arm" (defArgs s_SlotRing_can_arm) (defBody s_SlotRing_can_arm) (defScope s_SlotRing_can_arm) .none kV_SlotRing_can_arm dc_SlotRing_can_arm pm_SlotRing_can_arm an_SlotRing_can_arm cd_SlotRing_can_arm ct_SlotRing_can_arm), fd_SlotRing_arm := (PySem.W.fnOf "arm" "SlotRing.arm" (defArgs s_SlotRing_arm) (defBody s_SlotRing_arm) (defScope s_SlotRing_arm) .none kV_SlotRing_arm dc_SlotRing_arm pm_SlotRing_arm an_SlotRing_arm cd_SlotRing_arm ct_SlotRing_arm), fd_SlotRing_open_slot := (PySem.W.fnOf "open_slot" "SlotRing.open_slot" (defArgs s_SlotRing_open_slot) (defBody s_SlotRing_open_slot) (defScope s_SlotRing_open_slot) .none kV_SlotRing_open_slot dc_SlotRing_open_slot pm_SlotRing_open_slot an_SlotRing_open_slot cd_SlotRing_open_slot ct_SlotRing_open_slot), fd_SlotRing_open_bytes := (PySem.W.fnOf "open_bytes" "SlotRing.open_bytes" (defArgs s_SlotRing_open_bytes) (defBody s_SlotRing_open_bytes) (defScope s_SlotRing_open_bytes) .none kV_SlotRing_open_bytes dc_SlotRing_open_bytes pm_SlotRing_open_bytes an_SlotRing_open_bytes cd_SlotRing_open_bytes ct_SlotRing_open_bytes), fd_SlotRing_open_count := (PySem.W.fnOf "open_count" "SlotRing.open_count" (defArgs s_SlotRing_open_count) (defBody s_SlotRing_open_count) (defScope s_SlotRing_open_count) .none kV_SlotRing_open_count dc_SlotRing_open_count pm_SlotRing_open_count an_SlotRing_open_count cd_SlotRing_open_count ct_SlotRing_open_count), fd_SlotRing_add := (PySem.W.fnOf "add" "SlotRing.add" (defArgs s_SlotRing_add) (defBody s_SlotRing_add) (defScope s_SlotRing_add) .none kV_SlotRing_add dc_SlotRing_add pm_SlotRing_add an_SlotRing_add cd_SlotRing_add ct_SlotRing_add), fd_SlotRing_close := (PySem.W.fnOf "close" "SlotRing.close" (defArgs s_SlotRing_close) (defBody s_SlotRing_close) (defScope s_SlotRing_close) .none kV_SlotRing_close dc_SlotRing_close pm_SlotRing_close an_SlotRing_close cd_SlotRing_close ct_SlotRing_close), fd_SlotRing_oldest := (PySem.W.fnOf "oldest" "SlotRing.oldest" (defArgs s_SlotRing_oldest) (defBody s_SlotRing_oldest) (defScope s_SlotRing_oldest) .none kV_SlotRing_oldest dc_SlotRing_oldest pm_SlotRing_oldest an_SlotRing_oldest cd_SlotRing_oldest ct_SlotRing_oldest), fd_SlotRing_reap := (PySem.W.fnOf "reap" "SlotRing.reap" (defArgs s_SlotRing_reap) (defBody s_SlotRing_reap) (defScope s_SlotRing_reap) .none kV_SlotRing_reap dc_SlotRing_reap pm_SlotRing_reap an_SlotRing_reap cd_SlotRing_reap ct_SlotRing_reap), fd_SlotRing_filled_slots := (PySem.W.fnOf "filled_slots" "SlotRing.filled_slots" (defArgs s_SlotRing_filled_slots) (defBody s_SlotRing_filled_slots) (defScope s_SlotRing_filled_slots) .none kV_SlotRing_filled_slots dc_SlotRing_filled_slots pm_SlotRing_filled_slots an_SlotRing_filled_slots cd_SlotRing_filled_slots ct_SlotRing_filled_slots), fd_SlotRing_buffers := (PySem.W.fnOf "buffers" "SlotRing.buffers" (defArgs s_SlotRing_buffers) (defBody s_SlotRing_buffers) (defScope s_SlotRing_buffers) .none kV_SlotRing_buffers dc_SlotRing_buffers pm_SlotRing_buffers an_SlotRing_buffers cd_SlotRing_buffers ct_SlotRing_buffers), fd_law_state := (PySem.W.fnOf "_law_state" "_law_state" (defArgs s_law_state) (defBody s_law_state) (defScope s_law_state) .none kV_law_state dc_law_state pm_law_state an_law_state cd_law_state ct_law_state), fd_law_draw := (PySem.W.fnOf "_law_draw" "_law_draw" (defArgs s_law_draw) (defBody s_law_draw) (defScope s_law_draw) .none kV_law_draw dc_law_draw pm_law_draw an_law_draw cd_law_draw ct_law_draw), fd_law_pick := (PySem.W.fnOf "_law_pick" "_law_pick" (defArgs s_law_pick) (defBody s_law_pick) (defScope s_law_pick) .none kV_law_pick dc_law_pick pm_law_pick an_law_pick cd_law_pick ct_law_pick), fd_law_arrives := (PySem.W.fnOf "_law_arrives" "_law_arrives" (defArgs s_law_arrives) (defBody s_law_arrives) (defScope s_law_arrives) .none kV_law_arrives dc_law_arrives pm_law_arrives an_law_arrives cd_law_arrives ct_law_arrives), fd_law_close := (PySem.W.fnOf "_law_close" "_law_close" (defArgs s_law_close) (defBody s_law_close) (defScope s_law_close) .none kV_law_close dc_law_close pm_law_close an_law_close cd_law_close ct_law_close), fd_law_steps := (PySem.W.fnOf "_law_steps" "_law_steps" (defArgs s_law_steps) (defBody s_law_steps) (defScope s_law_steps) .none kV_law_steps dc_law_steps pm_law_steps an_law_steps cd_law_steps ct_law_steps), fd_law_idles := (PySem.W.fnOf "_law_idles" "_law_idles" (defArgs s_law_idles) (defBody s_law_idles) (defScope s_law_idles) .none kV_law_idles dc_law_idles pm_law_idles an_law_idles cd_law_idles ct_law_idles), fd_law_agrees := (PySem.W.fnOf "_law_agrees" "_law_agrees" (defArgs s_law_agrees) (defBody s_law_agrees) (defScope s_law_agrees) .none kV_law_agrees dc_law_agrees pm_law_agrees an_law_agrees cd_law_agrees ct_law_agrees), fd_law_changes := (PySem.W.fnOf "_law_changes" "_law_changes" (defArgs s_law_changes) (defBody s_law_changes) (defScope s_law_changes) .none kV_law_changes dc_law_changes pm_law_changes an_law_changes cd_law_changes ct_law_changes), fd_law := (PySem.W.fnOf "law" "law" (defArgs s_law) (defBody s_law) (defScope s_law) .none kV_law dc_law pm_law an_law cd_law ct_law) }
  refine ⟨a.fd_law, fun s v => .of_eq rfl, fun base hKb hGb => ?_⟩
  have E_RingError : ErrC l.prog K mg C_RingError := ⟨⟨⟨nm_RingError, qn_RingError, N_RingError, bs_RingError, bm_RingError, sn_RingError, sub_RingError, ab_RingError, col_RingError, dd_RingError, k0_RingError, k1_RingError, k2_RingError, k3_RingError, k5_RingError, x_RingError, hbm_RingError⟩, sa_RingError, ex_RingError, ty_RingError, kp_RingError⟩, su_RingError, ve_RingError, op_RingError, sm_RingError, PySem.W.mg_none_of X G z_super, by rw [hl]; decide +kernel⟩
  have J_RingError : ErrI l.prog K C_RingError cc_RingError cda_RingError f_RingError_init "__init__" "RingError.__init__" (defArgs s_RingError_init) (defBody s_RingError_init) (defScope s_RingError_init) a.fd_RingError_init := ⟨⟨_, _, _, _, _, _, _, _, _, rfl, l_RingError_init⟩, c_RingError_init, ⟨_, _, _, ce_RingError⟩, ⟨_, _, _, _, _, _, co_RingError, cv_RingError, by rw [hl]; exact cf_RingError⟩⟩
  have O_RingError : FnOk l.prog w K mg base CX0 1 f_RingError_init a.fd_RingError_init ["self", "held"] (spErr C_RingError "held") :=
    okErr E_RingError no_RingError J_RingError sc_RingError_init rfl rfl (by decide +kernel) (by decide +kernel) (by decide +kernel) (fun _ => rfl) (fun _ => rfl) (fun _ => rfl) (fun _ => rfl) (fun X hN hv => (pe_joined (.cons pe_str (.cons (pe_fmt (pv 1 hN hv)) (.cons pe_str .nil))))) (te3 (by decide +kernel) (by decide +kernel))
  have B_RingError : Binds K a.fd_RingError_init ["self", "held"] [] := .all fun us hl => match us, hl with | [_, _], _ => rfl
  have K_RingError : EK l.prog w K mg base "RingError" "held" C_RingError f_RingError_init a.fd_RingError_init ["self", "held"] := ⟨E_RingError, PySem.W.mg_of X G gC_RingError, ic_RingError, ti_RingError, O_RingError, B_RingError, no_RingError, ⟨ga_RingError, gg_RingError, ex_RingError, hd_RingError⟩, ⟨ga_RingError, gg_RingError, ex_RingError, hd_RingError, ha_RingError, hn_RingError, ht_RingError, hm_RingError⟩, ow_RingError⟩
  have T : Txt l.prog w K mg base a := {
    g_abs := PySem.W.mg_none_of X G z_abs,
    g_bool := PySem.W.mg_none_of X G z_bool,
    g_int := PySem.W.mg_none_of X G z_int,
    g_isinstance := PySem.W.mg_none_of X G z_isinstance,
    g_len := PySem.W.mg_none_of X G z_len,
    g_list := PySem.W.mg_none_of X G z_list,
    g_range := PySem.W.mg_none_of X G z_range,
    g_tuple := PySem.W.mg_none_of X G z_tuple,
    F_wall := F_wall,
    b_wall := b_wall,
    g_wall := PySem.W.mg_of X G a_wall,
    F_lost_mark := F_lost_mark,
    b_lost_mark := b_lost_mark,
    g_lost_mark := PySem.W.mg_of X G a_lost_mark,
    F_is_mark := F_is_mark,
    b_is_mark := b_is_mark,
    g_is_mark := PySem.W.mg_of X G a_is_mark,
    F_lost_by := F_lost_by,
    b_lost_by := b_lost_by,
    g_lost_by := PySem.W.mg_of X G a_lost_by,
    F_joined := F_joined,
    b_joined := b_joined,
    g_joined := PySem.W.mg_of X G a_joined,
    F_bytes_among := F_bytes_among,
    b_bytes_among := b_bytes_among,
    g_bytes_among := PySem.W.mg_of X G a_bytes_among,
    F_Receiver_init := F_Receiver_init,
    b_Receiver_init := b_Receiver_init,
    mk_Receiver := ⟨mk_Receiver, a_Receiver_init, i_Receiver_init, kc_Receiver⟩,
    F_Receiver_can_step := F_Receiver_can_step,
    b_Receiver_can_step := b_Receiver_can_step,
    m_Receiver_can_step := ⟨a_Receiver_can_step, i_Receiver_can_step, k_Receiver_can_step⟩,
    F_Receiver_step := F_Receiver_step,
    b_Receiver_step := b_Receiver_step,
    m_Receiver_step := ⟨a_Receiver_step, i_Receiver_step, k_Receiver_step⟩,
    F_Receiver_close_idle := F_Receiver_close_idle,
    b_Receiver_close_idle := b_Receiver_close_idle,
    m_Receiver_close_idle := ⟨a_Receiver_close_idle, i_Receiver_close_idle, k_Receiver_close_idle⟩,
    F_Receiver_add := F_Receiver_add,
    b_Receiver_add := b_Receiver_add,
    m_Receiver_add := ⟨a_Receiver_add, i_Receiver_add, k_Receiver_add⟩,
    F_Ring_init := F_Ring_init,
    b_Ring_init := b_Ring_init,
    mk_Ring := ⟨mk_Ring, a_Ring_init, i_Ring_init, kc_Ring⟩,
    F_Ring_held := F_Ring_held,
    b_Ring_held := b_Ring_held,
    m_Ring_held := ⟨a_Ring_held, i_Ring_held, k_Ring_held⟩,
    F_Ring_is_full := F_Ring_is_full,
    b_Ring_is_full := b_Ring_is_full,
    m_Ring_is_full := ⟨a_Ring_is_full, i_Ring_is_full, k_Ring_is_full⟩,
    F_Ring_put := F_Ring_put,
    b_Ring_put := b_Ring_put,
    m_Ring_put := ⟨a_Ring_put, i_Ring_put, k_Ring_put⟩,
    F_Ring_first := F_Ring_first,
    b_Ring_first := b_Ring_first,
    m_Ring_first := ⟨a_Ring_first, i_Ring_first, k_Ring_first⟩,
    F_Ring_take := F_Ring_take,
    b_Ring_take := b_Ring_take,
    m_Ring_take := ⟨a_Ring_take, i_Ring_take, k_Ring_take⟩,
    F_Ring_listed := F_Ring_listed,
    b_Ring_listed := b_Ring_listed,
    m_Ring_listed := ⟨a_Ring_listed, i_Ring_listed, k_Ring_listed⟩,
    F_Ring_next := F_Ring_next,
    b_Ring_next := b_Ring_next,
    m_Ring_next := ⟨a_Ring_next, i_Ring_next, k_Ring_next⟩,
    F_ReceiveQueue_init := F_ReceiveQueue_init,
    b_ReceiveQueue_init := b_ReceiveQueue_init,
    mk_ReceiveQueue := ⟨mk_ReceiveQueue, a_ReceiveQueue_init, i_ReceiveQueue_init, kc_ReceiveQueue⟩,
    F_ReceiveQueue_arrive := F_ReceiveQueue_arrive,
    b_ReceiveQueue_arrive := b_ReceiveQueue_arrive,
    m_ReceiveQueue_arrive := ⟨a_ReceiveQueue_arrive, i_ReceiveQueue_arrive, k_ReceiveQueue_arrive⟩,
    F_ReceiveQueue_first := F_ReceiveQueue_first,
    b_ReceiveQueue_first := b_ReceiveQueue_first,
    m_ReceiveQueue_first := ⟨a_ReceiveQueue_first, i_ReceiveQueue_first, k_ReceiveQueue_first⟩,
    F_ReceiveQueue_take := F_ReceiveQueue_take,
    b_ReceiveQueue_take := b_ReceiveQueue_take,
    m_ReceiveQueue_take := ⟨a_ReceiveQueue_take, i_ReceiveQueue_take, k_ReceiveQueue_take⟩,
    F_ReceiveQueue_oldest_tick := F_ReceiveQueue_oldest_tick,
    b_ReceiveQueue_oldest_tick := b_ReceiveQueue_oldest_tick,
    m_ReceiveQueue_oldest_tick := ⟨a_ReceiveQueue_oldest_tick, i_ReceiveQueue_oldest_tick, k_ReceiveQueue_oldest_tick⟩,
    F_ReceiveQueue_bytes_held := F_ReceiveQueue_bytes_held,
    b_ReceiveQueue_bytes_held := b_ReceiveQueue_bytes_held,
    m_ReceiveQueue_bytes_held := ⟨a_ReceiveQueue_bytes_held, i_ReceiveQueue_bytes_held, k_ReceiveQueue_bytes_held⟩,
    F_ReceiveQueue_contents := F_ReceiveQueue_contents,
    b_ReceiveQueue_contents := b_ReceiveQueue_contents,
    m_ReceiveQueue_contents := ⟨a_ReceiveQueue_contents, i_ReceiveQueue_contents, k_ReceiveQueue_contents⟩,
    F_ReceiveQueue_append := F_ReceiveQueue_append,
    b_ReceiveQueue_append := b_ReceiveQueue_append,
    m_ReceiveQueue_append := ⟨a_ReceiveQueue_append, i_ReceiveQueue_append, k_ReceiveQueue_append⟩,
    F_ReceiveQueue_lose := F_ReceiveQueue_lose,
    b_ReceiveQueue_lose := b_ReceiveQueue_lose,
    m_ReceiveQueue_lose := ⟨a_ReceiveQueue_lose, i_ReceiveQueue_lose, k_ReceiveQueue_lose⟩,
    F_copied := F_copied,
    b_copied := b_copied,
    g_copied := PySem.W.mg_of X G a_copied,
    F_SlotRing_init := F_SlotRing_init,
    b_SlotRing_init := b_SlotRing_init,
    mk_SlotRing := ⟨mk_SlotRing, a_SlotRing_init, i_SlotRing_init, kc_SlotRing⟩,
    F_SlotRing_can_arm := F_SlotRing_can_arm,
    b_SlotRing_can_arm := b_SlotRing_can_arm,
    m_SlotRing_can_arm := ⟨a_SlotRing_can_arm, i_SlotRing_can_arm, k_SlotRing_can_arm⟩,
    F_SlotRing_arm := F_SlotRing_arm,
    b_SlotRing_arm := b_SlotRing_arm,
    m_SlotRing_arm := ⟨a_SlotRing_arm, i_SlotRing_arm, k_SlotRing_arm⟩,
    F_SlotRing_open_slot := F_SlotRing_open_slot,
    b_SlotRing_open_slot := b_SlotRing_open_slot,
    m_SlotRing_open_slot := ⟨a_SlotRing_open_slot, i_SlotRing_open_slot, k_SlotRing_open_slot⟩,
    F_SlotRing_open_bytes := F_SlotRing_open_bytes,
    b_SlotRing_open_bytes := b_SlotRing_open_bytes,
    m_SlotRing_open_bytes := ⟨a_SlotRing_open_bytes, i_SlotRing_open_bytes, k_SlotRing_open_bytes⟩,
    F_SlotRing_open_count := F_SlotRing_open_count,
    b_SlotRing_open_count := b_SlotRing_open_count,
    m_SlotRing_open_count := ⟨a_SlotRing_open_count, i_SlotRing_open_count, k_SlotRing_open_count⟩,
    F_SlotRing_add := F_SlotRing_add,
    b_SlotRing_add := b_SlotRing_add,
    m_SlotRing_add := ⟨a_SlotRing_add, i_SlotRing_add, k_SlotRing_add⟩,
    F_SlotRing_close := F_SlotRing_close,
    b_SlotRing_close := b_SlotRing_close,
    m_SlotRing_close := ⟨a_SlotRing_close, i_SlotRing_close, k_SlotRing_close⟩,
    F_SlotRing_oldest := F_SlotRing_oldest,
    b_SlotRing_oldest := b_SlotRing_oldest,
    m_SlotRing_oldest := ⟨a_SlotRing_oldest, i_SlotRing_oldest, k_SlotRing_oldest⟩,
    F_SlotRing_reap := F_SlotRing_reap,
    b_SlotRing_reap := b_SlotRing_reap,
    m_SlotRing_reap := ⟨a_SlotRing_reap, i_SlotRing_reap, k_SlotRing_reap⟩,
    F_SlotRing_filled_slots := F_SlotRing_filled_slots,
    b_SlotRing_filled_slots := b_SlotRing_filled_slots,
    m_SlotRing_filled_slots := ⟨a_SlotRing_filled_slots, i_SlotRing_filled_slots, k_SlotRing_filled_slots⟩,
    F_SlotRing_buffers := F_SlotRing_buffers,
    b_SlotRing_buffers := b_SlotRing_buffers,
    m_SlotRing_buffers := ⟨a_SlotRing_buffers, i_SlotRing_buffers, k_SlotRing_buffers⟩,
    F_law_state := F_law_state,
    b_law_state := b_law_state,
    g_law_state := PySem.W.mg_of X G a_law_state,
    F_law_draw := F_law_draw,
    b_law_draw := b_law_draw,
    g_law_draw := PySem.W.mg_of X G a_law_draw,
    F_law_pick := F_law_pick,
    b_law_pick := b_law_pick,
    g_law_pick := PySem.W.mg_of X G a_law_pick,
    F_law_arrives := F_law_arrives,
    b_law_arrives := b_law_arrives,
    g_law_arrives := PySem.W.mg_of X G a_law_arrives,
    F_law_close := F_law_close,
    b_law_close := b_law_close,
    g_law_close := PySem.W.mg_of X G a_law_close,
    F_law_steps := F_law_steps,
    b_law_steps := b_law_steps,
    g_law_steps := PySem.W.mg_of X G a_law_steps,
    F_law_idles := F_law_idles,
    b_law_idles := b_law_idles,
    g_law_idles := PySem.W.mg_of X G a_law_idles,
    F_law_agrees := F_law_agrees,
    b_law_agrees := b_law_agrees,
    g_law_agrees := PySem.W.mg_of X G a_law_agrees,
    F_law_changes := F_law_changes,
    b_law_changes := b_law_changes,
    g_law_changes := PySem.W.mg_of X G a_law_changes,
    F_law := F_law,
    b_law := b_law,
    g_law := PySem.W.mg_of X G a_law,
    g_Receiver := PySem.W.mg_of X G gC_Receiver,
    g_TickringsError := PySem.W.mg_of X G gC_TickringsError,
    g_RingError := PySem.W.mg_of X G gC_RingError,
    g_Ring := PySem.W.mg_of X G gC_Ring,
    g_ReceiveQueue := PySem.W.mg_of X G gC_ReceiveQueue,
    g_SlotRing := PySem.W.mg_of X G gC_SlotRing,
    cl_Receiver := ⟨pg_Receiver, hd_Receiver, po_Receiver, sa_Receiver⟩,
    n_Receiver_queue := n_Receiver_queue,
    n_Receiver_ring := n_Receiver_ring,
    n_Receiver_size := n_Receiver_size,
    n_Receiver_idle := n_Receiver_idle,
    n_Receiver_latest := n_Receiver_latest,
    cl_Ring := ⟨pg_Ring, hd_Ring, po_Ring, sa_Ring⟩,
    n_Ring_cells := n_Ring_cells,
    n_Ring_written := n_Ring_written,
    n_Ring_taken := n_Ring_taken,
    cl_ReceiveQueue := ⟨pg_ReceiveQueue, hd_ReceiveQueue, po_ReceiveQueue, sa_ReceiveQueue⟩,
    n_ReceiveQueue_capacity := n_ReceiveQueue_capacity,
    n_ReceiveQueue_items := n_ReceiveQueue_items,
    n_ReceiveQueue_ticks := n_ReceiveQueue_ticks,
    cl_SlotRing := ⟨pg_SlotRing, hd_SlotRing, po_SlotRing, sa_SlotRing⟩,
    n_SlotRing_slots := n_SlotRing_slots,
    n_SlotRing_armed := n_SlotRing_armed,
    n_SlotRing_filled := n_SlotRing_filled,
    n_SlotRing_added := n_SlotRing_added,
    e_RingError := K_RingError }
  exact FnOk.imp (ok_law T) fun vs H Q E h => h
theorem walk {l : PySem.W.OpenLaw} {q : Program} {loose : List Str} {XP : (Str → Option Value) → Heap → Prop} {YP : World → Heap → Prop} {d : DefRec} {K : Params → PySem.W.Frag} (hn : l.most = some 63) (hdf : d.params.defaults = [])
    (hY : ∀ (w : World) (h : Heap), YP w h → (K w.params).In h)
    (F : ∀ (w : World) (mg : Str → Option Value) (fa : Addr) (h : Heap), (K w.params).In h → h.Ns mainGlobals mg → mg d.name = some (.ref fa) → ∃ fd : FuncData, (∀ (s : Shared) (u : Value), BindsTo s fd ⟨[u], []⟩ [("script", u)]) ∧
      ∀ base : Heap, (K w.params).In base → base.Ns mainGlobals mg → FnOk l.prog w (K w.params) mg base (L2.CX l.prog w) 9 fa fd ["script"] (sp_law0 (K w.params))) :
    PySem.W.WalkO q loose XP YP l.row.toRowW d [] (fun f vs => PySem.call f vs) :=
  L2.walk_of (n := 63) (k := 9) (x := "script") (CX := fun w => L2.CX l.prog w) (sp := fun w => sp_law0 (K w.params)) hn (by decide) hdf ⟨rfl, by decide, by decide⟩ hY F (fun _ _ b ns hl _ hS => a1 ⟨b, ns, rfl, hS, hl, fun _ => rfl⟩) fun _ _ _ _ _ ⟨_, _, _, _, _, _, _, _, _, _, _, _, z⟩ => z
end My
open PySem PySem.W PyProof.Rows
set_option maxRecDepth 100000 in
set_option maxHeartbeats 0 in
theorem PySem.Challenge.cw_tickrings_k13_receiving_holds : PySem.Challenge.rw_tickrings_k13_receiving.Holds := by
  w_on; o_law; k_head; (case hw => w_witness2)
  k_fill
  refine My.walk (l := PySem.Challenge.rw_tickrings_k13_receiving) rfl rfl (fun w h Y => PySem.W.kIn_of Y) ?F
  case F =>
    intro w mg fa h KX G hmg
    refine' My.all_mk rfl KX G hmg ?hgC_Receiver ?hgC_TickringsError ?hgC_RingError ?hgC_Ring ?hgC_ReceiveQueue ?hgC_SlotRing ?ha_wall ?hl_wall ?hc_wall ?hk_wall ?ha_lost_mark ?hl_lost_mark ?hc_lost_mark ?hk_lost_mark ?ha_is_mark ?hl_is_mark ?hc_is_mark ?hk_is_mark ?ha_lost_by ?hl_lost_by ?hc_lost_by ?hk_lost_by ?ha_joined ?hl_joined ?hc_joined ?hk_joined ?ha_bytes_among ?hl_bytes_among ?hc_bytes_among ?hk_bytes_among ?ha_Receiver_init ?hi_Receiver_init ?hl_Receiver_init ?hc_Receiver_init ?hk_Receiver_init ?ha_Receiver_can_step ?hi_Receiver_can_step ?hl_Receiver_can_step ?hc_Receiver_can_step ?hk_Receiver_can_step ?ha_Receiver_step ?hi_Receiver_step ?hl_Receiver_step ?hc_Receiver_step ?hk_Receiver_step ?ha_Receiver_close_idle ?hi_Receiver_close_idle ?hl_Receiver_close_idle ?hc_Receiver_close_idle ?hk_Receiver_close_idle ?ha_Receiver_add ?hi_Receiver_add ?hl_Receiver_add ?hc_Receiver_add ?hk_Receiver_add ?hx_RingError ?hhbm_RingError ?hsa_RingError ?hex_RingError ?hty_RingError ?hkp_RingError ?hsu_RingError ?hve_RingError ?hop_RingError ?hsm_RingError ?hic_RingError ?hti_RingError ?hl_RingError_init ?hc_RingError_init ?hce_RingError ?hco_RingError ?hcv_RingError ?hcf_RingError ?hno_RingError ?hga_RingError ?hgg_RingError ?hhd_RingError ?hha_RingError ?hhn_RingError ?hht_RingError ?hhm_RingError ?how_RingError ?ha_Ring_init ?hi_Ring_init ?hl_Ring_init ?hc_Ring_init ?hk_Ring_init ?ha_Ring_held ?hi_Ring_held ?hl_Ring_held ?hc_Ring_held ?hk_Ring_held ?ha_Ring_is_full ?hi_Ring_is_full ?hl_Ring_is_full ?hc_Ring_is_full ?hk_Ring_is_full ?ha_Ring_put ?hi_Ring_put ?hl_Ring_put ?hc_Ring_put ?hk_Ring_put ?ha_Ring_first ?hi_Ring_first ?hl_Ring_first ?hc_Ring_first ?hk_Ring_first ?ha_Ring_take ?hi_Ring_take ?hl_Ring_take ?hc_Ring_take ?hk_Ring_take ?ha_Ring_listed ?hi_Ring_listed ?hl_Ring_listed ?hc_Ring_listed ?hk_Ring_listed ?ha_Ring_next ?hi_Ring_next ?hl_Ring_next ?hc_Ring_next ?hk_Ring_next ?ha_ReceiveQueue_init ?hi_ReceiveQueue_init ?hl_ReceiveQueue_init ?hc_ReceiveQueue_init ?hk_ReceiveQueue_init ?ha_ReceiveQueue_arrive ?hi_ReceiveQueue_arrive ?hl_ReceiveQueue_arrive ?hc_ReceiveQueue_arrive ?hk_ReceiveQueue_arrive ?ha_ReceiveQueue_first ?hi_ReceiveQueue_first ?hl_ReceiveQueue_first ?hc_ReceiveQueue_first ?hk_ReceiveQueue_first ?ha_ReceiveQueue_take ?hi_ReceiveQueue_take ?hl_ReceiveQueue_take ?hc_ReceiveQueue_take ?hk_ReceiveQueue_take ?ha_ReceiveQueue_oldest_tick ?hi_ReceiveQueue_oldest_tick ?hl_ReceiveQueue_oldest_tick ?hc_ReceiveQueue_oldest_tick ?hk_ReceiveQueue_oldest_tick ?ha_ReceiveQueue_bytes_held ?hi_ReceiveQueue_bytes_held ?hl_ReceiveQueue_bytes_held ?hc_ReceiveQueue_bytes_held ?hk_ReceiveQueue_bytes_held ?ha_ReceiveQueue_contents ?hi_ReceiveQueue_contents ?hl_ReceiveQueue_contents ?hc_ReceiveQueue_contents ?hk_ReceiveQueue_contents ?ha_ReceiveQueue_append ?hi_ReceiveQueue_append ?hl_ReceiveQueue_append ?hc_ReceiveQueue_append ?hk_ReceiveQueue_append ?ha_ReceiveQueue_lose ?hi_ReceiveQueue_lose ?hl_ReceiveQueue_lose ?hc_ReceiveQueue_lose ?hk_ReceiveQueue_lose ?ha_copied ?hl_copied ?hc_copied ?hk_copied ?ha_SlotRing_init ?hi_SlotRing_init ?hl_SlotRing_init ?hc_SlotRing_init ?hk_SlotRing_init ?ha_SlotRing_can_arm ?hi_SlotRing_can_arm ?hl_SlotRing_can_arm ?hc_SlotRing_can_arm ?hk_SlotRing_can_arm ?ha_SlotRing_arm ?hi_SlotRing_arm ?hl_SlotRing_arm ?hc_SlotRing_arm ?hk_SlotRing_arm ?ha_SlotRing_open_slot ?hi_SlotRing_open_slot ?hl_SlotRing_open_slot ?hc_SlotRing_open_slot ?hk_SlotRing_open_slot ?ha_SlotRing_open_bytes ?hi_SlotRing_open_bytes ?hl_SlotRing_open_bytes ?hc_SlotRing_open_bytes ?hk_SlotRing_open_bytes ?ha_SlotRing_open_count ?hi_SlotRing_open_count ?hl_SlotRing_open_count ?hc_SlotRing_open_count ?hk_SlotRing_open_count ?ha_SlotRing_add ?hi_SlotRing_add ?hl_SlotRing_add ?hc_SlotRing_add ?hk_SlotRing_add ?ha_SlotRing_close ?hi_SlotRing_close ?hl_SlotRing_close ?hc_SlotRing_close ?hk_SlotRing_close ?ha_SlotRing_oldest ?hi_SlotRing_oldest ?hl_SlotRing_oldest ?hc_SlotRing_oldest ?hk_SlotRing_oldest ?ha_SlotRing_reap ?hi_SlotRing_reap ?hl_SlotRing_reap ?hc_SlotRing_reap ?hk_SlotRing_reap ?ha_SlotRing_filled_slots ?hi_SlotRing_filled_slots ?hl_SlotRing_filled_slots ?hc_SlotRing_filled_slots ?hk_SlotRing_filled_slots ?ha_SlotRing_buffers ?hi_SlotRing_buffers ?hl_SlotRing_buffers ?hc_SlotRing_buffers ?hk_SlotRing_buffers ?ha_law_state ?hl_law_state ?hc_law_state ?hk_law_state ?ha_law_draw ?hl_law_draw ?hc_law_draw ?hk_law_draw ?ha_law_pick ?hl_law_pick ?hc_law_pick ?hk_law_pick ?ha_law_arrives ?hl_law_arrives ?hc_law_arrives ?hk_law_arrives ?ha_law_close ?hl_law_close ?hc_law_close ?hk_law_close ?ha_law_steps ?hl_law_steps ?hc_law_steps ?hk_law_steps ?ha_law_idles ?hl_law_idles ?hc_law_idles ?hk_law_idles ?ha_law_agrees ?hl_law_agrees ?hc_law_agrees ?hk_law_agrees ?ha_law_changes ?hl_law_changes ?hc_law_changes ?hk_law_changes ?ha_law ?hl_law ?hc_law ?hk_law ?hpg_Receiver ?hhd_Receiver ?hpo_Receiver ?hsa_Receiver ?hmk_Receiver ?hkc_Receiver ?hn_Receiver_queue ?hn_Receiver_ring ?hn_Receiver_size ?hn_Receiver_idle ?hn_Receiver_latest ?hpg_Ring ?hhd_Ring ?hpo_Ring ?hsa_Ring ?hmk_Ring ?hkc_Ring ?hn_Ring_cells ?hn_Ring_written ?hn_Ring_taken ?hpg_ReceiveQueue ?hhd_ReceiveQueue ?hpo_ReceiveQueue ?hsa_ReceiveQueue ?hmk_ReceiveQueue ?hkc_ReceiveQueue ?hn_ReceiveQueue_capacity ?hn_ReceiveQueue_items ?hn_ReceiveQueue_ticks ?hpg_SlotRing ?hhd_SlotRing ?hpo_SlotRing ?hsa_SlotRing ?hmk_SlotRing ?hkc_SlotRing ?hn_SlotRing_slots ?hn_SlotRing_armed ?hn_SlotRing_filled ?hn_SlotRing_added ?hz_abs ?hz_bool ?hz_int ?hz_isinstance ?hz_len ?hz_list ?hz_range ?hz_super ?hz_tuple
    (case hgC_Receiver => k_is)
    (case hgC_TickringsError => k_is)
    (case hgC_RingError => k_is)
    (case hgC_Ring => k_is)
    (case hgC_ReceiveQueue => k_is)
    (case hgC_SlotRing => k_is)
    (case ha_wall => k_is)
    (case hl_wall => k_is)
    (case hc_wall => k_is)
    (case hk_wall => k_is)
    (case ha_lost_mark => k_is)
    (case hl_lost_mark => k_is)
    (case hc_lost_mark => k_is)
    (case hk_lost_mark => k_is)
    (case ha_is_mark => k_is)
    (case hl_is_mark => k_is)
    (case hc_is_mark => k_is)
    (case hk_is_mark => k_is)
    (case ha_lost_by => k_is)
    (case hl_lost_by => k_is)
    (case hc_lost_by => k_is)
    (case hk_lost_by => k_is)
    (case ha_joined => k_is)
    (case hl_joined => k_is)
    (case hc_joined => k_is)
    (case hk_joined => k_is)
    (case ha_bytes_among => k_is)
    (case hl_bytes_among => k_is)
    (case hc_bytes_among => k_is)
    (case hk_bytes_among => k_is)
    (case ha_Receiver_init => k_is)
    (case hi_Receiver_init => k_is)
    (case hl_Receiver_init => k_is)
    (case hc_Receiver_init => k_is)
    (case hk_Receiver_init => k_is)
    (case ha_Receiver_can_step => k_is)
    (case hi_Receiver_can_step => k_is)
    (case hl_Receiver_can_step => k_is)
    (case hc_Receiver_can_step => k_is)
    (case hk_Receiver_can_step => k_is)
    (case ha_Receiver_step => k_is)
    (case hi_Receiver_step => k_is)
    (case hl_Receiver_step => k_is)
    (case hc_Receiver_step => k_is)
    (case hk_Receiver_step => k_is)
    (case ha_Receiver_close_idle => k_is)
    (case hi_Receiver_close_idle => k_is)
    (case hl_Receiver_close_idle => k_is)
    (case hc_Receiver_close_idle => k_is)
    (case hk_Receiver_close_idle => k_is)
    (case ha_Receiver_add => k_is)
    (case hi_Receiver_add => k_is)
    (case hl_Receiver_add => k_is)
    (case hc_Receiver_add => k_is)
    (case hk_Receiver_add => k_is)
    (case hx_RingError => k_is)
    (case hhbm_RingError => first | rfl | decide +kernel)
    (case hsa_RingError => k_is)
    (case hex_RingError => k_is)
    (case hty_RingError => k_is)
    (case hkp_RingError => k_is)
    (case hsu_RingError => ks_is)
    (case hve_RingError => k_is)
    (case hop_RingError => k_is)
    (case hsm_RingError => k_is)
    (case hic_RingError => k_is)
    (case hti_RingError => k_is)
    (case hl_RingError_init => k_is)
    (case hc_RingError_init => k_is)
    (case hce_RingError => k_is)
    (case hco_RingError => k_is)
    (case hcv_RingError => exact rfl)
    (case hcf_RingError => first | rfl | decide +kernel)
    (case hno_RingError => k_is)
    (case hga_RingError => k_is)
    (case hgg_RingError => k_is)
    (case hhd_RingError => k_is)
    (case hha_RingError => k_is)
    (case hhn_RingError => k_is)
    (case hht_RingError => k_is)
    (case hhm_RingError => k_is)
    (case how_RingError => first | k_is | rfl)
    (case ha_Ring_init => k_is)
    (case hi_Ring_init => k_is)
    (case hl_Ring_init => k_is)
    (case hc_Ring_init => k_is)
    (case hk_Ring_init => k_is)
    (case ha_Ring_held => k_is)
    (case hi_Ring_held => k_is)
    (case hl_Ring_held => k_is)
    (case hc_Ring_held => k_is)
    (case hk_Ring_held => k_is)
    (case ha_Ring_is_full => k_is)
    (case hi_Ring_is_full => k_is)
    (case hl_Ring_is_full => k_is)
    (case hc_Ring_is_full => k_is)
    (case hk_Ring_is_full => k_is)
    (case ha_Ring_put => k_is)
    (case hi_Ring_put => k_is)
    (case hl_Ring_put => k_is)
    (case hc_Ring_put => k_is)
    (case hk_Ring_put => k_is)
    (case ha_Ring_first => k_is)
    (case hi_Ring_first => k_is)
    (case hl_Ring_first => k_is)
    (case hc_Ring_first => k_is)
    (case hk_Ring_first => k_is)
    (case ha_Ring_take => k_is)
    (case hi_Ring_take => k_is)
    (case hl_Ring_take => k_is)
    (case hc_Ring_take => k_is)
    (case hk_Ring_take => k_is)
    (case ha_Ring_listed => k_is)
    (case hi_Ring_listed => k_is)
    (case hl_Ring_listed => k_is)
    (case hc_Ring_listed => k_is)
    (case hk_Ring_listed => k_is)
    (case ha_Ring_next => k_is)
    (case hi_Ring_next => k_is)
    (case hl_Ring_next => k_is)
    (case hc_Ring_next => k_is)
    (case hk_Ring_next => k_is)
    (case ha_ReceiveQueue_init => k_is)
    (case hi_ReceiveQueue_init => k_is)
    (case hl_ReceiveQueue_init => k_is)
    (case hc_ReceiveQueue_init => k_is)
    (case hk_ReceiveQueue_init => k_is)
    (case ha_ReceiveQueue_arrive => k_is)
    (case hi_ReceiveQueue_arrive => k_is)
    (case hl_ReceiveQueue_arrive => k_is)
    (case hc_ReceiveQueue_arrive => k_is)
    (case hk_ReceiveQueue_arrive => k_is)
    (case ha_ReceiveQueue_first => k_is)
    (case hi_ReceiveQueue_first => k_is)
    (case hl_ReceiveQueue_first => k_is)
    (case hc_ReceiveQueue_first => k_is)
    (case hk_ReceiveQueue_first => k_is)
    (case ha_ReceiveQueue_take => k_is)
    (case hi_ReceiveQueue_take => k_is)
    (case hl_ReceiveQueue_take => k_is)
    (case hc_ReceiveQueue_take => k_is)
    (case hk_ReceiveQueue_take => k_is)
    (case ha_ReceiveQueue_oldest_tick => k_is)
    (case hi_ReceiveQueue_oldest_tick => k_is)
    (case hl_ReceiveQueue_oldest_tick => k_is)
    (case hc_ReceiveQueue_oldest_tick => k_is)
    (case hk_ReceiveQueue_oldest_tick => k_is)
    (case ha_ReceiveQueue_bytes_held => k_is)
    (case hi_ReceiveQueue_bytes_held => k_is)
    (case hl_ReceiveQueue_bytes_held => k_is)
    (case hc_ReceiveQueue_bytes_held => k_is)
    (case hk_ReceiveQueue_bytes_held => k_is)
    (case ha_ReceiveQueue_contents => k_is)
    (case hi_ReceiveQueue_contents => k_is)
    (case hl_ReceiveQueue_contents => k_is)
    (case hc_ReceiveQueue_contents => k_is)
    (case hk_ReceiveQueue_contents => k_is)
    (case ha_ReceiveQueue_append => k_is)
    (case hi_ReceiveQueue_append => k_is)
    (case hl_ReceiveQueue_append => k_is)
    (case hc_ReceiveQueue_append => k_is)
    (case hk_ReceiveQueue_append => k_is)
    (case ha_ReceiveQueue_lose => k_is)
    (case hi_ReceiveQueue_lose => k_is)
    (case hl_ReceiveQueue_lose => k_is)
    (case hc_ReceiveQueue_lose => k_is)
    (case hk_ReceiveQueue_lose => k_is)
    (case ha_copied => k_is)
    (case hl_copied => k_is)
    (case hc_copied => k_is)
    (case hk_copied => k_is)
    (case ha_SlotRing_init => k_is)
    (case hi_SlotRing_init => k_is)
    (case hl_SlotRing_init => k_is)
    (case hc_SlotRing_init => k_is)
    (case hk_SlotRing_init => k_is)
    (case ha_SlotRing_can_arm => k_is)
    (case hi_SlotRing_can_arm => k_is)
    (case hl_SlotRing_can_arm => k_is)
    (case hc_SlotRing_can_arm => k_is)
    (case hk_SlotRing_can_arm => k_is)
    (case ha_SlotRing_arm => k_is)
    (case hi_SlotRing_arm => k_is)
    (case hl_SlotRing_arm => k_is)
    (case hc_SlotRing_arm => k_is)
    (case hk_SlotRing_arm => k_is)
    (case ha_SlotRing_open_slot => k_is)
    (case hi_SlotRing_open_slot => k_is)
    (case hl_SlotRing_open_slot => k_is)
    (case hc_SlotRing_open_slot => k_is)
    (case hk_SlotRing_open_slot => k_is)
    (case ha_SlotRing_open_bytes => k_is)
    (case hi_SlotRing_open_bytes => k_is)
    (case hl_SlotRing_open_bytes => k_is)
    (case hc_SlotRing_open_bytes => k_is)
    (case hk_SlotRing_open_bytes => k_is)
    (case ha_SlotRing_open_count => k_is)
    (case hi_SlotRing_open_count => k_is)
    (case hl_SlotRing_open_count => k_is)
    (case hc_SlotRing_open_count => k_is)
    (case hk_SlotRing_open_count => k_is)
    (case ha_SlotRing_add => k_is)
    (case hi_SlotRing_add => k_is)
    (case hl_SlotRing_add => k_is)
    (case hc_SlotRing_add => k_is)
    (case hk_SlotRing_add => k_is)
    (case ha_SlotRing_close => k_is)
    (case hi_SlotRing_close => k_is)
    (case hl_SlotRing_close => k_is)
    (case hc_SlotRing_close => k_is)
    (case hk_SlotRing_close => k_is)
    (case ha_SlotRing_oldest => k_is)
    (case hi_SlotRing_oldest => k_is)
    (case hl_SlotRing_oldest => k_is)
    (case hc_SlotRing_oldest => k_is)
    (case hk_SlotRing_oldest => k_is)
    (case ha_SlotRing_reap => k_is)
    (case hi_SlotRing_reap => k_is)
    (case hl_SlotRing_reap => k_is)
    (case hc_SlotRing_reap => k_is)
    (case hk_SlotRing_reap => k_is)
    (case ha_SlotRing_filled_slots => k_is)
    (case hi_SlotRing_filled_slots => k_is)
    (case hl_SlotRing_filled_slots => k_is)
    (case hc_SlotRing_filled_slots => k_is)
    (case hk_SlotRing_filled_slots => k_is)
    (case ha_SlotRing_buffers => k_is)
    (case hi_SlotRing_buffers => k_is)
    (case hl_SlotRing_buffers => k_is)
    (case hc_SlotRing_buffers => k_is)
    (case hk_SlotRing_buffers => k_is)
    (case ha_law_state => k_is)
    (case hl_law_state => k_is)
    (case hc_law_state => k_is)
    (case hk_law_state => k_is)
    (case ha_law_draw => k_is)
    (case hl_law_draw => k_is)
    (case hc_law_draw => k_is)
    (case hk_law_draw => k_is)
    (case ha_law_pick => k_is)
    (case hl_law_pick => k_is)
    (case hc_law_pick => k_is)
    (case hk_law_pick => k_is)
    (case ha_law_arrives => k_is)
    (case hl_law_arrives => k_is)
    (case hc_law_arrives => k_is)
    (case hk_law_arrives => k_is)
    (case ha_law_close => k_is)
    (case hl_law_close => k_is)
    (case hc_law_close => k_is)
    (case hk_law_close => k_is)
    (case ha_law_steps => k_is)
    (case hl_law_steps => k_is)
    (case hc_law_steps => k_is)
    (case hk_law_steps => k_is)
    (case ha_law_idles => k_is)
    (case hl_law_idles => k_is)
    (case hc_law_idles => k_is)
    (case hk_law_idles => k_is)
    (case ha_law_agrees => k_is)
    (case hl_law_agrees => k_is)
    (case hc_law_agrees => k_is)
    (case hk_law_agrees => k_is)
    (case ha_law_changes => k_is)
    (case hl_law_changes => k_is)
    (case hc_law_changes => k_is)
    (case hk_law_changes => k_is)
    (case ha_law => k_is)
    (case hl_law => k_is)
    (case hc_law => k_is)
    (case hk_law => k_is)
    (case hpg_Receiver => k_is)
    (case hhd_Receiver => k_is)
    (case hpo_Receiver => k_is)
    (case hsa_Receiver => k_is)
    (case hmk_Receiver => k_is)
    (case hkc_Receiver => k_is)
    (case hn_Receiver_queue => k_is)
    (case hn_Receiver_ring => k_is)
    (case hn_Receiver_size => k_is)
    (case hn_Receiver_idle => k_is)
    (case hn_Receiver_latest => k_is)
    (case hpg_Ring => k_is)
    (case hhd_Ring => k_is)
    (case hpo_Ring => k_is)
    (case hsa_Ring => k_is)
    (case hmk_Ring => k_is)
    (case hkc_Ring => k_is)
    (case hn_Ring_cells => k_is)
    (case hn_Ring_written => k_is)
    (case hn_Ring_taken => k_is)
    (case hpg_ReceiveQueue => k_is)
    (case hhd_ReceiveQueue => k_is)
    (case hpo_ReceiveQueue => k_is)
    (case hsa_ReceiveQueue => k_is)
    (case hmk_ReceiveQueue => k_is)
    (case hkc_ReceiveQueue => k_is)
    (case hn_ReceiveQueue_capacity => k_is)
    (case hn_ReceiveQueue_items => k_is)
    (case hn_ReceiveQueue_ticks => k_is)
    (case hpg_SlotRing => k_is)
    (case hhd_SlotRing => k_is)
    (case hpo_SlotRing => k_is)
    (case hsa_SlotRing => k_is)
    (case hmk_SlotRing => k_is)
    (case hkc_SlotRing => k_is)
    (case hn_SlotRing_slots => k_is)
    (case hn_SlotRing_armed => k_is)
    (case hn_SlotRing_filled => k_is)
    (case hn_SlotRing_added => k_is)
    (case hz_abs => k_is)
    (case hz_bool => k_is)
    (case hz_int => k_is)
    (case hz_isinstance => k_is)
    (case hz_len => k_is)
    (case hz_list => k_is)
    (case hz_range => k_is)
    (case hz_super => k_is)
    (case hz_tuple => k_is)
#print axioms PySem.Challenge.cw_tickrings_k13_receiving_holds
