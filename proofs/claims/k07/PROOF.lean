import PyProof.Rows.All
import Wide.All
import OpenK.AllK
import Wide.FinOn
import HandS.ForExc
import HandS.Nested
import HandS.ExcInit
import HandS.ExcField
import HandS.FStr
import HandS.MakeKwOnly
import HandS.IsInst
import HandS.ExcIs
import KE.KExcSuper
import KE.KExcIs
import HandS.ForMost
import HandS.Evl
import HandS.NoneIn
import HandS.TupAny
import HandS.Ends
import PySem.Challenge.RW_tickrings_k07_choice_of_work
set_option Elab.async false
set_option maxRecDepth 100000
set_option maxHeartbeats 4000000
set_option linter.all false
set_option autoImplicit false
/-! An own error class over another own class over ValueError, whose __init__ says super().__init__(..) and stores one field. -/
namespace Sx
open PySem PySem.Spec PyProof.Rows L2 PySem.W PySem.Calls NdefX
section
variable {prog : Program} {w : World} {A : Around} {E : Value → Shared → Prop} {h : Heap} {g : Array GenState} {d : Drawn} {t : Nat} {os : OsState}
/-- ValueError.__init__ bound to an exception, called -/
theorem call_mw {nm q : Str} {C N u e t0 : Addr} {bs bm : List Value} {hdct : Bool} {sn : List Str} {sub : List Value} {ab : Bool} {col : Option Bool} {dd : Option Addr} {k0 k1 k2 k3 k5 : Option Value} {rest : List Value} {Q : Value → Shared → Prop}
    (hC : h.get? C = some (excClassObj nm q C N bs bm hdct sn sub ab col dd k0 k1 k2 k3 k5 "ValueError.__new__")) (he : h.get? e = some (HandSPX.excO C t0)) (hu : h.get? u = some (kxs_mw "ValueError.__init__" e)) (hrest : rest.length ≤ sizeLine)
    (hq : ∀ h' t1, (∀ b o, b ≠ e → h.get? b = some o → h'.get? b = some o) → h'.get? e = some (HandSPX.excO C t1) → Q .none ⟨h', g, d, t, os⟩) :
    wpAny (model prog w) A (call (.ref u) rest) Q E ⟨h, g, d, t, os⟩ := by
  refine wpAny_call (codeAny_of_tree ?_)
  show wpAny _ A.in1 (callAny (.ref u) ⟨rest, []⟩) _ _ _
  simp only [callAny]
  refine wpAny_bind (wpAny_load hu ?_)
  simp only [kxs_mw, show (Value.type "method-wrapper" == Value.type "method" || Value.type "method-wrapper" == Value.type "builtin_function_or_method" || Value.type "method-wrapper" == Value.type "method-wrapper") = true by decide, if_true]
  refine W.KFB.if_so (by decide) ?_
  refine wpAny_bind (check_bound_init F.excBase_ValueError.toExcCallFacts hC he rfl ?_)
  refine wpAny_bind (wpAny_pure (wpAny_pure ?_))
  refine ⟨plainId_quiet F.excBase_ValueError.init.plain _, codeAny_builtin F.excBase_ValueError.initEntry ?_⟩
  exact exc_init_tree (cls := .ref C) (t0 := t0) (dv := none) (c2 := .none) (c3 := .none) (b4 := .bool false) he hrest fun h' k hx _ => hq h' _ k hx
end
/-- what the top has written of such a class -/
structure ErrC (P : Program) (K : PySem.W.Frag) (mg : Str → Option Value) (C : Addr) : Prop where
  ox : OexC K C
  sup : ks_superIn K C C "__init__" = some (some (.builtin "ValueError.__init__"))
  ve : PySem.W.subIn K (.ref C) (.type "ValueError") = some true
  op : PySem.W.nsIn K cStatics "thirdparty.any" = some none
  selfM : PySem.W.mroIn K C (.ref C) = some true
  sm : mg "super" = none
  top : (P.main.scope.names.lookup ("super" : Str)).isSome = false
/-- its __init__ -/
structure ErrI (P : Program) (K : PySem.W.Frag) (C cc cda fI : Addr) (name qual : Str) (params : Arguments) (body : List Stmt) (scope : Scope) (fd : FuncData) : Prop where
  fn : ∃ oc od osl dV kV doc pm an ct, fd = PySem.W.fnX name qual params body scope [("__class__", cc)] dV kV doc pm an (.ref cda) ct ∧ K.lookup fI = some ⟨oc, od, .func fd, osl⟩
  cd : PySem.W.codeIn K (.ref cda) qual = true
  cell : ∃ cl cld csl, K.lookup cc = some ⟨cl, cld, .cell (some (.ref C)), csl⟩
  code : ∃ ccl cdd vs ccs file tf, K.lookup cda = some ⟨ccl, cdd, .fields vs, ccs⟩ ∧ vs[2]? = some (.str file tf) ∧ ((P.main.file : Str) == file) = true
section
variable {P : Program} {w : World} {K : PySem.W.Frag} {mg : Str → Option Value} {base : Heap} {CX : CXT}
theorem fn_of_err {C cc cda f : Addr} {name qual : Str} {params : Arguments} {scope : Scope} {fd : FuncData} {ar : Arg} {N ps : List Str} {k : Nat} {sp : Sp} {p0 p1 p2 pos pos' : Pos} {e : Expr} {es : List Expr} {rest : List Stmt}
    (T : ErrC P K mg C) (I0 : ErrI P K C cc cda f name qual params (.Expr (.Call (.Attribute (.Call (.Name "super" p0) [] [] p1) "__init__" p2) (e :: es) [] pos) pos' :: rest) scope fd)
    (S : NScope N ps ["__class__"] scope) (hp : (params.posonlyargs ++ params.args).head? = some ar) (hp0 : ps[0]? = some ar.arg) (hsup : scope.names.lookup ("super" : Str) = some .globalImplicit)
    (len : ∀ vs H Q E, sp vs H Q E → vs.length = ps.length)
    (he : ∀ env, starEach (e :: es) env = (false, eval e env) :: starEach es env) (hpl : ∀ env, (backTo pos (starEach es env)).any (·.1) = false)
    {pl : Env → Sem Bool} (hmc : ∀ env : Env, eval (.Call (.Attribute (.Call (.Name "super" p0) [] [] p1) "__init__" p2) (e :: es) [] pos) env = (do
      let ov ← attributeBase (.Call (.Name "super" p0) [] [] p1) "__init__" env (eval (.Call (.Name "super" p0) [] [] p1) env)
      standAt p2.atName
      let (f, first) ← holding [ov] (getMethod ov "__init__" (pl env))
      callWith pos f first (backTo pos (starEach (e :: es) env)) []))
    (hsw : ∀ env, swapsWith (.Call (.Attribute (.Call (.Name "super" p0) [] [] p1) "__init__" p2) (e :: es) [] pos) none pos'.line env = pure false)
    (hbody : ∀ (A : Around) (outer : List Env) (s : Shared) (H : Hp) (vs : List V) (Q : VK) (E : XK), sp vs H Q E →
      ∃ ta t, PA (ncx CX P w K mg base N ⟨name, qual, params, .Expr (.Call (.Attribute (.Call (.Name "super" p0) [] [] p1) "__init__" p2) (e :: es) [] pos) pos' :: rest, scope, [("__class__", cc)], cda⟩ f A outer s H E) (e :: es) ta ∧
        PSs (ncx CX P w K mg base N ⟨name, qual, params, .Expr (.Call (.Attribute (.Call (.Name "super" p0) [] [] p1) "__init__" p2) (e :: es) [] pos) pos' :: rest, scope, [("__class__", cc)], cda⟩ f A outer s H E) rest t ∧
        ∃ a, vs[0]? = some (.ref a) ∧ H a = some (exo a C none) ∧
          ta (startF N vs [some (.ref C)]) H fun ws H1 => ws.length ≤ 1000 ∧ H1 a = some (exo a C none) ∧ t { nx := fun _ H' => Q .non H', rt := Q } (startF N vs [some (.ref C)]) H1) :
    FnOk P w K mg base CX (k + 1) f fd ps sp := by
  obtain ⟨⟨oc, od, osl, dV, kV, doc, pm, an, ct, rfl, lk⟩, hcd, ⟨cl, cld, csl, hcell⟩, ⟨ccl, cdd, vsC, ccs, file, tf, hcode, hvs, hfile⟩⟩ := I0
  refine ⟨len, fun A outer s H args us vs Q E hr e0 hb r hsp => ?_⟩
  have hl := len _ _ _ _ hsp
  have KX : K.In s.heap := e0.mod.kin.keeps fun b o e => (e0.bs b o e).1
  have lim : s.heap.NoLimit := e0.mod.nolimit.keeps fun b o e => (e0.bs b o e).1
  have C0 : CellsAt [(("__class__" : Str), cc)] ["__class__"] [some (V.ref C)] s.heap H := by
    refine ⟨rfl, fun y c q => ?_, fun x y c q1 q2 => ?_, fun i y q => ?_⟩
    · have hy : c = cc := by
        by_cases hyy : y = ("__class__" : Str)
        · subst hyy
          simpa [List.lookup] using q.symm
        · have : (y == ("__class__" : Str)) = false := by simpa using hyy
          simp [List.lookup, this] at q
      subst hy
      exact ⟨(e0.bs c _ (e0.mod.kin _ _ hcell)).2, _, ⟨_, KX _ _ hcell, rfl⟩⟩
    · have hx : x = ("__class__" : Str) := by
        by_cases hyy : x = ("__class__" : Str)
        · exact hyy
        · have : (x == ("__class__" : Str)) = false := by simpa using hyy
          simp [List.lookup, this] at q1
      have hy : y = ("__class__" : Str) := by
        by_cases hyy : y = ("__class__" : Str)
        · exact hyy
        · have : (y == ("__class__" : Str)) = false := by simpa using hyy
          simp [List.lookup, this] at q2
      rw [hx, hy]
    · match i, q with
      | 0, q =>
        have hy : ("__class__" : Str) = y := Option.some.inj q
        subst hy
        refine ⟨cc, by simp [List.lookup], fun v hv => ⟨.ref C, ?_, _, KX _ _ hcell, rfl⟩⟩
        have hv' : V.ref C = v := by simpa using hv
        subst hv'
        rfl
      | i + 1, q => simp at q
  let F : NF := ⟨name, qual, params, .Expr (.Call (.Attribute (.Call (.Name "super" p0) [] [] p1) "__init__" p2) (e :: es) [] pos) pos' :: rest, scope, [("__class__", cc)], cda⟩
  have hS : NScope N ps ["__class__"] F.scope := S
  refine ks_codeAny_call_defAt (body := F.body) (binds := ps.zip us) hr.depth (KX _ _ lk) rfl lim (codeRec_of KX hcd) rfl (hb) S.nocell (fun ⟨n, _⟩ hy => S.par n (List.of_mem_zip hy).1) (fun h₁ hns kp => ?_) S.co S.gen S.kind
  obtain ⟨ta, tb, hta, htb, a, hv0, hea, hq⟩ := hbody A outer s H vs Q E hsp
  have I : Inv (ncx CX P w K mg base N F f A outer s H E) [] (startF N vs [some (.ref C)]) H { s with heap := h₁, toks := s.toks + (ps.zip us).length } := inv_startN hS hr.hd e0 hl r C0 hns kp
  show PySem.wpAt _ (A.deeper (envF F f s.heap.objs.size)) (.func F.body (envF F f s.heap.objs.size)) (execs F.body (envF F f s.heap.objs.size)) _ _ _
  refine ks_wpAt_mono (Q := SP (ncx CX P w K mg base N F f A outer s H E) [] { nx := fun _ H' => Q .non H', rt := Q }) (ks_wpAt_execs_cons (ks_wpAt_Expr_any (ks_wpAt_MethodCall (pl := pl _) ?_ (hmc _)) (by show (scope.kind == ScopeKind.module && _) = false; rw [S.kind]; rfl) (hsw _))) (fun fl s' hs => ?_) fun e s' hs => hs
  · -- super()
    have KX1 : K.In h₁ := KX.keeps kp
    obtain ⟨nm, q, N', bs, bm, sn, sub, ab, col, dd, k0, k1, k2, k3, k5, hC, hbm⟩ := T.ox.cls
    have hcl : PySem.W.clsIn K C = some { name := nm, bases := bs, mro := .ref C :: bm, ns := N', qualname := q, hasDict := true, slotNames := sn, subclasses := sub, abstract := ab, collection := col, hasDel := false } := by unfold PySem.W.clsIn; rw [hC] <;> rfl
    obtain ⟨t1, ho⟩ := exo_at I.hok hea
    have hu0 : us[0]? = some (.ref a) := by
      obtain ⟨u, hu, ru⟩ := r.get hv0
      have : u = Value.ref a := ru
      rw [hu, this]
    have hself : (ps.zip us).reverse.lookup ar.arg = some (.ref a) := by
      have ndP : ps.Nodup := by
        have q := S.nd.sublist (List.take_sublist (ps.length + 1) N)
        have q2 := S.pre
        simp only [List.length_cons, List.length_nil, Nat.zero_add] at q2
        rw [q2] at q
        exact (List.nodup_append.mp q).1
      exact zip_look ndP hp0 hu0
    have gl : h₁.Ns mainGlobals mg := e0.mod.glob.keeps fun b o z => kp b o (e0.bs b o z).1
    obtain ⟨mb, hmb, hmbE⟩ := e0.mod.blt
    have bl : h₁.Ns builtinsNs mb := hmb.keeps fun b o z => kp b o (e0.bs b o z).1
    refine ks_wpAt_super_base (env := envF F f s.heap.objs.size) hsup (S.frk _ List.mem_cons_self) (by decide) rfl (KX1 _ _ lk) rfl hp rfl (KX1 _ _ hcode) rfl hvs hfile T.top ?_
    refine ks_loadName_global S.kind hsup (loadGlobal_builtin (env := envF F f s.heap.objs.size) gl T.sm bl ((hmbE _ (by decide +kernel)).trans (by decide +kernel : bootBuiltins "super" = some (.type "super"))) ⟨rfl, ?_⟩)
    refine wpAny_loadName_free S.kind (S.frk _ List.mem_cons_self) (by first | rfl | simp [List.lookup]) ⟨_, KX1 _ _ hcell, rfl⟩ ?_
    refine wpAny_loadName_local S.kind (S.par _ (List.mem_of_getElem? hp0)) hns hself ?_
    refine ks_wpAny_isType_cls (KX1 _ _ hC) rfl ⟨rfl, ?_⟩
    refine ks_wpAny_call_super (KX1 _ _ hC) rfl ho rfl (fun c e => by cases e) (PySem.W.looks_mroIn KX1 T.selfM) (fun h2 eso k2 => ?_)
    have I1 := I.kept (t' := s.toks + (ps.zip us).length) k2
    have KX2 : K.In h2 := KX1.keeps k2
    have hax : a ≠ C := by
      intro z
      have z1 := KX1 _ _ hC
      rw [← z, ho] at z1
      cases z1
    have ho2 : h2.get? a = some ({ cls := .ref C, dict := none, data := .fields #[.ref t1, .none, .none, .none, .bool false, .none] } : Obj) := k2 _ _ ho
    have J : PySem.W.InstAt h2 a ({ cls := .ref C, dict := none, data := .fields #[.ref t1, .none, .none, .none, .bool false, .none] } : Obj) C none := ⟨ho2, rfl, rfl, trivial⟩
    have hsupX := T.sup
    unfold ks_superIn at hsupX
    rw [hcl] at hsupX
    have hI : PySem.W.Looks (model P w) h2 (isInstance (.ref a) (.type "ValueError")) true := J.type.andThen (PySem.W.looks_subIn KX2 T.ve)
    refine kxs_getMethod kxs_ValueError eso (PySem.W.looks_opaque KX2 T.op) (l₀ := .ref C :: bm) ?_ rfl KX2 hsupX hI hax (by decide) ?_
    · exact fun A Q E s k q => wpAny_bind ((PySem.W.looks_clsIn KX2 hcl) A _ E s k (wpAny_pure q))
    · have k3 : ∀ b o, h2.get? b = some o → (h2.push (kxs_mw "ValueError.__init__" a)).get? b = some o := fun b o e => Heap.get?_push_of_some _ e
      have I2 := I1.kept (t' := s.toks + (ps.zip us).length + 1) k3
      have nu : H h2.objs.size = none := I1.hok.fresh (Nat.le_refl _)
      have hmw : (h2.push (kxs_mw "ValueError.__init__" a)).get? h2.objs.size = some (kxs_mw "ValueError.__init__" a) := Heap.get?_push_at rfl rfl
      have I3 := I2.pins_of (pins' := [(h2.objs.size, kxs_mw "ValueError.__init__" a)]) fun p hp => by
        have hp' : p = (h2.objs.size, kxs_mw "ValueError.__init__" a) := by simpa [ncx] using hp
        subst hp'
        exact ⟨hmw, nu, fun z => absurd I1.lt (by rw [← z]; exact Nat.lt_irrefl _), I1.nofs (Nat.le_refl _), fun v z => by cases z⟩
      refine kxs_callWith (i := "ValueError.__init__") (x := a) (by rw [he]; show (false || (backTo pos (starEach es _)).any (·.1)) = false; rw [hpl]; rfl) ?_
      rw [he]
      refine evalArgs_plain ?_
      show wpAny _ _ (spliced (backTo pos ((false, eval e (envF F f s.heap.objs.size)) :: starEach es (envF F f s.heap.objs.size)))) _ _ _
      rw [← he]
      refine thn (hta.run pos _ _ _ H _ I3 hq) fun us1 s1 hAP => ?_
      obtain ⟨ws, H1, I4, r4, hz, hea1, q4⟩ := hAP
      have hpin := (I4.pin (h2.objs.size, kxs_mw "ValueError.__init__" a) (by simp [ncx])).1
      refine ⟨hpin, ?_⟩
      obtain ⟨t2, ho4⟩ := exo_at I4.hok hea1
      have I5 := I4.pins_of (pins' := []) fun p hp => by simp [ncx] at hp
      obtain ⟨hp4, g4, d4, t4, os4⟩ := s1
      refine call_mw (I4.kIn _ _ hC) ho4 hpin (by show us1.length ≤ sizeLine; rw [← r4.length, sizeLine_eq]; omega) fun h' t5 k5 hx5 => ?_
      have I6 := I5.write (t' := t4) (x := a) (e := a) (o := exo a C none) (by rw [hea1]; exact True.intro) (.inl rfl) k5 ⟨_, hx5⟩ (exo_ok hx5)
      have eu : upd H1 a (exo a C none) = H1 := by
        funext b
        by_cases hb : b = a
        · rw [hb, upd_same, hea1]
        · rw [upd_ne hb]
      rw [eu] at I6
      exact wpAt_of_wpAny (htb.run [] _ _ H1 _ I6 q4)
  · have fin : ∀ {σ' : L2.St} {H' : Hp} {v : V} {u : Value}, Inv (ncx CX P w K mg base N F f A outer s H E) [] σ' H' s' → L2.RelV v u → Q v H' → CE outer P w H s Q u s' :=
      fun {σ' H' v u} J rv q => ⟨v, H', J.os, J.bare, J.base, J.hok, rv, q⟩
    cases fl with
    | ret u =>
      obtain ⟨v, σ', H', J, rv, q⟩ := hs
      exact fin J rv q
    | next =>
      obtain ⟨σ', H', J, q⟩ := hs
      exact fin (v := V.non) (u := Value.none) J rfl q
    | brk =>
      obtain ⟨_, _, _, q⟩ := hs
      exact False.elim q
    | cont =>
      obtain ⟨_, _, _, q⟩ := hs
      exact False.elim q
end

/-! ### the promise of such an __init__, its body, the raise -/
def okV (x : V) : Prop := (∃ y : Str, x = .str y ∧ y.length ≤ 1000) ∨ ∃ i : Int, x = .int i ∧ i.natAbs.log2 < 1920
theorem okV_int {i : Int} (h : -(2 ^ 64) < i ∧ i < 2 ^ 64) : okV (.int i) := by
  refine .inr ⟨i, rfl, ?_⟩
  have h1 : i.natAbs < 2 ^ 64 := by omega
  by_cases h0 : i.natAbs = 0
  · rw [h0]; decide
  · exact Nat.lt_of_lt_of_le ((Nat.log2_lt h0).mpr h1) (by decide)
def spErr (C : Addr) (fld : Str) : Sp := fun vs H Q _ => ∃ a x, vs = [.ref a, x] ∧ okV x ∧ H a = some (exo a C none) ∧ ∀ d, H d = none → d ≠ a → Q .non (upd (upd H d (exd d [(fld, x)])) a (exo a C (some d)))
section
variable {P : Program} {w : World} {K : PySem.W.Frag} {mg : Str → Option Value} {base : Heap} {CX : CXT}
theorem okErr {C cc cda f : Addr} {name qual fld : Str} {params : Arguments} {scope : Scope} {fd : FuncData} {ar : Arg} {prm : Str} {p0 p1 p2 pos pos' q0 q1 q2 q3 : Pos} {e : Expr} {te : TE}
    (T : ErrC P K mg C) (hno : PySem.W.findIn K (.ref C) fld = some none)
    (I0 : ErrI P K C cc cda f name qual params [.Expr (.Call (.Attribute (.Call (.Name "super" p0) [] [] p1) "__init__" p2) [e] [] pos) pos', .Assign [.Attribute (.Name "self" q0) fld q1] (.Name prm q2) q3] scope fd)
    (S : NScope ["self", prm, "__class__"] ["self", prm] ["__class__"] scope) (hp : (params.posonlyargs ++ params.args).head? = some ar) (hp0 : ar.arg = "self") (hsup : scope.names.lookup ("super" : Str) = some .globalImplicit)
    (hd : (prm == ("__debug__" : Str)) = false) (hcd : (prm == ("__classdict__" : Str)) = false)
    (he : ∀ env, starEach [e] env = (false, eval e env) :: starEach [] env)
    {pl : Env → Sem Bool} (hmc : ∀ env : Env, eval (.Call (.Attribute (.Call (.Name "super" p0) [] [] p1) "__init__" p2) [e] [] pos) env = (do
      let ov ← attributeBase (.Call (.Name "super" p0) [] [] p1) "__init__" env (eval (.Call (.Name "super" p0) [] [] p1) env)
      standAt p2.atName
      let (f, first) ← holding [ov] (getMethod ov "__init__" (pl env))
      callWith pos f first (backTo pos (starEach [e] env)) []))
    (hsw : ∀ env, swapsWith (.Call (.Attribute (.Call (.Name "super" p0) [] [] p1) "__init__" p2) [e] [] pos) none pos'.line env = pure false)
    (hsw2 : ∀ env, swapsWith (.Name prm q2) (some (.Attribute (.Name "self" q0) fld q1)) q3.line env = pure false)
    (hPE : ∀ X : Cx, X.N[1]? = some prm → Vis X.env.scope prm → PE X e te)
    (hte : ∀ (σ : L2.St) (H : Hp) (Q : VK) (x : V), σ[1]? = some (some x) → okV x → (∀ z, Q (.str z) H) → te σ H Q) :
    FnOk P w K mg base CX 1 f fd ["self", prm] (spErr C fld) := by
  refine fn_of_err T I0 S hp (by rw [hp0]; rfl) hsup (fun vs H Q E h => ?_) he (fun env => rfl) hmc hsw fun A outer s H vs Q E h => ?_
  · obtain ⟨a, x, rfl, _⟩ := h
    rfl
  · obtain ⟨a, x, rfl, hok, hea, k⟩ := h
    refine ⟨tCons te tNil, tOst K fld (tVar 0) (tVar 1), pa_cons (hPE _ rfl (Or.inl (S.par _ (by simp)))) pa_nil (he _), pss_one (ps_ost (pv 0 rfl (Or.inl (S.par _ (by simp)))) (pv 1 rfl (Or.inl (S.par _ (by simp))) hd hcd) (hsw2 _)), a, rfl, hea, ?_⟩
    refine hte _ _ _ x rfl hok fun z => ?_
    refine ⟨by show 1 ≤ 1000; decide, hea, ?_⟩
    exact ⟨x, rfl, _, rfl, a, C, rfl, T.ox, hno, .inl ⟨hea, fun d hd hda => k d hd hda⟩⟩
/-- f"pre{x}" and f"pre{x}suf" -/
theorem te2 {pre : Str} {i : Nat} (hpre : pre.length ≤ 1000) (σ : L2.St) (H : Hp) (Q : VK) (x : V) (hx : σ[i]? = some (some x)) (ho : okV x) (q : ∀ z, Q (.str z) H) :
    tJs [tC (.str pre), tFmt (tVar i)] Str.empty σ H (fun out H1 => Q (.str out) H1) := by
  have hs : ∀ n : Nat, n ≤ 10000 → n ≤ sizeLine := fun n h => by rw [sizeLine_eq]; omega
  have l0 : (Str.empty ++ pre).length ≤ 1000 := by rw [Str.length_append]; show 0 + _ ≤ _; omega
  refine ⟨pre, rfl, hs _ (by omega), x, hx, ?_⟩
  rcases ho with ⟨y, rfl, hy⟩ | ⟨j, rfl, hj⟩
  · exact .inl ⟨y, rfl, hs _ (by omega), y, rfl, hs _ (by rw [Str.length_append]; omega), q _⟩
  · have l1 := int_text_len_1921 hj
    exact .inr ⟨j, rfl, hj, _, rfl, hs _ (by rw [Str.length_append]; exact Nat.le_trans (Nat.add_le_add l0 l1) (by decide)), q _⟩
theorem te3 {pre suf : Str} {i : Nat} (hpre : pre.length ≤ 1000) (hsuf : suf.length ≤ 1000) (σ : L2.St) (H : Hp) (Q : VK) (x : V) (hx : σ[i]? = some (some x)) (ho : okV x) (q : ∀ z, Q (.str z) H) :
    tJs [tC (.str pre), tFmt (tVar i), tC (.str suf)] Str.empty σ H (fun out H1 => Q (.str out) H1) := by
  have hs : ∀ n : Nat, n ≤ 10000 → n ≤ sizeLine := fun n h => by rw [sizeLine_eq]; omega
  have l0 : (Str.empty ++ pre).length ≤ 1000 := by rw [Str.length_append]; show 0 + _ ≤ _; omega
  refine ⟨pre, rfl, hs _ (by omega), x, hx, ?_⟩
  rcases ho with ⟨y, rfl, hy⟩ | ⟨j, rfl, hj⟩
  · have l2 : (Str.empty ++ pre ++ y).length ≤ 2000 := by rw [Str.length_append]; omega
    exact .inl ⟨y, rfl, hs _ (by omega), y, rfl, hs _ (by omega), suf, rfl, hs _ (by rw [Str.length_append]; omega), q _⟩
  · have l1 := int_text_len_1921 hj
    have l2 : (Str.empty ++ pre ++ Str.ofString (toString j)).length ≤ 2921 := by rw [Str.length_append]; omega
    exact .inr ⟨j, rfl, hj, _, rfl, hs _ (Nat.le_trans l2 (by decide)), suf, rfl, hs _ (by rw [Str.length_append]; exact Nat.le_trans (Nat.add_le_add l2 hsuf) (by decide)), q _⟩
end
/-- an own error class, ready to be raised and caught -/
structure EK (P : Program) (w : World) (K : PySem.W.Frag) (mg : Str → Option Value) (base : Heap) (x fld : Str) (C fI : Addr) (fd : FuncData) (ps : List Str) : Prop where
  T : ErrC P K mg C
  g : mg x = some (.ref C)
  iC : PySem.W.findIn K (.ref C) "__init__" = some (some (.ref fI))
  tI : PySem.W.typeIn K (.ref fI) = some (.type "function")
  F1 : FnOk P w K mg base CX0 1 fI fd ps (spErr C fld)
  b : Binds K fd ps []
  nof : PySem.W.findIn K (.ref C) fld = some none
  xf : XfC K C
  isc : ExcC K C
  own : PySem.W.subIn K (.ref C) (.ref C) = some true
theorem EK.exm {P : Program} {w : World} {K : PySem.W.Frag} {mg : Str → Option Value} {base : Heap} {x fld : Str} {C fI : Addr} {fd : FuncData} {ps : List Str} (E : EK P w K mg base x fld C fI fd ps) : PySem.W.exmOne K (.ref C) (.ref C) = some true :=
  PySem.W.exm_ref E.T.ox.exC E.xf.hdC E.T.ox.tyC E.own
section
variable {X : Cx} {W : WX} {x fld : Str} {C fI : Addr} {fd : FuncData} {ps : List Str} {e o : Expr} {te ta : TE} {p pos pos' apos : Pos}
theorem upd_del {fs : List (Str × V)} {H : Hp} {a d : Addr} {o u v : HO} (ha : H a = none) (hda : d ≠ a) : upd (del (upd (upd (upd H a o) d u) a v) a) d (.xd fs) = upd H d (.xd fs) := by
  funext b
  by_cases hb : b = d
  · subst hb; rw [upd_same, upd_same]
  · rw [upd_ne hb, upd_ne hb]
    by_cases hba : b = a
    · subst hba; rw [del_same, ha]
    · rw [del_ne hba, upd_ne hba, upd_ne hb, upd_ne hba]
/-- a reading made to bear a weaker wish -/
def tUp (te : TE) : TE := fun σ H Q => ∃ Q0 : VK, te σ H Q0 ∧ ∀ v H1, Q0 v H1 → Q v H1
theorem pe_up (h : PE X e te) : PE X e (tUp te) := ⟨fun pins s σ H Q I ⟨Q0, q, m⟩ => thn (h.run pins s σ H Q0 I q) fun _ _ ⟨v, H1, J, r, z⟩ => ⟨v, H1, J, r, m _ _ z⟩⟩
/-- raise X(e) -/
def tRaiseE (W : WX) (C : Addr) (fld : Str) (te : TE) : TS := fun _ σ H => te σ H fun v H1 => okV v ∧ ∀ d, H1 d = none → W (.ref C) (some d) σ (upd H1 d (.xd [(fld, v)]))
theorem ps_raiseE (hc : X.calm = true) (E : EK X.prog X.w X.K X.mg X.base x fld C fI fd ps) (hr : Room 2 X.A) (tk : Takes X W) (hg : Gl X x) (he : PE X e te) (hdb : (x == ("__debug__" : Str)) = false := by decide)
    (hst : starEach [e] X.env = (false, eval e X.env) :: starEach [] X.env := by rfl) :
    PS X (.Raise (some (.Call (.Name x p) [e] [] pos)) none pos') (tRaiseE W C fld te) := by
  refine ⟨fun pins s σ H D I h => ?_⟩
  refine (ps_raise hc tk (pmk_oex E.T.ox E.iC E.tI E.F1 hr E.b .nil pass0 hg E.g (pa_cons (pe_up he) pa_nil hst) hdb hst rfl)).run pins s σ H D I ?_
  refine ⟨_, h, fun v H1 ⟨hok, k⟩ => ⟨by show 1 ≤ 1000; decide, fun a ha => ⟨a, v, rfl, hok, upd_same, fun d hd hda => ⟨rfl, d, [(fld, v)], upd_same, by rw [upd_ne hda, upd_same], ?_, ?_⟩⟩⟩⟩
  · rw [upd_ne hda] at hd
    exact hd
  · rw [upd_ne hda] at hd
    rw [upd_del ha hda]
    exact k d hd
/-! ### calls of what may raise, the wish at the slots -/
variable {CX : CXT} {k : Nat} {f : Addr} {sp : Sp} {m : Str} {es : List Expr} {t : TA} {ES : L2.St → XK}
def tMethS (C : Addr) (m : Str) (sp : Sp) (ES : L2.St → XK) (ta : TE) (t : TA) : TE := fun σ H Q => ta σ H fun x H1 => ∃ a dx fs, x = .ref a ∧ H1 a = some (.ins C dx fs) ∧ fs.lookup m = none ∧ t σ H1 fun vs H2 => sp (x :: vs) H2 Q (ES σ)
theorem pe_methS {pl : Sem Bool} (he : PE X o ta) (c : Cls X.K C) (hm : Meth X.K C m f) (F : FnOk X.prog X.w X.K X.mg X.base CX k f fd ps sp) (hr : Room k X.A) (hb : Binds X.K fd ps []) (hx : ∀ σ, PassesAt CX X σ (ES σ)) (ha : PA X (e :: es) t)
    (hst : starEach (e :: es) X.env = (false, eval e X.env) :: starEach es X.env := by rfl) (hpl : (backTo pos (starEach es X.env)).any (·.1) = false := by rfl)
    (ht : eval (.Call (.Attribute o m apos) (e :: es) [] pos) X.env = (do
      let ov ← eval o X.env
      standAt apos.atName
      let (f, first) ← holding [ov] (getMethod ov m pl)
      callWith pos f first (backTo pos (starEach (e :: es) X.env)) (backToKw pos (keywordEach [] X.env))) := by rfl) :
    PE X (.Call (.Attribute o m apos) (e :: es) [] pos) (tMethS C m sp ES ta t) := by
  refine ⟨fun pins s σ H Q I h => ?_⟩
  refine PySem.W.methodCall_KW (pl := pl) (thn (he.run pins s σ H _ I h) fun u s1 ⟨x, H1, I1, rx, a, dx, fs, ex, ea, l, q⟩ => ?_) ht
  subst ex
  obtain rfl : u = Value.ref a := rx
  refine getmeth_ok I1 ea c hm l ?_
  refine PySem.W.callWith_K (first := [.ref a]) (h₀ := X.base) I.ok.mod.kin hm.kp (thn (ha.run pos pins s1 σ H1 _ I1 q) fun us s2 ⟨vs, H2, I2, r, q2⟩ => ⟨I2.kIn, ?_⟩) hst hpl
  exact run_fnS (us := .ref a :: us) (vs := .ref a :: vs) F hr hb (hx σ) I2 (.cons rfl r) q2
theorem pe_meth0S {pl : Sem Bool} (he : PE X o ta) (c : Cls X.K C) (hm : Meth X.K C m f) (F : FnOk X.prog X.w X.K X.mg X.base CX k f fd ps sp) (hr : Room k X.A) (hb : Binds X.K fd ps []) (hx : ∀ σ, PassesAt CX X σ (ES σ))
    (ht : eval (.Call (.Attribute o m apos) [] [] pos) X.env = (do
      let ov ← eval o X.env
      standAt apos.atName
      let (f, first) ← holding [ov] (getMethod ov m pl)
      callWith pos f first (backTo pos (starEach [] X.env)) (backToKw pos (keywordEach [] X.env))) := by rfl) :
    PE X (.Call (.Attribute o m apos) [] [] pos) (tMethS C m sp ES ta tNil) := by
  refine ⟨fun pins s σ H Q I h => ?_⟩
  refine PySem.W.methodCall_KW (pl := pl) (thn (he.run pins s σ H _ I h) fun u s1 ⟨x, H1, I1, rx, a, dx, fs, ex, ea, l, q⟩ => ?_) ht
  subst ex
  obtain rfl : u = Value.ref a := rx
  refine getmeth_ok I1 ea c hm l ?_
  exact PySem.W.callWith_K0 (first := [.ref a]) I1.kIn hm.kp (run_fnS (us := [.ref a]) (vs := [.ref a]) F hr hb (hx σ) I1 (.cons rfl .nil) q)
theorem pe_call0S (F : FnOk X.prog X.w X.K X.mg X.base CX k f fd ps sp) (hr : Room k X.A) (hg : Gl X x) (hm : X.mg x = some (.ref f)) (hk : PySem.W.keepIn X.K (.ref f) = true) (hb : Binds X.K fd ps []) (hx : ∀ σ, PassesAt CX X σ (ES σ))
    (hdb : (x == ("__debug__" : Str)) = false := by decide) : PE X (.Call (.Name x p) [] [] pos) (tCallS sp ES tNil) := by
  refine ⟨fun pins s σ H Q I h => ?_⟩
  refine wpAny_Call_Name_kw (ld_glob I hg hm ?_ hdb)
  exact PySem.W.callWith_K0 I.kIn hk (run_fnS (us := []) (vs := []) F hr hb (hx σ) I .nil h)
theorem run_makeS {pins : List (Addr × Obj)} {σ : L2.St} {H : Hp} {s : Shared} {Q : VK} {us : List Value} {vs : List V} (M : Mk X.K C f) (F : FnOk X.prog X.w X.K X.mg X.base CX k f fd ps sp) (hr : Room (k + 1) X.A) (hb : Binds X.K fd ps []) (hp : ∀ (σ : L2.St), PassesAt CX X σ (ES σ))
    (I : Inv X pins σ H s) (r : Vals vs us) (h : ∀ x dx, H x = none → H dx = none → dx ≠ x → sp (.ref x :: vs) (upd (upd H dx (.own x)) x (.ins C dx [])) (fun v H2 => v = .non ∧ Q (.ref x) H2) (ES σ)) :
    wpAny (model X.prog X.w) X.A (call (.ref C) us) (EP X pins σ Q) X.xe s := by
  have hq := h (s.heap.objs.size + 1) s.heap.objs.size (I.hok.fresh (Nat.le_succ _)) (I.hok.fresh (Nat.le_refl _)) (Nat.ne_of_lt (Nat.lt_succ_self _))
  have I2 := Inv.made (C := C) I
  have r2 : Vals (V.ref (s.heap.objs.size + 1) :: vs) (Value.ref (s.heap.objs.size + 1) :: us) := .cons rfl r
  have hl : (Value.ref (s.heap.objs.size + 1) :: us).length = ps.length := by rw [← r2.length]; exact F.len _ _ _ _ hq
  have b := hb _ (Value.ref (s.heap.objs.size + 1) :: us) I2.kIn (by rw [List.append_nil]; exact hl)
  rw [List.append_nil] at b
  refine wpAny_call (make_map (f := f) I.kIn M.makes M.init (beq_iff_eq.mp M.fn) (codeAny_mono (F.run _ X.stack _ _ ⟨Value.ref (s.heap.objs.size + 1) :: us, []⟩ (Value.ref (s.heap.objs.size + 1) :: us) _ _ (ES σ) (hr.make C us [])
    (I2.env0.make C us []) b r2 hq) fun r s' hq' => ?_))
  cases r with
  | error e => exact hp σ pins _ _ e s' I2 hq'
  | ok fl =>
    cases fl with
    | ret u =>
      obtain ⟨v, H', I3, rv, ev, q3⟩ := I2.after hq'
      subst ev
      exact ⟨rv, ⟨V.ref (s.heap.objs.size + 1), H', I3, rfl, q3⟩⟩
    | next => exact False.elim hq'
    | brk => exact False.elim hq'
    | cont => exact False.elim hq'
def tMakeS (C : Addr) (sp : Sp) (ES : L2.St → XK) (t : TA) : TE := fun σ H Q => t σ H fun vs H1 => ∀ x dx, H1 x = none → H1 dx = none → dx ≠ x → sp (.ref x :: vs) (upd (upd H1 dx (.own x)) x (.ins C dx [])) (fun v H2 => v = .non ∧ Q (.ref x) H2) (ES σ)
theorem pe_makeS (M : Mk X.K C f) (F : FnOk X.prog X.w X.K X.mg X.base CX k f fd ps sp) (hr : Room (k + 1) X.A) (hg : Gl X x) (hm : X.mg x = some (.ref C)) (hb : Binds X.K fd ps []) (hx : ∀ σ, PassesAt CX X σ (ES σ))
    (ha : PA X (e :: es) t) (hdb : (x == ("__debug__" : Str)) = false := by decide) (he : starEach (e :: es) X.env = (false, eval e X.env) :: starEach es X.env := by rfl) (hpl : (backTo pos (starEach es X.env)).any (·.1) = false := by rfl) :
    PE X (.Call (.Name x p) (e :: es) [] pos) (tMakeS C sp ES t) := by
  refine ⟨fun pins s σ H Q I h => ?_⟩
  refine wpAny_Call_Name_kw (ld_glob I hg hm ?_ hdb)
  refine PySem.W.callWith_K (h₀ := X.base) I.ok.mod.kin M.kp (thn (ha.run pos pins s σ H _ I h) fun us s1 ⟨vs, H1, I1, r, q⟩ => ⟨I1.kIn, ?_⟩) he hpl
  exact run_makeS M F hr hb hx I1 r q
theorem pe_make0S (M : Mk X.K C f) (F : FnOk X.prog X.w X.K X.mg X.base CX k f fd ps sp) (hr : Room (k + 1) X.A) (hg : Gl X x) (hm : X.mg x = some (.ref C)) (hb : Binds X.K fd ps []) (hx : ∀ σ, PassesAt CX X σ (ES σ))
    (hdb : (x == ("__debug__" : Str)) = false := by decide) : PE X (.Call (.Name x p) [] [] pos) (tMakeS C sp ES tNil) := by
  refine ⟨fun pins s σ H Q I h => ?_⟩
  refine wpAny_Call_Name_kw (ld_glob I hg hm ?_ hdb)
  exact PySem.W.callWith_K0 I.kIn M.kp (run_makeS (us := []) (vs := []) M F hr hb hx I .nil h)
/-! ### isinstance(e, T), e a caught error that has its dict -/
def rIsED (K : PySem.W.Frag) (D a : Addr) (cls : Value) (d : Option Addr) : List V → Hp → VK → Prop := fun xs H Q => ∃ (c : V) (cv : Value) (b : Bool) (dd : Addr) (fs : List (Str × V)), xs = [.ref a, c] ∧ cls = .ref D ∧ d = some dd ∧ H dd = some (.xd fs) ∧ (∀ u, RelV c u → u = cv) ∧ PySem.W.kitOne K (.ref D) cv = some b ∧ Q (.bl b) H
theorem call_isED {a D : Addr} {oe : Obj} {cls : Value} {d : Option Addr} {pn : List (Addr × Obj)} (C : ExcC X.K D) (hz : Zc cls d oe) (hf : ∃ vs, oe.data = .fields vs) : CallR (X.suite a ((a, oe) :: pn)) (.builtin "isinstance") (rIsED X.K D a cls d) := by
  intro pins s σ H xs us Q I r h
  obtain ⟨c, cv, b, dd, fs, rfl, rfl, rfl, hdd, hcv, e, q⟩ := h
  cases r with
  | cons rx rr =>
    cases rr with
    | cons rt rr =>
      cases rr
      cases rx
      have ec := hcv _ rt
      subst ec
      obtain ⟨hget, _⟩ := I.pin (a, oe) (List.mem_append.mpr (.inl List.mem_cons_self))
      obtain ⟨vs, hv⟩ := hf
      have hx : ObjOk X.prog X.w H s.heap dd (.xd fs) := I.hok dd _ hdd
      obtain ⟨mA, hns, hr⟩ := hx
      obtain ⟨od, ho, hl⟩ := lookIn_ns hns
      have J : PySem.W.InstAt s.heap a oe D (some od) := by
        obtain ⟨oc, od', oda, osl⟩ := oe
        obtain ⟨h1, h2⟩ := hz
        dsimp only at h1 h2 hv
        subst h1 h2 hv
        exact ⟨hget, rfl, rfl, ho⟩
      exact PySem.W.kia_one (PySem.W.kitx_exc (by obtain ⟨cd, hc, _⟩ := PySem.W.any_some C.hd; rw [hc]; rfl) C.hg C.hk C.hs C.ha C.hn C.ht C.hm) I.kIn J e (fun z => nomatch z) fun tk => ⟨.bl b, H, I.kept (t' := tk) fun _ _ z => z, rfl, q⟩
end

/-! ### C(k = v, ..), the parameters keyword-only -/
section
variable {X : Cx} {CX : CXT} {k : Nat} {f C : Addr} {fd : FuncData} {ps ks : List Str} {sp : Sp} {ES : L2.St → XK} {x : Str} {p pos : Pos} {kws : List Keyword} {tk : TA} {gV : List V → List V → List V}
def tMakeKS (C : Addr) (m : Nat) (sp : Sp) (gV : List V → List V → List V) (ES : L2.St → XK) (tk : TA) : TE := fun σ H Q => tk σ H fun zs H2 => zs.length = m ∧ ∀ x dx, H2 x = none → H2 dx = none → dx ≠ x →
  sp (gV [.ref x] zs) (upd (upd H2 dx (.own x)) x (.ins C dx [])) (fun v H3 => v = .non ∧ Q (.ref x) H3) (ES σ)
theorem pe_makeKS (M : Mk X.K C f) (F : FnOk X.prog X.w X.K X.mg X.base CX k f fd ps sp) (hr : Room (k + 1) X.A) (hg : Gl X x) (hm : X.mg x = some (.ref C)) (hbn : ∃ g, KBn X.K fd ps 1 ks g gV) (hx : ∀ σ, PassesAt CX X σ (ES σ)) (hkw : PK X kws tk)
    (hall : (backToKw pos (keywordEach kws X.env)).all (·.1.isSome) = true := by rfl) (hks : (backToKw pos (keywordEach kws X.env)).filterMap (·.1) = ks := by rfl) (hdb : (x == ("__debug__" : Str)) = false := by decide)
    (hpl : ((backTo pos (starEach [] X.env)).any (·.1) || (backToKw pos (keywordEach kws X.env)).any (·.1.isNone)) = false := by rfl) :
    PE X (.Call (.Name x p) [] kws pos) (tMakeKS C ks.length sp gV ES tk) := by
  obtain ⟨g, hb⟩ := hbn
  refine ⟨fun pins s σ H Q I h => ?_⟩
  refine wpAny_Call_Name_kw (ld_glob I hg hm ?_ hdb)
  refine PySem.W.callWith_KW0 (h₀ := X.base) I.ok.mod.kin M.kp hall ?_ hpl
  refine thn (hkw.run pos pins s σ H _ I h) fun ws s2 ⟨zs, H2, I2, rz, l2, q2⟩ => ⟨I2.kIn, ?_⟩
  rw [hks]
  have hq := q2 (s2.heap.objs.size + 1) s2.heap.objs.size (I2.hok.fresh (Nat.le_succ _)) (I2.hok.fresh (Nat.le_refl _)) (Nat.ne_of_lt (Nat.lt_succ_self _))
  have I3 := Inv.made (C := C) I2
  have r1 : Vals [V.ref (s2.heap.objs.size + 1)] [Value.ref (s2.heap.objs.size + 1)] := .cons rfl .nil
  have r2 := hb.rel r1 rz
  refine wpAny_call (make_map (f := f) I2.kIn M.makes M.init (beq_iff_eq.mp M.fn) (codeAny_mono (F.run _ X.stack _ _ ⟨[Value.ref (s2.heap.objs.size + 1)], ks.zip ws⟩ (g [Value.ref (s2.heap.objs.size + 1)] ws) _ _ (ES σ) (hr.make C [] (ks.zip ws))
    (I3.env0.make C [] (ks.zip ws)) (hb.to _ [Value.ref (s2.heap.objs.size + 1)] ws I3.kIn rfl (rz.length.symm.trans l2)) r2 hq) fun r s' hq' => ?_))
  cases r with
  | error e => exact hx σ pins _ _ e s' I3 hq'
  | ok fl =>
    cases fl with
    | ret u =>
      obtain ⟨v, H', I4, rv, ev, q3⟩ := I3.after hq'
      subst ev
      exact ⟨rv, ⟨V.ref (s2.heap.objs.size + 1), H', I4, rfl, q3⟩⟩
    | next => exact False.elim hq'
    | brk => exact False.elim hq'
    | cont => exact False.elim hq'
end
theorem passNo {X : Cx} {σ : L2.St} : PassesAt (L2.CX X.prog X.w) X σ (WE (fun _ _ _ _ => False) σ) := by
  intro pins H s e s' I c
  obtain ⟨_, _, _, _, _, _, _, _, _, _, _, _, z⟩ := c
  exact z.elim
end Sx
set_option Elab.async false
set_option maxRecDepth 100000
set_option maxHeartbeats 4000000
set_option linter.all false
set_option autoImplicit false
/-! Readings, one step a lemma; heaps by footprints. -/
namespace Rd
open PySem PySem.Spec PyProof.Rows L2 Sx
/-! ### promises by the number of arguments -/
def A0 (φ : Hp → VK → XK → Prop) : Sp := fun vs H Q E => vs = [] ∧ φ H Q E
def A1 (φ : V → Hp → VK → XK → Prop) : Sp := fun vs H Q E => ∃ x, vs = [x] ∧ φ x H Q E
def A2 (φ : V → V → Hp → VK → XK → Prop) : Sp := fun vs H Q E => ∃ x y, vs = [x, y] ∧ φ x y H Q E
def A3 (φ : V → V → V → Hp → VK → XK → Prop) : Sp := fun vs H Q E => ∃ x y z, vs = [x, y, z] ∧ φ x y z H Q E
def A4 (φ : V → V → V → V → Hp → VK → XK → Prop) : Sp := fun vs H Q E => ∃ x y z u, vs = [x, y, z, u] ∧ φ x y z u H Q E
def A5 (φ : V → V → V → V → V → Hp → VK → XK → Prop) : Sp := fun vs H Q E => ∃ x y z u w, vs = [x, y, z, u, w] ∧ φ x y z u w H Q E
def A6 (φ : V → V → V → V → V → V → Hp → VK → XK → Prop) : Sp := fun vs H Q E => ∃ x y z u w o, vs = [x, y, z, u, w, o] ∧ φ x y z u w o H Q E
theorem A0.len {φ : Hp → VK → XK → Prop} {vs : List V} {H : Hp} {Q : VK} {E : XK} (h : A0 φ vs H Q E) : vs.length = 0 := by obtain ⟨rfl, _⟩ := h; rfl
theorem A1.len {φ : V → Hp → VK → XK → Prop} {vs : List V} {H : Hp} {Q : VK} {E : XK} (h : A1 φ vs H Q E) : vs.length = 1 := by obtain ⟨_, rfl, _⟩ := h; rfl
theorem A2.len {φ : V → V → Hp → VK → XK → Prop} {vs : List V} {H : Hp} {Q : VK} {E : XK} (h : A2 φ vs H Q E) : vs.length = 2 := by obtain ⟨_, _, rfl, _⟩ := h; rfl
theorem A3.len {φ : V → V → V → Hp → VK → XK → Prop} {vs : List V} {H : Hp} {Q : VK} {E : XK} (h : A3 φ vs H Q E) : vs.length = 3 := by obtain ⟨_, _, _, rfl, _⟩ := h; rfl
theorem A4.len {φ : V → V → V → V → Hp → VK → XK → Prop} {vs : List V} {H : Hp} {Q : VK} {E : XK} (h : A4 φ vs H Q E) : vs.length = 4 := by obtain ⟨_, _, _, _, rfl, _⟩ := h; rfl
theorem A5.len {φ : V → V → V → V → V → Hp → VK → XK → Prop} {vs : List V} {H : Hp} {Q : VK} {E : XK} (h : A5 φ vs H Q E) : vs.length = 5 := by obtain ⟨_, _, _, _, _, rfl, _⟩ := h; rfl
theorem A6.len {φ : V → V → V → V → V → V → Hp → VK → XK → Prop} {vs : List V} {H : Hp} {Q : VK} {E : XK} (h : A6 φ vs H Q E) : vs.length = 6 := by obtain ⟨_, _, _, _, _, _, rfl, _⟩ := h; rfl
theorem a0 {φ : Hp → VK → XK → Prop} {H : Hp} {Q : VK} {E : XK} (h : φ H Q E) : A0 φ [] H Q E := ⟨rfl, h⟩
theorem a1 {φ : V → Hp → VK → XK → Prop} {x : V} {H : Hp} {Q : VK} {E : XK} (h : φ x H Q E) : A1 φ [x] H Q E := ⟨x, rfl, h⟩
theorem a2 {φ : V → V → Hp → VK → XK → Prop} {x y : V} {H : Hp} {Q : VK} {E : XK} (h : φ x y H Q E) : A2 φ [x, y] H Q E := ⟨x, y, rfl, h⟩
theorem a3 {φ : V → V → V → Hp → VK → XK → Prop} {x y z : V} {H : Hp} {Q : VK} {E : XK} (h : φ x y z H Q E) : A3 φ [x, y, z] H Q E := ⟨x, y, z, rfl, h⟩
theorem a4 {φ : V → V → V → V → Hp → VK → XK → Prop} {x y z u : V} {H : Hp} {Q : VK} {E : XK} (h : φ x y z u H Q E) : A4 φ [x, y, z, u] H Q E := ⟨x, y, z, u, rfl, h⟩
theorem a5 {φ : V → V → V → V → V → Hp → VK → XK → Prop} {x y z u w : V} {H : Hp} {Q : VK} {E : XK} (h : φ x y z u w H Q E) : A5 φ [x, y, z, u, w] H Q E := ⟨x, y, z, u, w, rfl, h⟩
theorem a6 {φ : V → V → V → V → V → V → Hp → VK → XK → Prop} {x y z u w o : V} {H : Hp} {Q : VK} {E : XK} (h : φ x y z u w o H Q E) : A6 φ [x, y, z, u, w, o] H Q E := ⟨x, y, z, u, w, o, rfl, h⟩
def A7 (φ : V → V → V → V → V → V → V → Hp → VK → XK → Prop) : Sp := fun vs H Q E => ∃ x0 x1 x2 x3 x4 x5 x6, vs = [x0, x1, x2, x3, x4, x5, x6] ∧ φ x0 x1 x2 x3 x4 x5 x6 H Q E
theorem A7.len {φ : V → V → V → V → V → V → V → Hp → VK → XK → Prop} {vs : List V} {H : Hp} {Q : VK} {E : XK} (h : A7 φ vs H Q E) : vs.length = 7 := by obtain ⟨_, _, _, _, _, _, _, rfl, _⟩ := h; rfl
theorem a7 {φ : V → V → V → V → V → V → V → Hp → VK → XK → Prop} {x0 x1 x2 x3 x4 x5 x6 : V} {H : Hp} {Q : VK} {E : XK} (h : φ x0 x1 x2 x3 x4 x5 x6 H Q E) : A7 φ [x0, x1, x2, x3, x4, x5, x6] H Q E := ⟨x0, x1, x2, x3, x4, x5, x6, rfl, h⟩
def A8 (φ : V → V → V → V → V → V → V → V → Hp → VK → XK → Prop) : Sp := fun vs H Q E => ∃ x0 x1 x2 x3 x4 x5 x6 x7, vs = [x0, x1, x2, x3, x4, x5, x6, x7] ∧ φ x0 x1 x2 x3 x4 x5 x6 x7 H Q E
theorem A8.len {φ : V → V → V → V → V → V → V → V → Hp → VK → XK → Prop} {vs : List V} {H : Hp} {Q : VK} {E : XK} (h : A8 φ vs H Q E) : vs.length = 8 := by obtain ⟨_, _, _, _, _, _, _, _, rfl, _⟩ := h; rfl
theorem a8 {φ : V → V → V → V → V → V → V → V → Hp → VK → XK → Prop} {x0 x1 x2 x3 x4 x5 x6 x7 : V} {H : Hp} {Q : VK} {E : XK} (h : φ x0 x1 x2 x3 x4 x5 x6 x7 H Q E) : A8 φ [x0, x1, x2, x3, x4, x5, x6, x7] H Q E := ⟨x0, x1, x2, x3, x4, x5, x6, x7, rfl, h⟩
def A9 (φ : V → V → V → V → V → V → V → V → V → Hp → VK → XK → Prop) : Sp := fun vs H Q E => ∃ x0 x1 x2 x3 x4 x5 x6 x7 x8, vs = [x0, x1, x2, x3, x4, x5, x6, x7, x8] ∧ φ x0 x1 x2 x3 x4 x5 x6 x7 x8 H Q E
theorem A9.len {φ : V → V → V → V → V → V → V → V → V → Hp → VK → XK → Prop} {vs : List V} {H : Hp} {Q : VK} {E : XK} (h : A9 φ vs H Q E) : vs.length = 9 := by obtain ⟨_, _, _, _, _, _, _, _, _, rfl, _⟩ := h; rfl
theorem a9 {φ : V → V → V → V → V → V → V → V → V → Hp → VK → XK → Prop} {x0 x1 x2 x3 x4 x5 x6 x7 x8 : V} {H : Hp} {Q : VK} {E : XK} (h : φ x0 x1 x2 x3 x4 x5 x6 x7 x8 H Q E) : A9 φ [x0, x1, x2, x3, x4, x5, x6, x7, x8] H Q E := ⟨x0, x1, x2, x3, x4, x5, x6, x7, x8, rfl, h⟩
def A10 (φ : V → V → V → V → V → V → V → V → V → V → Hp → VK → XK → Prop) : Sp := fun vs H Q E => ∃ x0 x1 x2 x3 x4 x5 x6 x7 x8 x9, vs = [x0, x1, x2, x3, x4, x5, x6, x7, x8, x9] ∧ φ x0 x1 x2 x3 x4 x5 x6 x7 x8 x9 H Q E
theorem A10.len {φ : V → V → V → V → V → V → V → V → V → V → Hp → VK → XK → Prop} {vs : List V} {H : Hp} {Q : VK} {E : XK} (h : A10 φ vs H Q E) : vs.length = 10 := by obtain ⟨_, _, _, _, _, _, _, _, _, _, rfl, _⟩ := h; rfl
theorem a10 {φ : V → V → V → V → V → V → V → V → V → V → Hp → VK → XK → Prop} {x0 x1 x2 x3 x4 x5 x6 x7 x8 x9 : V} {H : Hp} {Q : VK} {E : XK} (h : φ x0 x1 x2 x3 x4 x5 x6 x7 x8 x9 H Q E) : A10 φ [x0, x1, x2, x3, x4, x5, x6, x7, x8, x9] H Q E := ⟨x0, x1, x2, x3, x4, x5, x6, x7, x8, x9, rfl, h⟩
def A11 (φ : V → V → V → V → V → V → V → V → V → V → V → Hp → VK → XK → Prop) : Sp := fun vs H Q E => ∃ x0 x1 x2 x3 x4 x5 x6 x7 x8 x9 x10, vs = [x0, x1, x2, x3, x4, x5, x6, x7, x8, x9, x10] ∧ φ x0 x1 x2 x3 x4 x5 x6 x7 x8 x9 x10 H Q E
theorem A11.len {φ : V → V → V → V → V → V → V → V → V → V → V → Hp → VK → XK → Prop} {vs : List V} {H : Hp} {Q : VK} {E : XK} (h : A11 φ vs H Q E) : vs.length = 11 := by obtain ⟨_, _, _, _, _, _, _, _, _, _, _, rfl, _⟩ := h; rfl
theorem a11 {φ : V → V → V → V → V → V → V → V → V → V → V → Hp → VK → XK → Prop} {x0 x1 x2 x3 x4 x5 x6 x7 x8 x9 x10 : V} {H : Hp} {Q : VK} {E : XK} (h : φ x0 x1 x2 x3 x4 x5 x6 x7 x8 x9 x10 H Q E) : A11 φ [x0, x1, x2, x3, x4, x5, x6, x7, x8, x9, x10] H Q E := ⟨x0, x1, x2, x3, x4, x5, x6, x7, x8, x9, x10, rfl, h⟩
def A12 (φ : V → V → V → V → V → V → V → V → V → V → V → V → Hp → VK → XK → Prop) : Sp := fun vs H Q E => ∃ x0 x1 x2 x3 x4 x5 x6 x7 x8 x9 x10 x11, vs = [x0, x1, x2, x3, x4, x5, x6, x7, x8, x9, x10, x11] ∧ φ x0 x1 x2 x3 x4 x5 x6 x7 x8 x9 x10 x11 H Q E
theorem A12.len {φ : V → V → V → V → V → V → V → V → V → V → V → V → Hp → VK → XK → Prop} {vs : List V} {H : Hp} {Q : VK} {E : XK} (h : A12 φ vs H Q E) : vs.length = 12 := by obtain ⟨_, _, _, _, _, _, _, _, _, _, _, _, rfl, _⟩ := h; rfl
theorem a12 {φ : V → V → V → V → V → V → V → V → V → V → V → V → Hp → VK → XK → Prop} {x0 x1 x2 x3 x4 x5 x6 x7 x8 x9 x10 x11 : V} {H : Hp} {Q : VK} {E : XK} (h : φ x0 x1 x2 x3 x4 x5 x6 x7 x8 x9 x10 x11 H Q E) : A12 φ [x0, x1, x2, x3, x4, x5, x6, x7, x8, x9, x10, x11] H Q E := ⟨x0, x1, x2, x3, x4, x5, x6, x7, x8, x9, x10, x11, rfl, h⟩
/-! ### attribute lists -/
theorem putF_hit (f : Str) (v y : V) (r : List (Str × V)) : putF f v ((f, y) :: r) = (f, v) :: r := if_pos rfl
theorem putF_miss {f g : Str} (h : ¬ g = f) (v y : V) (r : List (Str × V)) : putF f v ((g, y) :: r) = (g, y) :: putF f v r := if_neg h
theorem putF_nil (f : Str) (v : V) : putF f v [] = [(f, v)] := rfl
theorem look_hit (f : Str) (y : V) (r : List (Str × V)) : ((f, y) :: r).lookup f = some y := by rw [lookup_put, if_pos rfl]
theorem look_miss {f g : Str} (h : ¬ g = f) (y : V) (r : List (Str × V)) : ((f, y) :: r).lookup g = r.lookup g := by rw [lookup_put, if_neg h]
/-! ### steps -/
section
variable {K : PySem.W.Frag} {D : Ends} {σ : L2.St} {H : Hp} {t u : TS} {te ta tb tc : TE} {tt tu : TT} {g : TG} {Q : VK} {QT : Bool → Hp → Prop} {v x y : V} {i : Nat} {r : R2} {tl tr : TA} {QA : List V → Hp → Prop}
theorem s_seq (h : t { D with nx := u D } σ H) : tSeq t u D σ H := h
theorem s_asg (h : te σ H fun x H1 => g x σ H1 D.nx) : tAsg te g D σ H := h
theorem g_name {R : L2.St → Hp → Prop} (h : R (σ.set i (some v)) H) : gName i v σ H R := h
theorem s_ret (h : te σ H D.rt) : tRet te D σ H := h
theorem s_retN (h : D.rt .non H) : tRetN D σ H := h
theorem s_drop (h : te σ H fun _ H1 => D.nx σ H1) : tDrop te D σ H := h
theorem s_if (h : tt σ H fun b H1 => if b = true then t D σ H1 else u D σ H1) : tIfS tt t u D σ H := h
theorem s_next (h : D.nx σ H) : tNext D σ H := h
theorem s_cont (h : D.ct σ H) : tCont D σ H := h
theorem s_break (h : D.bk σ H) : tBreak D σ H := h
theorem d_nx {a c d : L2.St → Hp → Prop} {b : V → Hp → Prop} (h : a σ H) : (Ends.mk a b c d).nx σ H := h
theorem d_rt {a c d : L2.St → Hp → Prop} {b : V → Hp → Prop} (h : b v H) : (Ends.mk a b c d).rt v H := h
theorem d_bk {a c d : L2.St → Hp → Prop} {b : V → Hp → Prop} (h : c σ H) : (Ends.mk a b c d).bk σ H := h
theorem d_ct {a c d : L2.St → Hp → Prop} {b : V → Hp → Prop} (h : d σ H) : (Ends.mk a b c d).ct σ H := h
def kSet (K : PySem.W.Frag) (f : Str) (y x : V) (H : Hp) (R : Hp → Prop) : Prop := ∃ a C dx fs, x = .ref a ∧ H a = some (.ins C dx fs) ∧ Cls K C ∧ NoAttr K C f ∧ fs.length < 1000 ∧ R (upd H a (.ins C dx (putF f y fs)))
theorem s_fld {f : Str} (h : tb σ H fun y H1 => ta σ H1 fun x H2 => kSet K f y x H2 (D.nx σ)) : sFld K ta tb f D σ H := h
theorem k_set {f : Str} {R : Hp → Prop} {a C dx : Addr} {fs fs' : List (Str × V)} (h : H a = some (.ins C dx fs)) (c : Cls K C) (n : NoAttr K C f) (hp : putF f y fs = fs') (l : fs.length < 1000) (q : R (upd H a (.ins C dx fs'))) : kSet K f y (.ref a) H R := ⟨a, C, dx, fs, rfl, h, c, n, l, hp ▸ q⟩
theorem e_var (h : σ[i]? = some (some v)) (q : Q v H) : tVar i σ H Q := ⟨v, h, q⟩
theorem e_c (q : Q v H) : tC v σ H Q := q
theorem e_op (h : ta σ H fun x H1 => tb σ H1 fun y H2 => r x y H2 Q) : tOp r ta tb σ H Q := h
theorem e_un {ru : V → Hp → VK → Prop} (h : ta σ H fun x H1 => ru x H1 Q) : tUn ru ta σ H Q := h
theorem o_I0 {gg : Int → Int → V} {m n : Int} (q : Q (gg m n) H) : rI0 gg (.int m) (.int n) H Q := ⟨m, n, rfl, rfl, q⟩
theorem o_I {Cc : Int → Int → Prop} {gg : Int → Int → V} {m n : Int} (c : Cc m n) (q : Q (gg m n) H) : rI Cc gg (.int m) (.int n) H Q := ⟨m, n, rfl, rfl, c, q⟩
theorem o_U {gg : Int → V} {m : Int} (q : Q (gg m) H) : rU gg (.int m) H Q := ⟨m, rfl, q⟩
theorem o_eq (s : scal x y = true) (q : Q (.bl (decide (x = y))) H) : rEq x y H Q := ⟨s, q⟩
theorem o_ne (s : scal x y = true) (q : Q (.bl (!decide (x = y))) H) : rNe x y H Q := ⟨s, q⟩
theorem o_ixL {p : Addr} {xs : List V} {n : Int} (h : SqL K H p xs) (a : atI xs n = some v) (q : Q v H) : rIxL K (.ref p) (.int n) H Q := ⟨p, xs, n, v, rfl, rfl, h, a, q⟩
theorem o_ixT {p : Addr} {xs : List V} {n : Int} (h : SqT K H p xs) (a : atI xs n = some v) (q : Q v H) : rIxT K (.ref p) (.int n) H Q := ⟨p, xs, n, v, rfl, rfl, h, a, q⟩
def kFld (K : PySem.W.Frag) (f : Str) (x : V) (H : Hp) (Q : VK) : Prop := ∃ a C dx fs v, x = .ref a ∧ H a = some (.ins C dx fs) ∧ Cls K C ∧ NoAttr K C f ∧ fs.lookup f = some v ∧ Q v H
theorem e_fld {f : Str} (h : ta σ H fun x H1 => kFld K f x H1 Q) : tFld K ta f σ H Q := h
theorem k_fld {f : Str} {a C dx : Addr} {fs : List (Str × V)} (h : H a = some (.ins C dx fs)) (c : Cls K C) (n : NoAttr K C f) (l : fs.lookup f = some v) (q : Q v H) : kFld K f (.ref a) H Q := ⟨a, C, dx, fs, v, rfl, h, c, n, l, q⟩
def kMeth (C : Addr) (m : Str) (sp : Sp) (E : XK) (t : TA) (σ : L2.St) (x : V) (H : Hp) (Q : VK) : Prop := ∃ a dx fs, x = .ref a ∧ H a = some (.ins C dx fs) ∧ fs.lookup m = none ∧ t σ H fun vs H2 => sp (x :: vs) H2 Q E
theorem e_meth {C : Addr} {m : Str} {sp : Sp} {ES : L2.St → XK} (h : ta σ H fun x H1 => kMeth C m sp (ES σ) tl σ x H1 Q) : tMethS C m sp ES ta tl σ H Q := h
theorem k_meth {C a dx : Addr} {m : Str} {sp : Sp} {E : XK} {fs : List (Str × V)} (h : H a = some (.ins C dx fs)) (l : fs.lookup m = none) (q : tl σ H fun vs H2 => sp (.ref a :: vs) H2 Q E) : kMeth C m sp E tl σ (.ref a) H Q := ⟨a, dx, fs, rfl, h, l, q⟩
theorem e_call {sp : Sp} {ES : L2.St → XK} (h : tl σ H fun vs H1 => sp vs H1 Q (ES σ)) : tCallS sp ES tl σ H Q := h
theorem e_make {C : Addr} {sp : Sp} {ES : L2.St → XK} (h : tl σ H fun vs H1 => ∀ x dx, H1 x = none → H1 dx = none → dx ≠ x → sp (.ref x :: vs) (upd (upd H1 dx (.own x)) x (.ins C dx [])) (fun v H2 => v = .non ∧ Q (.ref x) H2) (ES σ)) : tMakeS C sp ES tl σ H Q := h
theorem e_cb {rc : List V → Hp → VK → Prop} (h : tl σ H fun vs H1 => rc vs H1 Q) : tCB rc tl σ H Q := h
theorem l_nil (h : QA [] H) : tNil σ H QA := h
theorem l_cons (h : ta σ H fun x H1 => tl σ H1 fun xs H2 => QA (x :: xs) H2) : tCons ta tl σ H QA := h
theorem e_lst (h : tl σ H fun xs H1 => xs.length ≤ sizeLine ∧ ∀ p, H1 p = none → Q (.ref p) (upd H1 p (.lst xs))) : tLst tl σ H Q := h
theorem e_tup (h : tl σ H fun xs H1 => xs.length ≤ sizeLine ∧ ∀ p, H1 p = none → Q (.ref p) (upd H1 p (.tup xs))) : tTup tl σ H Q := h
theorem e_bm {T : String} {rm : V → List V → Hp → VK → Prop} (h : ta σ H fun x H1 => tyV K T x H1 ∧ tl σ H1 fun xs H2 => rm x xs H2 Q) : tBM K T rm ta tl σ H Q := h
theorem e_bm0 {T : String} {rm : V → List V → Hp → VK → Prop} (h : ta σ H fun x H1 => tyV K T x H1 ∧ rm x [] H1 Q) : tBM0 K T rm ta σ H Q := h
theorem e_not (h : ta σ H fun x H1 => ∃ c, x = .bl c ∧ Q (.bl (!c)) H1) : tNotV ta σ H Q := h
theorem e_if (h : tt σ H fun c H1 => if c = true then ta σ H1 Q else tb σ H1 Q) : tIf tt ta tb σ H Q := h
def kT (x : V) (H : Hp) (QT : Bool → Hp → Prop) : Prop := ∃ k, x = .bl k ∧ QT k H
theorem k_t {b : Bool} (q : QT b H) : kT (.bl b) H QT := ⟨b, rfl, q⟩
theorem t_test (h : te σ H fun x H1 => kT x H1 QT) : tTest te σ H QT := h
theorem t_B (h : te σ H fun x H1 => kT x H1 QT) : tB te σ H QT := h
theorem t_and (h : tt σ H fun c H1 => if c = true then tu σ H1 QT else QT false H1) : tAnd tt tu σ H QT := h
theorem t_or (h : tt σ H fun c H1 => if c = true then QT true H1 else tu σ H1 QT) : tOr tt tu σ H QT := h
theorem t_not (h : tt σ H fun c H1 => QT (!c) H1) : tNot tt σ H QT := h
theorem e_and (h : ta σ H fun x H1 => ∃ c, x = .bl c ∧ if c = true then tb σ H1 Q else Q (.bl false) H1) : tAndV ta tb σ H Q := h
theorem e_or (h : ta σ H fun x H1 => ∃ c, x = .bl c ∧ if c = true then Q (.bl true) H1 else tb σ H1 Q) : tOrV ta tb σ H Q := h
theorem e_chain {r' : R2} (h : ta σ H fun x H1 => tb σ H1 fun y H2 => r x y H2 fun z H3 => kT z H3 fun k H4 => if k = true then tc σ H4 fun w' H5 => r' y w' H5 Q else Q (.bl false) H4) : tChain r r' ta tb tc σ H Q := by
  refine h
theorem s_raise {W : WX} {C : Addr} {fld : Str} (h : te σ H fun v H1 => okV v ∧ ∀ d, H1 d = none → W (.ref C) (some d) σ (upd H1 d (.xd [(fld, v)]))) : tRaiseE W C fld te D σ H := h
theorem e_sl {rs : V → Option Int → Option Int → Hp → VK → Prop} {to th : TO} (h : te σ H fun x H1 => to σ H1 fun l H2 => th σ H2 fun u H3 => rs x l u H3 Q) : tSl rs te to th σ H Q := h
theorem p_no {QO : Option Int → Hp → Prop} (h : QO none H) : tNoPart σ H QO := h
def kI (x : V) (H : Hp) (QO : Option Int → Hp → Prop) : Prop := ∃ n, x = .int n ∧ QO (some n) H
theorem k_i {QO : Option Int → Hp → Prop} {n : Int} (q : QO (some n) H) : kI (.int n) H QO := ⟨n, rfl, q⟩
theorem p_some {QO : Option Int → Hp → Prop} (h : te σ H fun x H1 => kI x H1 QO) : tPart te σ H QO := h
/-! ### ifs -/
theorem if_d {c A B : Prop} [Decidable c] (h1 : c → A) (h2 : ¬ c → B) : if decide c = true then A else B := by
  by_cases h : c
  · rw [if_pos (decide_eq_true h)]; exact h1 h
  · rw [if_neg (by rw [decide_eq_false h]; exact Bool.false_ne_true)]; exact h2 h
theorem if_nd {c A B : Prop} [Decidable c] (h1 : ¬ c → A) (h2 : c → B) : if (!decide c) = true then A else B := by
  by_cases h : c
  · rw [decide_eq_true h]; exact iteF (h2 h)
  · rw [decide_eq_false h]; exact iteT (h1 h)
theorem if_dT {c A B : Prop} [Decidable c] (h : c) (q : A) : if decide c = true then A else B := by rw [if_pos (decide_eq_true h)]; exact q
theorem if_dF {c A B : Prop} [Decidable c] (h : ¬ c) (q : B) : if decide c = true then A else B := if_d (fun z => absurd z h) fun _ => q
theorem if_ndT {c A B : Prop} [Decidable c] (h : ¬ c) (q : A) : if (!decide c) = true then A else B := if_nd (fun _ => q) fun z => absurd z h
theorem if_ndF {c A B : Prop} [Decidable c] (h : c) (q : B) : if (!decide c) = true then A else B := if_nd (fun z => absurd h z) fun _ => q
theorem if_b {b : Bool} {A B : Prop} (h1 : b = true → A) (h2 : b = false → B) : if b = true then A else B := by
  cases b with
  | true => exact iteT (h1 rfl)
  | false => exact iteF (h2 rfl)
end
/-! ### lists of values -/
theorem upd_rw {H : Hp} {a : Addr} {o : HO} (h : H a = some o) : upd H a o = H := by
  funext b
  by_cases hb : b = a
  · rw [hb, upd_same, h]
  · rw [upd_ne hb]
theorem sz {n : Nat} (h : n ≤ 100000) : n ≤ sizeLine := by rw [sizeLine_eq]; omega
theorem szl {n : Nat} (h : n < 100000) : n < sizeLine := by rw [sizeLine_eq]; omega
/-! ### what a step may touch -/
/-- all that was tracked, but at fp, is as it was -/
def Fp (fp : List Addr) (H H' : Hp) : Prop := ∀ b o, H b = some o → b ∉ fp → H' b = some o
theorem Fp.refl (fp : List Addr) (H : Hp) : Fp fp H H := fun _ _ h _ => h
theorem Fp.trans {fp : List Addr} {H H1 H2 : Hp} (a : Fp fp H H1) (b : Fp fp H1 H2) : Fp fp H H2 := fun c o h n => b c o (a c o h n) n
theorem Fp.mono {fp fq : List Addr} {H H' : Hp} (a : Fp fp H H') (s : ∀ x, x ∈ fp → x ∈ fq) : Fp fq H H' := fun c o h n => a c o h fun z => n (s c z)
theorem Fp.new {fp : List Addr} {H : Hp} {a : Addr} {o : HO} (h : H a = none) : Fp fp H (upd H a o) := fun c u e _ => by rw [upd_ne (ne_of_none e h)]; exact e
theorem Fp.at_ {fp : List Addr} {H : Hp} {a : Addr} {o : HO} (h : a ∈ fp) : Fp fp H (upd H a o) := fun c u e n => by
  rw [upd_ne (fun z => n (by rw [z]; exact h))]
  exact e
/-- what was new in H does not count -/
theorem Fp.drop {fp fq : List Addr} {H H' : Hp} (a : Fp fp H H') (s : ∀ x, x ∈ fp → x ∈ fq ∨ H x = none) : Fp fq H H' := fun c o h n => a c o h fun z => by
  rcases s c z with q | q
  · exact n q
  · rw [q] at h; cases h
theorem Fp.free {fp : List Addr} {H H' : Hp} (e : Fp fp H H') {l : Addr} (n : l ∉ fp) (h : H' l = none) : H l = none := by
  cases q : H l with
  | none => rfl
  | some o => rw [e l o q n] at h; cases h
theorem Fp.seq {K : PySem.W.Frag} {fp : List Addr} {H H' : Hp} {a : Addr} {xs : List V} (e : Fp fp H H') (n : a ∉ fp) (h : SqL K H a xs) : SqL K H' a xs := by
  rcases h with (h | ⟨o, h⟩) | h
  · exact .inl (.inl (e _ _ h n))
  · exact .inl (.inr ⟨o, e _ _ h n⟩)
  · exact .inr h
theorem Fp.tup {K : PySem.W.Frag} {fp : List Addr} {H H' : Hp} {a : Addr} {xs : List V} (e : Fp fp H H') (n : a ∉ fp) (h : SqT K H a xs) : SqT K H' a xs := by
  rcases h with (h | ⟨o, h⟩) | h
  · exact .inl (.inl (e _ _ h n))
  · exact .inl (.inr ⟨o, e _ _ h n⟩)
  · exact .inr h

/-! ### built-ins by name -/
section
variable {X : Cx} {K : PySem.W.Frag} {H : Hp} {Q : VK} {v : V}
def rLn (K : PySem.W.Frag) : List V → Hp → VK → Prop := fun xs H Q => ∃ p ys, xs = [.ref p] ∧ (SqL K H p ys ∨ SqT K H p ys) ∧ Q (.int ys.length) H
theorem call_ln : CallR X (.builtin "len") (rLn X.K) := call_len_seq
theorem c_ln {p : Addr} {ys : List V} (h : SqL K H p ys) (q : Q (.int ys.length) H) : rLn K [.ref p] H Q := ⟨p, ys, rfl, .inl h, q⟩
theorem c_lnT {p : Addr} {ys : List V} (h : SqT K H p ys) (q : Q (.int ys.length) H) : rLn K [.ref p] H Q := ⟨p, ys, rfl, .inr h, q⟩
def rAb : List V → Hp → VK → Prop := fun xs H Q => ∃ i, xs = [.int i] ∧ Q (.int (if i < 0 then -i else i)) H
theorem call_ab : CallR X (.builtin "abs") rAb := call_abs
theorem c_ab {i : Int} (q : Q (.int (if i < 0 then -i else i)) H) : rAb [.int i] H Q := ⟨i, rfl, q⟩
def rIn1 : List V → Hp → VK → Prop := fun xs H Q => ∃ i, xs = [.int i] ∧ Q (.int i) H
theorem call_in : CallR X (.type "int") rIn1 := fun pins s σ H xs us Q I r ⟨i, e, q⟩ => call_int1 pins s σ H xs us Q I r (.inl ⟨i, e, q⟩)
theorem c_in {i : Int} (q : Q (.int i) H) : rIn1 [.int i] H Q := ⟨i, rfl, q⟩
def rMx : List V → Hp → VK → Prop := fun xs H Q => ∃ i j, xs = [.int i, .int j] ∧ Q (.int (if j > i then j else i)) H
theorem call_mx (hc : X.calm = true) : CallR X (.builtin "max") rMx := call_max2 hc
theorem c_mx {i j : Int} (q : Q (.int (if j > i then j else i)) H) : rMx [.int i, .int j] H Q := ⟨i, j, rfl, q⟩
def rMn : List V → Hp → VK → Prop := fun xs H Q => ∃ i j, xs = [.int i, .int j] ∧ Q (.int (if j < i then j else i)) H
theorem call_mn (hc : X.calm = true) : CallR X (.builtin "min") rMn := call_min2 hc
theorem c_mn {i j : Int} (q : Q (.int (if j < i then j else i)) H) : rMn [.int i, .int j] H Q := ⟨i, j, rfl, q⟩
def rLs (K : PySem.W.Frag) : List V → Hp → VK → Prop := fun xs H Q => ∃ p ys, xs = [.ref p] ∧ (SqL K H p ys ∨ SqT K H p ys) ∧ ∀ l, H l = none → Q (.ref l) (upd H l (.lst ys))
theorem call_ls : CallR X (.type "list") (rLs X.K) := call_list_of
theorem c_ls {p : Addr} {ys : List V} (h : SqL K H p ys) (q : ∀ l, H l = none → Q (.ref l) (upd H l (.lst ys))) : rLs K [.ref p] H Q := ⟨p, ys, rfl, .inl h, q⟩
theorem c_app {l : Addr} {xs : List V} (h : H l = some (.lst xs)) (z : xs.length < sizeLine) (q : Q .non (upd H l (.lst (xs ++ [v])))) : rAppend (.ref l) [v] H Q := ⟨l, xs, v, rfl, rfl, h, z, q⟩
theorem c_pop0 {l : Addr} {x : V} {xs : List V} (h : H l = some (.lst (x :: xs))) (z : xs.length < 100000) (q : Q x (upd H l (.lst xs))) : rPopAt (.ref l) [.int 0] H Q :=
  ⟨l, x :: xs, 0, 0, x, rfl, rfl, h, by decide, by decide, by
    unfold seqIndex?
    first | rfl | simp, rfl, q⟩
theorem c_setL {p : Addr} {xs : List V} {n : Int} {j : Nat} {R : Hp → Prop} (h : H p = some (.lst xs)) (e : n = (j : Int)) (hj : j < xs.length) (q : R (upd H p (.lst (xs.set j v)))) : rSetL (.ref p) (.int n) v H R := by
  subst e
  exact ⟨p, xs, _, j, rfl, rfl, h, Evl.ixN_nat hj, q⟩
theorem g_sub {to ti : TE} {ts : TSet} {σ : L2.St} {R : L2.St → Hp → Prop} (h : to σ H fun o H1 => ti σ H1 fun i H2 => ts o i v H2 fun H3 => R σ H3) : gSub to ti ts v σ H R := h
theorem o_cat {l b : Addr} {xs zs : List V} (h : H l = some (.lst xs)) (h' : H b = some (.lst zs)) (z : xs.length + zs.length ≤ sizeLine) (q : ∀ p, H p = none → Q (.ref p) (upd H p (.lst (xs ++ zs)))) : rCat (.ref l) (.ref b) H Q := ⟨l, b, xs, zs, rfl, rfl, h, h', z, q⟩
theorem o_slL {a : Addr} {xs : List V} {lo hi : Option Int} (h : SqL K H a xs) (q : ∀ p, H p = none → Q (.ref p) (upd H p (.lst (cutV xs lo hi)))) : rSlL K (.ref a) lo hi H Q := ⟨a, xs, rfl, h, q⟩
/-- data of one level, as PyData -/
def toD : V → PyData
  | .bl b => .bool b
  | .int i => .int i
  | .str x => .str x
  | _ => .none
def flat : V → Bool
  | .non => true | .bl _ => true | .int _ => true | .str x => PyData.strOk x | _ => false
theorem dp_flat {x : V} (h : flat x = true) : Dp K H x (toD x) := by
  cases x with
  | non => exact .non
  | bl b => exact .bl b
  | int i => exact .int i
  | str z => exact .str z
  | byt _ => cases h
  | flt _ => cases h
  | ref _ => cases h
  | ty _ => cases h
theorem dp_flats : ∀ {xs : List V}, (∀ x ∈ xs, flat x = true) → DpAll K H xs (xs.map toD)
  | [], _ => .nil
  | x :: xs, h => .cons (dp_flat (h x List.mem_cons_self)) (dp_flats fun y hy => h y (List.mem_cons_of_mem _ hy))
theorem lay_flat {x : V} (h : flat x = true) : (toD x).canLay0 = true := by
  cases x with
  | str z => show PyData.strOk z = true; exact h
  | non => rfl
  | bl b => rfl
  | int i => rfl
  | byt _ => cases h
  | flt _ => cases h
  | ref _ => cases h
  | ty _ => cases h
theorem lay_flats : ∀ {xs : List V}, (∀ x ∈ xs, flat x = true) → PyData.canLayAll0 (xs.map toD) = true
  | [], _ => rfl
  | x :: xs, h => by
    show ((toD x).canLay0 && PyData.canLayAll0 (xs.map toD)) = true
    rw [lay_flat (h x List.mem_cons_self), lay_flats fun y hy => h y (List.mem_cons_of_mem _ hy)]
    rfl
theorem depth_flat (x : V) : (toD x).depth ≤ 1 := by
  cases x <;> first | decide | (simp [toD, PyData.depth])
theorem depth_flats : ∀ xs : List V, PyData.depthAll (xs.map toD) ≤ 1
  | [] => by simp [PyData.depthAll]
  | x :: xs => by
    have h1 := depth_flat x
    have h2 := depth_flats xs
    show PyData.depthAll (toD x :: xs.map toD) ≤ 1
    simp only [PyData.depthAll]
    omega
theorem shaped_flat {x : V} (h : flat x = true) : SeqAt.shaped (toD x) = true := by
  show ((toD x).canLay0 && decide ((toD x).depth ≤ 64)) = true
  rw [lay_flat h, decide_eq_true (Nat.le_trans (depth_flat x) (by decide))]
  rfl
theorem shaped_flats {xs : List V} (h : ∀ x ∈ xs, flat x = true) : SeqAt.shaped (.list (xs.map toD)) = true := by
  have d1 := depth_flats xs
  show (PyData.canLay0 (.list (xs.map toD)) && decide (PyData.depth (.list (xs.map toD)) ≤ 64)) = true
  have e1 : PyData.canLay0 (.list (xs.map toD)) = PyData.canLayAll0 (xs.map toD) := by simp only [PyData.canLay0]
  have e2 : PyData.depth (.list (xs.map toD)) ≤ 64 := by simp only [PyData.depth]; omega
  rw [e1, lay_flats h, decide_eq_true e2]
  rfl
theorem shaped_flatT {xs : List V} (h : ∀ x ∈ xs, flat x = true) : SeqAt.shaped (.tuple (xs.map toD)) = true := by
  have d1 := depth_flats xs
  show (PyData.canLay0 (.tuple (xs.map toD)) && decide (PyData.depth (.tuple (xs.map toD)) ≤ 64)) = true
  have e1 : PyData.canLay0 (.tuple (xs.map toD)) = PyData.canLayAll0 (xs.map toD) := by simp only [PyData.canLay0]
  have e2 : PyData.depth (.tuple (xs.map toD)) ≤ 64 := by simp only [PyData.depth]; omega
  rw [e1, lay_flats h, decide_eq_true e2]
  rfl
/-- the same data on both sides -/
theorem eqv_self {d : PyData} (h : SeqAt.shaped d = true) : PyData.eqv d d = true := by
  have h1 : d.canLay0 = true := SeqAt.canLay_of_shaped h
  first | exact SeqAt.eqv_refl d h1 | exact P3.eqv_refl d h1 | exact eqv_refl d h1
theorem o_eqD {x y : V} {d : PyData} (h1 : Dp K H x d) (h2 : Dp K H y d) (s : SeqAt.shaped d = true) (q : Q (.bl true) H) : rEqD K x y H Q := ⟨d, d, h1, h2, s, s, by rw [eqv_self s]; exact q⟩
theorem o_neD {x y : V} {d : PyData} (h1 : Dp K H x d) (h2 : Dp K H y d) (s : SeqAt.shaped d = true) (q : Q (.bl false) H) : rNeD K x y H Q := ⟨d, d, h1, h2, s, s, by rw [eqv_self s]; exact q⟩
/-- two lists of plain values that are one list -/
theorem o_neL {a b : Addr} {xs : List V} (h1 : SqL K H a xs) (h2 : SqL K H b xs) (f : ∀ x ∈ xs, flat x = true) (q : Q (.bl false) H) : rNeD K (.ref a) (.ref b) H Q :=
  o_neD (.lst h1 (dp_flats f)) (.lst h2 (dp_flats f)) (shaped_flats f) q
theorem o_eqL {a b : Addr} {xs : List V} (h1 : SqL K H a xs) (h2 : SqL K H b xs) (f : ∀ x ∈ xs, flat x = true) (q : Q (.bl true) H) : rEqD K (.ref a) (.ref b) H Q :=
  o_eqD (.lst h1 (dp_flats f)) (.lst h2 (dp_flats f)) (shaped_flats f) q
theorem o_neT {a b : Addr} {xs : List V} (h1 : SqT K H a xs) (h2 : SqT K H b xs) (f : ∀ x ∈ xs, flat x = true) (q : Q (.bl false) H) : rNeD K (.ref a) (.ref b) H Q :=
  o_neD (.tup h1 (dp_flats f)) (.tup h2 (dp_flats f)) (shaped_flatT f) q
theorem flat_ints (ns : List Int) : ∀ x ∈ ns.map V.int, flat x = true := fun x hx => by
  obtain ⟨n, _, rfl⟩ := List.mem_map.mp hx
  rfl
end

/-! ### loops and comprehensions -/
section
variable {K : PySem.W.Frag} {D : Ends} {σ : L2.St} {H : Hp} {tb : TS} {te tl : TE} {tt tc : TT} {g : TG} {Q : VK} {j : Nat} {b : Addr} {xs ys : List V} {vs : List Nat}
theorem f_list (Pv : Nat → L2.St → Hp → Prop) (hv : σ[j]? = some (some (.ref b))) (hS : SqL K H b xs) (h0 : Pv 0 σ H) (hl : ∀ i σ' H', i ≤ xs.length → Pv i σ' H' → SqL K H' b xs)
    (hs : ∀ i x σ' H', xs[i]? = some x → Pv i σ' H' → g x σ' H' fun σ2 H2 => tb { D with nx := Pv (i + 1), ct := Pv (i + 1), bk := D.nx } σ2 H2) (hd : ∀ σ' H', Pv xs.length σ' H' → D.nx σ' H') : tFor (iList K (tVar j)) g tb D σ H :=
  ⟨_, hv, b, rfl, ⟨_, hS⟩, for_list Pv h0 hl hs hd⟩
/-- over a list that an expression hands back -/
theorem f_listE (h : tl σ H fun x H1 => ∃ (p : Addr) (xs : List V) (Pv : Nat → L2.St → Hp → Prop), x = .ref p ∧ SqL K H1 p xs ∧ Pv 0 σ H1 ∧ (∀ i σ' H', i ≤ xs.length → Pv i σ' H' → SqL K H' p xs) ∧
    (∀ i x σ' H', xs[i]? = some x → Pv i σ' H' → g x σ' H' fun σ2 H2 => tb { D with nx := Pv (i + 1), ct := Pv (i + 1), bk := D.nx } σ2 H2) ∧ ∀ σ' H', Pv xs.length σ' H' → D.nx σ' H') (up : ∀ R R' : VK, (∀ x H1, R x H1 → R' x H1) → tl σ H R → tl σ H R') : tFor (iList K tl) g tb D σ H :=
  up _ _ (fun _ _ ⟨p, xs, Pv, e, hS, h0, hl, hs, hd⟩ => ⟨p, e, ⟨xs, hS⟩, for_list Pv h0 hl hs hd⟩) h
/-- over the first n of a list -/
theorem f_listS {n : Int} (hv : σ[j]? = some (some (.ref b))) (hS : SqL K H b xs)
    (h : ∀ c, H c = none → ∃ Pv : Nat → L2.St → Hp → Prop, Pv 0 σ (upd H c (.lst (cutV xs none (some n)))) ∧ (∀ i σ' H', i ≤ (cutV xs none (some n)).length → Pv i σ' H' → SqL K H' c (cutV xs none (some n))) ∧
      (∀ i x σ' H', (cutV xs none (some n))[i]? = some x → Pv i σ' H' → g x σ' H' fun σ2 H2 => tb { D with nx := Pv (i + 1), ct := Pv (i + 1), bk := D.nx } σ2 H2) ∧ ∀ σ' H', Pv (cutV xs none (some n)).length σ' H' → D.nx σ' H') :
    tFor (iList K (tSl (rSlL K) (tVar j) tNoPart (tPart (tC (.int n))))) g tb D σ H := by
  show tSl (rSlL K) (tVar j) tNoPart (tPart (tC (.int n))) σ H _
  refine e_sl (e_var hv (p_no (p_some (e_c (k_i (o_slL hS fun c hc => ?_))))))
  obtain ⟨Pv, h0, hl, hs, hd⟩ := h c hc
  exact ⟨c, rfl, ⟨_, Or.inl (Or.inl upd_same)⟩, for_list Pv h0 hl hs hd⟩
theorem Fp.add {fp : List Addr} {H H1 H2 : Hp} (F : Fp [] H H1) (f : Fp fp H1 H2) (n : ∀ z ∈ fp, H z = none) : Fp [] H H2 := fun c o h m => f c o (F c o h (by simp)) fun z => by rw [n c z] at h; cases h
/-- for i in range(n) -/
def kRng (g : TG) (tb : TS) (D : Ends) (σ : L2.St) (x : V) (H1 : Hp) : Prop := iRng1 (fun _ _ R => R [x] H1) σ H1 fun J H1 => ∃ W : Nat → Nat → L2.St → Hp → Prop, (∃ m, W 0 m σ H1) ∧ ∀ i m σ H, W i m σ H →
  (J.stop i H ∧ D.nx σ H) ∨ (J.go i H ∧ ∃ N : L2.St → Hp → Prop, (∀ σ' H', N σ' H' → ∃ m', m' < m ∧ W (i + 1) m' σ' H') ∧ ∀ x H', J.yld i H x H' → g x σ H' fun σ2 H2 => tb { D with nx := N, ct := N, bk := D.nx } σ2 H2)
theorem f_rng1 (h : te σ H fun x H1 => kRng g tb D σ x H1) : tFor (iRng1 (tCons te tNil)) g tb D σ H := h
theorem k_rng (Pv : Nat → L2.St → Hp → Prop) {n : Int} (h1 : -(2 ^ 62) ≤ n) (h2 : n < 2 ^ 62) (h0 : Pv 0 σ H)
    (hs : ∀ i σ' H', i < n.toNat → Pv i σ' H' → g (.int (i : Nat)) σ' H' fun σ2 H2 => tb { D with nx := Pv (i + 1), ct := Pv (i + 1), bk := D.nx } σ2 H2) (hd : ∀ σ' H', Pv n.toNat σ' H' → D.nx σ' H') : kRng g tb D σ (.int n) H :=
  ⟨n, rfl, h1, h2, for_range (lo := 0) (n := n.toNat) Pv h0 (fun i σ' H' hi p => by
    have e0 : (0 : Int) + (i : Int) = (i : Int) := Int.zero_add _
    rw [e0]
    exact hs i σ' H' hi p) hd⟩
theorem w_by (W : Nat → L2.St → Hp → Prop) (m0 : Nat) (h0 : W m0 σ H) (hs : ∀ m σ' H', W m σ' H' → tc σ' H' fun k H1 => if k = true then ∃ N : L2.St → Hp → Prop, (∀ σ2 H2, N σ2 H2 → ∃ m', m' < m ∧ W m' σ2 H2) ∧ tb { D with nx := N, ct := N, bk := D.nx } σ' H1 else D.nx σ' H1) :
    tWhile tc tb D σ H := ⟨W, ⟨m0, h0⟩, hs⟩
theorem take_snoc {α : Type} {l : List α} {i : Nat} {x : α} (h : l[i]? = some x) : l.take (i + 1) = l.take i ++ [x] := by
  obtain ⟨hi, rfl⟩ := List.getElem?_eq_some_iff.mp h
  rw [List.take_succ, List.getElem?_eq_getElem hi]
  rfl
/-- [e for x in xs], e without a trace in the heap -/
theorem lc_pure (hv : σ[j]? = some (some (.ref b))) (hS : SqL K H b xs) (hlen : ys.length = xs.length) (hz : xs.length < 100000)
    (hs : ∀ (E : Addr) (i : Nat) (x y : V) (H' : Hp) (R : VK), H E = none → xs[i]? = some x → ys[i]? = some y → H' = upd H E (.lst (ys.take i)) → R y H' → g x (wipe σ vs) H' fun σ2 H2 => wipe σ2 vs = wipe σ vs ∧ te σ2 H2 R)
    (q : ∀ E, H E = none → Q (.ref E) (upd H E (.lst ys))) : tLc (iList K (tVar j)) g tYes te vs σ H Q := by
  refine ⟨_, hv, b, rfl, ⟨_, hS⟩, fun E hE => ?_⟩
  refine lc_list (K := K) (a := b) (xs := xs) (fun i H' => H' = upd H E (.lst (ys.take i))) (by rw [List.take_zero]) (fun i H' hi e => ?_) (fun i x H' hx e => ?_) fun H' e => ?_
  · subst e; exact (Fp.new (fp := []) hE).seq (by simp) hS
  · have hi : i < xs.length := (List.getElem?_eq_some_iff.mp hx).1
    have hy : ys[i]? = some ys[i] := List.getElem?_eq_getElem (by omega)
    have z := hs E i x _ H' (fun y H4 => ∃ acc, H4 E = some (.lst acc) ∧ acc.length < sizeLine ∧ upd H4 E (.lst (acc ++ [y])) = upd H E (.lst (ys.take (i + 1)))) hE hx hy e
      ⟨ys.take i, by rw [e]; exact upd_same, szl (by rw [List.length_take]; omega), by rw [e, upd_upd, take_snoc hy]⟩
    exact z
  · rw [e, ← hlen, List.take_length]
    exact q E hE
theorem lc_pureR {n : Int} (h1 : 0 ≤ n) (h2 : n < 100000) (hlen : (ys.length : Int) = n)
    (hs : ∀ (E : Addr) (i : Nat) (y : V) (H' : Hp) (R : VK), H E = none → (i : Int) < n → ys[i]? = some y → H' = upd H E (.lst (ys.take i)) → R y H' → g (.int (i : Nat)) (wipe σ vs) H' fun σ2 H2 => wipe σ2 vs = wipe σ vs ∧ te σ2 H2 R)
    (q : ∀ E, H E = none → Q (.ref E) (upd H E (.lst ys))) : (iRng1 (fun _ _ R => R [V.int n] H)) σ H fun J H1 => ∀ E, H1 E = none → ∃ W : Nat → Nat → Hp → Prop, (∃ m, W 0 m (upd H1 E (.lst []))) ∧ ∀ i m H, W i m H →
    (J.stop i H ∧ Q (.ref E) H) ∨ (J.go i H ∧ ∃ Nx : Hp → Prop, (∀ H', Nx H' → ∃ m', m' < m ∧ W (i + 1) m' H') ∧ ∀ x H', J.yld i H x H' → g x (wipe σ vs) H' fun σ2 H2 => wipe σ2 vs = wipe σ vs ∧ tYes σ2 H2 fun b H3 =>
      if b = true then te σ2 H3 fun y H4 => ∃ acc, H4 E = some (.lst acc) ∧ acc.length < sizeLine ∧ Nx (upd H4 E (.lst (acc ++ [y]))) else Nx H3) := by
  refine ⟨n, rfl, by omega, by omega, fun E hE => ?_⟩
  refine lc_range (lo := 0) (n := n.toNat) (fun i H' => H' = upd H E (.lst (ys.take i))) (by rw [List.take_zero]) (fun i H' hi e => ?_) fun H' e => ?_
  · have hy : ys[i]? = some ys[i] := List.getElem?_eq_getElem (by omega)
    have e0 : (0 : Int) + (i : Int) = (i : Int) := Int.zero_add _
    rw [e0]
    exact hs E i _ H' (fun y H4 => ∃ acc, H4 E = some (.lst acc) ∧ acc.length < sizeLine ∧ upd H4 E (.lst (acc ++ [y])) = upd H E (.lst (ys.take (i + 1)))) hE (by omega) hy e
      ⟨ys.take i, by rw [e]; exact upd_same, szl (by rw [List.length_take]; omega), by rw [e, upd_upd, take_snoc hy]⟩
  · have : n.toNat = ys.length := by omega
    rw [e, this, List.take_length]
    exact q E hE
def kLcR (g : TG) (te : TE) (vs : List Nat) (σ : L2.St) (Q : VK) (x : V) (H : Hp) : Prop := (iRng1 (fun _ _ R => R [x] H)) σ H fun J H1 => ∀ E, H1 E = none → ∃ W : Nat → Nat → Hp → Prop, (∃ m, W 0 m (upd H1 E (.lst []))) ∧ ∀ i m H, W i m H →
    (J.stop i H ∧ Q (.ref E) H) ∨ (J.go i H ∧ ∃ Nx : Hp → Prop, (∀ H', Nx H' → ∃ m', m' < m ∧ W (i + 1) m' H') ∧ ∀ x H', J.yld i H x H' → g x (wipe σ vs) H' fun σ2 H2 => wipe σ2 vs = wipe σ vs ∧ tYes σ2 H2 fun b H3 =>
      if b = true then te σ2 H3 fun y H4 => ∃ acc, H4 E = some (.lst acc) ∧ acc.length < sizeLine ∧ Nx (upd H4 E (.lst (acc ++ [y]))) else Nx H3)
theorem fm_snoc {α : Type} {f : α → Option V} {l : List α} {i : Nat} {x : α} (h : l[i]? = some x) : (l.take (i + 1)).filterMap f = (l.take i).filterMap f ++ (f x).toList := by
  rw [take_snoc h, List.filterMap_append]
  cases e : f x <;> simp [e]
/-- [e for x in xs if t], where t and e may make new objects -/
theorem lc_filt (f : V → Option V) (hv : σ[j]? = some (some (.ref b))) (hS : SqL K H b xs) (hz : xs.length < 100000)
    (hs : ∀ (E : Addr) (i : Nat) (x : V) (H' : Hp) (R : VK) (N : Hp → Prop), H E = none → xs[i]? = some x → H' E = some (.lst ((xs.take i).filterMap f)) → Fp [] H H' → (∀ y H4, f x = some y → Fp [] H' H4 → R y H4) → (f x = none → ∀ H4, Fp [] H' H4 → N H4) →
      g x (wipe σ vs) H' fun σ2 H2 => wipe σ2 vs = wipe σ vs ∧ tt σ2 H2 fun k H3 => if k = true then te σ2 H3 R else N H3)
    (q : ∀ E H', H E = none → H' E = some (.lst (xs.filterMap f)) → Fp [] H H' → Q (.ref E) H') : tLc (iList K (tVar j)) g tt te vs σ H Q := by
  refine ⟨_, hv, b, rfl, ⟨_, hS⟩, fun E hE => ?_⟩
  refine lc_list (K := K) (a := b) (xs := xs) (fun i H' => H' E = some (.lst ((xs.take i).filterMap f)) ∧ Fp [] H H') ⟨by rw [List.take_zero]; exact upd_same, Fp.new hE⟩ (fun i H' hi e => ?_) (fun i x H' hx e => ?_) fun H' e => ?_
  · exact e.2.seq (by simp) hS
  · have hi : i < xs.length := (List.getElem?_eq_some_iff.mp hx).1
    exact hs E i x H' (fun y H4 => ∃ acc, H4 E = some (.lst acc) ∧ acc.length < sizeLine ∧ (upd H4 E (.lst (acc ++ [y]))) E = some (.lst ((xs.take (i + 1)).filterMap f)) ∧ Fp [] H (upd H4 E (.lst (acc ++ [y])))) (fun H4 => H4 E = some (.lst ((xs.take (i + 1)).filterMap f)) ∧ Fp [] H H4) hE hx e.1 e.2
      (fun y H4 ey f4 => ⟨_, f4 _ _ e.1 (by simp), szl (Nat.lt_of_le_of_lt (List.length_filterMap_le _ _) (by rw [List.length_take]; omega)), by rw [upd_same, fm_snoc hx, ey]; rfl, Fp.drop (fp := [E]) (((e.2.trans f4).mono (by simp)).trans (Fp.at_ (by simp))) fun z hz => by rcases List.mem_singleton.mp hz with rfl; exact .inr hE⟩)
      (fun ey H4 f4 => ⟨by rw [fm_snoc hx, ey]; simpa using f4 _ _ e.1 (by simp), e.2.trans f4⟩)
  · rw [List.take_length] at e
    exact q E H' hE e.1 e.2
def kLcF (g : TG) (tt : TT) (te : TE) (vs : List Nat) (σ : L2.St) (Q : VK) (x : V) (H : Hp) : Prop := (iRng1 (fun _ _ R => R [x] H)) σ H fun J H1 => ∀ E, H1 E = none → ∃ W : Nat → Nat → Hp → Prop, (∃ m, W 0 m (upd H1 E (.lst []))) ∧ ∀ i m H, W i m H →
    (J.stop i H ∧ Q (.ref E) H) ∨ (J.go i H ∧ ∃ Nx : Hp → Prop, (∀ H', Nx H' → ∃ m', m' < m ∧ W (i + 1) m' H') ∧ ∀ x H', J.yld i H x H' → g x (wipe σ vs) H' fun σ2 H2 => wipe σ2 vs = wipe σ vs ∧ tt σ2 H2 fun b H3 =>
      if b = true then te σ2 H3 fun y H4 => ∃ acc, H4 E = some (.lst acc) ∧ acc.length < sizeLine ∧ Nx (upd H4 E (.lst (acc ++ [y]))) else Nx H3)
theorem e_lcF (h : tl σ H fun x H1 => kLcF g tt te vs σ Q x H1) : tLc (iRng1 (tCons tl tNil)) g tt te vs σ H Q := h
theorem fm_range {f : Nat → Option V} {i : Nat} : (List.range (i + 1)).filterMap f = (List.range i).filterMap f ++ (f i).toList := by
  rw [List.range_succ, List.filterMap_append]
  cases e : f i <;> simp [e]
/-- [e for i in range(n) if t] -/
theorem k_lcF {n : Int} (f : Nat → Option V) (h1 : 0 ≤ n) (h2 : n < 100000)
    (hs : ∀ (E : Addr) (i : Nat) (H' : Hp) (R : VK) (N : Hp → Prop), H E = none → (i : Int) < n → H' E = some (.lst ((List.range i).filterMap f)) → Fp [] H H' → (∀ y H4, f i = some y → Fp [] H' H4 → R y H4) → (f i = none → ∀ H4, Fp [] H' H4 → N H4) →
      g (.int (i : Nat)) (wipe σ vs) H' fun σ2 H2 => wipe σ2 vs = wipe σ vs ∧ tt σ2 H2 fun k H3 => if k = true then te σ2 H3 R else N H3)
    (q : ∀ E H', H E = none → H' E = some (.lst ((List.range n.toNat).filterMap f)) → Fp [] H H' → Q (.ref E) H') : kLcF g tt te vs σ Q (.int n) H := by
  refine ⟨n, rfl, by omega, by omega, fun E hE => ?_⟩
  refine lc_range (lo := 0) (n := n.toNat) (fun i H' => H' E = some (.lst ((List.range i).filterMap f)) ∧ Fp [] H H') ⟨upd_same, Fp.new hE⟩ (fun i H' hi e => ?_) fun H' e => q E H' hE e.1 e.2
  have e0 : (0 : Int) + (i : Int) = (i : Int) := Int.zero_add _
  rw [e0]
  exact hs E i H' (fun y H4 => ∃ acc, H4 E = some (.lst acc) ∧ acc.length < sizeLine ∧ (upd H4 E (.lst (acc ++ [y]))) E = some (.lst ((List.range (i + 1)).filterMap f)) ∧ Fp [] H (upd H4 E (.lst (acc ++ [y])))) (fun H4 => H4 E = some (.lst ((List.range (i + 1)).filterMap f)) ∧ Fp [] H H4) hE (by omega) e.1 e.2
    (fun y H4 ey f4 => ⟨_, f4 _ _ e.1 (by simp), szl (Nat.lt_of_le_of_lt (List.length_filterMap_le _ _) (by rw [List.length_range]; omega)), by rw [upd_same, fm_range, ey]; rfl, Fp.drop (fp := [E]) (((e.2.trans f4).mono (by simp)).trans (Fp.at_ (by simp))) fun z hz => by rcases List.mem_singleton.mp hz with rfl; exact .inr hE⟩)
    (fun ey H4 f4 => ⟨by rw [fm_range, ey]; simpa using f4 _ _ e.1 (by simp), e.2.trans f4⟩)
theorem e_lcR (h : tl σ H fun x H1 => kLcR g te vs σ Q x H1) : tLc (iRng1 (tCons tl tNil)) g tYes te vs σ H Q := h
theorem k_lcR {n : Int} (h1 : 0 ≤ n) (h2 : n < 100000) (hlen : (ys.length : Int) = n)
    (hs : ∀ (E : Addr) (i : Nat) (y : V) (H' : Hp) (R : VK), H E = none → (i : Int) < n → ys[i]? = some y → H' = upd H E (.lst (ys.take i)) → R y H' → g (.int (i : Nat)) (wipe σ vs) H' fun σ2 H2 => wipe σ2 vs = wipe σ vs ∧ te σ2 H2 R)
    (q : ∀ E, H E = none → Q (.ref E) (upd H E (.lst ys))) : kLcR g te vs σ Q (.int n) H := lc_pureR h1 h2 hlen hs q
end

theorem atI_zero {α : Type} (x : α) (xs : List α) : atI (x :: xs) 0 = some x := by
  have h : (x :: xs)[0]? = some x := rfl
  exact atI_nat (j := 0) h
theorem int_inj {i j : Int} (h : V.int i = V.int j) : i = j := V.int.inj h
theorem int_ne {i j : Int} (h : ¬ V.int i = V.int j) : i ≠ j := fun z => h (by rw [z])

theorem k_ty {K : PySem.W.Frag} {H : Hp} {p : Addr} {xs : List V} {R : Prop} (h : SqL K H p xs) (q : R) : tyV K "list" (.ref p) H ∧ R := ⟨Or.inl ⟨rfl, xs, h⟩, q⟩

theorem o_rep {K : PySem.W.Frag} {H : Hp} {Q : VK} {l : Addr} {n : Int} {xs : List V} (h : H l = some (.lst xs)) (h1 : 0 ≤ n) (h2 : xs.length * n.toNat ≤ 100000) (h3 : n < 2 ^ 63) (q : ∀ p, H p = none → Q (.ref p) (upd H p (.lst (List.replicate n.toNat xs).flatten))) : rRep (.ref l) (.int n) H Q :=
  ⟨l, n, xs, rfl, rfl, h, by omega, h3, sz h2, q⟩

theorem c_isBool {K : PySem.W.Frag} {H : Hp} {Q : VK} {b : Bool} (q : Q (.bl true) H) : rIsi K [.bl b, .ty "bool"] H Q := ⟨.bl b, .ty "bool", .type "bool", .type "bool", true, rfl, .ty _, .base (.bl b), kit_ty (by decide +kernel), q⟩
theorem c_isInt {K : PySem.W.Frag} {H : Hp} {Q : VK} {n : Int} (q : Q (.bl true) H) : rIsi K [.int n, .ty "int"] H Q := ⟨.int n, .ty "int", .type "int", .type "int", true, rfl, .ty _, .base (.int n), kit_ty (by decide +kernel), q⟩
theorem c_isBoolN {K : PySem.W.Frag} {H : Hp} {Q : VK} {n : Int} (q : Q (.bl false) H) : rIsi K [.int n, .ty "bool"] H Q := ⟨.int n, .ty "bool", .type "int", .type "bool", false, rfl, .ty _, .base (.int n), kit_ty (by decide +kernel), q⟩
theorem c_isList {K : PySem.W.Frag} {H : Hp} {Q : VK} {a : Addr} {xs : List V} (h : H a = some (.lst xs)) (q : Q (.bl true) H) : rIsi K [.ref a, .ty "list"] H Q := ⟨.ref a, .ty "list", .type "list", .type "list", true, rfl, .ty _, .base (.lst h), kit_ty (by decide +kernel), q⟩
theorem c_isTup {K : PySem.W.Frag} {H : Hp} {Q : VK} {a : Addr} {xs : List V} (h : H a = some (.tup xs)) (q : Q (.bl true) H) : rIsi K [.ref a, .ty "tuple"] H Q := ⟨.ref a, .ty "tuple", .type "tuple", .type "tuple", true, rfl, .ty _, .base (.tup h), kit_ty (by decide +kernel), q⟩
theorem c_isTupB {K : PySem.W.Frag} {H : Hp} {Q : VK} {a : Addr} {xs : List V} (h : H a = some (.tup xs)) (q : Q (.bl false) H) : rIsi K [.ref a, .ty "bool"] H Q := ⟨.ref a, .ty "bool", .type "tuple", .type "bool", false, rfl, .ty _, .base (.tup h), kit_ty (by decide +kernel), q⟩
/-- is True, is False -/
def rIsB : V → V → Hp → VK → Prop := fun x y H Q => ∃ a b, x = .bl a ∧ y = .bl b ∧ Q (.bl (decide (a = b))) H
def rNotB : V → V → Hp → VK → Prop := fun x y H Q => ∃ a b, x = .bl a ∧ y = .bl b ∧ Q (.bl (!decide (a = b))) H
theorem bo_beq (a b : Bool) : (Value.bool a == Value.bool b) = decide (a = b) := by cases a <;> cases b <;> decide +kernel
theorem op_isB {X : Cx} : OpR X (compareOp .Is) rIsB := by
  intro pins s σ H x y v u Q I rx ry h
  obtain ⟨a, b, rfl, rfl, q⟩ := h
  cases (show v = Value.bool a from rx)
  cases (show u = Value.bool b from ry)
  exact wpAny_is_plain rfl (fin_bl I q (bo_beq a b).symm)
theorem op_notB {X : Cx} : OpR X (compareOp .IsNot) rNotB := by
  intro pins s σ H x y v u Q I rx ry h
  obtain ⟨a, b, rfl, rfl, q⟩ := h
  cases (show v = Value.bool a from rx)
  cases (show u = Value.bool b from ry)
  exact wpAny_isNot_plain rfl (fin_bl I q (congrArg not (bo_beq a b).symm))
theorem o_isB {H : Hp} {Q : VK} {a b : Bool} (q : Q (.bl (decide (a = b))) H) : rIsB (.bl a) (.bl b) H Q := ⟨a, b, rfl, rfl, q⟩
theorem o_notB {H : Hp} {Q : VK} {a b : Bool} (q : Q (.bl (!decide (a = b))) H) : rNotB (.bl a) (.bl b) H Q := ⟨a, b, rfl, rfl, q⟩
theorem c_isTupI {K : PySem.W.Frag} {H : Hp} {Q : VK} {n : Int} (q : Q (.bl false) H) : rIsi K [.int n, .ty "tuple"] H Q := ⟨.int n, .ty "tuple", .type "int", .type "tuple", false, rfl, .ty _, .base (.int n), kit_ty (by decide +kernel), q⟩
theorem c_isNonB {K : PySem.W.Frag} {H : Hp} {Q : VK} (q : Q (.bl false) H) : rIsi K [.non, .ty "bool"] H Q := ⟨.non, .ty "bool", .type "NoneType", .type "bool", false, rfl, .ty _, .base .non, kit_ty (by decide +kernel), q⟩
theorem c_isNonT {K : PySem.W.Frag} {H : Hp} {Q : VK} (q : Q (.bl false) H) : rIsi K [.non, .ty "tuple"] H Q := ⟨.non, .ty "tuple", .type "NoneType", .type "tuple", false, rfl, .ty _, .base .non, kit_ty (by decide +kernel), q⟩
theorem k_bl {c : Bool} {P : Bool → Prop} (h : P c) : ∃ c', V.bl c = V.bl c' ∧ P c' := ⟨c, rfl, h⟩

section
variable {K : PySem.W.Frag} {H : Hp} {Q : VK} {σ : L2.St} {te : TE} {C D ae dd CT : Addr} {f : Str} {fs : List (Str × V)} {v : V} {cls : Value} {de : Option Addr}
def kXf (a : Addr) (cls : Value) (d : Option Addr) (C : Addr) (f : Str) (x : V) (H1 : Hp) (Q : VK) : Prop := x = .ref a ∧ cls = .ref C ∧ ∃ (dd : Addr) (fs : List (Str × V)) (v : V), d = some dd ∧ H1 dd = some (.xd fs) ∧ fs.lookup f = some v ∧ Q v H1
theorem e_xf (h : te σ H fun x H1 => kXf ae cls de C f x H1 Q) : tXf ae cls de C f te σ H Q := h
theorem k_xf (h : H dd = some (.xd fs)) (l : fs.lookup f = some v) (q : Q v H) : kXf ae (.ref C) (some dd) C f (.ref ae) H Q := ⟨rfl, rfl, dd, fs, v, rfl, h, l, q⟩
theorem c_isED (h : H dd = some (.xd fs)) (k : PySem.W.kitOne K (.ref D) (.ref CT) = some true) (q : Q (.bl true) H) : rIsED K D ae (.ref D) (some dd) [.ref ae, .ref CT] H Q :=
  ⟨.ref CT, .ref CT, true, dd, fs, rfl, rfl, rfl, h, fun u r => r, k, q⟩
theorem c_isEDty {n : String} (h : H dd = some (.xd fs)) (k : PySem.W.kitOne K (.ref D) (.type n) = some true) (q : Q (.bl true) H) : rIsED K D ae (.ref D) (some dd) [.ref ae, .ty n] H Q :=
  ⟨.ty n, .type n, true, dd, fs, rfl, rfl, rfl, h, fun u r => r, k, q⟩
theorem w_as {c : Value} {i : Nat} {ts : Addr → Value → Option Addr → TS} {Wout : WX} {D : Ends} (e : PySem.W.exmOne K cls c = some true)
    (h : ∀ a, H a = none → ts a cls de { nx := fun σ' H' => D.nx (σ'.set i none) H', rt := D.rt, bk := fun σ' H' => D.bk (σ'.set i none) H', ct := fun σ' H' => D.ct (σ'.set i none) H' } (σ.set i (some (.ref a))) H) : WE (wAs K c i ts Wout D) σ cls de H :=
  ⟨true, e, fun _ => h, fun z => Bool.noConfusion z⟩
end

theorem s_cut {D : Ends} {σ : L2.St} {H : Hp} {t u : TS} (Mid : L2.St → Hp → Prop) (h1 : t { D with nx := Mid } σ H) (h2 : ∀ σ' H', Mid σ' H' → u D σ' H') : Evl.tCut t u D σ H := ⟨Mid, h1, h2⟩

/-- a test whose outcomes are told once -/
def tUpT (t : TT) : TT := fun σ H Q => ∃ P : Bool → Hp → Prop, t σ H P ∧ ∀ b H1, P b H1 → Q b H1
theorem pt_up {X : Cx} {e : Expr} {t : TT} (h : PT X e t) : PT X e (tUpT t) := ⟨fun pins s σ H Q I ⟨P, q, m⟩ => thn (h.run pins s σ H P I q) fun _ _ ⟨H1, J, z⟩ => ⟨H1, J, m _ _ z⟩⟩
theorem t_up {t : TT} {σ : L2.St} {H : Hp} {Q : Bool → Hp → Prop} (P : Bool → Hp → Prop) (h : t σ H P) (k : ∀ b H1, P b H1 → Q b H1) : tUpT t σ H Q := ⟨P, h, k⟩
theorem cut1 {x : V} {xs : List V} : cutV (x :: xs) (some 1) none = xs := by
  unfold cutV
  simp [HT.sIx]

/-! ### dicts by texts -/
section
variable {K : PySem.W.Frag} {D : Ends} {σ : L2.St} {H : Hp} {Q : VK} {td ty tv te : TE} {a : Addr} {kvs : List (Key × V)} {s : Str} {v : V} {x y c : Int} {i : Nat}
theorem val_hit (k : Key) (v : V) (r : List (Key × V)) : valV ((k, v) :: r) k = some v := by simp [valV]
theorem val_miss {k k' : Key} (h : ¬ k = k') (v : V) (r : List (Key × V)) : valV ((k, v) :: r) k' = valV r k' := by simp [valV, h]
theorem val_nil (k : Key) : valV ([] : List (Key × V)) k = none := rfl
def kDGet (x y : V) (H : Hp) (Q : VK) : Prop := ∃ a v, x = .ref a ∧ DGet H a y (some v) ∧ Q v H
theorem e_dget (h : td σ H fun x H1 => ty σ H1 fun y H2 => kDGet x y H2 Q) : tDGet td ty σ H Q := h
theorem k_dget (h : H a = some (.dK kvs)) (l : valV kvs (Sum.inr s) = some v) (q : Q v H) : kDGet (.ref a) (.str s) H Q := ⟨a, v, rfl, .inl ⟨kvs, Sum.inr s, .inl h, rfl, l.symm⟩, q⟩
def kDPut (v x y : V) (H : Hp) (R : Hp → Prop) : Prop := ∃ a H4, x = .ref a ∧ DPut H a y v H4 ∧ R H4
theorem s_dput (h : tv σ H fun v H1 => td σ H1 fun x H2 => ty σ H2 fun y H3 => kDPut v x y H3 (D.nx σ)) : sDPut td ty tv D σ H := h
theorem k_dput {R : Hp → Prop} (h : H a = some (.dK kvs)) (hl : kvs.length < 100000) (q : R (upd H a (.dK (putK kvs (Sum.inr s) v)))) : kDPut v (.ref a) (.str s) H R := ⟨a, _, rfl, DPut.k (k := Sum.inr s) h (szl hl), q⟩
theorem c_sum {ns : List Int} (h : SqL K H a (ns.map V.int)) (q : Q (.int ns.sum) H) : rSum K [.ref a] H Q := ⟨a, ns, rfl, h, q⟩
/-! ### x ≤ y ≤ c -/
theorem o_chC (q : Q (.bl (decide (x ≤ y ∧ y ≤ c))) H) :
    rI0 (fun i j => V.bl (decide (i ≤ j))) (.int x) (.int y) H fun z H3 => kT z H3 fun k H4 => if k = true then tC (.int c) σ H4 fun w' H5 => rI0 (fun i j => V.bl (decide (i ≤ j))) (.int y) w' H5 Q else Q (.bl false) H4 := by
  refine o_I0 (k_t ?_)
  refine if_d (fun h => e_c (o_I0 ?_)) (fun h => ?_)
  · rw [show decide (y ≤ c) = decide (x ≤ y ∧ y ≤ c) from decide_eq_decide.mpr ⟨fun z => ⟨h, z⟩, fun z => z.2⟩]; exact q
  · rw [show false = decide (x ≤ y ∧ y ≤ c) from (decide_eq_false fun z => h z.1).symm]; exact q
theorem o_chV (hv : σ[i]? = some (some (.int c))) (q : Q (.bl (decide (x ≤ y ∧ y ≤ c))) H) :
    rI0 (fun i j => V.bl (decide (i ≤ j))) (.int x) (.int y) H fun z H3 => kT z H3 fun k H4 => if k = true then tVar i σ H4 fun w' H5 => rI0 (fun i j => V.bl (decide (i ≤ j))) (.int y) w' H5 Q else Q (.bl false) H4 := by
  refine o_I0 (k_t ?_)
  refine if_d (fun h => e_var hv (o_I0 ?_)) (fun h => ?_)
  · rw [show decide (y ≤ c) = decide (x ≤ y ∧ y ≤ c) from decide_eq_decide.mpr ⟨fun z => ⟨h, z⟩, fun z => z.2⟩]; exact q
  · rw [show false = decide (x ≤ y ∧ y ≤ c) from (decide_eq_false fun z => h z.1).symm]; exact q
theorem e_makeK {C : Addr} {m : Nat} {sp : Sp} {gV : List V → List V → List V} {ES : L2.St → XK} {tk : TA} (h : tk σ H fun zs H2 => zs.length = m ∧ ∀ x dx, H2 x = none → H2 dx = none → dx ≠ x →
  sp (gV [.ref x] zs) (upd (upd H2 dx (.own x)) x (.ins C dx [])) (fun v H3 => v = .non ∧ Q (.ref x) H3) (ES σ)) : tMakeKS C m sp gV ES tk σ H Q := h
def kTup (K : PySem.W.Frag) (n : Nat) (t : TGs) (v : V) (σ : L2.St) (H : Hp) (R : L2.St → Hp → Prop) : Prop := ∃ a xs, v = .ref a ∧ SqT K H a xs ∧ xs.length = n ∧ t xs σ H R
theorem g_tup {n : Nat} {t : TGs} {R : L2.St → Hp → Prop} {xs : List V} (h : SqT K H a xs) (hn : xs.length = n) (q : t xs σ H R) : gTup K n t (.ref a) σ H R := ⟨a, xs, rfl, h, hn, q⟩
theorem g_cons {t : TG} {u : TGs} {R : L2.St → Hp → Prop} {r : List V} (q : t v σ H fun σ' H' => u r σ' H' R) : gCons t u (v :: r) σ H R := ⟨v, r, rfl, q⟩
theorem g_nil {R : L2.St → Hp → Prop} (q : R σ H) : gNil [] σ H R := ⟨rfl, q⟩
end

def PL (fs : List (Str × V)) (n : Nat) : Prop := fs.length ≤ n
theorem PL.nil {n : Nat} : PL [] n := Nat.zero_le _
theorem putF_length (f : Str) (v : V) : ∀ fs : List (Str × V), (putF f v fs).length ≤ fs.length + 1
  | [] => Nat.le_refl _
  | (g, y) :: r => by
    by_cases h : g = f
    · rw [show putF f v ((g, y) :: r) = (g, v) :: r from if_pos h]
      exact Nat.le_succ _
    · rw [putF_miss h]
      exact Nat.succ_le_succ (putF_length f v r)
theorem PL.put {f : Str} {v : V} {fs : List (Str × V)} {n : Nat} (h : PL fs n) : PL (putF f v fs) (n + 1) := Nat.le_trans (putF_length f v fs) (Nat.succ_le_succ h)
theorem PL.lt {fs : List (Str × V)} {n : Nat} (h : PL fs n) (hn : n < 1000) : fs.length < 1000 := Nat.lt_of_le_of_lt h hn

/-- objects that stand -/
def Obs (H : Hp) (l : List (Addr × HO)) : Prop := ∀ p ∈ l, H p.1 = some p.2
theorem Obs.nil {H : Hp} : Obs H [] := fun p hp => by cases hp
theorem Obs.fp {H H1 : Hp} {l : List (Addr × HO)} {fp : List Addr} (u : Obs H l) (f : Fp fp H H1) (n : ∀ p ∈ l, p.1 ∉ fp) : Obs H1 l := fun p hp => f _ _ (u p hp) (n p hp)
theorem Obs.fp0 {H H1 : Hp} {l : List (Addr × HO)} (u : Obs H l) (f : Fp [] H H1) : Obs H1 l := u.fp f fun _ _ => by simp
theorem Obs.add {H : Hp} {l : List (Addr × HO)} {t : Addr} {o : HO} (u : Obs H l) (h : H t = none) : Obs (upd H t o) ((t, o) :: l) := fun p hp => by
  rcases List.mem_cons.mp hp with rfl | hp
  · exact upd_same
  · exact Fp.new (fp := []) h _ _ (u p hp) (by simp)
theorem Obs.cons {H : Hp} {l : List (Addr × HO)} {t : Addr} {o : HO} (u : Obs H l) (h : H t = some o) : Obs H ((t, o) :: l) := fun p hp => by
  rcases List.mem_cons.mp hp with rfl | hp
  · exact h
  · exact u p hp
/-- xs[i], read for an augmented assignment -/
theorem get_list {X : Cx} : PGet X (rIxL X.K) := by
  intro pins s σ H o i ov iv Q I rx ry h
  obtain ⟨p, xs, n, z, rfl, rfl, hq, he, q⟩ := h
  cases rx
  obtain ⟨t, rfl⟩ := ry
  obtain ⟨its, r, pl, hz⟩ := I.list hq
  obtain ⟨j, h1, h2, h3, h4, h5⟩ := atI_get he
  obtain ⟨w, ew, rw'⟩ := r.get h2
  have hl := r.length
  have hn := line63
  have fin : EP X pins σ Q w s := ⟨z, H, I, rw', q⟩
  by_cases h0 : 0 ≤ n
  · have hj : n.toNat = j := by
      rw [seqIndex_of h0 h5] at h1
      exact Option.some.inj h1
    refine L2.thn (wpAny_getItem_list (x := w) (Q := fun r s' => r = w ∧ EP X pins σ Q r s') pl.isList h0 (by omega) (by rw [hj]; simpa using ew) ⟨rfl, fin⟩) fun _ _ e => e.2
  · have hj : (n + (its.toArray.size : Int)).toNat = j := by
      rw [seqIndex_neg (by omega) h4] at h1
      rw [List.size_toArray, ← hl]
      exact Option.some.inj h1
    refine L2.thn (wpAny_getItem_list_neg (x := w) (Q := fun r s' => r = w ∧ EP X pins σ Q r s') pl.isList (by omega) (by rw [List.size_toArray] <;> omega) (by omega) (by rw [hj]; simpa using ew) ⟨rfl, fin⟩) fun _ _ e => e.2
theorem s_augS {D : Ends} {σ : L2.St} {H : Hp} {to ti te : TE} {tget : V → V → Hp → VK → Prop} {tip : TIp} {tset : TSet} (h : to σ H fun o H1 => ti σ H1 fun i H2 => tget o i H2 fun x H3 => te σ H3 fun y H4 => tip x y H4 fun z H5 => tset o i z H5 fun H6 => D.nx σ H6) : tAugS to ti te tget tip tset D σ H := h
theorem ip_I {f : Int → Int → Int} {m n : Int} {H : Hp} {Q : VK} (q : Q (.int (f m n)) H) : ipI f (.int m) (.int n) H Q := ⟨m, n, rfl, rfl, q⟩
def kAug (i : Nat) (te : TE) (tip : TIp) (σ : L2.St) (x : V) (H : Hp) (N : L2.St → Hp → Prop) : Prop := te σ H fun y H1 => tip x y H1 fun z H2 => N (σ.set i (some z)) H2
theorem s_augV {D : Ends} {σ : L2.St} {H : Hp} {te : TE} {tip : TIp} {i : Nat} {x : V} (hx : σ[i]? = some (some x)) (h : te σ H fun y H1 => tip x y H1 fun z H2 => D.nx (σ.set i (some z)) H2) : tAug i te tip D σ H := ⟨x, hx, h⟩

/-! ### comprehensions over enumerate(list), over a list that is made -/
section
variable {K : PySem.W.Frag} {σ : L2.St} {H : Hp} {Q : VK} {g : TG} {tt : TT} {te ta : TE} {vs : List Nat} {tl : TA} {a : Addr} {xs : List V}
def lcT (J : It) (g : TG) (tt : TT) (te : TE) (vs : List Nat) (σ : L2.St) (Q : VK) (H1 : Hp) : Prop := ∀ E, H1 E = none → ∃ W : Nat → Nat → Hp → Prop, (∃ m, W 0 m (upd H1 E (.lst []))) ∧ ∀ i m H, W i m H →
    (J.stop i H ∧ Q (.ref E) H) ∨ (J.go i H ∧ ∃ Nx : Hp → Prop, (∀ H', Nx H' → ∃ m', m' < m ∧ W (i + 1) m' H') ∧ ∀ x H', J.yld i H x H' → g x (wipe σ vs) H' fun σ2 H2 => wipe σ2 vs = wipe σ vs ∧ tt σ2 H2 fun b H3 =>
      if b = true then te σ2 H3 fun y H4 => ∃ acc, H4 E = some (.lst acc) ∧ acc.length < sizeLine ∧ Nx (upd H4 E (.lst (acc ++ [y]))) else Nx H3)
def kLcE (K : PySem.W.Frag) (g : TG) (tt : TT) (te : TE) (vs : List Nat) (σ : L2.St) (Q : VK) (ys : List V) (H1 : Hp) : Prop := ∃ a xs, ys = [.ref a] ∧ SqL K H1 a xs ∧ lcT (Ite K a) g tt te vs σ Q H1
theorem e_lcE (h : tl σ H fun ys H1 => kLcE K g tt te vs σ Q ys H1) : tLc (iEnum K tl) g tt te vs σ H Q := h
theorem k_lcE (F : Nat → Option V) (hS : SqL K H a xs) (hz : xs.length < 100000)
    (hs : ∀ (E T : Addr) (i : Nat) (x : V) (H' : Hp) (R : VK) (N : Hp → Prop), H E = none → xs[i]? = some x → H' T = some (.tup [.int (i : Nat), x]) → H' E = some (.lst ((List.range i).filterMap F)) → Fp [] H H' → (∀ y H4, F i = some y → Fp [] H' H4 → R y H4) → (F i = none → ∀ H4, Fp [] H' H4 → N H4) →
      g (.ref T) (wipe σ vs) H' fun σ2 H2 => wipe σ2 vs = wipe σ vs ∧ tt σ2 H2 fun k H3 => if k = true then te σ2 H3 R else N H3)
    (q : ∀ E H', H E = none → H' E = some (.lst ((List.range xs.length).filterMap F)) → Fp [] H H' → Q (.ref E) H') : kLcE K g tt te vs σ Q [.ref a] H := by
  refine ⟨a, xs, rfl, hS, fun E hE => ?_⟩
  refine ⟨fun i m H' => m = xs.length - i ∧ i ≤ xs.length ∧ H' E = some (.lst ((List.range i).filterMap F)) ∧ Fp [] H H', ⟨_, rfl, Nat.zero_le _, upd_same, Fp.new hE⟩, ?_⟩
  rintro i m H' ⟨rfl, hi, e1, e2⟩
  have hq : SqL K H' a xs := e2.seq (by simp) hS
  by_cases hlt : i < xs.length
  · refine .inr ⟨⟨xs, xs[i], hq, List.getElem?_eq_getElem hlt⟩, fun H4 => H4 E = some (.lst ((List.range (i + 1)).filterMap F)) ∧ Fp [] H H4, fun H4 z => ⟨_, by omega, rfl, by omega, z.1, z.2⟩, ?_⟩
    rintro v H2 ⟨T, x, rfl, hT, rfl, hx⟩
    have hx2 := hx xs hq
    have fT : Fp [] H' (upd H' T (.tup [.int (i : Nat), x])) := Fp.new hT
    have f2 := e2.trans fT
    have E2 := fT _ _ e1 (by simp)
    exact hs E T i x _ (fun y H4 => ∃ acc, H4 E = some (.lst acc) ∧ acc.length < sizeLine ∧ (upd H4 E (.lst (acc ++ [y]))) E = some (.lst ((List.range (i + 1)).filterMap F)) ∧ Fp [] H (upd H4 E (.lst (acc ++ [y])))) (fun H4 => H4 E = some (.lst ((List.range (i + 1)).filterMap F)) ∧ Fp [] H H4) hE hx2 upd_same E2 f2
      (fun y H4 ey f4 => ⟨_, f4 _ _ E2 (by simp), szl (Nat.lt_of_le_of_lt (List.length_filterMap_le _ _) (by rw [List.length_range]; omega)), by rw [upd_same, fm_range, ey]; rfl, Fp.drop (fp := [E]) (((f2.trans f4).mono (by simp)).trans (Fp.at_ (by simp))) fun z hz => by rcases List.mem_singleton.mp hz with rfl; exact .inr hE⟩)
      (fun ey H4 f4 => ⟨by rw [fm_range, ey]; simpa using f4 _ _ E2 (by simp), f2.trans f4⟩)
  · have hi2 : i = xs.length := by omega
    subst hi2
    exact .inl ⟨⟨xs, hq, Nat.le_refl _⟩, q E H' hE e1 e2⟩
def kLcL (K : PySem.W.Frag) (g : TG) (tt : TT) (te : TE) (vs : List Nat) (σ : L2.St) (Q : VK) (x : V) (H : Hp) : Prop := (iList K fun _ _ R => R x H) σ H fun J H1 => lcT J g tt te vs σ Q H1
theorem e_lcL (h : ta σ H fun x H1 => kLcL K g tt te vs σ Q x H1) : tLc (iList K ta) g tt te vs σ H Q := h
theorem k_lcL (f : V → Option V) (hS : SqL K H a xs) (hz : xs.length < 100000)
    (hs : ∀ (E : Addr) (i : Nat) (x : V) (H' : Hp) (R : VK) (N : Hp → Prop), H E = none → xs[i]? = some x → H' E = some (.lst ((xs.take i).filterMap f)) → Fp [] H H' → (∀ y H4, f x = some y → Fp [] H' H4 → R y H4) → (f x = none → ∀ H4, Fp [] H' H4 → N H4) →
      g x (wipe σ vs) H' fun σ2 H2 => wipe σ2 vs = wipe σ vs ∧ tt σ2 H2 fun k H3 => if k = true then te σ2 H3 R else N H3)
    (q : ∀ E H', H E = none → H' E = some (.lst (xs.filterMap f)) → Fp [] H H' → Q (.ref E) H') : kLcL K g tt te vs σ Q (.ref a) H := by
  refine ⟨a, rfl, ⟨_, hS⟩, fun E hE => ?_⟩
  refine lc_list (K := K) (a := a) (xs := xs) (fun i H' => H' E = some (.lst ((xs.take i).filterMap f)) ∧ Fp [] H H') ⟨by rw [List.take_zero]; exact upd_same, Fp.new hE⟩ (fun i H' hi e => ?_) (fun i x H' hx e => ?_) fun H' e => ?_
  · exact e.2.seq (by simp) hS
  · have hi : i < xs.length := (List.getElem?_eq_some_iff.mp hx).1
    exact hs E i x H' (fun y H4 => ∃ acc, H4 E = some (.lst acc) ∧ acc.length < sizeLine ∧ (upd H4 E (.lst (acc ++ [y]))) E = some (.lst ((xs.take (i + 1)).filterMap f)) ∧ Fp [] H (upd H4 E (.lst (acc ++ [y])))) (fun H4 => H4 E = some (.lst ((xs.take (i + 1)).filterMap f)) ∧ Fp [] H H4) hE hx e.1 e.2
      (fun y H4 ey f4 => ⟨_, f4 _ _ e.1 (by simp), szl (Nat.lt_of_le_of_lt (List.length_filterMap_le _ _) (by rw [List.length_take]; omega)), by rw [upd_same, fm_snoc hx, ey]; rfl, Fp.drop (fp := [E]) (((e.2.trans f4).mono (by simp)).trans (Fp.at_ (by simp))) fun z hz => by rcases List.mem_singleton.mp hz with rfl; exact .inr hE⟩)
      (fun ey H4 f4 => ⟨by rw [fm_snoc hx, ey]; simpa using f4 _ _ e.1 (by simp), e.2.trans f4⟩)
  · rw [List.take_length] at e
    exact q E H' hE e.1 e.2
end
theorem cut_take {xs : List V} {n : Nat} : cutV xs none (some (n : Int)) = xs.take n := by
  unfold cutV
  rw [HT.sIx_nat, HT.sIx_none, List.drop_zero, Nat.sub_zero, List.take_eq_take_iff]
  omega
theorem cut_drop {xs : List V} {n : Nat} : cutV xs (some (n : Int)) none = xs.drop n := by
  unfold cutV
  rw [HT.sIx_nat, HT.sIx_none]
  by_cases h : n ≤ xs.length
  · rw [Nat.min_eq_left h, List.take_of_length_le (by rw [List.length_drop]; exact Nat.le_refl _)]
  · rw [Nat.min_eq_right (by omega), List.drop_of_length_le (Nat.le_refl _), List.drop_of_length_le (by omega), List.take_nil]
theorem c_ext {l b : Addr} {xs zs : List V} {H : Hp} {Q : VK} (h : H l = some (.lst xs)) (h' : H b = some (.lst zs)) (z : xs.length + zs.length ≤ 100000) (q : Q .non (upd H l (.lst (xs ++ zs)))) : rExtend (.ref l) [.ref b] H Q := ⟨l, b, xs, zs, rfl, rfl, h, h', sz z, q⟩
/-- [e for k in range(n)], e with its own doing -/
theorem k_lcS {σ : L2.St} {H : Hp} {Q : VK} {g : TG} {te : TE} {vs : List Nat} {n : Int} (J : Addr → Nat → List V → Hp → Prop) (h1 : 0 ≤ n) (h2 : n < 100000) (h0 : ∀ E, H E = none → J E 0 [] (upd H E (.lst [])))
    (hs : ∀ (E : Addr) (i : Nat) (acc : List V) (H' : Hp) (R : VK), H E = none → (i : Int) < n → acc.length = i → H' E = some (.lst acc) → J E i acc H' → (∀ y H4, H4 E = some (.lst acc) → J E (i + 1) (acc ++ [y]) (upd H4 E (.lst (acc ++ [y]))) → R y H4) →
      g (.int (i : Nat)) (wipe σ vs) H' fun σ2 H2 => wipe σ2 vs = wipe σ vs ∧ te σ2 H2 R)
    (q : ∀ E acc H', H E = none → acc.length = n.toNat → H' E = some (.lst acc) → J E n.toNat acc H' → Q (.ref E) H') : kLcR g te vs σ Q (.int n) H := by
  refine ⟨n, rfl, by omega, by omega, fun E hE => ?_⟩
  refine lc_range (lo := 0) (n := n.toNat) (fun i H' => ∃ acc, acc.length = i ∧ H' E = some (.lst acc) ∧ J E i acc H') ⟨[], rfl, upd_same, h0 E hE⟩ (fun i H' hi ⟨acc, ha, e, j⟩ => ?_) fun H' ⟨acc, ha, e, j⟩ => q E acc H' hE ha e j
  have e0 : (0 : Int) + (i : Int) = (i : Int) := Int.zero_add _
  rw [e0]
  exact hs E i acc H' (fun y H4 => ∃ acc, H4 E = some (.lst acc) ∧ acc.length < sizeLine ∧ ∃ acc2, acc2.length = i + 1 ∧ (upd H4 E (.lst (acc ++ [y]))) E = some (.lst acc2) ∧ J E (i + 1) acc2 (upd H4 E (.lst (acc ++ [y])))) hE (by omega) ha e j
    fun y H4 e4 j4 => ⟨acc, e4, szl (by omega), _, by rw [List.length_append, ha]; rfl, upd_same, j4⟩
theorem ints_of : ∀ {acc : List V}, (∀ y ∈ acc, ∃ z, y = V.int z) → ∃ ys : List Int, acc = ys.map V.int
  | [], _ => ⟨[], rfl⟩
  | y :: r, h => by
    obtain ⟨z, rfl⟩ := h y List.mem_cons_self
    obtain ⟨ys, rfl⟩ := ints_of fun x hx => h x (List.mem_cons_of_mem _ hx)
    exact ⟨z :: ys, rfl⟩
/-! ### what stands -/
def Inn (H : Hp) (L : List Addr) : Prop := ∀ y ∈ L, ∃ o, H y = some o
theorem Inn.nil {H : Hp} : Inn H [] := fun _ h => by cases h
theorem Inn.cons {H : Hp} {L : List Addr} {x : Addr} {o : HO} (h : H x = some o) (I : Inn H L) : Inn H (x :: L) := fun y hy => by
  rcases List.mem_cons.mp hy with rfl | hy
  · exact ⟨_, h⟩
  · exact I y hy
theorem Inn.app {H : Hp} {L M : List Addr} (I : Inn H L) (J : Inn H M) : Inn H (L ++ M) := fun y hy => (List.mem_append.mp hy).elim (I y) (J y)
theorem Inn.fresh {H : Hp} {L : List Addr} {x : Addr} (I : Inn H L) (h : H x = none) : x ∉ L := fun z => by
  obtain ⟨o, e⟩ := I x z
  rw [h] at e
  cases e
theorem Inn.ne {H : Hp} {L : List Addr} {x y : Addr} (I : Inn H L) (hy : y ∈ L) (h : H x = none) : x ≠ y := fun z => I.fresh h (z ▸ hy)
theorem Inn.fp {H H1 : Hp} {L : List Addr} (I : Inn H L) (f : Fp [] H H1) : Inn H1 L := fun y hy => by
  obtain ⟨o, e⟩ := I y hy
  exact ⟨o, f _ _ e (by simp)⟩
theorem Inn.mono {H : Hp} {L M : List Addr} (I : Inn H L) (h : ∀ x ∈ M, x ∈ L) : Inn H M := fun y hy => I y (h y hy)
theorem nd_new {L : List Addr} {x : Addr} (n : L.Nodup) (h : x ∉ L) : (x :: L).Nodup := List.nodup_cons.mpr ⟨h, n⟩
theorem nin_c {L : List Addr} {x y : Addr} (n : x ≠ y) (h : x ∉ L) : x ∉ y :: L := fun z => (List.mem_cons.mp z).elim n h
def kTru (K : PySem.W.Frag) (x : V) (H : Hp) (QT : Bool → Hp → Prop) : Prop := ∃ k, TruV K x H k ∧ QT k H
def tTr (K : PySem.W.Frag) (ta : TE) : TT := fun σ H Q => ta σ H fun x H' => kTru K x H' Q
theorem pt_tr {X : Cx} {a : Expr} {ta : TE} (ha : PE X a ta) (he : ∀ whole, isTrue a X.env whole = (do let v ← whole; standAt a.pos; holding [v] (truthy v))) : PT X a (tTr X.K ta) := pt_truth ha he
theorem t_tru {K : PySem.W.Frag} {σ : L2.St} {te : TE} {H : Hp} {QT : Bool → Hp → Prop} (h : te σ H fun x H1 => kTru K x H1 QT) : tTr K te σ H QT := h
theorem k_truL {K : PySem.W.Frag} {H : Hp} {QT : Bool → Hp → Prop} {p : Addr} {xs : List V} (h : SqL K H p xs) (q : QT (!xs.isEmpty) H) : kTru K (.ref p) H QT := ⟨_, Or.inl ⟨xs, h, rfl⟩, q⟩
/-- [e for k in range(n) if t], t and e with their own doing -/
theorem k_lcSF {σ : L2.St} {H : Hp} {Q : VK} {g : TG} {tt : TT} {te : TE} {vs : List Nat} {n : Int} (J : Addr → Nat → List V → Hp → Prop) (h1 : 0 ≤ n) (h2 : n < 100000) (h0 : ∀ E, H E = none → J E 0 [] (upd H E (.lst [])))
    (hs : ∀ (E : Addr) (i : Nat) (acc : List V) (H' : Hp) (R : VK) (N : Hp → Prop), H E = none → (i : Int) < n → acc.length ≤ i → H' E = some (.lst acc) → J E i acc H' → (∀ y H4, H4 E = some (.lst acc) → J E (i + 1) (acc ++ [y]) (upd H4 E (.lst (acc ++ [y]))) → R y H4) → (∀ H4, H4 E = some (.lst acc) → J E (i + 1) acc H4 → N H4) →
      g (.int (i : Nat)) (wipe σ vs) H' fun σ2 H2 => wipe σ2 vs = wipe σ vs ∧ tt σ2 H2 fun k H3 => if k = true then te σ2 H3 R else N H3)
    (q : ∀ E acc H', H E = none → acc.length ≤ n.toNat → H' E = some (.lst acc) → J E n.toNat acc H' → Q (.ref E) H') : kLcF g tt te vs σ Q (.int n) H := by
  refine ⟨n, rfl, by omega, by omega, fun E hE => ?_⟩
  refine lc_range (lo := 0) (n := n.toNat) (fun i H' => ∃ acc, acc.length ≤ i ∧ H' E = some (.lst acc) ∧ J E i acc H') ⟨[], Nat.le_refl _, upd_same, h0 E hE⟩ (fun i H' hi ⟨acc, ha, e, j⟩ => ?_) fun H' ⟨acc, ha, e, j⟩ => q E acc H' hE ha e j
  have e0 : (0 : Int) + (i : Int) = (i : Int) := Int.zero_add _
  rw [e0]
  exact hs E i acc H' (fun y H4 => ∃ acc, H4 E = some (.lst acc) ∧ acc.length < sizeLine ∧ ∃ acc2, acc2.length ≤ i + 1 ∧ (upd H4 E (.lst (acc ++ [y]))) E = some (.lst acc2) ∧ J E (i + 1) acc2 (upd H4 E (.lst (acc ++ [y])))) (fun H4 => ∃ acc2, acc2.length ≤ i + 1 ∧ H4 E = some (.lst acc2) ∧ J E (i + 1) acc2 H4) hE (by omega) ha e j
    (fun y H4 e4 j4 => ⟨acc, e4, szl (by omega), _, by rw [List.length_append]; simp; omega, upd_same, j4⟩) fun H4 e4 j4 => ⟨acc, by omega, e4, j4⟩
/-- for x in a list that an expression hands back -/
def kForL (K : PySem.W.Frag) (g : TG) (tb : TS) (D : Ends) (σ : L2.St) (x : V) (H1 : Hp) : Prop := (iList K fun _ _ R => R x H1) σ H1 fun J H1 => ∃ W : Nat → Nat → L2.St → Hp → Prop, (∃ m, W 0 m σ H1) ∧ ∀ i m σ H, W i m σ H →
  (J.stop i H ∧ D.nx σ H) ∨ (J.go i H ∧ ∃ N : L2.St → Hp → Prop, (∀ σ' H', N σ' H' → ∃ m', m' < m ∧ W (i + 1) m' σ' H') ∧ ∀ x H', J.yld i H x H' → g x σ H' fun σ2 H2 => tb { D with nx := N, ct := N, bk := D.nx } σ2 H2)
theorem f_lst {K : PySem.W.Frag} {g : TG} {tb : TS} {D : Ends} {σ : L2.St} {H : Hp} {te : TE} (h : te σ H fun x H1 => kForL K g tb D σ x H1) : tFor (iList K te) g tb D σ H := h
theorem k_forL {K : PySem.W.Frag} {g : TG} {tb : TS} {D : Ends} {σ : L2.St} {H : Hp} {p : Addr} {xs : List V} (Pv : Nat → L2.St → Hp → Prop) (hS : SqL K H p xs) (h0 : Pv 0 σ H) (hl : ∀ i σ' H', i ≤ xs.length → Pv i σ' H' → SqL K H' p xs)
    (hs : ∀ i x σ' H', xs[i]? = some x → Pv i σ' H' → g x σ' H' fun σ2 H2 => tb { D with nx := Pv (i + 1), ct := Pv (i + 1), bk := D.nx } σ2 H2) (hd : ∀ σ' H', Pv xs.length σ' H' → D.nx σ' H') : kForL K g tb D σ (.ref p) H :=
  ⟨p, rfl, ⟨xs, hS⟩, for_list Pv h0 hl hs hd⟩
theorem t_yes {σ : L2.St} {H : Hp} {QT : Bool → Hp → Prop} (h : QT true H) : tYes σ H QT := h
theorem ixN_last {n : Nat} (h : 0 < n) : ixN n (-1) = some (n - 1) := by
  unfold ixN
  rw [if_neg (by decide), if_pos (by omega)]
  congr 1
  omega
/-- xs[-1] = v -/
theorem c_setE {p : Addr} {xs : List V} {x v : V} {H : Hp} {R : Hp → Prop} (h : H p = some (.lst (xs ++ [x]))) (q : R (upd H p (.lst (xs ++ [v])))) : rSetL (.ref p) (.int (-1)) v H R := by
  refine ⟨p, xs ++ [x], -1, xs.length, rfl, rfl, h, by rw [ixN_last (by simp)]; simp, ?_⟩
  rw [List.set_append_right _ _ (Nat.le_refl _), Nat.sub_self]
  exact q
/-- [e for x in xs if t] by places, xs in a name -/
theorem lc_filtN {K : PySem.W.Frag} {σ : L2.St} {H : Hp} {Q : VK} {g : TG} {tt : TT} {te : TE} {vs : List Nat} {j : Nat} {b : Addr} {xs : List V} (F : Nat → Option V) (hv : σ[j]? = some (some (.ref b))) (hS : SqL K H b xs) (hz : xs.length < 100000)
    (hs : ∀ (E : Addr) (i : Nat) (x : V) (H' : Hp) (R : VK) (N : Hp → Prop), H E = none → xs[i]? = some x → H' E = some (.lst ((List.range i).filterMap F)) → Fp [] H H' → (∀ y H4, F i = some y → Fp [] H' H4 → R y H4) → (F i = none → ∀ H4, Fp [] H' H4 → N H4) →
      g x (wipe σ vs) H' fun σ2 H2 => wipe σ2 vs = wipe σ vs ∧ tt σ2 H2 fun k H3 => if k = true then te σ2 H3 R else N H3)
    (q : ∀ E H', H E = none → H' E = some (.lst ((List.range xs.length).filterMap F)) → Fp [] H H' → Q (.ref E) H') : tLc (iList K (tVar j)) g tt te vs σ H Q := by
  refine ⟨_, hv, b, rfl, ⟨_, hS⟩, fun E hE => ?_⟩
  refine lc_list (K := K) (a := b) (xs := xs) (fun i H' => H' E = some (.lst ((List.range i).filterMap F)) ∧ Fp [] H H') ⟨upd_same, Fp.new hE⟩ (fun i H' hi e => ?_) (fun i x H' hx e => ?_) fun H' e => q E H' hE e.1 e.2
  · exact e.2.seq (by simp) hS
  · have hi : i < xs.length := (List.getElem?_eq_some_iff.mp hx).1
    exact hs E i x H' (fun y H4 => ∃ acc, H4 E = some (.lst acc) ∧ acc.length < sizeLine ∧ (upd H4 E (.lst (acc ++ [y]))) E = some (.lst ((List.range (i + 1)).filterMap F)) ∧ Fp [] H (upd H4 E (.lst (acc ++ [y])))) (fun H4 => H4 E = some (.lst ((List.range (i + 1)).filterMap F)) ∧ Fp [] H H4) hE hx e.1 e.2
      (fun y H4 ey f4 => ⟨_, f4 _ _ e.1 (by simp), szl (Nat.lt_of_le_of_lt (List.length_filterMap_le _ _) (by rw [List.length_range]; omega)), by rw [upd_same, fm_range, ey]; rfl, Fp.drop (fp := [E]) (((e.2.trans f4).mono (by simp)).trans (Fp.at_ (by simp))) fun z hz => by rcases List.mem_singleton.mp hz with rfl; exact .inr hE⟩)
      (fun ey H4 f4 => ⟨by rw [fm_range, ey]; simpa using f4 _ _ e.1 (by simp), e.2.trans f4⟩)
theorem fm_len {F : Nat → Option V} {p : Nat → Bool} : ∀ {l : List Nat}, (∀ i ∈ l, (F i).isSome = p i) → (l.filterMap F).length = (l.filter p).length
  | [], _ => rfl
  | i :: r, h => by
    have h1 := h i List.mem_cons_self
    have ih := fm_len (F := F) (p := p) (l := r) fun x hx => h x (List.mem_cons_of_mem _ hx)
    cases e : F i with
    | none =>
      rw [e] at h1
      rw [List.filterMap_cons_none e, List.filter_cons_of_neg (by rw [← h1]; exact Bool.false_ne_true), ih]
    | some y =>
      rw [e] at h1
      rw [List.filterMap_cons_some e, List.filter_cons_of_pos h1.symm, List.length_cons, List.length_cons, ih]
/-! ### data in data -/
def LD (k : Nat) (d : PyData) : Prop := d.canLay0 = true ∧ d.depth ≤ k
theorem LD.int {k : Nat} (z : Int) : LD (k + 1) (.int z) := ⟨rfl, by simp [PyData.depth]⟩
theorem LD.bl {k : Nat} (b : Bool) : LD (k + 1) (.bool b) := ⟨rfl, by simp [PyData.depth]⟩
theorem LD.non {k : Nat} : LD (k + 1) .none := ⟨rfl, by simp [PyData.depth]⟩
theorem LD.str {k : Nat} {x : Str} (h : PyData.strOk x = true) : LD (k + 1) (.str x) := ⟨h, by simp [PyData.depth]⟩
theorem LD.all {k : Nat} : ∀ {ds : List PyData}, (∀ d ∈ ds, LD k d) → PyData.canLayAll0 ds = true ∧ PyData.depthAll ds ≤ k
  | [], _ => ⟨rfl, by simp [PyData.depthAll]⟩
  | d :: r, h => by
    obtain ⟨h1, h2⟩ := h d List.mem_cons_self
    obtain ⟨i1, i2⟩ := LD.all (ds := r) fun x hx => h x (List.mem_cons_of_mem _ hx)
    refine ⟨?_, ?_⟩
    · show (d.canLay0 && PyData.canLayAll0 r) = true
      rw [h1, i1]; rfl
    · simp only [PyData.depthAll]; omega
theorem LD.list {k : Nat} {ds : List PyData} (h : ∀ d ∈ ds, LD k d) : LD (k + 1) (.list ds) := by
  obtain ⟨h1, h2⟩ := LD.all h
  exact ⟨by simp only [PyData.canLay0]; exact h1, by simp only [PyData.depth]; omega⟩
theorem LD.tup {k : Nat} {ds : List PyData} (h : ∀ d ∈ ds, LD k d) : LD (k + 1) (.tuple ds) := by
  obtain ⟨h1, h2⟩ := LD.all h
  exact ⟨by simp only [PyData.canLay0]; exact h1, by simp only [PyData.depth]; omega⟩
theorem LD.sh {k : Nat} {d : PyData} (h : LD k d) (hk : k ≤ 64 := by decide) : SeqAt.shaped d = true := by
  show (d.canLay0 && decide (d.depth ≤ 64)) = true
  rw [h.1, decide_eq_true (Nat.le_trans h.2 hk)]; rfl
def dInts (ns : List Int) : PyData := .list (ns.map PyData.int)
theorem dp_ints {K : PySem.W.Frag} {H : Hp} : ∀ ns : List Int, DpAll K H (ns.map V.int) (ns.map PyData.int)
  | [] => .nil
  | n :: r => .cons (.int n) (dp_ints r)
theorem LD.ints {k : Nat} (ns : List Int) : LD (k + 2) (dInts ns) := LD.list fun d hd => by
  obtain ⟨n, _, rfl⟩ := List.mem_map.mp hd
  exact LD.int n
theorem g_unl {K : PySem.W.Frag} {H : Hp} {σ : L2.St} {n : Nat} {t : TGs} {R : L2.St → Hp → Prop} {a : Addr} {xs : List V} (h : SqL K H a xs) (hn : xs.length = n) (q : t xs σ H R) : gUnl K n t (.ref a) σ H R := ⟨a, xs, rfl, h, hn, q⟩
theorem c_clr {l : Addr} {xs : List V} {H : Hp} {Q : VK} (h : H l = some (.lst xs)) (q : Q .non (upd H l (.lst []))) : rClear (.ref l) [] H Q := ⟨l, xs, rfl, rfl, h, q⟩
/-- [e for x in xs], e with its own doing -/
theorem k_lcLS {K : PySem.W.Frag} {σ : L2.St} {H : Hp} {Q : VK} {g : TG} {te : TE} {vs : List Nat} {a : Addr} {xs : List V} (J : Addr → Nat → List V → Hp → Prop) (hS : SqL K H a xs) (hz : xs.length < 100000) (h0 : ∀ E, H E = none → J E 0 [] (upd H E (.lst [])))
    (hl : ∀ E i acc H', J E i acc H' → SqL K H' a xs)
    (hs : ∀ (E : Addr) (i : Nat) (x : V) (acc : List V) (H' : Hp) (R : VK), H E = none → xs[i]? = some x → acc.length = i → H' E = some (.lst acc) → J E i acc H' → (∀ y H4, H4 E = some (.lst acc) → J E (i + 1) (acc ++ [y]) (upd H4 E (.lst (acc ++ [y]))) → R y H4) →
      g x (wipe σ vs) H' fun σ2 H2 => wipe σ2 vs = wipe σ vs ∧ te σ2 H2 R)
    (q : ∀ E acc H', H E = none → acc.length = xs.length → H' E = some (.lst acc) → J E xs.length acc H' → Q (.ref E) H') : kLcL K g tYes te vs σ Q (.ref a) H := by
  refine ⟨a, rfl, ⟨_, hS⟩, fun E hE => ?_⟩
  refine lc_list (K := K) (a := a) (xs := xs) (fun i H' => ∃ acc, acc.length = i ∧ H' E = some (.lst acc) ∧ J E i acc H') ⟨[], rfl, upd_same, h0 E hE⟩ (fun i H' hi ⟨acc, _, _, j⟩ => hl E i acc H' j) (fun i x H' hx ⟨acc, ha, e, j⟩ => ?_) fun H' ⟨acc, ha, e, j⟩ => q E acc H' hE ha e j
  have hi : i < xs.length := (List.getElem?_eq_some_iff.mp hx).1
  exact hs E i x acc H' (fun y H4 => ∃ acc, H4 E = some (.lst acc) ∧ acc.length < sizeLine ∧ ∃ acc2, acc2.length = i + 1 ∧ (upd H4 E (.lst (acc ++ [y]))) E = some (.lst acc2) ∧ J E (i + 1) acc2 (upd H4 E (.lst (acc ++ [y])))) hE hx ha e j
    fun y H4 e4 j4 => ⟨acc, e4, szl (by omega), _, by rw [List.length_append, ha]; rfl, upd_same, j4⟩
end Rd
set_option Elab.async false
set_option maxRecDepth 100000
set_option maxHeartbeats 4000000
set_option linter.all false
set_option autoImplicit false
/-! A small separation logic over the heap of the hand layer. -/
namespace Sl
open PySem PySem.Spec PyProof.Rows L2 Sx Rd
/-- what never changes -/
def Imm : HO → Prop
  | .tup _ => True | .frz _ _ => True | .rng _ _ => True | .xd _ => True | .met _ _ => True
  | _ => False
def Agree (S : Addr → Prop) (H H' : Hp) : Prop := (∀ a, S a → H' a = H a) ∧ ∀ a o, H a = some o → Imm o → H' a = some o
structure As where
  at_ : Hp → (Addr → Prop) → Prop
  loc : ∀ {H H' : Hp} {S : Addr → Prop}, at_ H S → Agree S H H' → at_ H' S
  dom : ∀ {H : Hp} {S : Addr → Prop}, at_ H S → ∀ a, S a → H a ≠ none
def emp : As := ⟨fun _ S => ∀ a, ¬ S a, fun h _ => h, fun h a s => absurd s (h a)⟩
def cell (a : Addr) (o : HO) : As := ⟨fun H S => (∀ b, S b ↔ b = a) ∧ H a = some o, fun h g => ⟨h.1, by rw [g.1 a ((h.1 a).mpr rfl)]; exact h.2⟩, fun h b s => by
  rw [(h.1 b).mp s, h.2]; simp⟩
def icell (a : Addr) (o : HO) : As := ⟨fun H S => (∀ b, ¬ S b) ∧ H a = some o ∧ Imm o, fun h g => ⟨h.1, g.2 _ _ h.2.1 h.2.2, h.2.2⟩, fun h b s => absurd s (h.1 b)⟩
abbrev tcell (a : Addr) (xs : List V) : As := icell a (.tup xs)
def pur (φ : Prop) : As := ⟨fun _ S => (∀ a, ¬ S a) ∧ φ, fun h _ => h, fun h a s => absurd s (h.1 a)⟩
def ex {α : Type} (P : α → As) : As := ⟨fun H S => ∃ x, (P x).at_ H S, fun ⟨x, h⟩ g => ⟨x, (P x).loc h g⟩, fun ⟨x, h⟩ => (P x).dom h⟩
def star (P Q : As) : As := ⟨fun H S => ∃ S1 S2 : Addr → Prop, (∀ a, S a ↔ S1 a ∨ S2 a) ∧ (∀ a, S1 a → ¬ S2 a) ∧ P.at_ H S1 ∧ Q.at_ H S2,
  fun ⟨S1, S2, e, d, h1, h2⟩ g => ⟨S1, S2, e, d, P.loc h1 ⟨fun a s => g.1 a ((e a).mpr (.inl s)), g.2⟩, Q.loc h2 ⟨fun a s => g.1 a ((e a).mpr (.inr s)), g.2⟩⟩,
  fun ⟨S1, S2, e, d, h1, h2⟩ a s => by
    rcases (e a).mp s with s | s
    · exact P.dom h1 a s
    · exact Q.dom h2 a s⟩
/-- many, apart from each other -/
def all : List As → As
  | [] => emp
  | P :: L => star P (all L)
def St (L : List As) (H : Hp) : Prop := ∃ S, (all L).at_ H S
/-- what entails what, for the same cells or fewer -/
def Ent (L M : List As) : Prop := ∀ H S, (all L).at_ H S → ∃ S', (∀ a, S' a → S a) ∧ (all M).at_ H S'
theorem Ent.refl (L : List As) : Ent L L := fun _ S h => ⟨S, fun _ s => s, h⟩
theorem Ent.trans {L M N : List As} (a : Ent L M) (b : Ent M N) : Ent L N := fun H S h => by
  obtain ⟨S1, i1, h1⟩ := a H S h
  obtain ⟨S2, i2, h2⟩ := b H S1 h1
  exact ⟨S2, fun x s => i1 x (i2 x s), h2⟩
theorem Ent.cons {P : As} {L M : List As} (a : Ent L M) : Ent (P :: L) (P :: M) := fun H S ⟨S1, S2, e, d, h1, h2⟩ => by
  obtain ⟨S3, i3, h3⟩ := a H S2 h2
  exact ⟨fun x => S1 x ∨ S3 x, fun x s => (e x).mpr (s.imp id (i3 x)), S1, S3, fun _ => Iff.rfl, fun x s t => d x s (i3 x t), h1, h3⟩
theorem Ent.swap {P Q : As} {L : List As} : Ent (P :: Q :: L) (Q :: P :: L) := fun H S ⟨S1, S2, e, d, h1, S3, S4, e2, d2, h3, h4⟩ =>
  ⟨S, fun _ s => s, S3, fun x => S1 x ∨ S4 x, fun x => by rw [e x, e2 x]; exact ⟨fun h => by rcases h with h | h | h <;> simp [h], fun h => by rcases h with h | h | h <;> simp [h]⟩,
    fun x s t => by
      rcases t with t | t
      · exact d x t ((e2 x).mpr (.inl s))
      · exact d2 x s t, h3, S1, S4, fun _ => Iff.rfl, fun x s t => d x s ((e2 x).mpr (.inr t)), h1, h4⟩
theorem Ent.drop {P : As} {L : List As} : Ent (P :: L) L := fun H S ⟨S1, S2, e, d, h1, h2⟩ => ⟨S2, fun x s => (e x).mpr (.inr s), h2⟩
theorem Ent.st {L M : List As} {H : Hp} (a : Ent L M) (h : St L H) : St M H := let ⟨S, h⟩ := h; let ⟨S', _, h'⟩ := a H S h; ⟨S', h'⟩
theorem Ent.app {L M : List As} (a : Ent L M) : ∀ R : List As, Ent (R ++ L) (R ++ M)
  | [] => a
  | _ :: R => (a.app R).cons
/-- P stands in L, R is the rest -/
inductive Sel (P : As) : List As → List As → Prop
  | here {R : List As} : Sel P (P :: R) R
  | there {Q : As} {L R : List As} : Sel P L R → Sel P (Q :: L) (Q :: R)
theorem Sel.ent {P : As} {L R : List As} (s : Sel P L R) : Ent L (P :: R) := by
  induction s with
  | here => exact Ent.refl _
  | there s ih => exact (Ent.cons ih).trans Ent.swap
theorem Sel.ent' {P : As} {L R : List As} (s : Sel P L R) : Ent (P :: R) L := by
  induction s with
  | here => exact Ent.refl _
  | there s ih => exact Ent.swap.trans (Ent.cons ih)
inductive Sels : List As → List As → List As → Prop
  | nil {L : List As} : Sels [] L L
  | cons {P : As} {Ps L M R : List As} : Sel P L M → Sels Ps M R → Sels (P :: Ps) L R
theorem Sels.all : ∀ L : List As, Sels L L []
  | [] => .nil
  | _ :: L => .cons .here (Sels.all L)
theorem Sels.skip {Q : As} {Ps L R : List As} (s : Sels Ps L R) : Sels Ps (Q :: L) (Q :: R) := by
  induction s with
  | nil => exact .nil
  | cons a _ ih => exact .cons (.there a) ih
theorem Sels.ent {Ps L R : List As} (s : Sels Ps L R) : Ent L (Ps ++ R) := by
  induction s with
  | nil => exact Ent.refl _
  | cons a _ ih => exact a.ent.trans ih.cons
theorem Sels.ent' {Ps L R : List As} (s : Sels Ps L R) : Ent (Ps ++ R) L := by
  induction s with
  | nil => exact Ent.refl _
  | cons a _ ih => exact ih.cons.trans a.ent'
section
variable {L M R : List As} {H : Hp} {a p : Addr} {o o' : HO} {P Q : As} {φ : Prop} {xs : List V}
theorem St.sel (h : St L H) (s : Sel P L R) : St (P :: R) H := s.ent.st h
theorem St.sels {Ps : List As} (h : St L H) (s : Sels Ps L R) : St (Ps ++ R) H := s.ent.st h
theorem St.get0 (h : St (cell a o :: R) H) : H a = some o := by
  obtain ⟨S, S1, S2, e, d, h1, h2⟩ := h
  exact h1.2
theorem St.get (h : St L H) (s : Sel (cell a o) L R) : H a = some o := (h.sel s).get0
theorem St.geti (h : St L H) (s : Sel (icell a o) L R) : H a = some o := by
  obtain ⟨S, S1, S2, e, d, h1, h2⟩ := h.sel s
  exact h1.2.1
theorem St.upd0 (h : St (cell a o :: R) H) (i : ¬ Imm o) : St (cell a o' :: R) (upd H a o') := by
  obtain ⟨S, S1, S2, e, d, ⟨h0, h1⟩, h2⟩ := h
  refine ⟨S, S1, S2, e, d, ⟨h0, upd_same⟩, (all R).loc h2 ⟨fun b s => upd_ne fun z => ?_, fun b u g j => ?_⟩⟩
  · exact d a ((h0 a).mpr rfl) (z ▸ s)
  · rw [upd_ne fun z => ?_, g]
    subst z
    rw [h1] at g
    cases g
    exact i j
theorem St.upd (h : St L H) (s : Sel (cell a o) L R) (i : ¬ Imm o) : St (cell a o' :: R) (upd H a o') := (h.sel s).upd0 i
theorem St.agree_new (n : H p = none) {S : Addr → Prop} (dm : ∀ b, S b → H b ≠ none) : Agree S H (L2.upd H p o) := ⟨fun b s => upd_ne fun z => dm b s (z ▸ n), fun b u g _ => by rw [upd_ne fun z => ?_, g]; subst z; rw [n] at g; cases g⟩
theorem St.new (h : St L H) (n : H p = none) : St (cell p o :: L) (L2.upd H p o) := by
  obtain ⟨S, h⟩ := h
  have dm := (all L).dom h
  refine ⟨fun b => b = p ∨ S b, fun b => b = p, S, fun _ => Iff.rfl, fun b z s => dm b s (z ▸ n), ⟨fun _ => Iff.rfl, upd_same⟩, (all L).loc h (St.agree_new n dm)⟩
theorem St.newi (h : St L H) (n : H p = none) (i : Imm o) : St (icell p o :: L) (L2.upd H p o) := by
  obtain ⟨S, h⟩ := h
  have dm := (all L).dom h
  exact ⟨S, fun _ => False, S, fun _ => ⟨.inr, fun z => z.elim (fun f => f.elim) id⟩, fun _ f => f.elim, ⟨fun _ f => f, upd_same, i⟩, (all L).loc h (St.agree_new n dm)⟩
theorem St.keep (h : St L H) (n : H p = none) : St L (L2.upd H p o) := by
  obtain ⟨S, h⟩ := h
  exact ⟨S, (all L).loc h (St.agree_new n ((all L).dom h))⟩
theorem St.cons0 {L : List As} (h : St (P :: L) H) : St L H := Ent.drop.st h
theorem St.drop (h : St L H) (s : Sel P L R) : St R H := (h.sel s).cons0
theorem St.dup (h : St L H) (s : Sel (icell a o) L R) : St (icell a o :: L) H := by
  obtain ⟨S, S1, S2, e, d, h1, h2⟩ := h.sel s
  obtain ⟨S0, h0⟩ := h
  exact ⟨S0, S1, S0, fun b => ⟨.inr, fun z => z.elim (fun f => absurd f (h1.1 b)) id⟩, fun b f => absurd f (h1.1 b), h1, h0⟩
theorem ent_ex {α : Type} {P : α → As} (x : α) : Ent (P x :: R) (ex P :: R) := fun H S ⟨S1, S2, e, d, h1, h2⟩ => ⟨S, fun _ s => s, S1, S2, e, d, ⟨x, h1⟩, h2⟩
theorem St.exU {α : Type} {P : α → As} (h : St (ex P :: R) H) : ∃ x, St (P x :: R) H := by
  obtain ⟨S, S1, S2, e, d, ⟨x, h1⟩, h2⟩ := h
  exact ⟨x, S, S1, S2, e, d, h1, h2⟩
theorem St.exI {α : Type} {P : α → As} (x : α) (h : St (P x :: R) H) : St (ex P :: R) H := (ent_ex x).st h
theorem St.purU (h : St (pur φ :: R) H) : φ ∧ St R H := by
  refine ⟨?_, h.cons0⟩
  obtain ⟨S, S1, S2, e, d, ⟨_, f⟩, h2⟩ := h
  exact f
theorem St.purI (f : φ) (h : St R H) : St (pur φ :: R) H := by
  obtain ⟨S, h⟩ := h
  exact ⟨S, fun _ => False, S, fun _ => ⟨.inr, fun z => z.elim (fun f => f.elim) id⟩, fun _ f => f.elim, ⟨fun _ f => f, f⟩, h⟩
theorem star_assoc1 {P Q T : As} {H : Hp} {S : Addr → Prop} (h : (star (star P Q) T).at_ H S) : (star P (star Q T)).at_ H S := by
  obtain ⟨S1, S2, e, d, ⟨S3, S4, e2, d2, h3, h4⟩, h2⟩ := h
  refine ⟨S3, fun x => S4 x ∨ S2 x, fun x => by rw [e x, e2 x]; exact or_assoc, fun x s t => ?_, h3, S4, S2, fun _ => Iff.rfl, fun x s t => d x ((e2 x).mpr (.inr s)) t, h4, h2⟩
  rcases t with t | t
  · exact d2 x s t
  · exact d x ((e2 x).mpr (.inl s)) t
theorem star_assoc2 {P Q T : As} {H : Hp} {S : Addr → Prop} (h : (star P (star Q T)).at_ H S) : (star (star P Q) T).at_ H S := by
  obtain ⟨S1, S2, e, d, h1, S3, S4, e2, d2, h3, h4⟩ := h
  refine ⟨fun x => S1 x ∨ S3 x, S4, fun x => by rw [e x, e2 x]; exact or_assoc.symm, fun x s t => ?_, ⟨S1, S3, fun _ => Iff.rfl, fun x s t => d x s ((e2 x).mpr (.inl t)), h1, h3⟩, h4⟩
  rcases s with s | s
  · exact d x s ((e2 x).mpr (.inr t))
  · exact d2 x s t
theorem ent_allU : ∀ (L R : List As), Ent (all L :: R) (L ++ R)
  | [], R => Ent.drop
  | P :: L, R => fun H S h => by
    have h' := star_assoc1 h
    exact (Ent.cons (ent_allU L R)) H S h'
theorem ent_allI : ∀ (L R : List As), Ent (L ++ R) (all L :: R)
  | [], R => fun H S h => ⟨S, fun _ s => s, fun _ => False, S, fun _ => ⟨.inr, fun z => z.elim (fun f => f.elim) id⟩, fun _ f => f.elim, fun _ f => f, h⟩
  | P :: L, R => fun H S h => by
    obtain ⟨S', i, h'⟩ := (Ent.cons (ent_allI L R)) H S h
    exact ⟨S', i, star_assoc2 h'⟩
theorem St.allU (h : St (all L :: R) H) : St (L ++ R) H := (ent_allU L R).st h
theorem St.allI (h : St (L ++ R) H) : St (all L :: R) H := (ent_allI L R).st h
/-- a new thing in a question -/
theorem nw {Rk : V → Hp → Prop} (h : St L H) (q : ∀ p H', St (cell p o :: L) H' → Rk (.ref p) H') : ∀ p, H p = none → Rk (.ref p) (L2.upd H p o) := fun p n => q p _ (h.new n)
theorem nwT {Rk : V → Hp → Prop} (h : St L H) (q : ∀ p H', St (tcell p xs :: L) H' → Rk (.ref p) H') : ∀ p, H p = none → Rk (.ref p) (L2.upd H p (.tup xs)) := fun p n => q p _ (h.newi n trivial)
theorem wr {Rk : Hp → Prop} (h : St L H) (s : Sel (cell a o) L R) (i : ¬ Imm o) (q : ∀ H', St (cell a o' :: R) H' → Rk H') : Rk (L2.upd H a o') := q _ (h.upd s i)
end
/-! ### promises over footprints, framed -/
/-- an assertion from a predicate with a list of cells -/
def fpa (P : Hp → List Addr → Prop) (l : ∀ (H H' : Hp) (A : List Addr), P H A → Agree (fun a => a ∈ A) H H' → P H' A) (d : ∀ (H : Hp) (A : List Addr), P H A → ∀ a, a ∈ A → H a ≠ none) : As :=
  ⟨fun H S => ∃ A : List Addr, (∀ a, S a ↔ a ∈ A) ∧ P H A, fun ⟨A, e, h⟩ g => ⟨A, e, l _ _ _ h ⟨fun a s => g.1 a ((e a).mpr s), g.2⟩⟩, fun ⟨A, e, h⟩ a s => d _ _ h a ((e a).mp s)⟩
theorem Agree.of_fp {A : List Addr} {S : Addr → Prop} {H H' : Hp} (f : Fp A H H') (im : ∀ a ∈ A, ∀ o, H a = some o → ¬ Imm o) (dm : ∀ b, S b → H b ≠ none) (dj : ∀ b, S b → b ∉ A) : Agree S H H' :=
  ⟨fun b s => by
    cases e : H b with
    | none => exact absurd e (dm b s)
    | some o => exact f b o e (dj b s), fun b o e i => f b o e fun m => im b m o e i⟩
end Sl
namespace Sl
open PySem PySem.Spec PyProof.Rows L2 Sx Rd
/-! ### steps -/
section
variable {K : PySem.W.Frag} {D : Ends} {σ : L2.St} {L R : List As} {H : Hp} {Q : VK} {Rk : Hp → Prop} {a b l p C dx : Addr} {f : Str} {fs fs' : List (Str × V)} {v x y : V} {xs ys : List V} {tl : TA} {te ta tb tv td ty : TE} {i j : Nat} {n : Int}
theorem k_setS (hs : St L H) (s : Sel (cell a (.ins C dx fs)) L R) (c : Cls K C) (n : NoAttr K C f) (hp : putF f y fs = fs') (l : fs.length < 1000) (q : ∀ H', St (cell a (.ins C dx fs') :: R) H' → Rk H') : kSet K f y (.ref a) H Rk :=
  k_set (hs.get s) c n hp l (q _ (hs.upd s id))
def kAug (K : PySem.W.Frag) (tv : TE) (rd : V → V → Hp → VK → Prop) (f : Str) (σ : L2.St) (x : V) (H1 : Hp) (R : Hp → Prop) : Prop := ∃ a C dx fs v, x = .ref a ∧ H1 a = some (.ins C dx fs) ∧ Cls K C ∧ NoAttr K C f ∧ fs.lookup f = some v ∧
  tv σ H1 fun y H2 => rd v y H2 fun z H3 => ∃ dx' fs', H3 a = some (.ins C dx' fs') ∧ fs'.length < 1000 ∧ R (upd H3 a (.ins C dx' (putF f z fs')))
theorem s_aug {rd : V → V → Hp → VK → Prop} (h : ta σ H fun x H1 => kAug K tv rd f σ x H1 (D.nx σ)) : sFldAug K ta tv rd f D σ H := h
/-- self.f += e, e an int that touches nothing -/
theorem k_augA {m : Int} (hs : St L H) (s : Sel (cell a (.ins C dx fs)) L R) (c : Cls K C) (na : NoAttr K C f) (lk : fs.lookup f = some (.int m)) (hp : putF f (.int (m + n)) fs = fs') (l : fs.length < 1000)
    (ht : ∀ Q' : VK, Q' (.int n) H → tv σ H Q') (q : ∀ H', St (cell a (.ins C dx fs') :: R) H' → Rk H') : kAug K tv rAdd f σ (.ref a) H Rk :=
  ⟨a, C, dx, fs, _, rfl, hs.get s, c, na, lk, ht _ ⟨m, n, rfl, rfl, dx, fs, hs.get s, l, by rw [hp]; exact q _ (hs.upd s id)⟩⟩
theorem c_appS (hs : St L H) (s : Sel (cell l (.lst xs)) L R) (z : xs.length < 100000) (q : ∀ H', St (cell l (.lst (xs ++ [v])) :: R) H' → Q .non H') : rAppend (.ref l) [v] H Q := c_app (hs.get s) (szl z) (q _ (hs.upd s id))
theorem c_pop0S (hs : St L H) (s : Sel (cell l (.lst (x :: xs))) L R) (z : xs.length < 100000) (q : ∀ H', St (cell l (.lst xs) :: R) H' → Q x H') : rPopAt (.ref l) [.int 0] H Q := c_pop0 (hs.get s) z (q _ (hs.upd s id))
theorem c_popS (hs : St L H) (s : Sel (cell l (.lst (xs ++ [x]))) L R) (q : ∀ H', St (cell l (.lst xs) :: R) H' → Q x H') : rPop (.ref l) [] H Q :=
  ⟨l, _, x, rfl, rfl, hs.get s, by simp, by rw [List.dropLast_concat]; exact q _ (hs.upd s id)⟩
theorem c_extS (hs : St L H) (s : Sel (cell l (.lst xs)) L R) (h : H b = some (.lst ys)) (z : xs.length + ys.length ≤ 100000) (q : ∀ H', St (cell l (.lst (xs ++ ys)) :: R) H' → Q .non H') : rExtend (.ref l) [.ref b] H Q :=
  ⟨l, b, xs, ys, rfl, rfl, hs.get s, h, sz z, q _ (hs.upd s id)⟩
theorem c_clrS (hs : St L H) (s : Sel (cell l (.lst xs)) L R) (q : ∀ H', St (cell l (.lst []) :: R) H' → Q .non H') : rClear (.ref l) [] H Q := ⟨l, xs, rfl, rfl, hs.get s, q _ (hs.upd s id)⟩
theorem c_setLS (hs : St L H) (s : Sel (cell l (.lst xs)) L R) (e : n = (j : Int)) (hj : j < xs.length) (q : ∀ H', St (cell l (.lst (xs.set j v)) :: R) H' → Rk H') : rSetL (.ref l) (.int n) v H Rk := c_setL (hs.get s) e hj (q _ (hs.upd s id))
def kNewL (xs : List V) (H : Hp) (Q : VK) : Prop := xs.length ≤ sizeLine ∧ ∀ p, H p = none → Q (.ref p) (upd H p (.lst xs))
theorem e_lstS (h : tl σ H fun xs H1 => kNewL xs H1 Q) : tLst tl σ H Q := h
theorem k_newL (hs : St L H) (z : xs.length ≤ 100000) (q : ∀ p H', St (cell p (.lst xs) :: L) H' → Q (.ref p) H') : kNewL xs H Q := ⟨sz z, fun p n => q p _ (hs.new n)⟩
def kNewT (xs : List V) (H : Hp) (Q : VK) : Prop := xs.length ≤ sizeLine ∧ ∀ p, H p = none → Q (.ref p) (upd H p (.tup xs))
theorem e_tupS (h : tl σ H fun xs H1 => kNewT xs H1 Q) : tTup tl σ H Q := h
theorem k_newT (hs : St L H) (z : xs.length ≤ 100000) (q : ∀ p H', St (tcell p xs :: L) H' → Q (.ref p) H') : kNewT xs H Q := ⟨sz z, fun p n => q p _ (hs.newi n trivial)⟩
theorem o_catS {zs : List V} (hs : St L H) (h : H l = some (.lst xs)) (h' : H b = some (.lst zs)) (z : xs.length + zs.length ≤ 100000) (q : ∀ p H', St (cell p (.lst (xs ++ zs)) :: L) H' → Q (.ref p) H') : rCat (.ref l) (.ref b) H Q := o_cat h h' (sz z) fun p n => q p _ (hs.new n)
theorem o_catAS {zs : List V} (hs : St L H) (h : SqT K H l xs) (h' : SqT K H b zs) (z : xs.length + zs.length ≤ 100000) (n1 : xs ≠ []) (n2 : zs ≠ []) (q : ∀ p H', St (tcell p (xs ++ zs) :: L) H' → Q (.ref p) H') : rCatA K (.ref l) (.ref b) H Q :=
  ⟨l, b, xs, zs, rfl, rfl, h, h', sz z, fun e => absurd e n1, fun _ e => absurd e n2, fun _ _ p n => q p _ (hs.newi n trivial)⟩
theorem o_slLS {lo hi : Option Int} (hs : St L H) (h : SqL K H a xs) (q : ∀ p H', St (cell p (.lst (cutV xs lo hi)) :: L) H' → Q (.ref p) H') : rSlL K (.ref a) lo hi H Q := o_slL h fun p n => q p _ (hs.new n)
theorem o_repS {Kx : PySem.W.Frag} (hs : St L H) (h : H l = some (.lst [v])) (h1 : 0 ≤ n) (h2 : n ≤ 100000) (q : ∀ p H', St (cell p (.lst (List.replicate n.toNat v)) :: L) H' → Q (.ref p) H') : rRep (.ref l) (.int n) H Q :=
  Rd.o_rep (K := Kx) h h1 (by simp; omega) (by omega) fun p n' => by
    have e : ∀ k : Nat, (List.replicate k [v]).flatten = List.replicate k v := fun k => by
      induction k with
      | zero => rfl
      | succ k ih => rw [List.replicate_succ, List.flatten_cons, ih]; rfl
    rw [e]; exact q p _ (hs.new n')
theorem c_lsS (hs : St L H) (h : SqL K H p ys) (q : ∀ l H', St (cell l (.lst ys) :: L) H' → Q (.ref l) H') : rLs K [.ref p] H Q := c_ls h fun l n => q l _ (hs.new n)
def kMake (C : Addr) (sp : Sp) (E : XK) (vs : List V) (H1 : Hp) (Q : VK) : Prop := ∀ x dx, H1 x = none → H1 dx = none → dx ≠ x → sp (.ref x :: vs) (upd (upd H1 dx (.own x)) x (.ins C dx [])) (fun v H2 => v = .non ∧ Q (.ref x) H2) E
theorem e_makeS {sp : Sp} {ES : L2.St → XK} (h : tl σ H fun vs H1 => kMake C sp (ES σ) vs H1 Q) : tMakeS C sp ES tl σ H Q := h
theorem k_make {sp : Sp} {E : XK} {vs : List V} (hs : St L H) (q : ∀ x dx H', St (cell x (.ins C dx []) :: L) H' → sp (.ref x :: vs) H' (fun v H2 => v = .non ∧ Q (.ref x) H2) E) : kMake C sp E vs H Q := fun x dx n1 n2 ne =>
  q x dx _ ((hs.keep n2).new (by rw [upd_ne ne.symm]; exact n1))
def kMakeK (C : Addr) (m : Nat) (sp : Sp) (gV : List V → List V → List V) (E : XK) (zs : List V) (H2 : Hp) (Q : VK) : Prop := zs.length = m ∧ ∀ x dx, H2 x = none → H2 dx = none → dx ≠ x →
  sp (gV [.ref x] zs) (upd (upd H2 dx (.own x)) x (.ins C dx [])) (fun v H3 => v = .non ∧ Q (.ref x) H3) E
theorem e_makeKS {m : Nat} {sp : Sp} {gV : List V → List V → List V} {ES : L2.St → XK} (h : tl σ H fun zs H2 => kMakeK C m sp gV (ES σ) zs H2 Q) : tMakeKS C m sp gV ES tl σ H Q := h
theorem k_makeK {m : Nat} {sp : Sp} {gV : List V → List V → List V} {E : XK} {zs : List V} (hs : St L H) (hm : zs.length = m) (q : ∀ x dx H', St (cell x (.ins C dx []) :: L) H' → sp (gV [.ref x] zs) H' (fun v H2 => v = .non ∧ Q (.ref x) H2) E) : kMakeK C m sp gV E zs H Q :=
  ⟨hm, fun x dx n1 n2 ne => q x dx _ ((hs.keep n2).new (by rw [upd_ne ne.symm]; exact n1))⟩
def kNewD (H : Hp) (Q : VK) : Prop := ∀ p, H p = none → Q (.ref p) (upd H p (.dK []))
theorem e_dnew (h : kNewD H Q) : tDNewK σ H Q := h
theorem k_newD (hs : St L H) (q : ∀ p H', St (cell p (.dK []) :: L) H' → Q (.ref p) H') : kNewD H Q := fun p n => q p _ (hs.new n)
theorem k_dputS {kvs kvs' : List (Key × V)} {s : Str} (hs : St L H) (se : Sel (cell a (.dK kvs)) L R) (hl : kvs.length < 100000) (e : putK kvs (Sum.inr s) v = kvs') (q : ∀ H', St (cell a (.dK kvs') :: R) H' → Rk H') : kDPut v (.ref a) (.str s) H Rk :=
  k_dput (hs.get se) hl (by rw [e]; exact q _ (hs.upd se id))
def kRaise (W : WX) (C : Addr) (fld : Str) (σ : L2.St) (v : V) (H1 : Hp) : Prop := okV v ∧ ∀ d, H1 d = none → W (.ref C) (some d) σ (upd H1 d (.xd [(fld, v)]))
theorem s_raiseS {W : WX} {fld : Str} (h : te σ H fun v H1 => kRaise W C fld σ v H1) : tRaiseE W C fld te D σ H := h
theorem k_raise {W : WX} {fld : Str} (hs : St L H) (o : okV v) (q : ∀ d H', St (icell d (.xd [(fld, v)]) :: L) H' → W (.ref C) (some d) σ H') : kRaise W C fld σ v H := ⟨o, fun d n => q d _ (hs.newi n trivial)⟩
/-! ### persistent facts -/
def per (φ : Hp → Prop) (m : ∀ (H H' : Hp), φ H → (∀ a o, H a = some o → Imm o → H' a = some o) → φ H') : As := ⟨fun H S => (∀ a, ¬ S a) ∧ φ H, fun h g => ⟨h.1, m _ _ h.2 g.2⟩, fun h a s => absurd s (h.1 a)⟩
theorem St.perU {φ : Hp → Prop} {m : ∀ (H H' : Hp), φ H → (∀ a o, H a = some o → Imm o → H' a = some o) → φ H'} (h : St L H) (s : Sel (per φ m) L R) : φ H := by
  obtain ⟨S, S1, S2, e, d, h1, h2⟩ := h.sel s
  exact h1.2
theorem St.perI {φ : Hp → Prop} {m : ∀ (H H' : Hp), φ H → (∀ a o, H a = some o → Imm o → H' a = some o) → φ H'} (h : St L H) (f : φ H) : St (per φ m :: L) H := by
  obtain ⟨S, h⟩ := h
  exact ⟨S, fun _ => False, S, fun _ => ⟨.inr, fun z => z.elim (fun f => f.elim) id⟩, fun _ f => f.elim, ⟨fun _ f => f, f⟩, h⟩
theorem St.perD {φ : Hp → Prop} {m : ∀ (H H' : Hp), φ H → (∀ a o, H a = some o → Imm o → H' a = some o) → φ H'} (h : St L H) (s : Sel (per φ m) L R) : St (per φ m :: L) H := h.perI (h.perU s)
end
end Sl
namespace Sl
open PySem PySem.Spec PyProof.Rows L2 Sx Rd
section
variable {L R : List As} {H H1 : Hp} {Q0 : As} {A A' ft : List Addr} {P P' : Hp → List Addr → Prop}
/-- from a promise over footprints to assertions -/
theorem step_gen {l' : ∀ (H H' : Hp) (A : List Addr), P' H A → Agree (fun a => a ∈ A) H H' → P' H' A} {d' : ∀ (H : Hp) (A : List Addr), P' H A → ∀ a, a ∈ A → H a ≠ none}
    (h : St (Q0 :: R) H) (hA : ∀ S, Q0.at_ H S → ∀ x ∈ A, S x) (f : Fp ft H H1) (hf : ∀ x ∈ ft, (x ∈ A ∨ H x = none) ∧ ∀ o, H x = some o → ¬ Imm o) (p : P' H1 A') (hA' : ∀ x ∈ A', x ∈ A ∨ H x = none) : St (fpa P' l' d' :: R) H1 := by
  obtain ⟨S, S1, S2, e, d, h1, h2⟩ := h
  have dm := (all R).dom h2
  have hS := hA S1 h1
  refine ⟨fun x => x ∈ A' ∨ S2 x, fun x => x ∈ A', S2, fun _ => Iff.rfl, fun x m s => ?_, ⟨A', fun _ => Iff.rfl, p⟩, (all R).loc h2 ⟨fun b s => ?_, fun b o g i => f b o g fun m => (hf b m).2 o g i⟩⟩
  · rcases hA' x m with m | m
    · exact d x (hS x m) s
    · exact dm x s m
  · cases g : H b with
    | none => exact absurd g (dm b s)
    | some o =>
      refine f b o g fun m => ?_
      rcases (hf b m).1 with q | q
      · exact d b (hS b q) s
      · rw [q] at g; cases g
theorem fpa_U {l : ∀ (H H' : Hp) (A : List Addr), P H A → Agree (fun a => a ∈ A) H H' → P H' A} {dd : ∀ (H : Hp) (A : List Addr), P H A → ∀ a, a ∈ A → H a ≠ none} (h : St (fpa P l dd :: R) H) : ∃ A, P H A ∧
    ∀ (P' : Hp → List Addr → Prop) (l' : ∀ (H H' : Hp) (A : List Addr), P' H A → Agree (fun a => a ∈ A) H H' → P' H' A) (d' : ∀ (H : Hp) (A : List Addr), P' H A → ∀ a, a ∈ A → H a ≠ none) (ft A' : List Addr) (H1 : Hp),
      Fp ft H H1 → (∀ x ∈ ft, (x ∈ A ∨ H x = none) ∧ ∀ o, H x = some o → ¬ Imm o) → P' H1 A' → (∀ x ∈ A', x ∈ A ∨ H x = none) → St (fpa P' l' d' :: R) H1 := by
  obtain ⟨S, S1, S2, e, d, ⟨A, eA, h1⟩, h2⟩ := id h
  refine ⟨A, h1, fun P' l' d' ft A' H1 f hf p hA' => ?_⟩
  have h' : St (fpa (fun H A1 => A1 = A ∧ P H A) (fun H H' A1 ⟨x, y⟩ g => ⟨x, l _ _ _ y ⟨fun a m => g.1 a (by rw [x]; exact m), g.2⟩⟩) (fun H A1 ⟨x, y⟩ a m => by rw [x] at m; exact dd _ _ y a m) :: R) H := ⟨S, S1, S2, e, d, ⟨A, eA, rfl, h1⟩, h2⟩
  refine step_gen h' (fun S ⟨A1, e1, e2, _⟩ x m => (e1 x).mpr (by rw [e2]; exact m)) f hf p hA'
theorem fpa_new {l' : ∀ (H H' : Hp) (A : List Addr), P' H A → Agree (fun a => a ∈ A) H H' → P' H' A} {d' : ∀ (H : Hp) (A : List Addr), P' H A → ∀ a, a ∈ A → H a ≠ none}
    (h : St L H) (f : Fp [] H H1) (p : P' H1 A') (n : ∀ x ∈ A', H x = none) : St (fpa P' l' d' :: L) H1 := by
  have h' : St (emp :: L) H := by
    obtain ⟨S, h⟩ := h
    exact ⟨S, fun _ => False, S, fun _ => ⟨.inr, fun z => z.elim (fun f => f.elim) id⟩, fun _ f => f.elim, fun _ f => f, h⟩
  exact step_gen (A := []) h' (fun _ _ x m => by simp at m) f (fun x m => by simp at m) p fun x m => .inr (n x m)
theorem fpa_cell {a : Addr} {o : HO} {l' : ∀ (H H' : Hp) (A : List Addr), P' H A → Agree (fun a => a ∈ A) H H' → P' H' A} {d' : ∀ (H : Hp) (A : List Addr), P' H A → ∀ a, a ∈ A → H a ≠ none}
    (h : St (cell a o :: R) H) (i : ¬ Imm o) (f : Fp [a] H H1) (p : P' H1 A') (n : ∀ x ∈ A', x = a ∨ H x = none) : St (fpa P' l' d' :: R) H1 :=
  step_gen (A := [a]) h (fun S g x m => (g.1 x).mpr (List.mem_singleton.mp m)) f (fun x m => ⟨.inl m, fun u e => by rw [List.mem_singleton.mp m, h.get0] at e; cases e; exact i⟩) p fun x m => (n x m).imp (fun e => by rw [e]; simp) id
theorem St.keepF (h : St L H) (f : Fp [] H H1) : St L H1 := by
  obtain ⟨S, h⟩ := h
  exact ⟨S, (all L).loc h (Agree.of_fp f (fun a m => by simp at m) ((all L).dom h) fun b s => by simp)⟩
/-! ### lists of owned things -/
def lA {α : Type} (P : V → α → As) : List V → List α → As
  | [], [] => emp
  | v :: vs, x :: xs => star (P v x) (lA P vs xs)
  | _, _ => pur False
variable {α : Type} {Pa : V → α → As} {v : V} {x : α} {vs ws : List V} {xs ys : List α}
theorem lA.len (h : St (lA Pa vs xs :: R) H) : vs.length = xs.length := by
  induction vs generalizing xs R with
  | nil =>
    cases xs with
    | nil => rfl
    | cons x xs => exact h.purU.1.elim
  | cons v vs ih =>
    cases xs with
    | nil => exact h.purU.1.elim
    | cons x xs =>
      have h' : St (lA Pa vs xs :: Pa v x :: R) H := by
        obtain ⟨S, h⟩ := h
        exact Ent.swap.st ⟨S, star_assoc1 h⟩
      simp [ih h']
theorem St.starU {P Q : As} (h : St (star P Q :: R) H) : St (P :: Q :: R) H := by
  obtain ⟨S, h⟩ := h
  exact ⟨S, star_assoc1 h⟩
theorem St.starI {P Q : As} (h : St (P :: Q :: R) H) : St (star P Q :: R) H := by
  obtain ⟨S, h⟩ := h
  exact ⟨S, star_assoc2 h⟩
theorem lA.consU (h : St (lA Pa vs (x :: xs) :: R) H) : ∃ v ws, vs = v :: ws ∧ St (Pa v x :: lA Pa ws xs :: R) H := by
  cases vs with
  | nil => exact h.purU.1.elim
  | cons v ws => exact ⟨v, ws, rfl, h.starU⟩
theorem lA.consI (h : St (Pa v x :: lA Pa vs xs :: R) H) : St (lA Pa (v :: vs) (x :: xs) :: R) H := h.starI
theorem lA.nilI (h : St R H) : St (lA Pa [] [] :: R) H := by
  obtain ⟨S, h⟩ := h
  exact ⟨S, fun _ => False, S, fun _ => ⟨.inr, fun z => z.elim (fun f => f.elim) id⟩, fun _ f => f.elim, fun _ f => f, h⟩
theorem lA.nilU (h : St (lA Pa vs [] :: R) H) : vs = [] := List.eq_nil_of_length_eq_zero (lA.len h)
theorem lA.appI (h : St (lA Pa vs xs :: lA Pa ws ys :: R) H) : St (lA Pa (vs ++ ws) (xs ++ ys) :: R) H := by
  induction vs generalizing xs R with
  | nil =>
    cases xs with
    | nil => exact h.cons0
    | cons x xs => exact h.purU.1.elim
  | cons v vs ih =>
    cases xs with
    | nil => exact h.purU.1.elim
    | cons x xs =>
      have h1 := (Ent.cons Ent.swap).st (Ent.swap.st h.starU)
      exact lA.consI (Ent.swap.st (ih (R := Pa v x :: R) ((Ent.cons Ent.swap).st h1 |> fun h => (Ent.cons Ent.swap).st h)))
theorem lA.snocI (h : St (lA Pa vs xs :: Pa v x :: R) H) : St (lA Pa (vs ++ [v]) (xs ++ [x]) :: R) H := by
  refine lA.appI (Ent.swap.st ?_)
  refine lA.consI ?_
  have h1 := Ent.swap.st h
  have h2 : St (lA Pa [] [] :: Pa v x :: lA Pa vs xs :: R) H := lA.nilI h1
  exact Ent.swap.st h2
theorem lA.appU {xs ys : List α} (h : St (lA Pa vs (xs ++ ys) :: R) H) : ∃ v1 v2, vs = v1 ++ v2 ∧ St (lA Pa v1 xs :: lA Pa v2 ys :: R) H := by
  induction xs generalizing vs R with
  | nil => exact ⟨[], vs, rfl, lA.nilI h⟩
  | cons x xs ih =>
    obtain ⟨v, ws, rfl, h1⟩ := lA.consU h
    obtain ⟨v1, v2, rfl, h2⟩ := ih (Ent.swap.st h1)
    exact ⟨v :: v1, v2, rfl, lA.consI (Ent.swap.st ((Ent.cons Ent.swap).st h2))⟩
/-- all but the i-th -/
def lH (P : V → α → As) (vs : List V) (xs : List α) (i : Nat) : As := star (lA P (vs.take i) (xs.take i)) (lA P (vs.drop (i + 1)) (xs.drop (i + 1)))
theorem lA.out {i : Nat} (h : St (lA Pa vs xs :: R) H) (hx : xs[i]? = some x) : ∃ v, vs[i]? = some v ∧ St (Pa v x :: lH Pa vs xs i :: R) H := by
  obtain ⟨hi, rfl⟩ := List.getElem?_eq_some_iff.mp hx
  have e : xs = xs.take i ++ (xs[i] :: xs.drop (i + 1)) := by rw [List.getElem_cons_drop, List.take_append_drop]
  rw [e] at h
  obtain ⟨v1, v2, rfl, h1⟩ := lA.appU h
  have l1 : v1.length = i := by rw [lA.len h1, List.length_take]; omega
  obtain ⟨v, ws, rfl, h2⟩ := lA.consU (Ent.swap.st h1)
  refine ⟨v, by rw [List.getElem?_append_right (by omega), l1, Nat.sub_self]; rfl, ?_⟩
  have e1 : (v1 ++ v :: ws).take i = v1 := by rw [← l1, List.take_left]
  have e2 : (v1 ++ v :: ws).drop (i + 1) = ws := by rw [← l1, List.drop_append]; simp
  unfold lH
  rw [e1, e2]
  have h3 := (Ent.cons Ent.swap).st h2
  have h4 : St (Pa v xs[i] :: star (lA Pa v1 (xs.take i)) (lA Pa ws (xs.drop (i + 1))) :: R) H := by
    obtain ⟨S, S1, S2, e, d, g1, g2⟩ := h3
    exact ⟨S, S1, S2, e, d, g1, star_assoc2 g2⟩
  exact h4
theorem lA.back {i : Nat} (hi : i < xs.length) (hv : vs[i]? = some v) (h : St (Pa v x :: lH Pa vs xs i :: R) H) : St (lA Pa vs (xs.set i x) :: R) H := by
  unfold lH at h
  have h3 : St (Pa v x :: lA Pa (vs.take i) (xs.take i) :: lA Pa (vs.drop (i + 1)) (xs.drop (i + 1)) :: R) H := by
    obtain ⟨S, S1, S2, e, d, g1, g2⟩ := h
    exact ⟨S, S1, S2, e, d, g1, star_assoc1 g2⟩
  have h4 := lA.appI (Ent.swap.st (lA.consI ((Ent.cons Ent.swap).st h3)))
  obtain ⟨hj, rfl⟩ := List.getElem?_eq_some_iff.mp hv
  rw [show vs.take i ++ vs[i] :: vs.drop (i + 1) = vs by rw [List.getElem_cons_drop, List.take_append_drop]] at h4
  rw [show xs.set i x = xs.take i ++ x :: xs.drop (i + 1) from List.set_eq_take_append_cons_drop .. |>.trans (if_pos hi)]
  exact h4
end
end Sl
namespace Sl
open PySem PySem.Spec PyProof.Rows L2 Sx Rd
section
variable {L M R : List As} {H : Hp} {P Q : As} {α : Type} {Pa : V → α → As} {v : V} {x : α} {vs ws : List V} {xs ys : List α}
theorem St.sel2 (h : St L H) (s1 : Sel P L M) (s2 : Sel Q M R) : St (P :: Q :: R) H := (Ent.cons s2.ent).st (h.sel s1)
theorem St.sel3 {T : As} {N : List As} (h : St L H) (s1 : Sel P L M) (s2 : Sel Q M N) (s3 : Sel T N R) : St (P :: Q :: T :: R) H := (Ent.cons (Ent.cons s3.ent)).st (h.sel2 s1 s2)
theorem lA.snocS (h : St L H) (s1 : Sel (lA Pa vs xs) L M) (s2 : Sel (Pa v x) M R) : St (lA Pa (vs ++ [v]) (xs ++ [x]) :: R) H := lA.snocI (h.sel2 s1 s2)
theorem lA.consS (h : St L H) (s1 : Sel (Pa v x) L M) (s2 : Sel (lA Pa vs xs) M R) : St (lA Pa (v :: vs) (x :: xs) :: R) H := lA.consI (h.sel2 s1 s2)
theorem lA.appS (h : St L H) (s1 : Sel (lA Pa vs xs) L M) (s2 : Sel (lA Pa ws ys) M R) : St (lA Pa (vs ++ ws) (xs ++ ys) :: R) H := lA.appI (h.sel2 s1 s2)
theorem lA.unS (h : St L H) (s : Sel (lA Pa vs (x :: xs)) L R) : ∃ v ws, vs = v :: ws ∧ St (Pa v x :: lA Pa ws xs :: R) H := lA.consU (h.sel s)
theorem lA.lenS (h : St L H) (s : Sel (lA Pa vs xs) L R) : vs.length = xs.length := lA.len (h.sel s)
theorem lA.outS {i : Nat} (h : St L H) (s : Sel (lA Pa vs xs) L R) (hx : xs[i]? = some x) : ∃ v, vs[i]? = some v ∧ St (Pa v x :: lH Pa vs xs i :: R) H := lA.out (h.sel s) hx
theorem lA.backS {i : Nat} (h : St L H) (s1 : Sel (Pa v x) L M) (s2 : Sel (lH Pa vs xs i) M R) (hi : i < xs.length) (hv : vs[i]? = some v) : St (lA Pa vs (xs.set i x) :: R) H := lA.back hi hv (h.sel2 s1 s2)
/-- given back as it was -/
theorem lA.backE {i : Nat} (h : St L H) (s1 : Sel (Pa v x) L M) (s2 : Sel (lH Pa vs xs i) M R) (hx : xs[i]? = some x) (hv : vs[i]? = some v) : St (lA Pa vs xs :: R) H := by
  obtain ⟨hi, rfl⟩ := List.getElem?_eq_some_iff.mp hx
  have z := lA.backS h s1 s2 hi hv
  rwa [List.set_getElem_self] at z
end
end Sl
namespace Sl
open PySem PySem.Spec PyProof.Rows L2 Sx Rd
/-! ### comprehensions -/
section
variable {K : PySem.W.Frag} {σ : L2.St} {H : Hp} {Q : VK} {g : TG} {tt : TT} {te : TE} {vs : List Nat} {L R0 : List As} {p : Addr} {xs : List V}
/-- what a turn has to bring about -/
abbrev LcStep (g : TG) (tt : TT) (te : TE) (vs : List Nat) (σ : L2.St) (φ : Nat → List V → Prop) (Lf : Nat → List V → List As) (E : Addr) (i : Nat) (x : V) (acc : List V) (H' : Hp) : Prop :=
  ∀ (R : VK) (N : Hp → Prop), (∀ y H4, φ (i + 1) (acc ++ [y]) → St (cell E (.lst acc) :: Lf (i + 1) (acc ++ [y])) H4 → R y H4) → (∀ H4, φ (i + 1) acc → St (cell E (.lst acc) :: Lf (i + 1) acc) H4 → N H4) →
    g x (wipe σ vs) H' fun σ2 H2 => wipe σ2 vs = wipe σ vs ∧ tt σ2 H2 fun b H3 => if b = true then te σ2 H3 R else N H3
theorem k_lcLS (φ : Nat → List V → Prop) (Lf : Nat → List V → List As) (hs : St (Lf 0 []) H) (hq : SqL K H p xs) (hz : xs.length < 100000) (f0 : φ 0 [])
    (hl : ∀ i E acc H', φ i acc → St (cell E (.lst acc) :: Lf i acc) H' → SqL K H' p xs)
    (st : ∀ E i x acc H', xs[i]? = some x → acc.length ≤ i → φ i acc → St (cell E (.lst acc) :: Lf i acc) H' → LcStep g tt te vs σ φ Lf E i x acc H')
    (q : ∀ E acc H', acc.length ≤ xs.length → φ xs.length acc → St (cell E (.lst acc) :: Lf xs.length acc) H' → Q (.ref E) H') : kLcL K g tt te vs σ Q (.ref p) H := by
  refine ⟨p, rfl, ⟨_, hq⟩, fun E hE => ?_⟩
  refine lc_list (K := K) (a := p) (xs := xs) (fun i H' => ∃ acc, acc.length ≤ i ∧ φ i acc ∧ St (cell E (.lst acc) :: Lf i acc) H') ⟨[], Nat.le_refl _, f0, hs.new hE⟩ (fun i H' hi ⟨acc, _, f, h⟩ => hl i E acc H' f h) (fun i x H' hx ⟨acc, ha, f, h⟩ => ?_) fun H' ⟨acc, ha, f, h⟩ => q E acc H' ha f h
  have hi : i < xs.length := (List.getElem?_eq_some_iff.mp hx).1
  exact st E i x acc H' hx ha f h _ _ (fun y H4 f4 h4 => ⟨acc, h4.get0, szl (by omega), acc ++ [y], by rw [List.length_append]; simp; omega, f4, h4.upd0 id⟩) fun H4 f4 h4 => ⟨acc, by omega, f4, h4⟩
/-- over range(n) -/
theorem k_lcFS {n : Int} (φ : Nat → List V → Prop) (Lf : Nat → List V → List As) (hs : St (Lf 0 []) H) (h1 : 0 ≤ n) (h2 : n < 100000) (f0 : φ 0 [])
    (st : ∀ E (i : Nat) acc H', (i : Int) < n → acc.length ≤ i → φ i acc → St (cell E (.lst acc) :: Lf i acc) H' → LcStep g tt te vs σ φ Lf E i (.int (i : Nat)) acc H')
    (q : ∀ E acc H', acc.length ≤ n.toNat → φ n.toNat acc → St (cell E (.lst acc) :: Lf n.toNat acc) H' → Q (.ref E) H') : kLcF g tt te vs σ Q (.int n) H := by
  refine ⟨n, rfl, by omega, by omega, fun E hE => ?_⟩
  refine lc_range (lo := 0) (n := n.toNat) (fun i H' => ∃ acc, acc.length ≤ i ∧ φ i acc ∧ St (cell E (.lst acc) :: Lf i acc) H') ⟨[], Nat.le_refl _, f0, hs.new hE⟩ (fun i H' hi ⟨acc, ha, f, h⟩ => ?_) fun H' ⟨acc, ha, f, h⟩ => q E acc H' ha f h
  have e0 : (0 : Int) + (i : Int) = (i : Int) := Int.zero_add _
  rw [e0]
  exact st E i acc H' (by omega) ha f h _ _ (fun y H4 f4 h4 => ⟨acc, h4.get0, szl (by omega), acc ++ [y], by rw [List.length_append]; simp; omega, f4, h4.upd0 id⟩) fun H4 f4 h4 => ⟨acc, by omega, f4, h4⟩
/-- over enumerate(list) -/
theorem k_lcES (φ : Nat → List V → Prop) (Lf : Nat → List V → List As) (hs : St (Lf 0 []) H) (hq : SqL K H p xs) (hz : xs.length < 100000) (f0 : φ 0 [])
    (hl : ∀ i E acc H', φ i acc → St (cell E (.lst acc) :: Lf i acc) H' → SqL K H' p xs)
    (st : ∀ E T i x acc H', xs[i]? = some x → acc.length ≤ i → φ i acc → H' T = some (.tup [.int (i : Nat), x]) → St (cell E (.lst acc) :: Lf i acc) H' → LcStep g tt te vs σ φ Lf E i (.ref T) acc H')
    (q : ∀ E acc H', acc.length ≤ xs.length → φ xs.length acc → St (cell E (.lst acc) :: Lf xs.length acc) H' → Q (.ref E) H') : kLcE K g tt te vs σ Q [.ref p] H := by
  refine ⟨p, xs, rfl, hq, fun E hE => ?_⟩
  refine ⟨fun i m H' => m = xs.length - i ∧ i ≤ xs.length ∧ ∃ acc, acc.length ≤ i ∧ φ i acc ∧ St (cell E (.lst acc) :: Lf i acc) H', ⟨_, rfl, Nat.zero_le _, [], Nat.le_refl _, f0, hs.new hE⟩, ?_⟩
  rintro i m H' ⟨rfl, hi, acc, ha, f, h⟩
  have hq' := hl i E acc H' f h
  by_cases hlt : i < xs.length
  · refine .inr ⟨⟨xs, xs[i], hq', List.getElem?_eq_getElem hlt⟩, fun H4 => ∃ acc, acc.length ≤ i + 1 ∧ φ (i + 1) acc ∧ St (cell E (.lst acc) :: Lf (i + 1) acc) H4, fun H4 z => ⟨_, by omega, rfl, by omega, z⟩, ?_⟩
    rintro v H2 ⟨T, x, rfl, hT, rfl, hx⟩
    exact st E T i x acc _ (hx xs hq') ha f upd_same (h.keep hT) _ _ (fun y H4 f4 h4 => ⟨acc, h4.get0, szl (by omega), acc ++ [y], by rw [List.length_append]; simp; omega, f4, h4.upd0 id⟩) fun H4 f4 h4 => ⟨acc, by omega, f4, h4⟩
  · have hi2 : i = xs.length := by omega
    subst hi2
    exact .inl ⟨⟨xs, hq', Nat.le_refl _⟩, q E acc H' ha f h⟩
/-- one more assertion that grows -/
theorem k_lcLX (X : Nat → List V → As) (hs : St L H) (hq : SqL K H p xs) (hz : xs.length < 100000) (h0 : St L H → St (X 0 [] :: L) H)
    (hl : ∀ i E acc H', St (cell E (.lst acc) :: X i acc :: L) H' → SqL K H' p xs)
    (st : ∀ E i x acc H', xs[i]? = some x → acc.length ≤ i → St (cell E (.lst acc) :: X i acc :: L) H' → LcStep g tt te vs σ (fun _ _ => True) (fun i acc => X i acc :: L) E i x acc H')
    (q : ∀ E acc H', acc.length ≤ xs.length → St (cell E (.lst acc) :: X xs.length acc :: L) H' → Q (.ref E) H') : kLcL K g tt te vs σ Q (.ref p) H :=
  k_lcLS (fun _ _ => True) (fun i acc => X i acc :: L) (h0 hs) hq hz trivial (fun i E acc H' _ h => hl i E acc H' h) (fun E i x acc H' hx ha _ h => st E i x acc H' hx ha h) fun E acc H' ha _ h => q E acc H' ha h
theorem St.perm {M R : List As} (h : St L H) (s : Sels M L R) : St M H := by
  have z := h.sels s
  have e : ∀ M : List As, Ent (M ++ R) M := fun M => by
    induction M with
    | nil => exact fun H S h => ⟨fun _ => False, fun _ f => f.elim, fun _ f => f⟩
    | cons P M ih => exact ih.cons
  exact (e M).st z
/-- a test that is none -/
theorem lc_yes {σ2 : L2.St} {H2 : Hp} {R : VK} {N : Hp → Prop} (h : te σ2 H2 R) : tYes σ2 H2 fun b H3 => if b = true then te σ2 H3 R else N H3 := t_yes (iteT h)
end
end Sl
namespace Sl
open PySem PySem.Spec PyProof.Rows L2 Sx Rd
/-- a cut without a promise of its own: what follows is read on each way -/
theorem s_cut0 {D : Ends} {σ : L2.St} {H : Hp} {t u : TS} (h : t { D with nx := u D } σ H) : Evl.tCut t u D σ H := s_cut (u D) h fun _ _ z => z
end Sl
namespace Sl
open PySem PySem.Spec PyProof.Rows L2 Sx Rd
theorem St.nil {H : Hp} : St [] H := ⟨fun _ => False, fun _ f => f⟩
theorem ix_ints {ns : List Int} {r : Int} (h0 : 0 ≤ r) (h1 : r < ns.length) : ∃ m ∈ ns, atI (ns.map V.int) r = some (.int m) := by
  obtain ⟨j, rfl⟩ := Int.eq_ofNat_of_zero_le h0
  have hj : j < ns.length := by omega
  exact ⟨ns[j], List.getElem_mem hj, atI_nat (by rw [List.getElem?_map, List.getElem?_eq_getElem hj]; rfl)⟩
end Sl
namespace Sl
open PySem PySem.Spec PyProof.Rows L2 Sx Rd
theorem ix_of (ns : List Int) {xs : List V} {r : Int} (e : xs = ns.map V.int) (h0 : 0 ≤ r) (h1 : r < ns.length) : ∃ m ∈ ns, atI xs r = some (.int m) := by
  subst e
  exact ix_ints h0 h1
end Sl
namespace Sl
open PySem PySem.Spec PyProof.Rows L2 Sx Rd
theorem t_up0 {t : TT} {σ : L2.St} {H : Hp} {Q : Bool → Hp → Prop} (h : t σ H Q) : tUpT t σ H Q := t_up Q h fun _ _ z => z
end Sl
namespace Sl
open PySem PySem.Spec PyProof.Rows L2 Sx Rd
/-- a new thing, found behind a promise over footprints -/
theorem St.newF {L : List As} {H H1 : Hp} {a : Addr} {o : HO} (h : St L H) (f : Fp [] H H1) (n : H a = none) (g : H1 a = some o) : St (cell a o :: L) H1 := by
  obtain ⟨S, h⟩ := h
  have dm := (all L).dom h
  exact ⟨fun b => b = a ∨ S b, fun b => b = a, S, fun _ => Iff.rfl, fun b z s => dm b s (z ▸ n), ⟨fun _ => Iff.rfl, g⟩, (all L).loc h (Agree.of_fp f (fun _ m => by simp at m) dm fun _ _ => by simp)⟩
theorem St.newiF {L : List As} {H H1 : Hp} {a : Addr} {o : HO} (h : St L H) (f : Fp [] H H1) (g : H1 a = some o) (i : Imm o) : St (icell a o :: L) H1 := by
  obtain ⟨S, h⟩ := h.keepF f
  exact ⟨S, fun _ => False, S, fun _ => ⟨.inr, fun z => z.elim (fun f => f.elim) id⟩, fun _ f => f.elim, ⟨fun _ f => f, g, i⟩, h⟩
end Sl
namespace Sl
open PySem PySem.Spec PyProof.Rows L2 Sx Rd
theorem St.iadd {L : List As} {H : Hp} {a : Addr} {o : HO} (h : St L H) (g : H a = some o) (i : Imm o) : St (icell a o :: L) H := by
  obtain ⟨S, h⟩ := h
  exact ⟨S, fun _ => False, S, fun _ => ⟨.inr, fun z => z.elim (fun f => f.elim) id⟩, fun _ f => f.elim, ⟨fun _ f => f, g, i⟩, h⟩
end Sl
namespace Sl
open PySem PySem.Spec PyProof.Rows L2 Sx Rd
/-- a list that is only read: tracked, frozen or known -/
def sqA (K : PySem.W.Frag) (b : Addr) (xs : List V) : As := ⟨fun H S => SqL K H b xs ∧ ((H b = some (.lst xs) ∧ ∀ x, S x ↔ x = b) ∨ ((∀ x, ¬ S x) ∧ ((∃ o, H b = some (.frz o (.lst xs))) ∨ ∀ H' : Hp, SqL K H' b xs))),
  fun {H H' S} ⟨h, c⟩ g => by
    rcases c with ⟨e, s⟩ | ⟨s, ⟨o, e⟩ | e⟩
    · have e' : H' b = some (.lst xs) := by rw [g.1 b ((s b).mpr rfl)]; exact e
      exact ⟨.inl (.inl e'), .inl ⟨e', s⟩⟩
    · have e' := g.2 _ _ e trivial
      exact ⟨.inl (.inr ⟨o, e'⟩), .inr ⟨s, .inl ⟨o, e'⟩⟩⟩
    · exact ⟨e H', .inr ⟨s, .inr e⟩⟩,
  fun {H S} ⟨h, c⟩ a m => by
    rcases c with ⟨e, s⟩ | ⟨s, _⟩
    · rw [(s a).mp m, e]; simp
    · exact absurd m (s a)⟩
theorem sqA.U {K : PySem.W.Frag} {b : Addr} {xs : List V} {L R : List As} {H : Hp} (hs : St L H) (s : Sel (sqA K b xs) L R) : SqL K H b xs := by
  obtain ⟨S, S1, S2, e, d, h1, h2⟩ := hs.sel s
  exact h1.1
theorem sqA.new {K : PySem.W.Frag} {b : Addr} {xs : List V} {H : Hp} (h : SqL K H b xs) : St [sqA K b xs] H := by
  have mk : ∀ S : Addr → Prop, (sqA K b xs).at_ H S → St [sqA K b xs] H := fun S h => ⟨S, S, fun _ => False, fun _ => ⟨.inl, fun z => z.elim id fun f => f.elim⟩, fun _ _ f => f, h, fun _ f => f⟩
  rcases id h with (e | ⟨o, e⟩) | e
  · exact mk (fun x => x = b) ⟨h, .inl ⟨e, fun _ => Iff.rfl⟩⟩
  · exact mk (fun _ => False) ⟨h, .inr ⟨fun _ f => f, .inl ⟨o, e⟩⟩⟩
  · exact mk (fun _ => False) ⟨h, .inr ⟨fun _ f => f, .inr fun H' => .inr e⟩⟩
end Sl
namespace Sl
open PySem PySem.Spec PyProof.Rows L2 Sx Rd
section
variable {K : PySem.W.Frag} {H : Hp} {Q : VK} {a : Addr}
theorem c_max {ns : List Int} {m : Int} (h : SqL K H a (ns.map V.int)) (hm : m ∈ ns) (hx : ∀ y ∈ ns, y ≤ m) (q : Q (.int m) H) : rMax K [.ref a] H Q :=
  ⟨a, ns, rfl, h, List.length_pos_iff.mpr fun e => (by rw [e] at hm; cases hm), fun m' h1 h2 => by
    have : m' = m := Int.le_antisymm (hx m' h1) (h2 m hm)
    rw [this]; exact q⟩
theorem c_min {ns : List Int} {m : Int} (h : SqL K H a (ns.map V.int)) (hm : m ∈ ns) (hx : ∀ y ∈ ns, m ≤ y) (q : Q (.int m) H) : rMin K [.ref a] H Q :=
  ⟨a, ns, rfl, h, List.length_pos_iff.mpr fun e => (by rw [e] at hm; cases hm), fun m' h1 h2 => by
    have : m' = m := Int.le_antisymm (h2 m hm) (hx m' h1)
    rw [this]; exact q⟩
theorem c_all {bs : List Bool} (h : SqL K H a (bs.map V.bl)) (q : Q (.bl (bs.all id)) H) : rAll K [.ref a] H Q := ⟨a, bs, rfl, h, q⟩
/-- the greatest of some numbers -/
theorem max_of : ∀ (ns : List Int), ns ≠ [] → ∃ m ∈ ns, ∀ y ∈ ns, y ≤ m
  | [], h => absurd rfl h
  | [x], _ => ⟨x, by simp, by simp⟩
  | x :: y :: r, _ => by
    obtain ⟨m, h1, h2⟩ := max_of (y :: r) (by simp)
    by_cases h : m ≤ x
    · exact ⟨x, by simp, fun z hz => by rcases List.mem_cons.mp hz with rfl | hz; exact Int.le_refl _; exact Int.le_trans (h2 z hz) h⟩
    · exact ⟨m, List.mem_cons_of_mem _ h1, fun z hz => by rcases List.mem_cons.mp hz with rfl | hz; omega; exact h2 z hz⟩
end
end Sl
/-! Promises that are kept where no text of a list is being made: what `repr` of a list wants. -/
set_option Elab.async false
set_option linter.all false
set_option maxRecDepth 100000
namespace L2
open PySem PySem.Spec PyProof.Rows

/-- a def's promise, asked for only where nothing guards -/
structure FnG (P : Program) (w : World) (K : PySem.W.Frag) (mg : Str → Option Value) (base : Heap) (CX : CXT) (k : Nat) (f : Addr) (fd : FuncData) (ps : List Str) (sp : Sp) : Prop where
  ar : ∀ vs H Q E, sp vs H Q E → vs.length = ps.length
  go : ∀ (A : Around) (outer : List Env) (s : Shared) (H : Hp) (args : Args) (us : List Value) (vs : List V) (Q : VK) (E : XK), A.guards = some [] → Room k A → Env0 P w K mg base A outer s H → BindsTo s fd args (ps.zip us) → Vals vs us → sp vs H Q E →
    codeAny (model P w) A (.call (.ref f) args) (CR CX outer P w H s Q E) s
section
variable {P : Program} {w : World} {K : PySem.W.Frag} {mg : Str → Option Value} {base : Heap} {CX : CXT} {k : Nat} {f : Addr} {fd : FuncData} {ps : List Str} {sp : Sp}
theorem FnOk.g (F : FnOk P w K mg base CX k f fd ps sp) : FnG P w K mg base CX k f fd ps sp :=
  ⟨F.len, fun A outer s H args us vs Q E _ => F.run A outer s H args us vs Q E⟩
theorem FnG.imp {sp' : Sp} (F : FnG P w K mg base CX k f fd ps sp) (h : ∀ vs H Q E, sp' vs H Q E → sp vs H Q E) : FnG P w K mg base CX k f fd ps sp' :=
  ⟨fun vs H Q E q => F.ar vs H Q E (h _ _ _ _ q), fun A outer s H args us vs Q E g hr e b v q => F.go A outer s H args us vs Q E g hr e b v (h _ _ _ _ q)⟩
end

/-- a fall out of a body, told to the caller -/
theorem told_of {CX : CXT} {P : Program} {w : World} {K : PySem.W.Frag} {mg : Str → Option Value} {base : Heap} {N : List Str} {qual : Str} {scope : Scope} {f : Addr} {cd : Value} {A : Around} {outer : List Env} {s s' : Shared} {H H' : Hp} {E : XK} {σ : St} {Q : VK} {v : V} {u : Value}
    (J : Inv (cxOf CX P w K mg base N qual scope f cd A outer s H E) [] σ H' s') (r : RelV v u) (q : Q v H') : CE outer P w H s Q u s' := ⟨v, H', J.os, J.bare, J.base, J.hok, r, q⟩

/-- the body keeps the promise; it may use that nothing guards -/
theorem fn_ofG {CX : CXT} {P : Program} {w : World} {K : PySem.W.Frag} {mg : Str → Option Value} {base : Heap} {k : Nat} {f : Addr} {name qual : Str} {params : Arguments} {body : List Stmt} {scope : Scope} {dV kV doc pm cdv ct oc : Value} {an od : Option Addr}
    {osl : Array (Option Value)} {N ps : List Str} {sp : Sp} (lk : K.lookup f = some ⟨oc, od, .func (PySem.W.fnOf name qual params body scope dV kV doc pm an cdv ct), osl⟩) (hcd : PySem.W.codeIn K cdv qual = true) (S : FnScope N ps scope)
    (ar : ∀ vs H Q E, sp vs H Q E → vs.length = ps.length)
    (hb : ∀ (A : Around) (outer : List Env) (s : Shared) (H : Hp) (vs : List V) (Q : VK) (E : XK), A.guards = some [] → Room k (A.deeper (envOfC qual scope s.heap.objs.size f cdv)) → sp vs H Q E →
      ∃ t, PSs (cxOf CX P w K mg base N qual scope f cdv A outer s H E) body t ∧ t { nx := fun _ H' => Q .non H', rt := Q } (start N vs) H) :
    FnG P w K mg base CX (k + 1) f (PySem.W.fnOf name qual params body scope dV kV doc pm an cdv ct) ps sp where
  ar := ar
  go A outer s H args us vs Q E g hr e0 hbd r hsp := by
    have KX : K.In s.heap := e0.mod.kin.keeps fun b o e => (e0.bs b o e).1
    refine codeAny_call_function hr.depth (KX _ _ lk) rfl S.co S.gen rfl (PySem.W.codeRec_of KX hcd) (hbd _ _ _ _ (wpAny_newFunctionEnv_cells S.kind (fun y hy => ?_) fun env he s1 x => ?_))
    · exact (S.par y.1 (List.of_mem_zip hy).1).imp id fun q => ⟨q, PySem.W.cellsFrom_some _ _ _ (.inl q)⟩
    · subst he
      obtain ⟨t, ht, hq⟩ := hb A outer s H vs Q E g (hr.deeper _) hsp
      refine ⟨(e0.mod.nolimit.keeps fun b o e => (e0.bs b o e).1).keeps x.toInCall.keep, codeAny_func (wpAny_mono (ht.run [] s1 (start N vs) H _ (inv_start S hr.hd e0 (ar _ _ _ _ hsp) r x) hq) (fun fl s' hs => ?_) fun e s' hs => hs)⟩
      match fl, hs with
      | .ret u, ⟨v, σ', H', J, rv, q⟩ => exact told_of J rv q
      | .next, ⟨σ', H', J, q⟩ => exact told_of (v := V.non) (u := Value.none) J rfl q
      | .brk, ⟨_, _, _, q⟩ => exact q.elim
      | .cont, ⟨_, _, _, q⟩ => exact q.elim
section
variable {P : Program} {w : World} {K : PySem.W.Frag} {mg : Str → Option Value} {base : Heap}
theorem Fun.okG {x qual : Str} {st : Stmt} {f : Addr} {fd : FuncData} {N ps : List Str} {k : Nat} {sp : Sp} (F : Fun K x qual st f fd) (S : FnScope N ps (defScope st)) (ar : ∀ vs H Q E, sp vs H Q E → vs.length = ps.length)
    (hb : ∀ (cdv : Value) (A : Around) (outer : List Env) (s : Shared) (H : Hp) (vs : List V) (Q : VK) (E : XK), A.guards = some [] → Room k (A.deeper (envOfC qual (defScope st) s.heap.objs.size f cdv)) → sp vs H Q E →
      ∃ t, PSs (cxOf (L2.CX P w) P w K mg base N qual (defScope st) f cdv A outer s H E) (defBody st) t ∧ t { nx := fun _ H' => Q .non H', rt := Q } (start N vs) H) : FnG P w K mg base (L2.CX P w) (k + 1) f fd ps sp := by
  obtain ⟨oc, od, kV, doc, pm, an, cdv, ct, osl, rfl, lk, hcd⟩ := F.ex
  exact fn_ofG lk hcd S ar fun A outer s H vs Q E g hr hsp => hb cdv A outer s H vs Q E g hr hsp
end
theorem gd_deeper {A : Around} {env : Env} (g : A.guards = some []) : (A.deeper env).guards = some [] := g

section
variable {X : Cx} {CX : CXT} {k : Nat} {f : Addr} {fd : FuncData} {ps : List Str} {sp : Sp} {dvs : List V} {ds : List Value} {E : XK} {x : Str} {p pos : Pos} {e : Expr} {es : List Expr} {t : TA}
/-- the text of a list -/
def rRepr (K : PySem.W.Frag) : List V → Hp → VK → Prop := fun xs H Q => ∃ a d, xs = [.ref a] ∧ Dp K H (.ref a) d ∧ d.hasDict = false ∧ d.showable = true ∧ d.depth ≤ 32 ∧ d.shown.length ≤ sizeLine ∧ Q (.str d.shown) H
theorem call_repr (g : X.A.guards = some []) (hu : X.A.units + 64 < cLine) : CallR X (.builtin "repr") (rRepr X.K) := by
  intro pins s σ H xs us Q I r ⟨a, d, e, hd, h0, h1, h2, h3, q⟩
  subst e
  obtain ⟨u, rfl, ru⟩ := vals1 r
  obtain ⟨as, hr⟩ := Dp.reads I d _ _ hd ru
  cases (show u = Value.ref a from ru)
  exact repr_of_reads' hr h1 (fun z => by rw [h0] at z; cases z) g (by omega) (fun _ _ z => z) (fun h' u tk hk => ⟨.str d.shown, H, I.kept hk, ⟨u, rfl⟩, q⟩) h3
theorem run_fnG {pins : List (Addr × Obj)} {σ : St} {H : Hp} {s : Shared} {Q : VK} {us : List Value} {vs : List V} (F : FnG X.prog X.w X.K X.mg X.base CX k f fd ps sp) (g : X.A.guards = some []) (hr : Room k X.A) (hb : Binds X.K fd ps ds) (hd : Vals dvs ds) (hx : Passes CX X E)
    (I : Inv X pins σ H s) (r : Vals vs us) (h : sp (vs ++ dvs) H Q E) : wpAny (model X.prog X.w) X.A (call (.ref f) us) (EP X pins σ Q) X.xe s := by
  have hl : (us ++ ds).length = ps.length := (r.append hd).length ▸ F.ar _ _ _ _ h
  refine wpAny_call (codeAny_mono (F.go X.A X.stack s H ⟨us, []⟩ (us ++ ds) (vs ++ dvs) Q E g hr I.env0 (hb s us I.kIn hl) (r.append hd) h) fun r s' hq => ?_)
  match r, hq with
  | .error e, hq => exact hx pins σ H s e s' I hq
  | .ok (.ret u), hq => exact I.after hq
  | .ok .next, hq => exact hq.elim
  | .ok .brk, hq => exact hq.elim
  | .ok .cont, hq => exact hq.elim
theorem pe_callG (F : FnG X.prog X.w X.K X.mg X.base CX k f fd ps sp) (g : X.A.guards = some []) (hr : Room k X.A) (hg : Gl X x) (hm : X.mg x = some (.ref f)) (hk : PySem.W.keepIn X.K (.ref f) = true) (hb : Binds X.K fd ps ds) (hd : Vals dvs ds) (hx : Passes CX X E)
    (ha : PA X (e :: es) t) (hdb : (x == ("__debug__" : Str)) = false := by decide) (he : starEach (e :: es) X.env = (false, eval e X.env) :: starEach es X.env := by rfl) (hpl : (backTo pos (starEach es X.env)).any (·.1) = false := by rfl) :
    PE X (.Call (.Name x p) (e :: es) [] pos) (tCall sp dvs E t) :=
  ⟨fun pins s σ H Q I h => wpAny_Call_Name_kw (ld_glob I hg hm (PySem.W.callWith_K (h₀ := X.base) I.ok.mod.kin hk (thn (ha.run pos pins s σ H _ I h) fun us s1 ⟨vs, H1, I1, r, q⟩ => ⟨I1.kIn, run_fnG F g hr hb hd hx I1 r q⟩) he hpl) hdb)⟩
end

section
variable {X : Cx} {CX : CXT} {k : Nat} {f : Addr} {fd : FuncData} {ps : List Str} {sp : Sp} {E : L2.St → XK} {x : Str} {p pos : Pos} {e : Expr} {es : List Expr} {t : TA}
theorem pe_callGS (F : FnG X.prog X.w X.K X.mg X.base CX k f fd ps sp) (g : X.A.guards = some []) (hr : Room k X.A) (hg : Gl X x) (hm : X.mg x = some (.ref f)) (hk : PySem.W.keepIn X.K (.ref f) = true) (hb : Binds X.K fd ps []) (hx : ∀ σ, PassesAt CX X σ (E σ))
    (ha : PA X (e :: es) t) (hdb : (x == ("__debug__" : Str)) = false := by decide) (he : starEach (e :: es) X.env = (false, eval e X.env) :: starEach es X.env := by rfl) (hpl : (backTo pos (starEach es X.env)).any (·.1) = false := by rfl) :
    PE X (.Call (.Name x p) (e :: es) [] pos) (tCallS sp E t) := by
  refine ⟨fun pins s σ H Q I h => wpAny_Call_Name_kw (ld_glob I hg hm (PySem.W.callWith_K (h₀ := X.base) I.ok.mod.kin hk (thn (ha.run pos pins s σ H _ I h) fun us s1 ⟨vs, H1, I1, r, q⟩ => ⟨I1.kIn, ?_⟩) he hpl) hdb)⟩
  have hl : us.length = ps.length := r.length ▸ F.ar _ _ _ _ q
  have b := hb s1 us I1.kIn (by rw [List.append_nil]; exact hl)
  rw [List.append_nil] at b
  refine wpAny_call (codeAny_mono (F.go X.A X.stack s1 H1 ⟨us, []⟩ us vs Q (E σ) g hr I1.env0 b r q) fun r s' hq => ?_)
  match r, hq with
  | .error e, hq => exact hx σ pins H1 s1 e s' I1 hq
  | .ok (.ret u), hq => exact I1.after hq
  | .ok .next, hq => exact hq.elim
  | .ok .brk, hq => exact hq.elim
  | .ok .cont, hq => exact hq.elim
end

/-! ### the law's call, from nothing -/
section
variable {P : Program} {w : World} {K : PySem.W.Frag} {mg mb : Str → Option Value} {CX : CXT} {k : Nat} {fa a : Addr} {fd : FuncData} {x : Str} {sp : Sp} {s₁ : Shared} {vs : List Value} {ns : List Int}
/-- the heap at the law's call: the script alone, if it is not one of the module's own lists -/
def H_in (K : PySem.W.Frag) (a : Addr) (vs : List Value) (ns : List Int) : Hp :=
  fun b => if K.lookup a = none ∧ b = a then some (.frz { cls := .type "list", data := .seq vs.toArray } (.lst (ns.map V.int))) else none
theorem H_in_some {b : Addr} {o : HO} (h : H_in K a vs ns b = some o) : K.lookup a = none ∧ b = a ∧ o = .frz { cls := .type "list", data := .seq vs.toArray } (.lst (ns.map V.int)) := by
  unfold H_in at h
  split at h
  · rename_i c; exact ⟨c.1, c.2, (Option.some.inj h).symm⟩
  · cases h
theorem H_in_none {b : Addr} (h : K.lookup a = none → b ≠ a) : H_in K a vs ns b = none := if_neg fun c => h c.1 c.2
theorem law_callG (KX : K.In s₁.heap) (hns : s₁.heap.Ns mainGlobals mg) (hb : s₁.heap.Ns builtinsNs mb) (hbb : ∀ x : Str, x ≠ "__name__" → mb x = bootBuiltins x) (hlim : s₁.heap.NoLimit) (hg : s₁.gens = #[])
    (ha : s₁.heap.get? a = some { cls := .type "list", data := .seq vs.toArray }) (hi : IntsAre vs ns) (hl : ns.length ≤ sizeLine) (hr : Room k callerA)
    (F : ∀ base : Heap, K.In base → base.Ns mainGlobals mg → FnG P w K mg base CX k fa fd [x] sp) (hbind : ∀ (s : Shared) (u : Value), BindsTo s fd ⟨[u], []⟩ [(x, u)])
    (hsp : ∀ H : Hp, Only H → SqL K H a (ns.map V.int) → sp [.ref a] H (fun v _ => v = .bl true) fun _ _ _ => False)
    (hCX : ∀ H e s', CX [] H s₁ (fun _ _ _ => False) e s' → False) :
    codeAny (model P w) callerA (.call (.ref fa) ⟨[.ref a], []⟩) (fun r s' => r = .ok (.ret (.bool true)) ∧ OldK s₁.heap s'.heap ∧ s'.os = s₁.os ∧ AllBare s'.gens) s₁ := by
  have rv := vals_ints hi
  have hO : Only (H_in K a vs ns) := fun b => by
    cases q : H_in K a vs ns b with
    | none => exact .inl rfl
    | some o => obtain ⟨_, _, rfl⟩ := H_in_some q; exact .inr ⟨_, _, rfl⟩
  have hok : HOk P w (H_in K a vs ns) s₁.heap := fun b o q => by
    obtain ⟨_, rfl, rfl⟩ := H_in_some q
    exact ⟨ha, by rw [List.length_map]; exact hl, vs, _, rv, ha⟩
  have hS : SqL K (H_in K a vs ns) a (ns.map V.int) := by
    cases hk : K.lookup a with
    | none => exact .inl (.inr ⟨_, if_pos ⟨hk, rfl⟩⟩)
    | some o =>
      have e := KX a o hk
      rw [ha] at e
      cases e
      exact .inr ⟨_, vs.toArray, _, hk, rfl, rfl, rfl, by rw [List.size_toArray, hi.length]; exact hl, by simpa using rv⟩
  have bK : ∀ {b : Addr} {o : Obj}, K.lookup b = some o → H_in K a vs ns b = none := fun {b o} e => H_in_none fun hk z => by subst z; rw [hk] at e; cases e
  have bN : ∀ {b : Addr} {m : Str → Option Value}, s₁.heap.Ns b m → (hidT s₁.heap (H_in K a vs ns)).Ns b m := fun {b m} ⟨o, es, ep, e, d, r⟩ =>
    ⟨o, es, ep, hidT_get e (H_in_none fun _ z => by subst z; rw [ha] at e; cases e; cases (show Data.seq vs.toArray _ = Data.dict es ep from d)), d, r⟩
  have hKb : K.In (hidT s₁.heap (H_in K a vs ns)) := fun b o e => hidT_get (KX b o e) (bK e)
  have hM : Mod K mg (hidT s₁.heap (H_in K a vs ns)) := ⟨hKb, bN hns, ⟨mb, bN hb, hbb⟩, let ⟨mc, h1, h2⟩ := hlim; ⟨mc, bN h1, h2⟩⟩
  refine codeAny_mono ((F _ hKb (bN hns)).go callerA [] s₁ _ ⟨[.ref a], []⟩ [.ref a] [.ref a] _ _ rfl hr ⟨rfl, hM, fun b o e => of_hidT e, Nat.le_of_eq (hidT_size _ _), trivial, fun b z => (List.not_mem_nil z).elim, hok, .of_eq hg⟩ (hbind s₁ (.ref a)) (.cons rfl .nil) (hsp _ hO hS)) fun r s' h => ?_
  match r, h with
  | .error e, h => exact (hCX _ e s' h).elim
  | .ok .next, h => exact h.elim
  | .ok .brk, h => exact h.elim
  | .ok .cont, h => exact h.elim
  | .ok (.ret u), ⟨v, H', os, bare, un, hok', r', q⟩ =>
    cases (show v = .bl true from q)
    cases (show u = Value.bool true from r')
    refine ⟨rfl, OldK.of_keep fun b o e => ?_, os, bare⟩
    cases q : H_in K a vs ns b with
    | none => exact un.keep b o e q (fun z => (List.not_mem_nil z).elim) (by simp)
    | some u =>
      obtain ⟨_, rfl, rfl⟩ := H_in_some q
      have e2 := (hok' b _ (un.frzs b _ _ q)).1
      rw [ha] at e; cases e
      exact e2
end
theorem walk_ofG {l : PySem.W.OpenLaw} {n k : Nat} {q : Program} {loose : List Str} {XP : (Str → Option Value) → Heap → Prop} {YP : World → Heap → Prop} {d : DefRec} {K : Params → PySem.W.Frag} {CX : World → CXT} {sp : World → Sp} {x : Str}
    (hn : l.most = some n) (hn2 : n ≤ sizeLine) (hdf : d.params.defaults = []) (hr : Room k callerA)
    (hY : ∀ (w : World) (h : Heap), YP w h → (K w.params).In h)
    (F : ∀ (w : World) (mg : Str → Option Value) (fa : Addr) (h : Heap), (K w.params).In h → h.Ns mainGlobals mg → mg d.name = some (.ref fa) →
      ∃ fd : FuncData, (∀ (s : Shared) (u : Value), BindsTo s fd ⟨[u], []⟩ [(x, u)]) ∧
        ∀ base : Heap, (K w.params).In base → base.Ns mainGlobals mg → FnG l.prog w (K w.params) mg base (CX w) k fa fd [x] (sp w))
    (hsp : ∀ (w : World) (H : Hp) (a : Addr) (ns : List Int), ns.length ≤ n → Only H → SqL (K w.params) H a (ns.map V.int) → sp w [.ref a] H (fun v _ => v = .bl true) fun _ _ _ => False)
    (hCX : ∀ (w : World) (H : Hp) (s : Shared) (e : Value) (s' : Shared), CX w [] H s (fun _ _ _ => False) e s' → False) :
    PySem.W.WalkO q loose XP YP l.row.toRowW d [] (fun f vs => PySem.call f vs) :=
  Att.attach_call hn hdf fun w s₀ s₁ mg mb fa o pm cd doc a vs ns G Y ho hd hcd hmg hobj hints hlen hg =>
    have KX := hY w _ Y
    let ⟨fd, hb, hF⟩ := F w mg fa _ KX G.T.g hmg
    law_callG KX G.T.g G.T.b G.T.builtins G.T.nolimit hg hobj hints (Nat.le_trans hlen hn2) hr hF hb (fun H hH hS => hsp w H a ns hlen hH hS) fun H e s' => hCX w H s₁ e s'
end L2
/-! ### how long a list's text is -/
namespace L2
open PySem PySem.Spec PyProof.Rows
theorem text_le : ∀ (ts : List Str) (k : Nat) (acc : Str) (B : Nat), (∀ t ∈ ts, t.length ≤ B) → (textFrom k acc ts).length ≤ acc.length + ts.length * (B + 2)
  | [], _, _, _, _ => by simp [textFrom]
  | t :: r, k, acc, B, h => by
    have e : (acc ++ (if k > 0 then ", " else "" : String) ++ t).length = acc.length + (if k > 0 then 2 else 0) + t.length := by
      rw [PySem.Str.length_append, PySem.Str.length_append]
      split <;> rfl
    have h1 := text_le r (k + 1) (acc ++ (if k > 0 then ", " else "" : String) ++ t) B fun u hu => h u (List.mem_cons_of_mem _ hu)
    have h2 := h t List.mem_cons_self
    have h3 : (if k > 0 then 2 else 0 : Nat) ≤ 2 := by split <;> omega
    show (textFrom (k + 1) _ r).length ≤ _
    rw [e] at h1
    rw [List.length_cons, Nat.add_mul]
    omega
theorem all_mem {B : Nat} : ∀ {ds : List PyData}, (∀ d ∈ ds, d.shown.length ≤ B) → ∀ t ∈ PyData.shownAll ds, t.length ≤ B
  | [], _, t, ht => by cases ht
  | d :: r, h, t, ht => by
    rcases List.mem_cons.mp (show t ∈ PyData.shown d :: PyData.shownAll r from ht) with rfl | ht
    · exact h d List.mem_cons_self
    · exact all_mem (fun x hx => h x (List.mem_cons_of_mem _ hx)) t ht
theorem all_len : ∀ (ds : List PyData), (PyData.shownAll ds).length = ds.length
  | [] => rfl
  | _ :: r => congrArg (· + 1) (all_len r)
/-- a list of things of B letters at the most -/
theorem list_le {ds : List PyData} {B : Nat} (h : ∀ d ∈ ds, d.shown.length ≤ B) : (PyData.list ds).shown.length ≤ 2 + ds.length * (B + 2) := by
  show (listText (PyData.shownAll ds)).length ≤ _
  unfold listText
  rw [PySem.Str.length_append]
  have h1 := text_le (PyData.shownAll ds) 0 "[" B (all_mem h)
  rw [all_len] at h1
  have e1 : (("[" : String) : Str).length = 1 := rfl
  have e2 : (("]" : String) : Str).length = 1 := rfl
  rw [e1] at h1
  rw [e2]
  omega
theorem bool_le (b : Bool) : (PyData.bool b).shown.length ≤ 8 := by cases b <;> decide
theorem sA_map {α : Type} {f : α → PyData} (h : ∀ x, (f x).showable = true) : ∀ l : List α, PyData.showableAll (l.map f) = true
  | [] => rfl
  | x :: r => by
    show ((f x).showable && PyData.showableAll (r.map f)) = true
    rw [h x, sA_map h r]
    rfl
theorem sA_mem {α : Type} {f : α → PyData} : ∀ {l : List α}, (∀ x ∈ l, (f x).showable = true) → PyData.showableAll (l.map f) = true
  | [], _ => rfl
  | x :: r, h => by
    show ((f x).showable && PyData.showableAll (r.map f)) = true
    rw [h x List.mem_cons_self, sA_mem fun y hy => h y (List.mem_cons_of_mem _ hy)]
    rfl
theorem nA_map {α : Type} {f : α → PyData} (h : ∀ x, (f x).hasDict = false) : ∀ l : List α, PyData.hasDictAll (l.map f) = false
  | [] => rfl
  | x :: r => by
    show ((f x).hasDict || PyData.hasDictAll (r.map f)) = false
    rw [h x, nA_map h r]
    rfl
theorem dp_bls {K : PySem.W.Frag} {H : Hp} : ∀ bs : List Bool, DpAll K H (bs.map V.bl) (bs.map PyData.bool)
  | [] => .nil
  | b :: r => .cons (.bl b) (dp_bls r)
theorem dp_ints {K : PySem.W.Frag} {H : Hp} : ∀ ns : List Int, DpAll K H (ns.map V.int) (ns.map PyData.int)
  | [] => .nil
  | n :: r => .cons (.int n) (dp_ints r)
end L2
namespace L2
open PySem PySem.Spec PyProof.Rows
theorem dA_map {α : Type} {f : α → PyData} (h : ∀ x, (f x).depth = 0) : ∀ l : List α, PyData.depthAll (l.map f) = 0
  | [] => rfl
  | x :: r => by
    show max (f x).depth (PyData.depthAll (r.map f)) = 0
    rw [h x, dA_map h r]
    rfl
end L2
namespace Sl
open PySem PySem.Spec PyProof.Rows L2 Sx Rd
section
variable {σ : L2.St} {H : Hp} {Q : VK} {g : TG} {tt : TT} {te : TE} {vs : List Nat} {tl : TA}
/-- [.. for k in range(lo, hi)] -/
def kLcR2 (g : TG) (tt : TT) (te : TE) (vs : List Nat) (σ : L2.St) (Q : VK) (xs : List V) (H : Hp) : Prop := (iRng2 (fun _ _ R => R xs H)) σ H fun J H1 => ∀ E, H1 E = none → ∃ W : Nat → Nat → Hp → Prop, (∃ m, W 0 m (upd H1 E (.lst []))) ∧ ∀ i m H, W i m H →
    (J.stop i H ∧ Q (.ref E) H) ∨ (J.go i H ∧ ∃ Nx : Hp → Prop, (∀ H', Nx H' → ∃ m', m' < m ∧ W (i + 1) m' H') ∧ ∀ x H', J.yld i H x H' → g x (wipe σ vs) H' fun σ2 H2 => wipe σ2 vs = wipe σ vs ∧ tt σ2 H2 fun b H3 =>
      if b = true then te σ2 H3 fun y H4 => ∃ acc, H4 E = some (.lst acc) ∧ acc.length < sizeLine ∧ Nx (upd H4 E (.lst (acc ++ [y]))) else Nx H3)
theorem e_lcR2 (h : tl σ H fun xs H1 => kLcR2 g tt te vs σ Q xs H1) : tLc (iRng2 tl) g tt te vs σ H Q := h
theorem k_lcF2S {lo hi : Int} (φ : Nat → List V → Prop) (Lf : Nat → List V → List As) (hs : St (Lf 0 []) H) (h0 : 0 ≤ lo) (h1 : lo ≤ hi) (h2 : hi < 100000) (f0 : φ 0 [])
    (st : ∀ E (i : Nat) acc H', (i : Int) < hi - lo → acc.length ≤ i → φ i acc → St (cell E (.lst acc) :: Lf i acc) H' → LcStep g tt te vs σ φ Lf E i (.int (lo + (i : Int))) acc H')
    (q : ∀ E acc H', acc.length ≤ (hi - lo).toNat → φ (hi - lo).toNat acc → St (cell E (.lst acc) :: Lf (hi - lo).toNat acc) H' → Q (.ref E) H') : kLcR2 g tt te vs σ Q [.int lo, .int hi] H := by
  refine ⟨lo, hi, rfl, ⟨by omega, by omega, by omega, by omega⟩, fun E hE => ?_⟩
  refine lc_range (lo := lo) (n := (hi - lo).toNat) (fun i H' => ∃ acc, acc.length ≤ i ∧ φ i acc ∧ St (cell E (.lst acc) :: Lf i acc) H') ⟨[], Nat.le_refl _, f0, hs.new hE⟩ (fun i H' hi ⟨acc, ha, f, h⟩ => ?_) fun H' ⟨acc, ha, f, h⟩ => q E acc H' ha f h
  exact st E i acc H' (by omega) ha f h _ _ (fun y H4 f4 h4 => ⟨acc, h4.get0, szl (by omega), acc ++ [y], by rw [List.length_append]; simp; omega, f4, h4.upd0 id⟩) fun H4 f4 h4 => ⟨acc, by omega, f4, h4⟩
end
end Sl
set_option Elab.async false
set_option maxRecDepth 100000
set_option maxHeartbeats 100000000
set_option linter.all false
namespace My
open PySem L2 Sx Rd Sl
def top (i : Nat) : Stmt := PySem.Challenge.pw_tickrings_k07_choice_of_work.main.body.getD i (.Pass ⟨0, 0, 0, 0⟩)
abbrev s_chosen_line : Stmt := top 1
abbrev s_chosen_job : Stmt := top 2
abbrev s_choice : Stmt := top 3
abbrev s_law_state : Stmt := top 5
abbrev s_law_draw : Stmt := top 6
abbrev s_law_flags : Stmt := top 7
abbrev s_law : Stmt := top 8
theorem sc_chosen_line : FnScope ["pending", "masked", "left", "able", "line"] ["pending", "masked", "left", "able"] (defScope s_chosen_line) := ⟨rfl, rfl, rfl, by decide +kernel, rfl, by decide +kernel, by decide +kernel⟩
theorem sc_chosen_job : FnScope ["turn", "able_jobs", "many", "behind", "job"] ["turn", "able_jobs"] (defScope s_chosen_job) := ⟨rfl, rfl, rfl, by decide +kernel, rfl, by decide +kernel, by decide +kernel⟩
theorem sc_choice : FnScope ["pending", "masked", "left", "able", "jobs_left", "turn", "able_jobs", "line", "job"] ["pending", "masked", "left", "able", "jobs_left", "turn", "able_jobs"] (defScope s_choice) := ⟨rfl, rfl, rfl, by decide +kernel, rfl, by decide +kernel, by decide +kernel⟩
theorem sc_law_state : FnScope ["script", "seed", "cell"] ["script"] (defScope s_law_state) := ⟨rfl, rfl, rfl, by decide +kernel, rfl, by decide +kernel, by decide +kernel⟩
theorem sc_law_draw : FnScope ["state", "many", "cells", "value", "mixed"] ["state", "many"] (defScope s_law_draw) := ⟨rfl, rfl, rfl, by decide +kernel, rfl, by decide +kernel, by decide +kernel⟩
theorem sc_law_flags : FnScope ["state", "many", "share", "k"] ["state", "many"] (defScope s_law_flags) := ⟨rfl, rfl, rfl, by decide +kernel, rfl, by decide +kernel, by decide +kernel⟩
theorem sc_law : FnScope ["script", "state", "devices", "many", "pending", "masked", "able", "left", "k", "jobs_left", "turn", "able_jobs", "kept", "fit", "order", "jobs", "due", "actual"] ["script"] (defScope s_law) := ⟨rfl, rfl, rfl, by decide +kernel, rfl, by decide +kernel, by decide +kernel⟩
/-- where things stand -/
structure Ads where
  (f_chosen_line f_chosen_job f_choice f_law_state f_law_draw f_law_flags f_law : Addr)
  (fd_chosen_line fd_chosen_job fd_choice fd_law_state fd_law_draw fd_law_flags fd_law : FuncData)
def sp_law0 (K : PySem.W.Frag) : Sp := A1 fun v H Q _ => ∃ (b : Addr) (ns : List Int), v = .ref b ∧ SqL K H b (ns.map V.int) ∧ ns.length ≤ 63 ∧ ∀ H1, Q (.bl true) H1
abbrev sp_law (K : PySem.W.Frag) (a : Ads) : Sp := sp_law0 K
/-- what the top has written -/
structure Txt (P : Program) (w : World) (K : PySem.W.Frag) (mg : Str → Option Value) (base : Heap) (a : Ads) : Prop where
  g_abs : mg "abs" = none
  g_bool : mg "bool" = none
  g_int : mg "int" = none
  g_isinstance : mg "isinstance" = none
  g_len : mg "len" = none
  g_min : mg "min" = none
  g_range : mg "range" = none
  g_repr : mg "repr" = none
  g_tuple : mg "tuple" = none
  F_chosen_line : Fun K "_chosen_line" "_chosen_line" s_chosen_line a.f_chosen_line a.fd_chosen_line
  b_chosen_line : Binds K a.fd_chosen_line ["pending", "masked", "left", "able"] []
  g_chosen_line : mg "_chosen_line" = some (.ref a.f_chosen_line)
  F_chosen_job : Fun K "_chosen_job" "_chosen_job" s_chosen_job a.f_chosen_job a.fd_chosen_job
  b_chosen_job : Binds K a.fd_chosen_job ["turn", "able_jobs"] []
  g_chosen_job : mg "_chosen_job" = some (.ref a.f_chosen_job)
  F_choice : Fun K "choice" "choice" s_choice a.f_choice a.fd_choice
  b_choice : Binds K a.fd_choice ["pending", "masked", "left", "able", "jobs_left", "turn", "able_jobs"] []
  g_choice : mg "choice" = some (.ref a.f_choice)
  F_law_state : Fun K "_law_state" "_law_state" s_law_state a.f_law_state a.fd_law_state
  b_law_state : Binds K a.fd_law_state ["script"] []
  g_law_state : mg "_law_state" = some (.ref a.f_law_state)
  F_law_draw : Fun K "_law_draw" "_law_draw" s_law_draw a.f_law_draw a.fd_law_draw
  b_law_draw : Binds K a.fd_law_draw ["state", "many"] []
  g_law_draw : mg "_law_draw" = some (.ref a.f_law_draw)
  F_law_flags : Fun K "_law_flags" "_law_flags" s_law_flags a.f_law_flags a.fd_law_flags
  b_law_flags : Binds K a.fd_law_flags ["state", "many"] []
  g_law_flags : mg "_law_flags" = some (.ref a.f_law_flags)
  F_law : Fun K "law" "law" s_law a.f_law a.fd_law
  b_law : Binds K a.fd_law ["script"] []
  g_law : mg "law" = some (.ref a.f_law)
local macro_rules | `(tactic| walk_at "ne") => `(tactic| (first | with_reducible assumption | with_reducible exact Ne.symm (by with_reducible assumption)))
local macro_rules | `(tactic| walk_at "nin") => `(tactic| (simp only [List.mem_cons, List.not_mem_nil, or_false, not_or, not_false_eq_true]; (repeat' refine And.intro ?_ ?_); (all_goals walk_at "ne")))
local macro_rules | `(tactic| walk_at "hl") => `(tactic| (first | (with_reducible assumption) | exact upd_same | ((with_reducible refine' (upd_ne ?hne).trans ?hgo); (case hne => walk_at "ne"); (case hgo => walk_at "hl"))))
local macro_rules | `(tactic| walk_at "sq") => `(tactic| (first | (with_reducible assumption) | exact Or.inl (Or.inl (by walk_at "hl"))))
local macro_rules | `(tactic| walk_at "ar") => `(tactic| (first | omega | exact ⟨by omega, by omega⟩ | exact Or.inl ⟨by omega, by omega⟩ | exact Or.inr ⟨by omega, by omega⟩ | (show (0 : Int) < _; omega) | (show (0 : Int) < _ ∧ _ < (1073741824 : Int); omega)))
local macro_rules | `(tactic| walk_at "cls") => `(tactic| (first | fail))
local macro_rules | `(tactic| walk_at "noa") => `(tactic| (first | fail))
local macro_rules | `(tactic| walk_at "lkp") => `(tactic| (first | fail))
local macro_rules | `(tactic| walk_at "ptf") => `(tactic| (first | exact rfl))
local macro_rules | `(tactic| walk_at "lnF") => `(tactic| (first | (refine PL.lt (n := 60) ?_ (by decide); (repeat refine PL.put ?_); exact PL.nil) | decide))
local macro_rules | `(tactic| walk_at "nol") => `(tactic| (first | fail))
local macro_rules | `(tactic| walk_at "r1") => `(tactic| (first
  | with_reducible apply l_cons | ((with_reducible apply e_var); (case h => exact rfl)) | with_reducible apply l_nil | with_reducible apply s_seq | with_reducible apply e_c | with_reducible apply g_name
  | with_reducible apply s_asg | with_reducible apply e_call | with_reducible apply k_t | with_reducible apply e_op | with_reducible apply e_cb | with_reducible apply t_test
  | with_reducible apply s_if | with_reducible apply t_or | with_reducible apply t_and | with_reducible apply t_B | with_reducible apply s_next | with_reducible apply p_some
  | with_reducible apply p_no | with_reducible apply e_sl | with_reducible apply k_i | with_reducible apply e_lst | with_reducible apply t_not | with_reducible apply o_chC | ((with_reducible refine' o_chV ?hv ?_); (case hv => exact rfl)) | with_reducible apply o_I0
  | ((with_reducible refine' o_I ?hc ?_); (case hc => walk_at "ar")) | with_reducible apply e_meth | ((with_reducible refine' k_meth ?h1 ?h2 ?_); (case h1 => walk_at "hl"); (case h2 => walk_at "nol")) | with_reducible apply e_fld | ((with_reducible refine' k_fld ?h1 ?h2 ?h3 ?h4 ?_); (case h1 => walk_at "hl"); (case h2 => walk_at "cls"); (case h3 => walk_at "noa"); (case h4 => walk_at "lkp")) | with_reducible apply e_not
  | with_reducible apply s_ret | ((with_reducible refine' k_ty ?h1 ?_); (case h1 => walk_at "sq")) | with_reducible apply s_drop | with_reducible apply s_retN | with_reducible apply s_cont | with_reducible apply s_break
  | with_reducible apply e_un | with_reducible apply o_U | ((with_reducible refine' o_eq ?hs ?_); (case hs => exact rfl)) | ((with_reducible refine' o_ne ?hs ?_); (case hs => exact rfl))
  | ((with_reducible refine' o_ixL ?h1 ?h2 ?_); (case h1 => walk_at "sq"); (case h2 => first | exact rfl | exact atI_zero _ _)) | with_reducible apply s_fld | with_reducible apply e_make | ((with_reducible refine' k_set ?h1 ?h2 ?h3 ?h4 ?h5 ?_); (case h1 => walk_at "hl"); (case h2 => walk_at "cls"); (case h3 => walk_at "noa"); (case h4 => walk_at "ptf"); (case h5 => walk_at "lnF")) | with_reducible apply e_tup | with_reducible apply e_bm
  | with_reducible apply e_bm0 | with_reducible apply e_if | with_reducible apply e_chain | with_reducible apply s_raise | with_reducible apply g_sub | ((with_reducible refine' c_ln ?h1 ?_); (case h1 => walk_at "sq"))
  | ((with_reducible refine' c_pop0 ?h1 ?h2 ?_); (case h1 => walk_at "hl"); (case h2 => omega)) | with_reducible apply c_isBool | with_reducible apply c_isInt | with_reducible apply c_isBoolN | with_reducible apply c_isTupI | with_reducible apply c_isNonB
  | with_reducible apply c_isNonT | ((with_reducible refine' c_isList ?h1 ?_); (case h1 => walk_at "hl")) | ((with_reducible refine' c_isTup ?h1 ?_); (case h1 => walk_at "hl")) | ((with_reducible refine' c_isTupB ?h1 ?_); (case h1 => walk_at "hl")) | with_reducible apply o_isB | with_reducible apply o_notB
  | with_reducible apply e_and | with_reducible apply e_or | with_reducible apply k_bl | with_reducible apply e_xf | with_reducible apply s_augS | ((with_reducible refine' s_augV ?hv ?_); (case hv => exact rfl))
  | with_reducible apply ip_I | with_reducible apply e_lcE | ((with_reducible refine' k_xf ?h1 ?h2 ?_); (case h1 => walk_at "hl"); (case h2 => exact look_hit _ _ _)) | ((with_reducible refine' o_slL ?h1 ?_); (case h1 => walk_at "sq")) | ((with_reducible refine' k_dget ?h1 ?h2 ?_); (case h1 => walk_at "hl"); (case h2 => with_reducible assumption)) | with_reducible apply e_dget
  | with_reducible apply s_dput | with_reducible apply e_makeK | with_reducible apply g_cons | with_reducible apply g_nil | with_reducible apply c_ab | with_reducible apply c_in
  | with_reducible apply c_mx | with_reducible apply c_mn | with_reducible apply a1 | with_reducible apply a2 | with_reducible apply a3 | with_reducible apply a4
  | with_reducible apply a5 | with_reducible apply a6 | with_reducible apply a0 | with_reducible apply t_tru | with_reducible apply t_yes | ((with_reducible refine' k_truL ?h1 ?_); (case h1 => walk_at "sq")) | with_reducible refine d_nx ?_ | with_reducible refine d_rt ?_ | with_reducible refine d_bk ?_
  | with_reducible refine d_ct ?_))
local macro_rules | `(tactic| walk_at "r") => `(tactic| (repeat walk_at "r1"))
local macro_rules | `(tactic| walk_at "sel") => `(tactic| (first | with_reducible exact Sl.Sel.here | ((with_reducible refine' Sl.Sel.there ?t); (case t => walk_at "sel"))))
local macro_rules | `(tactic| walk_at "selt") => `(tactic| (first | with_reducible exact Sl.Sels.all _ | ((with_reducible refine' Sl.Sels.skip ?t); (case t => walk_at "selt"))))
local macro_rules | `(tactic| walk_at "sels") => `(tactic| (first | with_reducible exact Sl.Sels.nil | ((with_reducible refine' Sl.Sels.cons ?a ?b); (case a => walk_at "sel"); (case b => walk_at "sels")) | walk_at "selt"))
local macro_rules | `(tactic| walk_at "selm") => `(tactic| ((try (simp only [])); (try simp only [List.map_append, List.map_cons, List.map_nil]); walk_at "sels"))
local macro_rules | `(tactic| walk_at "hg") => do
  let h := Lean.mkIdent `hs
  `(tactic| (first | (with_reducible assumption) | ((with_reducible refine' Sl.St.get $h ?s); (case s => walk_at "sel")) | ((with_reducible refine' Sl.St.geti $h ?s); (case s => walk_at "sel"))))
local macro_rules | `(tactic| walk_at "sg") => do
  let h := Lean.mkIdent `hs
  `(tactic| (first | (with_reducible assumption) | exact Or.inl (Or.inl (by walk_at "hg")) | (refine' Sl.sqA.U $h ?s; (case s => walk_at "sel"))))
local macro_rules | `(tactic| walk_at "le5") => `(tactic| (first | omega | (simp only [List.length_cons, List.length_nil, List.length_append, List.length_map]; omega) | (show _ ≤ _; decide) | (show _ < _; decide)))
local macro_rules | `(tactic| walk_at "km") => `(tactic| fail)
local macro_rules | `(tactic| walk_at "kf") => `(tactic| fail)
local macro_rules | `(tactic| walk_at "x1") => do
  let h := Lean.mkIdent `hs
  `(tactic| (first
  | with_reducible apply l_cons | ((with_reducible apply e_var); (case h => exact rfl)) | with_reducible apply l_nil | with_reducible apply s_seq | with_reducible apply e_c | with_reducible apply g_name
  | with_reducible apply s_asg | with_reducible apply e_call | with_reducible apply k_t | with_reducible apply e_op | with_reducible apply e_cb | with_reducible apply t_test
  | with_reducible apply s_if | with_reducible apply t_or | with_reducible apply t_and | with_reducible apply t_B | with_reducible apply s_next | with_reducible apply p_some
  | with_reducible apply p_no | with_reducible apply e_sl | with_reducible apply k_i | with_reducible apply Sl.e_lstS | with_reducible apply t_not | with_reducible apply o_chC | ((with_reducible refine' o_chV ?hv ?_); (case hv => exact rfl)) | with_reducible apply o_I0
  | ((with_reducible refine' o_I ?hc ?_); (case hc => walk_at "ar")) | with_reducible apply e_meth | ((with_reducible refine' k_meth ?h1 ?h2 ?_); (case h1 => walk_at "hg"); (case h2 => walk_at "nol")) | walk_at "km" | with_reducible apply e_fld
  | ((with_reducible refine' k_fld ?h1 ?h2 ?h3 ?h4 ?_); (case h1 => walk_at "hg"); (case h2 => walk_at "cls"); (case h3 => walk_at "noa"); (case h4 => walk_at "lkp")) | walk_at "kf" | with_reducible apply e_not
  | with_reducible apply s_ret | ((with_reducible refine' k_ty ?h1 ?_); (case h1 => walk_at "sg")) | with_reducible apply s_drop | with_reducible apply s_retN | with_reducible apply s_cont | with_reducible apply s_break
  | with_reducible apply e_un | with_reducible apply o_U | ((with_reducible refine' o_eq ?hs ?_); (case hs => exact rfl)) | ((with_reducible refine' o_ne ?hs ?_); (case hs => exact rfl))
  | ((with_reducible refine' o_ixL ?h1 ?h2 ?_); (case h1 => walk_at "sg"); (case h2 => first | exact rfl | exact atI_zero _ _)) | ((with_reducible refine' o_ixT ?h1 ?h2 ?_); (case h1 => walk_at "sg"); (case h2 => first | exact rfl | exact atI_zero _ _)) | with_reducible apply s_fld | with_reducible apply Sl.e_makeS
  | ((with_reducible refine' Sl.k_setS $h ?h1 ?h2 ?h3 ?h4 ?h5 ?_); (case h1 => walk_at "sel"); (case h2 => walk_at "cls"); (case h3 => walk_at "noa"); (case h4 => walk_at "ptf"); (case h5 => walk_at "lnF"); (clear $h; intro _ $h)) | with_reducible apply Sl.e_tupS | with_reducible apply e_bm
  | with_reducible apply e_bm0 | with_reducible apply e_if | with_reducible apply e_chain | with_reducible apply s_raise | with_reducible apply g_sub | ((with_reducible refine' c_ln ?h1 ?_); (case h1 => walk_at "sg")) | ((with_reducible refine' c_lnT ?h1 ?_); (case h1 => walk_at "sg"))
  | ((with_reducible refine' Sl.k_newL $h ?h1 ?_); (case h1 => walk_at "le5"); (clear $h; intro _ _ $h)) | ((with_reducible refine' Sl.k_newT $h ?h1 ?_); (case h1 => walk_at "le5"); (clear $h; intro _ _ $h)) | ((with_reducible refine' Sl.k_make $h ?_); (clear $h; intro _ _ _ $h))
  | ((with_reducible refine' Sl.c_appS $h ?h1 ?h2 ?_); (case h1 => walk_at "sel"); (case h2 => walk_at "le5"); (clear $h; intro _ $h)) | ((with_reducible refine' Sl.c_pop0S $h ?h1 ?h2 ?_); (case h1 => walk_at "sel"); (case h2 => walk_at "le5"); (clear $h; intro _ $h))
  | ((with_reducible refine' Sl.c_lsS $h ?h1 ?_); (case h1 => walk_at "sg"); (clear $h; intro _ _ $h)) | ((with_reducible refine' Sl.o_slLS $h ?h1 ?_); (case h1 => walk_at "sg"); (clear $h; intro _ _ $h)) | ((with_reducible refine' Sl.c_clrS $h ?h1 ?_); (case h1 => walk_at "sel"); (clear $h; intro _ $h))
  | ((with_reducible refine' Sl.o_catS $h ?h1 ?h2 ?h3 ?_); (case h1 => walk_at "hg"); (case h2 => walk_at "hg"); (case h3 => walk_at "le5"); (clear $h; intro _ _ $h)) | ((with_reducible refine' Sl.c_extS $h ?h1 ?h2 ?h3 ?_); (case h1 => walk_at "sel"); (case h2 => walk_at "hg"); (case h3 => walk_at "le5"); (clear $h; intro _ $h))
  | ((with_reducible refine' Sl.k_raise $h ?h1 ?_); (case h1 => exact okV_int ⟨by omega, by omega⟩); (clear $h; intro _ _ $h))
  | with_reducible apply c_isBool | with_reducible apply c_isInt | with_reducible apply c_isBoolN | with_reducible apply c_isTupI | with_reducible apply c_isNonB
  | with_reducible apply c_isNonT | ((with_reducible refine' c_isList ?h1 ?_); (case h1 => walk_at "hg")) | ((with_reducible refine' c_isTup ?h1 ?_); (case h1 => walk_at "hg")) | ((with_reducible refine' c_isTupB ?h1 ?_); (case h1 => walk_at "hg")) | with_reducible apply o_isB | with_reducible apply o_notB
  | with_reducible apply e_and | with_reducible apply e_or | with_reducible apply k_bl | with_reducible apply e_xf | with_reducible apply s_augS | ((with_reducible refine' s_augV ?hv ?_); (case hv => exact rfl)) | with_reducible apply Sl.s_aug
  | with_reducible apply ip_I | with_reducible apply e_lcE | with_reducible apply e_lcL | with_reducible apply f_lst | with_reducible apply e_lcF | with_reducible apply f_rng1 | ((with_reducible refine' k_xf ?h1 ?h2 ?_); (case h1 => walk_at "hg"); (case h2 => exact look_hit _ _ _)) | ((with_reducible refine' k_dget ?h1 ?h2 ?_); (case h1 => walk_at "hg"); (case h2 => with_reducible assumption)) | with_reducible apply e_dget
  | with_reducible apply s_dput | with_reducible apply Sl.e_makeKS | with_reducible apply g_cons | with_reducible apply g_nil | ((with_reducible refine' g_tup ?h1 ?h2 ?_); (case h1 => walk_at "sg"); (case h2 => exact rfl)) | with_reducible apply c_ab | with_reducible apply c_in
  | with_reducible apply c_mx | with_reducible apply c_mn | with_reducible apply a1 | with_reducible apply a2 | with_reducible apply a3 | with_reducible apply a4
  | with_reducible apply a5 | with_reducible apply a6 | with_reducible apply a0 | with_reducible apply t_tru | with_reducible apply t_yes | ((with_reducible refine' k_truL ?h1 ?_); (case h1 => walk_at "sg")) | with_reducible refine d_nx ?_ | with_reducible refine d_rt ?_ | with_reducible refine d_bk ?_
  | with_reducible refine d_ct ?_))
local macro_rules | `(tactic| walk_at "x") => `(tactic| (repeat walk_at "x1"))
section
variable {P : Program} {w : World} {K : PySem.W.Frag} {mg : Str → Option Value} {base : Heap} {a : Ads}
/-! ### the script's numbers, drawn -/
def StAt (H : Hp) (st sl : Addr) : Prop := ∃ (ns : List Int) (m : Int), H st = some (.lst [.ref sl, .int m]) ∧ H sl = some (.lst (ns.map V.int)) ∧ ns.length ≤ 63 ∧ (∀ z ∈ ns, 0 ≤ z) ∧ 0 ≤ m ∧ m ≤ 2147483647
theorem StAt.ne {H : Hp} {st sl : Addr} (s : StAt H st sl) : st ≠ sl := by
  obtain ⟨ns, m, h1, h2, _⟩ := s
  refine ne_of h1 h2 fun z => ?_
  have z2 := HO.lst.inj z
  cases ns with
  | nil => cases z2
  | cons y ys => cases (List.cons.inj z2).1
theorem StAt.fp {H H1 : Hp} {st sl : Addr} {fp : List Addr} (s : StAt H st sl) (f : Fp fp H H1) (n1 : st ∉ fp) (n2 : sl ∉ fp) : StAt H1 st sl := by
  obtain ⟨ns, m, h1, h2, r⟩ := s
  exact ⟨ns, m, f _ _ h1 n1, f _ _ h2 n2, r⟩
theorem StAt.inn {H : Hp} {st sl : Addr} (s : StAt H st sl) : Inn H [st, sl] := by
  obtain ⟨ns, m, h1, h2, r⟩ := s
  exact .cons h1 (.cons h2 .nil)
theorem StAt.nd {H : Hp} {st sl : Addr} (s : StAt H st sl) : [st, sl].Nodup := by simp [s.ne]
/-- [draw for k in range(n)] -/
theorem k_lcD {σ : L2.St} {H : Hp} {Q : VK} {g : TG} {te : TE} {vs : List Nat} {n : Int} {st sl : Addr} (P : V → Prop) (h1 : 0 ≤ n) (h2 : n < 100000) (S : StAt H st sl)
    (hs : ∀ (i : Nat) (H' : Hp) (R : VK), (i : Int) < n → StAt H' st sl → Fp [st, sl] H H' → (∀ y H4, P y → StAt H4 st sl → Fp [st, sl] H' H4 → R y H4) →
      g (.int (i : Nat)) (wipe σ vs) H' fun σ2 H2 => wipe σ2 vs = wipe σ vs ∧ te σ2 H2 R)
    (q : ∀ E acc H', H E = none → acc.length = n.toNat → H' E = some (.lst acc) → (∀ y ∈ acc, P y) → StAt H' st sl → Fp [st, sl] H H' → st ≠ E → sl ≠ E → Q (.ref E) H') : kLcR g te vs σ Q (.int n) H := by
  obtain ⟨_, _, z1, z2, _⟩ := id S
  refine k_lcS (fun E i acc H' => (∀ y ∈ acc, P y) ∧ StAt H' st sl ∧ Fp [st, sl] H H') h1 h2 (fun E hE => ⟨by simp, S.fp (Fp.new (fp := []) hE) (by simp) (by simp), Fp.new hE⟩) (fun E i acc H' R hE hi hl e ⟨j1, j2, j3⟩ k => hs i H' R hi j2 j3 fun y H4 py S4 f4 => ?_) fun E acc H' hE hl e ⟨j1, j2, j3⟩ => q E acc H' hE hl e j1 j2 j3 (ne_of_none z1 hE) (ne_of_none z2 hE)
  have n1 := ne_of_none z1 hE
  have n2 := ne_of_none z2 hE
  refine k y H4 (f4 _ _ e (by simp [n1.symm, n2.symm])) ⟨fun x hx => ?_, S4.fp (Fp.at_ (fp := [E]) (by simp)) (by simp [n1]) (by simp [n2]), Fp.drop (fp := [E, st, sl]) (((j3.trans f4).mono (fun z hz => List.mem_cons_of_mem _ hz)).trans (Fp.at_ (by simp))) fun z hz => ?_⟩
  · rcases List.mem_append.mp hx with hx | hx
    · exact j1 x hx
    · rw [List.mem_singleton.mp hx]; exact py
  · rcases List.mem_cons.mp hz with rfl | hz
    · exact .inr hE
    · exact .inl hz
/-- [e for k in range(n) if draw] -/
theorem k_lcDF {σ : L2.St} {H : Hp} {Q : VK} {g : TG} {tt : TT} {te : TE} {vs : List Nat} {n : Int} {st sl : Addr} (P : V → Prop) (h1 : 0 ≤ n) (h2 : n < 100000) (S : StAt H st sl)
    (hs : ∀ (i : Nat) (H' : Hp) (R : VK) (N : Hp → Prop), (i : Int) < n → StAt H' st sl → Fp [st, sl] H H' → (∀ y H4, P y → StAt H4 st sl → Fp [st, sl] H' H4 → R y H4) → (∀ H4, StAt H4 st sl → Fp [st, sl] H' H4 → N H4) →
      g (.int (i : Nat)) (wipe σ vs) H' fun σ2 H2 => wipe σ2 vs = wipe σ vs ∧ tt σ2 H2 fun k H3 => if k = true then te σ2 H3 R else N H3)
    (q : ∀ E acc H', H E = none → acc.length ≤ n.toNat → H' E = some (.lst acc) → (∀ y ∈ acc, P y) → StAt H' st sl → Fp [st, sl] H H' → st ≠ E → sl ≠ E → Q (.ref E) H') : kLcF g tt te vs σ Q (.int n) H := by
  obtain ⟨_, _, z1, z2, _⟩ := id S
  refine k_lcSF (fun E i acc H' => (∀ y ∈ acc, P y) ∧ StAt H' st sl ∧ Fp [st, sl] H H') h1 h2 (fun E hE => ⟨by simp, S.fp (Fp.new (fp := []) hE) (by simp) (by simp), Fp.new hE⟩) (fun E i acc H' R N hE hi hl e ⟨j1, j2, j3⟩ k kn => ?_) fun E acc H' hE hl e ⟨j1, j2, j3⟩ => q E acc H' hE hl e j1 j2 j3 (ne_of_none z1 hE) (ne_of_none z2 hE)
  have n1 := ne_of_none z1 hE
  have n2 := ne_of_none z2 hE
  refine hs i H' R N hi j2 j3 (fun y H4 py S4 f4 => ?_) fun H4 S4 f4 => kn H4 (f4 _ _ e (by simp [n1.symm, n2.symm])) ⟨j1, S4, j3.trans f4⟩
  refine k y H4 (f4 _ _ e (by simp [n1.symm, n2.symm])) ⟨fun x hx => ?_, S4.fp (Fp.at_ (fp := [E]) (by simp)) (by simp [n1]) (by simp [n2]), Fp.drop (fp := [E, st, sl]) (((j3.trans f4).mono (fun z hz => List.mem_cons_of_mem _ hz)).trans (Fp.at_ (by simp))) fun z hz => ?_⟩
  · rcases List.mem_append.mp hx with hx | hx
    · exact j1 x hx
    · rw [List.mem_singleton.mp hx]; exact py
  · rcases List.mem_cons.mp hz with rfl | hz
    · exact .inr hE
    · exact .inl hz
def sp_law_state (K : PySem.W.Frag) (a : Ads) : Sp := A1 fun v H Q _ => ∃ (b : Addr) (ns : List Int), v = .ref b ∧ SqL K H b (ns.map V.int) ∧ ns.length ≤ 63 ∧
  ∀ st sl H1, H st = none → H sl = none → StAt H1 st sl → Fp [] H H1 → Q (.ref st) H1
def sp_law_draw (K : PySem.W.Frag) (a : Ads) : Sp := A2 fun s m H Q _ => ∃ (st sl : Addr) (k : Int), s = .ref st ∧ m = .int k ∧ StAt H st sl ∧ 1 ≤ k ∧ k < 1073741824 ∧
  ∀ r H1, 0 ≤ r → r < k → StAt H1 st sl → Fp [st, sl] H H1 → Q (.int r) H1
theorem ok_law_state (T : Txt P w K mg base a) : FnOk P w K mg base (L2.CX P w) 1 a.f_law_state a.fd_law_state ["script"] (sp_law_state K a) := by
  refine T.F_law_state.okX sc_law_state (fun vs H Q E h => A1.len h) (fun cdv A outer s H vs Q E hr h => ?_)
  have hu := hu_of hr
  obtain ⟨v_script, rfl, h⟩ := h
  refine ⟨_, (pss_cons (ps_set (i := 1) sc_law_state.nd rfl (by first | exact Or.inl rfl | exact Or.inr rfl) pe_int)
    (pss_cons (ps_for (passes_of rfl) rfl (pi_list (pv 0)) (pg_name (i := 2) sc_law_state.nd rfl (by first | exact Or.inl rfl | exact Or.inr rfl)) (pss_one (ps_set (i := 1) sc_law_state.nd rfl (by first | exact Or.inl rfl | exact Or.inr rfl) (pe_op op_mod (pe_callTy call_in (by rfl) T.g_int (by decide +kernel) (pa_cons (pe_op op_add (pe_op op_mul (pv 1) pe_int) (pv 2)) pa_nil)) pe_int))))
    (pss_one (ps_ret (pe_lst (pa_cons (pe_lc (own := [("cell", 2)]) (g := (gName 2)) (tt := tYes) (te := (tCB rAb (tCons (tVar 2) tNil))) rfl sc_law_state.nd (pi_list (pv 0)) (blkOk_by (N := ["script", "seed", "cell"]) (sc := defScope s_law_state) (own := [("cell", 2)]) (by decide +kernel)) (fun _ _ _ _ _ => by exact (pg_name (i := 2) sc_law_state.nd rfl (by first | exact Or.inl rfl | exact Or.inr rfl))) (fun _ _ _ _ _ => by exact pts_nil) (fun _ _ _ _ _ => by exact (pe_callB call_ab (by rfl) T.g_abs (by decide +kernel) (pa_cons (pv 2) pa_nil)))) (pa_cons (pe_op op_add (pv 1) pe_int) pa_nil))))))), ?_⟩
  obtain ⟨b, ns, rfl, hS, hn, k⟩ := h
  walk_at "r"
  refine f_list (xs := ns.map V.int) (fun i σ H1 => ∃ (sd : Int) (u : Option V), σ = [some (.ref b), some (.int sd), u] ∧ H1 = H ∧ 0 ≤ sd ∧ sd < 1000003) rfl hS ⟨7, none, rfl, rfl, by omega, by omega⟩ (fun i σ H1 _ ⟨_, _, _, e, _⟩ => e ▸ hS) ?_ ?_
  · rintro i x σ H1 hx ⟨sd, u, rfl, rfl, h0, h1⟩
    obtain ⟨z, rfl⟩ : ∃ z, x = V.int z := by
      obtain ⟨z, _, e⟩ := List.mem_map.mp (List.mem_of_getElem? hx)
      exact ⟨z, e.symm⟩
    walk_at "r"
    exact ⟨_, _, rfl, rfl, Int.emod_nonneg _ (by omega), Int.emod_lt_of_pos _ (by omega)⟩
  · rintro σ H1 ⟨sd, u, rfl, rfl, h0, h1⟩
    walk_at "r"
    refine lc_pure (xs := ns.map V.int) (ys := (ns.map fun z => if z < 0 then -z else z).map V.int) rfl hS (by simp) (by simp <;> omega) (fun E i x y H2 R hE hx hy e hR => ?_) fun E hE => ?_
    · obtain ⟨z, hz, rfl⟩ : ∃ z, ns[i]? = some z ∧ V.int z = x := by rw [List.getElem?_map] at hx; simpa using hx
      have hy' : V.int (if z < 0 then -z else z) = y := by simpa [List.getElem?_map, hz] using hy
      refine ⟨rfl, ?_⟩
      walk_at "r"
      rw [hy']
      exact hR
    · walk_at "r"
      refine ⟨sz (by simp), fun st hst => ?_⟩
      have nE : st ≠ E := ne_of_none upd_same hst |>.symm
      have nst : H1 st = none := by rw [upd_ne nE] at hst; exact hst
      refine k st E _ nst hE ⟨_, _, upd_same, by rw [upd_ne nE.symm, upd_same], by simpa using hn, fun z hz => ?_, by omega, by omega⟩ ((Fp.new hE).trans (Fp.new hst))
      obtain ⟨y, _, rfl⟩ := List.mem_map.mp hz
      split <;> omega
theorem ok_law_draw (T : Txt P w K mg base a) : FnOk P w K mg base (L2.CX P w) 1 a.f_law_draw a.fd_law_draw ["state", "many"] (sp_law_draw K a) := by
  refine T.F_law_draw.okX sc_law_draw (fun vs H Q E h => A2.len h) (fun cdv A outer s H vs Q E hr h => ?_)
  have hu := hu_of hr
  obtain ⟨v_state, v_many, rfl, h⟩ := h
  refine ⟨_, (pss_cons (ps_set (i := 2) sc_law_draw.nd rfl (by first | exact Or.inl rfl | exact Or.inr rfl) (pe_ix ix_list (pv 0) pe_int (fun _ _ => rfl)))
    (pss_cons (ps_while (passes_of rfl) (PW.pt (pw_and (pt_cmpR op_gt (pe_callB call_ln (by rfl) T.g_len (by decide +kernel) (pa_cons (pv 2) pa_nil)) pe_int (nomark _)) (pw_and1 (pt_cmpR op_eq (pe_ix ix_list (pv 2) pe_int (fun _ _ => rfl)) pe_int (nomark _))))) (pss_one (ps_expr (pe_bm PySem.F.plainAttrs_list PySem.F.slot_list_pop PySem.F.type_list_pop mt_popAt (pv 2) (pa_cons pe_int pa_nil)))))
    (pss_cons (ps_if (pt_cmpR op_gt (pe_callB call_ln (by rfl) T.g_len (by decide +kernel) (pa_cons (pv 2) pa_nil)) pe_int (nomark _)) (pss_cons (ps_set (i := 3) sc_law_draw.nd rfl (by first | exact Or.inl rfl | exact Or.inr rfl) (pe_ix ix_list (pv 2) pe_int (fun _ _ => rfl)))
    (pss_cons (ps_asg (pe_op op_fdiv (pv 3) (pv 1)) (pg_sub (pv 2) pe_int set_list))
    (pss_one (ps_ret (pe_op op_mod (pe_callTy call_in (by rfl) T.g_int (by decide +kernel) (pa_cons (pv 3) pa_nil)) (pv 1)))))) pss_nil)
    (pss_cons (ps_set (i := 4) sc_law_draw.nd rfl (by first | exact Or.inl rfl | exact Or.inr rfl) (pe_op op_mod (pe_callTy call_in (by rfl) T.g_int (by decide +kernel) (pa_cons (pe_op op_add (pe_op op_mul (pe_ix ix_list (pv 0) pe_int (fun _ _ => rfl)) pe_int) pe_int) pa_nil)) pe_int))
    (pss_cons (ps_asg (pv 4) (pg_sub (pv 0) pe_int set_list))
    (pss_one (ps_ret (pe_op op_mod (pe_callTy call_in (by rfl) T.g_int (by decide +kernel) (pa_cons (pe_op op_fdiv (pv 4) pe_int) pa_nil)) (pv 1))))))))), ?_⟩
  obtain ⟨st, sl, kk, rfl, rfl, S, k1, k2, k⟩ := h
  obtain ⟨ns, m, hst, hsl, hn, hpos, m0, m1⟩ := id S
  have nss := S.ne
  walk_at "r"
  refine w_by (fun q σ H1 => ∃ (ns1 : List Int), σ = [some (.ref st), some (.int kk), some (.ref sl), none, none] ∧ q = ns1.length ∧ H1 st = some (.lst [.ref sl, .int m]) ∧ H1 sl = some (.lst (ns1.map V.int)) ∧ ns1.length ≤ 63 ∧ (∀ z ∈ ns1, 0 ≤ z) ∧ Fp [st, sl] H H1) ns.length ⟨ns, rfl, rfl, hst, hsl, hn, hpos, Fp.refl _ _⟩ ?_
  rintro q σ H1 ⟨ns1, rfl, rfl, g1, g2, gn, gp, gf⟩
  walk_at "r"
  rw [List.length_map]
  cases ns1 with
  | nil =>
    refine if_dF (by simp) ?_
    refine iteF ?_
    walk_at "r"
    refine if_dF (by simp) ?_
    walk_at "r"
    refine c_setL (j := 1) g1 rfl (by simp) ?_
    walk_at "r"
    exact k _ _ (Int.emod_nonneg _ (by omega)) (Int.emod_lt_of_pos _ (by omega)) ⟨[], _, upd_same, by rw [upd_ne nss.symm]; exact g2, gn, gp, Int.emod_nonneg _ (by omega), by have := Int.emod_lt_of_pos (m * 48271 + 12345) (show (0 : Int) < 2147483647 by omega); omega⟩ (gf.trans (Fp.at_ (by simp)))
  | cons z zs =>
    rw [List.map_cons] at g2
    have gz : zs.length ≤ 62 := by simpa using gn
    have gl : ((zs.map V.int).length) < 100000 := by rw [List.length_map]; omega
    refine if_dT (by simp <;> omega) ?_
    walk_at "r"
    refine if_d (fun e => ?_) (fun e => ?_)
    · refine ⟨_, fun _ _ h => h, ?_⟩
      walk_at "r"
      exact ⟨zs.length, by simp, zs, rfl, rfl, by rw [upd_ne nss]; exact g1, upd_same, by omega, fun y hy => gp y (List.mem_cons_of_mem _ hy), gf.trans (Fp.at_ (by simp))⟩
    · walk_at "r"
      refine if_dT (by simp <;> omega) ?_
      walk_at "r"
      refine c_setL (j := 0) g2 rfl (by simp) ?_
      walk_at "r"
      have hz := gp z List.mem_cons_self
      exact k _ _ (Int.emod_nonneg _ (by omega)) (Int.emod_lt_of_pos _ (by omega)) ⟨z / kk :: zs, m, by rw [upd_ne nss]; exact g1, upd_same, gn, fun y hy => by
        rcases List.mem_cons.mp hy with rfl | hy
        · exact Int.ediv_nonneg hz (by omega)
        · exact gp y (List.mem_cons_of_mem _ hy), m0, m1⟩ (gf.trans (Fp.at_ (by simp)))
/-! ### the drawn numbers, as an assertion -/
def stP (st : Addr) (H : Hp) (A : List Addr) : Prop := ∃ sl, A = [st, sl] ∧ StAt H st sl
def StA (st : Addr) : As := fpa (stP st) (fun H H' A ⟨sl, e, ns, m, h1, h2, r⟩ g => ⟨sl, e, ns, m, by rw [g.1 st (by simp [e])]; exact h1, by rw [g.1 sl (by simp [e])]; exact h2, r⟩)
  (fun H A ⟨sl, e, ns, m, h1, h2, r⟩ a s => by rw [e] at s; simp only [List.mem_cons, List.not_mem_nil, or_false] at s; rcases s with rfl | rfl <;> simp [h1, h2])
theorem c_draw {L R : List As} {H : Hp} {Q : VK} {E : XK} {st : Addr} {k : Int} (hs : Sl.St L H) (s : Sel (StA st) L R) (k1 : 1 ≤ k) (k2 : k < 1073741824) (q : ∀ r H', 0 ≤ r → r < k → Sl.St (StA st :: R) H' → Q (.int r) H') : sp_law_draw K a [.ref st, .int k] H Q E := by
  obtain ⟨A, ⟨sl, rfl, S⟩, up⟩ := fpa_U (hs.sel s)
  refine a2 ⟨st, sl, k, rfl, rfl, S, k1, k2, fun r H1 r1 r2 S1 f => q r H1 r1 r2 (up _ _ _ [st, sl] [st, sl] H1 f (fun x m => ⟨.inl m, fun o e => ?_⟩) ⟨sl, rfl, S1⟩ fun x m => .inl m)⟩
  obtain ⟨ns, m', h1, h2, _⟩ := S
  simp only [List.mem_cons, List.not_mem_nil, or_false] at m
  rcases m with rfl | rfl
  · rw [h1] at e; cases e; exact id
  · rw [h2] at e; cases e; exact id
theorem c_state {L : List As} {H : Hp} {Q : VK} {E : XK} {b : Addr} {ns : List Int} (hs : Sl.St L H) (h : SqL K H b (ns.map V.int)) (hn : ns.length ≤ 63) (q : ∀ st H', Sl.St (StA st :: L) H' → Fp [] H H' → Q (.ref st) H') : sp_law_state K a [.ref b] H Q E :=
  a1 ⟨b, ns, rfl, h, hn, fun st sl H1 n1 n2 S f => q st H1 (fpa_new hs f ⟨sl, rfl, S⟩ fun x m => by
    simp only [List.mem_cons, List.not_mem_nil, or_false] at m
    rcases m with rfl | rfl <;> assumption) f⟩
/-! ### the choice of work -/
abbrev nv (b : Nat) : V := .int (b : Int)
def nvo : Option Nat → V
  | some i => .int (i : Int)
  | none => .non
abbrev fitB (P M A : List Bool) (L : List Int) (i : Nat) : Bool := P[i]?.getD false && (!(M[i]?.getD false) && (A[i]?.getD false && decide (0 < L[i]?.getD 0)))
def fitF (P M A : List Bool) (L : List Int) : Option Nat := (List.range P.length).find? (fitB P M A L)
abbrev jobAt (t n i : Nat) : Nat := (t + i) % n
def jobF (t : Nat) (B : List Bool) : Option Nat := ((List.range B.length).map (jobAt t B.length)).find? fun j => B[j]?.getD false
theorem find_snoc {p : Nat → Bool} {l : List Nat} {x : Nat} (h : l.find? p = none) (hx : p x = true) : ∀ r, (l ++ x :: r).find? p = some x := fun r => by rw [List.find?_append, h, List.find?_cons, hx]; rfl
theorem range_cut {i n : Nat} (h : i < n) : List.range n = List.range i ++ i :: (List.range (n - i - 1)).map (i + 1 + ·) := by
  have e : n = i + (1 + (n - i - 1)) := by omega
  conv => lhs; rw [e, List.range_add, List.range_add]
  simp [List.map_map, Function.comp_def, Nat.add_assoc]
theorem find_rng {p : Nat → Bool} {i n : Nat} (h : (List.range i).find? p = none) (hi : i < n) (hx : p i = true) : (List.range n).find? p = some i := by rw [range_cut hi]; exact find_snoc h hx _
theorem find_rng1 {p : Nat → Bool} {i : Nat} (h : (List.range i).find? p = none) (hx : p i = false) : (List.range (i + 1)).find? p = none := by rw [List.range_succ, List.find?_append, h, List.find?_cons, hx]; rfl
theorem at_bl {bs : List Bool} {i : Nat} (h : i < bs.length) : atI (bs.map V.bl) (i : Int) = some (.bl (bs[i]?.getD false)) := atI_nat (by rw [List.getElem?_map, List.getElem?_eq_getElem h]; rfl)
theorem at_in {ns : List Int} {i : Nat} (h : i < ns.length) : atI (ns.map V.int) (i : Int) = some (.int (ns[i]?.getD 0)) := atI_nat (by rw [List.getElem?_map, List.getElem?_eq_getElem h]; rfl)
def sp_law_flags (K : PySem.W.Frag) (a : Ads) : Sp := A2 fun s v H Q E => ∃ (st : Addr) (n : Nat) (L R : List As), s = .ref st ∧ v = .int n ∧ n ≤ 1000 ∧ Sl.St L H ∧ Sel (StA st) L R ∧
  ∀ p (bs : List Bool) H', bs.length = n → Sl.St (cell p (.lst (bs.map V.bl)) :: StA st :: R) H' → Q (.ref p) H'
def sp_chosen_line (K : PySem.W.Frag) (a : Ads) : Sp := A4 fun p m l b H Q E => ∃ (pa ma la ba : Addr) (P M A : List Bool) (L : List Int), p = .ref pa ∧ m = .ref ma ∧ l = .ref la ∧ b = .ref ba ∧ H pa = some (.lst (P.map V.bl)) ∧ H ma = some (.lst (M.map V.bl)) ∧ H la = some (.lst (L.map V.int)) ∧ H ba = some (.lst (A.map V.bl)) ∧
  M.length = P.length ∧ L.length = P.length ∧ A.length = P.length ∧ P.length ≤ 1000 ∧ Q (nvo (fitF P M A L)) H
def sp_chosen_job (K : PySem.W.Frag) (a : Ads) : Sp := A2 fun t b H Q E => ∃ (tt : Nat) (ba : Addr) (B : List Bool), t = .int tt ∧ b = .ref ba ∧ H ba = some (.lst (B.map V.bl)) ∧ tt ≤ 1000 ∧ B.length ≤ 1000 ∧ Q (nvo (jobF tt B)) H
/-- what the choice tells -/
def dueV (P M A : List Bool) (L : List Int) (jl : Int) (t : Nat) (B : List Bool) : List V := match fitF P M A L with
  | some i => [.str "line", .int (i : Int)]
  | none => if 0 < jl then match jobF t B with
    | some j => [.str "job", .int (j : Int)]
    | none => [.str "idle", .int (-1)] else [.str "idle", .int (-1)]
def sp_choice (K : PySem.W.Frag) (a : Ads) : Sp := A7 fun p m l b j t k H Q E => ∃ (pa ma la ba ka : Addr) (P M A B : List Bool) (L : List Int) (jl : Int) (tt : Nat) (F : List As), p = .ref pa ∧ m = .ref ma ∧ l = .ref la ∧ b = .ref ba ∧ j = .int jl ∧ t = .int tt ∧ k = .ref ka ∧
  H pa = some (.lst (P.map V.bl)) ∧ H ma = some (.lst (M.map V.bl)) ∧ H la = some (.lst (L.map V.int)) ∧ H ba = some (.lst (A.map V.bl)) ∧ H ka = some (.lst (B.map V.bl)) ∧ M.length = P.length ∧ L.length = P.length ∧ A.length = P.length ∧ P.length ≤ 1000 ∧ tt ≤ 1000 ∧ B.length ≤ 1000 ∧ Sl.St F H ∧
  ∀ q H', Sl.St (tcell q (dueV P M A L jl tt B) :: F) H' → Q (.ref q) H'
theorem ok_law_flags (T : Txt P w K mg base a) : FnOk P w K mg base (L2.CX P w) 2 a.f_law_flags a.fd_law_flags ["state", "many"] (sp_law_flags K a) := by
  have G_law_draw := ok_law_draw T
  refine T.F_law_flags.okX sc_law_flags (fun vs H Q E h => A2.len h) (fun cdv A outer s H vs Q E hr h => ?_)
  have hu := hu_of hr
  obtain ⟨v_state, v_many, rfl, h⟩ := h
  refine ⟨_, (pss_cons (ps_set (i := 2) sc_law_flags.nd rfl (by first | exact Or.inl rfl | exact Or.inr rfl) (pe_op op_add pe_int (pe_callS G_law_draw (hr.mono (by decide)) rfl T.g_law_draw T.F_law_draw.kp T.b_law_draw (fun σ => passAt (takes_of rfl rfl rfl rfl) σ) (pa_cons (pv 0) (pa_cons pe_int pa_nil)))))
    (pss_one (ps_ret (pe_lc (own := [("k", 3)]) (g := (gName 3)) (tt := tYes) (te := (tOp rEq (tCallS (sp_law_draw K a) (WE (fun _ _ _ _ => False)) (tCons (tVar 0) (tCons (tVar 2) tNil))) (tC (.int 0)))) rfl sc_law_flags.nd (pi_range1 rfl T.g_range (pa_cons (pv 1) pa_nil)) (blkOk_by (N := ["state", "many", "share", "k"]) (sc := defScope s_law_flags) (own := [("k", 3)]) (by decide +kernel)) (fun _ _ _ _ _ => by exact (pg_name (i := 3) sc_law_flags.nd rfl (by first | exact Or.inl rfl | exact Or.inr rfl))) (fun _ _ _ _ _ => by exact pts_nil) (fun _ _ _ _ _ => by exact (pe_cmpR op_eq (pe_callS G_law_draw (hr.mono (by decide)) rfl T.g_law_draw T.F_law_draw.kp T.b_law_draw (fun σ => passNo) (pa_cons (pv 0) (pa_cons (pv 2) pa_nil))) pe_int (nomark _))))))), ?_⟩
  obtain ⟨st, n, L, R, rfl, rfl, hn, hs0, se, k⟩ := h
  have hs := hs0.sel se
  clear hs0
  walk_at "x"
  refine c_draw hs .here (by omega) (by omega) fun r1 H2 ra1 rb1 hs => ?_
  walk_at "x"
  refine k_lcFS (fun i acc => ∃ bs : List Bool, acc = bs.map V.bl ∧ bs.length = i) (fun _ _ => StA st :: R) hs (by omega) (by omega) ⟨[], rfl, rfl⟩ (fun D i acc H' hi ha f hs R0 N y _ => ?_) fun D acc H' ha f hs => ?_
  · obtain ⟨bs, e1, e2⟩ := f
    walk_at "x"
    refine ⟨rfl, lc_yes ?_⟩
    walk_at "x"
    refine c_draw hs (by walk_at "sel") (by omega) (by omega) fun r2 H3 ra2 rb2 hs => ?_
    walk_at "x"
    refine y _ _ ⟨bs ++ [decide (V.int r2 = V.int 0)], by rw [e1]; simp, by simp [e2]⟩ (hs.perm (by walk_at "sels"))
  · obtain ⟨bs, e1, e2⟩ := f
    subst e1
    walk_at "x"
    exact k _ bs _ (by omega) hs
theorem ok_chosen_line (T : Txt P w K mg base a) : FnOk P w K mg base (L2.CX P w) 1 a.f_chosen_line a.fd_chosen_line ["pending", "masked", "left", "able"] (sp_chosen_line K a) := by
  refine T.F_chosen_line.okX sc_chosen_line (fun vs H Q E h => A4.len h) (fun cdv A outer s H vs Q E hr h => ?_)
  have hu := hu_of hr
  obtain ⟨v_pending, v_masked, v_left, v_able, rfl, h⟩ := h
  refine ⟨_, (pss_cons (ps_for (passes_of rfl) rfl (pi_range1 rfl T.g_range (pa_cons (pe_callB call_ln (by rfl) T.g_len (by decide +kernel) (pa_cons (pv 0) pa_nil)) pa_nil)) (pg_name (i := 4) sc_chosen_line.nd rfl (by first | exact Or.inl rfl | exact Or.inr rfl)) (pss_one (ps_if (PW.pt (pw_and (pt_val (pe_ix ix_list (pv 0) (pv 4) (fun _ _ => rfl))) (pw_and (pt_not (pt_val (pe_ix ix_list (pv 1) (pv 4) (fun _ _ => rfl)))) (pw_and (pt_val (pe_ix ix_list (pv 3) (pv 4) (fun _ _ => rfl))) (pw_and1 (pt_cmpR op_gt (pe_ix ix_list (pv 2) (pv 4) (fun _ _ => rfl)) pe_int (nomark _))))))) (pss_one (ps_ret (pv 4))) pss_nil)))
    (pss_one (ps_ret pe_non))), ?_⟩
  obtain ⟨pa, ma, la, ba, P, M, A, L, rfl, rfl, rfl, rfl, h1, h2, h3, h4, e1, e2, e3, hn, k⟩ := h
  walk_at "x"
  rw [List.length_map]
  refine k_rng (n := (P.length : Int)) (fun i σ H' => H' = H ∧ (List.range i).find? (fitB P M A L) = none ∧ ∃ u, σ = [some (.ref pa), some (.ref ma), some (.ref la), some (.ref ba), u]) (by omega) (by omega) ⟨rfl, rfl, _, rfl⟩ ?_ ?_
  · rintro i σ H' hi ⟨rfl, hf, u, rfl⟩
    simp at hi
    walk_at "x"
    refine o_ixL (Or.inl (Or.inl h1)) (at_bl (by omega)) ?_
    walk_at "x"
    refine if_b (fun c1 => ?_) (fun c1 => ?_)
    · walk_at "x"
      refine o_ixL (Or.inl (Or.inl h2)) (at_bl (by omega)) ?_
      walk_at "x"
      refine if_b (fun c2 => ?_) (fun c2 => ?_)
      · walk_at "x"
        refine o_ixL (Or.inl (Or.inl h4)) (at_bl (by omega)) ?_
        walk_at "x"
        refine if_b (fun c3 => ?_) (fun c3 => ?_)
        · walk_at "x"
          refine o_ixL (Or.inl (Or.inl h3)) (at_in (by omega)) ?_
          walk_at "x"
          refine if_d (fun c4 => ?_) (fun c4 => ?_)
          · walk_at "x"
            have e : fitF P M A L = some i := find_rng hf hi (by simp [fitB, c1, c2, c3, c4])
            rw [e] at k
            exact k
          · walk_at "x"
            exact ⟨rfl, find_rng1 hf (by simp [fitB, c4]), _, rfl⟩
        · walk_at "x"
          exact ⟨rfl, find_rng1 hf (by simp [fitB, c3]), _, rfl⟩
      · walk_at "x"
        exact ⟨rfl, find_rng1 hf (by simp [fitB, c2]), _, rfl⟩
    · walk_at "x"
      exact ⟨rfl, find_rng1 hf (by simp [fitB, c1]), _, rfl⟩
  · rintro σ H' ⟨rfl, hf, u, rfl⟩
    walk_at "x"
    rw [show fitF P M A L = none by unfold fitF; simpa using hf] at k
    exact k
theorem ok_chosen_job (T : Txt P w K mg base a) : FnOk P w K mg base (L2.CX P w) 1 a.f_chosen_job a.fd_chosen_job ["turn", "able_jobs"] (sp_chosen_job K a) := by
  refine T.F_chosen_job.okX sc_chosen_job (fun vs H Q E h => A2.len h) (fun cdv A outer s H vs Q E hr h => ?_)
  have hu := hu_of hr
  obtain ⟨v_turn, v_able_jobs, rfl, h⟩ := h
  refine ⟨_, (pss_cons (ps_set (i := 2) sc_chosen_job.nd rfl (by first | exact Or.inl rfl | exact Or.inr rfl) (pe_callB call_ln (by rfl) T.g_len (by decide +kernel) (pa_cons (pv 1) pa_nil)))
    (pss_cons (ps_for (passes_of rfl) rfl (pi_range1 rfl T.g_range (pa_cons (pv 2) pa_nil)) (pg_name (i := 3) sc_chosen_job.nd rfl (by first | exact Or.inl rfl | exact Or.inr rfl)) (pss_cons (ps_set (i := 4) sc_chosen_job.nd rfl (by first | exact Or.inl rfl | exact Or.inr rfl) (pe_op op_mod (pe_op op_add (pv 0) (pv 3)) (pv 2)))
    (pss_one (ps_if (pt_val (pe_ix ix_list (pv 1) (pv 4) (fun _ _ => rfl))) (pss_one (ps_ret (pv 4))) pss_nil))))
    (pss_one (ps_ret pe_non)))), ?_⟩
  obtain ⟨tt, ba, B, rfl, rfl, h1, ht, hn, k⟩ := h
  walk_at "x"
  rw [List.length_map]
  refine k_rng (n := (B.length : Int)) (fun i σ H' => H' = H ∧ ((List.range i).map (jobAt tt B.length)).find? (fun j => B[j]?.getD false) = none ∧ ∃ u v, σ = [some (.int tt), some (.ref ba), some (.int (B.length : Int)), u, v]) (by omega) (by omega) ⟨rfl, rfl, _, _, rfl⟩ ?_ ?_
  · rintro i σ H' hi ⟨rfl, hf, u, v, rfl⟩
    simp at hi
    have ej : ((tt : Int) + (i : Int)) % (B.length : Int) = ((jobAt tt B.length i : Nat) : Int) := by simp [jobAt]
    walk_at "x"
    rw [ej]
    refine o_ixL (Or.inl (Or.inl h1)) (at_bl (Nat.mod_lt _ (by omega))) ?_
    walk_at "x"
    refine if_b (fun c1 => ?_) (fun c1 => ?_)
    · walk_at "x"
      have e : jobF tt B = some (jobAt tt B.length i) := by
        unfold jobF
        rw [range_cut hi, List.map_append, List.map_cons]
        exact find_snoc hf c1 _
      rw [e] at k
      exact k
    · walk_at "x"
      refine ⟨rfl, ?_, _, _, rfl⟩
      rw [List.range_succ, List.map_append, List.find?_append, hf]
      simp only [List.map_cons, List.map_nil, List.find?_cons, c1]
      rfl
  · rintro σ H' ⟨rfl, hf, u, v, rfl⟩
    walk_at "x"
    rw [show jobF tt B = none by unfold jobF; simpa using hf] at k
    exact k
theorem ok_choice (T : Txt P w K mg base a) : FnOk P w K mg base (L2.CX P w) 2 a.f_choice a.fd_choice ["pending", "masked", "left", "able", "jobs_left", "turn", "able_jobs"] (sp_choice K a) := by
  have G_chosen_line := ok_chosen_line T
  have G_chosen_job := ok_chosen_job T
  refine T.F_choice.okX sc_choice (fun vs H Q E h => A7.len h) (fun cdv A outer s H vs Q E hr h => ?_)
  have hu := hu_of hr
  obtain ⟨v_pending, v_masked, v_left, v_able, v_jobs_left, v_turn, v_able_jobs, rfl, h⟩ := h
  refine ⟨_, (pss_cons (ps_set (i := 7) sc_choice.nd rfl (by first | exact Or.inl rfl | exact Or.inr rfl) (pe_callS G_chosen_line (hr.mono (by decide)) rfl T.g_chosen_line T.F_chosen_line.kp T.b_chosen_line (fun σ => passAt (takes_of rfl rfl rfl rfl) σ) (pa_cons (pv 0) (pa_cons (pv 1) (pa_cons (pv 2) (pa_cons (pv 3) pa_nil))))))
    (pss_cons (ps_if (pt_cmpR op_notN (pv 7) pe_non (nomark _)) (pss_one (ps_ret (pe_tup (pa_cons pe_str (pa_cons (pv 7) pa_nil))))) pss_nil)
    (Evl.pss_cut (ps_if (pt_cmpR op_gt (pv 4) pe_int (nomark _)) (pss_cons (ps_set (i := 8) sc_choice.nd rfl (by first | exact Or.inl rfl | exact Or.inr rfl) (pe_callS G_chosen_job (hr.mono (by decide)) rfl T.g_chosen_job T.F_chosen_job.kp T.b_chosen_job (fun σ => passAt (takes_of rfl rfl rfl rfl) σ) (pa_cons (pv 5) (pa_cons (pv 6) pa_nil))))
    (pss_one (ps_if (pt_cmpR op_notN (pv 8) pe_non (nomark _)) (pss_one (ps_ret (pe_tup (pa_cons pe_str (pa_cons (pv 8) pa_nil))))) pss_nil))) pss_nil)
    (pss_one (ps_ret (pe_tup (pa_cons pe_str (pa_cons (pe_un un_neg pe_int) pa_nil)))))))), ?_⟩
  obtain ⟨pa, ma, la, ba, ka, P, M, A, B, L, jl, tt, F, rfl, rfl, rfl, rfl, rfl, rfl, rfl, h1, h2, h3, h4, h5, e1, e2, e3, hn, ht, hb, hs, k⟩ := h
  walk_at "x"
  refine Rd.a4 ⟨pa, ma, la, ba, P, M, A, L, rfl, rfl, rfl, rfl, h1, h2, h3, h4, e1, e2, e3, hn, ?_⟩
  unfold dueV at k
  cases hf : fitF P M A L with
  | some i =>
    rw [hf] at k
    walk_at "x"
    refine ⟨rfl, ?_⟩
    walk_at "x"
    refine if_ndT (fun z => by cases z) ?_
    walk_at "x"
    exact k _ _ hs
  | none =>
    rw [hf] at k
    walk_at "x"
    refine ⟨rfl, ?_⟩
    walk_at "x"
    refine if_ndF rfl ?_
    walk_at "x"
    refine s_cut0 ?_
    walk_at "x"
    refine if_d (fun c => ?_) (fun c => ?_)
    · rw [if_pos c] at k
      walk_at "x"
      refine Rd.a2 ⟨tt, ka, B, rfl, rfl, h5, ht, hb, ?_⟩
      cases hj : jobF tt B with
      | some j =>
        rw [hj] at k
        walk_at "x"
        refine ⟨rfl, ?_⟩
        walk_at "x"
        refine if_ndT (fun z => by cases z) ?_
        walk_at "x"
        exact k _ _ hs
      | none =>
        rw [hj] at k
        walk_at "x"
        refine ⟨rfl, ?_⟩
        walk_at "x"
        refine if_ndF rfl ?_
        walk_at "x"
        exact k _ _ hs
    · rw [if_neg c] at k
      walk_at "x"
      exact k _ _ hs
end
end My
set_option Elab.async false
set_option maxRecDepth 100000
set_option maxHeartbeats 100000000
set_option linter.all false
namespace My
open PySem L2 Sx Rd Sl
local macro_rules | `(tactic| walk_at "ne") => `(tactic| (first | with_reducible assumption | with_reducible exact Ne.symm (by with_reducible assumption)))
local macro_rules | `(tactic| walk_at "nin") => `(tactic| (simp only [List.mem_cons, List.not_mem_nil, or_false, not_or, not_false_eq_true]; (repeat' refine And.intro ?_ ?_); (all_goals walk_at "ne")))
local macro_rules | `(tactic| walk_at "hl") => `(tactic| (first | (with_reducible assumption) | exact upd_same | ((with_reducible refine' (upd_ne ?hne).trans ?hgo); (case hne => walk_at "ne"); (case hgo => walk_at "hl"))))
local macro_rules | `(tactic| walk_at "sq") => `(tactic| (first | (with_reducible assumption) | exact Or.inl (Or.inl (by walk_at "hl"))))
local macro_rules | `(tactic| walk_at "ar") => `(tactic| (first | omega | exact ⟨by omega, by omega⟩ | exact Or.inl ⟨by omega, by omega⟩ | exact Or.inr ⟨by omega, by omega⟩ | (show (0 : Int) < _; omega) | (show (0 : Int) < _ ∧ _ < (1073741824 : Int); omega)))
local macro_rules | `(tactic| walk_at "cls") => `(tactic| (first | fail))
local macro_rules | `(tactic| walk_at "noa") => `(tactic| (first | fail))
local macro_rules | `(tactic| walk_at "lkp") => `(tactic| (first | fail))
local macro_rules | `(tactic| walk_at "ptf") => `(tactic| (first | exact rfl))
local macro_rules | `(tactic| walk_at "lnF") => `(tactic| (first | (refine PL.lt (n := 60) ?_ (by decide); (repeat refine PL.put ?_); exact PL.nil) | decide))
local macro_rules | `(tactic| walk_at "nol") => `(tactic| (first | fail))
local macro_rules | `(tactic| walk_at "r1") => `(tactic| (first
  | with_reducible apply l_cons | ((with_reducible apply e_var); (case h => exact rfl)) | with_reducible apply l_nil | with_reducible apply s_seq | with_reducible apply e_c | with_reducible apply g_name
  | with_reducible apply s_asg | with_reducible apply e_call | with_reducible apply k_t | with_reducible apply e_op | with_reducible apply e_cb | with_reducible apply t_test
  | with_reducible apply s_if | with_reducible apply t_or | with_reducible apply t_and | with_reducible apply t_B | with_reducible apply s_next | with_reducible apply p_some
  | with_reducible apply p_no | with_reducible apply e_sl | with_reducible apply k_i | with_reducible apply e_lst | with_reducible apply t_not | with_reducible apply o_chC | ((with_reducible refine' o_chV ?hv ?_); (case hv => exact rfl)) | with_reducible apply o_I0
  | ((with_reducible refine' o_I ?hc ?_); (case hc => walk_at "ar")) | with_reducible apply e_meth | ((with_reducible refine' k_meth ?h1 ?h2 ?_); (case h1 => walk_at "hl"); (case h2 => walk_at "nol")) | with_reducible apply e_fld | ((with_reducible refine' k_fld ?h1 ?h2 ?h3 ?h4 ?_); (case h1 => walk_at "hl"); (case h2 => walk_at "cls"); (case h3 => walk_at "noa"); (case h4 => walk_at "lkp")) | with_reducible apply e_not
  | with_reducible apply s_ret | ((with_reducible refine' k_ty ?h1 ?_); (case h1 => walk_at "sq")) | with_reducible apply s_drop | with_reducible apply s_retN | with_reducible apply s_cont | with_reducible apply s_break
  | with_reducible apply e_un | with_reducible apply o_U | ((with_reducible refine' o_eq ?hs ?_); (case hs => exact rfl)) | ((with_reducible refine' o_ne ?hs ?_); (case hs => exact rfl))
  | ((with_reducible refine' o_ixL ?h1 ?h2 ?_); (case h1 => walk_at "sq"); (case h2 => first | exact rfl | exact atI_zero _ _)) | with_reducible apply s_fld | with_reducible apply e_make | ((with_reducible refine' k_set ?h1 ?h2 ?h3 ?h4 ?h5 ?_); (case h1 => walk_at "hl"); (case h2 => walk_at "cls"); (case h3 => walk_at "noa"); (case h4 => walk_at "ptf"); (case h5 => walk_at "lnF")) | with_reducible apply e_tup | with_reducible apply e_bm
  | with_reducible apply e_bm0 | with_reducible apply e_if | with_reducible apply e_chain | with_reducible apply s_raise | with_reducible apply g_sub | ((with_reducible refine' c_ln ?h1 ?_); (case h1 => walk_at "sq"))
  | ((with_reducible refine' c_pop0 ?h1 ?h2 ?_); (case h1 => walk_at "hl"); (case h2 => omega)) | with_reducible apply c_isBool | with_reducible apply c_isInt | with_reducible apply c_isBoolN | with_reducible apply c_isTupI | with_reducible apply c_isNonB
  | with_reducible apply c_isNonT | ((with_reducible refine' c_isList ?h1 ?_); (case h1 => walk_at "hl")) | ((with_reducible refine' c_isTup ?h1 ?_); (case h1 => walk_at "hl")) | ((with_reducible refine' c_isTupB ?h1 ?_); (case h1 => walk_at "hl")) | with_reducible apply o_isB | with_reducible apply o_notB
  | with_reducible apply e_and | with_reducible apply e_or | with_reducible apply k_bl | with_reducible apply e_xf | with_reducible apply s_augS | ((with_reducible refine' s_augV ?hv ?_); (case hv => exact rfl))
  | with_reducible apply ip_I | with_reducible apply e_lcE | ((with_reducible refine' k_xf ?h1 ?h2 ?_); (case h1 => walk_at "hl"); (case h2 => exact look_hit _ _ _)) | ((with_reducible refine' o_slL ?h1 ?_); (case h1 => walk_at "sq")) | ((with_reducible refine' k_dget ?h1 ?h2 ?_); (case h1 => walk_at "hl"); (case h2 => with_reducible assumption)) | with_reducible apply e_dget
  | with_reducible apply s_dput | with_reducible apply e_makeK | with_reducible apply g_cons | with_reducible apply g_nil | with_reducible apply c_ab | with_reducible apply c_in
  | with_reducible apply c_mx | with_reducible apply c_mn | with_reducible apply a1 | with_reducible apply a2 | with_reducible apply a3 | with_reducible apply a4
  | with_reducible apply a5 | with_reducible apply a6 | with_reducible apply a0 | with_reducible apply t_tru | with_reducible apply t_yes | ((with_reducible refine' k_truL ?h1 ?_); (case h1 => walk_at "sq")) | with_reducible refine d_nx ?_ | with_reducible refine d_rt ?_ | with_reducible refine d_bk ?_
  | with_reducible refine d_ct ?_))
local macro_rules | `(tactic| walk_at "r") => `(tactic| (repeat walk_at "r1"))
local macro_rules | `(tactic| walk_at "sel") => `(tactic| (first | with_reducible exact Sl.Sel.here | ((with_reducible refine' Sl.Sel.there ?t); (case t => walk_at "sel"))))
local macro_rules | `(tactic| walk_at "selt") => `(tactic| (first | with_reducible exact Sl.Sels.all _ | ((with_reducible refine' Sl.Sels.skip ?t); (case t => walk_at "selt"))))
local macro_rules | `(tactic| walk_at "sels") => `(tactic| (first | with_reducible exact Sl.Sels.nil | ((with_reducible refine' Sl.Sels.cons ?a ?b); (case a => walk_at "sel"); (case b => walk_at "sels")) | walk_at "selt"))
local macro_rules | `(tactic| walk_at "selm") => `(tactic| ((try (simp only [])); (try simp only [List.map_append, List.map_cons, List.map_nil]); walk_at "sels"))
local macro_rules | `(tactic| walk_at "hg") => do
  let h := Lean.mkIdent `hs
  `(tactic| (first | (with_reducible assumption) | ((with_reducible refine' Sl.St.get $h ?s); (case s => walk_at "sel")) | ((with_reducible refine' Sl.St.geti $h ?s); (case s => walk_at "sel"))))
local macro_rules | `(tactic| walk_at "sg") => do
  let h := Lean.mkIdent `hs
  `(tactic| (first | (with_reducible assumption) | exact Or.inl (Or.inl (by walk_at "hg")) | (refine' Sl.sqA.U $h ?s; (case s => walk_at "sel"))))
local macro_rules | `(tactic| walk_at "le5") => `(tactic| (first | omega | (simp only [List.length_cons, List.length_nil, List.length_append, List.length_map]; omega) | (show _ ≤ _; decide) | (show _ < _; decide)))
local macro_rules | `(tactic| walk_at "km") => `(tactic| fail)
local macro_rules | `(tactic| walk_at "kf") => `(tactic| fail)
local macro_rules | `(tactic| walk_at "x1") => do
  let h := Lean.mkIdent `hs
  `(tactic| (first
  | with_reducible apply l_cons | ((with_reducible apply e_var); (case h => exact rfl)) | with_reducible apply l_nil | with_reducible apply s_seq | with_reducible apply e_c | with_reducible apply g_name
  | with_reducible apply s_asg | with_reducible apply e_call | with_reducible apply k_t | with_reducible apply e_op | with_reducible apply e_cb | with_reducible apply t_test
  | with_reducible apply s_if | with_reducible apply t_or | with_reducible apply t_and | with_reducible apply t_B | with_reducible apply s_next | with_reducible apply p_some
  | with_reducible apply p_no | with_reducible apply e_sl | with_reducible apply k_i | with_reducible apply Sl.e_lstS | with_reducible apply t_not | with_reducible apply o_chC | ((with_reducible refine' o_chV ?hv ?_); (case hv => exact rfl)) | with_reducible apply o_I0
  | ((with_reducible refine' o_I ?hc ?_); (case hc => walk_at "ar")) | with_reducible apply e_meth | ((with_reducible refine' k_meth ?h1 ?h2 ?_); (case h1 => walk_at "hg"); (case h2 => walk_at "nol")) | walk_at "km" | with_reducible apply e_fld
  | ((with_reducible refine' k_fld ?h1 ?h2 ?h3 ?h4 ?_); (case h1 => walk_at "hg"); (case h2 => walk_at "cls"); (case h3 => walk_at "noa"); (case h4 => walk_at "lkp")) | walk_at "kf" | with_reducible apply e_not
  | with_reducible apply s_ret | ((with_reducible refine' k_ty ?h1 ?_); (case h1 => walk_at "sg")) | with_reducible apply s_drop | with_reducible apply s_retN | with_reducible apply s_cont | with_reducible apply s_break
  | with_reducible apply e_un | with_reducible apply o_U | ((with_reducible refine' o_eq ?hs ?_); (case hs => exact rfl)) | ((with_reducible refine' o_ne ?hs ?_); (case hs => exact rfl))
  | ((with_reducible refine' o_ixL ?h1 ?h2 ?_); (case h1 => walk_at "sg"); (case h2 => first | exact rfl | exact atI_zero _ _)) | ((with_reducible refine' o_ixT ?h1 ?h2 ?_); (case h1 => walk_at "sg"); (case h2 => first | exact rfl | exact atI_zero _ _)) | with_reducible apply s_fld | with_reducible apply Sl.e_makeS
  | ((with_reducible refine' Sl.k_setS $h ?h1 ?h2 ?h3 ?h4 ?h5 ?_); (case h1 => walk_at "sel"); (case h2 => walk_at "cls"); (case h3 => walk_at "noa"); (case h4 => walk_at "ptf"); (case h5 => walk_at "lnF"); (clear $h; intro _ $h)) | with_reducible apply Sl.e_tupS | with_reducible apply e_bm
  | with_reducible apply e_bm0 | with_reducible apply e_if | with_reducible apply e_chain | with_reducible apply s_raise | with_reducible apply g_sub | ((with_reducible refine' c_ln ?h1 ?_); (case h1 => walk_at "sg")) | ((with_reducible refine' c_lnT ?h1 ?_); (case h1 => walk_at "sg"))
  | ((with_reducible refine' Sl.k_newL $h ?h1 ?_); (case h1 => walk_at "le5"); (clear $h; intro _ _ $h)) | ((with_reducible refine' Sl.k_newT $h ?h1 ?_); (case h1 => walk_at "le5"); (clear $h; intro _ _ $h)) | ((with_reducible refine' Sl.k_make $h ?_); (clear $h; intro _ _ _ $h))
  | ((with_reducible refine' Sl.c_appS $h ?h1 ?h2 ?_); (case h1 => walk_at "sel"); (case h2 => walk_at "le5"); (clear $h; intro _ $h)) | ((with_reducible refine' Sl.c_pop0S $h ?h1 ?h2 ?_); (case h1 => walk_at "sel"); (case h2 => walk_at "le5"); (clear $h; intro _ $h))
  | ((with_reducible refine' Sl.c_lsS $h ?h1 ?_); (case h1 => walk_at "sg"); (clear $h; intro _ _ $h)) | ((with_reducible refine' Sl.o_slLS $h ?h1 ?_); (case h1 => walk_at "sg"); (clear $h; intro _ _ $h)) | ((with_reducible refine' Sl.c_clrS $h ?h1 ?_); (case h1 => walk_at "sel"); (clear $h; intro _ $h))
  | ((with_reducible refine' Sl.o_catS $h ?h1 ?h2 ?h3 ?_); (case h1 => walk_at "hg"); (case h2 => walk_at "hg"); (case h3 => walk_at "le5"); (clear $h; intro _ _ $h)) | ((with_reducible refine' Sl.c_extS $h ?h1 ?h2 ?h3 ?_); (case h1 => walk_at "sel"); (case h2 => walk_at "hg"); (case h3 => walk_at "le5"); (clear $h; intro _ $h))
  | ((with_reducible refine' Sl.k_raise $h ?h1 ?_); (case h1 => exact okV_int ⟨by omega, by omega⟩); (clear $h; intro _ _ $h))
  | with_reducible apply c_isBool | with_reducible apply c_isInt | with_reducible apply c_isBoolN | with_reducible apply c_isTupI | with_reducible apply c_isNonB
  | with_reducible apply c_isNonT | ((with_reducible refine' c_isList ?h1 ?_); (case h1 => walk_at "hg")) | ((with_reducible refine' c_isTup ?h1 ?_); (case h1 => walk_at "hg")) | ((with_reducible refine' c_isTupB ?h1 ?_); (case h1 => walk_at "hg")) | with_reducible apply o_isB | with_reducible apply o_notB
  | with_reducible apply e_and | with_reducible apply e_or | with_reducible apply k_bl | with_reducible apply e_xf | with_reducible apply s_augS | ((with_reducible refine' s_augV ?hv ?_); (case hv => exact rfl)) | with_reducible apply Sl.s_aug
  | with_reducible apply ip_I | with_reducible apply e_lcE | with_reducible apply e_lcL | with_reducible apply f_lst | with_reducible apply e_lcF | with_reducible apply f_rng1 | ((with_reducible refine' k_xf ?h1 ?h2 ?_); (case h1 => walk_at "hg"); (case h2 => exact look_hit _ _ _)) | ((with_reducible refine' k_dget ?h1 ?h2 ?_); (case h1 => walk_at "hg"); (case h2 => with_reducible assumption)) | with_reducible apply e_dget
  | with_reducible apply s_dput | with_reducible apply Sl.e_makeKS | with_reducible apply g_cons | with_reducible apply g_nil | ((with_reducible refine' g_tup ?h1 ?h2 ?_); (case h1 => walk_at "sg"); (case h2 => exact rfl)) | with_reducible apply c_ab | with_reducible apply c_in
  | with_reducible apply c_mx | with_reducible apply c_mn | with_reducible apply a1 | with_reducible apply a2 | with_reducible apply a3 | with_reducible apply a4
  | with_reducible apply a5 | with_reducible apply a6 | with_reducible apply a0 | with_reducible apply t_tru | with_reducible apply t_yes | ((with_reducible refine' k_truL ?h1 ?_); (case h1 => walk_at "sg")) | with_reducible refine d_nx ?_ | with_reducible refine d_rt ?_ | with_reducible refine d_bk ?_
  | with_reducible refine d_ct ?_))
local macro_rules | `(tactic| walk_at "x") => `(tactic| (repeat walk_at "x1"))
section
variable {P : Program} {w : World} {K : PySem.W.Frag} {mg : Str → Option Value} {base : Heap} {a : Ads}
local macro_rules | `(tactic| walk_at "nm") => `(tactic| (simp only [L2.start, List.length_cons, List.length_nil, List.map_cons, List.map_nil, List.set_cons_succ, List.set_cons_zero, List.replicate_succ, List.replicate_zero, List.cons_append, List.nil_append, Nat.add_sub_cancel]))
/-- the jobs in the order of their turn -/
def ordL (t n : Nat) : List Nat := (List.range (n - t)).map (t + ·) ++ List.range t
theorem ordL_map (t n : Nat) : ((List.range (n - t)).map fun j => nv (t + j)) ++ (List.range t).map nv = (ordL t n).map nv := by
  simp [ordL, Function.comp_def]
theorem ordL_eq {t n : Nat} (h : t < n) : ordL t n = (List.range n).map (jobAt t n) := by
  refine List.ext_getElem (by simp [ordL]; omega) fun i h1 h2 => ?_
  have hi : i < n := by simpa using h2
  simp only [ordL, List.getElem_map, List.getElem_range, jobAt]
  by_cases c : i < n - t
  · rw [List.getElem_append_left (by simpa using c), List.getElem_map, List.getElem_range, Nat.mod_eq_of_lt (by omega)]
  · rw [List.getElem_append_right (by simp; omega), List.getElem_range, List.length_map, List.length_range]
    have e : t + i = (t + i - n) + n := by omega
    rw [e, Nat.add_mod_right, Nat.mod_eq_of_lt (by omega)]
    omega
theorem ordL_lt {t n j : Nat} (h : t < n) (m : j ∈ ordL t n) : j < n := by
  rw [ordL_eq h] at m
  obtain ⟨i, _, rfl⟩ := List.mem_map.mp m
  exact Nat.mod_lt _ (by omega)
theorem ordL_len {t n : Nat} (h : t < n) : (ordL t n).length = n := by rw [ordL_eq h]; simp
/-! ### the five lists, as a text -/
def fiveD (P M A B : List Bool) (L : List Int) : PyData := .list [.list (P.map .bool), .list (M.map .bool), .list (L.map .int), .list (A.map .bool), .list (B.map .bool)]
theorem five_hd {P M A B : List Bool} {L : List Int} : (fiveD P M A B L).hasDict = false := by
  simp only [fiveD, PyData.hasDict, PyData.hasDictAll, nA_map (f := PyData.bool) (fun _ => rfl), nA_map (f := PyData.int) (fun _ => rfl), Bool.or_false]
theorem five_sh {P M A B : List Bool} {L : List Int} (h : ∀ z ∈ L, 0 ≤ z ∧ z < 3) : (fiveD P M A B L).showable = true := by
  have h2 : PyData.showableAll (L.map PyData.int) = true := sA_mem fun z hz => by
    obtain ⟨h0, h1⟩ := h z hz
    have e : z = 0 ∨ z = 1 ∨ z = 2 := by omega
    rcases e with rfl | rfl | rfl <;> decide +kernel
  simp only [fiveD, PyData.showable, PyData.showableAll, sA_map (f := PyData.bool) (fun _ => rfl), h2, Bool.and_true]
theorem five_dp {P M A B : List Bool} {L : List Int} : (fiveD P M A B L).depth ≤ 32 := by
  simp only [fiveD, PyData.depth, PyData.depthAll, dA_map (f := PyData.bool) (fun _ => rfl), dA_map (f := PyData.int) (fun _ => rfl)]
  decide
theorem bls_le {bs : List Bool} (n : bs.length ≤ 100) : (PyData.list (bs.map .bool)).shown.length ≤ 1002 := by
  have h := list_le (ds := bs.map PyData.bool) (B := 8) fun d hd => by obtain ⟨b, _, rfl⟩ := List.mem_map.mp hd; exact bool_le b
  rw [List.length_map] at h
  omega
theorem five_le {P M A B : List Bool} {L : List Int} (h : ∀ z ∈ L, 0 ≤ z ∧ z < 3) (h1 : P.length ≤ 100) (h2 : M.length ≤ 100) (h3 : L.length ≤ 100) (h4 : A.length ≤ 100) (h5 : B.length ≤ 100) : (fiveD P M A B L).shown.length ≤ sizeLine := by
  have h3' : (PyData.list (L.map .int)).shown.length ≤ 1002 := by
    have h6 := list_le (ds := L.map PyData.int) (B := 8) fun d hd => by
      obtain ⟨z, hz, rfl⟩ := List.mem_map.mp hd
      obtain ⟨h0, h1⟩ := h z hz
      have e : z = 0 ∨ z = 1 ∨ z = 2 := by omega
      rcases e with rfl | rfl | rfl <;> decide +kernel
    rw [List.length_map] at h6
    omega
  have h7 := list_le (ds := [.list (P.map .bool), .list (M.map .bool), .list (L.map .int), .list (A.map .bool), .list (B.map .bool)]) (B := 1002) fun d hd => by
    simp only [List.mem_cons, List.not_mem_nil, or_false] at hd
    rcases hd with rfl | rfl | rfl | rfl | rfl
    · exact bls_le h1
    · exact bls_le h2
    · exact h3'
    · exact bls_le h4
    · exact bls_le h5
  have e : sizeLine = 16777216 := by decide
  rw [e]
  refine Nat.le_trans h7 ?_
  simp only [List.length_cons, List.length_nil]
  omega
theorem ok_law (T : Txt P w K mg base a) : FnG P w K mg base (L2.CX P w) 3 a.f_law a.fd_law ["script"] (sp_law K a) := by
  have G_law_state := ok_law_state T
  have G_law_draw := ok_law_draw T
  have G_law_flags := ok_law_flags T
  have G_choice := ok_choice T
  refine T.F_law.okG sc_law (fun vs H Q E h => A1.len h) (fun cdv A outer s H vs Q E hgd hr h => ?_)
  have hu := hu_of hr
  obtain ⟨v_script, rfl, h⟩ := h
  refine ⟨_, (pss_cons (ps_set (i := 1) sc_law.nd rfl (by first | exact Or.inl rfl | exact Or.inr rfl) (pe_callS G_law_state (hr.mono (by decide)) rfl T.g_law_state T.F_law_state.kp T.b_law_state (fun σ => passAt (takes_of rfl rfl rfl rfl) σ) (pa_cons (pv 0) pa_nil)))
    (pss_cons (ps_set (i := 2) sc_law.nd rfl (by first | exact Or.inl rfl | exact Or.inr rfl) (pe_op op_add pe_int (pe_callS G_law_draw (hr.mono (by decide)) rfl T.g_law_draw T.F_law_draw.kp T.b_law_draw (fun σ => passAt (takes_of rfl rfl rfl rfl) σ) (pa_cons (pv 1) (pa_cons pe_int pa_nil)))))
    (pss_cons (ps_set (i := 3) sc_law.nd rfl (by first | exact Or.inl rfl | exact Or.inr rfl) (pe_op op_mul pe_int (pv 2)))
    (pss_cons (ps_set (i := 4) sc_law.nd rfl (by first | exact Or.inl rfl | exact Or.inr rfl) (pe_callS G_law_flags (hr.mono (by decide)) rfl T.g_law_flags T.F_law_flags.kp T.b_law_flags (fun σ => passAt (takes_of rfl rfl rfl rfl) σ) (pa_cons (pv 1) (pa_cons (pv 3) pa_nil))))
    (pss_cons (ps_set (i := 5) sc_law.nd rfl (by first | exact Or.inl rfl | exact Or.inr rfl) (pe_callS G_law_flags (hr.mono (by decide)) rfl T.g_law_flags T.F_law_flags.kp T.b_law_flags (fun σ => passAt (takes_of rfl rfl rfl rfl) σ) (pa_cons (pv 1) (pa_cons (pv 3) pa_nil))))
    (pss_cons (ps_set (i := 6) sc_law.nd rfl (by first | exact Or.inl rfl | exact Or.inr rfl) (pe_callS G_law_flags (hr.mono (by decide)) rfl T.g_law_flags T.F_law_flags.kp T.b_law_flags (fun σ => passAt (takes_of rfl rfl rfl rfl) σ) (pa_cons (pv 1) (pa_cons (pv 3) pa_nil))))
    (pss_cons (ps_set (i := 7) sc_law.nd rfl (by first | exact Or.inl rfl | exact Or.inr rfl) (pe_lc (own := [("k", 8)]) (g := (gName 8)) (tt := tYes) (te := (tCallS (sp_law_draw K a) (WE (fun _ _ _ _ => False)) (tCons (tVar 1) (tCons (tC (.int 3)) tNil)))) rfl sc_law.nd (pi_range1 rfl T.g_range (pa_cons (pv 3) pa_nil)) (blkOk_by (N := ["script", "state", "devices", "many", "pending", "masked", "able", "left", "k", "jobs_left", "turn", "able_jobs", "kept", "fit", "order", "jobs", "due", "actual"]) (sc := defScope s_law) (own := [("k", 8)]) (by decide +kernel)) (fun _ _ _ _ _ => by exact (pg_name (i := 8) sc_law.nd rfl (by first | exact Or.inl rfl | exact Or.inr rfl))) (fun _ _ _ _ _ => by exact pts_nil) (fun _ _ _ _ _ => by exact (pe_callS G_law_draw (hr.mono (by decide)) rfl T.g_law_draw T.F_law_draw.kp T.b_law_draw (fun σ => passNo) (pa_cons (pv 1) (pa_cons pe_int pa_nil))))))
    (pss_cons (ps_set (i := 9) sc_law.nd rfl (by first | exact Or.inl rfl | exact Or.inr rfl) (pe_callS G_law_draw (hr.mono (by decide)) rfl T.g_law_draw T.F_law_draw.kp T.b_law_draw (fun σ => passAt (takes_of rfl rfl rfl rfl) σ) (pa_cons (pv 1) (pa_cons pe_int pa_nil))))
    (pss_cons (ps_set (i := 10) sc_law.nd rfl (by first | exact Or.inl rfl | exact Or.inr rfl) (pe_callS G_law_draw (hr.mono (by decide)) rfl T.g_law_draw T.F_law_draw.kp T.b_law_draw (fun σ => passAt (takes_of rfl rfl rfl rfl) σ) (pa_cons (pv 1) (pa_cons (pe_op op_mul pe_int (pv 2)) pa_nil))))
    (pss_cons (ps_set (i := 11) sc_law.nd rfl (by first | exact Or.inl rfl | exact Or.inr rfl) (pe_callS G_law_flags (hr.mono (by decide)) rfl T.g_law_flags T.F_law_flags.kp T.b_law_flags (fun σ => passAt (takes_of rfl rfl rfl rfl) σ) (pa_cons (pv 1) (pa_cons (pe_op op_mul pe_int (pv 2)) pa_nil))))
    (pss_cons (ps_set (i := 12) sc_law.nd rfl (by first | exact Or.inl rfl | exact Or.inr rfl) (pe_callB (call_repr hgd hr.units) (by rfl) T.g_repr (by decide +kernel) (pa_cons (pe_lst (pa_cons (pv 4) (pa_cons (pv 5) (pa_cons (pv 7) (pa_cons (pv 6) (pa_cons (pv 11) pa_nil)))))) pa_nil)))
    (pss_cons (ps_setLc (i := 13) (own := [("k", 8)]) (g := (gName 8)) (tt := (tAnd (tB (tOp (rIxL K) (tVar 4) (tVar 8))) (tAnd (tNot (tB (tOp (rIxL K) (tVar 5) (tVar 8)))) (tAnd (tTest (tOp (rI0 fun i j => .bl (decide (j < i))) (tOp (rIxL K) (tVar 7) (tVar 8)) (tC (.int 0)))) (tB (tOp (rIxL K) (tVar 6) (tVar 8))))))) (te := (tVar 8)) rfl sc_law.nd rfl rfl (sw_true rfl rfl rfl (by decide +kernel)) (pi_range1 rfl T.g_range (pa_cons (pv 3) pa_nil)) (blkOk_by (N := ["script", "state", "devices", "many", "pending", "masked", "able", "left", "k", "jobs_left", "turn", "able_jobs", "kept", "fit", "order", "jobs", "due", "actual"]) (sc := defScope s_law) (own := [("k", 8)]) (by decide +kernel)) (fun _ _ _ _ _ => by exact (pg_name (i := 8) sc_law.nd rfl (by first | exact Or.inl rfl | exact Or.inr rfl))) (fun _ _ _ _ _ => by exact (pts_one (PW.pt (pw_and (pt_val (pe_ix ix_list (pv 4) (pv 8) (fun _ _ => rfl))) (pw_and (pt_not (pt_val (pe_ix ix_list (pv 5) (pv 8) (fun _ _ => rfl)))) (pw_and (pt_cmpR op_gt (pe_ix ix_list (pv 7) (pv 8) (fun _ _ => rfl)) pe_int (nomark _)) (pw_and1 (pt_val (pe_ix ix_list (pv 6) (pv 8) (fun _ _ => rfl)))))))))) (fun _ _ _ _ _ => by exact (pv 8)))
    (pss_cons (ps_set (i := 14) sc_law.nd rfl (by first | exact Or.inl rfl | exact Or.inr rfl) (pe_op op_cat (pe_lc (own := [("k", 8)]) (g := (gName 8)) (tt := tYes) (te := (tVar 8)) rfl sc_law.nd (pi_range2 rfl T.g_range (pa_cons (pv 10) (pa_cons (pe_op op_mul pe_int (pv 2)) pa_nil))) (blkOk_by (N := ["script", "state", "devices", "many", "pending", "masked", "able", "left", "k", "jobs_left", "turn", "able_jobs", "kept", "fit", "order", "jobs", "due", "actual"]) (sc := defScope s_law) (own := [("k", 8)]) (by decide +kernel)) (fun _ _ _ _ _ => by exact (pg_name (i := 8) sc_law.nd rfl (by first | exact Or.inl rfl | exact Or.inr rfl))) (fun _ _ _ _ _ => by exact pts_nil) (fun _ _ _ _ _ => by exact (pv 8))) (pe_lc (own := [("k", 8)]) (g := (gName 8)) (tt := tYes) (te := (tVar 8)) rfl sc_law.nd (pi_range1 rfl T.g_range (pa_cons (pv 10) pa_nil)) (blkOk_by (N := ["script", "state", "devices", "many", "pending", "masked", "able", "left", "k", "jobs_left", "turn", "able_jobs", "kept", "fit", "order", "jobs", "due", "actual"]) (sc := defScope s_law) (own := [("k", 8)]) (by decide +kernel)) (fun _ _ _ _ _ => by exact (pg_name (i := 8) sc_law.nd rfl (by first | exact Or.inl rfl | exact Or.inr rfl))) (fun _ _ _ _ _ => by exact pts_nil) (fun _ _ _ _ _ => by exact (pv 8)))))
    (pss_cons (ps_setLc (i := 15) (own := [("k", 8)]) (g := (gName 8)) (tt := (tB (tOp (rIxL K) (tVar 11) (tVar 8)))) (te := (tVar 8)) rfl sc_law.nd rfl rfl (sw_true rfl rfl rfl (by decide +kernel)) (pi_list (pv 14)) (blkOk_by (N := ["script", "state", "devices", "many", "pending", "masked", "able", "left", "k", "jobs_left", "turn", "able_jobs", "kept", "fit", "order", "jobs", "due", "actual"]) (sc := defScope s_law) (own := [("k", 8)]) (by decide +kernel)) (fun _ _ _ _ _ => by exact (pg_name (i := 8) sc_law.nd rfl (by first | exact Or.inl rfl | exact Or.inr rfl))) (fun _ _ _ _ _ => by exact (pts_one (pt_val (pe_ix ix_list (pv 11) (pv 8) (fun _ _ => rfl))))) (fun _ _ _ _ _ => by exact (pv 8)))
    (pss_cons (ps_set (i := 16) sc_law.nd rfl (by first | exact Or.inl rfl | exact Or.inr rfl) (pe_tup (pa_cons pe_str (pa_cons (pe_un un_neg pe_int) pa_nil))))
    (Evl.pss_cut (ps_if (pt_cmpR op_gt (pe_callB call_ln (by rfl) T.g_len (by decide +kernel) (pa_cons (pv 13) pa_nil)) pe_int (nomark _)) (pss_one (ps_set (i := 16) sc_law.nd rfl (by first | exact Or.inl rfl | exact Or.inr rfl) (pe_tup (pa_cons pe_str (pa_cons (pe_callB (cr_min rfl) (by rfl) T.g_min (by decide +kernel) (pa_cons (pv 13) pa_nil)) pa_nil))))) (pss_one (ps_if (pt_up (PW.pt (pw_and (pt_cmpR op_gt (pv 9) pe_int (nomark _)) (pw_and1 (pt_cmpR op_gt (pe_callB call_ln (by rfl) T.g_len (by decide +kernel) (pa_cons (pv 15) pa_nil)) pe_int (nomark _)))))) (pss_one (ps_set (i := 16) sc_law.nd rfl (by first | exact Or.inl rfl | exact Or.inr rfl) (pe_tup (pa_cons pe_str (pa_cons (pe_ix ix_list (pv 15) pe_int (fun _ _ => rfl)) pa_nil))))) pss_nil)))
    (pss_cons (ps_set (i := 17) sc_law.nd rfl (by first | exact Or.inl rfl | exact Or.inr rfl) (pe_callS G_choice (hr.mono (by decide)) rfl T.g_choice T.F_choice.kp T.b_choice (fun σ => passAt (takes_of rfl rfl rfl rfl) σ) (pa_cons (pv 4) (pa_cons (pv 5) (pa_cons (pv 7) (pa_cons (pv 6) (pa_cons (pv 9) (pa_cons (pv 10) (pa_cons (pv 11) pa_nil)))))))))
    (pss_cons (ps_if (pt_up (PW.pt (pw_or (pt_not (pt_val (pe_callB call_isi (by rfl) T.g_isinstance (by decide +kernel) (pa_cons (pv 17) (pa_cons (pe_bltn (v := .ty "tuple") rfl T.g_tuple (by decide +kernel) rfl) pa_nil))))) (pw_or (pt_cmpR (op_neD hr.units) (pv 17) (pv 16) (nomark _)) (pw_or1 (pt_val (pe_callB call_isi (by rfl) T.g_isinstance (by decide +kernel) (pa_cons (pe_ix ix_tup (pv 17) pe_int (fun _ _ => rfl)) (pa_cons (pe_bltn (v := .ty "bool") rfl T.g_bool (by decide +kernel) rfl) pa_nil))))))))) (pss_one (ps_ret pe_bl)) pss_nil)
    (pss_one (ps_ret (pe_cmpR op_eq (pe_callB (call_repr hgd hr.units) (by rfl) T.g_repr (by decide +kernel) (pa_cons (pe_lst (pa_cons (pv 4) (pa_cons (pv 5) (pa_cons (pv 7) (pa_cons (pv 6) (pa_cons (pv 11) pa_nil)))))) pa_nil)) (pv 12) (nomark _)))))))))))))))))))))), ?_⟩
  obtain ⟨b, ns, rfl, hS, hn, k⟩ := h
  have hs : Sl.St [] H := Sl.St.nil
  walk_at "x"
  refine c_state hs hS hn fun st H1 hs _ => ?_
  walk_at "x"
  refine c_draw hs .here (by omega) (by omega) fun r1 H2 ra1 rb1 hs => ?_
  walk_at "x"
  obtain ⟨d, hd⟩ : ∃ d : Nat, (d : Int) = 1 + r1 := ⟨(1 + r1).toNat, by omega⟩
  have hm : (2 : Int) * (1 + r1) = ((2 * d : Nat) : Int) := by omega
  have hm3 : (3 : Int) * (1 + r1) = ((3 * d : Nat) : Int) := by omega
  rw [hm]
  refine Rd.a2 ⟨st, 2 * d, _, _, rfl, rfl, by omega, hs, by walk_at "sel", fun pa P H3 eP hs => ?_⟩
  walk_at "x"
  refine Rd.a2 ⟨st, 2 * d, _, _, rfl, rfl, by omega, hs, by walk_at "sel", fun ma M H4 eM hs => ?_⟩
  walk_at "x"
  refine Rd.a2 ⟨st, 2 * d, _, _, rfl, rfl, by omega, hs, by walk_at "sel", fun ba A H5 eA hs => ?_⟩
  walk_at "x"
  refine k_lcFS (fun i acc => ∃ zs : List Int, acc = zs.map V.int ∧ zs.length = i ∧ ∀ z ∈ zs, 0 ≤ z ∧ z < 3) (fun _ _ => _) hs (by omega) (by omega) ⟨[], rfl, rfl, by simp⟩ (fun D i acc H' hi ha f hs R0 N y _ => ?_) fun la acc H6 ha f hs => ?_
  · obtain ⟨zs, e1, e2, e3⟩ := f
    walk_at "x"
    refine ⟨rfl, lc_yes ?_⟩
    walk_at "x"
    refine c_draw hs (by walk_at "sel") (by omega) (by omega) fun r2 H3 ra2 rb2 hs => ?_
    refine y _ _ ⟨zs ++ [r2], by rw [e1]; simp, by simp [e2], fun z hz => ?_⟩ (hs.perm (by walk_at "selm"))
    rcases List.mem_append.mp hz with hz | hz
    · exact e3 z hz
    · rw [List.mem_singleton.mp hz]; exact ⟨ra2, rb2⟩
  obtain ⟨L, rfl, eL, hL⟩ := f
  rw [Int.toNat_natCast] at eL
  walk_at "x"
  refine c_draw hs (by walk_at "sel") (by omega) (by omega) fun jl H7 ja jb hs => ?_
  walk_at "x"
  rw [hm3]
  refine c_draw hs (by walk_at "sel") (by omega) (by omega) fun t0 H8 ta tb hs => ?_
  obtain ⟨t, ht⟩ : ∃ t : Nat, (t : Int) = t0 := ⟨t0.toNat, by omega⟩
  subst ht
  walk_at "x"
  rw [hm3]
  refine Rd.a2 ⟨st, 3 * d, _, _, rfl, rfl, by omega, hs, by walk_at "sel", fun ka B H9 eB hs => ?_⟩
  walk_at "x"
  refine ⟨_, fiveD P M A B L, rfl, .lst (Or.inl (Or.inl (by walk_at "hg"))) (.cons (.lst (Or.inl (Or.inl (by walk_at "hg"))) (L2.dp_bls P)) (.cons (.lst (Or.inl (Or.inl (by walk_at "hg"))) (L2.dp_bls M)) (.cons (.lst (Or.inl (Or.inl (by walk_at "hg"))) (L2.dp_ints L)) (.cons (.lst (Or.inl (Or.inl (by walk_at "hg"))) (L2.dp_bls A)) (.cons (.lst (Or.inl (Or.inl (by walk_at "hg"))) (L2.dp_bls B)) .nil))))),
    five_hd, five_sh hL, five_dp, five_le hL (by omega) (by omega) (by omega) (by omega) (by omega), ?_⟩
  walk_at "x"
  walk_at "nm"
  refine k_lcFS (fun i acc => acc = ((List.range i).filter (fitB P M A L)).map nv) (fun _ _ => _) hs (by omega) (by omega) rfl (fun D i acc H' hi ha f hs R0 N y nn => ?_) fun fa acc H10 ha f hs => ?_
  · have yes : fitB P M A L i = true → acc ++ [V.int (i : Int)] = ((List.range (i + 1)).filter (fitB P M A L)).map nv := fun h => by rw [f, List.range_succ, List.filter_append, List.filter_cons, if_pos h]; simp
    have no : fitB P M A L i = false → acc = ((List.range (i + 1)).filter (fitB P M A L)).map nv := fun h => by rw [f, List.range_succ, List.filter_append, List.filter_cons, if_neg (by rw [h]; exact Bool.false_ne_true)]; simp
    walk_at "x"
    refine ⟨rfl, ?_⟩
    walk_at "x"
    refine o_ixL (Or.inl (Or.inl (by walk_at "hg"))) (at_bl (by omega)) ?_
    walk_at "x"
    refine if_b (fun c1 => ?_) (fun c1 => ?_)
    · walk_at "x"
      refine o_ixL (Or.inl (Or.inl (by walk_at "hg"))) (at_bl (by omega)) ?_
      walk_at "x"
      refine if_b (fun c2 => ?_) (fun c2 => ?_)
      · walk_at "x"
        refine o_ixL (Or.inl (Or.inl (by walk_at "hg"))) (at_in (by omega)) ?_
        walk_at "x"
        refine if_d (fun c4 => ?_) (fun c4 => ?_)
        · walk_at "x"
          refine o_ixL (Or.inl (Or.inl (by walk_at "hg"))) (at_bl (by omega)) ?_
          walk_at "x"
          refine if_b (fun c3 => ?_) (fun c3 => ?_)
          · walk_at "x"
            exact y _ _ (yes (by simp [fitB, c1, c2, c3, c4])) (hs.perm (by walk_at "selm"))
          · exact nn _ (no (by simp [fitB, c3])) hs
        · refine iteF ?_
          exact nn _ (no (by simp [fitB, c4])) hs
      · refine iteF ?_
        exact nn _ (no (by simp [fitB, c2])) hs
    · refine iteF ?_
      exact nn _ (no (by simp [fitB, c1])) hs
  subst f
  rw [Int.toNat_natCast] at hs
  walk_at "x"
  walk_at "nm"
  refine Sl.e_lcR2 ?_
  walk_at "x"
  rw [hm3]
  refine Sl.k_lcF2S (fun i acc => acc = (List.range i).map fun j => nv (t + j)) (fun _ _ => _) hs (by omega) (by omega) (by omega) rfl (fun D i acc H' hi ha f hs R0 N y nn => ?_) fun oa acc H11 ha f hs => ?_
  · walk_at "x"
    refine ⟨rfl, lc_yes ?_⟩
    walk_at "x"
    refine y _ _ ?_ (hs.perm (by walk_at "selm"))
    show _ = (List.range (i + 1)).map fun j => nv (t + j)
    rw [f, List.range_succ, List.map_append]; simp
  subst f
  rw [show (((3 * d : Nat) : Int) - (t : Int)).toNat = 3 * d - t by omega] at hs
  walk_at "x"
  refine k_lcFS (fun i acc => acc = (List.range i).map nv) (fun _ _ => _) hs (by omega) (by omega) rfl (fun D i acc H' hi ha f hs R0 N y nn => ?_) fun ob acc H12 ha f hs => ?_
  · walk_at "x"
    refine ⟨rfl, lc_yes ?_⟩
    walk_at "x"
    refine y _ _ ?_ (hs.perm (by walk_at "selm"))
    show _ = (List.range (i + 1)).map nv
    rw [f, List.range_succ, List.map_append]; rfl
  subst f
  rw [Int.toNat_natCast] at hs
  walk_at "x"
  refine o_catS hs (by walk_at "hg") (by walk_at "hg") (by simp; omega) fun oc H13 hs => ?_
  rw [ordL_map] at hs
  walk_at "x"
  walk_at "nm"
  have htd : t < 3 * d := by omega
  have hol := ordL_len htd
  refine k_lcLS (fun i acc => acc = (((ordL t (3 * d)).take i).filter fun j => B[j]?.getD false).map nv) (fun _ _ => _) hs (Or.inl (Or.inl (hs.get .here))) (by rw [List.length_map]; omega) rfl (fun i E acc H' _ h => Or.inl (Or.inl (h.get (.there .here)))) (fun D i x acc H' hx ha f hs R0 N y nn => ?_) fun ja' acc H14 ha f hs => ?_
  · rw [List.getElem?_map] at hx
    obtain ⟨j, hj, rfl⟩ := Option.map_eq_some_iff.mp hx
    have hjl := ordL_lt htd (List.mem_of_getElem? hj)
    have ex := Rd.take_snoc hj
    walk_at "x"
    refine ⟨rfl, ?_⟩
    walk_at "x"
    refine o_ixL (Or.inl (Or.inl (by walk_at "hg"))) (at_bl (by omega)) ?_
    walk_at "x"
    refine if_b (fun c1 => ?_) (fun c1 => ?_)
    · walk_at "x"
      refine y _ _ ?_ (hs.perm (by walk_at "selm"))
      show _ = (((ordL t (3 * d)).take (i + 1)).filter fun j => B[j]?.getD false).map nv
      rw [f, ex, List.filter_append, List.filter_cons, if_pos c1, List.map_append]
      rfl
    · refine nn _ ?_ hs
      show _ = (((ordL t (3 * d)).take (i + 1)).filter fun j => B[j]?.getD false).map nv
      rw [f, ex, List.filter_append, List.filter_cons, if_neg (by rw [c1]; exact Bool.false_ne_true), List.filter_nil, List.append_nil]
  subst f
  rw [List.length_map, List.take_length] at hs
  walk_at "x"
  walk_at "nm"
  have hP : fitF P M A L = ((List.range (2 * d)).filter (fitB P M A L)).head? := by rw [List.head?_filter]; unfold fitF; rw [eP]
  have hB : jobF t B = ((ordL t (3 * d)).filter fun j => B[j]?.getD false).head? := by rw [List.head?_filter, ordL_eq htd]; unfold jobF; rw [eB]
  refine s_cut (fun σ H' => ∃ du, σ = [some (V.ref b), some (V.ref st), some (V.int (1 + r1)), some (V.int ((2 * d : Nat) : Int)), some (V.ref pa), some (V.ref ma), some (V.ref ba), some (V.ref la), none, some (V.int jl), some (V.int t), some (V.ref ka), some (V.str (fiveD P M A B L).shown), some (V.ref fa), some (V.ref oc), some (V.ref ja'), some (V.ref du), none] ∧
    Sl.St [tcell du (dueV P M A L jl t B), cell ka (.lst (B.map V.bl)), cell la (.lst (L.map V.int)), cell ba (.lst (A.map V.bl)), cell ma (.lst (M.map V.bl)), cell pa (.lst (P.map V.bl))] H') ?_ ?_
  · cases hfs : (List.range (2 * d)).filter (fitB P M A L) with
    | cons i r =>
      have hp : (i :: r).Pairwise (· < ·) := by rw [← hfs]; exact List.Pairwise.filter _ List.pairwise_lt_range
      rw [hfs] at hs hP
      have hd2 : dueV P M A L jl t B = [.str "line", .int (i : Int)] := by unfold dueV; rw [hP]; rfl
      have em : (i :: r).map nv = ((i :: r).map fun n : Nat => (n : Int)).map V.int := by simp
      rw [em] at hs
      walk_at "x"
      refine if_dT (by simp only [List.length_map, List.length_cons]; omega) ?_
      walk_at "x"
      refine c_min (m := (i : Int)) (Or.inl (Or.inl (by walk_at "hg"))) (by simp) (fun y hy => ?_) ?_
      · obtain ⟨n, hn, rfl⟩ := List.mem_map.mp hy
        rcases List.mem_cons.mp hn with rfl | hn
        · exact Int.le_refl _
        · have := (List.pairwise_cons.mp hp).1 n hn
          omega
      walk_at "x"
      refine ⟨_, rfl, ?_⟩
      rw [hd2]
      exact hs.perm (by walk_at "selm")
    | nil =>
      rw [hfs] at hs hP
      walk_at "x"
      refine if_dF (by simp) ?_
      walk_at "x"
      refine t_up0 ?_
      walk_at "x"
      refine if_d (fun c => ?_) (fun c => ?_)
      · cases hjs : (ordL t (3 * d)).filter fun j => B[j]?.getD false with
        | cons j r =>
          rw [hjs] at hs hB
          have hd2 : dueV P M A L jl t B = [.str "job", .int (j : Int)] := by unfold dueV; rw [hP, hB]; exact if_pos c
          rw [List.map_cons] at hs
          walk_at "x"
          refine if_dT (by simp only [List.length_map, List.length_cons]; omega) ?_
          walk_at "x"
          refine ⟨_, rfl, ?_⟩
          rw [hd2]
          exact hs.perm (by walk_at "selm")
        | nil =>
          rw [hjs] at hs hB
          have hd2 : dueV P M A L jl t B = [.str "idle", .int (-1)] := by unfold dueV; rw [hP, hB]; exact if_pos c
          walk_at "x"
          refine if_dF (by simp) ?_
          walk_at "x"
          refine ⟨_, rfl, ?_⟩
          rw [hd2]
          exact hs.perm (by walk_at "selm")
      · have hd2 : dueV P M A L jl t B = [.str "idle", .int (-1)] := by unfold dueV; rw [hP]; exact if_neg c
        walk_at "x"
        refine iteF ?_
        walk_at "x"
        refine ⟨_, rfl, ?_⟩
        rw [hd2]
        exact hs.perm (by walk_at "selm")
  · rintro σ H15 ⟨du, rfl, hs⟩
    walk_at "x"
    refine Rd.a7 ⟨pa, ma, la, ba, ka, P, M, A, B, L, jl, t, _, rfl, rfl, rfl, rfl, rfl, rfl, rfl, by walk_at "hg", by walk_at "hg", by walk_at "hg", by walk_at "hg", by walk_at "hg", by omega, by omega, by omega, by omega, by omega, by omega, hs, fun ac H16 hs => ?_⟩
    obtain ⟨ds, dz, es, ez⟩ : ∃ s z, LD 3 (.str s) ∧ dueV P M A L jl t B = [.str s, .int z] := by
      unfold dueV
      split
      · exact ⟨_, _, LD.str (by decide +kernel), rfl⟩
      · split
        · split <;> exact ⟨_, _, LD.str (by decide +kernel), rfl⟩
        · exact ⟨_, _, LD.str (by decide +kernel), rfl⟩
    have esh : LD 4 (.tuple [.str ds, .int dz]) := LD.tup fun d hd => by
      simp only [List.mem_cons, List.not_mem_nil, or_false] at hd
      rcases hd with rfl | rfl
      · exact es
      · exact LD.int dz
    rw [ez] at hs
    walk_at "x"
    refine t_up0 ?_
    walk_at "x"
    refine if_b (fun c => absurd c (by decide)) (fun _ => ?_)
    walk_at "x"
    refine o_neD (d := .tuple [.str ds, .int dz]) (.tup (by walk_at "sg") (.cons (.str ds) (.cons (.int dz) .nil))) (.tup (by walk_at "sg") (.cons (.str ds) (.cons (.int dz) .nil))) esh.sh ?_
    walk_at "x"
    refine iteF ?_
    walk_at "x"
    refine iteF ?_
    walk_at "x"
    refine ⟨_, fiveD P M A B L, rfl, .lst (Or.inl (Or.inl (by walk_at "hg"))) (.cons (.lst (Or.inl (Or.inl (by walk_at "hg"))) (L2.dp_bls P)) (.cons (.lst (Or.inl (Or.inl (by walk_at "hg"))) (L2.dp_bls M)) (.cons (.lst (Or.inl (Or.inl (by walk_at "hg"))) (L2.dp_ints L)) (.cons (.lst (Or.inl (Or.inl (by walk_at "hg"))) (L2.dp_bls A)) (.cons (.lst (Or.inl (Or.inl (by walk_at "hg"))) (L2.dp_bls B)) .nil))))),
      five_hd, five_sh hL, five_dp, five_le hL (by omega) (by omega) (by omega) (by omega) (by omega), ?_⟩
    walk_at "x"
    simpa using k _
end
end My
set_option Elab.async false
set_option maxRecDepth 100000
set_option maxHeartbeats 100000000
set_option linter.all false
namespace My
open PySem L2 Sx Rd Sl
local macro_rules | `(tactic| walk_at "ne") => `(tactic| (first | with_reducible assumption | with_reducible exact Ne.symm (by with_reducible assumption)))
local macro_rules | `(tactic| walk_at "nin") => `(tactic| (simp only [List.mem_cons, List.not_mem_nil, or_false, not_or, not_false_eq_true]; (repeat' refine And.intro ?_ ?_); (all_goals walk_at "ne")))
local macro_rules | `(tactic| walk_at "hl") => `(tactic| (first | (with_reducible assumption) | exact upd_same | ((with_reducible refine' (upd_ne ?hne).trans ?hgo); (case hne => walk_at "ne"); (case hgo => walk_at "hl"))))
local macro_rules | `(tactic| walk_at "sq") => `(tactic| (first | (with_reducible assumption) | exact Or.inl (Or.inl (by walk_at "hl"))))
local macro_rules | `(tactic| walk_at "ar") => `(tactic| (first | omega | exact ⟨by omega, by omega⟩ | exact Or.inl ⟨by omega, by omega⟩ | exact Or.inr ⟨by omega, by omega⟩ | (show (0 : Int) < _; omega) | (show (0 : Int) < _ ∧ _ < (1073741824 : Int); omega)))
local macro_rules | `(tactic| walk_at "cls") => `(tactic| (first | fail))
local macro_rules | `(tactic| walk_at "noa") => `(tactic| (first | fail))
local macro_rules | `(tactic| walk_at "lkp") => `(tactic| (first | fail))
local macro_rules | `(tactic| walk_at "ptf") => `(tactic| (first | exact rfl))
local macro_rules | `(tactic| walk_at "lnF") => `(tactic| (first | (refine PL.lt (n := 60) ?_ (by decide); (repeat refine PL.put ?_); exact PL.nil) | decide))
local macro_rules | `(tactic| walk_at "nol") => `(tactic| (first | fail))
local macro_rules | `(tactic| walk_at "r1") => `(tactic| (first
  | with_reducible apply l_cons | ((with_reducible apply e_var); (case h => exact rfl)) | with_reducible apply l_nil | with_reducible apply s_seq | with_reducible apply e_c | with_reducible apply g_name
  | with_reducible apply s_asg | with_reducible apply e_call | with_reducible apply k_t | with_reducible apply e_op | with_reducible apply e_cb | with_reducible apply t_test
  | with_reducible apply s_if | with_reducible apply t_or | with_reducible apply t_and | with_reducible apply t_B | with_reducible apply s_next | with_reducible apply p_some
  | with_reducible apply p_no | with_reducible apply e_sl | with_reducible apply k_i | with_reducible apply e_lst | with_reducible apply t_not | with_reducible apply o_chC | ((with_reducible refine' o_chV ?hv ?_); (case hv => exact rfl)) | with_reducible apply o_I0
  | ((with_reducible refine' o_I ?hc ?_); (case hc => walk_at "ar")) | with_reducible apply e_meth | ((with_reducible refine' k_meth ?h1 ?h2 ?_); (case h1 => walk_at "hl"); (case h2 => walk_at "nol")) | with_reducible apply e_fld | ((with_reducible refine' k_fld ?h1 ?h2 ?h3 ?h4 ?_); (case h1 => walk_at "hl"); (case h2 => walk_at "cls"); (case h3 => walk_at "noa"); (case h4 => walk_at "lkp")) | with_reducible apply e_not
  | with_reducible apply s_ret | ((with_reducible refine' k_ty ?h1 ?_); (case h1 => walk_at "sq")) | with_reducible apply s_drop | with_reducible apply s_retN | with_reducible apply s_cont | with_reducible apply s_break
  | with_reducible apply e_un | with_reducible apply o_U | ((with_reducible refine' o_eq ?hs ?_); (case hs => exact rfl)) | ((with_reducible refine' o_ne ?hs ?_); (case hs => exact rfl))
  | ((with_reducible refine' o_ixL ?h1 ?h2 ?_); (case h1 => walk_at "sq"); (case h2 => first | exact rfl | exact atI_zero _ _)) | with_reducible apply s_fld | with_reducible apply e_make | ((with_reducible refine' k_set ?h1 ?h2 ?h3 ?h4 ?h5 ?_); (case h1 => walk_at "hl"); (case h2 => walk_at "cls"); (case h3 => walk_at "noa"); (case h4 => walk_at "ptf"); (case h5 => walk_at "lnF")) | with_reducible apply e_tup | with_reducible apply e_bm
  | with_reducible apply e_bm0 | with_reducible apply e_if | with_reducible apply e_chain | with_reducible apply s_raise | with_reducible apply g_sub | ((with_reducible refine' c_ln ?h1 ?_); (case h1 => walk_at "sq"))
  | ((with_reducible refine' c_pop0 ?h1 ?h2 ?_); (case h1 => walk_at "hl"); (case h2 => omega)) | with_reducible apply c_isBool | with_reducible apply c_isInt | with_reducible apply c_isBoolN | with_reducible apply c_isTupI | with_reducible apply c_isNonB
  | with_reducible apply c_isNonT | ((with_reducible refine' c_isList ?h1 ?_); (case h1 => walk_at "hl")) | ((with_reducible refine' c_isTup ?h1 ?_); (case h1 => walk_at "hl")) | ((with_reducible refine' c_isTupB ?h1 ?_); (case h1 => walk_at "hl")) | with_reducible apply o_isB | with_reducible apply o_notB
  | with_reducible apply e_and | with_reducible apply e_or | with_reducible apply k_bl | with_reducible apply e_xf | with_reducible apply s_augS | ((with_reducible refine' s_augV ?hv ?_); (case hv => exact rfl))
  | with_reducible apply ip_I | with_reducible apply e_lcE | ((with_reducible refine' k_xf ?h1 ?h2 ?_); (case h1 => walk_at "hl"); (case h2 => exact look_hit _ _ _)) | ((with_reducible refine' o_slL ?h1 ?_); (case h1 => walk_at "sq")) | ((with_reducible refine' k_dget ?h1 ?h2 ?_); (case h1 => walk_at "hl"); (case h2 => with_reducible assumption)) | with_reducible apply e_dget
  | with_reducible apply s_dput | with_reducible apply e_makeK | with_reducible apply g_cons | with_reducible apply g_nil | with_reducible apply c_ab | with_reducible apply c_in
  | with_reducible apply c_mx | with_reducible apply c_mn | with_reducible apply a1 | with_reducible apply a2 | with_reducible apply a3 | with_reducible apply a4
  | with_reducible apply a5 | with_reducible apply a6 | with_reducible apply a0 | with_reducible apply t_tru | with_reducible apply t_yes | ((with_reducible refine' k_truL ?h1 ?_); (case h1 => walk_at "sq")) | with_reducible refine d_nx ?_ | with_reducible refine d_rt ?_ | with_reducible refine d_bk ?_
  | with_reducible refine d_ct ?_))
local macro_rules | `(tactic| walk_at "r") => `(tactic| (repeat walk_at "r1"))
local macro_rules | `(tactic| walk_at "sel") => `(tactic| (first | with_reducible exact Sl.Sel.here | ((with_reducible refine' Sl.Sel.there ?t); (case t => walk_at "sel"))))
local macro_rules | `(tactic| walk_at "selt") => `(tactic| (first | with_reducible exact Sl.Sels.all _ | ((with_reducible refine' Sl.Sels.skip ?t); (case t => walk_at "selt"))))
local macro_rules | `(tactic| walk_at "sels") => `(tactic| (first | with_reducible exact Sl.Sels.nil | ((with_reducible refine' Sl.Sels.cons ?a ?b); (case a => walk_at "sel"); (case b => walk_at "sels")) | walk_at "selt"))
local macro_rules | `(tactic| walk_at "selm") => `(tactic| ((try (simp only [])); (try simp only [List.map_append, List.map_cons, List.map_nil]); walk_at "sels"))
local macro_rules | `(tactic| walk_at "hg") => do
  let h := Lean.mkIdent `hs
  `(tactic| (first | (with_reducible assumption) | ((with_reducible refine' Sl.St.get $h ?s); (case s => walk_at "sel")) | ((with_reducible refine' Sl.St.geti $h ?s); (case s => walk_at "sel"))))
local macro_rules | `(tactic| walk_at "sg") => do
  let h := Lean.mkIdent `hs
  `(tactic| (first | (with_reducible assumption) | exact Or.inl (Or.inl (by walk_at "hg")) | (refine' Sl.sqA.U $h ?s; (case s => walk_at "sel"))))
local macro_rules | `(tactic| walk_at "le5") => `(tactic| (first | omega | (simp only [List.length_cons, List.length_nil, List.length_append, List.length_map]; omega) | (show _ ≤ _; decide) | (show _ < _; decide)))
local macro_rules | `(tactic| walk_at "km") => `(tactic| fail)
local macro_rules | `(tactic| walk_at "kf") => `(tactic| fail)
local macro_rules | `(tactic| walk_at "x1") => do
  let h := Lean.mkIdent `hs
  `(tactic| (first
  | with_reducible apply l_cons | ((with_reducible apply e_var); (case h => exact rfl)) | with_reducible apply l_nil | with_reducible apply s_seq | with_reducible apply e_c | with_reducible apply g_name
  | with_reducible apply s_asg | with_reducible apply e_call | with_reducible apply k_t | with_reducible apply e_op | with_reducible apply e_cb | with_reducible apply t_test
  | with_reducible apply s_if | with_reducible apply t_or | with_reducible apply t_and | with_reducible apply t_B | with_reducible apply s_next | with_reducible apply p_some
  | with_reducible apply p_no | with_reducible apply e_sl | with_reducible apply k_i | with_reducible apply Sl.e_lstS | with_reducible apply t_not | with_reducible apply o_chC | ((with_reducible refine' o_chV ?hv ?_); (case hv => exact rfl)) | with_reducible apply o_I0
  | ((with_reducible refine' o_I ?hc ?_); (case hc => walk_at "ar")) | with_reducible apply e_meth | ((with_reducible refine' k_meth ?h1 ?h2 ?_); (case h1 => walk_at "hg"); (case h2 => walk_at "nol")) | walk_at "km" | with_reducible apply e_fld
  | ((with_reducible refine' k_fld ?h1 ?h2 ?h3 ?h4 ?_); (case h1 => walk_at "hg"); (case h2 => walk_at "cls"); (case h3 => walk_at "noa"); (case h4 => walk_at "lkp")) | walk_at "kf" | with_reducible apply e_not
  | with_reducible apply s_ret | ((with_reducible refine' k_ty ?h1 ?_); (case h1 => walk_at "sg")) | with_reducible apply s_drop | with_reducible apply s_retN | with_reducible apply s_cont | with_reducible apply s_break
  | with_reducible apply e_un | with_reducible apply o_U | ((with_reducible refine' o_eq ?hs ?_); (case hs => exact rfl)) | ((with_reducible refine' o_ne ?hs ?_); (case hs => exact rfl))
  | ((with_reducible refine' o_ixL ?h1 ?h2 ?_); (case h1 => walk_at "sg"); (case h2 => first | exact rfl | exact atI_zero _ _)) | ((with_reducible refine' o_ixT ?h1 ?h2 ?_); (case h1 => walk_at "sg"); (case h2 => first | exact rfl | exact atI_zero _ _)) | with_reducible apply s_fld | with_reducible apply Sl.e_makeS
  | ((with_reducible refine' Sl.k_setS $h ?h1 ?h2 ?h3 ?h4 ?h5 ?_); (case h1 => walk_at "sel"); (case h2 => walk_at "cls"); (case h3 => walk_at "noa"); (case h4 => walk_at "ptf"); (case h5 => walk_at "lnF"); (clear $h; intro _ $h)) | with_reducible apply Sl.e_tupS | with_reducible apply e_bm
  | with_reducible apply e_bm0 | with_reducible apply e_if | with_reducible apply e_chain | with_reducible apply s_raise | with_reducible apply g_sub | ((with_reducible refine' c_ln ?h1 ?_); (case h1 => walk_at "sg")) | ((with_reducible refine' c_lnT ?h1 ?_); (case h1 => walk_at "sg"))
  | ((with_reducible refine' Sl.k_newL $h ?h1 ?_); (case h1 => walk_at "le5"); (clear $h; intro _ _ $h)) | ((with_reducible refine' Sl.k_newT $h ?h1 ?_); (case h1 => walk_at "le5"); (clear $h; intro _ _ $h)) | ((with_reducible refine' Sl.k_make $h ?_); (clear $h; intro _ _ _ $h))
  | ((with_reducible refine' Sl.c_appS $h ?h1 ?h2 ?_); (case h1 => walk_at "sel"); (case h2 => walk_at "le5"); (clear $h; intro _ $h)) | ((with_reducible refine' Sl.c_pop0S $h ?h1 ?h2 ?_); (case h1 => walk_at "sel"); (case h2 => walk_at "le5"); (clear $h; intro _ $h))
  | ((with_reducible refine' Sl.c_lsS $h ?h1 ?_); (case h1 => walk_at "sg"); (clear $h; intro _ _ $h)) | ((with_reducible refine' Sl.o_slLS $h ?h1 ?_); (case h1 => walk_at "sg"); (clear $h; intro _ _ $h)) | ((with_reducible refine' Sl.c_clrS $h ?h1 ?_); (case h1 => walk_at "sel"); (clear $h; intro _ $h))
  | ((with_reducible refine' Sl.o_catS $h ?h1 ?h2 ?h3 ?_); (case h1 => walk_at "hg"); (case h2 => walk_at "hg"); (case h3 => walk_at "le5"); (clear $h; intro _ _ $h)) | ((with_reducible refine' Sl.c_extS $h ?h1 ?h2 ?h3 ?_); (case h1 => walk_at "sel"); (case h2 => walk_at "hg"); (case h3 => walk_at "le5"); (clear $h; intro _ $h))
  | ((with_reducible refine' Sl.k_raise $h ?h1 ?_); (case h1 => exact okV_int ⟨by omega, by omega⟩); (clear $h; intro _ _ $h))
  | with_reducible apply c_isBool | with_reducible apply c_isInt | with_reducible apply c_isBoolN | with_reducible apply c_isTupI | with_reducible apply c_isNonB
  | with_reducible apply c_isNonT | ((with_reducible refine' c_isList ?h1 ?_); (case h1 => walk_at "hg")) | ((with_reducible refine' c_isTup ?h1 ?_); (case h1 => walk_at "hg")) | ((with_reducible refine' c_isTupB ?h1 ?_); (case h1 => walk_at "hg")) | with_reducible apply o_isB | with_reducible apply o_notB
  | with_reducible apply e_and | with_reducible apply e_or | with_reducible apply k_bl | with_reducible apply e_xf | with_reducible apply s_augS | ((with_reducible refine' s_augV ?hv ?_); (case hv => exact rfl)) | with_reducible apply Sl.s_aug
  | with_reducible apply ip_I | with_reducible apply e_lcE | with_reducible apply e_lcL | with_reducible apply f_lst | with_reducible apply e_lcF | with_reducible apply f_rng1 | ((with_reducible refine' k_xf ?h1 ?h2 ?_); (case h1 => walk_at "hg"); (case h2 => exact look_hit _ _ _)) | ((with_reducible refine' k_dget ?h1 ?h2 ?_); (case h1 => walk_at "hg"); (case h2 => with_reducible assumption)) | with_reducible apply e_dget
  | with_reducible apply s_dput | with_reducible apply Sl.e_makeKS | with_reducible apply g_cons | with_reducible apply g_nil | ((with_reducible refine' g_tup ?h1 ?h2 ?_); (case h1 => walk_at "sg"); (case h2 => exact rfl)) | with_reducible apply c_ab | with_reducible apply c_in
  | with_reducible apply c_mx | with_reducible apply c_mn | with_reducible apply a1 | with_reducible apply a2 | with_reducible apply a3 | with_reducible apply a4
  | with_reducible apply a5 | with_reducible apply a6 | with_reducible apply a0 | with_reducible apply t_tru | with_reducible apply t_yes | ((with_reducible refine' k_truL ?h1 ?_); (case h1 => walk_at "sg")) | with_reducible refine d_nx ?_ | with_reducible refine d_rt ?_ | with_reducible refine d_bk ?_
  | with_reducible refine d_ct ?_))
local macro_rules | `(tactic| walk_at "x") => `(tactic| (repeat walk_at "x1"))
local macro_rules | `(tactic| walk_at "nm") => `(tactic| (simp only [L2.start, List.length_cons, List.length_nil, List.map_cons, List.map_nil, List.set_cons_succ, List.set_cons_zero, List.replicate_succ, List.replicate_zero, List.cons_append, List.nil_append, Nat.add_sub_cancel]))
section
variable {P : Program} {w : World} {K : PySem.W.Frag} {mg : Str → Option Value} {base : Heap} {a : Ads}
end
/-- the top's facts -/
theorem all_mk {l : PySem.W.OpenLaw} {w : World} {K : PySem.W.Frag} {h : Heap} {mg : Str → Option Value} {fa : Addr} (hl : l.prog = PySem.Challenge.pw_tickrings_k07_choice_of_work) (X : K.In h) (G : h.Ns mainGlobals mg) (hfa : mg "law" = some (.ref fa))
     {f_chosen_line f_chosen_job f_choice f_law_state f_law_draw f_law_flags f_law : Addr}
    {oc_chosen_line : Value} {dc_chosen_line : Value} {pm_chosen_line : Value} {cd_chosen_line : Value} {ct_chosen_line : Value} {kV_chosen_line : Value} {od_chosen_line : Option Addr} {an_chosen_line : Option Addr} {sl_chosen_line : Array (Option Value)} {oc_chosen_job : Value} {dc_chosen_job : Value} {pm_chosen_job : Value} {cd_chosen_job : Value} {ct_chosen_job : Value} {kV_chosen_job : Value} {od_chosen_job : Option Addr} {an_chosen_job : Option Addr} {sl_chosen_job : Array (Option Value)} {oc_choice : Value} {dc_choice : Value} {pm_choice : Value} {cd_choice : Value} {ct_choice : Value} {kV_choice : Value} {od_choice : Option Addr} {an_choice : Option Addr} {sl_choice : Array (Option Value)} {oc_law_state : Value} {dc_law_state : Value} {pm_law_state : Value} {cd_law_state : Value} {ct_law_state : Value} {kV_law_state : Value} {od_law_state : Option Addr} {an_law_state : Option Addr} {sl_law_state : Array (Option Value)} {oc_law_draw : Value} {dc_law_draw : Value} {pm_law_draw : Value} {cd_law_draw : Value} {ct_law_draw : Value} {kV_law_draw : Value} {od_law_draw : Option Addr} {an_law_draw : Option Addr} {sl_law_draw : Array (Option Value)} {oc_law_flags : Value} {dc_law_flags : Value} {pm_law_flags : Value} {cd_law_flags : Value} {ct_law_flags : Value} {kV_law_flags : Value} {od_law_flags : Option Addr} {an_law_flags : Option Addr} {sl_law_flags : Array (Option Value)} {oc_law : Value} {dc_law : Value} {pm_law : Value} {cd_law : Value} {ct_law : Value} {kV_law : Value} {od_law : Option Addr} {an_law : Option Addr} {sl_law : Array (Option Value)}
    (a_chosen_line : PySem.W.nsIn K mainGlobals "_chosen_line" = some (some (.ref f_chosen_line)))
    (l_chosen_line : K.lookup f_chosen_line = some ⟨oc_chosen_line, od_chosen_line, .func (PySem.W.fnOf "_chosen_line" "_chosen_line" (defArgs s_chosen_line) (defBody s_chosen_line) (defScope s_chosen_line) .none kV_chosen_line dc_chosen_line pm_chosen_line an_chosen_line cd_chosen_line ct_chosen_line), sl_chosen_line⟩)
    (c_chosen_line : PySem.W.codeIn K cd_chosen_line "_chosen_line" = true)
    (k_chosen_line : PySem.W.keepIn K (.ref f_chosen_line) = true)
    (a_chosen_job : PySem.W.nsIn K mainGlobals "_chosen_job" = some (some (.ref f_chosen_job)))
    (l_chosen_job : K.lookup f_chosen_job = some ⟨oc_chosen_job, od_chosen_job, .func (PySem.W.fnOf "_chosen_job" "_chosen_job" (defArgs s_chosen_job) (defBody s_chosen_job) (defScope s_chosen_job) .none kV_chosen_job dc_chosen_job pm_chosen_job an_chosen_job cd_chosen_job ct_chosen_job), sl_chosen_job⟩)
    (c_chosen_job : PySem.W.codeIn K cd_chosen_job "_chosen_job" = true)
    (k_chosen_job : PySem.W.keepIn K (.ref f_chosen_job) = true)
    (a_choice : PySem.W.nsIn K mainGlobals "choice" = some (some (.ref f_choice)))
    (l_choice : K.lookup f_choice = some ⟨oc_choice, od_choice, .func (PySem.W.fnOf "choice" "choice" (defArgs s_choice) (defBody s_choice) (defScope s_choice) .none kV_choice dc_choice pm_choice an_choice cd_choice ct_choice), sl_choice⟩)
    (c_choice : PySem.W.codeIn K cd_choice "choice" = true)
    (k_choice : PySem.W.keepIn K (.ref f_choice) = true)
    (a_law_state : PySem.W.nsIn K mainGlobals "_law_state" = some (some (.ref f_law_state)))
    (l_law_state : K.lookup f_law_state = some ⟨oc_law_state, od_law_state, .func (PySem.W.fnOf "_law_state" "_law_state" (defArgs s_law_state) (defBody s_law_state) (defScope s_law_state) .none kV_law_state dc_law_state pm_law_state an_law_state cd_law_state ct_law_state), sl_law_state⟩)
    (c_law_state : PySem.W.codeIn K cd_law_state "_law_state" = true)
    (k_law_state : PySem.W.keepIn K (.ref f_law_state) = true)
    (a_law_draw : PySem.W.nsIn K mainGlobals "_law_draw" = some (some (.ref f_law_draw)))
    (l_law_draw : K.lookup f_law_draw = some ⟨oc_law_draw, od_law_draw, .func (PySem.W.fnOf "_law_draw" "_law_draw" (defArgs s_law_draw) (defBody s_law_draw) (defScope s_law_draw) .none kV_law_draw dc_law_draw pm_law_draw an_law_draw cd_law_draw ct_law_draw), sl_law_draw⟩)
    (c_law_draw : PySem.W.codeIn K cd_law_draw "_law_draw" = true)
    (k_law_draw : PySem.W.keepIn K (.ref f_law_draw) = true)
    (a_law_flags : PySem.W.nsIn K mainGlobals "_law_flags" = some (some (.ref f_law_flags)))
    (l_law_flags : K.lookup f_law_flags = some ⟨oc_law_flags, od_law_flags, .func (PySem.W.fnOf "_law_flags" "_law_flags" (defArgs s_law_flags) (defBody s_law_flags) (defScope s_law_flags) .none kV_law_flags dc_law_flags pm_law_flags an_law_flags cd_law_flags ct_law_flags), sl_law_flags⟩)
    (c_law_flags : PySem.W.codeIn K cd_law_flags "_law_flags" = true)
    (k_law_flags : PySem.W.keepIn K (.ref f_law_flags) = true)
    (a_law : PySem.W.nsIn K mainGlobals "law" = some (some (.ref f_law)))
    (l_law : K.lookup f_law = some ⟨oc_law, od_law, .func (PySem.W.fnOf "law" "law" (defArgs s_law) (defBody s_law) (defScope s_law) .none kV_law dc_law pm_law an_law cd_law ct_law), sl_law⟩)
    (c_law : PySem.W.codeIn K cd_law "law" = true)
    (k_law : PySem.W.keepIn K (.ref f_law) = true)
    (z_abs : PySem.W.nsIn K mainGlobals "abs" = some none)
    (z_bool : PySem.W.nsIn K mainGlobals "bool" = some none)
    (z_int : PySem.W.nsIn K mainGlobals "int" = some none)
    (z_isinstance : PySem.W.nsIn K mainGlobals "isinstance" = some none)
    (z_len : PySem.W.nsIn K mainGlobals "len" = some none)
    (z_min : PySem.W.nsIn K mainGlobals "min" = some none)
    (z_range : PySem.W.nsIn K mainGlobals "range" = some none)
    (z_repr : PySem.W.nsIn K mainGlobals "repr" = some none)
    (z_tuple : PySem.W.nsIn K mainGlobals "tuple" = some none)
    : ∃ fd : FuncData, (∀ (s : Shared) (v : Value), BindsTo s fd ⟨[v], []⟩ [("script", v)]) ∧ ∀ base : Heap, K.In base → base.Ns mainGlobals mg → FnG l.prog w K mg base (L2.CX l.prog w) 3 fa fd ["script"] (sp_law0 K) := by
  have e : f_law = fa := by
    have z := hfa.symm.trans (PySem.W.mg_of X G a_law)
    cases z
    rfl
  subst e
  have F_chosen_line := fun_mk (st := s_chosen_line) l_chosen_line c_chosen_line k_chosen_line
  have b_chosen_line := F_chosen_line.binds (ps := ["pending", "masked", "left", "able"]) fun _ _ _ _ _ _ us hl => match us, hl with | [_, _, _, _], _ => rfl
  have F_chosen_job := fun_mk (st := s_chosen_job) l_chosen_job c_chosen_job k_chosen_job
  have b_chosen_job := F_chosen_job.binds (ps := ["turn", "able_jobs"]) fun _ _ _ _ _ _ us hl => match us, hl with | [_, _], _ => rfl
  have F_choice := fun_mk (st := s_choice) l_choice c_choice k_choice
  have b_choice := F_choice.binds (ps := ["pending", "masked", "left", "able", "jobs_left", "turn", "able_jobs"]) fun _ _ _ _ _ _ us hl => match us, hl with | [_, _, _, _, _, _, _], _ => rfl
  have F_law_state := fun_mk (st := s_law_state) l_law_state c_law_state k_law_state
  have b_law_state := F_law_state.binds (ps := ["script"]) fun _ _ _ _ _ _ us hl => match us, hl with | [_], _ => rfl
  have F_law_draw := fun_mk (st := s_law_draw) l_law_draw c_law_draw k_law_draw
  have b_law_draw := F_law_draw.binds (ps := ["state", "many"]) fun _ _ _ _ _ _ us hl => match us, hl with | [_, _], _ => rfl
  have F_law_flags := fun_mk (st := s_law_flags) l_law_flags c_law_flags k_law_flags
  have b_law_flags := F_law_flags.binds (ps := ["state", "many"]) fun _ _ _ _ _ _ us hl => match us, hl with | [_, _], _ => rfl
  have F_law := fun_mk (st := s_law) l_law c_law k_law
  have b_law := F_law.binds (ps := ["script"]) fun _ _ _ _ _ _ us hl => match us, hl with | [_], _ => rfl
  let a : Ads := { f_chosen_line := f_chosen_line, f_chosen_job := f_chosen_job, f_choice := f_choice, f_law_state := f_law_state, f_law_draw := f_law_draw, f_law_flags := f_law_flags, f_law := f_law, fd_chosen_line := (PySem.W.fnOf "_chosen_line" "_chosen_line" (defArgs s_chosen_line) (defBody s_chosen_line) (defScope s_chosen_line) .none kV_chosen_line dc_chosen_line pm_chosen_line an_chosen_line cd_chosen_line ct_chosen_line), fd_chosen_job := (PySem.W.fnOf "_chosen_job" "_chosen_job" (defArgs s_chosen_job) (defBody s_chosen_job) (defScope s_chosen_job) .none kV_chosen_job dc_chosen_job pm_chosen_job an_chosen_job cd_chosen_job ct_chosen_job), fd_choice := (PySem.W.fnOf "choice" "choice" (defArgs s_choice) (defBody s_choice) (defScope s_choice) .none kV_choice dc_choice pm_choice an_choice cd_choice ct_choice), fd_law_state := (PySem.W.fnOf "_law_state" "_law_state" (defArgs s_law_state) (defBody s_law_state) (defScope s_law_state) .none kV_law_state dc_law_state pm_law_state an_law_state cd_law_state ct_law_state), fd_law_draw := (PySem.W.fnOf "_law_draw" "_law_draw" (defArgs s_law_draw) (defBody s_law_draw) (defScope s_law_draw) .none kV_law_draw dc_law_draw pm_law_draw an_law_draw cd_law_draw ct_law_draw), fd_law_flags := (PySem.W.fnOf "_law_flags" "_law_flags" (defArgs s_law_flags) (defBody s_law_flags) (defScope s_law_flags) .none kV_law_flags dc_law_flags pm_law_flags an_law_flags cd_law_flags ct_law_flags), fd_law := (PySem.W.fnOf "law" "law" (defArgs s_law) (defBody s_law) (defScope s_law) .none kV_law dc_law pm_law an_law cd_law ct_law) }
  refine ⟨a.fd_law, fun s v => .of_eq rfl, fun base hKb hGb => ?_⟩
  have T : Txt l.prog w K mg base a := {
    g_abs := PySem.W.mg_none_of X G z_abs,
    g_bool := PySem.W.mg_none_of X G z_bool,
    g_int := PySem.W.mg_none_of X G z_int,
    g_isinstance := PySem.W.mg_none_of X G z_isinstance,
    g_len := PySem.W.mg_none_of X G z_len,
    g_min := PySem.W.mg_none_of X G z_min,
    g_range := PySem.W.mg_none_of X G z_range,
    g_repr := PySem.W.mg_none_of X G z_repr,
    g_tuple := PySem.W.mg_none_of X G z_tuple,
    F_chosen_line := F_chosen_line,
    b_chosen_line := b_chosen_line,
    g_chosen_line := PySem.W.mg_of X G a_chosen_line,
    F_chosen_job := F_chosen_job,
    b_chosen_job := b_chosen_job,
    g_chosen_job := PySem.W.mg_of X G a_chosen_job,
    F_choice := F_choice,
    b_choice := b_choice,
    g_choice := PySem.W.mg_of X G a_choice,
    F_law_state := F_law_state,
    b_law_state := b_law_state,
    g_law_state := PySem.W.mg_of X G a_law_state,
    F_law_draw := F_law_draw,
    b_law_draw := b_law_draw,
    g_law_draw := PySem.W.mg_of X G a_law_draw,
    F_law_flags := F_law_flags,
    b_law_flags := b_law_flags,
    g_law_flags := PySem.W.mg_of X G a_law_flags,
    F_law := F_law,
    b_law := b_law,
    g_law := PySem.W.mg_of X G a_law }
  exact FnG.imp (ok_law T) fun vs H Q E h => h
theorem walk {l : PySem.W.OpenLaw} {q : Program} {loose : List Str} {XP : (Str → Option Value) → Heap → Prop} {YP : World → Heap → Prop} {d : DefRec} {K : Params → PySem.W.Frag} (hn : l.most = some 63) (hdf : d.params.defaults = [])
    (hY : ∀ (w : World) (h : Heap), YP w h → (K w.params).In h)
    (F : ∀ (w : World) (mg : Str → Option Value) (fa : Addr) (h : Heap), (K w.params).In h → h.Ns mainGlobals mg → mg d.name = some (.ref fa) → ∃ fd : FuncData, (∀ (s : Shared) (u : Value), BindsTo s fd ⟨[u], []⟩ [("script", u)]) ∧
      ∀ base : Heap, (K w.params).In base → base.Ns mainGlobals mg → FnG l.prog w (K w.params) mg base (L2.CX l.prog w) 3 fa fd ["script"] (sp_law0 (K w.params))) :
    PySem.W.WalkO q loose XP YP l.row.toRowW d [] (fun f vs => PySem.call f vs) :=
  L2.walk_ofG (n := 63) (k := 3) (x := "script") (CX := fun w => L2.CX l.prog w) (sp := fun w => sp_law0 (K w.params)) hn (by decide) hdf ⟨rfl, by decide, by decide⟩ hY F (fun _ _ b ns hl _ hS => a1 ⟨b, ns, rfl, hS, hl, fun _ => rfl⟩) fun _ _ _ _ _ ⟨_, _, _, _, _, _, _, _, _, _, _, _, z⟩ => z
end My
open PySem PySem.W PyProof.Rows
set_option maxRecDepth 100000 in
set_option maxHeartbeats 0 in
theorem PySem.Challenge.cw_tickrings_k07_choice_of_work_holds : PySem.Challenge.rw_tickrings_k07_choice_of_work.Holds := by
  w_on; o_law; k_head; (case hw => w_witness2)
  k_fill
  refine My.walk (l := PySem.Challenge.rw_tickrings_k07_choice_of_work) rfl rfl (fun w h Y => PySem.W.kIn_of Y) ?F
  case F =>
    intro w mg fa h KX G hmg
    refine' My.all_mk rfl KX G hmg ?ha_chosen_line ?hl_chosen_line ?hc_chosen_line ?hk_chosen_line ?ha_chosen_job ?hl_chosen_job ?hc_chosen_job ?hk_chosen_job ?ha_choice ?hl_choice ?hc_choice ?hk_choice ?ha_law_state ?hl_law_state ?hc_law_state ?hk_law_state ?ha_law_draw ?hl_law_draw ?hc_law_draw ?hk_law_draw ?ha_law_flags ?hl_law_flags ?hc_law_flags ?hk_law_flags ?ha_law ?hl_law ?hc_law ?hk_law ?hz_abs ?hz_bool ?hz_int ?hz_isinstance ?hz_len ?hz_min ?hz_range ?hz_repr ?hz_tuple
    (case ha_chosen_line => k_is)
    (case hl_chosen_line => k_is)
    (case hc_chosen_line => k_is)
    (case hk_chosen_line => k_is)
    (case ha_chosen_job => k_is)
    (case hl_chosen_job => k_is)
    (case hc_chosen_job => k_is)
    (case hk_chosen_job => k_is)
    (case ha_choice => k_is)
    (case hl_choice => k_is)
    (case hc_choice => k_is)
    (case hk_choice => k_is)
    (case ha_law_state => k_is)
    (case hl_law_state => k_is)
    (case hc_law_state => k_is)
    (case hk_law_state => k_is)
    (case ha_law_draw => k_is)
    (case hl_law_draw => k_is)
    (case hc_law_draw => k_is)
    (case hk_law_draw => k_is)
    (case ha_law_flags => k_is)
    (case hl_law_flags => k_is)
    (case hc_law_flags => k_is)
    (case hk_law_flags => k_is)
    (case ha_law => k_is)
    (case hl_law => k_is)
    (case hc_law => k_is)
    (case hk_law => k_is)
    (case hz_abs => k_is)
    (case hz_bool => k_is)
    (case hz_int => k_is)
    (case hz_isinstance => k_is)
    (case hz_len => k_is)
    (case hz_min => k_is)
    (case hz_range => k_is)
    (case hz_repr => k_is)
    (case hz_tuple => k_is)
#print axioms PySem.Challenge.cw_tickrings_k07_choice_of_work_holds
