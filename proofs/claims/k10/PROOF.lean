import PyProof.Rows.All
import Wide.All
import OpenK.AllK
import Wide.FinOn
import HandS.ForExc
import HandS.Nested
import HandS.ExcInit
import HandS.ExcField
import HandS.FStr
import HandS.MakeKwOnly
import HandS.IsInst
import HandS.ExcIs
import KE.KExcSuper
import KE.KExcIs
import HandS.ForMost
import HandS.Evl
import PySem.Challenge.RW_tickrings_k10_lines
set_option Elab.async false
set_option maxRecDepth 100000
set_option maxHeartbeats 4000000
set_option linter.all false
set_option autoImplicit false
/-! An own error class over another own class over ValueError, whose __init__ says super().__init__(..) and stores one field. -/
namespace Sx
open PySem PySem.Spec PyProof.Rows L2 PySem.W PySem.Calls NdefX
section
variable {prog : Program} {w : World} {A : Around} {E : Value → Shared → Prop} {h : Heap} {g : Array GenState} {d : Drawn} {t : Nat} {os : OsState}
/-- ValueError.__init__ bound to an exception, called -/
theorem call_mw {nm q : Str} {C N u e t0 : Addr} {bs bm : List Value} {hdct : Bool} {sn : List Str} {sub : List Value} {ab : Bool} {col : Option Bool} {dd : Option Addr} {k0 k1 k2 k3 k5 : Option Value} {rest : List Value} {Q : Value → Shared → Prop}
    (hC : h.get? C = some (excClassObj nm q C N bs bm hdct sn sub ab col dd k0 k1 k2 k3 k5 "ValueError.__new__")) (he : h.get? e = some (HandSPX.excO C t0)) (hu : h.get? u = some (kxs_mw "ValueError.__init__" e)) (hrest : rest.length ≤ sizeLine)
    (hq : ∀ h' t1, (∀ b o, b ≠ e → h.get? b = some o → h'.get? b = some o) → h'.get? e = some (HandSPX.excO C t1) → Q .none ⟨h', g, d, t, os⟩) :
    wpAny (model prog w) A (call (.ref u) rest) Q E ⟨h, g, d, t, os⟩ := by
  refine wpAny_call (codeAny_of_tree ?_)
  show wpAny _ A.in1 (callAny (.ref u) ⟨rest, []⟩) _ _ _
  simp only [callAny]
  refine wpAny_bind (wpAny_load hu ?_)
  simp only [kxs_mw, show (Value.type "method-wrapper" == Value.type "method" || Value.type "method-wrapper" == Value.type "builtin_function_or_method" || Value.type "method-wrapper" == Value.type "method-wrapper") = true by decide, if_true]
  refine W.KFB.if_so (by decide) ?_
  refine wpAny_bind (check_bound_init F.excBase_ValueError.toExcCallFacts hC he rfl ?_)
  refine wpAny_bind (wpAny_pure (wpAny_pure ?_))
  refine ⟨plainId_quiet F.excBase_ValueError.init.plain _, codeAny_builtin F.excBase_ValueError.initEntry ?_⟩
  exact exc_init_tree (cls := .ref C) (t0 := t0) (dv := none) (c2 := .none) (c3 := .none) (b4 := .bool false) he hrest fun h' k hx _ => hq h' _ k hx
end
/-- what the top has written of such a class -/
structure ErrC (P : Program) (K : PySem.W.Frag) (mg : Str → Option Value) (C : Addr) : Prop where
  ox : OexC K C
  sup : ks_superIn K C C "__init__" = some (some (.builtin "ValueError.__init__"))
  ve : PySem.W.subIn K (.ref C) (.type "ValueError") = some true
  op : PySem.W.nsIn K cStatics "thirdparty.any" = some none
  selfM : PySem.W.mroIn K C (.ref C) = some true
  sm : mg "super" = none
  top : (P.main.scope.names.lookup ("super" : Str)).isSome = false
/-- its __init__ -/
structure ErrI (P : Program) (K : PySem.W.Frag) (C cc cda fI : Addr) (name qual : Str) (params : Arguments) (body : List Stmt) (scope : Scope) (fd : FuncData) : Prop where
  fn : ∃ oc od osl dV kV doc pm an ct, fd = PySem.W.fnX name qual params body scope [("__class__", cc)] dV kV doc pm an (.ref cda) ct ∧ K.lookup fI = some ⟨oc, od, .func fd, osl⟩
  cd : PySem.W.codeIn K (.ref cda) qual = true
  cell : ∃ cl cld csl, K.lookup cc = some ⟨cl, cld, .cell (some (.ref C)), csl⟩
  code : ∃ ccl cdd vs ccs file tf, K.lookup cda = some ⟨ccl, cdd, .fields vs, ccs⟩ ∧ vs[2]? = some (.str file tf) ∧ ((P.main.file : Str) == file) = true
section
variable {P : Program} {w : World} {K : PySem.W.Frag} {mg : Str → Option Value} {base : Heap} {CX : CXT}
theorem fn_of_err {C cc cda f : Addr} {name qual : Str} {params : Arguments} {scope : Scope} {fd : FuncData} {ar : Arg} {N ps : List Str} {k : Nat} {sp : Sp} {p0 p1 p2 pos pos' : Pos} {e : Expr} {es : List Expr} {rest : List Stmt}
    (T : ErrC P K mg C) (I0 : ErrI P K C cc cda f name qual params (.Expr (.Call (.Attribute (.Call (.Name "super" p0) [] [] p1) "__init__" p2) (e :: es) [] pos) pos' :: rest) scope fd)
    (S : NScope N ps ["__class__"] scope) (hp : (params.posonlyargs ++ params.args).head? = some ar) (hp0 : ps[0]? = some ar.arg) (hsup : scope.names.lookup ("super" : Str) = some .globalImplicit)
    (len : ∀ vs H Q E, sp vs H Q E → vs.length = ps.length)
    (he : ∀ env, starEach (e :: es) env = (false, eval e env) :: starEach es env) (hpl : ∀ env, (backTo pos (starEach es env)).any (·.1) = false)
    {pl : Env → Sem Bool} (hmc : ∀ env : Env, eval (.Call (.Attribute (.Call (.Name "super" p0) [] [] p1) "__init__" p2) (e :: es) [] pos) env = (do
      let ov ← attributeBase (.Call (.Name "super" p0) [] [] p1) "__init__" env (eval (.Call (.Name "super" p0) [] [] p1) env)
      standAt p2.atName
      let (f, first) ← holding [ov] (getMethod ov "__init__" (pl env))
      callWith pos f first (backTo pos (starEach (e :: es) env)) []))
    (hsw : ∀ env, swapsWith (.Call (.Attribute (.Call (.Name "super" p0) [] [] p1) "__init__" p2) (e :: es) [] pos) none pos'.line env = pure false)
    (hbody : ∀ (A : Around) (outer : List Env) (s : Shared) (H : Hp) (vs : List V) (Q : VK) (E : XK), sp vs H Q E →
      ∃ ta t, PA (ncx CX P w K mg base N ⟨name, qual, params, .Expr (.Call (.Attribute (.Call (.Name "super" p0) [] [] p1) "__init__" p2) (e :: es) [] pos) pos' :: rest, scope, [("__class__", cc)], cda⟩ f A outer s H E) (e :: es) ta ∧
        PSs (ncx CX P w K mg base N ⟨name, qual, params, .Expr (.Call (.Attribute (.Call (.Name "super" p0) [] [] p1) "__init__" p2) (e :: es) [] pos) pos' :: rest, scope, [("__class__", cc)], cda⟩ f A outer s H E) rest t ∧
        ∃ a, vs[0]? = some (.ref a) ∧ H a = some (exo a C none) ∧
          ta (startF N vs [some (.ref C)]) H fun ws H1 => ws.length ≤ 1000 ∧ H1 a = some (exo a C none) ∧ t { nx := fun _ H' => Q .non H', rt := Q } (startF N vs [some (.ref C)]) H1) :
    FnOk P w K mg base CX (k + 1) f fd ps sp := by
  obtain ⟨⟨oc, od, osl, dV, kV, doc, pm, an, ct, rfl, lk⟩, hcd, ⟨cl, cld, csl, hcell⟩, ⟨ccl, cdd, vsC, ccs, file, tf, hcode, hvs, hfile⟩⟩ := I0
  refine ⟨len, fun A outer s H args us vs Q E hr e0 hb r hsp => ?_⟩
  have hl := len _ _ _ _ hsp
  have KX : K.In s.heap := e0.mod.kin.keeps fun b o e => (e0.bs b o e).1
  have lim : s.heap.NoLimit := e0.mod.nolimit.keeps fun b o e => (e0.bs b o e).1
  have C0 : CellsAt [(("__class__" : Str), cc)] ["__class__"] [some (V.ref C)] s.heap H := by
    refine ⟨rfl, fun y c q => ?_, fun x y c q1 q2 => ?_, fun i y q => ?_⟩
    · have hy : c = cc := by
        by_cases hyy : y = ("__class__" : Str)
        · subst hyy
          simpa [List.lookup] using q.symm
        · have : (y == ("__class__" : Str)) = false := by simpa using hyy
          simp [List.lookup, this] at q
      subst hy
      exact ⟨(e0.bs c _ (e0.mod.kin _ _ hcell)).2, _, ⟨_, KX _ _ hcell, rfl⟩⟩
    · have hx : x = ("__class__" : Str) := by
        by_cases hyy : x = ("__class__" : Str)
        · exact hyy
        · have : (x == ("__class__" : Str)) = false := by simpa using hyy
          simp [List.lookup, this] at q1
      have hy : y = ("__class__" : Str) := by
        by_cases hyy : y = ("__class__" : Str)
        · exact hyy
        · have : (y == ("__class__" : Str)) = false := by simpa using hyy
          simp [List.lookup, this] at q2
      rw [hx, hy]
    · match i, q with
      | 0, q =>
        have hy : ("__class__" : Str) = y := Option.some.inj q
        subst hy
        refine ⟨cc, by simp [List.lookup], fun v hv => ⟨.ref C, ?_, _, KX _ _ hcell, rfl⟩⟩
        have hv' : V.ref C = v := by simpa using hv
        subst hv'
        rfl
      | i + 1, q => simp at q
  let F : NF := ⟨name, qual, params, .Expr (.Call (.Attribute (.Call (.Name "super" p0) [] [] p1) "__init__" p2) (e :: es) [] pos) pos' :: rest, scope, [("__class__", cc)], cda⟩
  have hS : NScope N ps ["__class__"] F.scope := S
  refine ks_codeAny_call_defAt (body := F.body) (binds := ps.zip us) hr.depth (KX _ _ lk) rfl lim (codeRec_of KX hcd) rfl (hb) S.nocell (fun ⟨n, _⟩ hy => S.par n (List.of_mem_zip hy).1) (fun h₁ hns kp => ?_) S.co S.gen S.kind
  obtain ⟨ta, tb, hta, htb, a, hv0, hea, hq⟩ := hbody A outer s H vs Q E hsp
  have I : Inv (ncx CX P w K mg base N F f A outer s H E) [] (startF N vs [some (.ref C)]) H { s with heap := h₁, toks := s.toks + (ps.zip us).length } := inv_startN hS hr.hd e0 hl r C0 hns kp
  show PySem.wpAt _ (A.deeper (envF F f s.heap.objs.size)) (.func F.body (envF F f s.heap.objs.size)) (execs F.body (envF F f s.heap.objs.size)) _ _ _
  refine ks_wpAt_mono (Q := SP (ncx CX P w K mg base N F f A outer s H E) [] { nx := fun _ H' => Q .non H', rt := Q }) (ks_wpAt_execs_cons (ks_wpAt_Expr_any (ks_wpAt_MethodCall (pl := pl _) ?_ (hmc _)) (by show (scope.kind == ScopeKind.module && _) = false; rw [S.kind]; rfl) (hsw _))) (fun fl s' hs => ?_) fun e s' hs => hs
  · -- super()
    have KX1 : K.In h₁ := KX.keeps kp
    obtain ⟨nm, q, N', bs, bm, sn, sub, ab, col, dd, k0, k1, k2, k3, k5, hC, hbm⟩ := T.ox.cls
    have hcl : PySem.W.clsIn K C = some { name := nm, bases := bs, mro := .ref C :: bm, ns := N', qualname := q, hasDict := true, slotNames := sn, subclasses := sub, abstract := ab, collection := col, hasDel := false } := by unfold PySem.W.clsIn; rw [hC] <;> rfl
    obtain ⟨t1, ho⟩ := exo_at I.hok hea
    have hu0 : us[0]? = some (.ref a) := by
      obtain ⟨u, hu, ru⟩ := r.get hv0
      have : u = Value.ref a := ru
      rw [hu, this]
    have hself : (ps.zip us).reverse.lookup ar.arg = some (.ref a) := by
      have ndP : ps.Nodup := by
        have q := S.nd.sublist (List.take_sublist (ps.length + 1) N)
        have q2 := S.pre
        simp only [List.length_cons, List.length_nil, Nat.zero_add] at q2
        rw [q2] at q
        exact (List.nodup_append.mp q).1
      exact zip_look ndP hp0 hu0
    have gl : h₁.Ns mainGlobals mg := e0.mod.glob.keeps fun b o z => kp b o (e0.bs b o z).1
    obtain ⟨mb, hmb, hmbE⟩ := e0.mod.blt
    have bl : h₁.Ns builtinsNs mb := hmb.keeps fun b o z => kp b o (e0.bs b o z).1
    refine ks_wpAt_super_base (env := envF F f s.heap.objs.size) hsup (S.frk _ List.mem_cons_self) (by decide) rfl (KX1 _ _ lk) rfl hp rfl (KX1 _ _ hcode) rfl hvs hfile T.top ?_
    refine ks_loadName_global S.kind hsup (loadGlobal_builtin (env := envF F f s.heap.objs.size) gl T.sm bl ((hmbE _ (by decide +kernel)).trans (by decide +kernel : bootBuiltins "super" = some (.type "super"))) ⟨rfl, ?_⟩)
    refine wpAny_loadName_free S.kind (S.frk _ List.mem_cons_self) (by first | rfl | simp [List.lookup]) ⟨_, KX1 _ _ hcell, rfl⟩ ?_
    refine wpAny_loadName_local S.kind (S.par _ (List.mem_of_getElem? hp0)) hns hself ?_
    refine ks_wpAny_isType_cls (KX1 _ _ hC) rfl ⟨rfl, ?_⟩
    refine ks_wpAny_call_super (KX1 _ _ hC) rfl ho rfl (fun c e => by cases e) (PySem.W.looks_mroIn KX1 T.selfM) (fun h2 eso k2 => ?_)
    have I1 := I.kept (t' := s.toks + (ps.zip us).length) k2
    have KX2 : K.In h2 := KX1.keeps k2
    have hax : a ≠ C := by
      intro z
      have z1 := KX1 _ _ hC
      rw [← z, ho] at z1
      cases z1
    have ho2 : h2.get? a = some ({ cls := .ref C, dict := none, data := .fields #[.ref t1, .none, .none, .none, .bool false, .none] } : Obj) := k2 _ _ ho
    have J : PySem.W.InstAt h2 a ({ cls := .ref C, dict := none, data := .fields #[.ref t1, .none, .none, .none, .bool false, .none] } : Obj) C none := ⟨ho2, rfl, rfl, trivial⟩
    have hsupX := T.sup
    unfold ks_superIn at hsupX
    rw [hcl] at hsupX
    have hI : PySem.W.Looks (model P w) h2 (isInstance (.ref a) (.type "ValueError")) true := J.type.andThen (PySem.W.looks_subIn KX2 T.ve)
    refine kxs_getMethod kxs_ValueError eso (PySem.W.looks_opaque KX2 T.op) (l₀ := .ref C :: bm) ?_ rfl KX2 hsupX hI hax (by decide) ?_
    · exact fun A Q E s k q => wpAny_bind ((PySem.W.looks_clsIn KX2 hcl) A _ E s k (wpAny_pure q))
    · have k3 : ∀ b o, h2.get? b = some o → (h2.push (kxs_mw "ValueError.__init__" a)).get? b = some o := fun b o e => Heap.get?_push_of_some _ e
      have I2 := I1.kept (t' := s.toks + (ps.zip us).length + 1) k3
      have nu : H h2.objs.size = none := I1.hok.fresh (Nat.le_refl _)
      have hmw : (h2.push (kxs_mw "ValueError.__init__" a)).get? h2.objs.size = some (kxs_mw "ValueError.__init__" a) := Heap.get?_push_at rfl rfl
      have I3 := I2.pins_of (pins' := [(h2.objs.size, kxs_mw "ValueError.__init__" a)]) fun p hp => by
        have hp' : p = (h2.objs.size, kxs_mw "ValueError.__init__" a) := by simpa [ncx] using hp
        subst hp'
        exact ⟨hmw, nu, fun z => absurd I1.lt (by rw [← z]; exact Nat.lt_irrefl _), I1.nofs (Nat.le_refl _), fun v z => by cases z⟩
      refine kxs_callWith (i := "ValueError.__init__") (x := a) (by rw [he]; show (false || (backTo pos (starEach es _)).any (·.1)) = false; rw [hpl]; rfl) ?_
      rw [he]
      refine evalArgs_plain ?_
      show wpAny _ _ (spliced (backTo pos ((false, eval e (envF F f s.heap.objs.size)) :: starEach es (envF F f s.heap.objs.size)))) _ _ _
      rw [← he]
      refine thn (hta.run pos _ _ _ H _ I3 hq) fun us1 s1 hAP => ?_
      obtain ⟨ws, H1, I4, r4, hz, hea1, q4⟩ := hAP
      have hpin := (I4.pin (h2.objs.size, kxs_mw "ValueError.__init__" a) (by simp [ncx])).1
      refine ⟨hpin, ?_⟩
      obtain ⟨t2, ho4⟩ := exo_at I4.hok hea1
      have I5 := I4.pins_of (pins' := []) fun p hp => by simp [ncx] at hp
      obtain ⟨hp4, g4, d4, t4, os4⟩ := s1
      refine call_mw (I4.kIn _ _ hC) ho4 hpin (by show us1.length ≤ sizeLine; rw [← r4.length, sizeLine_eq]; omega) fun h' t5 k5 hx5 => ?_
      have I6 := I5.write (t' := t4) (x := a) (e := a) (o := exo a C none) (by rw [hea1]; exact True.intro) (.inl rfl) k5 ⟨_, hx5⟩ (exo_ok hx5)
      have eu : upd H1 a (exo a C none) = H1 := by
        funext b
        by_cases hb : b = a
        · rw [hb, upd_same, hea1]
        · rw [upd_ne hb]
      rw [eu] at I6
      exact wpAt_of_wpAny (htb.run [] _ _ H1 _ I6 q4)
  · have fin : ∀ {σ' : L2.St} {H' : Hp} {v : V} {u : Value}, Inv (ncx CX P w K mg base N F f A outer s H E) [] σ' H' s' → L2.RelV v u → Q v H' → CE outer P w H s Q u s' :=
      fun {σ' H' v u} J rv q => ⟨v, H', J.os, J.bare, J.base, J.hok, rv, q⟩
    cases fl with
    | ret u =>
      obtain ⟨v, σ', H', J, rv, q⟩ := hs
      exact fin J rv q
    | next =>
      obtain ⟨σ', H', J, q⟩ := hs
      exact fin (v := V.non) (u := Value.none) J rfl q
    | brk =>
      obtain ⟨_, _, _, q⟩ := hs
      exact False.elim q
    | cont =>
      obtain ⟨_, _, _, q⟩ := hs
      exact False.elim q
end

/-! ### the promise of such an __init__, its body, the raise -/
def okV (x : V) : Prop := (∃ y : Str, x = .str y ∧ y.length ≤ 1000) ∨ ∃ i : Int, x = .int i ∧ i.natAbs.log2 < 1920
theorem okV_int {i : Int} (h : -(2 ^ 64) < i ∧ i < 2 ^ 64) : okV (.int i) := by
  refine .inr ⟨i, rfl, ?_⟩
  have h1 : i.natAbs < 2 ^ 64 := by omega
  by_cases h0 : i.natAbs = 0
  · rw [h0]; decide
  · exact Nat.lt_of_lt_of_le ((Nat.log2_lt h0).mpr h1) (by decide)
def spErr (C : Addr) (fld : Str) : Sp := fun vs H Q _ => ∃ a x, vs = [.ref a, x] ∧ okV x ∧ H a = some (exo a C none) ∧ ∀ d, H d = none → d ≠ a → Q .non (upd (upd H d (exd d [(fld, x)])) a (exo a C (some d)))
section
variable {P : Program} {w : World} {K : PySem.W.Frag} {mg : Str → Option Value} {base : Heap} {CX : CXT}
theorem okErr {C cc cda f : Addr} {name qual fld : Str} {params : Arguments} {scope : Scope} {fd : FuncData} {ar : Arg} {prm : Str} {p0 p1 p2 pos pos' q0 q1 q2 q3 : Pos} {e : Expr} {te : TE}
    (T : ErrC P K mg C) (hno : PySem.W.findIn K (.ref C) fld = some none)
    (I0 : ErrI P K C cc cda f name qual params [.Expr (.Call (.Attribute (.Call (.Name "super" p0) [] [] p1) "__init__" p2) [e] [] pos) pos', .Assign [.Attribute (.Name "self" q0) fld q1] (.Name prm q2) q3] scope fd)
    (S : NScope ["self", prm, "__class__"] ["self", prm] ["__class__"] scope) (hp : (params.posonlyargs ++ params.args).head? = some ar) (hp0 : ar.arg = "self") (hsup : scope.names.lookup ("super" : Str) = some .globalImplicit)
    (hd : (prm == ("__debug__" : Str)) = false) (hcd : (prm == ("__classdict__" : Str)) = false)
    (he : ∀ env, starEach [e] env = (false, eval e env) :: starEach [] env)
    {pl : Env → Sem Bool} (hmc : ∀ env : Env, eval (.Call (.Attribute (.Call (.Name "super" p0) [] [] p1) "__init__" p2) [e] [] pos) env = (do
      let ov ← attributeBase (.Call (.Name "super" p0) [] [] p1) "__init__" env (eval (.Call (.Name "super" p0) [] [] p1) env)
      standAt p2.atName
      let (f, first) ← holding [ov] (getMethod ov "__init__" (pl env))
      callWith pos f first (backTo pos (starEach [e] env)) []))
    (hsw : ∀ env, swapsWith (.Call (.Attribute (.Call (.Name "super" p0) [] [] p1) "__init__" p2) [e] [] pos) none pos'.line env = pure false)
    (hsw2 : ∀ env, swapsWith (.Name prm q2) (some (.Attribute (.Name "self" q0) fld q1)) q3.line env = pure false)
    (hPE : ∀ X : Cx, X.N[1]? = some prm → Vis X.env.scope prm → PE X e te)
    (hte : ∀ (σ : L2.St) (H : Hp) (Q : VK) (x : V), σ[1]? = some (some x) → okV x → (∀ z, Q (.str z) H) → te σ H Q) :
    FnOk P w K mg base CX 1 f fd ["self", prm] (spErr C fld) := by
  refine fn_of_err T I0 S hp (by rw [hp0]; rfl) hsup (fun vs H Q E h => ?_) he (fun env => rfl) hmc hsw fun A outer s H vs Q E h => ?_
  · obtain ⟨a, x, rfl, _⟩ := h
    rfl
  · obtain ⟨a, x, rfl, hok, hea, k⟩ := h
    refine ⟨tCons te tNil, tOst K fld (tVar 0) (tVar 1), pa_cons (hPE _ rfl (Or.inl (S.par _ (by simp)))) pa_nil (he _), pss_one (ps_ost (pv 0 rfl (Or.inl (S.par _ (by simp)))) (pv 1 rfl (Or.inl (S.par _ (by simp))) hd hcd) (hsw2 _)), a, rfl, hea, ?_⟩
    refine hte _ _ _ x rfl hok fun z => ?_
    refine ⟨by show 1 ≤ 1000; decide, hea, ?_⟩
    exact ⟨x, rfl, _, rfl, a, C, rfl, T.ox, hno, .inl ⟨hea, fun d hd hda => k d hd hda⟩⟩
/-- f"pre{x}" and f"pre{x}suf" -/
theorem te2 {pre : Str} {i : Nat} (hpre : pre.length ≤ 1000) (σ : L2.St) (H : Hp) (Q : VK) (x : V) (hx : σ[i]? = some (some x)) (ho : okV x) (q : ∀ z, Q (.str z) H) :
    tJs [tC (.str pre), tFmt (tVar i)] Str.empty σ H (fun out H1 => Q (.str out) H1) := by
  have hs : ∀ n : Nat, n ≤ 10000 → n ≤ sizeLine := fun n h => by rw [sizeLine_eq]; omega
  have l0 : (Str.empty ++ pre).length ≤ 1000 := by rw [Str.length_append]; show 0 + _ ≤ _; omega
  refine ⟨pre, rfl, hs _ (by omega), x, hx, ?_⟩
  rcases ho with ⟨y, rfl, hy⟩ | ⟨j, rfl, hj⟩
  · exact .inl ⟨y, rfl, hs _ (by omega), y, rfl, hs _ (by rw [Str.length_append]; omega), q _⟩
  · have l1 := int_text_len_1921 hj
    exact .inr ⟨j, rfl, hj, _, rfl, hs _ (by rw [Str.length_append]; exact Nat.le_trans (Nat.add_le_add l0 l1) (by decide)), q _⟩
theorem te3 {pre suf : Str} {i : Nat} (hpre : pre.length ≤ 1000) (hsuf : suf.length ≤ 1000) (σ : L2.St) (H : Hp) (Q : VK) (x : V) (hx : σ[i]? = some (some x)) (ho : okV x) (q : ∀ z, Q (.str z) H) :
    tJs [tC (.str pre), tFmt (tVar i), tC (.str suf)] Str.empty σ H (fun out H1 => Q (.str out) H1) := by
  have hs : ∀ n : Nat, n ≤ 10000 → n ≤ sizeLine := fun n h => by rw [sizeLine_eq]; omega
  have l0 : (Str.empty ++ pre).length ≤ 1000 := by rw [Str.length_append]; show 0 + _ ≤ _; omega
  refine ⟨pre, rfl, hs _ (by omega), x, hx, ?_⟩
  rcases ho with ⟨y, rfl, hy⟩ | ⟨j, rfl, hj⟩
  · have l2 : (Str.empty ++ pre ++ y).length ≤ 2000 := by rw [Str.length_append]; omega
    exact .inl ⟨y, rfl, hs _ (by omega), y, rfl, hs _ (by omega), suf, rfl, hs _ (by rw [Str.length_append]; omega), q _⟩
  · have l1 := int_text_len_1921 hj
    have l2 : (Str.empty ++ pre ++ Str.ofString (toString j)).length ≤ 2921 := by rw [Str.length_append]; omega
    exact .inr ⟨j, rfl, hj, _, rfl, hs _ (Nat.le_trans l2 (by decide)), suf, rfl, hs _ (by rw [Str.length_append]; exact Nat.le_trans (Nat.add_le_add l2 hsuf) (by decide)), q _⟩
end
/-- an own error class, ready to be raised and caught -/
structure EK (P : Program) (w : World) (K : PySem.W.Frag) (mg : Str → Option Value) (base : Heap) (x fld : Str) (C fI : Addr) (fd : FuncData) (ps : List Str) : Prop where
  T : ErrC P K mg C
  g : mg x = some (.ref C)
  iC : PySem.W.findIn K (.ref C) "__init__" = some (some (.ref fI))
  tI : PySem.W.typeIn K (.ref fI) = some (.type "function")
  F1 : FnOk P w K mg base CX0 1 fI fd ps (spErr C fld)
  b : Binds K fd ps []
  nof : PySem.W.findIn K (.ref C) fld = some none
  xf : XfC K C
  isc : ExcC K C
  own : PySem.W.subIn K (.ref C) (.ref C) = some true
theorem EK.exm {P : Program} {w : World} {K : PySem.W.Frag} {mg : Str → Option Value} {base : Heap} {x fld : Str} {C fI : Addr} {fd : FuncData} {ps : List Str} (E : EK P w K mg base x fld C fI fd ps) : PySem.W.exmOne K (.ref C) (.ref C) = some true :=
  PySem.W.exm_ref E.T.ox.exC E.xf.hdC E.T.ox.tyC E.own
section
variable {X : Cx} {W : WX} {x fld : Str} {C fI : Addr} {fd : FuncData} {ps : List Str} {e o : Expr} {te ta : TE} {p pos pos' apos : Pos}
theorem upd_del {fs : List (Str × V)} {H : Hp} {a d : Addr} {o u v : HO} (ha : H a = none) (hda : d ≠ a) : upd (del (upd (upd (upd H a o) d u) a v) a) d (.xd fs) = upd H d (.xd fs) := by
  funext b
  by_cases hb : b = d
  · subst hb; rw [upd_same, upd_same]
  · rw [upd_ne hb, upd_ne hb]
    by_cases hba : b = a
    · subst hba; rw [del_same, ha]
    · rw [del_ne hba, upd_ne hba, upd_ne hb, upd_ne hba]
/-- a reading made to bear a weaker wish -/
def tUp (te : TE) : TE := fun σ H Q => ∃ Q0 : VK, te σ H Q0 ∧ ∀ v H1, Q0 v H1 → Q v H1
theorem pe_up (h : PE X e te) : PE X e (tUp te) := ⟨fun pins s σ H Q I ⟨Q0, q, m⟩ => thn (h.run pins s σ H Q0 I q) fun _ _ ⟨v, H1, J, r, z⟩ => ⟨v, H1, J, r, m _ _ z⟩⟩
/-- raise X(e) -/
def tRaiseE (W : WX) (C : Addr) (fld : Str) (te : TE) : TS := fun _ σ H => te σ H fun v H1 => okV v ∧ ∀ d, H1 d = none → W (.ref C) (some d) σ (upd H1 d (.xd [(fld, v)]))
theorem ps_raiseE (hc : X.calm = true) (E : EK X.prog X.w X.K X.mg X.base x fld C fI fd ps) (hr : Room 2 X.A) (tk : Takes X W) (hg : Gl X x) (he : PE X e te) (hdb : (x == ("__debug__" : Str)) = false := by decide)
    (hst : starEach [e] X.env = (false, eval e X.env) :: starEach [] X.env := by rfl) :
    PS X (.Raise (some (.Call (.Name x p) [e] [] pos)) none pos') (tRaiseE W C fld te) := by
  refine ⟨fun pins s σ H D I h => ?_⟩
  refine (ps_raise hc tk (pmk_oex E.T.ox E.iC E.tI E.F1 hr E.b .nil pass0 hg E.g (pa_cons (pe_up he) pa_nil hst) hdb hst rfl)).run pins s σ H D I ?_
  refine ⟨_, h, fun v H1 ⟨hok, k⟩ => ⟨by show 1 ≤ 1000; decide, fun a ha => ⟨a, v, rfl, hok, upd_same, fun d hd hda => ⟨rfl, d, [(fld, v)], upd_same, by rw [upd_ne hda, upd_same], ?_, ?_⟩⟩⟩⟩
  · rw [upd_ne hda] at hd
    exact hd
  · rw [upd_ne hda] at hd
    rw [upd_del ha hda]
    exact k d hd
/-! ### calls of what may raise, the wish at the slots -/
variable {CX : CXT} {k : Nat} {f : Addr} {sp : Sp} {m : Str} {es : List Expr} {t : TA} {ES : L2.St → XK}
def tMethS (C : Addr) (m : Str) (sp : Sp) (ES : L2.St → XK) (ta : TE) (t : TA) : TE := fun σ H Q => ta σ H fun x H1 => ∃ a dx fs, x = .ref a ∧ H1 a = some (.ins C dx fs) ∧ fs.lookup m = none ∧ t σ H1 fun vs H2 => sp (x :: vs) H2 Q (ES σ)
theorem pe_methS {pl : Sem Bool} (he : PE X o ta) (c : Cls X.K C) (hm : Meth X.K C m f) (F : FnOk X.prog X.w X.K X.mg X.base CX k f fd ps sp) (hr : Room k X.A) (hb : Binds X.K fd ps []) (hx : ∀ σ, PassesAt CX X σ (ES σ)) (ha : PA X (e :: es) t)
    (hst : starEach (e :: es) X.env = (false, eval e X.env) :: starEach es X.env := by rfl) (hpl : (backTo pos (starEach es X.env)).any (·.1) = false := by rfl)
    (ht : eval (.Call (.Attribute o m apos) (e :: es) [] pos) X.env = (do
      let ov ← eval o X.env
      standAt apos.atName
      let (f, first) ← holding [ov] (getMethod ov m pl)
      callWith pos f first (backTo pos (starEach (e :: es) X.env)) (backToKw pos (keywordEach [] X.env))) := by rfl) :
    PE X (.Call (.Attribute o m apos) (e :: es) [] pos) (tMethS C m sp ES ta t) := by
  refine ⟨fun pins s σ H Q I h => ?_⟩
  refine PySem.W.methodCall_KW (pl := pl) (thn (he.run pins s σ H _ I h) fun u s1 ⟨x, H1, I1, rx, a, dx, fs, ex, ea, l, q⟩ => ?_) ht
  subst ex
  obtain rfl : u = Value.ref a := rx
  refine getmeth_ok I1 ea c hm l ?_
  refine PySem.W.callWith_K (first := [.ref a]) (h₀ := X.base) I.ok.mod.kin hm.kp (thn (ha.run pos pins s1 σ H1 _ I1 q) fun us s2 ⟨vs, H2, I2, r, q2⟩ => ⟨I2.kIn, ?_⟩) hst hpl
  exact run_fnS (us := .ref a :: us) (vs := .ref a :: vs) F hr hb (hx σ) I2 (.cons rfl r) q2
theorem pe_meth0S {pl : Sem Bool} (he : PE X o ta) (c : Cls X.K C) (hm : Meth X.K C m f) (F : FnOk X.prog X.w X.K X.mg X.base CX k f fd ps sp) (hr : Room k X.A) (hb : Binds X.K fd ps []) (hx : ∀ σ, PassesAt CX X σ (ES σ))
    (ht : eval (.Call (.Attribute o m apos) [] [] pos) X.env = (do
      let ov ← eval o X.env
      standAt apos.atName
      let (f, first) ← holding [ov] (getMethod ov m pl)
      callWith pos f first (backTo pos (starEach [] X.env)) (backToKw pos (keywordEach [] X.env))) := by rfl) :
    PE X (.Call (.Attribute o m apos) [] [] pos) (tMethS C m sp ES ta tNil) := by
  refine ⟨fun pins s σ H Q I h => ?_⟩
  refine PySem.W.methodCall_KW (pl := pl) (thn (he.run pins s σ H _ I h) fun u s1 ⟨x, H1, I1, rx, a, dx, fs, ex, ea, l, q⟩ => ?_) ht
  subst ex
  obtain rfl : u = Value.ref a := rx
  refine getmeth_ok I1 ea c hm l ?_
  exact PySem.W.callWith_K0 (first := [.ref a]) I1.kIn hm.kp (run_fnS (us := [.ref a]) (vs := [.ref a]) F hr hb (hx σ) I1 (.cons rfl .nil) q)
theorem pe_call0S (F : FnOk X.prog X.w X.K X.mg X.base CX k f fd ps sp) (hr : Room k X.A) (hg : Gl X x) (hm : X.mg x = some (.ref f)) (hk : PySem.W.keepIn X.K (.ref f) = true) (hb : Binds X.K fd ps []) (hx : ∀ σ, PassesAt CX X σ (ES σ))
    (hdb : (x == ("__debug__" : Str)) = false := by decide) : PE X (.Call (.Name x p) [] [] pos) (tCallS sp ES tNil) := by
  refine ⟨fun pins s σ H Q I h => ?_⟩
  refine wpAny_Call_Name_kw (ld_glob I hg hm ?_ hdb)
  exact PySem.W.callWith_K0 I.kIn hk (run_fnS (us := []) (vs := []) F hr hb (hx σ) I .nil h)
theorem run_makeS {pins : List (Addr × Obj)} {σ : L2.St} {H : Hp} {s : Shared} {Q : VK} {us : List Value} {vs : List V} (M : Mk X.K C f) (F : FnOk X.prog X.w X.K X.mg X.base CX k f fd ps sp) (hr : Room (k + 1) X.A) (hb : Binds X.K fd ps []) (hp : ∀ (σ : L2.St), PassesAt CX X σ (ES σ))
    (I : Inv X pins σ H s) (r : Vals vs us) (h : ∀ x dx, H x = none → H dx = none → dx ≠ x → sp (.ref x :: vs) (upd (upd H dx (.own x)) x (.ins C dx [])) (fun v H2 => v = .non ∧ Q (.ref x) H2) (ES σ)) :
    wpAny (model X.prog X.w) X.A (call (.ref C) us) (EP X pins σ Q) X.xe s := by
  have hq := h (s.heap.objs.size + 1) s.heap.objs.size (I.hok.fresh (Nat.le_succ _)) (I.hok.fresh (Nat.le_refl _)) (Nat.ne_of_lt (Nat.lt_succ_self _))
  have I2 := Inv.made (C := C) I
  have r2 : Vals (V.ref (s.heap.objs.size + 1) :: vs) (Value.ref (s.heap.objs.size + 1) :: us) := .cons rfl r
  have hl : (Value.ref (s.heap.objs.size + 1) :: us).length = ps.length := by rw [← r2.length]; exact F.len _ _ _ _ hq
  have b := hb _ (Value.ref (s.heap.objs.size + 1) :: us) I2.kIn (by rw [List.append_nil]; exact hl)
  rw [List.append_nil] at b
  refine wpAny_call (make_map (f := f) I.kIn M.makes M.init (beq_iff_eq.mp M.fn) (codeAny_mono (F.run _ X.stack _ _ ⟨Value.ref (s.heap.objs.size + 1) :: us, []⟩ (Value.ref (s.heap.objs.size + 1) :: us) _ _ (ES σ) (hr.make C us [])
    (I2.env0.make C us []) b r2 hq) fun r s' hq' => ?_))
  cases r with
  | error e => exact hp σ pins _ _ e s' I2 hq'
  | ok fl =>
    cases fl with
    | ret u =>
      obtain ⟨v, H', I3, rv, ev, q3⟩ := I2.after hq'
      subst ev
      exact ⟨rv, ⟨V.ref (s.heap.objs.size + 1), H', I3, rfl, q3⟩⟩
    | next => exact False.elim hq'
    | brk => exact False.elim hq'
    | cont => exact False.elim hq'
def tMakeS (C : Addr) (sp : Sp) (ES : L2.St → XK) (t : TA) : TE := fun σ H Q => t σ H fun vs H1 => ∀ x dx, H1 x = none → H1 dx = none → dx ≠ x → sp (.ref x :: vs) (upd (upd H1 dx (.own x)) x (.ins C dx [])) (fun v H2 => v = .non ∧ Q (.ref x) H2) (ES σ)
theorem pe_makeS (M : Mk X.K C f) (F : FnOk X.prog X.w X.K X.mg X.base CX k f fd ps sp) (hr : Room (k + 1) X.A) (hg : Gl X x) (hm : X.mg x = some (.ref C)) (hb : Binds X.K fd ps []) (hx : ∀ σ, PassesAt CX X σ (ES σ))
    (ha : PA X (e :: es) t) (hdb : (x == ("__debug__" : Str)) = false := by decide) (he : starEach (e :: es) X.env = (false, eval e X.env) :: starEach es X.env := by rfl) (hpl : (backTo pos (starEach es X.env)).any (·.1) = false := by rfl) :
    PE X (.Call (.Name x p) (e :: es) [] pos) (tMakeS C sp ES t) := by
  refine ⟨fun pins s σ H Q I h => ?_⟩
  refine wpAny_Call_Name_kw (ld_glob I hg hm ?_ hdb)
  refine PySem.W.callWith_K (h₀ := X.base) I.ok.mod.kin M.kp (thn (ha.run pos pins s σ H _ I h) fun us s1 ⟨vs, H1, I1, r, q⟩ => ⟨I1.kIn, ?_⟩) he hpl
  exact run_makeS M F hr hb hx I1 r q
theorem pe_make0S (M : Mk X.K C f) (F : FnOk X.prog X.w X.K X.mg X.base CX k f fd ps sp) (hr : Room (k + 1) X.A) (hg : Gl X x) (hm : X.mg x = some (.ref C)) (hb : Binds X.K fd ps []) (hx : ∀ σ, PassesAt CX X σ (ES σ))
    (hdb : (x == ("__debug__" : Str)) = false := by decide) : PE X (.Call (.Name x p) [] [] pos) (tMakeS C sp ES tNil) := by
  refine ⟨fun pins s σ H Q I h => ?_⟩
  refine wpAny_Call_Name_kw (ld_glob I hg hm ?_ hdb)
  exact PySem.W.callWith_K0 I.kIn M.kp (run_makeS (us := []) (vs := []) M F hr hb hx I .nil h)
/-! ### isinstance(e, T), e a caught error that has its dict -/
def rIsED (K : PySem.W.Frag) (D a : Addr) (cls : Value) (d : Option Addr) : List V → Hp → VK → Prop := fun xs H Q => ∃ (c : V) (cv : Value) (b : Bool) (dd : Addr) (fs : List (Str × V)), xs = [.ref a, c] ∧ cls = .ref D ∧ d = some dd ∧ H dd = some (.xd fs) ∧ (∀ u, RelV c u → u = cv) ∧ PySem.W.kitOne K (.ref D) cv = some b ∧ Q (.bl b) H
theorem call_isED {a D : Addr} {oe : Obj} {cls : Value} {d : Option Addr} {pn : List (Addr × Obj)} (C : ExcC X.K D) (hz : Zc cls d oe) (hf : ∃ vs, oe.data = .fields vs) : CallR (X.suite a ((a, oe) :: pn)) (.builtin "isinstance") (rIsED X.K D a cls d) := by
  intro pins s σ H xs us Q I r h
  obtain ⟨c, cv, b, dd, fs, rfl, rfl, rfl, hdd, hcv, e, q⟩ := h
  cases r with
  | cons rx rr =>
    cases rr with
    | cons rt rr =>
      cases rr
      cases rx
      have ec := hcv _ rt
      subst ec
      obtain ⟨hget, _⟩ := I.pin (a, oe) (List.mem_append.mpr (.inl List.mem_cons_self))
      obtain ⟨vs, hv⟩ := hf
      have hx : ObjOk X.prog X.w H s.heap dd (.xd fs) := I.hok dd _ hdd
      obtain ⟨mA, hns, hr⟩ := hx
      obtain ⟨od, ho, hl⟩ := lookIn_ns hns
      have J : PySem.W.InstAt s.heap a oe D (some od) := by
        obtain ⟨oc, od', oda, osl⟩ := oe
        obtain ⟨h1, h2⟩ := hz
        dsimp only at h1 h2 hv
        subst h1 h2 hv
        exact ⟨hget, rfl, rfl, ho⟩
      exact PySem.W.kia_one (PySem.W.kitx_exc (by obtain ⟨cd, hc, _⟩ := PySem.W.any_some C.hd; rw [hc]; rfl) C.hg C.hk C.hs C.ha C.hn C.ht C.hm) I.kIn J e (fun z => nomatch z) fun tk => ⟨.bl b, H, I.kept (t' := tk) fun _ _ z => z, rfl, q⟩
end

/-! ### C(k = v, ..), the parameters keyword-only -/
section
variable {X : Cx} {CX : CXT} {k : Nat} {f C : Addr} {fd : FuncData} {ps ks : List Str} {sp : Sp} {ES : L2.St → XK} {x : Str} {p pos : Pos} {kws : List Keyword} {tk : TA} {gV : List V → List V → List V}
def tMakeKS (C : Addr) (m : Nat) (sp : Sp) (gV : List V → List V → List V) (ES : L2.St → XK) (tk : TA) : TE := fun σ H Q => tk σ H fun zs H2 => zs.length = m ∧ ∀ x dx, H2 x = none → H2 dx = none → dx ≠ x →
  sp (gV [.ref x] zs) (upd (upd H2 dx (.own x)) x (.ins C dx [])) (fun v H3 => v = .non ∧ Q (.ref x) H3) (ES σ)
theorem pe_makeKS (M : Mk X.K C f) (F : FnOk X.prog X.w X.K X.mg X.base CX k f fd ps sp) (hr : Room (k + 1) X.A) (hg : Gl X x) (hm : X.mg x = some (.ref C)) (hbn : ∃ g, KBn X.K fd ps 1 ks g gV) (hx : ∀ σ, PassesAt CX X σ (ES σ)) (hkw : PK X kws tk)
    (hall : (backToKw pos (keywordEach kws X.env)).all (·.1.isSome) = true := by rfl) (hks : (backToKw pos (keywordEach kws X.env)).filterMap (·.1) = ks := by rfl) (hdb : (x == ("__debug__" : Str)) = false := by decide)
    (hpl : ((backTo pos (starEach [] X.env)).any (·.1) || (backToKw pos (keywordEach kws X.env)).any (·.1.isNone)) = false := by rfl) :
    PE X (.Call (.Name x p) [] kws pos) (tMakeKS C ks.length sp gV ES tk) := by
  obtain ⟨g, hb⟩ := hbn
  refine ⟨fun pins s σ H Q I h => ?_⟩
  refine wpAny_Call_Name_kw (ld_glob I hg hm ?_ hdb)
  refine PySem.W.callWith_KW0 (h₀ := X.base) I.ok.mod.kin M.kp hall ?_ hpl
  refine thn (hkw.run pos pins s σ H _ I h) fun ws s2 ⟨zs, H2, I2, rz, l2, q2⟩ => ⟨I2.kIn, ?_⟩
  rw [hks]
  have hq := q2 (s2.heap.objs.size + 1) s2.heap.objs.size (I2.hok.fresh (Nat.le_succ _)) (I2.hok.fresh (Nat.le_refl _)) (Nat.ne_of_lt (Nat.lt_succ_self _))
  have I3 := Inv.made (C := C) I2
  have r1 : Vals [V.ref (s2.heap.objs.size + 1)] [Value.ref (s2.heap.objs.size + 1)] := .cons rfl .nil
  have r2 := hb.rel r1 rz
  refine wpAny_call (make_map (f := f) I2.kIn M.makes M.init (beq_iff_eq.mp M.fn) (codeAny_mono (F.run _ X.stack _ _ ⟨[Value.ref (s2.heap.objs.size + 1)], ks.zip ws⟩ (g [Value.ref (s2.heap.objs.size + 1)] ws) _ _ (ES σ) (hr.make C [] (ks.zip ws))
    (I3.env0.make C [] (ks.zip ws)) (hb.to _ [Value.ref (s2.heap.objs.size + 1)] ws I3.kIn rfl (rz.length.symm.trans l2)) r2 hq) fun r s' hq' => ?_))
  cases r with
  | error e => exact hx σ pins _ _ e s' I3 hq'
  | ok fl =>
    cases fl with
    | ret u =>
      obtain ⟨v, H', I4, rv, ev, q3⟩ := I3.after hq'
      subst ev
      exact ⟨rv, ⟨V.ref (s2.heap.objs.size + 1), H', I4, rfl, q3⟩⟩
    | next => exact False.elim hq'
    | brk => exact False.elim hq'
    | cont => exact False.elim hq'
end
end Sx
set_option Elab.async false
set_option maxRecDepth 100000
set_option maxHeartbeats 4000000
set_option linter.all false
set_option autoImplicit false
/-! Readings, one step a lemma; heaps by footprints. -/
namespace Rd
open PySem PySem.Spec PyProof.Rows L2 Sx
/-! ### promises by the number of arguments -/
def A0 (φ : Hp → VK → XK → Prop) : Sp := fun vs H Q E => vs = [] ∧ φ H Q E
def A1 (φ : V → Hp → VK → XK → Prop) : Sp := fun vs H Q E => ∃ x, vs = [x] ∧ φ x H Q E
def A2 (φ : V → V → Hp → VK → XK → Prop) : Sp := fun vs H Q E => ∃ x y, vs = [x, y] ∧ φ x y H Q E
def A3 (φ : V → V → V → Hp → VK → XK → Prop) : Sp := fun vs H Q E => ∃ x y z, vs = [x, y, z] ∧ φ x y z H Q E
def A4 (φ : V → V → V → V → Hp → VK → XK → Prop) : Sp := fun vs H Q E => ∃ x y z u, vs = [x, y, z, u] ∧ φ x y z u H Q E
def A5 (φ : V → V → V → V → V → Hp → VK → XK → Prop) : Sp := fun vs H Q E => ∃ x y z u w, vs = [x, y, z, u, w] ∧ φ x y z u w H Q E
def A6 (φ : V → V → V → V → V → V → Hp → VK → XK → Prop) : Sp := fun vs H Q E => ∃ x y z u w o, vs = [x, y, z, u, w, o] ∧ φ x y z u w o H Q E
theorem A0.len {φ : Hp → VK → XK → Prop} {vs : List V} {H : Hp} {Q : VK} {E : XK} (h : A0 φ vs H Q E) : vs.length = 0 := by obtain ⟨rfl, _⟩ := h; rfl
theorem A1.len {φ : V → Hp → VK → XK → Prop} {vs : List V} {H : Hp} {Q : VK} {E : XK} (h : A1 φ vs H Q E) : vs.length = 1 := by obtain ⟨_, rfl, _⟩ := h; rfl
theorem A2.len {φ : V → V → Hp → VK → XK → Prop} {vs : List V} {H : Hp} {Q : VK} {E : XK} (h : A2 φ vs H Q E) : vs.length = 2 := by obtain ⟨_, _, rfl, _⟩ := h; rfl
theorem A3.len {φ : V → V → V → Hp → VK → XK → Prop} {vs : List V} {H : Hp} {Q : VK} {E : XK} (h : A3 φ vs H Q E) : vs.length = 3 := by obtain ⟨_, _, _, rfl, _⟩ := h; rfl
theorem A4.len {φ : V → V → V → V → Hp → VK → XK → Prop} {vs : List V} {H : Hp} {Q : VK} {E : XK} (h : A4 φ vs H Q E) : vs.length = 4 := by obtain ⟨_, _, _, _, rfl, _⟩ := h; rfl
theorem A5.len {φ : V → V → V → V → V → Hp → VK → XK → Prop} {vs : List V} {H : Hp} {Q : VK} {E : XK} (h : A5 φ vs H Q E) : vs.length = 5 := by obtain ⟨_, _, _, _, _, rfl, _⟩ := h; rfl
theorem A6.len {φ : V → V → V → V → V → V → Hp → VK → XK → Prop} {vs : List V} {H : Hp} {Q : VK} {E : XK} (h : A6 φ vs H Q E) : vs.length = 6 := by obtain ⟨_, _, _, _, _, _, rfl, _⟩ := h; rfl
theorem a0 {φ : Hp → VK → XK → Prop} {H : Hp} {Q : VK} {E : XK} (h : φ H Q E) : A0 φ [] H Q E := ⟨rfl, h⟩
theorem a1 {φ : V → Hp → VK → XK → Prop} {x : V} {H : Hp} {Q : VK} {E : XK} (h : φ x H Q E) : A1 φ [x] H Q E := ⟨x, rfl, h⟩
theorem a2 {φ : V → V → Hp → VK → XK → Prop} {x y : V} {H : Hp} {Q : VK} {E : XK} (h : φ x y H Q E) : A2 φ [x, y] H Q E := ⟨x, y, rfl, h⟩
theorem a3 {φ : V → V → V → Hp → VK → XK → Prop} {x y z : V} {H : Hp} {Q : VK} {E : XK} (h : φ x y z H Q E) : A3 φ [x, y, z] H Q E := ⟨x, y, z, rfl, h⟩
theorem a4 {φ : V → V → V → V → Hp → VK → XK → Prop} {x y z u : V} {H : Hp} {Q : VK} {E : XK} (h : φ x y z u H Q E) : A4 φ [x, y, z, u] H Q E := ⟨x, y, z, u, rfl, h⟩
theorem a5 {φ : V → V → V → V → V → Hp → VK → XK → Prop} {x y z u w : V} {H : Hp} {Q : VK} {E : XK} (h : φ x y z u w H Q E) : A5 φ [x, y, z, u, w] H Q E := ⟨x, y, z, u, w, rfl, h⟩
theorem a6 {φ : V → V → V → V → V → V → Hp → VK → XK → Prop} {x y z u w o : V} {H : Hp} {Q : VK} {E : XK} (h : φ x y z u w o H Q E) : A6 φ [x, y, z, u, w, o] H Q E := ⟨x, y, z, u, w, o, rfl, h⟩
def A7 (φ : V → V → V → V → V → V → V → Hp → VK → XK → Prop) : Sp := fun vs H Q E => ∃ x0 x1 x2 x3 x4 x5 x6, vs = [x0, x1, x2, x3, x4, x5, x6] ∧ φ x0 x1 x2 x3 x4 x5 x6 H Q E
theorem A7.len {φ : V → V → V → V → V → V → V → Hp → VK → XK → Prop} {vs : List V} {H : Hp} {Q : VK} {E : XK} (h : A7 φ vs H Q E) : vs.length = 7 := by obtain ⟨_, _, _, _, _, _, _, rfl, _⟩ := h; rfl
theorem a7 {φ : V → V → V → V → V → V → V → Hp → VK → XK → Prop} {x0 x1 x2 x3 x4 x5 x6 : V} {H : Hp} {Q : VK} {E : XK} (h : φ x0 x1 x2 x3 x4 x5 x6 H Q E) : A7 φ [x0, x1, x2, x3, x4, x5, x6] H Q E := ⟨x0, x1, x2, x3, x4, x5, x6, rfl, h⟩
def A8 (φ : V → V → V → V → V → V → V → V → Hp → VK → XK → Prop) : Sp := fun vs H Q E => ∃ x0 x1 x2 x3 x4 x5 x6 x7, vs = [x0, x1, x2, x3, x4, x5, x6, x7] ∧ φ x0 x1 x2 x3 x4 x5 x6 x7 H Q E
theorem A8.len {φ : V → V → V → V → V → V → V → V → Hp → VK → XK → Prop} {vs : List V} {H : Hp} {Q : VK} {E : XK} (h : A8 φ vs H Q E) : vs.length = 8 := by obtain ⟨_, _, _, _, _, _, _, _, rfl, _⟩ := h; rfl
theorem a8 {φ : V → V → V → V → V → V → V → V → Hp → VK → XK → Prop} {x0 x1 x2 x3 x4 x5 x6 x7 : V} {H : Hp} {Q : VK} {E : XK} (h : φ x0 x1 x2 x3 x4 x5 x6 x7 H Q E) : A8 φ [x0, x1, x2, x3, x4, x5, x6, x7] H Q E := ⟨x0, x1, x2, x3, x4, x5, x6, x7, rfl, h⟩
def A9 (φ : V → V → V → V → V → V → V → V → V → Hp → VK → XK → Prop) : Sp := fun vs H Q E => ∃ x0 x1 x2 x3 x4 x5 x6 x7 x8, vs = [x0, x1, x2, x3, x4, x5, x6, x7, x8] ∧ φ x0 x1 x2 x3 x4 x5 x6 x7 x8 H Q E
theorem A9.len {φ : V → V → V → V → V → V → V → V → V → Hp → VK → XK → Prop} {vs : List V} {H : Hp} {Q : VK} {E : XK} (h : A9 φ vs H Q E) : vs.length = 9 := by obtain ⟨_, _, _, _, _, _, _, _, _, rfl, _⟩ := h; rfl
theorem a9 {φ : V → V → V → V → V → V → V → V → V → Hp → VK → XK → Prop} {x0 x1 x2 x3 x4 x5 x6 x7 x8 : V} {H : Hp} {Q : VK} {E : XK} (h : φ x0 x1 x2 x3 x4 x5 x6 x7 x8 H Q E) : A9 φ [x0, x1, x2, x3, x4, x5, x6, x7, x8] H Q E := ⟨x0, x1, x2, x3, x4, x5, x6, x7, x8, rfl, h⟩
def A10 (φ : V → V → V → V → V → V → V → V → V → V → Hp → VK → XK → Prop) : Sp := fun vs H Q E => ∃ x0 x1 x2 x3 x4 x5 x6 x7 x8 x9, vs = [x0, x1, x2, x3, x4, x5, x6, x7, x8, x9] ∧ φ x0 x1 x2 x3 x4 x5 x6 x7 x8 x9 H Q E
theorem A10.len {φ : V → V → V → V → V → V → V → V → V → V → Hp → VK → XK → Prop} {vs : List V} {H : Hp} {Q : VK} {E : XK} (h : A10 φ vs H Q E) : vs.length = 10 := by obtain ⟨_, _, _, _, _, _, _, _, _, _, rfl, _⟩ := h; rfl
theorem a10 {φ : V → V → V → V → V → V → V → V → V → V → Hp → VK → XK → Prop} {x0 x1 x2 x3 x4 x5 x6 x7 x8 x9 : V} {H : Hp} {Q : VK} {E : XK} (h : φ x0 x1 x2 x3 x4 x5 x6 x7 x8 x9 H Q E) : A10 φ [x0, x1, x2, x3, x4, x5, x6, x7, x8, x9] H Q E := ⟨x0, x1, x2, x3, x4, x5, x6, x7, x8, x9, rfl, h⟩
def A11 (φ : V → V → V → V → V → V → V → V → V → V → V → Hp → VK → XK → Prop) : Sp := fun vs H Q E => ∃ x0 x1 x2 x3 x4 x5 x6 x7 x8 x9 x10, vs = [x0, x1, x2, x3, x4, x5, x6, x7, x8, x9, x10] ∧ φ x0 x1 x2 x3 x4 x5 x6 x7 x8 x9 x10 H Q E
theorem A11.len {φ : V → V → V → V → V → V → V → V → V → V → V → Hp → VK → XK → Prop} {vs : List V} {H : Hp} {Q : VK} {E : XK} (h : A11 φ vs H Q E) : vs.length = 11 := by obtain ⟨_, _, _, _, _, _, _, _, _, _, _, rfl, _⟩ := h; rfl
theorem a11 {φ : V → V → V → V → V → V → V → V → V → V → V → Hp → VK → XK → Prop} {x0 x1 x2 x3 x4 x5 x6 x7 x8 x9 x10 : V} {H : Hp} {Q : VK} {E : XK} (h : φ x0 x1 x2 x3 x4 x5 x6 x7 x8 x9 x10 H Q E) : A11 φ [x0, x1, x2, x3, x4, x5, x6, x7, x8, x9, x10] H Q E := ⟨x0, x1, x2, x3, x4, x5, x6, x7, x8, x9, x10, rfl, h⟩
def A12 (φ : V → V → V → V → V → V → V → V → V → V → V → V → Hp → VK → XK → Prop) : Sp := fun vs H Q E => ∃ x0 x1 x2 x3 x4 x5 x6 x7 x8 x9 x10 x11, vs = [x0, x1, x2, x3, x4, x5, x6, x7, x8, x9, x10, x11] ∧ φ x0 x1 x2 x3 x4 x5 x6 x7 x8 x9 x10 x11 H Q E
theorem A12.len {φ : V → V → V → V → V → V → V → V → V → V → V → V → Hp → VK → XK → Prop} {vs : List V} {H : Hp} {Q : VK} {E : XK} (h : A12 φ vs H Q E) : vs.length = 12 := by obtain ⟨_, _, _, _, _, _, _, _, _, _, _, _, rfl, _⟩ := h; rfl
theorem a12 {φ : V → V → V → V → V → V → V → V → V → V → V → V → Hp → VK → XK → Prop} {x0 x1 x2 x3 x4 x5 x6 x7 x8 x9 x10 x11 : V} {H : Hp} {Q : VK} {E : XK} (h : φ x0 x1 x2 x3 x4 x5 x6 x7 x8 x9 x10 x11 H Q E) : A12 φ [x0, x1, x2, x3, x4, x5, x6, x7, x8, x9, x10, x11] H Q E := ⟨x0, x1, x2, x3, x4, x5, x6, x7, x8, x9, x10, x11, rfl, h⟩
/-! ### attribute lists -/
theorem putF_hit (f : Str) (v y : V) (r : List (Str × V)) : putF f v ((f, y) :: r) = (f, v) :: r := if_pos rfl
theorem putF_miss {f g : Str} (h : ¬ g = f) (v y : V) (r : List (Str × V)) : putF f v ((g, y) :: r) = (g, y) :: putF f v r := if_neg h
theorem putF_nil (f : Str) (v : V) : putF f v [] = [(f, v)] := rfl
theorem look_hit (f : Str) (y : V) (r : List (Str × V)) : ((f, y) :: r).lookup f = some y := by rw [lookup_put, if_pos rfl]
theorem look_miss {f g : Str} (h : ¬ g = f) (y : V) (r : List (Str × V)) : ((f, y) :: r).lookup g = r.lookup g := by rw [lookup_put, if_neg h]
/-! ### steps -/
section
variable {K : PySem.W.Frag} {D : Ends} {σ : L2.St} {H : Hp} {t u : TS} {te ta tb tc : TE} {tt tu : TT} {g : TG} {Q : VK} {QT : Bool → Hp → Prop} {v x y : V} {i : Nat} {r : R2} {tl tr : TA} {QA : List V → Hp → Prop}
theorem s_seq (h : t { D with nx := u D } σ H) : tSeq t u D σ H := h
theorem s_asg (h : te σ H fun x H1 => g x σ H1 D.nx) : tAsg te g D σ H := h
theorem g_name {R : L2.St → Hp → Prop} (h : R (σ.set i (some v)) H) : gName i v σ H R := h
theorem s_ret (h : te σ H D.rt) : tRet te D σ H := h
theorem s_retN (h : D.rt .non H) : tRetN D σ H := h
theorem s_drop (h : te σ H fun _ H1 => D.nx σ H1) : tDrop te D σ H := h
theorem s_if (h : tt σ H fun b H1 => if b = true then t D σ H1 else u D σ H1) : tIfS tt t u D σ H := h
theorem s_next (h : D.nx σ H) : tNext D σ H := h
theorem s_cont (h : D.ct σ H) : tCont D σ H := h
theorem s_break (h : D.bk σ H) : tBreak D σ H := h
theorem d_nx {a c d : L2.St → Hp → Prop} {b : V → Hp → Prop} (h : a σ H) : (Ends.mk a b c d).nx σ H := h
theorem d_rt {a c d : L2.St → Hp → Prop} {b : V → Hp → Prop} (h : b v H) : (Ends.mk a b c d).rt v H := h
theorem d_bk {a c d : L2.St → Hp → Prop} {b : V → Hp → Prop} (h : c σ H) : (Ends.mk a b c d).bk σ H := h
theorem d_ct {a c d : L2.St → Hp → Prop} {b : V → Hp → Prop} (h : d σ H) : (Ends.mk a b c d).ct σ H := h
def kSet (K : PySem.W.Frag) (f : Str) (y x : V) (H : Hp) (R : Hp → Prop) : Prop := ∃ a C dx fs, x = .ref a ∧ H a = some (.ins C dx fs) ∧ Cls K C ∧ NoAttr K C f ∧ fs.length < 1000 ∧ R (upd H a (.ins C dx (putF f y fs)))
theorem s_fld {f : Str} (h : tb σ H fun y H1 => ta σ H1 fun x H2 => kSet K f y x H2 (D.nx σ)) : sFld K ta tb f D σ H := h
theorem k_set {f : Str} {R : Hp → Prop} {a C dx : Addr} {fs fs' : List (Str × V)} (h : H a = some (.ins C dx fs)) (c : Cls K C) (n : NoAttr K C f) (hp : putF f y fs = fs') (l : fs.length < 1000) (q : R (upd H a (.ins C dx fs'))) : kSet K f y (.ref a) H R := ⟨a, C, dx, fs, rfl, h, c, n, l, hp ▸ q⟩
theorem e_var (h : σ[i]? = some (some v)) (q : Q v H) : tVar i σ H Q := ⟨v, h, q⟩
theorem e_c (q : Q v H) : tC v σ H Q := q
theorem e_op (h : ta σ H fun x H1 => tb σ H1 fun y H2 => r x y H2 Q) : tOp r ta tb σ H Q := h
theorem e_un {ru : V → Hp → VK → Prop} (h : ta σ H fun x H1 => ru x H1 Q) : tUn ru ta σ H Q := h
theorem o_I0 {gg : Int → Int → V} {m n : Int} (q : Q (gg m n) H) : rI0 gg (.int m) (.int n) H Q := ⟨m, n, rfl, rfl, q⟩
theorem o_I {Cc : Int → Int → Prop} {gg : Int → Int → V} {m n : Int} (c : Cc m n) (q : Q (gg m n) H) : rI Cc gg (.int m) (.int n) H Q := ⟨m, n, rfl, rfl, c, q⟩
theorem o_U {gg : Int → V} {m : Int} (q : Q (gg m) H) : rU gg (.int m) H Q := ⟨m, rfl, q⟩
theorem o_eq (s : scal x y = true) (q : Q (.bl (decide (x = y))) H) : rEq x y H Q := ⟨s, q⟩
theorem o_ne (s : scal x y = true) (q : Q (.bl (!decide (x = y))) H) : rNe x y H Q := ⟨s, q⟩
theorem o_ixL {p : Addr} {xs : List V} {n : Int} (h : SqL K H p xs) (a : atI xs n = some v) (q : Q v H) : rIxL K (.ref p) (.int n) H Q := ⟨p, xs, n, v, rfl, rfl, h, a, q⟩
theorem o_ixT {p : Addr} {xs : List V} {n : Int} (h : SqT K H p xs) (a : atI xs n = some v) (q : Q v H) : rIxT K (.ref p) (.int n) H Q := ⟨p, xs, n, v, rfl, rfl, h, a, q⟩
def kFld (K : PySem.W.Frag) (f : Str) (x : V) (H : Hp) (Q : VK) : Prop := ∃ a C dx fs v, x = .ref a ∧ H a = some (.ins C dx fs) ∧ Cls K C ∧ NoAttr K C f ∧ fs.lookup f = some v ∧ Q v H
theorem e_fld {f : Str} (h : ta σ H fun x H1 => kFld K f x H1 Q) : tFld K ta f σ H Q := h
theorem k_fld {f : Str} {a C dx : Addr} {fs : List (Str × V)} (h : H a = some (.ins C dx fs)) (c : Cls K C) (n : NoAttr K C f) (l : fs.lookup f = some v) (q : Q v H) : kFld K f (.ref a) H Q := ⟨a, C, dx, fs, v, rfl, h, c, n, l, q⟩
def kMeth (C : Addr) (m : Str) (sp : Sp) (E : XK) (t : TA) (σ : L2.St) (x : V) (H : Hp) (Q : VK) : Prop := ∃ a dx fs, x = .ref a ∧ H a = some (.ins C dx fs) ∧ fs.lookup m = none ∧ t σ H fun vs H2 => sp (x :: vs) H2 Q E
theorem e_meth {C : Addr} {m : Str} {sp : Sp} {ES : L2.St → XK} (h : ta σ H fun x H1 => kMeth C m sp (ES σ) tl σ x H1 Q) : tMethS C m sp ES ta tl σ H Q := h
theorem k_meth {C a dx : Addr} {m : Str} {sp : Sp} {E : XK} {fs : List (Str × V)} (h : H a = some (.ins C dx fs)) (l : fs.lookup m = none) (q : tl σ H fun vs H2 => sp (.ref a :: vs) H2 Q E) : kMeth C m sp E tl σ (.ref a) H Q := ⟨a, dx, fs, rfl, h, l, q⟩
theorem e_call {sp : Sp} {ES : L2.St → XK} (h : tl σ H fun vs H1 => sp vs H1 Q (ES σ)) : tCallS sp ES tl σ H Q := h
theorem e_make {C : Addr} {sp : Sp} {ES : L2.St → XK} (h : tl σ H fun vs H1 => ∀ x dx, H1 x = none → H1 dx = none → dx ≠ x → sp (.ref x :: vs) (upd (upd H1 dx (.own x)) x (.ins C dx [])) (fun v H2 => v = .non ∧ Q (.ref x) H2) (ES σ)) : tMakeS C sp ES tl σ H Q := h
theorem e_cb {rc : List V → Hp → VK → Prop} (h : tl σ H fun vs H1 => rc vs H1 Q) : tCB rc tl σ H Q := h
theorem l_nil (h : QA [] H) : tNil σ H QA := h
theorem l_cons (h : ta σ H fun x H1 => tl σ H1 fun xs H2 => QA (x :: xs) H2) : tCons ta tl σ H QA := h
theorem e_lst (h : tl σ H fun xs H1 => xs.length ≤ sizeLine ∧ ∀ p, H1 p = none → Q (.ref p) (upd H1 p (.lst xs))) : tLst tl σ H Q := h
theorem e_tup (h : tl σ H fun xs H1 => xs.length ≤ sizeLine ∧ ∀ p, H1 p = none → Q (.ref p) (upd H1 p (.tup xs))) : tTup tl σ H Q := h
theorem e_bm {T : String} {rm : V → List V → Hp → VK → Prop} (h : ta σ H fun x H1 => tyV K T x H1 ∧ tl σ H1 fun xs H2 => rm x xs H2 Q) : tBM K T rm ta tl σ H Q := h
theorem e_bm0 {T : String} {rm : V → List V → Hp → VK → Prop} (h : ta σ H fun x H1 => tyV K T x H1 ∧ rm x [] H1 Q) : tBM0 K T rm ta σ H Q := h
theorem e_not (h : ta σ H fun x H1 => ∃ c, x = .bl c ∧ Q (.bl (!c)) H1) : tNotV ta σ H Q := h
theorem e_if (h : tt σ H fun c H1 => if c = true then ta σ H1 Q else tb σ H1 Q) : tIf tt ta tb σ H Q := h
def kT (x : V) (H : Hp) (QT : Bool → Hp → Prop) : Prop := ∃ k, x = .bl k ∧ QT k H
theorem k_t {b : Bool} (q : QT b H) : kT (.bl b) H QT := ⟨b, rfl, q⟩
theorem t_test (h : te σ H fun x H1 => kT x H1 QT) : tTest te σ H QT := h
theorem t_B (h : te σ H fun x H1 => kT x H1 QT) : tB te σ H QT := h
theorem t_and (h : tt σ H fun c H1 => if c = true then tu σ H1 QT else QT false H1) : tAnd tt tu σ H QT := h
theorem t_or (h : tt σ H fun c H1 => if c = true then QT true H1 else tu σ H1 QT) : tOr tt tu σ H QT := h
theorem t_not (h : tt σ H fun c H1 => QT (!c) H1) : tNot tt σ H QT := h
theorem e_and (h : ta σ H fun x H1 => ∃ c, x = .bl c ∧ if c = true then tb σ H1 Q else Q (.bl false) H1) : tAndV ta tb σ H Q := h
theorem e_or (h : ta σ H fun x H1 => ∃ c, x = .bl c ∧ if c = true then Q (.bl true) H1 else tb σ H1 Q) : tOrV ta tb σ H Q := h
theorem e_chain {r' : R2} (h : ta σ H fun x H1 => tb σ H1 fun y H2 => r x y H2 fun z H3 => kT z H3 fun k H4 => if k = true then tc σ H4 fun w' H5 => r' y w' H5 Q else Q (.bl false) H4) : tChain r r' ta tb tc σ H Q := by
  refine h
theorem s_raise {W : WX} {C : Addr} {fld : Str} (h : te σ H fun v H1 => okV v ∧ ∀ d, H1 d = none → W (.ref C) (some d) σ (upd H1 d (.xd [(fld, v)]))) : tRaiseE W C fld te D σ H := h
theorem e_sl {rs : V → Option Int → Option Int → Hp → VK → Prop} {to th : TO} (h : te σ H fun x H1 => to σ H1 fun l H2 => th σ H2 fun u H3 => rs x l u H3 Q) : tSl rs te to th σ H Q := h
theorem p_no {QO : Option Int → Hp → Prop} (h : QO none H) : tNoPart σ H QO := h
def kI (x : V) (H : Hp) (QO : Option Int → Hp → Prop) : Prop := ∃ n, x = .int n ∧ QO (some n) H
theorem k_i {QO : Option Int → Hp → Prop} {n : Int} (q : QO (some n) H) : kI (.int n) H QO := ⟨n, rfl, q⟩
theorem p_some {QO : Option Int → Hp → Prop} (h : te σ H fun x H1 => kI x H1 QO) : tPart te σ H QO := h
/-! ### ifs -/
theorem if_d {c A B : Prop} [Decidable c] (h1 : c → A) (h2 : ¬ c → B) : if decide c = true then A else B := by
  by_cases h : c
  · rw [if_pos (decide_eq_true h)]; exact h1 h
  · rw [if_neg (by rw [decide_eq_false h]; exact Bool.false_ne_true)]; exact h2 h
theorem if_nd {c A B : Prop} [Decidable c] (h1 : ¬ c → A) (h2 : c → B) : if (!decide c) = true then A else B := by
  by_cases h : c
  · rw [decide_eq_true h]; exact iteF (h2 h)
  · rw [decide_eq_false h]; exact iteT (h1 h)
theorem if_dT {c A B : Prop} [Decidable c] (h : c) (q : A) : if decide c = true then A else B := by rw [if_pos (decide_eq_true h)]; exact q
theorem if_dF {c A B : Prop} [Decidable c] (h : ¬ c) (q : B) : if decide c = true then A else B := if_d (fun z => absurd z h) fun _ => q
theorem if_ndT {c A B : Prop} [Decidable c] (h : ¬ c) (q : A) : if (!decide c) = true then A else B := if_nd (fun _ => q) fun z => absurd z h
theorem if_ndF {c A B : Prop} [Decidable c] (h : c) (q : B) : if (!decide c) = true then A else B := if_nd (fun z => absurd h z) fun _ => q
theorem if_b {b : Bool} {A B : Prop} (h1 : b = true → A) (h2 : b = false → B) : if b = true then A else B := by
  cases b with
  | true => exact iteT (h1 rfl)
  | false => exact iteF (h2 rfl)
end
/-! ### lists of values -/
theorem upd_rw {H : Hp} {a : Addr} {o : HO} (h : H a = some o) : upd H a o = H := by
  funext b
  by_cases hb : b = a
  · rw [hb, upd_same, h]
  · rw [upd_ne hb]
theorem sz {n : Nat} (h : n ≤ 100000) : n ≤ sizeLine := by rw [sizeLine_eq]; omega
theorem szl {n : Nat} (h : n < 100000) : n < sizeLine := by rw [sizeLine_eq]; omega
/-! ### what a step may touch -/
/-- all that was tracked, but at fp, is as it was -/
def Fp (fp : List Addr) (H H' : Hp) : Prop := ∀ b o, H b = some o → b ∉ fp → H' b = some o
theorem Fp.refl (fp : List Addr) (H : Hp) : Fp fp H H := fun _ _ h _ => h
theorem Fp.trans {fp : List Addr} {H H1 H2 : Hp} (a : Fp fp H H1) (b : Fp fp H1 H2) : Fp fp H H2 := fun c o h n => b c o (a c o h n) n
theorem Fp.mono {fp fq : List Addr} {H H' : Hp} (a : Fp fp H H') (s : ∀ x, x ∈ fp → x ∈ fq) : Fp fq H H' := fun c o h n => a c o h fun z => n (s c z)
theorem Fp.new {fp : List Addr} {H : Hp} {a : Addr} {o : HO} (h : H a = none) : Fp fp H (upd H a o) := fun c u e _ => by rw [upd_ne (ne_of_none e h)]; exact e
theorem Fp.at_ {fp : List Addr} {H : Hp} {a : Addr} {o : HO} (h : a ∈ fp) : Fp fp H (upd H a o) := fun c u e n => by
  rw [upd_ne (fun z => n (by rw [z]; exact h))]
  exact e
/-- what was new in H does not count -/
theorem Fp.drop {fp fq : List Addr} {H H' : Hp} (a : Fp fp H H') (s : ∀ x, x ∈ fp → x ∈ fq ∨ H x = none) : Fp fq H H' := fun c o h n => a c o h fun z => by
  rcases s c z with q | q
  · exact n q
  · rw [q] at h; cases h
theorem Fp.free {fp : List Addr} {H H' : Hp} (e : Fp fp H H') {l : Addr} (n : l ∉ fp) (h : H' l = none) : H l = none := by
  cases q : H l with
  | none => rfl
  | some o => rw [e l o q n] at h; cases h
theorem Fp.seq {K : PySem.W.Frag} {fp : List Addr} {H H' : Hp} {a : Addr} {xs : List V} (e : Fp fp H H') (n : a ∉ fp) (h : SqL K H a xs) : SqL K H' a xs := by
  rcases h with (h | ⟨o, h⟩) | h
  · exact .inl (.inl (e _ _ h n))
  · exact .inl (.inr ⟨o, e _ _ h n⟩)
  · exact .inr h
theorem Fp.tup {K : PySem.W.Frag} {fp : List Addr} {H H' : Hp} {a : Addr} {xs : List V} (e : Fp fp H H') (n : a ∉ fp) (h : SqT K H a xs) : SqT K H' a xs := by
  rcases h with (h | ⟨o, h⟩) | h
  · exact .inl (.inl (e _ _ h n))
  · exact .inl (.inr ⟨o, e _ _ h n⟩)
  · exact .inr h

/-! ### built-ins by name -/
section
variable {X : Cx} {K : PySem.W.Frag} {H : Hp} {Q : VK} {v : V}
def rLn (K : PySem.W.Frag) : List V → Hp → VK → Prop := fun xs H Q => ∃ p ys, xs = [.ref p] ∧ (SqL K H p ys ∨ SqT K H p ys) ∧ Q (.int ys.length) H
theorem call_ln : CallR X (.builtin "len") (rLn X.K) := call_len_seq
theorem c_ln {p : Addr} {ys : List V} (h : SqL K H p ys) (q : Q (.int ys.length) H) : rLn K [.ref p] H Q := ⟨p, ys, rfl, .inl h, q⟩
theorem c_lnT {p : Addr} {ys : List V} (h : SqT K H p ys) (q : Q (.int ys.length) H) : rLn K [.ref p] H Q := ⟨p, ys, rfl, .inr h, q⟩
def rAb : List V → Hp → VK → Prop := fun xs H Q => ∃ i, xs = [.int i] ∧ Q (.int (if i < 0 then -i else i)) H
theorem call_ab : CallR X (.builtin "abs") rAb := call_abs
theorem c_ab {i : Int} (q : Q (.int (if i < 0 then -i else i)) H) : rAb [.int i] H Q := ⟨i, rfl, q⟩
def rIn1 : List V → Hp → VK → Prop := fun xs H Q => ∃ i, xs = [.int i] ∧ Q (.int i) H
theorem call_in : CallR X (.type "int") rIn1 := fun pins s σ H xs us Q I r ⟨i, e, q⟩ => call_int1 pins s σ H xs us Q I r (.inl ⟨i, e, q⟩)
theorem c_in {i : Int} (q : Q (.int i) H) : rIn1 [.int i] H Q := ⟨i, rfl, q⟩
def rMx : List V → Hp → VK → Prop := fun xs H Q => ∃ i j, xs = [.int i, .int j] ∧ Q (.int (if j > i then j else i)) H
theorem call_mx (hc : X.calm = true) : CallR X (.builtin "max") rMx := call_max2 hc
theorem c_mx {i j : Int} (q : Q (.int (if j > i then j else i)) H) : rMx [.int i, .int j] H Q := ⟨i, j, rfl, q⟩
def rMn : List V → Hp → VK → Prop := fun xs H Q => ∃ i j, xs = [.int i, .int j] ∧ Q (.int (if j < i then j else i)) H
theorem call_mn (hc : X.calm = true) : CallR X (.builtin "min") rMn := call_min2 hc
theorem c_mn {i j : Int} (q : Q (.int (if j < i then j else i)) H) : rMn [.int i, .int j] H Q := ⟨i, j, rfl, q⟩
def rLs (K : PySem.W.Frag) : List V → Hp → VK → Prop := fun xs H Q => ∃ p ys, xs = [.ref p] ∧ (SqL K H p ys ∨ SqT K H p ys) ∧ ∀ l, H l = none → Q (.ref l) (upd H l (.lst ys))
theorem call_ls : CallR X (.type "list") (rLs X.K) := call_list_of
theorem c_ls {p : Addr} {ys : List V} (h : SqL K H p ys) (q : ∀ l, H l = none → Q (.ref l) (upd H l (.lst ys))) : rLs K [.ref p] H Q := ⟨p, ys, rfl, .inl h, q⟩
theorem c_app {l : Addr} {xs : List V} (h : H l = some (.lst xs)) (z : xs.length < sizeLine) (q : Q .non (upd H l (.lst (xs ++ [v])))) : rAppend (.ref l) [v] H Q := ⟨l, xs, v, rfl, rfl, h, z, q⟩
theorem c_pop0 {l : Addr} {x : V} {xs : List V} (h : H l = some (.lst (x :: xs))) (z : xs.length < 100000) (q : Q x (upd H l (.lst xs))) : rPopAt (.ref l) [.int 0] H Q :=
  ⟨l, x :: xs, 0, 0, x, rfl, rfl, h, by decide, by decide, by
    unfold seqIndex?
    first | rfl | simp, rfl, q⟩
theorem c_setL {p : Addr} {xs : List V} {n : Int} {j : Nat} {R : Hp → Prop} (h : H p = some (.lst xs)) (e : n = (j : Int)) (hj : j < xs.length) (q : R (upd H p (.lst (xs.set j v)))) : rSetL (.ref p) (.int n) v H R := by
  subst e
  exact ⟨p, xs, _, j, rfl, rfl, h, Evl.ixN_nat hj, q⟩
theorem g_sub {to ti : TE} {ts : TSet} {σ : L2.St} {R : L2.St → Hp → Prop} (h : to σ H fun o H1 => ti σ H1 fun i H2 => ts o i v H2 fun H3 => R σ H3) : gSub to ti ts v σ H R := h
theorem o_cat {l b : Addr} {xs zs : List V} (h : H l = some (.lst xs)) (h' : H b = some (.lst zs)) (z : xs.length + zs.length ≤ sizeLine) (q : ∀ p, H p = none → Q (.ref p) (upd H p (.lst (xs ++ zs)))) : rCat (.ref l) (.ref b) H Q := ⟨l, b, xs, zs, rfl, rfl, h, h', z, q⟩
theorem o_slL {a : Addr} {xs : List V} {lo hi : Option Int} (h : SqL K H a xs) (q : ∀ p, H p = none → Q (.ref p) (upd H p (.lst (cutV xs lo hi)))) : rSlL K (.ref a) lo hi H Q := ⟨a, xs, rfl, h, q⟩
/-- data of one level, as PyData -/
def toD : V → PyData
  | .bl b => .bool b
  | .int i => .int i
  | .str x => .str x
  | _ => .none
def flat : V → Bool
  | .non => true | .bl _ => true | .int _ => true | .str x => PyData.strOk x | _ => false
theorem dp_flat {x : V} (h : flat x = true) : Dp K H x (toD x) := by
  cases x with
  | non => exact .non
  | bl b => exact .bl b
  | int i => exact .int i
  | str z => exact .str z
  | byt _ => cases h
  | flt _ => cases h
  | ref _ => cases h
  | ty _ => cases h
theorem dp_flats : ∀ {xs : List V}, (∀ x ∈ xs, flat x = true) → DpAll K H xs (xs.map toD)
  | [], _ => .nil
  | x :: xs, h => .cons (dp_flat (h x List.mem_cons_self)) (dp_flats fun y hy => h y (List.mem_cons_of_mem _ hy))
theorem lay_flat {x : V} (h : flat x = true) : (toD x).canLay0 = true := by
  cases x with
  | str z => show PyData.strOk z = true; exact h
  | non => rfl
  | bl b => rfl
  | int i => rfl
  | byt _ => cases h
  | flt _ => cases h
  | ref _ => cases h
  | ty _ => cases h
theorem lay_flats : ∀ {xs : List V}, (∀ x ∈ xs, flat x = true) → PyData.canLayAll0 (xs.map toD) = true
  | [], _ => rfl
  | x :: xs, h => by
    show ((toD x).canLay0 && PyData.canLayAll0 (xs.map toD)) = true
    rw [lay_flat (h x List.mem_cons_self), lay_flats fun y hy => h y (List.mem_cons_of_mem _ hy)]
    rfl
theorem depth_flat (x : V) : (toD x).depth ≤ 1 := by
  cases x <;> first | decide | (simp [toD, PyData.depth])
theorem depth_flats : ∀ xs : List V, PyData.depthAll (xs.map toD) ≤ 1
  | [] => by simp [PyData.depthAll]
  | x :: xs => by
    have h1 := depth_flat x
    have h2 := depth_flats xs
    show PyData.depthAll (toD x :: xs.map toD) ≤ 1
    simp only [PyData.depthAll]
    omega
theorem shaped_flat {x : V} (h : flat x = true) : SeqAt.shaped (toD x) = true := by
  show ((toD x).canLay0 && decide ((toD x).depth ≤ 64)) = true
  rw [lay_flat h, decide_eq_true (Nat.le_trans (depth_flat x) (by decide))]
  rfl
theorem shaped_flats {xs : List V} (h : ∀ x ∈ xs, flat x = true) : SeqAt.shaped (.list (xs.map toD)) = true := by
  have d1 := depth_flats xs
  show (PyData.canLay0 (.list (xs.map toD)) && decide (PyData.depth (.list (xs.map toD)) ≤ 64)) = true
  have e1 : PyData.canLay0 (.list (xs.map toD)) = PyData.canLayAll0 (xs.map toD) := by simp only [PyData.canLay0]
  have e2 : PyData.depth (.list (xs.map toD)) ≤ 64 := by simp only [PyData.depth]; omega
  rw [e1, lay_flats h, decide_eq_true e2]
  rfl
theorem shaped_flatT {xs : List V} (h : ∀ x ∈ xs, flat x = true) : SeqAt.shaped (.tuple (xs.map toD)) = true := by
  have d1 := depth_flats xs
  show (PyData.canLay0 (.tuple (xs.map toD)) && decide (PyData.depth (.tuple (xs.map toD)) ≤ 64)) = true
  have e1 : PyData.canLay0 (.tuple (xs.map toD)) = PyData.canLayAll0 (xs.map toD) := by simp only [PyData.canLay0]
  have e2 : PyData.depth (.tuple (xs.map toD)) ≤ 64 := by simp only [PyData.depth]; omega
  rw [e1, lay_flats h, decide_eq_true e2]
  rfl
/-- the same data on both sides -/
theorem eqv_self {d : PyData} (h : SeqAt.shaped d = true) : PyData.eqv d d = true := by
  have h1 : d.canLay0 = true := SeqAt.canLay_of_shaped h
  first | exact SeqAt.eqv_refl d h1 | exact P3.eqv_refl d h1 | exact eqv_refl d h1
theorem o_eqD {x y : V} {d : PyData} (h1 : Dp K H x d) (h2 : Dp K H y d) (s : SeqAt.shaped d = true) (q : Q (.bl true) H) : rEqD K x y H Q := ⟨d, d, h1, h2, s, s, by rw [eqv_self s]; exact q⟩
theorem o_neD {x y : V} {d : PyData} (h1 : Dp K H x d) (h2 : Dp K H y d) (s : SeqAt.shaped d = true) (q : Q (.bl false) H) : rNeD K x y H Q := ⟨d, d, h1, h2, s, s, by rw [eqv_self s]; exact q⟩
/-- two lists of plain values that are one list -/
theorem o_neL {a b : Addr} {xs : List V} (h1 : SqL K H a xs) (h2 : SqL K H b xs) (f : ∀ x ∈ xs, flat x = true) (q : Q (.bl false) H) : rNeD K (.ref a) (.ref b) H Q :=
  o_neD (.lst h1 (dp_flats f)) (.lst h2 (dp_flats f)) (shaped_flats f) q
theorem o_eqL {a b : Addr} {xs : List V} (h1 : SqL K H a xs) (h2 : SqL K H b xs) (f : ∀ x ∈ xs, flat x = true) (q : Q (.bl true) H) : rEqD K (.ref a) (.ref b) H Q :=
  o_eqD (.lst h1 (dp_flats f)) (.lst h2 (dp_flats f)) (shaped_flats f) q
theorem o_neT {a b : Addr} {xs : List V} (h1 : SqT K H a xs) (h2 : SqT K H b xs) (f : ∀ x ∈ xs, flat x = true) (q : Q (.bl false) H) : rNeD K (.ref a) (.ref b) H Q :=
  o_neD (.tup h1 (dp_flats f)) (.tup h2 (dp_flats f)) (shaped_flatT f) q
theorem flat_ints (ns : List Int) : ∀ x ∈ ns.map V.int, flat x = true := fun x hx => by
  obtain ⟨n, _, rfl⟩ := List.mem_map.mp hx
  rfl
end

/-! ### loops and comprehensions -/
section
variable {K : PySem.W.Frag} {D : Ends} {σ : L2.St} {H : Hp} {tb : TS} {te tl : TE} {tt tc : TT} {g : TG} {Q : VK} {j : Nat} {b : Addr} {xs ys : List V} {vs : List Nat}
theorem f_list (Pv : Nat → L2.St → Hp → Prop) (hv : σ[j]? = some (some (.ref b))) (hS : SqL K H b xs) (h0 : Pv 0 σ H) (hl : ∀ i σ' H', i ≤ xs.length → Pv i σ' H' → SqL K H' b xs)
    (hs : ∀ i x σ' H', xs[i]? = some x → Pv i σ' H' → g x σ' H' fun σ2 H2 => tb { D with nx := Pv (i + 1), ct := Pv (i + 1), bk := D.nx } σ2 H2) (hd : ∀ σ' H', Pv xs.length σ' H' → D.nx σ' H') : tFor (iList K (tVar j)) g tb D σ H :=
  ⟨_, hv, b, rfl, ⟨_, hS⟩, for_list Pv h0 hl hs hd⟩
/-- over a list that an expression hands back -/
theorem f_listE (h : tl σ H fun x H1 => ∃ (p : Addr) (xs : List V) (Pv : Nat → L2.St → Hp → Prop), x = .ref p ∧ SqL K H1 p xs ∧ Pv 0 σ H1 ∧ (∀ i σ' H', i ≤ xs.length → Pv i σ' H' → SqL K H' p xs) ∧
    (∀ i x σ' H', xs[i]? = some x → Pv i σ' H' → g x σ' H' fun σ2 H2 => tb { D with nx := Pv (i + 1), ct := Pv (i + 1), bk := D.nx } σ2 H2) ∧ ∀ σ' H', Pv xs.length σ' H' → D.nx σ' H') (up : ∀ R R' : VK, (∀ x H1, R x H1 → R' x H1) → tl σ H R → tl σ H R') : tFor (iList K tl) g tb D σ H :=
  up _ _ (fun _ _ ⟨p, xs, Pv, e, hS, h0, hl, hs, hd⟩ => ⟨p, e, ⟨xs, hS⟩, for_list Pv h0 hl hs hd⟩) h
/-- over the first n of a list -/
theorem f_listS {n : Int} (hv : σ[j]? = some (some (.ref b))) (hS : SqL K H b xs)
    (h : ∀ c, H c = none → ∃ Pv : Nat → L2.St → Hp → Prop, Pv 0 σ (upd H c (.lst (cutV xs none (some n)))) ∧ (∀ i σ' H', i ≤ (cutV xs none (some n)).length → Pv i σ' H' → SqL K H' c (cutV xs none (some n))) ∧
      (∀ i x σ' H', (cutV xs none (some n))[i]? = some x → Pv i σ' H' → g x σ' H' fun σ2 H2 => tb { D with nx := Pv (i + 1), ct := Pv (i + 1), bk := D.nx } σ2 H2) ∧ ∀ σ' H', Pv (cutV xs none (some n)).length σ' H' → D.nx σ' H') :
    tFor (iList K (tSl (rSlL K) (tVar j) tNoPart (tPart (tC (.int n))))) g tb D σ H := by
  show tSl (rSlL K) (tVar j) tNoPart (tPart (tC (.int n))) σ H _
  refine e_sl (e_var hv (p_no (p_some (e_c (k_i (o_slL hS fun c hc => ?_))))))
  obtain ⟨Pv, h0, hl, hs, hd⟩ := h c hc
  exact ⟨c, rfl, ⟨_, Or.inl (Or.inl upd_same)⟩, for_list Pv h0 hl hs hd⟩
theorem Fp.add {fp : List Addr} {H H1 H2 : Hp} (F : Fp [] H H1) (f : Fp fp H1 H2) (n : ∀ z ∈ fp, H z = none) : Fp [] H H2 := fun c o h m => f c o (F c o h (by simp)) fun z => by rw [n c z] at h; cases h
/-- for i in range(n) -/
def kRng (g : TG) (tb : TS) (D : Ends) (σ : L2.St) (x : V) (H1 : Hp) : Prop := iRng1 (fun _ _ R => R [x] H1) σ H1 fun J H1 => ∃ W : Nat → Nat → L2.St → Hp → Prop, (∃ m, W 0 m σ H1) ∧ ∀ i m σ H, W i m σ H →
  (J.stop i H ∧ D.nx σ H) ∨ (J.go i H ∧ ∃ N : L2.St → Hp → Prop, (∀ σ' H', N σ' H' → ∃ m', m' < m ∧ W (i + 1) m' σ' H') ∧ ∀ x H', J.yld i H x H' → g x σ H' fun σ2 H2 => tb { D with nx := N, ct := N, bk := D.nx } σ2 H2)
theorem f_rng1 (h : te σ H fun x H1 => kRng g tb D σ x H1) : tFor (iRng1 (tCons te tNil)) g tb D σ H := h
theorem k_rng (Pv : Nat → L2.St → Hp → Prop) {n : Int} (h1 : -(2 ^ 62) ≤ n) (h2 : n < 2 ^ 62) (h0 : Pv 0 σ H)
    (hs : ∀ i σ' H', i < n.toNat → Pv i σ' H' → g (.int (i : Nat)) σ' H' fun σ2 H2 => tb { D with nx := Pv (i + 1), ct := Pv (i + 1), bk := D.nx } σ2 H2) (hd : ∀ σ' H', Pv n.toNat σ' H' → D.nx σ' H') : kRng g tb D σ (.int n) H :=
  ⟨n, rfl, h1, h2, for_range (lo := 0) (n := n.toNat) Pv h0 (fun i σ' H' hi p => by
    have e0 : (0 : Int) + (i : Int) = (i : Int) := Int.zero_add _
    rw [e0]
    exact hs i σ' H' hi p) hd⟩
theorem w_by (W : Nat → L2.St → Hp → Prop) (m0 : Nat) (h0 : W m0 σ H) (hs : ∀ m σ' H', W m σ' H' → tc σ' H' fun k H1 => if k = true then ∃ N : L2.St → Hp → Prop, (∀ σ2 H2, N σ2 H2 → ∃ m', m' < m ∧ W m' σ2 H2) ∧ tb { D with nx := N, ct := N, bk := D.nx } σ' H1 else D.nx σ' H1) :
    tWhile tc tb D σ H := ⟨W, ⟨m0, h0⟩, hs⟩
theorem take_snoc {α : Type} {l : List α} {i : Nat} {x : α} (h : l[i]? = some x) : l.take (i + 1) = l.take i ++ [x] := by
  obtain ⟨hi, rfl⟩ := List.getElem?_eq_some_iff.mp h
  rw [List.take_succ, List.getElem?_eq_getElem hi]
  rfl
/-- [e for x in xs], e without a trace in the heap -/
theorem lc_pure (hv : σ[j]? = some (some (.ref b))) (hS : SqL K H b xs) (hlen : ys.length = xs.length) (hz : xs.length < 100000)
    (hs : ∀ (E : Addr) (i : Nat) (x y : V) (H' : Hp) (R : VK), H E = none → xs[i]? = some x → ys[i]? = some y → H' = upd H E (.lst (ys.take i)) → R y H' → g x (wipe σ vs) H' fun σ2 H2 => wipe σ2 vs = wipe σ vs ∧ te σ2 H2 R)
    (q : ∀ E, H E = none → Q (.ref E) (upd H E (.lst ys))) : tLc (iList K (tVar j)) g tYes te vs σ H Q := by
  refine ⟨_, hv, b, rfl, ⟨_, hS⟩, fun E hE => ?_⟩
  refine lc_list (K := K) (a := b) (xs := xs) (fun i H' => H' = upd H E (.lst (ys.take i))) (by rw [List.take_zero]) (fun i H' hi e => ?_) (fun i x H' hx e => ?_) fun H' e => ?_
  · subst e; exact (Fp.new (fp := []) hE).seq (by simp) hS
  · have hi : i < xs.length := (List.getElem?_eq_some_iff.mp hx).1
    have hy : ys[i]? = some ys[i] := List.getElem?_eq_getElem (by omega)
    have z := hs E i x _ H' (fun y H4 => ∃ acc, H4 E = some (.lst acc) ∧ acc.length < sizeLine ∧ upd H4 E (.lst (acc ++ [y])) = upd H E (.lst (ys.take (i + 1)))) hE hx hy e
      ⟨ys.take i, by rw [e]; exact upd_same, szl (by rw [List.length_take]; omega), by rw [e, upd_upd, take_snoc hy]⟩
    exact z
  · rw [e, ← hlen, List.take_length]
    exact q E hE
theorem lc_pureR {n : Int} (h1 : 0 ≤ n) (h2 : n < 100000) (hlen : (ys.length : Int) = n)
    (hs : ∀ (E : Addr) (i : Nat) (y : V) (H' : Hp) (R : VK), H E = none → (i : Int) < n → ys[i]? = some y → H' = upd H E (.lst (ys.take i)) → R y H' → g (.int (i : Nat)) (wipe σ vs) H' fun σ2 H2 => wipe σ2 vs = wipe σ vs ∧ te σ2 H2 R)
    (q : ∀ E, H E = none → Q (.ref E) (upd H E (.lst ys))) : (iRng1 (fun _ _ R => R [V.int n] H)) σ H fun J H1 => ∀ E, H1 E = none → ∃ W : Nat → Nat → Hp → Prop, (∃ m, W 0 m (upd H1 E (.lst []))) ∧ ∀ i m H, W i m H →
    (J.stop i H ∧ Q (.ref E) H) ∨ (J.go i H ∧ ∃ Nx : Hp → Prop, (∀ H', Nx H' → ∃ m', m' < m ∧ W (i + 1) m' H') ∧ ∀ x H', J.yld i H x H' → g x (wipe σ vs) H' fun σ2 H2 => wipe σ2 vs = wipe σ vs ∧ tYes σ2 H2 fun b H3 =>
      if b = true then te σ2 H3 fun y H4 => ∃ acc, H4 E = some (.lst acc) ∧ acc.length < sizeLine ∧ Nx (upd H4 E (.lst (acc ++ [y]))) else Nx H3) := by
  refine ⟨n, rfl, by omega, by omega, fun E hE => ?_⟩
  refine lc_range (lo := 0) (n := n.toNat) (fun i H' => H' = upd H E (.lst (ys.take i))) (by rw [List.take_zero]) (fun i H' hi e => ?_) fun H' e => ?_
  · have hy : ys[i]? = some ys[i] := List.getElem?_eq_getElem (by omega)
    have e0 : (0 : Int) + (i : Int) = (i : Int) := Int.zero_add _
    rw [e0]
    exact hs E i _ H' (fun y H4 => ∃ acc, H4 E = some (.lst acc) ∧ acc.length < sizeLine ∧ upd H4 E (.lst (acc ++ [y])) = upd H E (.lst (ys.take (i + 1)))) hE (by omega) hy e
      ⟨ys.take i, by rw [e]; exact upd_same, szl (by rw [List.length_take]; omega), by rw [e, upd_upd, take_snoc hy]⟩
  · have : n.toNat = ys.length := by omega
    rw [e, this, List.take_length]
    exact q E hE
def kLcR (g : TG) (te : TE) (vs : List Nat) (σ : L2.St) (Q : VK) (x : V) (H : Hp) : Prop := (iRng1 (fun _ _ R => R [x] H)) σ H fun J H1 => ∀ E, H1 E = none → ∃ W : Nat → Nat → Hp → Prop, (∃ m, W 0 m (upd H1 E (.lst []))) ∧ ∀ i m H, W i m H →
    (J.stop i H ∧ Q (.ref E) H) ∨ (J.go i H ∧ ∃ Nx : Hp → Prop, (∀ H', Nx H' → ∃ m', m' < m ∧ W (i + 1) m' H') ∧ ∀ x H', J.yld i H x H' → g x (wipe σ vs) H' fun σ2 H2 => wipe σ2 vs = wipe σ vs ∧ tYes σ2 H2 fun b H3 =>
      if b = true then te σ2 H3 fun y H4 => ∃ acc, H4 E = some (.lst acc) ∧ acc.length < sizeLine ∧ Nx (upd H4 E (.lst (acc ++ [y]))) else Nx H3)
theorem fm_snoc {α : Type} {f : α → Option V} {l : List α} {i : Nat} {x : α} (h : l[i]? = some x) : (l.take (i + 1)).filterMap f = (l.take i).filterMap f ++ (f x).toList := by
  rw [take_snoc h, List.filterMap_append]
  cases e : f x <;> simp [e]
/-- [e for x in xs if t], where t and e may make new objects -/
theorem lc_filt (f : V → Option V) (hv : σ[j]? = some (some (.ref b))) (hS : SqL K H b xs) (hz : xs.length < 100000)
    (hs : ∀ (E : Addr) (i : Nat) (x : V) (H' : Hp) (R : VK) (N : Hp → Prop), H E = none → xs[i]? = some x → H' E = some (.lst ((xs.take i).filterMap f)) → Fp [] H H' → (∀ y H4, f x = some y → Fp [] H' H4 → R y H4) → (f x = none → ∀ H4, Fp [] H' H4 → N H4) →
      g x (wipe σ vs) H' fun σ2 H2 => wipe σ2 vs = wipe σ vs ∧ tt σ2 H2 fun k H3 => if k = true then te σ2 H3 R else N H3)
    (q : ∀ E H', H E = none → H' E = some (.lst (xs.filterMap f)) → Fp [] H H' → Q (.ref E) H') : tLc (iList K (tVar j)) g tt te vs σ H Q := by
  refine ⟨_, hv, b, rfl, ⟨_, hS⟩, fun E hE => ?_⟩
  refine lc_list (K := K) (a := b) (xs := xs) (fun i H' => H' E = some (.lst ((xs.take i).filterMap f)) ∧ Fp [] H H') ⟨by rw [List.take_zero]; exact upd_same, Fp.new hE⟩ (fun i H' hi e => ?_) (fun i x H' hx e => ?_) fun H' e => ?_
  · exact e.2.seq (by simp) hS
  · have hi : i < xs.length := (List.getElem?_eq_some_iff.mp hx).1
    exact hs E i x H' (fun y H4 => ∃ acc, H4 E = some (.lst acc) ∧ acc.length < sizeLine ∧ (upd H4 E (.lst (acc ++ [y]))) E = some (.lst ((xs.take (i + 1)).filterMap f)) ∧ Fp [] H (upd H4 E (.lst (acc ++ [y])))) (fun H4 => H4 E = some (.lst ((xs.take (i + 1)).filterMap f)) ∧ Fp [] H H4) hE hx e.1 e.2
      (fun y H4 ey f4 => ⟨_, f4 _ _ e.1 (by simp), szl (Nat.lt_of_le_of_lt (List.length_filterMap_le _ _) (by rw [List.length_take]; omega)), by rw [upd_same, fm_snoc hx, ey]; rfl, Fp.drop (fp := [E]) (((e.2.trans f4).mono (by simp)).trans (Fp.at_ (by simp))) fun z hz => by rcases List.mem_singleton.mp hz with rfl; exact .inr hE⟩)
      (fun ey H4 f4 => ⟨by rw [fm_snoc hx, ey]; simpa using f4 _ _ e.1 (by simp), e.2.trans f4⟩)
  · rw [List.take_length] at e
    exact q E H' hE e.1 e.2
def kLcF (g : TG) (tt : TT) (te : TE) (vs : List Nat) (σ : L2.St) (Q : VK) (x : V) (H : Hp) : Prop := (iRng1 (fun _ _ R => R [x] H)) σ H fun J H1 => ∀ E, H1 E = none → ∃ W : Nat → Nat → Hp → Prop, (∃ m, W 0 m (upd H1 E (.lst []))) ∧ ∀ i m H, W i m H →
    (J.stop i H ∧ Q (.ref E) H) ∨ (J.go i H ∧ ∃ Nx : Hp → Prop, (∀ H', Nx H' → ∃ m', m' < m ∧ W (i + 1) m' H') ∧ ∀ x H', J.yld i H x H' → g x (wipe σ vs) H' fun σ2 H2 => wipe σ2 vs = wipe σ vs ∧ tt σ2 H2 fun b H3 =>
      if b = true then te σ2 H3 fun y H4 => ∃ acc, H4 E = some (.lst acc) ∧ acc.length < sizeLine ∧ Nx (upd H4 E (.lst (acc ++ [y]))) else Nx H3)
theorem e_lcF (h : tl σ H fun x H1 => kLcF g tt te vs σ Q x H1) : tLc (iRng1 (tCons tl tNil)) g tt te vs σ H Q := h
theorem fm_range {f : Nat → Option V} {i : Nat} : (List.range (i + 1)).filterMap f = (List.range i).filterMap f ++ (f i).toList := by
  rw [List.range_succ, List.filterMap_append]
  cases e : f i <;> simp [e]
/-- [e for i in range(n) if t] -/
theorem k_lcF {n : Int} (f : Nat → Option V) (h1 : 0 ≤ n) (h2 : n < 100000)
    (hs : ∀ (E : Addr) (i : Nat) (H' : Hp) (R : VK) (N : Hp → Prop), H E = none → (i : Int) < n → H' E = some (.lst ((List.range i).filterMap f)) → Fp [] H H' → (∀ y H4, f i = some y → Fp [] H' H4 → R y H4) → (f i = none → ∀ H4, Fp [] H' H4 → N H4) →
      g (.int (i : Nat)) (wipe σ vs) H' fun σ2 H2 => wipe σ2 vs = wipe σ vs ∧ tt σ2 H2 fun k H3 => if k = true then te σ2 H3 R else N H3)
    (q : ∀ E H', H E = none → H' E = some (.lst ((List.range n.toNat).filterMap f)) → Fp [] H H' → Q (.ref E) H') : kLcF g tt te vs σ Q (.int n) H := by
  refine ⟨n, rfl, by omega, by omega, fun E hE => ?_⟩
  refine lc_range (lo := 0) (n := n.toNat) (fun i H' => H' E = some (.lst ((List.range i).filterMap f)) ∧ Fp [] H H') ⟨upd_same, Fp.new hE⟩ (fun i H' hi e => ?_) fun H' e => q E H' hE e.1 e.2
  have e0 : (0 : Int) + (i : Int) = (i : Int) := Int.zero_add _
  rw [e0]
  exact hs E i H' (fun y H4 => ∃ acc, H4 E = some (.lst acc) ∧ acc.length < sizeLine ∧ (upd H4 E (.lst (acc ++ [y]))) E = some (.lst ((List.range (i + 1)).filterMap f)) ∧ Fp [] H (upd H4 E (.lst (acc ++ [y])))) (fun H4 => H4 E = some (.lst ((List.range (i + 1)).filterMap f)) ∧ Fp [] H H4) hE (by omega) e.1 e.2
    (fun y H4 ey f4 => ⟨_, f4 _ _ e.1 (by simp), szl (Nat.lt_of_le_of_lt (List.length_filterMap_le _ _) (by rw [List.length_range]; omega)), by rw [upd_same, fm_range, ey]; rfl, Fp.drop (fp := [E]) (((e.2.trans f4).mono (by simp)).trans (Fp.at_ (by simp))) fun z hz => by rcases List.mem_singleton.mp hz with rfl; exact .inr hE⟩)
    (fun ey H4 f4 => ⟨by rw [fm_range, ey]; simpa using f4 _ _ e.1 (by simp), e.2.trans f4⟩)
theorem e_lcR (h : tl σ H fun x H1 => kLcR g te vs σ Q x H1) : tLc (iRng1 (tCons tl tNil)) g tYes te vs σ H Q := h
theorem k_lcR {n : Int} (h1 : 0 ≤ n) (h2 : n < 100000) (hlen : (ys.length : Int) = n)
    (hs : ∀ (E : Addr) (i : Nat) (y : V) (H' : Hp) (R : VK), H E = none → (i : Int) < n → ys[i]? = some y → H' = upd H E (.lst (ys.take i)) → R y H' → g (.int (i : Nat)) (wipe σ vs) H' fun σ2 H2 => wipe σ2 vs = wipe σ vs ∧ te σ2 H2 R)
    (q : ∀ E, H E = none → Q (.ref E) (upd H E (.lst ys))) : kLcR g te vs σ Q (.int n) H := lc_pureR h1 h2 hlen hs q
end

theorem atI_zero {α : Type} (x : α) (xs : List α) : atI (x :: xs) 0 = some x := by
  have h : (x :: xs)[0]? = some x := rfl
  exact atI_nat (j := 0) h
theorem int_inj {i j : Int} (h : V.int i = V.int j) : i = j := V.int.inj h
theorem int_ne {i j : Int} (h : ¬ V.int i = V.int j) : i ≠ j := fun z => h (by rw [z])

theorem k_ty {K : PySem.W.Frag} {H : Hp} {p : Addr} {xs : List V} {R : Prop} (h : SqL K H p xs) (q : R) : tyV K "list" (.ref p) H ∧ R := ⟨Or.inl ⟨rfl, xs, h⟩, q⟩

theorem o_rep {K : PySem.W.Frag} {H : Hp} {Q : VK} {l : Addr} {n : Int} {xs : List V} (h : H l = some (.lst xs)) (h1 : 0 ≤ n) (h2 : xs.length * n.toNat ≤ 100000) (h3 : n < 2 ^ 63) (q : ∀ p, H p = none → Q (.ref p) (upd H p (.lst (List.replicate n.toNat xs).flatten))) : rRep (.ref l) (.int n) H Q :=
  ⟨l, n, xs, rfl, rfl, h, by omega, h3, sz h2, q⟩

theorem c_isBool {K : PySem.W.Frag} {H : Hp} {Q : VK} {b : Bool} (q : Q (.bl true) H) : rIsi K [.bl b, .ty "bool"] H Q := ⟨.bl b, .ty "bool", .type "bool", .type "bool", true, rfl, .ty _, .base (.bl b), kit_ty (by decide +kernel), q⟩
theorem c_isInt {K : PySem.W.Frag} {H : Hp} {Q : VK} {n : Int} (q : Q (.bl true) H) : rIsi K [.int n, .ty "int"] H Q := ⟨.int n, .ty "int", .type "int", .type "int", true, rfl, .ty _, .base (.int n), kit_ty (by decide +kernel), q⟩
theorem c_isBoolN {K : PySem.W.Frag} {H : Hp} {Q : VK} {n : Int} (q : Q (.bl false) H) : rIsi K [.int n, .ty "bool"] H Q := ⟨.int n, .ty "bool", .type "int", .type "bool", false, rfl, .ty _, .base (.int n), kit_ty (by decide +kernel), q⟩
theorem c_isList {K : PySem.W.Frag} {H : Hp} {Q : VK} {a : Addr} {xs : List V} (h : H a = some (.lst xs)) (q : Q (.bl true) H) : rIsi K [.ref a, .ty "list"] H Q := ⟨.ref a, .ty "list", .type "list", .type "list", true, rfl, .ty _, .base (.lst h), kit_ty (by decide +kernel), q⟩
theorem c_isTup {K : PySem.W.Frag} {H : Hp} {Q : VK} {a : Addr} {xs : List V} (h : H a = some (.tup xs)) (q : Q (.bl true) H) : rIsi K [.ref a, .ty "tuple"] H Q := ⟨.ref a, .ty "tuple", .type "tuple", .type "tuple", true, rfl, .ty _, .base (.tup h), kit_ty (by decide +kernel), q⟩
theorem c_isTupB {K : PySem.W.Frag} {H : Hp} {Q : VK} {a : Addr} {xs : List V} (h : H a = some (.tup xs)) (q : Q (.bl false) H) : rIsi K [.ref a, .ty "bool"] H Q := ⟨.ref a, .ty "bool", .type "tuple", .type "bool", false, rfl, .ty _, .base (.tup h), kit_ty (by decide +kernel), q⟩
/-- is True, is False -/
def rIsB : V → V → Hp → VK → Prop := fun x y H Q => ∃ a b, x = .bl a ∧ y = .bl b ∧ Q (.bl (decide (a = b))) H
def rNotB : V → V → Hp → VK → Prop := fun x y H Q => ∃ a b, x = .bl a ∧ y = .bl b ∧ Q (.bl (!decide (a = b))) H
theorem bo_beq (a b : Bool) : (Value.bool a == Value.bool b) = decide (a = b) := by cases a <;> cases b <;> decide +kernel
theorem op_isB {X : Cx} : OpR X (compareOp .Is) rIsB := by
  intro pins s σ H x y v u Q I rx ry h
  obtain ⟨a, b, rfl, rfl, q⟩ := h
  cases (show v = Value.bool a from rx)
  cases (show u = Value.bool b from ry)
  exact wpAny_is_plain rfl (fin_bl I q (bo_beq a b).symm)
theorem op_notB {X : Cx} : OpR X (compareOp .IsNot) rNotB := by
  intro pins s σ H x y v u Q I rx ry h
  obtain ⟨a, b, rfl, rfl, q⟩ := h
  cases (show v = Value.bool a from rx)
  cases (show u = Value.bool b from ry)
  exact wpAny_isNot_plain rfl (fin_bl I q (congrArg not (bo_beq a b).symm))
theorem o_isB {H : Hp} {Q : VK} {a b : Bool} (q : Q (.bl (decide (a = b))) H) : rIsB (.bl a) (.bl b) H Q := ⟨a, b, rfl, rfl, q⟩
theorem o_notB {H : Hp} {Q : VK} {a b : Bool} (q : Q (.bl (!decide (a = b))) H) : rNotB (.bl a) (.bl b) H Q := ⟨a, b, rfl, rfl, q⟩
theorem c_isTupI {K : PySem.W.Frag} {H : Hp} {Q : VK} {n : Int} (q : Q (.bl false) H) : rIsi K [.int n, .ty "tuple"] H Q := ⟨.int n, .ty "tuple", .type "int", .type "tuple", false, rfl, .ty _, .base (.int n), kit_ty (by decide +kernel), q⟩
theorem c_isNonB {K : PySem.W.Frag} {H : Hp} {Q : VK} (q : Q (.bl false) H) : rIsi K [.non, .ty "bool"] H Q := ⟨.non, .ty "bool", .type "NoneType", .type "bool", false, rfl, .ty _, .base .non, kit_ty (by decide +kernel), q⟩
theorem c_isNonT {K : PySem.W.Frag} {H : Hp} {Q : VK} (q : Q (.bl false) H) : rIsi K [.non, .ty "tuple"] H Q := ⟨.non, .ty "tuple", .type "NoneType", .type "tuple", false, rfl, .ty _, .base .non, kit_ty (by decide +kernel), q⟩
theorem k_bl {c : Bool} {P : Bool → Prop} (h : P c) : ∃ c', V.bl c = V.bl c' ∧ P c' := ⟨c, rfl, h⟩

section
variable {K : PySem.W.Frag} {H : Hp} {Q : VK} {σ : L2.St} {te : TE} {C D ae dd CT : Addr} {f : Str} {fs : List (Str × V)} {v : V} {cls : Value} {de : Option Addr}
def kXf (a : Addr) (cls : Value) (d : Option Addr) (C : Addr) (f : Str) (x : V) (H1 : Hp) (Q : VK) : Prop := x = .ref a ∧ cls = .ref C ∧ ∃ (dd : Addr) (fs : List (Str × V)) (v : V), d = some dd ∧ H1 dd = some (.xd fs) ∧ fs.lookup f = some v ∧ Q v H1
theorem e_xf (h : te σ H fun x H1 => kXf ae cls de C f x H1 Q) : tXf ae cls de C f te σ H Q := h
theorem k_xf (h : H dd = some (.xd fs)) (l : fs.lookup f = some v) (q : Q v H) : kXf ae (.ref C) (some dd) C f (.ref ae) H Q := ⟨rfl, rfl, dd, fs, v, rfl, h, l, q⟩
theorem c_isED (h : H dd = some (.xd fs)) (k : PySem.W.kitOne K (.ref D) (.ref CT) = some true) (q : Q (.bl true) H) : rIsED K D ae (.ref D) (some dd) [.ref ae, .ref CT] H Q :=
  ⟨.ref CT, .ref CT, true, dd, fs, rfl, rfl, rfl, h, fun u r => r, k, q⟩
theorem c_isEDty {n : String} (h : H dd = some (.xd fs)) (k : PySem.W.kitOne K (.ref D) (.type n) = some true) (q : Q (.bl true) H) : rIsED K D ae (.ref D) (some dd) [.ref ae, .ty n] H Q :=
  ⟨.ty n, .type n, true, dd, fs, rfl, rfl, rfl, h, fun u r => r, k, q⟩
theorem w_as {c : Value} {i : Nat} {ts : Addr → Value → Option Addr → TS} {Wout : WX} {D : Ends} (e : PySem.W.exmOne K cls c = some true)
    (h : ∀ a, H a = none → ts a cls de { nx := fun σ' H' => D.nx (σ'.set i none) H', rt := D.rt, bk := fun σ' H' => D.bk (σ'.set i none) H', ct := fun σ' H' => D.ct (σ'.set i none) H' } (σ.set i (some (.ref a))) H) : WE (wAs K c i ts Wout D) σ cls de H :=
  ⟨true, e, fun _ => h, fun z => Bool.noConfusion z⟩
end

theorem s_cut {D : Ends} {σ : L2.St} {H : Hp} {t u : TS} (Mid : L2.St → Hp → Prop) (h1 : t { D with nx := Mid } σ H) (h2 : ∀ σ' H', Mid σ' H' → u D σ' H') : Evl.tCut t u D σ H := ⟨Mid, h1, h2⟩

/-- a test whose outcomes are told once -/
def tUpT (t : TT) : TT := fun σ H Q => ∃ P : Bool → Hp → Prop, t σ H P ∧ ∀ b H1, P b H1 → Q b H1
theorem pt_up {X : Cx} {e : Expr} {t : TT} (h : PT X e t) : PT X e (tUpT t) := ⟨fun pins s σ H Q I ⟨P, q, m⟩ => thn (h.run pins s σ H P I q) fun _ _ ⟨H1, J, z⟩ => ⟨H1, J, m _ _ z⟩⟩
theorem t_up {t : TT} {σ : L2.St} {H : Hp} {Q : Bool → Hp → Prop} (P : Bool → Hp → Prop) (h : t σ H P) (k : ∀ b H1, P b H1 → Q b H1) : tUpT t σ H Q := ⟨P, h, k⟩
theorem cut1 {x : V} {xs : List V} : cutV (x :: xs) (some 1) none = xs := by
  unfold cutV
  simp [HT.sIx]

/-! ### dicts by texts -/
section
variable {K : PySem.W.Frag} {D : Ends} {σ : L2.St} {H : Hp} {Q : VK} {td ty tv te : TE} {a : Addr} {kvs : List (Key × V)} {s : Str} {v : V} {x y c : Int} {i : Nat}
theorem val_hit (k : Key) (v : V) (r : List (Key × V)) : valV ((k, v) :: r) k = some v := by simp [valV]
theorem val_miss {k k' : Key} (h : ¬ k = k') (v : V) (r : List (Key × V)) : valV ((k, v) :: r) k' = valV r k' := by simp [valV, h]
theorem val_nil (k : Key) : valV ([] : List (Key × V)) k = none := rfl
def kDGet (x y : V) (H : Hp) (Q : VK) : Prop := ∃ a v, x = .ref a ∧ DGet H a y (some v) ∧ Q v H
theorem e_dget (h : td σ H fun x H1 => ty σ H1 fun y H2 => kDGet x y H2 Q) : tDGet td ty σ H Q := h
theorem k_dget (h : H a = some (.dK kvs)) (l : valV kvs (Sum.inr s) = some v) (q : Q v H) : kDGet (.ref a) (.str s) H Q := ⟨a, v, rfl, .inl ⟨kvs, Sum.inr s, .inl h, rfl, l.symm⟩, q⟩
def kDPut (v x y : V) (H : Hp) (R : Hp → Prop) : Prop := ∃ a H4, x = .ref a ∧ DPut H a y v H4 ∧ R H4
theorem s_dput (h : tv σ H fun v H1 => td σ H1 fun x H2 => ty σ H2 fun y H3 => kDPut v x y H3 (D.nx σ)) : sDPut td ty tv D σ H := h
theorem k_dput {R : Hp → Prop} (h : H a = some (.dK kvs)) (hl : kvs.length < 100000) (q : R (upd H a (.dK (putK kvs (Sum.inr s) v)))) : kDPut v (.ref a) (.str s) H R := ⟨a, _, rfl, DPut.k (k := Sum.inr s) h (szl hl), q⟩
theorem c_sum {ns : List Int} (h : SqL K H a (ns.map V.int)) (q : Q (.int ns.sum) H) : rSum K [.ref a] H Q := ⟨a, ns, rfl, h, q⟩
/-! ### x ≤ y ≤ c -/
theorem o_chC (q : Q (.bl (decide (x ≤ y ∧ y ≤ c))) H) :
    rI0 (fun i j => V.bl (decide (i ≤ j))) (.int x) (.int y) H fun z H3 => kT z H3 fun k H4 => if k = true then tC (.int c) σ H4 fun w' H5 => rI0 (fun i j => V.bl (decide (i ≤ j))) (.int y) w' H5 Q else Q (.bl false) H4 := by
  refine o_I0 (k_t ?_)
  refine if_d (fun h => e_c (o_I0 ?_)) (fun h => ?_)
  · rw [show decide (y ≤ c) = decide (x ≤ y ∧ y ≤ c) from decide_eq_decide.mpr ⟨fun z => ⟨h, z⟩, fun z => z.2⟩]; exact q
  · rw [show false = decide (x ≤ y ∧ y ≤ c) from (decide_eq_false fun z => h z.1).symm]; exact q
theorem o_chV (hv : σ[i]? = some (some (.int c))) (q : Q (.bl (decide (x ≤ y ∧ y ≤ c))) H) :
    rI0 (fun i j => V.bl (decide (i ≤ j))) (.int x) (.int y) H fun z H3 => kT z H3 fun k H4 => if k = true then tVar i σ H4 fun w' H5 => rI0 (fun i j => V.bl (decide (i ≤ j))) (.int y) w' H5 Q else Q (.bl false) H4 := by
  refine o_I0 (k_t ?_)
  refine if_d (fun h => e_var hv (o_I0 ?_)) (fun h => ?_)
  · rw [show decide (y ≤ c) = decide (x ≤ y ∧ y ≤ c) from decide_eq_decide.mpr ⟨fun z => ⟨h, z⟩, fun z => z.2⟩]; exact q
  · rw [show false = decide (x ≤ y ∧ y ≤ c) from (decide_eq_false fun z => h z.1).symm]; exact q
theorem e_makeK {C : Addr} {m : Nat} {sp : Sp} {gV : List V → List V → List V} {ES : L2.St → XK} {tk : TA} (h : tk σ H fun zs H2 => zs.length = m ∧ ∀ x dx, H2 x = none → H2 dx = none → dx ≠ x →
  sp (gV [.ref x] zs) (upd (upd H2 dx (.own x)) x (.ins C dx [])) (fun v H3 => v = .non ∧ Q (.ref x) H3) (ES σ)) : tMakeKS C m sp gV ES tk σ H Q := h
def kTup (K : PySem.W.Frag) (n : Nat) (t : TGs) (v : V) (σ : L2.St) (H : Hp) (R : L2.St → Hp → Prop) : Prop := ∃ a xs, v = .ref a ∧ SqT K H a xs ∧ xs.length = n ∧ t xs σ H R
theorem g_tup {n : Nat} {t : TGs} {R : L2.St → Hp → Prop} {xs : List V} (h : SqT K H a xs) (hn : xs.length = n) (q : t xs σ H R) : gTup K n t (.ref a) σ H R := ⟨a, xs, rfl, h, hn, q⟩
theorem g_cons {t : TG} {u : TGs} {R : L2.St → Hp → Prop} {r : List V} (q : t v σ H fun σ' H' => u r σ' H' R) : gCons t u (v :: r) σ H R := ⟨v, r, rfl, q⟩
theorem g_nil {R : L2.St → Hp → Prop} (q : R σ H) : gNil [] σ H R := ⟨rfl, q⟩
end

def PL (fs : List (Str × V)) (n : Nat) : Prop := fs.length ≤ n
theorem PL.nil {n : Nat} : PL [] n := Nat.zero_le _
theorem putF_length (f : Str) (v : V) : ∀ fs : List (Str × V), (putF f v fs).length ≤ fs.length + 1
  | [] => Nat.le_refl _
  | (g, y) :: r => by
    by_cases h : g = f
    · rw [show putF f v ((g, y) :: r) = (g, v) :: r from if_pos h]
      exact Nat.le_succ _
    · rw [putF_miss h]
      exact Nat.succ_le_succ (putF_length f v r)
theorem PL.put {f : Str} {v : V} {fs : List (Str × V)} {n : Nat} (h : PL fs n) : PL (putF f v fs) (n + 1) := Nat.le_trans (putF_length f v fs) (Nat.succ_le_succ h)
theorem PL.lt {fs : List (Str × V)} {n : Nat} (h : PL fs n) (hn : n < 1000) : fs.length < 1000 := Nat.lt_of_le_of_lt h hn

/-- objects that stand -/
def Obs (H : Hp) (l : List (Addr × HO)) : Prop := ∀ p ∈ l, H p.1 = some p.2
theorem Obs.nil {H : Hp} : Obs H [] := fun p hp => by cases hp
theorem Obs.fp {H H1 : Hp} {l : List (Addr × HO)} {fp : List Addr} (u : Obs H l) (f : Fp fp H H1) (n : ∀ p ∈ l, p.1 ∉ fp) : Obs H1 l := fun p hp => f _ _ (u p hp) (n p hp)
theorem Obs.fp0 {H H1 : Hp} {l : List (Addr × HO)} (u : Obs H l) (f : Fp [] H H1) : Obs H1 l := u.fp f fun _ _ => by simp
theorem Obs.add {H : Hp} {l : List (Addr × HO)} {t : Addr} {o : HO} (u : Obs H l) (h : H t = none) : Obs (upd H t o) ((t, o) :: l) := fun p hp => by
  rcases List.mem_cons.mp hp with rfl | hp
  · exact upd_same
  · exact Fp.new (fp := []) h _ _ (u p hp) (by simp)
theorem Obs.cons {H : Hp} {l : List (Addr × HO)} {t : Addr} {o : HO} (u : Obs H l) (h : H t = some o) : Obs H ((t, o) :: l) := fun p hp => by
  rcases List.mem_cons.mp hp with rfl | hp
  · exact h
  · exact u p hp
/-- xs[i], read for an augmented assignment -/
theorem get_list {X : Cx} : PGet X (rIxL X.K) := by
  intro pins s σ H o i ov iv Q I rx ry h
  obtain ⟨p, xs, n, z, rfl, rfl, hq, he, q⟩ := h
  cases rx
  obtain ⟨t, rfl⟩ := ry
  obtain ⟨its, r, pl, hz⟩ := I.list hq
  obtain ⟨j, h1, h2, h3, h4, h5⟩ := atI_get he
  obtain ⟨w, ew, rw'⟩ := r.get h2
  have hl := r.length
  have hn := line63
  have fin : EP X pins σ Q w s := ⟨z, H, I, rw', q⟩
  by_cases h0 : 0 ≤ n
  · have hj : n.toNat = j := by
      rw [seqIndex_of h0 h5] at h1
      exact Option.some.inj h1
    refine L2.thn (wpAny_getItem_list (x := w) (Q := fun r s' => r = w ∧ EP X pins σ Q r s') pl.isList h0 (by omega) (by rw [hj]; simpa using ew) ⟨rfl, fin⟩) fun _ _ e => e.2
  · have hj : (n + (its.toArray.size : Int)).toNat = j := by
      rw [seqIndex_neg (by omega) h4] at h1
      rw [List.size_toArray, ← hl]
      exact Option.some.inj h1
    refine L2.thn (wpAny_getItem_list_neg (x := w) (Q := fun r s' => r = w ∧ EP X pins σ Q r s') pl.isList (by omega) (by rw [List.size_toArray] <;> omega) (by omega) (by rw [hj]; simpa using ew) ⟨rfl, fin⟩) fun _ _ e => e.2
theorem s_augS {D : Ends} {σ : L2.St} {H : Hp} {to ti te : TE} {tget : V → V → Hp → VK → Prop} {tip : TIp} {tset : TSet} (h : to σ H fun o H1 => ti σ H1 fun i H2 => tget o i H2 fun x H3 => te σ H3 fun y H4 => tip x y H4 fun z H5 => tset o i z H5 fun H6 => D.nx σ H6) : tAugS to ti te tget tip tset D σ H := h
theorem ip_I {f : Int → Int → Int} {m n : Int} {H : Hp} {Q : VK} (q : Q (.int (f m n)) H) : ipI f (.int m) (.int n) H Q := ⟨m, n, rfl, rfl, q⟩
def kAug (i : Nat) (te : TE) (tip : TIp) (σ : L2.St) (x : V) (H : Hp) (N : L2.St → Hp → Prop) : Prop := te σ H fun y H1 => tip x y H1 fun z H2 => N (σ.set i (some z)) H2
theorem s_augV {D : Ends} {σ : L2.St} {H : Hp} {te : TE} {tip : TIp} {i : Nat} {x : V} (hx : σ[i]? = some (some x)) (h : te σ H fun y H1 => tip x y H1 fun z H2 => D.nx (σ.set i (some z)) H2) : tAug i te tip D σ H := ⟨x, hx, h⟩

/-! ### comprehensions over enumerate(list), over a list that is made -/
section
variable {K : PySem.W.Frag} {σ : L2.St} {H : Hp} {Q : VK} {g : TG} {tt : TT} {te ta : TE} {vs : List Nat} {tl : TA} {a : Addr} {xs : List V}
def lcT (J : It) (g : TG) (tt : TT) (te : TE) (vs : List Nat) (σ : L2.St) (Q : VK) (H1 : Hp) : Prop := ∀ E, H1 E = none → ∃ W : Nat → Nat → Hp → Prop, (∃ m, W 0 m (upd H1 E (.lst []))) ∧ ∀ i m H, W i m H →
    (J.stop i H ∧ Q (.ref E) H) ∨ (J.go i H ∧ ∃ Nx : Hp → Prop, (∀ H', Nx H' → ∃ m', m' < m ∧ W (i + 1) m' H') ∧ ∀ x H', J.yld i H x H' → g x (wipe σ vs) H' fun σ2 H2 => wipe σ2 vs = wipe σ vs ∧ tt σ2 H2 fun b H3 =>
      if b = true then te σ2 H3 fun y H4 => ∃ acc, H4 E = some (.lst acc) ∧ acc.length < sizeLine ∧ Nx (upd H4 E (.lst (acc ++ [y]))) else Nx H3)
def kLcE (K : PySem.W.Frag) (g : TG) (tt : TT) (te : TE) (vs : List Nat) (σ : L2.St) (Q : VK) (ys : List V) (H1 : Hp) : Prop := ∃ a xs, ys = [.ref a] ∧ SqL K H1 a xs ∧ lcT (Ite K a) g tt te vs σ Q H1
theorem e_lcE (h : tl σ H fun ys H1 => kLcE K g tt te vs σ Q ys H1) : tLc (iEnum K tl) g tt te vs σ H Q := h
theorem k_lcE (F : Nat → Option V) (hS : SqL K H a xs) (hz : xs.length < 100000)
    (hs : ∀ (E T : Addr) (i : Nat) (x : V) (H' : Hp) (R : VK) (N : Hp → Prop), H E = none → xs[i]? = some x → H' T = some (.tup [.int (i : Nat), x]) → H' E = some (.lst ((List.range i).filterMap F)) → Fp [] H H' → (∀ y H4, F i = some y → Fp [] H' H4 → R y H4) → (F i = none → ∀ H4, Fp [] H' H4 → N H4) →
      g (.ref T) (wipe σ vs) H' fun σ2 H2 => wipe σ2 vs = wipe σ vs ∧ tt σ2 H2 fun k H3 => if k = true then te σ2 H3 R else N H3)
    (q : ∀ E H', H E = none → H' E = some (.lst ((List.range xs.length).filterMap F)) → Fp [] H H' → Q (.ref E) H') : kLcE K g tt te vs σ Q [.ref a] H := by
  refine ⟨a, xs, rfl, hS, fun E hE => ?_⟩
  refine ⟨fun i m H' => m = xs.length - i ∧ i ≤ xs.length ∧ H' E = some (.lst ((List.range i).filterMap F)) ∧ Fp [] H H', ⟨_, rfl, Nat.zero_le _, upd_same, Fp.new hE⟩, ?_⟩
  rintro i m H' ⟨rfl, hi, e1, e2⟩
  have hq : SqL K H' a xs := e2.seq (by simp) hS
  by_cases hlt : i < xs.length
  · refine .inr ⟨⟨xs, xs[i], hq, List.getElem?_eq_getElem hlt⟩, fun H4 => H4 E = some (.lst ((List.range (i + 1)).filterMap F)) ∧ Fp [] H H4, fun H4 z => ⟨_, by omega, rfl, by omega, z.1, z.2⟩, ?_⟩
    rintro v H2 ⟨T, x, rfl, hT, rfl, hx⟩
    have hx2 := hx xs hq
    have fT : Fp [] H' (upd H' T (.tup [.int (i : Nat), x])) := Fp.new hT
    have f2 := e2.trans fT
    have E2 := fT _ _ e1 (by simp)
    exact hs E T i x _ (fun y H4 => ∃ acc, H4 E = some (.lst acc) ∧ acc.length < sizeLine ∧ (upd H4 E (.lst (acc ++ [y]))) E = some (.lst ((List.range (i + 1)).filterMap F)) ∧ Fp [] H (upd H4 E (.lst (acc ++ [y])))) (fun H4 => H4 E = some (.lst ((List.range (i + 1)).filterMap F)) ∧ Fp [] H H4) hE hx2 upd_same E2 f2
      (fun y H4 ey f4 => ⟨_, f4 _ _ E2 (by simp), szl (Nat.lt_of_le_of_lt (List.length_filterMap_le _ _) (by rw [List.length_range]; omega)), by rw [upd_same, fm_range, ey]; rfl, Fp.drop (fp := [E]) (((f2.trans f4).mono (by simp)).trans (Fp.at_ (by simp))) fun z hz => by rcases List.mem_singleton.mp hz with rfl; exact .inr hE⟩)
      (fun ey H4 f4 => ⟨by rw [fm_range, ey]; simpa using f4 _ _ E2 (by simp), f2.trans f4⟩)
  · have hi2 : i = xs.length := by omega
    subst hi2
    exact .inl ⟨⟨xs, hq, Nat.le_refl _⟩, q E H' hE e1 e2⟩
def kLcL (K : PySem.W.Frag) (g : TG) (tt : TT) (te : TE) (vs : List Nat) (σ : L2.St) (Q : VK) (x : V) (H : Hp) : Prop := (iList K fun _ _ R => R x H) σ H fun J H1 => lcT J g tt te vs σ Q H1
theorem e_lcL (h : ta σ H fun x H1 => kLcL K g tt te vs σ Q x H1) : tLc (iList K ta) g tt te vs σ H Q := h
theorem k_lcL (f : V → Option V) (hS : SqL K H a xs) (hz : xs.length < 100000)
    (hs : ∀ (E : Addr) (i : Nat) (x : V) (H' : Hp) (R : VK) (N : Hp → Prop), H E = none → xs[i]? = some x → H' E = some (.lst ((xs.take i).filterMap f)) → Fp [] H H' → (∀ y H4, f x = some y → Fp [] H' H4 → R y H4) → (f x = none → ∀ H4, Fp [] H' H4 → N H4) →
      g x (wipe σ vs) H' fun σ2 H2 => wipe σ2 vs = wipe σ vs ∧ tt σ2 H2 fun k H3 => if k = true then te σ2 H3 R else N H3)
    (q : ∀ E H', H E = none → H' E = some (.lst (xs.filterMap f)) → Fp [] H H' → Q (.ref E) H') : kLcL K g tt te vs σ Q (.ref a) H := by
  refine ⟨a, rfl, ⟨_, hS⟩, fun E hE => ?_⟩
  refine lc_list (K := K) (a := a) (xs := xs) (fun i H' => H' E = some (.lst ((xs.take i).filterMap f)) ∧ Fp [] H H') ⟨by rw [List.take_zero]; exact upd_same, Fp.new hE⟩ (fun i H' hi e => ?_) (fun i x H' hx e => ?_) fun H' e => ?_
  · exact e.2.seq (by simp) hS
  · have hi : i < xs.length := (List.getElem?_eq_some_iff.mp hx).1
    exact hs E i x H' (fun y H4 => ∃ acc, H4 E = some (.lst acc) ∧ acc.length < sizeLine ∧ (upd H4 E (.lst (acc ++ [y]))) E = some (.lst ((xs.take (i + 1)).filterMap f)) ∧ Fp [] H (upd H4 E (.lst (acc ++ [y])))) (fun H4 => H4 E = some (.lst ((xs.take (i + 1)).filterMap f)) ∧ Fp [] H H4) hE hx e.1 e.2
      (fun y H4 ey f4 => ⟨_, f4 _ _ e.1 (by simp), szl (Nat.lt_of_le_of_lt (List.length_filterMap_le _ _) (by rw [List.length_take]; omega)), by rw [upd_same, fm_snoc hx, ey]; rfl, Fp.drop (fp := [E]) (((e.2.trans f4).mono (by simp)).trans (Fp.at_ (by simp))) fun z hz => by rcases List.mem_singleton.mp hz with rfl; exact .inr hE⟩)
      (fun ey H4 f4 => ⟨by rw [fm_snoc hx, ey]; simpa using f4 _ _ e.1 (by simp), e.2.trans f4⟩)
  · rw [List.take_length] at e
    exact q E H' hE e.1 e.2
end
theorem cut_take {xs : List V} {n : Nat} : cutV xs none (some (n : Int)) = xs.take n := by
  unfold cutV
  rw [HT.sIx_nat, HT.sIx_none, List.drop_zero, Nat.sub_zero, List.take_eq_take_iff]
  omega
theorem cut_drop {xs : List V} {n : Nat} : cutV xs (some (n : Int)) none = xs.drop n := by
  unfold cutV
  rw [HT.sIx_nat, HT.sIx_none]
  by_cases h : n ≤ xs.length
  · rw [Nat.min_eq_left h, List.take_of_length_le (by rw [List.length_drop]; exact Nat.le_refl _)]
  · rw [Nat.min_eq_right (by omega), List.drop_of_length_le (Nat.le_refl _), List.drop_of_length_le (by omega), List.take_nil]
theorem c_ext {l b : Addr} {xs zs : List V} {H : Hp} {Q : VK} (h : H l = some (.lst xs)) (h' : H b = some (.lst zs)) (z : xs.length + zs.length ≤ 100000) (q : Q .non (upd H l (.lst (xs ++ zs)))) : rExtend (.ref l) [.ref b] H Q := ⟨l, b, xs, zs, rfl, rfl, h, h', sz z, q⟩
/-- [e for k in range(n)], e with its own doing -/
theorem k_lcS {σ : L2.St} {H : Hp} {Q : VK} {g : TG} {te : TE} {vs : List Nat} {n : Int} (J : Addr → Nat → List V → Hp → Prop) (h1 : 0 ≤ n) (h2 : n < 100000) (h0 : ∀ E, H E = none → J E 0 [] (upd H E (.lst [])))
    (hs : ∀ (E : Addr) (i : Nat) (acc : List V) (H' : Hp) (R : VK), H E = none → (i : Int) < n → acc.length = i → H' E = some (.lst acc) → J E i acc H' → (∀ y H4, H4 E = some (.lst acc) → J E (i + 1) (acc ++ [y]) (upd H4 E (.lst (acc ++ [y]))) → R y H4) →
      g (.int (i : Nat)) (wipe σ vs) H' fun σ2 H2 => wipe σ2 vs = wipe σ vs ∧ te σ2 H2 R)
    (q : ∀ E acc H', H E = none → acc.length = n.toNat → H' E = some (.lst acc) → J E n.toNat acc H' → Q (.ref E) H') : kLcR g te vs σ Q (.int n) H := by
  refine ⟨n, rfl, by omega, by omega, fun E hE => ?_⟩
  refine lc_range (lo := 0) (n := n.toNat) (fun i H' => ∃ acc, acc.length = i ∧ H' E = some (.lst acc) ∧ J E i acc H') ⟨[], rfl, upd_same, h0 E hE⟩ (fun i H' hi ⟨acc, ha, e, j⟩ => ?_) fun H' ⟨acc, ha, e, j⟩ => q E acc H' hE ha e j
  have e0 : (0 : Int) + (i : Int) = (i : Int) := Int.zero_add _
  rw [e0]
  exact hs E i acc H' (fun y H4 => ∃ acc, H4 E = some (.lst acc) ∧ acc.length < sizeLine ∧ ∃ acc2, acc2.length = i + 1 ∧ (upd H4 E (.lst (acc ++ [y]))) E = some (.lst acc2) ∧ J E (i + 1) acc2 (upd H4 E (.lst (acc ++ [y])))) hE (by omega) ha e j
    fun y H4 e4 j4 => ⟨acc, e4, szl (by omega), _, by rw [List.length_append, ha]; rfl, upd_same, j4⟩
end Rd
set_option Elab.async false
set_option maxRecDepth 100000
set_option maxHeartbeats 100000000
set_option linter.all false
namespace My
open PySem L2 Sx Rd
def top (i : Nat) : Stmt := PySem.Challenge.pw_tickrings_k10_lines.main.body.getD i (.Pass ⟨0, 0, 0, 0⟩)
abbrev s_wakes : Stmt := top 1
abbrev s_Lines_init : Stmt := inClass (top 2) 0
abbrev s_Lines_raise_line : Stmt := inClass (top 2) 1
abbrev s_Lines_clear_line : Stmt := inClass (top 2) 2
abbrev s_Lines_mask : Stmt := inClass (top 2) 3
abbrev s_Lines_unmask : Stmt := inClass (top 2) 4
abbrev s_Lines_is_pending : Stmt := inClass (top 2) 5
abbrev s_Lines_is_masked : Stmt := inClass (top 2) 6
abbrev s_Lines_candidates : Stmt := inClass (top 2) 7
abbrev s_law_state : Stmt := top 4
abbrev s_law_draw : Stmt := top 5
abbrev s_law_pick : Stmt := top 6
abbrev s_law_agrees : Stmt := top 7
abbrev s_law_wakes_right : Stmt := top 8
abbrev s_law : Stmt := top 9
theorem sc_wakes : FnScope ["held", "oldest", "now", "count", "wait"] ["held", "oldest", "now", "count", "wait"] (defScope s_wakes) := ⟨rfl, rfl, rfl, by decide +kernel, rfl, by decide +kernel, by decide +kernel⟩
theorem sc_Lines_init : FnScope ["self", "many"] ["self", "many"] (defScope s_Lines_init) := ⟨rfl, rfl, rfl, by decide +kernel, rfl, by decide +kernel, by decide +kernel⟩
theorem sc_Lines_raise_line : FnScope ["self", "line"] ["self", "line"] (defScope s_Lines_raise_line) := ⟨rfl, rfl, rfl, by decide +kernel, rfl, by decide +kernel, by decide +kernel⟩
theorem sc_Lines_clear_line : FnScope ["self", "line"] ["self", "line"] (defScope s_Lines_clear_line) := ⟨rfl, rfl, rfl, by decide +kernel, rfl, by decide +kernel, by decide +kernel⟩
theorem sc_Lines_mask : FnScope ["self", "line"] ["self", "line"] (defScope s_Lines_mask) := ⟨rfl, rfl, rfl, by decide +kernel, rfl, by decide +kernel, by decide +kernel⟩
theorem sc_Lines_unmask : FnScope ["self", "line"] ["self", "line"] (defScope s_Lines_unmask) := ⟨rfl, rfl, rfl, by decide +kernel, rfl, by decide +kernel, by decide +kernel⟩
theorem sc_Lines_is_pending : FnScope ["self", "line"] ["self", "line"] (defScope s_Lines_is_pending) := ⟨rfl, rfl, rfl, by decide +kernel, rfl, by decide +kernel, by decide +kernel⟩
theorem sc_Lines_is_masked : FnScope ["self", "line"] ["self", "line"] (defScope s_Lines_is_masked) := ⟨rfl, rfl, rfl, by decide +kernel, rfl, by decide +kernel, by decide +kernel⟩
theorem sc_Lines_candidates : FnScope ["self", "line", "pending"] ["self"] (defScope s_Lines_candidates) := ⟨rfl, rfl, rfl, by decide +kernel, rfl, by decide +kernel, by decide +kernel⟩
theorem sc_law_state : FnScope ["script", "seed", "cell"] ["script"] (defScope s_law_state) := ⟨rfl, rfl, rfl, by decide +kernel, rfl, by decide +kernel, by decide +kernel⟩
theorem sc_law_draw : FnScope ["state", "many", "cells", "value", "mixed"] ["state", "many"] (defScope s_law_draw) := ⟨rfl, rfl, rfl, by decide +kernel, rfl, by decide +kernel, by decide +kernel⟩
theorem sc_law_pick : FnScope ["state", "row"] ["state", "row"] (defScope s_law_pick) := ⟨rfl, rfl, rfl, by decide +kernel, rfl, by decide +kernel, by decide +kernel⟩
theorem sc_law_agrees : FnScope ["lines", "pending", "masked", "line", "one", "other", "told", "due"] ["lines", "pending", "masked"] (defScope s_law_agrees) := ⟨rfl, rfl, rfl, by decide +kernel, rfl, by decide +kernel, by decide +kernel⟩
theorem sc_law_wakes_right : FnScope ["state", "count", "wait", "oldest", "held", "now", "told"] ["state"] (defScope s_law_wakes_right) := ⟨rfl, rfl, rfl, by decide +kernel, rfl, by decide +kernel, by decide +kernel⟩
theorem sc_law : FnScope ["script", "state", "many", "lines", "pending", "line", "masked", "cell", "kind"] ["script"] (defScope s_law) := ⟨rfl, rfl, rfl, by decide +kernel, rfl, by decide +kernel, by decide +kernel⟩
/-- where things stand -/
structure Ads where
  (C_Lines : Addr)
  (f_wakes f_Lines_init f_Lines_raise_line f_Lines_clear_line f_Lines_mask f_Lines_unmask f_Lines_is_pending f_Lines_is_masked f_Lines_candidates f_law_state f_law_draw f_law_pick f_law_agrees f_law_wakes_right f_law : Addr)
  (fd_wakes fd_Lines_init fd_Lines_raise_line fd_Lines_clear_line fd_Lines_mask fd_Lines_unmask fd_Lines_is_pending fd_Lines_is_masked fd_Lines_candidates fd_law_state fd_law_draw fd_law_pick fd_law_agrees fd_law_wakes_right fd_law : FuncData)
def F_Lines (x0 x1 : V) : List (Str × V) := [("_pending", x0), ("_masked", x1)]
section
variable {x0 x1 v : V}
theorem F_Lines_pending_l : (F_Lines x0 x1).lookup ("_pending" : Str) = some x0 := by unfold F_Lines; rw [look_hit]
theorem F_Lines_pending_p : putF "_pending" v (F_Lines x0 x1) = F_Lines v x1 := by unfold F_Lines; rw [putF_hit]; try rfl
theorem F_Lines_masked_l : (F_Lines x0 x1).lookup ("_masked" : Str) = some x1 := by unfold F_Lines; rw [look_miss (by decide +kernel), look_hit]
theorem F_Lines_masked_p : putF "_masked" v (F_Lines x0 x1) = F_Lines x0 v := by unfold F_Lines; rw [putF_miss (by decide +kernel), putF_hit]; try rfl
theorem F_Lines_m_raise_line : (F_Lines x0 x1).lookup ("raise_line" : Str) = none := by unfold F_Lines; rw [look_miss (by decide +kernel), look_miss (by decide +kernel)]; try rfl
theorem F_Lines_m_clear_line : (F_Lines x0 x1).lookup ("clear_line" : Str) = none := by unfold F_Lines; rw [look_miss (by decide +kernel), look_miss (by decide +kernel)]; try rfl
theorem F_Lines_m_mask : (F_Lines x0 x1).lookup ("mask" : Str) = none := by unfold F_Lines; rw [look_miss (by decide +kernel), look_miss (by decide +kernel)]; try rfl
theorem F_Lines_m_unmask : (F_Lines x0 x1).lookup ("unmask" : Str) = none := by unfold F_Lines; rw [look_miss (by decide +kernel), look_miss (by decide +kernel)]; try rfl
theorem F_Lines_m_is_pending : (F_Lines x0 x1).lookup ("is_pending" : Str) = none := by unfold F_Lines; rw [look_miss (by decide +kernel), look_miss (by decide +kernel)]; try rfl
theorem F_Lines_m_is_masked : (F_Lines x0 x1).lookup ("is_masked" : Str) = none := by unfold F_Lines; rw [look_miss (by decide +kernel), look_miss (by decide +kernel)]; try rfl
theorem F_Lines_m_candidates : (F_Lines x0 x1).lookup ("candidates" : Str) = none := by unfold F_Lines; rw [look_miss (by decide +kernel), look_miss (by decide +kernel)]; try rfl
theorem F_Lines_len : (F_Lines x0 x1).length < 1000 := by show 2 < 1000; decide
theorem F_Lines_i1 : putF "_masked" x1 ([(("_pending" : Str), x0)] : List (Str × V)) = [(("_pending" : Str), x0), (("_masked" : Str), x1)] := by rw [putF_miss (by decide +kernel)]; rfl
theorem F_Lines_init : putF "_masked" x1 (putF "_pending" x0 []) = F_Lines x0 x1 := by unfold F_Lines; rw [putF_nil, F_Lines_i1]
end
def sp_law0 (K : PySem.W.Frag) : Sp := A1 fun v H Q _ => ∃ (b : Addr) (ns : List Int), v = .ref b ∧ SqL K H b (ns.map V.int) ∧ ns.length ≤ 63 ∧ ∀ H1, Q (.bl true) H1
abbrev sp_law (K : PySem.W.Frag) (a : Ads) : Sp := sp_law0 K
/-- what the top has written -/
structure Txt (P : Program) (w : World) (K : PySem.W.Frag) (mg : Str → Option Value) (base : Heap) (a : Ads) : Prop where
  g_abs : mg "abs" = none
  g_bool : mg "bool" = none
  g_enumerate : mg "enumerate" = none
  g_int : mg "int" = none
  g_isinstance : mg "isinstance" = none
  g_len : mg "len" = none
  g_list : mg "list" = none
  g_range : mg "range" = none
  F_wakes : Fun K "wakes" "wakes" s_wakes a.f_wakes a.fd_wakes
  b_wakes : Binds K a.fd_wakes ["held", "oldest", "now", "count", "wait"] []
  g_wakes : mg "wakes" = some (.ref a.f_wakes)
  F_Lines_init : Fun K "__init__" "Lines.__init__" s_Lines_init a.f_Lines_init a.fd_Lines_init
  b_Lines_init : Binds K a.fd_Lines_init ["self", "many"] []
  mk_Lines : Mk K a.C_Lines a.f_Lines_init
  F_Lines_raise_line : Fun K "raise_line" "Lines.raise_line" s_Lines_raise_line a.f_Lines_raise_line a.fd_Lines_raise_line
  b_Lines_raise_line : Binds K a.fd_Lines_raise_line ["self", "line"] []
  m_Lines_raise_line : Meth K a.C_Lines "raise_line" a.f_Lines_raise_line
  F_Lines_clear_line : Fun K "clear_line" "Lines.clear_line" s_Lines_clear_line a.f_Lines_clear_line a.fd_Lines_clear_line
  b_Lines_clear_line : Binds K a.fd_Lines_clear_line ["self", "line"] []
  m_Lines_clear_line : Meth K a.C_Lines "clear_line" a.f_Lines_clear_line
  F_Lines_mask : Fun K "mask" "Lines.mask" s_Lines_mask a.f_Lines_mask a.fd_Lines_mask
  b_Lines_mask : Binds K a.fd_Lines_mask ["self", "line"] []
  m_Lines_mask : Meth K a.C_Lines "mask" a.f_Lines_mask
  F_Lines_unmask : Fun K "unmask" "Lines.unmask" s_Lines_unmask a.f_Lines_unmask a.fd_Lines_unmask
  b_Lines_unmask : Binds K a.fd_Lines_unmask ["self", "line"] []
  m_Lines_unmask : Meth K a.C_Lines "unmask" a.f_Lines_unmask
  F_Lines_is_pending : Fun K "is_pending" "Lines.is_pending" s_Lines_is_pending a.f_Lines_is_pending a.fd_Lines_is_pending
  b_Lines_is_pending : Binds K a.fd_Lines_is_pending ["self", "line"] []
  m_Lines_is_pending : Meth K a.C_Lines "is_pending" a.f_Lines_is_pending
  F_Lines_is_masked : Fun K "is_masked" "Lines.is_masked" s_Lines_is_masked a.f_Lines_is_masked a.fd_Lines_is_masked
  b_Lines_is_masked : Binds K a.fd_Lines_is_masked ["self", "line"] []
  m_Lines_is_masked : Meth K a.C_Lines "is_masked" a.f_Lines_is_masked
  F_Lines_candidates : Fun K "candidates" "Lines.candidates" s_Lines_candidates a.f_Lines_candidates a.fd_Lines_candidates
  b_Lines_candidates : Binds K a.fd_Lines_candidates ["self"] []
  m_Lines_candidates : Meth K a.C_Lines "candidates" a.f_Lines_candidates
  F_law_state : Fun K "_law_state" "_law_state" s_law_state a.f_law_state a.fd_law_state
  b_law_state : Binds K a.fd_law_state ["script"] []
  g_law_state : mg "_law_state" = some (.ref a.f_law_state)
  F_law_draw : Fun K "_law_draw" "_law_draw" s_law_draw a.f_law_draw a.fd_law_draw
  b_law_draw : Binds K a.fd_law_draw ["state", "many"] []
  g_law_draw : mg "_law_draw" = some (.ref a.f_law_draw)
  F_law_pick : Fun K "_law_pick" "_law_pick" s_law_pick a.f_law_pick a.fd_law_pick
  b_law_pick : Binds K a.fd_law_pick ["state", "row"] []
  g_law_pick : mg "_law_pick" = some (.ref a.f_law_pick)
  F_law_agrees : Fun K "_law_agrees" "_law_agrees" s_law_agrees a.f_law_agrees a.fd_law_agrees
  b_law_agrees : Binds K a.fd_law_agrees ["lines", "pending", "masked"] []
  g_law_agrees : mg "_law_agrees" = some (.ref a.f_law_agrees)
  F_law_wakes_right : Fun K "_law_wakes_right" "_law_wakes_right" s_law_wakes_right a.f_law_wakes_right a.fd_law_wakes_right
  b_law_wakes_right : Binds K a.fd_law_wakes_right ["state"] []
  g_law_wakes_right : mg "_law_wakes_right" = some (.ref a.f_law_wakes_right)
  F_law : Fun K "law" "law" s_law a.f_law a.fd_law
  b_law : Binds K a.fd_law ["script"] []
  g_law : mg "law" = some (.ref a.f_law)
  g_Lines : mg "Lines" = some (.ref a.C_Lines)
  cl_Lines : Cls K a.C_Lines
  n_Lines_pending : NoAttr K a.C_Lines "_pending"
  n_Lines_masked : NoAttr K a.C_Lines "_masked"
local macro_rules | `(tactic| walk_at "ne") => `(tactic| (first | assumption | exact Ne.symm (by assumption)))
local macro_rules | `(tactic| walk_at "nin") => `(tactic| (simp only [List.mem_cons, List.not_mem_nil, or_false, not_or, not_false_eq_true]; (repeat' refine And.intro ?_ ?_); (all_goals walk_at "ne")))
local macro_rules | `(tactic| walk_at "hl") => `(tactic| (first | (with_reducible assumption) | exact upd_same | ((with_reducible refine' (upd_ne ?hne).trans ?hgo); (case hne => walk_at "ne"); (case hgo => walk_at "hl"))))
local macro_rules | `(tactic| walk_at "sq") => `(tactic| (first | (with_reducible assumption) | exact Or.inl (Or.inl (by walk_at "hl"))))
local macro_rules | `(tactic| walk_at "ar") => `(tactic| (first | omega | exact ⟨by omega, by omega⟩ | exact Or.inl ⟨by omega, by omega⟩ | exact Or.inr ⟨by omega, by omega⟩ | (show (0 : Int) < _; omega) | (show (0 : Int) < _ ∧ _ < (1073741824 : Int); omega)))
local macro_rules | `(tactic| walk_at "cls") => `(tactic| (first | exact Txt.cl_Lines (by assumption)))
local macro_rules | `(tactic| walk_at "noa") => `(tactic| (first | exact Txt.n_Lines_pending (by assumption) | exact Txt.n_Lines_masked (by assumption)))
local macro_rules | `(tactic| walk_at "lkp") => `(tactic| (first | (with_reducible exact F_Lines_pending_l) | (with_reducible exact F_Lines_masked_l)))
local macro_rules | `(tactic| walk_at "ptf") => `(tactic| (first | (with_reducible exact F_Lines_pending_p) | (with_reducible exact F_Lines_masked_p) | exact rfl))
local macro_rules | `(tactic| walk_at "lnF") => `(tactic| (first | (with_reducible exact F_Lines_len) | (refine PL.lt (n := 60) ?_ (by decide); (repeat refine PL.put ?_); exact PL.nil) | decide))
local macro_rules | `(tactic| walk_at "nol") => `(tactic| (first | (with_reducible exact F_Lines_m_raise_line) | (with_reducible exact F_Lines_m_clear_line) | (with_reducible exact F_Lines_m_mask) | (with_reducible exact F_Lines_m_unmask) | (with_reducible exact F_Lines_m_is_pending) | (with_reducible exact F_Lines_m_is_masked) | (with_reducible exact F_Lines_m_candidates)))
local macro_rules | `(tactic| walk_at "r1") => `(tactic| (first
  | with_reducible refine s_seq ?_ | with_reducible refine s_asg ?_ | with_reducible refine g_name ?_ | with_reducible refine s_ret ?_ | with_reducible refine s_if ?_ | with_reducible refine s_drop ?_
  | with_reducible refine d_nx ?_ | with_reducible refine d_rt ?_ | with_reducible refine d_bk ?_ | with_reducible refine d_ct ?_ | with_reducible refine s_next ?_ | with_reducible refine s_retN ?_ | with_reducible refine s_cont ?_ | with_reducible refine s_break ?_
  | ((with_reducible refine' e_var ?hv ?_); (case hv => exact rfl))
  | with_reducible refine o_chC ?_ | ((with_reducible refine' o_chV ?hv ?_); (case hv => exact rfl))
  | with_reducible refine e_c ?_ | with_reducible refine e_op ?_ | with_reducible refine e_un ?_ | with_reducible refine o_I0 ?_ | with_reducible refine o_U ?_
  | ((with_reducible refine' o_I ?hc ?_); (case hc => walk_at "ar"))
  | ((with_reducible refine' o_eq ?hs ?_); (case hs => exact rfl))
  | ((with_reducible refine' o_ne ?hs ?_); (case hs => exact rfl))
  | ((with_reducible refine' o_ixL ?h1 ?h2 ?_); (case h1 => walk_at "sq"); (case h2 => first | exact rfl | exact atI_zero _ _))
  | with_reducible refine e_fld ?_ | with_reducible refine s_fld ?_ | with_reducible refine e_meth ?_ | with_reducible refine e_call ?_ | with_reducible refine e_make ?_
  | ((with_reducible refine' k_fld ?h1 ?h2 ?h3 ?h4 ?_); (case h1 => walk_at "hl"); (case h2 => walk_at "cls"); (case h3 => walk_at "noa"); (case h4 => walk_at "lkp"))
  | ((with_reducible refine' k_set ?h1 ?h2 ?h3 ?h4 ?h5 ?_); (case h1 => walk_at "hl"); (case h2 => walk_at "cls"); (case h3 => walk_at "noa"); (case h4 => walk_at "ptf"); (case h5 => walk_at "lnF"))
  | ((with_reducible refine' k_meth ?h1 ?h2 ?_); (case h1 => walk_at "hl"); (case h2 => walk_at "nol"))
  | with_reducible refine e_cb ?_ | with_reducible refine l_cons ?_ | with_reducible refine l_nil ?_ | with_reducible refine e_lst ?_ | with_reducible refine e_tup ?_
  | with_reducible refine e_bm ?_ | with_reducible refine e_bm0 ?_ | with_reducible refine e_not ?_ | with_reducible refine e_if ?_
  | with_reducible refine t_test ?_ | with_reducible refine t_B ?_ | with_reducible refine k_t ?_ | with_reducible refine t_and ?_ | with_reducible refine t_or ?_ | with_reducible refine t_not ?_
  | with_reducible refine e_chain ?_ | with_reducible refine s_raise ?_ | with_reducible refine e_sl ?_ | with_reducible refine p_no ?_ | with_reducible refine p_some ?_ | with_reducible refine g_sub ?_
  | ((with_reducible refine' c_ln ?h1 ?_); (case h1 => walk_at "sq"))
  | ((with_reducible refine' c_pop0 ?h1 ?h2 ?_); (case h1 => walk_at "hl"); (case h2 => omega))
  | ((with_reducible refine' k_ty ?h1 ?_); (case h1 => walk_at "sq"))
  | with_reducible refine c_isBool ?_ | with_reducible refine c_isInt ?_ | with_reducible refine c_isBoolN ?_
  | with_reducible refine c_isTupI ?_ | with_reducible refine c_isNonB ?_ | with_reducible refine c_isNonT ?_ | ((with_reducible refine' c_isList ?h1 ?_); (case h1 => walk_at "hl")) | ((with_reducible refine' c_isTup ?h1 ?_); (case h1 => walk_at "hl")) | ((with_reducible refine' c_isTupB ?h1 ?_); (case h1 => walk_at "hl"))
  | with_reducible refine o_isB ?_ | with_reducible refine o_notB ?_ | with_reducible refine e_and ?_ | with_reducible refine e_or ?_ | with_reducible refine k_bl ?_
  | with_reducible refine e_xf ?_ | with_reducible refine s_augS ?_ | ((with_reducible refine' s_augV ?hv ?_); (case hv => exact rfl)) | with_reducible refine ip_I ?_ | with_reducible refine e_lcE ?_
  | ((with_reducible refine' k_xf ?h1 ?h2 ?_); (case h1 => walk_at "hl"); (case h2 => exact look_hit _ _ _))
  | with_reducible refine k_i ?_
  | ((with_reducible refine' o_slL ?h1 ?_); (case h1 => walk_at "sq"))
  | ((with_reducible refine' k_dget ?h1 ?h2 ?_); (case h1 => walk_at "hl"); (case h2 => with_reducible assumption))
  | with_reducible refine e_dget ?_ | with_reducible refine s_dput ?_ | with_reducible refine e_makeK ?_ | with_reducible refine g_cons ?_ | with_reducible refine g_nil ?_
  | with_reducible refine c_ab ?_ | with_reducible refine c_in ?_ | with_reducible refine c_mx ?_ | with_reducible refine c_mn ?_
  | with_reducible refine a1 ?_ | with_reducible refine a2 ?_ | with_reducible refine a3 ?_ | with_reducible refine a4 ?_ | with_reducible refine a5 ?_ | with_reducible refine a6 ?_ | with_reducible refine a0 ?_))
local macro_rules | `(tactic| walk_at "r") => `(tactic| (repeat walk_at "r1"))
section
variable {P : Program} {w : World} {K : PySem.W.Frag} {mg : Str → Option Value} {base : Heap} {a : Ads}
/-! ### the script's numbers, drawn -/
def StAt (H : Hp) (st sl : Addr) : Prop := ∃ (ns : List Int) (m : Int), H st = some (.lst [.ref sl, .int m]) ∧ H sl = some (.lst (ns.map V.int)) ∧ ns.length ≤ 63 ∧ (∀ z ∈ ns, 0 ≤ z) ∧ 0 ≤ m ∧ m ≤ 2147483647
theorem StAt.ne {H : Hp} {st sl : Addr} (s : StAt H st sl) : st ≠ sl := by
  obtain ⟨ns, m, h1, h2, _⟩ := s
  refine ne_of h1 h2 fun z => ?_
  have z2 := HO.lst.inj z
  cases ns with
  | nil => cases z2
  | cons y ys => cases (List.cons.inj z2).1
theorem StAt.fp {H H1 : Hp} {st sl : Addr} {fp : List Addr} (s : StAt H st sl) (f : Fp fp H H1) (n1 : st ∉ fp) (n2 : sl ∉ fp) : StAt H1 st sl := by
  obtain ⟨ns, m, h1, h2, r⟩ := s
  exact ⟨ns, m, f _ _ h1 n1, f _ _ h2 n2, r⟩
/-- [draw for k in range(n)] -/
theorem k_lcD {σ : L2.St} {H : Hp} {Q : VK} {g : TG} {te : TE} {vs : List Nat} {n : Int} {st sl : Addr} (P : V → Prop) (h1 : 0 ≤ n) (h2 : n < 100000) (S : StAt H st sl)
    (hs : ∀ (i : Nat) (H' : Hp) (R : VK), (i : Int) < n → StAt H' st sl → Fp [st, sl] H H' → (∀ y H4, P y → StAt H4 st sl → Fp [st, sl] H' H4 → R y H4) →
      g (.int (i : Nat)) (wipe σ vs) H' fun σ2 H2 => wipe σ2 vs = wipe σ vs ∧ te σ2 H2 R)
    (q : ∀ E acc H', H E = none → acc.length = n.toNat → H' E = some (.lst acc) → (∀ y ∈ acc, P y) → StAt H' st sl → Fp [st, sl] H H' → st ≠ E → sl ≠ E → Q (.ref E) H') : kLcR g te vs σ Q (.int n) H := by
  obtain ⟨_, _, z1, z2, _⟩ := id S
  refine k_lcS (fun E i acc H' => (∀ y ∈ acc, P y) ∧ StAt H' st sl ∧ Fp [st, sl] H H') h1 h2 (fun E hE => ⟨by simp, S.fp (Fp.new (fp := []) hE) (by simp) (by simp), Fp.new hE⟩) (fun E i acc H' R hE hi hl e ⟨j1, j2, j3⟩ k => hs i H' R hi j2 j3 fun y H4 py S4 f4 => ?_) fun E acc H' hE hl e ⟨j1, j2, j3⟩ => q E acc H' hE hl e j1 j2 j3 (ne_of_none z1 hE) (ne_of_none z2 hE)
  have n1 := ne_of_none z1 hE
  have n2 := ne_of_none z2 hE
  refine k y H4 (f4 _ _ e (by simp [n1.symm, n2.symm])) ⟨fun x hx => ?_, S4.fp (Fp.at_ (fp := [E]) (by simp)) (by simp [n1]) (by simp [n2]), Fp.drop (fp := [E, st, sl]) (((j3.trans f4).mono (fun z hz => List.mem_cons_of_mem _ hz)).trans (Fp.at_ (by simp))) fun z hz => ?_⟩
  · rcases List.mem_append.mp hx with hx | hx
    · exact j1 x hx
    · rw [List.mem_singleton.mp hx]; exact py
  · rcases List.mem_cons.mp hz with rfl | hz
    · exact .inr hE
    · exact .inl hz
def sp_law_state (K : PySem.W.Frag) (a : Ads) : Sp := A1 fun v H Q _ => ∃ (b : Addr) (ns : List Int), v = .ref b ∧ SqL K H b (ns.map V.int) ∧ ns.length ≤ 63 ∧
  ∀ st sl H1, H st = none → H sl = none → StAt H1 st sl → Fp [] H H1 → Q (.ref st) H1
def sp_law_draw (K : PySem.W.Frag) (a : Ads) : Sp := A2 fun s m H Q _ => ∃ (st sl : Addr) (k : Int), s = .ref st ∧ m = .int k ∧ StAt H st sl ∧ 1 ≤ k ∧ k < 1073741824 ∧
  ∀ r H1, 0 ≤ r → r < k → StAt H1 st sl → Fp [st, sl] H H1 → Q (.int r) H1
theorem ok_law_state (T : Txt P w K mg base a) : FnOk P w K mg base (L2.CX P w) 1 a.f_law_state a.fd_law_state ["script"] (sp_law_state K a) := by
  refine T.F_law_state.okX sc_law_state (fun vs H Q E h => A1.len h) (fun cdv A outer s H vs Q E hr h => ?_)
  have hu := hu_of hr
  obtain ⟨v_script, rfl, h⟩ := h
  refine ⟨_, (pss_cons (ps_set (i := 1) sc_law_state.nd rfl (by first | exact Or.inl rfl | exact Or.inr rfl) pe_int)
    (pss_cons (ps_for (passes_of rfl) rfl (pi_list (pv 0)) (pg_name (i := 2) sc_law_state.nd rfl (by first | exact Or.inl rfl | exact Or.inr rfl)) (pss_one (ps_set (i := 1) sc_law_state.nd rfl (by first | exact Or.inl rfl | exact Or.inr rfl) (pe_op op_mod (pe_callTy call_in (by rfl) T.g_int (by decide +kernel) (pa_cons (pe_op op_add (pe_op op_mul (pv 1) pe_int) (pv 2)) pa_nil)) pe_int))))
    (pss_one (ps_ret (pe_lst (pa_cons (pe_lc (own := [("cell", 2)]) (g := (gName 2)) (tt := tYes) (te := (tCB rAb (tCons (tVar 2) tNil))) rfl sc_law_state.nd (pi_list (pv 0)) (blkOk_by (N := ["script", "seed", "cell"]) (sc := defScope s_law_state) (own := [("cell", 2)]) (by decide +kernel)) (fun _ _ _ _ _ => by exact (pg_name (i := 2) sc_law_state.nd rfl (by first | exact Or.inl rfl | exact Or.inr rfl))) (fun _ _ _ _ _ => by exact pts_nil) (fun _ _ _ _ _ => by exact (pe_callB call_ab (by rfl) T.g_abs (by decide +kernel) (pa_cons (pv 2) pa_nil)))) (pa_cons (pe_op op_add (pv 1) pe_int) pa_nil))))))), ?_⟩
  obtain ⟨b, ns, rfl, hS, hn, k⟩ := h
  walk_at "r"
  refine f_list (xs := ns.map V.int) (fun i σ H1 => ∃ (sd : Int) (u : Option V), σ = [some (.ref b), some (.int sd), u] ∧ H1 = H ∧ 0 ≤ sd ∧ sd < 1000003) rfl hS ⟨7, none, rfl, rfl, by omega, by omega⟩ (fun i σ H1 _ ⟨_, _, _, e, _⟩ => e ▸ hS) ?_ ?_
  · rintro i x σ H1 hx ⟨sd, u, rfl, rfl, h0, h1⟩
    obtain ⟨z, rfl⟩ : ∃ z, x = V.int z := by
      obtain ⟨z, _, e⟩ := List.mem_map.mp (List.mem_of_getElem? hx)
      exact ⟨z, e.symm⟩
    walk_at "r"
    exact ⟨_, _, rfl, rfl, Int.emod_nonneg _ (by omega), Int.emod_lt_of_pos _ (by omega)⟩
  · rintro σ H1 ⟨sd, u, rfl, rfl, h0, h1⟩
    walk_at "r"
    refine lc_pure (xs := ns.map V.int) (ys := (ns.map fun z => if z < 0 then -z else z).map V.int) rfl hS (by simp) (by simp <;> omega) (fun E i x y H2 R hE hx hy e hR => ?_) fun E hE => ?_
    · obtain ⟨z, hz, rfl⟩ : ∃ z, ns[i]? = some z ∧ V.int z = x := by rw [List.getElem?_map] at hx; simpa using hx
      have hy' : V.int (if z < 0 then -z else z) = y := by simpa [List.getElem?_map, hz] using hy
      refine ⟨rfl, ?_⟩
      walk_at "r"
      rw [hy']
      exact hR
    · walk_at "r"
      refine ⟨sz (by simp), fun st hst => ?_⟩
      have nE : st ≠ E := ne_of_none upd_same hst |>.symm
      have nst : H1 st = none := by rw [upd_ne nE] at hst; exact hst
      refine k st E _ nst hE ⟨_, _, upd_same, by rw [upd_ne nE.symm, upd_same], by simpa using hn, fun z hz => ?_, by omega, by omega⟩ ((Fp.new hE).trans (Fp.new hst))
      obtain ⟨y, _, rfl⟩ := List.mem_map.mp hz
      split <;> omega
theorem ok_law_draw (T : Txt P w K mg base a) : FnOk P w K mg base (L2.CX P w) 1 a.f_law_draw a.fd_law_draw ["state", "many"] (sp_law_draw K a) := by
  refine T.F_law_draw.okX sc_law_draw (fun vs H Q E h => A2.len h) (fun cdv A outer s H vs Q E hr h => ?_)
  have hu := hu_of hr
  obtain ⟨v_state, v_many, rfl, h⟩ := h
  refine ⟨_, (pss_cons (ps_set (i := 2) sc_law_draw.nd rfl (by first | exact Or.inl rfl | exact Or.inr rfl) (pe_ix ix_list (pv 0) pe_int (fun _ _ => rfl)))
    (pss_cons (ps_while (passes_of rfl) (PW.pt (pw_and (pt_cmpR op_gt (pe_callB call_ln (by rfl) T.g_len (by decide +kernel) (pa_cons (pv 2) pa_nil)) pe_int (nomark _)) (pw_and1 (pt_cmpR op_eq (pe_ix ix_list (pv 2) pe_int (fun _ _ => rfl)) pe_int (nomark _))))) (pss_one (ps_expr (pe_bm PySem.F.plainAttrs_list PySem.F.slot_list_pop PySem.F.type_list_pop mt_popAt (pv 2) (pa_cons pe_int pa_nil)))))
    (pss_cons (ps_if (pt_cmpR op_gt (pe_callB call_ln (by rfl) T.g_len (by decide +kernel) (pa_cons (pv 2) pa_nil)) pe_int (nomark _)) (pss_cons (ps_set (i := 3) sc_law_draw.nd rfl (by first | exact Or.inl rfl | exact Or.inr rfl) (pe_ix ix_list (pv 2) pe_int (fun _ _ => rfl)))
    (pss_cons (ps_asg (pe_op op_fdiv (pv 3) (pv 1)) (pg_sub (pv 2) pe_int set_list))
    (pss_one (ps_ret (pe_op op_mod (pe_callTy call_in (by rfl) T.g_int (by decide +kernel) (pa_cons (pv 3) pa_nil)) (pv 1)))))) pss_nil)
    (pss_cons (ps_set (i := 4) sc_law_draw.nd rfl (by first | exact Or.inl rfl | exact Or.inr rfl) (pe_op op_mod (pe_callTy call_in (by rfl) T.g_int (by decide +kernel) (pa_cons (pe_op op_add (pe_op op_mul (pe_ix ix_list (pv 0) pe_int (fun _ _ => rfl)) pe_int) pe_int) pa_nil)) pe_int))
    (pss_cons (ps_asg (pv 4) (pg_sub (pv 0) pe_int set_list))
    (pss_one (ps_ret (pe_op op_mod (pe_callTy call_in (by rfl) T.g_int (by decide +kernel) (pa_cons (pe_op op_fdiv (pv 4) pe_int) pa_nil)) (pv 1))))))))), ?_⟩
  obtain ⟨st, sl, kk, rfl, rfl, S, k1, k2, k⟩ := h
  obtain ⟨ns, m, hst, hsl, hn, hpos, m0, m1⟩ := id S
  have nss := S.ne
  walk_at "r"
  refine w_by (fun q σ H1 => ∃ (ns1 : List Int), σ = [some (.ref st), some (.int kk), some (.ref sl), none, none] ∧ q = ns1.length ∧ H1 st = some (.lst [.ref sl, .int m]) ∧ H1 sl = some (.lst (ns1.map V.int)) ∧ ns1.length ≤ 63 ∧ (∀ z ∈ ns1, 0 ≤ z) ∧ Fp [st, sl] H H1) ns.length ⟨ns, rfl, rfl, hst, hsl, hn, hpos, Fp.refl _ _⟩ ?_
  rintro q σ H1 ⟨ns1, rfl, rfl, g1, g2, gn, gp, gf⟩
  walk_at "r"
  rw [List.length_map]
  cases ns1 with
  | nil =>
    refine if_dF (by simp) ?_
    refine iteF ?_
    walk_at "r"
    refine if_dF (by simp) ?_
    walk_at "r"
    refine c_setL (j := 1) g1 rfl (by simp) ?_
    walk_at "r"
    exact k _ _ (Int.emod_nonneg _ (by omega)) (Int.emod_lt_of_pos _ (by omega)) ⟨[], _, upd_same, by rw [upd_ne nss.symm]; exact g2, gn, gp, Int.emod_nonneg _ (by omega), by have := Int.emod_lt_of_pos (m * 48271 + 12345) (show (0 : Int) < 2147483647 by omega); omega⟩ (gf.trans (Fp.at_ (by simp)))
  | cons z zs =>
    rw [List.map_cons] at g2
    have gz : zs.length ≤ 62 := by simpa using gn
    have gl : ((zs.map V.int).length) < 100000 := by rw [List.length_map]; omega
    refine if_dT (by simp <;> omega) ?_
    walk_at "r"
    refine if_d (fun e => ?_) (fun e => ?_)
    · refine ⟨_, fun _ _ h => h, ?_⟩
      walk_at "r"
      exact ⟨zs.length, by simp, zs, rfl, rfl, by rw [upd_ne nss]; exact g1, upd_same, by omega, fun y hy => gp y (List.mem_cons_of_mem _ hy), gf.trans (Fp.at_ (by simp))⟩
    · walk_at "r"
      refine if_dT (by simp <;> omega) ?_
      walk_at "r"
      refine c_setL (j := 0) g2 rfl (by simp) ?_
      walk_at "r"
      have hz := gp z List.mem_cons_self
      exact k _ _ (Int.emod_nonneg _ (by omega)) (Int.emod_lt_of_pos _ (by omega)) ⟨z / kk :: zs, m, by rw [upd_ne nss]; exact g1, upd_same, gn, fun y hy => by
        rcases List.mem_cons.mp hy with rfl | hy
        · exact Int.ediv_nonneg hz (by omega)
        · exact gp y (List.mem_cons_of_mem _ hy), m0, m1⟩ (gf.trans (Fp.at_ (by simp)))
/-! ### lines -/
def LinAt (C : Addr) (H : Hp) (p pe ma : Addr) (ps ms : List Bool) : Prop := (∃ dx, H p = some (.ins C dx (F_Lines (.ref pe) (.ref ma)))) ∧ H pe = some (.lst (ps.map V.bl)) ∧ H ma = some (.lst (ms.map V.bl)) ∧ pe ≠ ma ∧ ms.length = ps.length ∧ ps.length ≤ 1000
theorem LinAt.np {C : Addr} {H : Hp} {p pe ma l : Addr} {ps ms : List Bool} {vs : List V} (s : LinAt C H p pe ma ps ms) (h : H l = some (.lst vs)) : p ≠ l := by
  obtain ⟨⟨_, z⟩, _⟩ := s
  exact ne_of z h (fun z => by cases z)
theorem LinAt.fp {C : Addr} {H H1 : Hp} {p pe ma : Addr} {ps ms : List Bool} {fp : List Addr} (s : LinAt C H p pe ma ps ms) (f : Fp fp H H1) (n0 : p ∉ fp) (n1 : pe ∉ fp) (n2 : ma ∉ fp) : LinAt C H1 p pe ma ps ms := by
  obtain ⟨⟨dx, z⟩, z1, z2, z3⟩ := s
  exact ⟨⟨dx, f _ _ z n0⟩, f _ _ z1 n1, f _ _ z2 n2, z3⟩
/-- the candidates -/
def candF (ps ms : List Bool) (i : Nat) : Option V := if (ps[i]?.getD false && !(ms[i]?.getD false)) = true then some (.int i) else none
def cand (ps ms : List Bool) : List V := (List.range ps.length).filterMap (candF ps ms)
def sp_Lines_init (K : PySem.W.Frag) (a : Ads) : Sp := A2 fun s v H Q E => ∃ (p dx : Addr) (n : Nat), s = .ref p ∧ v = .int n ∧ H p = some (.ins a.C_Lines dx []) ∧ n ≤ 1000 ∧
  ∀ pe ma H1, H pe = none → H ma = none → LinAt a.C_Lines H1 p pe ma (List.replicate n false) (List.replicate n false) → Fp [p] H H1 → Q .non H1
def spSetP (b : Bool) (C : Addr) : Sp := A2 fun s v H Q E => ∃ (p pe ma : Addr) (ps ms : List Bool) (n : Nat), s = .ref p ∧ v = .int n ∧ LinAt C H p pe ma ps ms ∧ n < ps.length ∧ ∀ H1, LinAt C H1 p pe ma (ps.set n b) ms → Fp [pe] H H1 → Q .non H1
def spSetM (b : Bool) (C : Addr) : Sp := A2 fun s v H Q E => ∃ (p pe ma : Addr) (ps ms : List Bool) (n : Nat), s = .ref p ∧ v = .int n ∧ LinAt C H p pe ma ps ms ∧ n < ps.length ∧ ∀ H1, LinAt C H1 p pe ma ps (ms.set n b) → Fp [ma] H H1 → Q .non H1
abbrev sp_Lines_raise_line (K : PySem.W.Frag) (a : Ads) : Sp := spSetP true a.C_Lines
abbrev sp_Lines_clear_line (K : PySem.W.Frag) (a : Ads) : Sp := spSetP false a.C_Lines
abbrev sp_Lines_mask (K : PySem.W.Frag) (a : Ads) : Sp := spSetM true a.C_Lines
abbrev sp_Lines_unmask (K : PySem.W.Frag) (a : Ads) : Sp := spSetM false a.C_Lines
def sp_Lines_is_pending (K : PySem.W.Frag) (a : Ads) : Sp := A2 fun s v H Q E => ∃ (p pe ma : Addr) (ps ms : List Bool) (n : Nat) (b : Bool), s = .ref p ∧ v = .int n ∧ LinAt a.C_Lines H p pe ma ps ms ∧ ps[n]? = some b ∧ Q (.bl b) H
def sp_Lines_is_masked (K : PySem.W.Frag) (a : Ads) : Sp := A2 fun s v H Q E => ∃ (p pe ma : Addr) (ps ms : List Bool) (n : Nat) (b : Bool), s = .ref p ∧ v = .int n ∧ LinAt a.C_Lines H p pe ma ps ms ∧ ms[n]? = some b ∧ Q (.bl b) H
def sp_Lines_candidates (K : PySem.W.Frag) (a : Ads) : Sp := A1 fun s H Q E => ∃ (p pe ma : Addr) (ps ms : List Bool), s = .ref p ∧ LinAt a.C_Lines H p pe ma ps ms ∧
  ∀ l H1, H l = none → H1 l = some (.lst (cand ps ms)) → Fp [] H H1 → Q (.ref l) H1
def sp_wakes (K : PySem.W.Frag) (a : Ads) : Sp := A5 fun h o n c w H Q E => ∃ hh nn cc ww : Int, h = .int hh ∧ n = .int nn ∧ c = .int cc ∧ w = .int ww ∧
  ((∃ oo : Int, o = .int oo ∧ Q (.bl (decide (cc ≤ hh) || decide (ww ≤ nn - oo))) H) ∨ (o = .non ∧ Q (.bl (decide (cc ≤ hh))) H))
theorem ok_Lines_init (T : Txt P w K mg base a) : FnOk P w K mg base (L2.CX P w) 1 a.f_Lines_init a.fd_Lines_init ["self", "many"] (sp_Lines_init K a) := by
  refine T.F_Lines_init.okX sc_Lines_init (fun vs H Q E h => A2.len h) (fun cdv A outer s H vs Q E hr h => ?_)
  have hu := hu_of hr
  obtain ⟨v_self, v_many, rfl, h⟩ := h
  refine ⟨_, (pss_cons (ps_fld (pv 0) (pe_op op_rep (pe_lst (pa_cons pe_bl pa_nil)) (pv 1)) rfl)
    (pss_one (ps_fld (pv 0) (pe_op op_rep (pe_lst (pa_cons pe_bl pa_nil)) (pv 1)) rfl))), ?_⟩
  obtain ⟨p, dx, n, rfl, rfl, hp, hn, k⟩ := h
  walk_at "r"
  refine ⟨sz (by decide), fun q1 hq1 => ?_⟩
  walk_at "r"
  refine o_rep (K := K) upd_same (by omega) (by simp; omega) (by omega) fun pe hpe => ?_
  have ef : (List.replicate (n : Int).toNat [V.bl false]).flatten = (List.replicate n false).map V.bl := by
    rw [Int.toNat_natCast, List.flatten_replicate_singleton, List.map_replicate]
  rw [ef]
  have f1 : Fp [] H _ := (Fp.new (o := .lst [.bl false]) hq1).trans (Fp.new (o := .lst ((List.replicate n false).map V.bl)) hpe)
  have fpe := (Fp.new (fp := []) (o := .lst [.bl false]) hq1).free (by simp) hpe
  have hp1 := f1 _ _ hp (by simp)
  have e1 : upd (upd H q1 (.lst [.bl false])) pe (.lst ((List.replicate n false).map V.bl)) pe = some (.lst ((List.replicate n false).map V.bl)) := upd_same
  generalize upd (upd H q1 _) pe _ = H1 at f1 hp1 e1 ⊢
  have n1 : pe ≠ p := ne_of e1 hp1 (fun z => by cases z)
  walk_at "r"
  refine ⟨sz (by decide), fun q2 hq2 => ?_⟩
  walk_at "r"
  refine o_rep (K := K) upd_same (by omega) (by simp; omega) (by omega) fun ma hma => ?_
  rw [ef]
  have hp2 : upd H1 p (.ins a.C_Lines dx (putF "_pending" (.ref pe) [])) p = some (.ins a.C_Lines dx (putF "_pending" (.ref pe) [])) := upd_same
  have e2 : upd H1 p (.ins a.C_Lines dx (putF "_pending" (.ref pe) [])) pe = _ := (upd_ne n1).trans e1
  have fp1 : Fp [p] H (upd H1 p (.ins a.C_Lines dx (putF "_pending" (.ref pe) []))) := (f1.mono (by simp)).trans (Fp.at_ (by simp))
  generalize upd H1 p (.ins a.C_Lines dx (putF "_pending" (.ref pe) [])) = H2 at hq2 hma hp2 e2 fp1 ⊢
  have f3 : Fp [] H2 _ := (Fp.new (o := .lst [.bl false]) hq2).trans (Fp.new (o := .lst ((List.replicate n false).map V.bl)) hma)
  have fma := (Fp.new (fp := []) (o := .lst [.bl false]) hq2).free (by simp) hma
  have hp3 := f3 _ _ hp2 (by simp)
  have e3 := f3 _ _ e2 (by simp)
  have e4 : upd (upd H2 q2 (.lst [.bl false])) ma (.lst ((List.replicate n false).map V.bl)) ma = some (.lst ((List.replicate n false).map V.bl)) := upd_same
  have n2 : pe ≠ ma := ne_of_none e2 fma
  have n3 : p ≠ ma := ne_of_none hp2 fma
  generalize upd (upd H2 q2 _) ma _ = H3 at f3 hp3 e3 e4 ⊢
  walk_at "r"
  refine k pe ma _ fpe (fp1.free (by simp [n3.symm]) fma) ⟨⟨dx, by rw [upd_same]; exact congrArg some (congrArg (HO.ins a.C_Lines dx) F_Lines_init)⟩, (upd_ne n1).trans e3, (upd_ne n3.symm).trans e4, n2, by simp, by simpa using hn⟩ ((fp1.trans (f3.mono (by simp))).trans (Fp.at_ (by simp)))
theorem ok_Lines_raise_line (T : Txt P w K mg base a) : FnOk P w K mg base (L2.CX P w) 1 a.f_Lines_raise_line a.fd_Lines_raise_line ["self", "line"] (sp_Lines_raise_line K a) := by
  refine T.F_Lines_raise_line.okX sc_Lines_raise_line (fun vs H Q E h => A2.len h) (fun cdv A outer s H vs Q E hr h => ?_)
  have hu := hu_of hr
  obtain ⟨v_self, v_line, rfl, h⟩ := h
  refine ⟨_, (pss_one (ps_asg pe_bl (pg_sub (pe_fld (pv 0) rfl) (pv 1) set_list))), ?_⟩
  obtain ⟨p, pe, ma, ps, ms, n, rfl, rfl, B, hn, k⟩ := h
  obtain ⟨⟨dx, hp⟩, h1, h2, ne, hl, hz⟩ := id B
  walk_at "r"
  refine c_setL (j := n) h1 rfl (by rw [List.length_map]; exact hn) ?_
  walk_at "r"
  exact k _ ⟨⟨dx, by rw [upd_ne (B.np h1)]; exact hp⟩, by rw [upd_same, List.map_set], by rw [upd_ne ne.symm]; exact h2, ne, by rw [List.length_set]; exact hl, by rw [List.length_set]; exact hz⟩ (Fp.at_ (by simp))
theorem ok_Lines_clear_line (T : Txt P w K mg base a) : FnOk P w K mg base (L2.CX P w) 1 a.f_Lines_clear_line a.fd_Lines_clear_line ["self", "line"] (sp_Lines_clear_line K a) := by
  refine T.F_Lines_clear_line.okX sc_Lines_clear_line (fun vs H Q E h => A2.len h) (fun cdv A outer s H vs Q E hr h => ?_)
  have hu := hu_of hr
  obtain ⟨v_self, v_line, rfl, h⟩ := h
  refine ⟨_, (pss_one (ps_asg pe_bl (pg_sub (pe_fld (pv 0) rfl) (pv 1) set_list))), ?_⟩
  obtain ⟨p, pe, ma, ps, ms, n, rfl, rfl, B, hn, k⟩ := h
  obtain ⟨⟨dx, hp⟩, h1, h2, ne, hl, hz⟩ := id B
  walk_at "r"
  refine c_setL (j := n) h1 rfl (by rw [List.length_map]; exact hn) ?_
  walk_at "r"
  exact k _ ⟨⟨dx, by rw [upd_ne (B.np h1)]; exact hp⟩, by rw [upd_same, List.map_set], by rw [upd_ne ne.symm]; exact h2, ne, by rw [List.length_set]; exact hl, by rw [List.length_set]; exact hz⟩ (Fp.at_ (by simp))
theorem ok_Lines_mask (T : Txt P w K mg base a) : FnOk P w K mg base (L2.CX P w) 1 a.f_Lines_mask a.fd_Lines_mask ["self", "line"] (sp_Lines_mask K a) := by
  refine T.F_Lines_mask.okX sc_Lines_mask (fun vs H Q E h => A2.len h) (fun cdv A outer s H vs Q E hr h => ?_)
  have hu := hu_of hr
  obtain ⟨v_self, v_line, rfl, h⟩ := h
  refine ⟨_, (pss_one (ps_asg pe_bl (pg_sub (pe_fld (pv 0) rfl) (pv 1) set_list))), ?_⟩
  obtain ⟨p, pe, ma, ps, ms, n, rfl, rfl, B, hn, k⟩ := h
  obtain ⟨⟨dx, hp⟩, h1, h2, ne, hl, hz⟩ := id B
  walk_at "r"
  refine c_setL (j := n) h2 rfl (by rw [List.length_map]; omega) ?_
  walk_at "r"
  exact k _ ⟨⟨dx, by rw [upd_ne (B.np h2)]; exact hp⟩, by rw [upd_ne ne]; exact h1, by rw [upd_same, List.map_set], ne, by rw [List.length_set]; exact hl, hz⟩ (Fp.at_ (by simp))
theorem ok_Lines_unmask (T : Txt P w K mg base a) : FnOk P w K mg base (L2.CX P w) 1 a.f_Lines_unmask a.fd_Lines_unmask ["self", "line"] (sp_Lines_unmask K a) := by
  refine T.F_Lines_unmask.okX sc_Lines_unmask (fun vs H Q E h => A2.len h) (fun cdv A outer s H vs Q E hr h => ?_)
  have hu := hu_of hr
  obtain ⟨v_self, v_line, rfl, h⟩ := h
  refine ⟨_, (pss_one (ps_asg pe_bl (pg_sub (pe_fld (pv 0) rfl) (pv 1) set_list))), ?_⟩
  obtain ⟨p, pe, ma, ps, ms, n, rfl, rfl, B, hn, k⟩ := h
  obtain ⟨⟨dx, hp⟩, h1, h2, ne, hl, hz⟩ := id B
  walk_at "r"
  refine c_setL (j := n) h2 rfl (by rw [List.length_map]; omega) ?_
  walk_at "r"
  exact k _ ⟨⟨dx, by rw [upd_ne (B.np h2)]; exact hp⟩, by rw [upd_ne ne]; exact h1, by rw [upd_same, List.map_set], ne, by rw [List.length_set]; exact hl, hz⟩ (Fp.at_ (by simp))
theorem ok_Lines_is_pending (T : Txt P w K mg base a) : FnOk P w K mg base (L2.CX P w) 1 a.f_Lines_is_pending a.fd_Lines_is_pending ["self", "line"] (sp_Lines_is_pending K a) := by
  refine T.F_Lines_is_pending.okX sc_Lines_is_pending (fun vs H Q E h => A2.len h) (fun cdv A outer s H vs Q E hr h => ?_)
  have hu := hu_of hr
  obtain ⟨v_self, v_line, rfl, h⟩ := h
  refine ⟨_, (pss_one (ps_ret (pe_ix ix_list (pe_fld (pv 0) rfl) (pv 1) (fun _ _ => rfl)))), ?_⟩
  obtain ⟨p, pe, ma, ps, ms, n, b, rfl, rfl, B, hn, k⟩ := h
  obtain ⟨⟨dx, hp⟩, h1, h2, ne, hl, hz⟩ := id B
  walk_at "r"
  refine o_ixL (Or.inl (Or.inl h1)) (atI_nat (by rw [List.getElem?_map, hn]; rfl)) ?_
  walk_at "r"
  exact k
theorem ok_Lines_is_masked (T : Txt P w K mg base a) : FnOk P w K mg base (L2.CX P w) 1 a.f_Lines_is_masked a.fd_Lines_is_masked ["self", "line"] (sp_Lines_is_masked K a) := by
  refine T.F_Lines_is_masked.okX sc_Lines_is_masked (fun vs H Q E h => A2.len h) (fun cdv A outer s H vs Q E hr h => ?_)
  have hu := hu_of hr
  obtain ⟨v_self, v_line, rfl, h⟩ := h
  refine ⟨_, (pss_one (ps_ret (pe_ix ix_list (pe_fld (pv 0) rfl) (pv 1) (fun _ _ => rfl)))), ?_⟩
  obtain ⟨p, pe, ma, ps, ms, n, b, rfl, rfl, B, hn, k⟩ := h
  obtain ⟨⟨dx, hp⟩, h1, h2, ne, hl, hz⟩ := id B
  walk_at "r"
  refine o_ixL (Or.inl (Or.inl h2)) (atI_nat (by rw [List.getElem?_map, hn]; rfl)) ?_
  walk_at "r"
  exact k
theorem ok_Lines_candidates (T : Txt P w K mg base a) : FnOk P w K mg base (L2.CX P w) 1 a.f_Lines_candidates a.fd_Lines_candidates ["self"] (sp_Lines_candidates K a) := by
  refine T.F_Lines_candidates.okX sc_Lines_candidates (fun vs H Q E h => A1.len h) (fun cdv A outer s H vs Q E hr h => ?_)
  have hu := hu_of hr
  obtain ⟨v_self, rfl, h⟩ := h
  refine ⟨_, (pss_one (ps_ret (pe_lc (own := [("line", 1), ("pending", 2)]) (g := (gTup K 2 (gCons (gName 1) (gCons (gName 2) gNil)))) (tt := (tAnd (tB (tVar 2)) (tNot (tB (tOp (rIxL K) (tFld K (tVar 0) "_masked") (tVar 1)))))) (te := (tVar 1)) rfl sc_Lines_candidates.nd (pi_enum rfl T.g_enumerate (pa_cons (pe_fld (pv 0) rfl) pa_nil)) (blkOk_by (N := ["self", "line", "pending"]) (sc := defScope s_Lines_candidates) (own := [("line", 1), ("pending", 2)]) (by decide +kernel)) (fun _ _ _ _ _ => by exact (pg_tup rfl (pgs_cons (pg_name (i := 1) sc_Lines_candidates.nd rfl (by first | exact Or.inl rfl | exact Or.inr rfl)) (pgs_cons (pg_name (i := 2) sc_Lines_candidates.nd rfl (by first | exact Or.inl rfl | exact Or.inr rfl)) pgs_nil)))) (fun _ _ _ _ _ => by exact (pts_one (PW.pt (pw_and (pt_val (pv 2)) (pw_and1 (pt_not (pt_val (pe_ix ix_list (pe_fld (pv 0) rfl) (pv 1) (fun _ _ => rfl))))))))) (fun _ _ _ _ _ => by exact (pv 1))))), ?_⟩
  obtain ⟨p, pe, ma, ps, ms, rfl, B, k⟩ := h
  obtain ⟨⟨dx, hp⟩, h1, h2, ne, hl, hz⟩ := id B
  walk_at "r"
  refine k_lcE (xs := ps.map V.bl) (candF ps ms) (Or.inl (Or.inl h1)) (by rw [List.length_map]; omega) (fun E2 T i x H' R N hE hx hT hacc F kR kN => ?_) fun E2 H' hE hacc F => ?_
  · have hp' := F _ _ hp (by simp)
    have h2' := F _ _ h2 (by simp)
    obtain ⟨b1, e1, rfl⟩ : ∃ b1, ps[i]? = some b1 ∧ V.bl b1 = x := by rw [List.getElem?_map] at hx; simpa using hx
    have hi2 : i < ps.length := (List.getElem?_eq_some_iff.mp e1).1
    have hi3 : i < ms.length := by omega
    have e2 : ms[i]? = some ms[i] := List.getElem?_eq_getElem hi3
    refine g_tup (Or.inl (Or.inl hT)) rfl ?_
    walk_at "r"
    refine ⟨rfl, ?_⟩
    walk_at "r"
    refine if_b (fun c1 => ?_) (fun c1 => ?_)
    · walk_at "r"
      refine o_ixL (Or.inl (Or.inl h2')) (atI_nat (by rw [List.getElem?_map, e2]; rfl)) ?_
      walk_at "r"
      refine if_b (fun c2 => ?_) (fun c2 => ?_)
      · walk_at "r"
        exact kR _ _ (by simp only [candF, e1, e2, Option.getD_some, c1, c2, Bool.true_and, if_pos]) (Fp.refl _ _)
      · exact kN (by simp only [candF, e1, e2, Option.getD_some, c1, c2, Bool.true_and, if_neg Bool.false_ne_true]) _ (Fp.refl _ _)
    · exact kN (by simp only [candF, e1, Option.getD_some, c1, Bool.false_and, if_neg Bool.false_ne_true]) _ (Fp.refl _ _)
  · rw [List.length_map] at hacc
    exact k E2 _ hE hacc F
theorem ok_wakes (T : Txt P w K mg base a) : FnOk P w K mg base (L2.CX P w) 1 a.f_wakes a.fd_wakes ["held", "oldest", "now", "count", "wait"] (sp_wakes K a) := by
  refine T.F_wakes.okX sc_wakes (fun vs H Q E h => A5.len h) (fun cdv A outer s H vs Q E hr h => ?_)
  have hu := hu_of hr
  obtain ⟨v_held, v_oldest, v_now, v_count, v_wait, rfl, h⟩ := h
  refine ⟨_, (pss_cons (ps_if (pt_cmpR op_ge (pv 0) (pv 3) (nomark _)) (pss_one (ps_ret pe_bl)) pss_nil)
    (pss_one (ps_ret (pe_and (pe_cmpR op_notN (pv 1) pe_non (nomark _)) (pe_one (pe_cmpR op_ge (pe_op op_sub (pv 2) (pv 1)) (pv 4) (nomark _))))))), ?_⟩
  obtain ⟨hh, nn, cc, ww, rfl, rfl, rfl, rfl, hq⟩ := h
  rcases hq with ⟨oo, rfl, hq⟩ | ⟨rfl, hq⟩
  · walk_at "r"
    refine if_d (fun c => ?_) (fun c => ?_)
    · walk_at "r"
      rw [decide_eq_true c, Bool.true_or] at hq
      exact hq
    · walk_at "r"
      refine ⟨rfl, ?_⟩
      walk_at "r"
      refine iteT ?_
      walk_at "r"
      rw [decide_eq_false c, Bool.false_or] at hq
      exact hq
  · walk_at "r"
    refine if_d (fun c => ?_) (fun c => ?_)
    · walk_at "r"
      rw [decide_eq_true c] at hq
      exact hq
    · walk_at "r"
      refine ⟨rfl, ?_⟩
      walk_at "r"
      refine iteF ?_
      rw [decide_eq_false c] at hq
      exact hq
/-! ### one of a row of numbers, drawn -/
def sp_law_pick (K : PySem.W.Frag) (a : Ads) : Sp := A2 fun s r H Q _ => ∃ (st sl l : Addr) (xs : List Int), s = .ref st ∧ r = .ref l ∧ StAt H st sl ∧ H l = some (.lst (xs.map V.int)) ∧ st ≠ l ∧ sl ≠ l ∧ 1 ≤ xs.length ∧ xs.length ≤ 1000 ∧
  ∀ x H1, x ∈ xs → StAt H1 st sl → Fp [st, sl] H H1 → Q (.int x) H1
theorem ok_law_pick (T : Txt P w K mg base a) : FnOk P w K mg base (L2.CX P w) 2 a.f_law_pick a.fd_law_pick ["state", "row"] (sp_law_pick K a) := by
  have G_law_draw := ok_law_draw T
  refine T.F_law_pick.okX sc_law_pick (fun vs H Q E h => A2.len h) (fun cdv A outer s H vs Q E hr h => ?_)
  have hu := hu_of hr
  obtain ⟨v_state, v_row, rfl, h⟩ := h
  refine ⟨_, (pss_one (ps_ret (pe_ix ix_list (pv 1) (pe_callS G_law_draw (hr.mono (by decide)) rfl T.g_law_draw T.F_law_draw.kp T.b_law_draw (fun σ => passAt (takes_of rfl rfl rfl rfl) σ) (pa_cons (pv 0) (pa_cons (pe_callB call_ln (by rfl) T.g_len (by decide +kernel) (pa_cons (pv 1) pa_nil)) pa_nil))) (fun _ _ => rfl)))), ?_⟩
  obtain ⟨st, sl, l, xs, rfl, rfl, S, hl, n1, n2, h1, h2, k⟩ := h
  walk_at "r"
  refine a2 ⟨st, sl, _, rfl, rfl, S, by rw [List.length_map]; omega, by rw [List.length_map]; omega, fun r H1 r0 r1 S1 f1 => ?_⟩
  rw [List.length_map] at r1
  obtain ⟨n, rfl⟩ : ∃ n : Nat, r = n := ⟨r.toNat, by omega⟩
  have hn : n < xs.length := by omega
  have e1 : xs[n]? = some xs[n] := List.getElem?_eq_getElem hn
  refine o_ixL (Or.inl (Or.inl (f1 _ _ hl (by simp [n1.symm, n2.symm])))) (atI_nat (by rw [List.getElem?_map, e1]; rfl)) ?_
  walk_at "r"
  exact k _ H1 (List.mem_of_getElem? e1) S1 f1
def sp_law_agrees (K : PySem.W.Frag) (a : Ads) : Sp := A3 fun s x y H Q _ => ∃ (p pe ma pl ml : Addr) (ps ms : List Bool), s = .ref p ∧ x = .ref pl ∧ y = .ref ml ∧ LinAt a.C_Lines H p pe ma ps ms ∧ H pl = some (.lst (ps.map V.bl)) ∧ H ml = some (.lst (ms.map V.bl)) ∧
  ∀ H1, Fp [] H H1 → Q (.bl true) H1
def sp_law_wakes_right (K : PySem.W.Frag) (a : Ads) : Sp := A1 fun s H Q _ => ∃ (st sl : Addr), s = .ref st ∧ StAt H st sl ∧ ∀ H1, StAt H1 st sl → Fp [st, sl] H H1 → Q (.bl true) H1
theorem ok_law_agrees (T : Txt P w K mg base a) : FnOk P w K mg base (L2.CX P w) 2 a.f_law_agrees a.fd_law_agrees ["lines", "pending", "masked"] (sp_law_agrees K a) := by
  have G_Lines_is_pending := ok_Lines_is_pending T
  have G_Lines_is_masked := ok_Lines_is_masked T
  have G_Lines_candidates := ok_Lines_candidates T
  refine T.F_law_agrees.okX sc_law_agrees (fun vs H Q E h => A3.len h) (fun cdv A outer s H vs Q E hr h => ?_)
  have hu := hu_of hr
  obtain ⟨v_lines, v_pending, v_masked, rfl, h⟩ := h
  refine ⟨_, (pss_cons (ps_for (passes_of rfl) rfl (pi_range1 rfl T.g_range (pa_cons (pe_callB call_ln (by rfl) T.g_len (by decide +kernel) (pa_cons (pv 1) pa_nil)) pa_nil)) (pg_name (i := 3) sc_law_agrees.nd rfl (by first | exact Or.inl rfl | exact Or.inr rfl)) (pss_cons (ps_set (i := 4) sc_law_agrees.nd rfl (by first | exact Or.inl rfl | exact Or.inr rfl) (pe_methS (pv 0) T.cl_Lines T.m_Lines_is_pending G_Lines_is_pending (hr.mono (by decide)) T.b_Lines_is_pending (fun σ => passAt (takes_of rfl rfl rfl rfl) σ) (pa_cons (pv 3) pa_nil)))
    (pss_cons (ps_set (i := 5) sc_law_agrees.nd rfl (by first | exact Or.inl rfl | exact Or.inr rfl) (pe_methS (pv 0) T.cl_Lines T.m_Lines_is_masked G_Lines_is_masked (hr.mono (by decide)) T.b_Lines_is_masked (fun σ => passAt (takes_of rfl rfl rfl rfl) σ) (pa_cons (pv 3) pa_nil)))
    (pss_cons (ps_if (PW.pt (pw_or (pt_not (pt_val (pe_callB call_isi (by rfl) T.g_isinstance (by decide +kernel) (pa_cons (pv 4) (pa_cons (pe_bltn (v := .ty "bool") rfl T.g_bool (by decide +kernel) rfl) pa_nil))))) (pw_or1 (pt_not (pt_val (pe_callB call_isi (by rfl) T.g_isinstance (by decide +kernel) (pa_cons (pv 5) (pa_cons (pe_bltn (v := .ty "bool") rfl T.g_bool (by decide +kernel) rfl) pa_nil)))))))) (pss_one (ps_ret pe_bl)) pss_nil)
    (pss_one (ps_if (PW.pt (pw_or (pt_cmpR op_ne (pv 4) (pe_ix ix_list (pv 1) (pv 3) (fun _ _ => rfl)) (nomark _)) (pw_or1 (pt_cmpR op_ne (pv 5) (pe_ix ix_list (pv 2) (pv 3) (fun _ _ => rfl)) (nomark _))))) (pss_one (ps_ret pe_bl)) pss_nil))))))
    (pss_cons (ps_set (i := 6) sc_law_agrees.nd rfl (by first | exact Or.inl rfl | exact Or.inr rfl) (pe_meth0S (pv 0) T.cl_Lines T.m_Lines_candidates G_Lines_candidates (hr.mono (by decide)) T.b_Lines_candidates (fun σ => passAt (takes_of rfl rfl rfl rfl) σ)))
    (pss_cons (ps_setLc (i := 7) (own := [("line", 3)]) (g := (gName 3)) (tt := (tAnd (tB (tOp (rIxL K) (tVar 1) (tVar 3))) (tNot (tB (tOp (rIxL K) (tVar 2) (tVar 3)))))) (te := (tVar 3)) rfl sc_law_agrees.nd rfl rfl (sw_true rfl rfl rfl (by decide +kernel)) (pi_range1 rfl T.g_range (pa_cons (pe_callB call_ln (by rfl) T.g_len (by decide +kernel) (pa_cons (pv 1) pa_nil)) pa_nil)) (blkOk_by (N := ["lines", "pending", "masked", "line", "one", "other", "told", "due"]) (sc := defScope s_law_agrees) (own := [("line", 3)]) (by decide +kernel)) (fun _ _ _ _ _ => by exact (pg_name (i := 3) sc_law_agrees.nd rfl (by first | exact Or.inl rfl | exact Or.inr rfl))) (fun _ _ _ _ _ => by exact (pts_one (PW.pt (pw_and (pt_val (pe_ix ix_list (pv 1) (pv 3) (fun _ _ => rfl))) (pw_and1 (pt_not (pt_val (pe_ix ix_list (pv 2) (pv 3) (fun _ _ => rfl))))))))) (fun _ _ _ _ _ => by exact (pv 3)))
    (pss_cons (ps_if (PW.pt (pw_or (pt_not (pt_val (pe_callB call_isi (by rfl) T.g_isinstance (by decide +kernel) (pa_cons (pv 6) (pa_cons (pe_bltn (v := .ty "list") rfl T.g_list (by decide +kernel) rfl) pa_nil))))) (pw_or1 (pt_cmpR (op_neD hr.units) (pv 6) (pv 7) (nomark _))))) (pss_one (ps_ret pe_bl)) pss_nil)
    (pss_cons (ps_expr (pe_bm PySem.F.plainAttrs_list PySem.F.slot_list_append PySem.F.type_list_append mt_append (pv 6) (pa_cons pe_int pa_nil)))
    (pss_one (ps_ret (pe_cmpR (op_eqD hr.units) (pe_meth0S (pv 0) T.cl_Lines T.m_Lines_candidates G_Lines_candidates (hr.mono (by decide)) T.b_Lines_candidates (fun σ => passAt (takes_of rfl rfl rfl rfl) σ)) (pv 7) (nomark _))))))))), ?_⟩
  obtain ⟨p, pe, ma, pl, ml, ps, ms, rfl, rfl, rfl, B, hp, hm, k⟩ := h
  obtain ⟨⟨dx, ho⟩, h1, h2, ne, hl, hz⟩ := id B
  walk_at "r"
  refine f_rng1 ?_
  walk_at "r"
  refine k_rng (fun i σ H' => H' = H ∧ ∃ u1 u2 u3, σ = [some (.ref p), some (.ref pl), some (.ref ml), u1, u2, u3, none, none]) (by omega) (by rw [List.length_map]; omega) ?_ ?_ ?_
  · exact ⟨rfl, _, _, _, rfl⟩
  · rintro i σ H' hi ⟨rfl, u1, u2, u3, rfl⟩
    have hi2 : i < ps.length := by simpa using hi
    have hi3 : i < ms.length := by omega
    have e1 : ps[i]? = some ps[i] := List.getElem?_eq_getElem hi2
    have e2 : ms[i]? = some ms[i] := List.getElem?_eq_getElem hi3
    walk_at "r"
    refine a2 ⟨p, pe, ma, ps, ms, i, _, rfl, rfl, B, e1, ?_⟩
    walk_at "r"
    refine a2 ⟨p, pe, ma, ps, ms, i, _, rfl, rfl, B, e2, ?_⟩
    walk_at "r"
    refine iteF ?_
    walk_at "r"
    refine iteF ?_
    walk_at "r"
    refine o_ixL (Or.inl (Or.inl hp)) (atI_nat (by rw [List.getElem?_map, e1]; rfl)) ?_
    walk_at "r"
    refine if_ndF rfl ?_
    walk_at "r"
    refine o_ixL (Or.inl (Or.inl hm)) (atI_nat (by rw [List.getElem?_map, e2]; rfl)) ?_
    walk_at "r"
    refine if_ndF rfl ?_
    walk_at "r"
    exact ⟨rfl, _, _, _, rfl⟩
  · rintro σ H' ⟨rfl, u1, u2, u3, rfl⟩
    walk_at "r"
    refine a1 ⟨p, pe, ma, ps, ms, rfl, B, fun l1 H1 hl1 g1 f1 => ?_⟩
    have B1 := B.fp f1 (by simp) (by simp) (by simp)
    have hp1 := f1 _ _ hp (by simp)
    have hm1 := f1 _ _ hm (by simp)
    walk_at "r"
    refine e_lcF ?_
    walk_at "r"
    refine k_lcF (candF ps ms) (by omega) (by rw [List.length_map]; omega) (fun E2 i H' R N hE hi hacc F kR kN => ?_) fun E2 H2 hE hacc F => ?_
    · have h1' := F _ _ hp1 (by simp)
      have h2' := F _ _ hm1 (by simp)
      have hi2 : i < ps.length := by rw [List.length_map] at hi; omega
      have hi3 : i < ms.length := by omega
      have e1 : ps[i]? = some ps[i] := List.getElem?_eq_getElem hi2
      have e2 : ms[i]? = some ms[i] := List.getElem?_eq_getElem hi3
      refine ⟨rfl, ?_⟩
      walk_at "r"
      refine o_ixL (Or.inl (Or.inl h1')) (atI_nat (by rw [List.getElem?_map, e1]; rfl)) ?_
      walk_at "r"
      refine if_b (fun c1 => ?_) (fun c1 => ?_)
      · walk_at "r"
        refine o_ixL (Or.inl (Or.inl h2')) (atI_nat (by rw [List.getElem?_map, e2]; rfl)) ?_
        walk_at "r"
        refine if_b (fun c2 => ?_) (fun c2 => ?_)
        · walk_at "r"
          exact kR _ _ (by simp only [candF, e1, e2, Option.getD_some, c1, c2, Bool.true_and, if_pos]) (Fp.refl _ _)
        · exact kN (by simp only [candF, e1, e2, Option.getD_some, c1, c2, Bool.true_and, if_neg Bool.false_ne_true]) _ (Fp.refl _ _)
      · exact kN (by simp only [candF, e1, Option.getD_some, c1, Bool.false_and, if_neg Bool.false_ne_true]) _ (Fp.refl _ _)
    rw [List.length_map, Int.toNat_natCast] at hacc
    have g2 := F _ _ g1 (by simp)
    have B2 := B1.fp F (by simp) (by simp) (by simp)
    have ln : l1 ≠ E2 := ne_of_none g1 hE
    have fl : ∀ x ∈ cand ps ms, flat x = true := fun x hx => by
      obtain ⟨j, _, hj⟩ := List.mem_filterMap.mp hx
      unfold candF at hj
      split at hj
      · cases hj; rfl
      · cases hj
    have cz : (cand ps ms).length ≤ 1000 := Nat.le_trans (List.length_filterMap_le _ _) (by rw [List.length_range]; exact hz)
    walk_at "r"
    refine iteF ?_
    walk_at "r"
    refine o_neL (xs := cand ps ms) (Or.inl (Or.inl g2)) (Or.inl (Or.inl hacc)) fl ?_
    walk_at "r"
    refine iteF ?_
    walk_at "r"
    refine c_app g2 (sz (by omega)) ?_
    have F3 : Fp [] H' (upd H2 l1 (.lst (cand ps ms ++ [.int 0]))) := Fp.drop (fp := [l1]) (((f1.trans F).mono (by simp)).trans (Fp.at_ (by simp))) fun z hz => by
      rcases List.mem_singleton.mp hz with rfl
      exact .inr hl1
    have B3 := B.fp F3 (by simp) (by simp) (by simp)
    have h3 : upd H2 l1 (.lst (cand ps ms ++ [.int 0])) E2 = some (.lst (cand ps ms)) := (upd_ne ln.symm).trans hacc
    obtain ⟨⟨dx3, ho3⟩, _⟩ := id B3
    generalize upd H2 l1 _ = H3 at F3 B3 h3 ho3 ⊢
    walk_at "r"
    refine a1 ⟨p, pe, ma, ps, ms, rfl, B3, fun l4 H4 hl4 g4 f4 => ?_⟩
    walk_at "r"
    refine o_eqL (xs := cand ps ms) (Or.inl (Or.inl g4)) (Or.inl (Or.inl (f4 _ _ h3 (by simp)))) fl ?_
    walk_at "r"
    exact k _ (F3.trans f4)
theorem ok_law_wakes_right (T : Txt P w K mg base a) : FnOk P w K mg base (L2.CX P w) 3 a.f_law_wakes_right a.fd_law_wakes_right ["state"] (sp_law_wakes_right K a) := by
  have G_law_draw := ok_law_draw T
  have G_law_pick := ok_law_pick T
  have G_wakes := ok_wakes T
  refine T.F_law_wakes_right.okX sc_law_wakes_right (fun vs H Q E h => A1.len h) (fun cdv A outer s H vs Q E hr h => ?_)
  have hu := hu_of hr
  obtain ⟨v_state, rfl, h⟩ := h
  refine ⟨_, (pss_cons (ps_set (i := 1) sc_law_wakes_right.nd rfl (by first | exact Or.inl rfl | exact Or.inr rfl) (pe_op op_add pe_int (pe_callS G_law_draw (hr.mono (by decide)) rfl T.g_law_draw T.F_law_draw.kp T.b_law_draw (fun σ => passAt (takes_of rfl rfl rfl rfl) σ) (pa_cons (pv 0) (pa_cons pe_int pa_nil)))))
    (pss_cons (ps_set (i := 2) sc_law_wakes_right.nd rfl (by first | exact Or.inl rfl | exact Or.inr rfl) (pe_op op_add pe_int (pe_callS G_law_draw (hr.mono (by decide)) rfl T.g_law_draw T.F_law_draw.kp T.b_law_draw (fun σ => passAt (takes_of rfl rfl rfl rfl) σ) (pa_cons (pv 0) (pa_cons pe_int pa_nil)))))
    (pss_cons (ps_set (i := 3) sc_law_wakes_right.nd rfl (by first | exact Or.inl rfl | exact Or.inr rfl) (pe_callS G_law_pick (hr.mono (by decide)) rfl T.g_law_pick T.F_law_pick.kp T.b_law_pick (fun σ => passAt (takes_of rfl rfl rfl rfl) σ) (pa_cons (pv 0) (pa_cons (pe_lst (pa_cons pe_int (pa_cons pe_int (pa_cons (pe_callS G_law_draw (hr.mono (by decide)) rfl T.g_law_draw T.F_law_draw.kp T.b_law_draw (fun σ => passAt (takes_of rfl rfl rfl rfl) σ) (pa_cons (pv 0) (pa_cons pe_int pa_nil))) pa_nil)))) pa_nil))))
    (pss_cons (ps_set (i := 4) sc_law_wakes_right.nd rfl (by first | exact Or.inl rfl | exact Or.inr rfl) (pe_callS G_law_pick (hr.mono (by decide)) rfl T.g_law_pick T.F_law_pick.kp T.b_law_pick (fun σ => passAt (takes_of rfl rfl rfl rfl) σ) (pa_cons (pv 0) (pa_cons (pe_lst (pa_cons pe_int (pa_cons (pe_op op_sub (pv 1) pe_int) (pa_cons (pv 1) (pa_cons (pe_callS G_law_draw (hr.mono (by decide)) rfl T.g_law_draw T.F_law_draw.kp T.b_law_draw (fun σ => passAt (takes_of rfl rfl rfl rfl) σ) (pa_cons (pv 0) (pa_cons pe_int pa_nil))) pa_nil))))) pa_nil))))
    (pss_cons (ps_set (i := 5) sc_law_wakes_right.nd rfl (by first | exact Or.inl rfl | exact Or.inr rfl) (pe_op op_add (pv 3) (pe_callS G_law_pick (hr.mono (by decide)) rfl T.g_law_pick T.F_law_pick.kp T.b_law_pick (fun σ => passAt (takes_of rfl rfl rfl rfl) σ) (pa_cons (pv 0) (pa_cons (pe_lst (pa_cons pe_int (pa_cons (pe_op op_sub (pv 2) pe_int) (pa_cons (pv 2) (pa_cons (pe_callS G_law_draw (hr.mono (by decide)) rfl T.g_law_draw T.F_law_draw.kp T.b_law_draw (fun σ => passAt (takes_of rfl rfl rfl rfl) σ) (pa_cons (pv 0) (pa_cons pe_int pa_nil))) pa_nil))))) pa_nil)))))
    (pss_cons (ps_set (i := 6) sc_law_wakes_right.nd rfl (by first | exact Or.inl rfl | exact Or.inr rfl) (pe_callS G_wakes (hr.mono (by decide)) rfl T.g_wakes T.F_wakes.kp T.b_wakes (fun σ => passAt (takes_of rfl rfl rfl rfl) σ) (pa_cons (pv 4) (pa_cons (pv 3) (pa_cons (pv 5) (pa_cons (pv 1) (pa_cons (pv 2) pa_nil)))))))
    (pss_cons (ps_if (PW.pt (pw_or (pt_not (pt_val (pe_callB call_isi (by rfl) T.g_isinstance (by decide +kernel) (pa_cons (pv 6) (pa_cons (pe_bltn (v := .ty "bool") rfl T.g_bool (by decide +kernel) rfl) pa_nil))))) (pw_or1 (pt_cmpR op_ne (pv 6) (pe_or (pe_cmpR op_ge (pv 4) (pv 1) (nomark _)) (pe_one (pe_cmpR op_ge (pe_op op_sub (pv 5) (pv 3)) (pv 2) (nomark _)))) (nomark _))))) (pss_one (ps_ret pe_bl)) pss_nil)
    (pss_one (ps_ret (pe_cmpR op_isB (pe_callS G_wakes (hr.mono (by decide)) rfl T.g_wakes T.F_wakes.kp T.b_wakes (fun σ => passAt (takes_of rfl rfl rfl rfl) σ) (pa_cons pe_int (pa_cons pe_non (pa_cons (pv 5) (pa_cons (pv 1) (pa_cons (pv 2) pa_nil)))))) pe_bl (nomark _))))))))))), ?_⟩
  obtain ⟨st, sl, rfl, S, k⟩ := h
  walk_at "r"
  refine a2 ⟨st, sl, 16, rfl, rfl, S, by omega, by omega, fun r1 H1 a1 b1 S1 f1 => ?_⟩
  walk_at "r"
  refine a2 ⟨st, sl, 32, rfl, rfl, S1, by omega, by omega, fun r2 H2 a2 b2 S2 f2 => ?_⟩
  walk_at "r"
  refine Rd.a2 ⟨st, sl, 100000, rfl, rfl, S2, by omega, by omega, fun r3 H3 a3 b3 S3 f3 => ?_⟩
  walk_at "r"
  refine ⟨sz (by simp), fun l3 h3 => ?_⟩
  have p3 : st ≠ l3 := by obtain ⟨_, _, z, _⟩ := S3; exact ne_of_none z h3
  have q3 : sl ≠ l3 := by obtain ⟨_, _, _, z, _⟩ := S3; exact ne_of_none z h3
  have F4 := Fp.new (fp := []) (o := .lst [.int 0, .int 3, .int r3]) h3
  have S4 := S3.fp F4 (by simp) (by simp)
  have G4 : upd H3 l3 (.lst [.int 0, .int 3, .int r3]) l3 = some (.lst ([0, 3, r3].map V.int)) := upd_same
  generalize upd H3 l3 _ = H4 at F4 S4 G4 ⊢
  walk_at "r"
  refine Rd.a2 ⟨st, sl, l3, _, rfl, rfl, S4, G4, p3, q3, by simp, by simp, fun old H5 hold S5 f5 => ?_⟩
  walk_at "r"
  refine Rd.a2 ⟨st, sl, 17, rfl, rfl, S5, by omega, by omega, fun r5 H6 a5 b5 S6 f6 => ?_⟩
  walk_at "r"
  refine ⟨sz (by simp), fun l4 h4 => ?_⟩
  have p4 : st ≠ l4 := by obtain ⟨_, _, z, _⟩ := S6; exact ne_of_none z h4
  have q4 : sl ≠ l4 := by obtain ⟨_, _, _, z, _⟩ := S6; exact ne_of_none z h4
  have F7 := Fp.new (fp := []) (o := .lst [.int 0, .int (1 + r1 - 1), .int (1 + r1), .int r5]) h4
  have S7 := S6.fp F7 (by simp) (by simp)
  have G7 : upd H6 l4 (.lst [.int 0, .int (1 + r1 - 1), .int (1 + r1), .int r5]) l4 = some (.lst ([0, 1 + r1 - 1, 1 + r1, r5].map V.int)) := upd_same
  generalize upd H6 l4 _ = H7 at F7 S7 G7 ⊢
  walk_at "r"
  refine Rd.a2 ⟨st, sl, l4, _, rfl, rfl, S7, G7, p4, q4, by simp, by simp, fun held H8 hheld S8 f8 => ?_⟩
  walk_at "r"
  refine Rd.a2 ⟨st, sl, 70, rfl, rfl, S8, by omega, by omega, fun r8 H9 a8 b8 S9 f9 => ?_⟩
  walk_at "r"
  refine ⟨sz (by simp), fun l5 h5 => ?_⟩
  have p5 : st ≠ l5 := by obtain ⟨_, _, z, _⟩ := S9; exact ne_of_none z h5
  have q5 : sl ≠ l5 := by obtain ⟨_, _, _, z, _⟩ := S9; exact ne_of_none z h5
  have F10 := Fp.new (fp := []) (o := .lst [.int 0, .int (1 + r2 - 1), .int (1 + r2), .int r8]) h5
  have S10 := S9.fp F10 (by simp) (by simp)
  have G10 : upd H9 l5 (.lst [.int 0, .int (1 + r2 - 1), .int (1 + r2), .int r8]) l5 = some (.lst ([0, 1 + r2 - 1, 1 + r2, r8].map V.int)) := upd_same
  generalize upd H9 l5 _ = H10 at F10 S10 G10 ⊢
  walk_at "r"
  refine Rd.a2 ⟨st, sl, l5, _, rfl, rfl, S10, G10, p5, q5, by simp, by simp, fun later H11 hlater S11 f11 => ?_⟩
  walk_at "r"
  refine Rd.a5 ⟨_, _, _, _, rfl, rfl, rfl, rfl, .inl ⟨_, rfl, ?_⟩⟩
  walk_at "r"
  refine iteF ?_
  have F : Fp [st, sl] H H11 := ((((((((((f1.trans f2).trans f3).trans (F4.mono (by simp))).trans f5).trans f6).trans (F7.mono (by simp))).trans f8).trans f9).trans (F10.mono (by simp))).trans f11)
  walk_at "r"
  have fin : ∀ c : Prop, ∀ [Decidable c], (decide (decide (1 + r1 ≤ 0) = false)) = true := fun _ _ => by
    rw [decide_eq_false (by omega : ¬ (1 + r1 ≤ 0))]; rfl
  refine if_d (fun c => ?_) (fun c => ?_)
  · rw [decide_eq_true c, Bool.true_or]
    walk_at "r"
    refine if_ndF rfl ?_
    walk_at "r"
    refine Rd.a5 ⟨_, _, _, _, rfl, rfl, rfl, rfl, .inr ⟨rfl, ?_⟩⟩
    walk_at "r"
    rw [fin True]
    exact k _ S11 F
  · rw [decide_eq_false c, Bool.false_or]
    walk_at "r"
    refine if_ndF rfl ?_
    walk_at "r"
    refine Rd.a5 ⟨_, _, _, _, rfl, rfl, rfl, rfl, .inr ⟨rfl, ?_⟩⟩
    walk_at "r"
    rw [fin True]
    exact k _ S11 F
structure Wl (C : Addr) (H : Hp) (st sl p pe ma pl ml : Addr) (ps ms : List Bool) : Prop where
  S : StAt H st sl
  B : LinAt C H p pe ma ps ms
  P : H pl = some (.lst (ps.map V.bl))
  M : H ml = some (.lst (ms.map V.bl))
  nd : [st, sl, pe, ma, pl, ml].Nodup
structure Dl (st sl pe ma pl ml : Addr) : Prop where
  a1 : st ≠ pe
  a2 : st ≠ ma
  a3 : st ≠ pl
  a4 : st ≠ ml
  b1 : sl ≠ pe
  b2 : sl ≠ ma
  b3 : sl ≠ pl
  b4 : sl ≠ ml
  c2 : pe ≠ ma
  c3 : pe ≠ pl
  c4 : pe ≠ ml
  d3 : ma ≠ pl
  d4 : ma ≠ ml
  e4 : pl ≠ ml
theorem Wl.dj {C st sl p pe ma pl ml : Addr} {H : Hp} {ps ms : List Bool} (W : Wl C H st sl p pe ma pl ml ps ms) : Dl st sl pe ma pl ml := by
  have nd := W.nd
  simp only [List.nodup_cons, List.mem_cons, List.not_mem_nil, or_false, not_or] at nd
  obtain ⟨⟨_, a1, a2, a3, a4⟩, ⟨b1, b2, b3, b4⟩, ⟨c2, c3, c4⟩, ⟨d3, d4⟩, e4, _⟩ := nd
  exact ⟨a1, a2, a3, a4, b1, b2, b3, b4, c2, c3, c4, d3, d4, e4⟩
theorem Wl.fp {C st sl p pe ma pl ml : Addr} {H H1 : Hp} {ps ms : List Bool} (W : Wl C H st sl p pe ma pl ml ps ms) (f : Fp [] H H1) : Wl C H1 st sl p pe ma pl ml ps ms :=
  ⟨W.S.fp f (by simp) (by simp), W.B.fp f (by simp) (by simp) (by simp), f _ _ W.P (by simp), f _ _ W.M (by simp), W.nd⟩
theorem Wl.draw {C st sl p pe ma pl ml : Addr} {H H1 : Hp} {ps ms : List Bool} (W : Wl C H st sl p pe ma pl ml ps ms) (S : StAt H1 st sl) (f : Fp [st, sl] H H1) : Wl C H1 st sl p pe ma pl ml ps ms := by
  have d := W.dj
  obtain ⟨_, _, z1, z2, _⟩ := W.S
  exact ⟨S, W.B.fp f (by simp [W.B.np z1, W.B.np z2]) (by simp [d.a1.symm, d.b1.symm]) (by simp [d.a2.symm, d.b2.symm]), f _ _ W.P (by simp [d.a3.symm, d.b3.symm]), f _ _ W.M (by simp [d.a4.symm, d.b4.symm]), W.nd⟩
theorem ok_law (T : Txt P w K mg base a) : FnOk P w K mg base (L2.CX P w) 4 a.f_law a.fd_law ["script"] (sp_law K a) := by
  have G_law_state := ok_law_state T
  have G_law_draw := ok_law_draw T
  have G_Lines_init := ok_Lines_init T
  have G_Lines_raise_line := ok_Lines_raise_line T
  have G_Lines_clear_line := ok_Lines_clear_line T
  have G_Lines_mask := ok_Lines_mask T
  have G_Lines_unmask := ok_Lines_unmask T
  have G_law_agrees := ok_law_agrees T
  have G_law_wakes_right := ok_law_wakes_right T
  refine T.F_law.okX sc_law (fun vs H Q E h => A1.len h) (fun cdv A outer s H vs Q E hr h => ?_)
  have hu := hu_of hr
  obtain ⟨v_script, rfl, h⟩ := h
  refine ⟨_, (pss_cons (ps_set (i := 1) sc_law.nd rfl (by first | exact Or.inl rfl | exact Or.inr rfl) (pe_callS G_law_state (hr.mono (by decide)) rfl T.g_law_state T.F_law_state.kp T.b_law_state (fun σ => passAt (takes_of rfl rfl rfl rfl) σ) (pa_cons (pv 0) pa_nil)))
    (pss_cons (ps_set (i := 2) sc_law.nd rfl (by first | exact Or.inl rfl | exact Or.inr rfl) (pe_op op_mul pe_int (pe_op op_add pe_int (pe_callS G_law_draw (hr.mono (by decide)) rfl T.g_law_draw T.F_law_draw.kp T.b_law_draw (fun σ => passAt (takes_of rfl rfl rfl rfl) σ) (pa_cons (pv 1) (pa_cons pe_int pa_nil))))))
    (pss_cons (ps_set (i := 3) sc_law.nd rfl (by first | exact Or.inl rfl | exact Or.inr rfl) (pe_makeS T.mk_Lines G_Lines_init (hr.mono (by decide)) rfl T.g_Lines T.b_Lines_init (fun σ => passAt (takes_of rfl rfl rfl rfl) σ) (pa_cons (pv 2) pa_nil)))
    (pss_cons (ps_setLc (i := 4) (own := [("line", 5)]) (g := (gName 5)) (tt := tYes) (te := (tC (.bl false))) rfl sc_law.nd rfl rfl (sw_true rfl rfl rfl (by decide +kernel)) (pi_range1 rfl T.g_range (pa_cons (pv 2) pa_nil)) (blkOk_by (N := ["script", "state", "many", "lines", "pending", "line", "masked", "cell", "kind"]) (sc := defScope s_law) (own := [("line", 5)]) (by decide +kernel)) (fun _ _ _ _ _ => by exact (pg_name (i := 5) sc_law.nd rfl (by first | exact Or.inl rfl | exact Or.inr rfl))) (fun _ _ _ _ _ => by exact pts_nil) (fun _ _ _ _ _ => by exact pe_bl))
    (pss_cons (ps_setLc (i := 6) (own := [("line", 5)]) (g := (gName 5)) (tt := tYes) (te := (tC (.bl false))) rfl sc_law.nd rfl rfl (sw_true rfl rfl rfl (by decide +kernel)) (pi_range1 rfl T.g_range (pa_cons (pv 2) pa_nil)) (blkOk_by (N := ["script", "state", "many", "lines", "pending", "line", "masked", "cell", "kind"]) (sc := defScope s_law) (own := [("line", 5)]) (by decide +kernel)) (fun _ _ _ _ _ => by exact (pg_name (i := 5) sc_law.nd rfl (by first | exact Or.inl rfl | exact Or.inr rfl))) (fun _ _ _ _ _ => by exact pts_nil) (fun _ _ _ _ _ => by exact pe_bl))
    (pss_cons (ps_for (passes_of rfl) rfl (pi_list (pe_slice sl_list (pv 0) po_none (po_some pe_int))) (pg_name (i := 7) sc_law.nd rfl (by first | exact Or.inl rfl | exact Or.inr rfl)) (pss_cons (ps_set (i := 5) sc_law.nd rfl (by first | exact Or.inl rfl | exact Or.inr rfl) (pe_callS G_law_draw (hr.mono (by decide)) rfl T.g_law_draw T.F_law_draw.kp T.b_law_draw (fun σ => passAt (takes_of rfl rfl rfl rfl) σ) (pa_cons (pv 1) (pa_cons (pv 2) pa_nil))))
    (pss_cons (ps_set (i := 8) sc_law.nd rfl (by first | exact Or.inl rfl | exact Or.inr rfl) (pe_callS G_law_draw (hr.mono (by decide)) rfl T.g_law_draw T.F_law_draw.kp T.b_law_draw (fun σ => passAt (takes_of rfl rfl rfl rfl) σ) (pa_cons (pv 1) (pa_cons pe_int pa_nil))))
    (Evl.pss_cut (ps_if (pt_cmpR op_eq (pv 8) pe_int (nomark _)) (pss_cons (ps_expr (pe_methS (pv 3) T.cl_Lines T.m_Lines_raise_line G_Lines_raise_line (hr.mono (by decide)) T.b_Lines_raise_line (fun σ => passAt (takes_of rfl rfl rfl rfl) σ) (pa_cons (pv 5) pa_nil)))
    (pss_one (ps_asg pe_bl (pg_sub (pv 4) (pv 5) set_list)))) (pss_one (ps_if (pt_cmpR op_eq (pv 8) pe_int (nomark _)) (pss_cons (ps_expr (pe_methS (pv 3) T.cl_Lines T.m_Lines_clear_line G_Lines_clear_line (hr.mono (by decide)) T.b_Lines_clear_line (fun σ => passAt (takes_of rfl rfl rfl rfl) σ) (pa_cons (pv 5) pa_nil)))
    (pss_one (ps_asg pe_bl (pg_sub (pv 4) (pv 5) set_list)))) (pss_one (ps_if (pt_cmpR op_eq (pv 8) pe_int (nomark _)) (pss_cons (ps_expr (pe_methS (pv 3) T.cl_Lines T.m_Lines_mask G_Lines_mask (hr.mono (by decide)) T.b_Lines_mask (fun σ => passAt (takes_of rfl rfl rfl rfl) σ) (pa_cons (pv 5) pa_nil)))
    (pss_one (ps_asg pe_bl (pg_sub (pv 6) (pv 5) set_list)))) (pss_cons (ps_expr (pe_methS (pv 3) T.cl_Lines T.m_Lines_unmask G_Lines_unmask (hr.mono (by decide)) T.b_Lines_unmask (fun σ => passAt (takes_of rfl rfl rfl rfl) σ) (pa_cons (pv 5) pa_nil)))
    (pss_one (ps_asg pe_bl (pg_sub (pv 6) (pv 5) set_list)))))))))
    (pss_one (ps_if (PW.pt (pw_or (pt_not (pt_val (pe_callS G_law_agrees (hr.mono (by decide)) rfl T.g_law_agrees T.F_law_agrees.kp T.b_law_agrees (fun σ => passAt (takes_of rfl rfl rfl rfl) σ) (pa_cons (pv 3) (pa_cons (pv 4) (pa_cons (pv 6) pa_nil)))))) (pw_or1 (pt_not (pt_val (pe_callS G_law_wakes_right (hr.mono (by decide)) rfl T.g_law_wakes_right T.F_law_wakes_right.kp T.b_law_wakes_right (fun σ => passAt (takes_of rfl rfl rfl rfl) σ) (pa_cons (pv 1) pa_nil))))))) (pss_one (ps_ret pe_bl)) pss_nil))))))
    (pss_one (ps_ret (pe_and (pe_callS G_law_agrees (hr.mono (by decide)) rfl T.g_law_agrees T.F_law_agrees.kp T.b_law_agrees (fun σ => passAt (takes_of rfl rfl rfl rfl) σ) (pa_cons (pv 3) (pa_cons (pv 4) (pa_cons (pv 6) pa_nil)))) (pe_one (pe_callS G_law_wakes_right (hr.mono (by decide)) rfl T.g_law_wakes_right T.F_law_wakes_right.kp T.b_law_wakes_right (fun σ => passAt (takes_of rfl rfl rfl rfl) σ) (pa_cons (pv 1) pa_nil)))))))))))), ?_⟩
  obtain ⟨b, ns, rfl, hS, hn, k⟩ := h
  walk_at "r"
  refine a1 ⟨b, ns, rfl, hS, hn, fun st sl H1 hst hsl S1 f1 => ?_⟩
  walk_at "r"
  refine a2 ⟨st, sl, 4, rfl, rfl, S1, by omega, by omega, fun r1 H2 a1 b1 S2 f2 => ?_⟩
  obtain ⟨n, hn2, n1, n8⟩ : ∃ n : Nat, 2 * (1 + r1) = (n : Int) ∧ 1 ≤ n ∧ n ≤ 8 := ⟨(2 * (1 + r1)).toNat, by omega, by omega, by omega⟩
  walk_at "r"
  rw [hn2]
  intro p dx np ndx nedx
  have g6 : upd (upd H2 dx (.own p)) p (.ins a.C_Lines dx []) p = some (.ins a.C_Lines dx []) := upd_same
  have f6 : Fp [] H2 (upd (upd H2 dx (.own p)) p (.ins a.C_Lines dx [])) := (Fp.new ndx).trans (Fp.new (by rw [upd_ne nedx.symm]; exact np))
  have hp0 : H p = none := (f1.add f2 (by simp [hst, hsl])).free (by simp) np
  have F6 := (f1.add f2 (by simp [hst, hsl])).trans f6
  have S6 := S2.fp f6 (by simp) (by simp)
  generalize upd (upd H2 dx (.own p)) p (.ins a.C_Lines dx []) = H6 at g6 S6 F6 ⊢
  have np3 : st ≠ p := by obtain ⟨_, _, z, _⟩ := S6; exact ne_of z g6 (fun z => by cases z)
  have np4 : sl ≠ p := by obtain ⟨_, _, _, z, _⟩ := S6; exact ne_of z g6 (fun z => by cases z)
  refine Rd.a2 ⟨p, dx, n, rfl, rfl, g6, by omega, fun pe ma H7 hpe hma B7 f7 => ⟨rfl, ?_⟩⟩
  have S7 := S6.fp f7 (by simp [np3]) (by simp [np4])
  have F7 := F6.add f7 (by simp [hp0])
  have c1 : st ≠ pe := by obtain ⟨_, _, z, _⟩ := S6; exact ne_of_none z hpe
  have c2 : sl ≠ pe := by obtain ⟨_, _, _, z, _⟩ := S6; exact ne_of_none z hpe
  have c3 : st ≠ ma := by obtain ⟨_, _, z, _⟩ := S6; exact ne_of_none z hma
  have c4 : sl ≠ ma := by obtain ⟨_, _, _, z, _⟩ := S6; exact ne_of_none z hma
  walk_at "r"
  have rep : ∀ (i : Nat) y, ((List.replicate n false).map V.bl)[i]? = some y → V.bl false = y := fun i y hy => by
    obtain ⟨z, hz, rfl⟩ := List.mem_map.mp (List.mem_of_getElem? hy)
    rw [(List.mem_replicate.mp hz).2]
  refine e_lcR ?_
  walk_at "r"
  refine k_lcR (ys := (List.replicate n false).map V.bl) (by omega) (by omega) (by simp) (fun E2 i y H' R hE hi hy e hR => ?_) fun pl hpl => ?_
  · refine ⟨rfl, ?_⟩
    obtain rfl := rep i y hy
    walk_at "r"
    exact hR
  have f8 := Fp.new (fp := []) (o := .lst ((List.replicate n false).map V.bl)) hpl
  have S8 := S7.fp f8 (by simp) (by simp)
  have B8 := B7.fp f8 (by simp) (by simp) (by simp)
  have P8 : upd H7 pl (.lst ((List.replicate n false).map V.bl)) pl = some (.lst ((List.replicate n false).map V.bl)) := upd_same
  have d1 : st ≠ pl := by obtain ⟨_, _, z, _⟩ := S7; exact ne_of_none z hpl
  have d2 : sl ≠ pl := by obtain ⟨_, _, _, z, _⟩ := S7; exact ne_of_none z hpl
  have d3 : pe ≠ pl := ne_of_none B7.2.1 hpl
  have d4 : ma ≠ pl := ne_of_none B7.2.2.1 hpl
  have F8 := F7.trans f8
  generalize upd H7 pl _ = H8 at S8 B8 P8 F8 ⊢
  walk_at "r"
  refine e_lcR ?_
  walk_at "r"
  refine k_lcR (ys := (List.replicate n false).map V.bl) (by omega) (by omega) (by simp) (fun E2 i y H' R hE hi hy e hR => ?_) fun ml hml => ?_
  · refine ⟨rfl, ?_⟩
    obtain rfl := rep i y hy
    walk_at "r"
    exact hR
  have f9 := Fp.new (fp := []) (o := .lst ((List.replicate n false).map V.bl)) hml
  have S9 := S8.fp f9 (by simp) (by simp)
  have B9 := B8.fp f9 (by simp) (by simp) (by simp)
  have P9 := f9 _ _ P8 (by simp)
  have M9 : upd H8 ml (.lst ((List.replicate n false).map V.bl)) ml = some (.lst ((List.replicate n false).map V.bl)) := upd_same
  have e1 : st ≠ ml := by obtain ⟨_, _, z, _⟩ := S8; exact ne_of_none z hml
  have e2 : sl ≠ ml := by obtain ⟨_, _, _, z, _⟩ := S8; exact ne_of_none z hml
  have e3 : pe ≠ ml := ne_of_none B8.2.1 hml
  have e4 : ma ≠ ml := ne_of_none B8.2.2.1 hml
  have e5 : pl ≠ ml := ne_of_none P8 hml
  have e6 := B9.2.2.2.1
  have F9 := F8.trans f9
  generalize upd H8 ml _ = H9 at S9 B9 P9 M9 F9 ⊢
  have nd : [st, sl, pe, ma, pl, ml].Nodup := by simp [S9.ne, c1, c2, c3, c4, d1, d2, d3, d4, e1, e2, e3, e4, e5, e6]
  clear S7 B7 S8 B8 P8 f8 f9 hpl hml
  have W9 : Wl a.C_Lines H9 st sl p pe ma pl ml (List.replicate n false) (List.replicate n false) := ⟨S9, B9, P9, M9, nd⟩
  clear S9 B9 P9 M9
  walk_at "r"
  refine f_listS rfl (F9.seq (by simp) hS) fun c hc => ?_
  refine ⟨fun i σ H' => ∃ (ps ms : List Bool) (u1 u2 u3 : Option V), σ = [some (.ref b), some (.ref st), some (.int n), some (.ref p), some (.ref pl), u1, some (.ref ml), u2, u3] ∧ Wl a.C_Lines H' st sl p pe ma pl ml ps ms ∧ ps.length = n ∧ H' c = some (.lst (cutV (ns.map V.int) none (some 63))) ∧ c ∉ [st, sl, p, pe, ma, pl, ml], ?_, fun i σ H' _ ⟨_, _, _, _, _, _, _, _, hc, _⟩ => Or.inl (Or.inl hc), ?_, ?_⟩
  · refine ⟨List.replicate n false, List.replicate n false, _, _, _, rfl, W9.fp (Fp.new hc), by simp, upd_same, ?_⟩
    obtain ⟨_, _, z1, z2, _⟩ := id W9.S
    obtain ⟨⟨_, z3⟩, _⟩ := id W9.B
    simp only [List.mem_cons, List.not_mem_nil, or_false, not_or]
    exact ⟨(ne_of_none z1 hc).symm, (ne_of_none z2 hc).symm, (ne_of_none z3 hc).symm, (ne_of_none W9.B.2.1 hc).symm, (ne_of_none W9.B.2.2.1 hc).symm, (ne_of_none W9.P hc).symm, (ne_of_none W9.M hc).symm⟩
  · rintro i x σ H' _ ⟨ps, ms, u1, u2, u3, rfl, W, hl, hc, nc⟩
    have nc0 := nc
    simp only [List.mem_cons, List.not_mem_nil, or_false, not_or] at nc
    obtain ⟨m1, m2, m3, m4, m5, m6, m7⟩ := nc
    have d := W.dj
    walk_at "r"
    refine Rd.a2 ⟨st, sl, _, rfl, rfl, W.S, by omega, by omega, fun r3 H2 a3 b3 S2 f2 => ?_⟩
    have W2 := W.draw S2 f2
    have hc2 := f2 _ _ hc (by simp [m1, m2])
    obtain ⟨j, rfl⟩ : ∃ j : Nat, r3 = j := ⟨r3.toNat, by omega⟩
    have hj : j < ps.length := by omega
    have hj2 : j < ms.length := by rw [W.B.2.2.2.2.1]; exact hj
    walk_at "r"
    refine Rd.a2 ⟨st, sl, 4, rfl, rfl, W2.S, by omega, by omega, fun r4 H3 a4 b4 S3 f3 => ?_⟩
    have W3 := W2.draw S3 f3
    have hc3 := f3 _ _ hc2 (by simp [m1, m2])
    clear W W2 hc hc2 S2 S3 f2 f3
    obtain ⟨⟨dx3, ho3⟩, _⟩ := id W3.B
    obtain ⟨_, _, zs1, zs2, _⟩ := id W3.S
    walk_at "r"
    refine s_cut (fun σ H' => ∃ (ps ms : List Bool) (u1 u2 u3 : Option V), σ = [some (.ref b), some (.ref st), some (.int n), some (.ref p), some (.ref pl), u1, some (.ref ml), u2, u3] ∧ Wl a.C_Lines H' st sl p pe ma pl ml ps ms ∧ ps.length = n ∧ H' c = some (.lst (cutV (ns.map V.int) none (some 63)))) ?_ ?_
    · have doP : ∀ (bv : Bool) H4, LinAt a.C_Lines H4 p pe ma (ps.set j bv) ms → Fp [pe] H3 H4 → H4 pl = some (.lst (ps.map V.bl)) ∧ Wl a.C_Lines (upd H4 pl (.lst ((ps.map V.bl).set j (.bl bv)))) st sl p pe ma pl ml (ps.set j bv) ms ∧ (upd H4 pl (.lst ((ps.map V.bl).set j (.bl bv)))) c = some (.lst (cutV (ns.map V.int) none (some 63))) := fun bv H4 B4 f4 => by
        have f5 : Fp [pl] H4 (upd H4 pl (.lst ((ps.map V.bl).set j (.bl bv)))) := Fp.at_ (by simp)
        have P4 := f4 _ _ W3.P (by simp [d.c3.symm])
        exact ⟨P4, ⟨(W3.S.fp f4 (by simp [d.a1]) (by simp [d.b1])).fp f5 (by simp [d.a3]) (by simp [d.b3]), B4.fp f5 (by simp [B4.np P4]) (by simp [d.c3]) (by simp [d.d3]), by rw [upd_same, List.map_set], f5 _ _ (f4 _ _ W3.M (by simp [d.c4.symm])) (by simp [d.e4.symm]), W3.nd⟩, f5 _ _ (f4 _ _ hc3 (by simp [m4])) (by simp [m6])⟩
      have doM : ∀ (bv : Bool) H4, LinAt a.C_Lines H4 p pe ma ps (ms.set j bv) → Fp [ma] H3 H4 → H4 ml = some (.lst (ms.map V.bl)) ∧ Wl a.C_Lines (upd H4 ml (.lst ((ms.map V.bl).set j (.bl bv)))) st sl p pe ma pl ml ps (ms.set j bv) ∧ (upd H4 ml (.lst ((ms.map V.bl).set j (.bl bv)))) c = some (.lst (cutV (ns.map V.int) none (some 63))) := fun bv H4 B4 f4 => by
        have f5 : Fp [ml] H4 (upd H4 ml (.lst ((ms.map V.bl).set j (.bl bv)))) := Fp.at_ (by simp)
        have M4 := f4 _ _ W3.M (by simp [d.d4.symm])
        exact ⟨M4, ⟨(W3.S.fp f4 (by simp [d.a2]) (by simp [d.b2])).fp f5 (by simp [d.a4]) (by simp [d.b4]), B4.fp f5 (by simp [B4.np M4]) (by simp [d.c4]) (by simp [d.d4]), f5 _ _ (f4 _ _ W3.P (by simp [d.d3.symm])) (by simp [d.e4]), by rw [upd_same, List.map_set], W3.nd⟩, f5 _ _ (f4 _ _ hc3 (by simp [m5])) (by simp [m7])⟩
      walk_at "r"
      refine if_d (fun _ => ?_) (fun _ => ?_)
      · walk_at "r"
        refine Rd.a2 ⟨p, pe, ma, ps, ms, j, rfl, rfl, W3.B, hj, fun H4 B4 f4 => ?_⟩
        obtain ⟨P4, W5, c5⟩ := doP true H4 B4 f4
        walk_at "r"
        refine c_setL (j := j) P4 rfl (by rw [List.length_map]; exact hj) ?_
        walk_at "r"
        exact ⟨_, _, _, _, _, rfl, W5, by rw [List.length_set]; exact hl, c5⟩
      walk_at "r"
      refine if_d (fun _ => ?_) (fun _ => ?_)
      · walk_at "r"
        refine Rd.a2 ⟨p, pe, ma, ps, ms, j, rfl, rfl, W3.B, hj, fun H4 B4 f4 => ?_⟩
        obtain ⟨P4, W5, c5⟩ := doP false H4 B4 f4
        walk_at "r"
        refine c_setL (j := j) P4 rfl (by rw [List.length_map]; exact hj) ?_
        walk_at "r"
        exact ⟨_, _, _, _, _, rfl, W5, by rw [List.length_set]; exact hl, c5⟩
      walk_at "r"
      refine if_d (fun _ => ?_) (fun _ => ?_)
      · walk_at "r"
        refine Rd.a2 ⟨p, pe, ma, ps, ms, j, rfl, rfl, W3.B, hj, fun H4 B4 f4 => ?_⟩
        obtain ⟨M4, W5, c5⟩ := doM true H4 B4 f4
        walk_at "r"
        refine c_setL (j := j) M4 rfl (by rw [List.length_map]; exact hj2) ?_
        walk_at "r"
        exact ⟨_, _, _, _, _, rfl, W5, hl, c5⟩
      · walk_at "r"
        refine Rd.a2 ⟨p, pe, ma, ps, ms, j, rfl, rfl, W3.B, hj, fun H4 B4 f4 => ?_⟩
        obtain ⟨M4, W5, c5⟩ := doM false H4 B4 f4
        walk_at "r"
        refine c_setL (j := j) M4 rfl (by rw [List.length_map]; exact hj2) ?_
        walk_at "r"
        exact ⟨_, _, _, _, _, rfl, W5, hl, c5⟩
    · clear W3 hc3 hj hj2 hl zs1 zs2 ho3
      rintro σ H3 ⟨ps, ms, u1, u2, u3, rfl, W, hl, hc⟩
      walk_at "r"
      refine Rd.a3 ⟨p, pe, ma, pl, ml, ps, ms, rfl, rfl, rfl, W.B, W.P, W.M, fun H4 f4 => ?_⟩
      have W4 := W.fp f4
      walk_at "r"
      refine iteF ?_
      walk_at "r"
      refine Rd.a1 ⟨st, sl, rfl, W4.S, fun H5 S5 f5 => ?_⟩
      walk_at "r"
      refine iteF ?_
      walk_at "r"
      exact ⟨_, _, _, _, _, rfl, W4.draw S5 f5, hl, f5 _ _ (f4 _ _ hc (by simp)) (by simp [m1, m2]), nc0⟩
  · rintro σ H' ⟨ps, ms, u1, u2, u3, rfl, W, hl, hc, nc⟩
    walk_at "r"
    refine Rd.a3 ⟨p, pe, ma, pl, ml, ps, ms, rfl, rfl, rfl, W.B, W.P, W.M, fun H4 f4 => ?_⟩
    walk_at "r"
    refine iteT ?_
    walk_at "r"
    refine Rd.a1 ⟨st, sl, rfl, (W.fp f4).S, fun H5 S5 f5 => ?_⟩
    walk_at "r"
    exact k _
end
end My
set_option Elab.async false
set_option maxRecDepth 100000
set_option maxHeartbeats 100000000
set_option linter.all false
namespace My
open PySem L2 Sx Rd
local macro_rules | `(tactic| walk_at "ne") => `(tactic| (first | assumption | exact Ne.symm (by assumption)))
local macro_rules | `(tactic| walk_at "nin") => `(tactic| (simp only [List.mem_cons, List.not_mem_nil, or_false, not_or, not_false_eq_true]; (repeat' refine And.intro ?_ ?_); (all_goals walk_at "ne")))
local macro_rules | `(tactic| walk_at "hl") => `(tactic| (first | (with_reducible assumption) | exact upd_same | ((with_reducible refine' (upd_ne ?hne).trans ?hgo); (case hne => walk_at "ne"); (case hgo => walk_at "hl"))))
local macro_rules | `(tactic| walk_at "sq") => `(tactic| (first | (with_reducible assumption) | exact Or.inl (Or.inl (by walk_at "hl"))))
local macro_rules | `(tactic| walk_at "ar") => `(tactic| (first | omega | exact ⟨by omega, by omega⟩ | exact Or.inl ⟨by omega, by omega⟩ | exact Or.inr ⟨by omega, by omega⟩ | (show (0 : Int) < _; omega) | (show (0 : Int) < _ ∧ _ < (1073741824 : Int); omega)))
local macro_rules | `(tactic| walk_at "cls") => `(tactic| (first | exact Txt.cl_Lines (by assumption)))
local macro_rules | `(tactic| walk_at "noa") => `(tactic| (first | exact Txt.n_Lines_pending (by assumption) | exact Txt.n_Lines_masked (by assumption)))
local macro_rules | `(tactic| walk_at "lkp") => `(tactic| (first | (with_reducible exact F_Lines_pending_l) | (with_reducible exact F_Lines_masked_l)))
local macro_rules | `(tactic| walk_at "ptf") => `(tactic| (first | (with_reducible exact F_Lines_pending_p) | (with_reducible exact F_Lines_masked_p) | exact rfl))
local macro_rules | `(tactic| walk_at "lnF") => `(tactic| (first | (with_reducible exact F_Lines_len) | (refine PL.lt (n := 60) ?_ (by decide); (repeat refine PL.put ?_); exact PL.nil) | decide))
local macro_rules | `(tactic| walk_at "nol") => `(tactic| (first | (with_reducible exact F_Lines_m_raise_line) | (with_reducible exact F_Lines_m_clear_line) | (with_reducible exact F_Lines_m_mask) | (with_reducible exact F_Lines_m_unmask) | (with_reducible exact F_Lines_m_is_pending) | (with_reducible exact F_Lines_m_is_masked) | (with_reducible exact F_Lines_m_candidates)))
local macro_rules | `(tactic| walk_at "r1") => `(tactic| (first
  | with_reducible refine s_seq ?_ | with_reducible refine s_asg ?_ | with_reducible refine g_name ?_ | with_reducible refine s_ret ?_ | with_reducible refine s_if ?_ | with_reducible refine s_drop ?_
  | with_reducible refine d_nx ?_ | with_reducible refine d_rt ?_ | with_reducible refine d_bk ?_ | with_reducible refine d_ct ?_ | with_reducible refine s_next ?_ | with_reducible refine s_retN ?_ | with_reducible refine s_cont ?_ | with_reducible refine s_break ?_
  | ((with_reducible refine' e_var ?hv ?_); (case hv => exact rfl))
  | with_reducible refine o_chC ?_ | ((with_reducible refine' o_chV ?hv ?_); (case hv => exact rfl))
  | with_reducible refine e_c ?_ | with_reducible refine e_op ?_ | with_reducible refine e_un ?_ | with_reducible refine o_I0 ?_ | with_reducible refine o_U ?_
  | ((with_reducible refine' o_I ?hc ?_); (case hc => walk_at "ar"))
  | ((with_reducible refine' o_eq ?hs ?_); (case hs => exact rfl))
  | ((with_reducible refine' o_ne ?hs ?_); (case hs => exact rfl))
  | ((with_reducible refine' o_ixL ?h1 ?h2 ?_); (case h1 => walk_at "sq"); (case h2 => first | exact rfl | exact atI_zero _ _))
  | with_reducible refine e_fld ?_ | with_reducible refine s_fld ?_ | with_reducible refine e_meth ?_ | with_reducible refine e_call ?_ | with_reducible refine e_make ?_
  | ((with_reducible refine' k_fld ?h1 ?h2 ?h3 ?h4 ?_); (case h1 => walk_at "hl"); (case h2 => walk_at "cls"); (case h3 => walk_at "noa"); (case h4 => walk_at "lkp"))
  | ((with_reducible refine' k_set ?h1 ?h2 ?h3 ?h4 ?h5 ?_); (case h1 => walk_at "hl"); (case h2 => walk_at "cls"); (case h3 => walk_at "noa"); (case h4 => walk_at "ptf"); (case h5 => walk_at "lnF"))
  | ((with_reducible refine' k_meth ?h1 ?h2 ?_); (case h1 => walk_at "hl"); (case h2 => walk_at "nol"))
  | with_reducible refine e_cb ?_ | with_reducible refine l_cons ?_ | with_reducible refine l_nil ?_ | with_reducible refine e_lst ?_ | with_reducible refine e_tup ?_
  | with_reducible refine e_bm ?_ | with_reducible refine e_bm0 ?_ | with_reducible refine e_not ?_ | with_reducible refine e_if ?_
  | with_reducible refine t_test ?_ | with_reducible refine t_B ?_ | with_reducible refine k_t ?_ | with_reducible refine t_and ?_ | with_reducible refine t_or ?_ | with_reducible refine t_not ?_
  | with_reducible refine e_chain ?_ | with_reducible refine s_raise ?_ | with_reducible refine e_sl ?_ | with_reducible refine p_no ?_ | with_reducible refine p_some ?_ | with_reducible refine g_sub ?_
  | ((with_reducible refine' c_ln ?h1 ?_); (case h1 => walk_at "sq"))
  | ((with_reducible refine' c_pop0 ?h1 ?h2 ?_); (case h1 => walk_at "hl"); (case h2 => omega))
  | ((with_reducible refine' k_ty ?h1 ?_); (case h1 => walk_at "sq"))
  | with_reducible refine c_isBool ?_ | with_reducible refine c_isInt ?_ | with_reducible refine c_isBoolN ?_
  | with_reducible refine c_isTupI ?_ | with_reducible refine c_isNonB ?_ | with_reducible refine c_isNonT ?_ | ((with_reducible refine' c_isList ?h1 ?_); (case h1 => walk_at "hl")) | ((with_reducible refine' c_isTup ?h1 ?_); (case h1 => walk_at "hl")) | ((with_reducible refine' c_isTupB ?h1 ?_); (case h1 => walk_at "hl"))
  | with_reducible refine o_isB ?_ | with_reducible refine o_notB ?_ | with_reducible refine e_and ?_ | with_reducible refine e_or ?_ | with_reducible refine k_bl ?_
  | with_reducible refine e_xf ?_ | with_reducible refine s_augS ?_ | ((with_reducible refine' s_augV ?hv ?_); (case hv => exact rfl)) | with_reducible refine ip_I ?_ | with_reducible refine e_lcE ?_
  | ((with_reducible refine' k_xf ?h1 ?h2 ?_); (case h1 => walk_at "hl"); (case h2 => exact look_hit _ _ _))
  | with_reducible refine k_i ?_
  | ((with_reducible refine' o_slL ?h1 ?_); (case h1 => walk_at "sq"))
  | ((with_reducible refine' k_dget ?h1 ?h2 ?_); (case h1 => walk_at "hl"); (case h2 => with_reducible assumption))
  | with_reducible refine e_dget ?_ | with_reducible refine s_dput ?_ | with_reducible refine e_makeK ?_ | with_reducible refine g_cons ?_ | with_reducible refine g_nil ?_
  | with_reducible refine c_ab ?_ | with_reducible refine c_in ?_ | with_reducible refine c_mx ?_ | with_reducible refine c_mn ?_
  | with_reducible refine a1 ?_ | with_reducible refine a2 ?_ | with_reducible refine a3 ?_ | with_reducible refine a4 ?_ | with_reducible refine a5 ?_ | with_reducible refine a6 ?_ | with_reducible refine a0 ?_))
local macro_rules | `(tactic| walk_at "r") => `(tactic| (repeat walk_at "r1"))
section
variable {P : Program} {w : World} {K : PySem.W.Frag} {mg : Str → Option Value} {base : Heap} {a : Ads}
end
/-- the top's facts -/
theorem all_mk {l : PySem.W.OpenLaw} {w : World} {K : PySem.W.Frag} {h : Heap} {mg : Str → Option Value} {fa : Addr} (hl : l.prog = PySem.Challenge.pw_tickrings_k10_lines) (X : K.In h) (G : h.Ns mainGlobals mg) (hfa : mg "law" = some (.ref fa))
    {C_Lines : Addr} {f_wakes f_Lines_init f_Lines_raise_line f_Lines_clear_line f_Lines_mask f_Lines_unmask f_Lines_is_pending f_Lines_is_masked f_Lines_candidates f_law_state f_law_draw f_law_pick f_law_agrees f_law_wakes_right f_law : Addr}
    {oc_wakes : Value} {dc_wakes : Value} {pm_wakes : Value} {cd_wakes : Value} {ct_wakes : Value} {kV_wakes : Value} {od_wakes : Option Addr} {an_wakes : Option Addr} {sl_wakes : Array (Option Value)} {oc_Lines_init : Value} {dc_Lines_init : Value} {pm_Lines_init : Value} {cd_Lines_init : Value} {ct_Lines_init : Value} {kV_Lines_init : Value} {od_Lines_init : Option Addr} {an_Lines_init : Option Addr} {sl_Lines_init : Array (Option Value)} {oc_Lines_raise_line : Value} {dc_Lines_raise_line : Value} {pm_Lines_raise_line : Value} {cd_Lines_raise_line : Value} {ct_Lines_raise_line : Value} {kV_Lines_raise_line : Value} {od_Lines_raise_line : Option Addr} {an_Lines_raise_line : Option Addr} {sl_Lines_raise_line : Array (Option Value)} {oc_Lines_clear_line : Value} {dc_Lines_clear_line : Value} {pm_Lines_clear_line : Value} {cd_Lines_clear_line : Value} {ct_Lines_clear_line : Value} {kV_Lines_clear_line : Value} {od_Lines_clear_line : Option Addr} {an_Lines_clear_line : Option Addr} {sl_Lines_clear_line : Array (Option Value)} {oc_Lines_mask : Value} {dc_Lines_mask : Value} {pm_Lines_mask : Value} {cd_Lines_mask : Value} {ct_Lines_mask : Value} {kV_Lines_mask : Value} {od_Lines_mask : Option Addr} {an_Lines_mask : Option Addr} {sl_Lines_mask : Array (Option Value)} {oc_Lines_unmask : Value} {dc_Lines_unmask : Value} {pm_Lines_unmask : Value} {cd_Lines_unmask : Value} {ct_Lines_unmask : Value} {kV_Lines_unmask : Value} {od_Lines_unmask : Option Addr} {an_Lines_unmask : Option Addr} {sl_Lines_unmask : Array (Option Value)} {oc_Lines_is_pending : Value} {dc_Lines_is_pending : Value} {pm_Lines_is_pending : Value} {cd_Lines_is_pending : Value} {ct_Lines_is_pending : Value} {kV_Lines_is_pending : Value} {od_Lines_is_pending : Option Addr} {an_Lines_is_pending : Option Addr} {sl_Lines_is_pending : Array (Option Value)} {oc_Lines_is_masked : Value} {dc_Lines_is_masked : Value} {pm_Lines_is_masked : Value} {cd_Lines_is_masked : Value} {ct_Lines_is_masked : Value} {kV_Lines_is_masked : Value} {od_Lines_is_masked : Option Addr} {an_Lines_is_masked : Option Addr} {sl_Lines_is_masked : Array (Option Value)} {oc_Lines_candidates : Value} {dc_Lines_candidates : Value} {pm_Lines_candidates : Value} {cd_Lines_candidates : Value} {ct_Lines_candidates : Value} {kV_Lines_candidates : Value} {od_Lines_candidates : Option Addr} {an_Lines_candidates : Option Addr} {sl_Lines_candidates : Array (Option Value)} {oc_law_state : Value} {dc_law_state : Value} {pm_law_state : Value} {cd_law_state : Value} {ct_law_state : Value} {kV_law_state : Value} {od_law_state : Option Addr} {an_law_state : Option Addr} {sl_law_state : Array (Option Value)} {oc_law_draw : Value} {dc_law_draw : Value} {pm_law_draw : Value} {cd_law_draw : Value} {ct_law_draw : Value} {kV_law_draw : Value} {od_law_draw : Option Addr} {an_law_draw : Option Addr} {sl_law_draw : Array (Option Value)} {oc_law_pick : Value} {dc_law_pick : Value} {pm_law_pick : Value} {cd_law_pick : Value} {ct_law_pick : Value} {kV_law_pick : Value} {od_law_pick : Option Addr} {an_law_pick : Option Addr} {sl_law_pick : Array (Option Value)} {oc_law_agrees : Value} {dc_law_agrees : Value} {pm_law_agrees : Value} {cd_law_agrees : Value} {ct_law_agrees : Value} {kV_law_agrees : Value} {od_law_agrees : Option Addr} {an_law_agrees : Option Addr} {sl_law_agrees : Array (Option Value)} {oc_law_wakes_right : Value} {dc_law_wakes_right : Value} {pm_law_wakes_right : Value} {cd_law_wakes_right : Value} {ct_law_wakes_right : Value} {kV_law_wakes_right : Value} {od_law_wakes_right : Option Addr} {an_law_wakes_right : Option Addr} {sl_law_wakes_right : Array (Option Value)} {oc_law : Value} {dc_law : Value} {pm_law : Value} {cd_law : Value} {ct_law : Value} {kV_law : Value} {od_law : Option Addr} {an_law : Option Addr} {sl_law : Array (Option Value)}
    (gC_Lines : PySem.W.nsIn K mainGlobals "Lines" = some (some (.ref C_Lines)))
    (a_wakes : PySem.W.nsIn K mainGlobals "wakes" = some (some (.ref f_wakes)))
    (l_wakes : K.lookup f_wakes = some ⟨oc_wakes, od_wakes, .func (PySem.W.fnOf "wakes" "wakes" (defArgs s_wakes) (defBody s_wakes) (defScope s_wakes) .none kV_wakes dc_wakes pm_wakes an_wakes cd_wakes ct_wakes), sl_wakes⟩)
    (c_wakes : PySem.W.codeIn K cd_wakes "wakes" = true)
    (k_wakes : PySem.W.keepIn K (.ref f_wakes) = true)
    (a_Lines_init : PySem.W.findIn K (.ref C_Lines) "__init__" = some (some (.ref f_Lines_init)))
    (i_Lines_init : PySem.W.isFn K (.ref f_Lines_init) = true)
    (l_Lines_init : K.lookup f_Lines_init = some ⟨oc_Lines_init, od_Lines_init, .func (PySem.W.fnOf "__init__" "Lines.__init__" (defArgs s_Lines_init) (defBody s_Lines_init) (defScope s_Lines_init) .none kV_Lines_init dc_Lines_init pm_Lines_init an_Lines_init cd_Lines_init ct_Lines_init), sl_Lines_init⟩)
    (c_Lines_init : PySem.W.codeIn K cd_Lines_init "Lines.__init__" = true)
    (k_Lines_init : PySem.W.keepIn K (.ref f_Lines_init) = true)
    (a_Lines_raise_line : PySem.W.findIn K (.ref C_Lines) "raise_line" = some (some (.ref f_Lines_raise_line)))
    (i_Lines_raise_line : PySem.W.isFn K (.ref f_Lines_raise_line) = true)
    (l_Lines_raise_line : K.lookup f_Lines_raise_line = some ⟨oc_Lines_raise_line, od_Lines_raise_line, .func (PySem.W.fnOf "raise_line" "Lines.raise_line" (defArgs s_Lines_raise_line) (defBody s_Lines_raise_line) (defScope s_Lines_raise_line) .none kV_Lines_raise_line dc_Lines_raise_line pm_Lines_raise_line an_Lines_raise_line cd_Lines_raise_line ct_Lines_raise_line), sl_Lines_raise_line⟩)
    (c_Lines_raise_line : PySem.W.codeIn K cd_Lines_raise_line "Lines.raise_line" = true)
    (k_Lines_raise_line : PySem.W.keepIn K (.ref f_Lines_raise_line) = true)
    (a_Lines_clear_line : PySem.W.findIn K (.ref C_Lines) "clear_line" = some (some (.ref f_Lines_clear_line)))
    (i_Lines_clear_line : PySem.W.isFn K (.ref f_Lines_clear_line) = true)
    (l_Lines_clear_line : K.lookup f_Lines_clear_line = some ⟨oc_Lines_clear_line, od_Lines_clear_line, .func (PySem.W.fnOf "clear_line" "Lines.clear_line" (defArgs s_Lines_clear_line) (defBody s_Lines_clear_line) (defScope s_Lines_clear_line) .none kV_Lines_clear_line dc_Lines_clear_line pm_Lines_clear_line an_Lines_clear_line cd_Lines_clear_line ct_Lines_clear_line), sl_Lines_clear_line⟩)
    (c_Lines_clear_line : PySem.W.codeIn K cd_Lines_clear_line "Lines.clear_line" = true)
    (k_Lines_clear_line : PySem.W.keepIn K (.ref f_Lines_clear_line) = true)
    (a_Lines_mask : PySem.W.findIn K (.ref C_Lines) "mask" = some (some (.ref f_Lines_mask)))
    (i_Lines_mask : PySem.W.isFn K (.ref f_Lines_mask) = true)
    (l_Lines_mask : K.lookup f_Lines_mask = some ⟨oc_Lines_mask, od_Lines_mask, .func (PySem.W.fnOf "mask" "Lines.mask" (defArgs s_Lines_mask) (defBody s_Lines_mask) (defScope s_Lines_mask) .none kV_Lines_mask dc_Lines_mask pm_Lines_mask an_Lines_mask cd_Lines_mask ct_Lines_mask), sl_Lines_mask⟩)
    (c_Lines_mask : PySem.W.codeIn K cd_Lines_mask "Lines.mask" = true)
    (k_Lines_mask : PySem.W.keepIn K (.ref f_Lines_mask) = true)
    (a_Lines_unmask : PySem.W.findIn K (.ref C_Lines) "unmask" = some (some (.ref f_Lines_unmask)))
    (i_Lines_unmask : PySem.W.isFn K (.ref f_Lines_unmask) = true)
    (l_Lines_unmask : K.lookup f_Lines_unmask = some ⟨oc_Lines_unmask, od_Lines_unmask, .func (PySem.W.fnOf "unmask" "Lines.unmask" (defArgs s_Lines_unmask) (defBody s_Lines_unmask) (defScope s_Lines_unmask) .none kV_Lines_unmask dc_Lines_unmask pm_Lines_unmask an_Lines_unmask cd_Lines_unmask ct_Lines_unmask), sl_Lines_unmask⟩)
    (c_Lines_unmask : PySem.W.codeIn K cd_Lines_unmask "Lines.unmask" = true)
    (k_Lines_unmask : PySem.W.keepIn K (.ref f_Lines_unmask) = true)
    (a_Lines_is_pending : PySem.W.findIn K (.ref C_Lines) "is_pending" = some (some (.ref f_Lines_is_pending)))
    (i_Lines_is_pending : PySem.W.isFn K (.ref f_Lines_is_pending) = true)
    (l_Lines_is_pending : K.lookup f_Lines_is_pending = some ⟨oc_Lines_is_pending, od_Lines_is_pending, .func (PySem.W.fnOf "is_pending" "Lines.is_pending" (defArgs s_Lines_is_pending) (defBody s_Lines_is_pending) (defScope s_Lines_is_pending) .none kV_Lines_is_pending dc_Lines_is_pending pm_Lines_is_pending an_Lines_is_pending cd_Lines_is_pending ct_Lines_is_pending), sl_Lines_is_pending⟩)
    (c_Lines_is_pending : PySem.W.codeIn K cd_Lines_is_pending "Lines.is_pending" = true)
    (k_Lines_is_pending : PySem.W.keepIn K (.ref f_Lines_is_pending) = true)
    (a_Lines_is_masked : PySem.W.findIn K (.ref C_Lines) "is_masked" = some (some (.ref f_Lines_is_masked)))
    (i_Lines_is_masked : PySem.W.isFn K (.ref f_Lines_is_masked) = true)
    (l_Lines_is_masked : K.lookup f_Lines_is_masked = some ⟨oc_Lines_is_masked, od_Lines_is_masked, .func (PySem.W.fnOf "is_masked" "Lines.is_masked" (defArgs s_Lines_is_masked) (defBody s_Lines_is_masked) (defScope s_Lines_is_masked) .none kV_Lines_is_masked dc_Lines_is_masked pm_Lines_is_masked an_Lines_is_masked cd_Lines_is_masked ct_Lines_is_masked), sl_Lines_is_masked⟩)
    (c_Lines_is_masked : PySem.W.codeIn K cd_Lines_is_masked "Lines.is_masked" = true)
    (k_Lines_is_masked : PySem.W.keepIn K (.ref f_Lines_is_masked) = true)
    (a_Lines_candidates : PySem.W.findIn K (.ref C_Lines) "candidates" = some (some (.ref f_Lines_candidates)))
    (i_Lines_candidates : PySem.W.isFn K (.ref f_Lines_candidates) = true)
    (l_Lines_candidates : K.lookup f_Lines_candidates = some ⟨oc_Lines_candidates, od_Lines_candidates, .func (PySem.W.fnOf "candidates" "Lines.candidates" (defArgs s_Lines_candidates) (defBody s_Lines_candidates) (defScope s_Lines_candidates) .none kV_Lines_candidates dc_Lines_candidates pm_Lines_candidates an_Lines_candidates cd_Lines_candidates ct_Lines_candidates), sl_Lines_candidates⟩)
    (c_Lines_candidates : PySem.W.codeIn K cd_Lines_candidates "Lines.candidates" = true)
    (k_Lines_candidates : PySem.W.keepIn K (.ref f_Lines_candidates) = true)
    (a_law_state : PySem.W.nsIn K mainGlobals "_law_state" = some (some (.ref f_law_state)))
    (l_law_state : K.lookup f_law_state = some ⟨oc_law_state, od_law_state, .func (PySem.W.fnOf "_law_state" "_law_state" (defArgs s_law_state) (defBody s_law_state) (defScope s_law_state) .none kV_law_state dc_law_state pm_law_state an_law_state cd_law_state ct_law_state), sl_law_state⟩)
    (c_law_state : PySem.W.codeIn K cd_law_state "_law_state" = true)
    (k_law_state : PySem.W.keepIn K (.ref f_law_state) = true)
    (a_law_draw : PySem.W.nsIn K mainGlobals "_law_draw" = some (some (.ref f_law_draw)))
    (l_law_draw : K.lookup f_law_draw = some ⟨oc_law_draw, od_law_draw, .func (PySem.W.fnOf "_law_draw" "_law_draw" (defArgs s_law_draw) (defBody s_law_draw) (defScope s_law_draw) .none kV_law_draw dc_law_draw pm_law_draw an_law_draw cd_law_draw ct_law_draw), sl_law_draw⟩)
    (c_law_draw : PySem.W.codeIn K cd_law_draw "_law_draw" = true)
    (k_law_draw : PySem.W.keepIn K (.ref f_law_draw) = true)
    (a_law_pick : PySem.W.nsIn K mainGlobals "_law_pick" = some (some (.ref f_law_pick)))
    (l_law_pick : K.lookup f_law_pick = some ⟨oc_law_pick, od_law_pick, .func (PySem.W.fnOf "_law_pick" "_law_pick" (defArgs s_law_pick) (defBody s_law_pick) (defScope s_law_pick) .none kV_law_pick dc_law_pick pm_law_pick an_law_pick cd_law_pick ct_law_pick), sl_law_pick⟩)
    (c_law_pick : PySem.W.codeIn K cd_law_pick "_law_pick" = true)
    (k_law_pick : PySem.W.keepIn K (.ref f_law_pick) = true)
    (a_law_agrees : PySem.W.nsIn K mainGlobals "_law_agrees" = some (some (.ref f_law_agrees)))
    (l_law_agrees : K.lookup f_law_agrees = some ⟨oc_law_agrees, od_law_agrees, .func (PySem.W.fnOf "_law_agrees" "_law_agrees" (defArgs s_law_agrees) (defBody s_law_agrees) (defScope s_law_agrees) .none kV_law_agrees dc_law_agrees pm_law_agrees an_law_agrees cd_law_agrees ct_law_agrees), sl_law_agrees⟩)
    (c_law_agrees : PySem.W.codeIn K cd_law_agrees "_law_agrees" = true)
    (k_law_agrees : PySem.W.keepIn K (.ref f_law_agrees) = true)
    (a_law_wakes_right : PySem.W.nsIn K mainGlobals "_law_wakes_right" = some (some (.ref f_law_wakes_right)))
    (l_law_wakes_right : K.lookup f_law_wakes_right = some ⟨oc_law_wakes_right, od_law_wakes_right, .func (PySem.W.fnOf "_law_wakes_right" "_law_wakes_right" (defArgs s_law_wakes_right) (defBody s_law_wakes_right) (defScope s_law_wakes_right) .none kV_law_wakes_right dc_law_wakes_right pm_law_wakes_right an_law_wakes_right cd_law_wakes_right ct_law_wakes_right), sl_law_wakes_right⟩)
    (c_law_wakes_right : PySem.W.codeIn K cd_law_wakes_right "_law_wakes_right" = true)
    (k_law_wakes_right : PySem.W.keepIn K (.ref f_law_wakes_right) = true)
    (a_law : PySem.W.nsIn K mainGlobals "law" = some (some (.ref f_law)))
    (l_law : K.lookup f_law = some ⟨oc_law, od_law, .func (PySem.W.fnOf "law" "law" (defArgs s_law) (defBody s_law) (defScope s_law) .none kV_law dc_law pm_law an_law cd_law ct_law), sl_law⟩)
    (c_law : PySem.W.codeIn K cd_law "law" = true)
    (k_law : PySem.W.keepIn K (.ref f_law) = true)
    (pg_Lines : PySem.W.plainGet K C_Lines Str.empty = true)
    (hd_Lines : PySem.W.hasDictIn K C_Lines = true)
    (po_Lines : PySem.W.plainOver K C_Lines = true)
    (sa_Lines : PySem.W.findIn K (.ref C_Lines) "__setattr__" = some (some (.builtin "object.__setattr__")))
    (mk_Lines : PySem.W.makesIn K C_Lines = true)
    (kc_Lines : PySem.W.keepIn K (.ref C_Lines) = true)
    (n_Lines_pending : PySem.W.findIn K (.ref C_Lines) "_pending" = some none)
    (n_Lines_masked : PySem.W.findIn K (.ref C_Lines) "_masked" = some none)
    (z_abs : PySem.W.nsIn K mainGlobals "abs" = some none)
    (z_bool : PySem.W.nsIn K mainGlobals "bool" = some none)
    (z_enumerate : PySem.W.nsIn K mainGlobals "enumerate" = some none)
    (z_int : PySem.W.nsIn K mainGlobals "int" = some none)
    (z_isinstance : PySem.W.nsIn K mainGlobals "isinstance" = some none)
    (z_len : PySem.W.nsIn K mainGlobals "len" = some none)
    (z_list : PySem.W.nsIn K mainGlobals "list" = some none)
    (z_range : PySem.W.nsIn K mainGlobals "range" = some none)
    : ∃ fd : FuncData, (∀ (s : Shared) (v : Value), BindsTo s fd ⟨[v], []⟩ [("script", v)]) ∧ ∀ base : Heap, K.In base → base.Ns mainGlobals mg → FnOk l.prog w K mg base (L2.CX l.prog w) 4 fa fd ["script"] (sp_law0 K) := by
  have e : f_law = fa := by
    have z := hfa.symm.trans (PySem.W.mg_of X G a_law)
    cases z
    rfl
  subst e
  have F_wakes := fun_mk (st := s_wakes) l_wakes c_wakes k_wakes
  have b_wakes := F_wakes.binds (ps := ["held", "oldest", "now", "count", "wait"]) fun _ _ _ _ _ _ us hl => match us, hl with | [_, _, _, _, _], _ => rfl
  have F_Lines_init := fun_mk (st := s_Lines_init) l_Lines_init c_Lines_init k_Lines_init
  have b_Lines_init := F_Lines_init.binds (ps := ["self", "many"]) fun _ _ _ _ _ _ us hl => match us, hl with | [_, _], _ => rfl
  have F_Lines_raise_line := fun_mk (st := s_Lines_raise_line) l_Lines_raise_line c_Lines_raise_line k_Lines_raise_line
  have b_Lines_raise_line := F_Lines_raise_line.binds (ps := ["self", "line"]) fun _ _ _ _ _ _ us hl => match us, hl with | [_, _], _ => rfl
  have F_Lines_clear_line := fun_mk (st := s_Lines_clear_line) l_Lines_clear_line c_Lines_clear_line k_Lines_clear_line
  have b_Lines_clear_line := F_Lines_clear_line.binds (ps := ["self", "line"]) fun _ _ _ _ _ _ us hl => match us, hl with | [_, _], _ => rfl
  have F_Lines_mask := fun_mk (st := s_Lines_mask) l_Lines_mask c_Lines_mask k_Lines_mask
  have b_Lines_mask := F_Lines_mask.binds (ps := ["self", "line"]) fun _ _ _ _ _ _ us hl => match us, hl with | [_, _], _ => rfl
  have F_Lines_unmask := fun_mk (st := s_Lines_unmask) l_Lines_unmask c_Lines_unmask k_Lines_unmask
  have b_Lines_unmask := F_Lines_unmask.binds (ps := ["self", "line"]) fun _ _ _ _ _ _ us hl => match us, hl with | [_, _], _ => rfl
  have F_Lines_is_pending := fun_mk (st := s_Lines_is_pending) l_Lines_is_pending c_Lines_is_pending k_Lines_is_pending
  have b_Lines_is_pending := F_Lines_is_pending.binds (ps := ["self", "line"]) fun _ _ _ _ _ _ us hl => match us, hl with | [_, _], _ => rfl
  have F_Lines_is_masked := fun_mk (st := s_Lines_is_masked) l_Lines_is_masked c_Lines_is_masked k_Lines_is_masked
  have b_Lines_is_masked := F_Lines_is_masked.binds (ps := ["self", "line"]) fun _ _ _ _ _ _ us hl => match us, hl with | [_, _], _ => rfl
  have F_Lines_candidates := fun_mk (st := s_Lines_candidates) l_Lines_candidates c_Lines_candidates k_Lines_candidates
  have b_Lines_candidates := F_Lines_candidates.binds (ps := ["self"]) fun _ _ _ _ _ _ us hl => match us, hl with | [_], _ => rfl
  have F_law_state := fun_mk (st := s_law_state) l_law_state c_law_state k_law_state
  have b_law_state := F_law_state.binds (ps := ["script"]) fun _ _ _ _ _ _ us hl => match us, hl with | [_], _ => rfl
  have F_law_draw := fun_mk (st := s_law_draw) l_law_draw c_law_draw k_law_draw
  have b_law_draw := F_law_draw.binds (ps := ["state", "many"]) fun _ _ _ _ _ _ us hl => match us, hl with | [_, _], _ => rfl
  have F_law_pick := fun_mk (st := s_law_pick) l_law_pick c_law_pick k_law_pick
  have b_law_pick := F_law_pick.binds (ps := ["state", "row"]) fun _ _ _ _ _ _ us hl => match us, hl with | [_, _], _ => rfl
  have F_law_agrees := fun_mk (st := s_law_agrees) l_law_agrees c_law_agrees k_law_agrees
  have b_law_agrees := F_law_agrees.binds (ps := ["lines", "pending", "masked"]) fun _ _ _ _ _ _ us hl => match us, hl with | [_, _, _], _ => rfl
  have F_law_wakes_right := fun_mk (st := s_law_wakes_right) l_law_wakes_right c_law_wakes_right k_law_wakes_right
  have b_law_wakes_right := F_law_wakes_right.binds (ps := ["state"]) fun _ _ _ _ _ _ us hl => match us, hl with | [_], _ => rfl
  have F_law := fun_mk (st := s_law) l_law c_law k_law
  have b_law := F_law.binds (ps := ["script"]) fun _ _ _ _ _ _ us hl => match us, hl with | [_], _ => rfl
  let a : Ads := { C_Lines := C_Lines, f_wakes := f_wakes, f_Lines_init := f_Lines_init, f_Lines_raise_line := f_Lines_raise_line, f_Lines_clear_line := f_Lines_clear_line, f_Lines_mask := f_Lines_mask, f_Lines_unmask := f_Lines_unmask, f_Lines_is_pending := f_Lines_is_pending, f_Lines_is_masked := f_Lines_is_masked, f_Lines_candidates := f_Lines_candidates, f_law_state := f_law_state, f_law_draw := f_law_draw, f_law_pick := f_law_pick, f_law_agrees := f_law_agrees, f_law_wakes_right := f_law_wakes_right, f_law := f_law, fd_wakes := (PySem.W.fnOf "wakes" "wakes" (defArgs s_wakes) (defBody s_wakes) (defScope s_wakes) .none kV_wakes dc_wakes pm_wakes an_wakes cd_wakes ct_wakes), fd_Lines_init := (PySem.W.fnOf "__init__" "Lines.__init__" (defArgs s_Lines_init) (defBody s_Lines_init) (defScope s_Lines_init) .none kV_Lines_init dc_Lines_init pm_Lines_init an_Lines_init cd_Lines_init ct_Lines_init), fd_Lines_raise_line := (PySem.W.fnOf "raise_line" "Lines.raise_line" (defArgs s_Lines_raise_line) (defBody s_Lines_raise_line) (defScope s_Lines_raise_line) .none kV_Lines_raise_line dc_Lines_raise_line pm_Lines_raise_line an_Lines_raise_line cd_Lines_raise_line ct_Lines_raise_line), fd_Lines_clear_line := (PySem.W.fnOf "clear_line" "Lines.clear_line" (defArgs s_Lines_clear_line) (defBody s_Lines_clear_line) (defScope s_Lines_clear_line) .none kV_Lines_clear_line dc_Lines_clear_line pm_Lines_clear_line an_Lines_clear_line cd_Lines_clear_line ct_Lines_clear_line), fd_Lines_mask := (PySem.W.fnOf "mask" "Lines.mask" (defArgs s_Lines_mask) (defBody s_Lines_mask) (defScope s_Lines_mask) .none kV_Lines_mask dc_Lines_mask pm_Lines_mask an_Lines_mask cd_Lines_mask ct_Lines_mask), fd_Lines_unmask := (PySem.W.fnOf "unmask" "Lines.unmask" (defArgs s_Lines_unmask) (defBody s_Lines_unmask) (defScope s_Lines_unmask) .none kV_Lines_unmask dc_Lines_unmask pm_Lines_unmask an_Lines_unmask cd_Lines_unmask ct_Lines_unmask), fd_Lines_is_pending := (PySem.W.fnOf "is_pending" "Lines.is_pending" (defArgs s_Lines_is_pending) (defBody s_Lines_is_pending) (defScope s_Lines_is_pending) .none kV_Lines_is_pending dc_Lines_is_pending pm_Lines_is_pending an_Lines_is_pending cd_Lines_is_pending ct_Lines_is_pending), fd_Lines_is_masked := (PySem.W.fnOf "is_masked" "Lines.is_masked" (defArgs s_Lines_is_masked) (defBody s_Lines_is_masked) (defScope s_Lines_is_masked) .none kV_Lines_is_masked dc_Lines_is_masked pm_Lines_is_masked an_Lines_is_masked cd_Lines_is_masked ct_Lines_is_masked), fd_Lines_candidates := (PySem.W.fnOf "candidates" "Lines.candidates" (defArgs s_Lines_candidates) (defBody s_Lines_candidates) (defScope s_Lines_candidates) .none kV_Lines_candidates dc_Lines_candidates pm_Lines_candidates an_Lines_candidates cd_Lines_candidates ct_Lines_candidates), fd_law_state := (PySem.W.fnOf "_law_state" "_law_state" (defArgs s_law_state) (defBody s_law_state) (defScope s_law_state) .none kV_law_state dc_law_state pm_law_state an_law_state cd_law_state ct_law_state), fd_law_draw := (PySem.W.fnOf "_law_draw" "_law_draw" (defArgs s_law_draw) (defBody s_law_draw) (defScope s_law_draw) .none kV_law_draw dc_law_draw pm_law_draw an_law_draw cd_law_draw ct_law_draw), fd_law_pick := (PySem.W.fnOf "_law_pick" "_law_pick" (defArgs s_law_pick) (defBody s_law_pick) (defScope s_law_pick) .none kV_law_pick dc_law_pick pm_law_pick an_law_pick cd_law_pick ct_law_pick), fd_law_agrees := (PySem.W.fnOf "_law_agrees" "_law_agrees" (defArgs s_law_agrees) (defBody s_law_agrees) (defScope s_law_agrees) .none kV_law_agrees dc_law_agrees pm_law_agrees an_law_agrees cd_law_agrees ct_law_agrees), fd_law_wakes_right := (PySem.W.fnOf "_law_wakes_right" "_law_wakes_right" (defArgs s_law_wakes_right) (defBody s_law_wakes_right) (defScope s_law_wakes_right) .none kV_law_wakes_right dc_law_wakes_right pm_law_wakes_right an_law_wakes_right cd_law_wakes_right ct_law_wakes_right), fd_law := (PySem.W.fnOf "law" "law" (defArgs s_law) (defBody s_law) (defScope s_law) .none kV_law dc_law pm_law an_law cd_law ct_law) }
  refine ⟨a.fd_law, fun s v => .of_eq rfl, fun base hKb hGb => ?_⟩
  have T : Txt l.prog w K mg base a := {
    g_abs := PySem.W.mg_none_of X G z_abs,
    g_bool := PySem.W.mg_none_of X G z_bool,
    g_enumerate := PySem.W.mg_none_of X G z_enumerate,
    g_int := PySem.W.mg_none_of X G z_int,
    g_isinstance := PySem.W.mg_none_of X G z_isinstance,
    g_len := PySem.W.mg_none_of X G z_len,
    g_list := PySem.W.mg_none_of X G z_list,
    g_range := PySem.W.mg_none_of X G z_range,
    F_wakes := F_wakes,
    b_wakes := b_wakes,
    g_wakes := PySem.W.mg_of X G a_wakes,
    F_Lines_init := F_Lines_init,
    b_Lines_init := b_Lines_init,
    mk_Lines := ⟨mk_Lines, a_Lines_init, i_Lines_init, kc_Lines⟩,
    F_Lines_raise_line := F_Lines_raise_line,
    b_Lines_raise_line := b_Lines_raise_line,
    m_Lines_raise_line := ⟨a_Lines_raise_line, i_Lines_raise_line, k_Lines_raise_line⟩,
    F_Lines_clear_line := F_Lines_clear_line,
    b_Lines_clear_line := b_Lines_clear_line,
    m_Lines_clear_line := ⟨a_Lines_clear_line, i_Lines_clear_line, k_Lines_clear_line⟩,
    F_Lines_mask := F_Lines_mask,
    b_Lines_mask := b_Lines_mask,
    m_Lines_mask := ⟨a_Lines_mask, i_Lines_mask, k_Lines_mask⟩,
    F_Lines_unmask := F_Lines_unmask,
    b_Lines_unmask := b_Lines_unmask,
    m_Lines_unmask := ⟨a_Lines_unmask, i_Lines_unmask, k_Lines_unmask⟩,
    F_Lines_is_pending := F_Lines_is_pending,
    b_Lines_is_pending := b_Lines_is_pending,
    m_Lines_is_pending := ⟨a_Lines_is_pending, i_Lines_is_pending, k_Lines_is_pending⟩,
    F_Lines_is_masked := F_Lines_is_masked,
    b_Lines_is_masked := b_Lines_is_masked,
    m_Lines_is_masked := ⟨a_Lines_is_masked, i_Lines_is_masked, k_Lines_is_masked⟩,
    F_Lines_candidates := F_Lines_candidates,
    b_Lines_candidates := b_Lines_candidates,
    m_Lines_candidates := ⟨a_Lines_candidates, i_Lines_candidates, k_Lines_candidates⟩,
    F_law_state := F_law_state,
    b_law_state := b_law_state,
    g_law_state := PySem.W.mg_of X G a_law_state,
    F_law_draw := F_law_draw,
    b_law_draw := b_law_draw,
    g_law_draw := PySem.W.mg_of X G a_law_draw,
    F_law_pick := F_law_pick,
    b_law_pick := b_law_pick,
    g_law_pick := PySem.W.mg_of X G a_law_pick,
    F_law_agrees := F_law_agrees,
    b_law_agrees := b_law_agrees,
    g_law_agrees := PySem.W.mg_of X G a_law_agrees,
    F_law_wakes_right := F_law_wakes_right,
    b_law_wakes_right := b_law_wakes_right,
    g_law_wakes_right := PySem.W.mg_of X G a_law_wakes_right,
    F_law := F_law,
    b_law := b_law,
    g_law := PySem.W.mg_of X G a_law,
    g_Lines := PySem.W.mg_of X G gC_Lines,
    cl_Lines := ⟨pg_Lines, hd_Lines, po_Lines, sa_Lines⟩,
    n_Lines_pending := n_Lines_pending,
    n_Lines_masked := n_Lines_masked }
  exact FnOk.imp (ok_law T) fun vs H Q E h => h
theorem walk {l : PySem.W.OpenLaw} {q : Program} {loose : List Str} {XP : (Str → Option Value) → Heap → Prop} {YP : World → Heap → Prop} {d : DefRec} {K : Params → PySem.W.Frag} (hn : l.most = some 63) (hdf : d.params.defaults = [])
    (hY : ∀ (w : World) (h : Heap), YP w h → (K w.params).In h)
    (F : ∀ (w : World) (mg : Str → Option Value) (fa : Addr) (h : Heap), (K w.params).In h → h.Ns mainGlobals mg → mg d.name = some (.ref fa) → ∃ fd : FuncData, (∀ (s : Shared) (u : Value), BindsTo s fd ⟨[u], []⟩ [("script", u)]) ∧
      ∀ base : Heap, (K w.params).In base → base.Ns mainGlobals mg → FnOk l.prog w (K w.params) mg base (L2.CX l.prog w) 4 fa fd ["script"] (sp_law0 (K w.params))) :
    PySem.W.WalkO q loose XP YP l.row.toRowW d [] (fun f vs => PySem.call f vs) :=
  L2.walk_of (n := 63) (k := 4) (x := "script") (CX := fun w => L2.CX l.prog w) (sp := fun w => sp_law0 (K w.params)) hn (by decide) hdf ⟨rfl, by decide, by decide⟩ hY F (fun _ _ b ns hl _ hS => a1 ⟨b, ns, rfl, hS, hl, fun _ => rfl⟩) fun _ _ _ _ _ ⟨_, _, _, _, _, _, _, _, _, _, _, _, z⟩ => z
end My
open PySem PySem.W PyProof.Rows
set_option maxRecDepth 100000 in
set_option maxHeartbeats 0 in
theorem PySem.Challenge.cw_tickrings_k10_lines_holds : PySem.Challenge.rw_tickrings_k10_lines.Holds := by
  w_on; o_law; k_head; (case hw => w_witness2)
  k_fill
  refine My.walk (l := PySem.Challenge.rw_tickrings_k10_lines) rfl rfl (fun w h Y => PySem.W.kIn_of Y) ?F
  case F =>
    intro w mg fa h KX G hmg
    refine' My.all_mk rfl KX G hmg ?hgC_Lines ?ha_wakes ?hl_wakes ?hc_wakes ?hk_wakes ?ha_Lines_init ?hi_Lines_init ?hl_Lines_init ?hc_Lines_init ?hk_Lines_init ?ha_Lines_raise_line ?hi_Lines_raise_line ?hl_Lines_raise_line ?hc_Lines_raise_line ?hk_Lines_raise_line ?ha_Lines_clear_line ?hi_Lines_clear_line ?hl_Lines_clear_line ?hc_Lines_clear_line ?hk_Lines_clear_line ?ha_Lines_mask ?hi_Lines_mask ?hl_Lines_mask ?hc_Lines_mask ?hk_Lines_mask ?ha_Lines_unmask ?hi_Lines_unmask ?hl_Lines_unmask ?hc_Lines_unmask ?hk_Lines_unmask ?ha_Lines_is_pending ?hi_Lines_is_pending ?hl_Lines_is_pending ?hc_Lines_is_pending ?hk_Lines_is_pending ?ha_Lines_is_masked ?hi_Lines_is_masked ?hl_Lines_is_masked ?hc_Lines_is_masked ?hk_Lines_is_masked ?ha_Lines_candidates ?hi_Lines_candidates ?hl_Lines_candidates ?hc_Lines_candidates ?hk_Lines_candidates ?ha_law_state ?hl_law_state ?hc_law_state ?hk_law_state ?ha_law_draw ?hl_law_draw ?hc_law_draw ?hk_law_draw ?ha_law_pick ?hl_law_pick ?hc_law_pick ?hk_law_pick ?ha_law_agrees ?hl_law_agrees ?hc_law_agrees ?hk_law_agrees ?ha_law_wakes_right ?hl_law_wakes_right ?hc_law_wakes_right ?hk_law_wakes_right ?ha_law ?hl_law ?hc_law ?hk_law ?hpg_Lines ?hhd_Lines ?hpo_Lines ?hsa_Lines ?hmk_Lines ?hkc_Lines ?hn_Lines_pending ?hn_Lines_masked ?hz_abs ?hz_bool ?hz_enumerate ?hz_int ?hz_isinstance ?hz_len ?hz_list ?hz_range
    (case hgC_Lines => k_is)
    (case ha_wakes => k_is)
    (case hl_wakes => k_is)
    (case hc_wakes => k_is)
    (case hk_wakes => k_is)
    (case ha_Lines_init => k_is)
    (case hi_Lines_init => k_is)
    (case hl_Lines_init => k_is)
    (case hc_Lines_init => k_is)
    (case hk_Lines_init => k_is)
    (case ha_Lines_raise_line => k_is)
    (case hi_Lines_raise_line => k_is)
    (case hl_Lines_raise_line => k_is)
    (case hc_Lines_raise_line => k_is)
    (case hk_Lines_raise_line => k_is)
    (case ha_Lines_clear_line => k_is)
    (case hi_Lines_clear_line => k_is)
    (case hl_Lines_clear_line => k_is)
    (case hc_Lines_clear_line => k_is)
    (case hk_Lines_clear_line => k_is)
    (case ha_Lines_mask => k_is)
    (case hi_Lines_mask => k_is)
    (case hl_Lines_mask => k_is)
    (case hc_Lines_mask => k_is)
    (case hk_Lines_mask => k_is)
    (case ha_Lines_unmask => k_is)
    (case hi_Lines_unmask => k_is)
    (case hl_Lines_unmask => k_is)
    (case hc_Lines_unmask => k_is)
    (case hk_Lines_unmask => k_is)
    (case ha_Lines_is_pending => k_is)
    (case hi_Lines_is_pending => k_is)
    (case hl_Lines_is_pending => k_is)
    (case hc_Lines_is_pending => k_is)
    (case hk_Lines_is_pending => k_is)
    (case ha_Lines_is_masked => k_is)
    (case hi_Lines_is_masked => k_is)
    (case hl_Lines_is_masked => k_is)
    (case hc_Lines_is_masked => k_is)
    (case hk_Lines_is_masked => k_is)
    (case ha_Lines_candidates => k_is)
    (case hi_Lines_candidates => k_is)
    (case hl_Lines_candidates => k_is)
    (case hc_Lines_candidates => k_is)
    (case hk_Lines_candidates => k_is)
    (case ha_law_state => k_is)
    (case hl_law_state => k_is)
    (case hc_law_state => k_is)
    (case hk_law_state => k_is)
    (case ha_law_draw => k_is)
    (case hl_law_draw => k_is)
    (case hc_law_draw => k_is)
    (case hk_law_draw => k_is)
    (case ha_law_pick => k_is)
    (case hl_law_pick => k_is)
    (case hc_law_pick => k_is)
    (case hk_law_pick => k_is)
    (case ha_law_agrees => k_is)
    (case hl_law_agrees => k_is)
    (case hc_law_agrees => k_is)
    (case hk_law_agrees => k_is)
    (case ha_law_wakes_right => k_is)
    (case hl_law_wakes_right => k_is)
    (case hc_law_wakes_right => k_is)
    (case hk_law_wakes_right => k_is)
    (case ha_law => k_is)
    (case hl_law => k_is)
    (case hc_law => k_is)
    (case hk_law => k_is)
    (case hpg_Lines => k_is)
    (case hhd_Lines => k_is)
    (case hpo_Lines => k_is)
    (case hsa_Lines => k_is)
    (case hmk_Lines => k_is)
    (case hkc_Lines => k_is)
    (case hn_Lines_pending => k_is)
    (case hn_Lines_masked => k_is)
    (case hz_abs => k_is)
    (case hz_bool => k_is)
    (case hz_enumerate => k_is)
    (case hz_int => k_is)
    (case hz_isinstance => k_is)
    (case hz_len => k_is)
    (case hz_list => k_is)
    (case hz_range => k_is)
#print axioms PySem.Challenge.cw_tickrings_k10_lines_holds
