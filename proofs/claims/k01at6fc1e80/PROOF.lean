import PyProof.Rows.All
import Wide.All
import OpenK.AllK
import Wide.FinOn
import KE.KExcSuper
import HandS.ForMost
import HandS.ForExc
import HandS.Evl
import HandS.Exc
import HandS.ExcOwn
import HandS.ExcInit
import HandS.ExcIs
import HandS.ExcField
import HandS.TryMany
import KE.KExcIs
import HandS.IsInst
import HandS.Style
import HandS.Strs
import HandS.SetFor
import HandS.TupLe
import HandS.TupAny
import OpenK.KMeth
import KE.KOpsOwn
import HandS.Gcd
import HandS.Wide
import HandS.ClsMeth
import KE.KMathG
import HandS.Defaults
import PySem.Challenge.RW_nodearer_k01_ratio_arithmetic
set_option Elab.async false
set_option linter.all false
set_option maxRecDepth 100000
set_option maxHeartbeats 4000000
/-! An own error whose __init__ begins with super().__init__(text): its promise by the rest of its body. -/
namespace Nd
open PySem PySem.Spec PyProof.Rows L2

/-- a built-in base's __init__, bound, called on an exception without a dict -/
theorem bound_init {prog : Program} {w : World} {A : Around} {E : Value → Shared → Prop} {s : Shared} {B newId i : String} {bmB : List Value} {nm q : Str} {C N u x t0 : Addr} {bs bm : List Value} {hdct : Bool} {sn : List Str} {sub : List Value} {ab : Bool}
    {col : Option Bool} {dd : Option Addr} {k0 k1 k2 k3 k5 : Option Value} {rest : List Value} {Q : Value → Shared → Prop} (FB : ExcBaseFacts B newId i bmB)
    (hC : s.heap.get? C = some (excClassObj nm q C N bs bm hdct sn sub ab col dd k0 k1 k2 k3 k5 newId)) (hu : s.heap.get? u = some (PySem.W.kxs_mw i x)) (hx : s.heap.get? x = some (HandSPX.excO C t0)) (hz : rest.length ≤ sizeLine)
    (hq : ∀ h' t1, (∀ b o, b ≠ x → s.heap.get? b = some o → h'.get? b = some o) → h'.get? x = some (HandSPX.excO C t1) → Q .none { s with heap := h' }) :
    wpAny (model prog w) A (call (.ref u) rest) Q E s := by
  obtain ⟨hh, g, d, tk, os⟩ := s
  refine wpAny_call (codeAny_of_tree ?_)
  show wpAny _ A.in1 (callAny (.ref u) ⟨rest, []⟩) _ _ _
  simp only [callAny]
  refine wpAny_bind (wpAny_load hu ?_)
  have m1 : (Value.type "method-wrapper" == Value.type "method" || Value.type "method-wrapper" == Value.type "builtin_function_or_method" || Value.type "method-wrapper" == Value.type "method-wrapper") = true := by decide
  simp only [PySem.W.kxs_mw, m1, if_true]
  refine PySem.W.KFB.if_so (by decide) ?_
  refine wpAny_bind (PySem.W.check_bound_init FB.toExcCallFacts hC hx rfl ?_)
  refine wpAny_bind (wpAny_pure (wpAny_pure ?_))
  refine ⟨plainId_quiet FB.init.plain _, codeAny_builtin FB.initEntry ?_⟩
  exact PySem.W.exc_init_tree (cls := .ref C) (t0 := t0) (dv := none) (c2 := .none) (c3 := .none) (b4 := .bool false) hx hz fun h' k e' _ => hq h' _ k e'

/-- what the written part says of an error class at C whose own __init__ (at fI, its code at cda, its cell __class__ at cc) begins with super().__init__(text) -/
structure SupC (P : Program) (K : PySem.W.Frag) (C cda cc : Addr) : Prop where
  ox : OexC K C
  code : ∃ ccl cdd vs ccs file tf, K.lookup cda = some ⟨ccl, cdd, .fields vs, ccs⟩ ∧ vs[2]? = some (.str file tf) ∧ ((P.main.file : Str) == file) = true
  cell : ∃ cl cld csl, K.lookup cc = some ⟨cl, cld, .cell (some (.ref C)), csl⟩
  mro : PySem.W.mroIn K C (.ref C) = some true
  sup : PySem.W.ks_superIn K C C "__init__" = some (some (.builtin "ValueError.__init__"))
  ve : PySem.W.subIn K (.ref C) (.type "ValueError") = some true
  tp : PySem.W.nsIn K cStatics "thirdparty.any" = some none
  top : (P.main.scope.names.lookup ("super" : Str)).isSome = false

/-- the context of such an __init__ -/
def cxSup (CX : CXT) (P : Program) (w : World) (K : PySem.W.Frag) (mg : Str → Option Value) (base : Heap) (N : List Str) (qual : Str) (scope : Scope) (f cda cc : Addr) (A : Around) (outer : List Env) (s : Shared) (H : Hp) (E : XK) : Cx where
  prog := P
  w := w
  K := K
  mg := mg
  base := base
  A := A.deeper (PySem.W.ksEnv qual scope s.heap.objs.size f (.ref cda) cc)
  N := N
  s_0 := s
  H_0 := H
  env := PySem.W.ksEnv qual scope s.heap.objs.size f (.ref cda) cc
  outer := outer
  stack := PySem.W.ksEnv qual scope s.heap.objs.size f (.ref cda) cc :: outer
  ex := []
  calm := true
  fn := fun _ => false
  pn := []
  xe := fun e s' => wpAny (model P w) (A.deeper (PySem.W.ksEnv qual scope s.heap.objs.size f (.ref cda) cc)) (leaving (PySem.W.ksEnv qual scope s.heap.objs.size f (.ref cda) cc) e) (fun _ s'' => CX outer H s E e s'') (fun e' s'' => CX outer H s E e' s'') s'

theorem lookup_zip_rev {α : Type} : ∀ {ps : List Str} {us : List α} {i : Nat} {x : Str} {u : α}, ps.Nodup → ps[i]? = some x → us[i]? = some u → (ps.zip us).reverse.lookup x = some u
  | [], _, i, _, _, _, h, _ => by simp at h
  | _ :: _, [], i, _, _, _, _, h => by simp at h
  | p :: ps, v :: us, 0, x, u, nd, h1, h2 => by
    simp at h1 h2
    subst h1; subst h2
    rw [List.zip_cons_cons, List.reverse_cons]
    have nn : ((ps.zip us).reverse).lookup p = none := by
      rw [List.lookup_eq_none_iff]
      intro q hq
      have hq' := List.mem_reverse.mp hq
      have : q.1 ∈ ps := (List.of_mem_zip (a := q.1) (b := q.2) hq').1
      have np : p ∉ ps := (List.nodup_cons.mp nd).1
      simp only [beq_eq_false_iff_ne, ne_eq, bne_iff_ne]
      intro e
      exact np (e ▸ this)
    rw [List.lookup_append, nn]
    simp [List.lookup]
  | p :: ps, v :: us, i + 1, x, u, nd, h1, h2 => by
    have ih := lookup_zip_rev (ps := ps) (us := us) (i := i) (x := x) (u := u) (List.nodup_cons.mp nd).2 (by simpa using h1) (by simpa using h2)
    rw [List.zip_cons_cons, List.reverse_cons, List.lookup_append, ih]
    rfl

/-- the scope of such an __init__: parameters P, names N (parameters first), beside __class__ all local or global -/
structure SupScope (N P : List Str) (sc : Scope) : Prop where
  kind : sc.kind = .function
  co : sc.isCoroutine = false
  gen : sc.isGenerator = false
  nd : N.Nodup
  pre : N.take P.length = P
  par : ∀ x ∈ P, sc.names.lookup x = some .local
  nocell : ∀ y ∈ sc.names, y.2 ≠ .cell
  onlycls : ∀ y ∈ sc.names, y.2 = .free → y.1 = "__class__"
  sup : sc.names.lookup ("super" : Str) = some .globalImplicit
  cls : sc.names.lookup ("__class__" : Str) = some .free

section
variable {CX : CXT} {P : Program} {w : World} {K : PySem.W.Frag} {mg : Str → Option Value} {base : Heap} {N ps : List Str} {qual : Str} {scope : Scope} {f cda cc C : Addr} {A : Around} {outer : List Env} {s : Shared} {H : Hp} {E : XK}

theorem inv_sup {us : List Value} {vs : List V} {h1 : Heap} {tk : Nat} (S : SupScope N ps scope) (T : SupC P K C cda cc) (hd : A.handled = none) (e0 : Env0 P w K mg base A outer s H) (hl : vs.length = ps.length) (r : Vals vs us)
    (hn : h1.Ns s.heap.objs.size (fun x => (ps.zip us).reverse.lookup x)) (hk : ∀ b o, s.heap.get? b = some o → h1.get? b = some o) :
    Inv (cxSup CX P w K mg base N qual scope f cda cc A outer s H E) [] (L2.start N vs) H { s with heap := h1, toks := tk } := by
  have hpl : ps.length ≤ N.length := by have := congrArg List.length S.pre; rw [List.length_take] at this; omega
  have noA : ∀ b : Addr, b ∉ (cxSup CX P w K mg base N qual scope f cda cc A outer s H E).ex := fun b z => absurd (show b ∈ ([] : List Addr) from z) (by simp)
  obtain ⟨cl, cld, csl, hcell⟩ := T.cell
  have bcell : base.get? cc = some ⟨cl, cld, .cell (some (.ref C)), csl⟩ := e0.mod.kin _ _ hcell
  have look1 : ∀ {x : Str} {c : Addr}, ([("__class__", cc)] : List (Str × Addr)).lookup x = some c → x = "__class__" ∧ c = cc := fun {x c} h => by
    by_cases hx : x = "__class__"
    · subst hx
      simp [List.lookup] at h
      exact ⟨rfl, h.symm⟩
    · have : (x == ("__class__" : Str)) = false := by simpa using hx
      simp [List.lookup, this] at h
  refine ⟨⟨e0.mod, S.kind, rfl, rfl, Nat.le_refl _, fun y z c h1 h2 => ?_, fun y hy => ?_, fun y c z _ => absurd z (by simp [cxSup]), fun _ => hd, Around.frames_deeper e0.frames, .inr ⟨rfl, rfl⟩, fun b z => absurd z (noA b), e0.bs, e0.bsz, fun b _ _ => noA b, fun b z => absurd z (noA b), e0.funs, e0.frf⟩,
    rfl, e0.bare, Un.kept hk, ⟨_, hn, fun i y v h1 h2 h3 => ?_⟩, fun y c h => ?_, e0.hok.fresh (Nat.le_refl _), fun y c h => ?_, fun p hp => absurd (show p ∈ ([] : List (Addr × Obj)) from hp) (by simp), e0.hok.kept hk, ?_⟩
  · exact (look1 h1).1.trans (look1 h2).1.symm
  · have hy : scope.names.lookup y = some .cell ∨ scope.names.lookup y = some .free := hy
    rcases hy with hy | hy
    · exact absurd rfl (S.nocell _ (PySem.mem_of_lookup hy))
    · have e := S.onlycls _ (PySem.mem_of_lookup hy) rfl
      have e' : y = "__class__" := e
      subst e'
      exact ⟨cc, by simp [cxSup, List.lookup]⟩
  · have hi : i < vs.length := by
      unfold L2.start at h2
      by_cases hi : i < vs.length
      · exact hi
      · rw [List.getElem?_append_right (by simpa using hi)] at h2
        rw [List.getElem?_replicate] at h2
        split at h2 <;> cases h2
    have ha : vs[i]? = some v := by
      unfold L2.start at h2
      rw [List.getElem?_append_left (by simpa using hi), List.getElem?_map] at h2
      cases e : vs[i]? with
      | none => rw [e] at h2; cases h2
      | some a => rw [e] at h2; cases h2; rfl
    obtain ⟨u, hu, rv⟩ := r.get ha
    have hp : ps[i]? = some y := by
      rw [← S.pre, List.getElem?_take_of_lt (by omega)]; exact h1
    have ndP : ps.Nodup := by rw [← S.pre]; exact S.nd.sublist (List.take_sublist _ _)
    exact ⟨u, rv, .inl ⟨S.par y (List.mem_of_getElem? hp), lookup_zip_rev ndP hp hu⟩⟩
  · obtain ⟨_, rfl⟩ := look1 h
    exact ⟨_, _, hk _ _ (e0.bs _ _ bcell).1, rfl⟩
  · obtain ⟨_, rfl⟩ := look1 h
    exact (e0.bs _ _ bcell).2
  · unfold L2.start
    show _ = N.length
    rw [List.length_append, List.length_map, List.length_replicate]
    omega

/-- super().__init__(text), the first statement -/
theorem sup_stmt {us : List Value} {vs : List V} {body : List Stmt} {p0 p1 p2 p3 pos pos2 : Pos} {j : _} {txt : Str} {fd : FuncData} {oc : Value} {od : Option Addr} {osl : Array (Option Value)} {ar : Arg} {x : Addr} {h1 : Heap} {tk : Nat} {Q : Flow → Shared → Prop} {E' : Value → Shared → Prop}
    (S : SupScope N ps scope) (T : SupC P K C cda cc) (lk : K.lookup f = some ⟨oc, od, .func fd, osl⟩) (hp : (fd.params.posonlyargs ++ fd.params.args).head? = some ar) (hps : ps.head? = some ar.arg) (hus : us.head? = some (.ref x))
    (hms : mg "super" = none) (e0 : Env0 P w K mg base A outer s H) (hd : A.handled = none) (hl : vs.length = ps.length) (r : Vals vs us) (hx : H x = some (exo x C none))
    (hn : h1.Ns s.heap.objs.size (fun x => (ps.zip us).reverse.lookup x)) (hk : ∀ b o, s.heap.get? b = some o → h1.get? b = some o)
    (hq : ∀ s', Inv (cxSup CX P w K mg base N qual scope f cda cc A outer s H E) [] (L2.start N vs) H s' → Q .next s') {pl : Sem Bool}
    (he : ∀ env : Env, env.scope = scope → eval (.Call (.Attribute (.Call (.Name "super" p0) [] [] p1) "__init__" p2) [.Constant (.str txt) j p3] [] pos) env = (do
      let ov ← attributeBase (.Call (.Name "super" p0) [] [] p1) "__init__" env (eval (.Call (.Name "super" p0) [] [] p1) env)
      standAt p2.atName
      let (g, first) ← holding [ov] (getMethod ov "__init__" pl)
      callWith pos g first (backTo pos (starEach [.Constant (.str txt) j p3] env)) []))
    (hi : ∀ env : Env, env.scope = scope → interactive env = false)
    (hs : ∀ env : Env, env.scope = scope → swapsWith (.Call (.Attribute (.Call (.Name "super" p0) [] [] p1) "__init__" p2) [.Constant (.str txt) j p3] [] pos) none pos2.line env = pure false) :
    PySem.wpAt (model P w) (A.deeper (PySem.W.ksEnv qual scope s.heap.objs.size f (.ref cda) cc)) (.func body (PySem.W.ksEnv qual scope s.heap.objs.size f (.ref cda) cc))
      (exec (.Expr (.Call (.Attribute (.Call (.Name "super" p0) [] [] p1) "__init__" p2) [.Constant (.str txt) j p3] [] pos) pos2) (PySem.W.ksEnv qual scope s.heap.objs.size f (.ref cda) cc)) Q E' { s with heap := h1, toks := tk } := by
  have I : Inv (cxSup CX P w K mg base N qual scope f cda cc A outer s H E) [] (L2.start N vs) H { s with heap := h1, toks := tk } := inv_sup S T hd e0 hl r hn hk
  obtain ⟨nm, q, NN, bs, bm, sn, sub, ab, col, dd, k0, k1, k2, k3, k5, hC, hbm⟩ := T.ox.cls
  obtain ⟨ccl, cdd, cvs, ccs, file, tf, hcode, hvs, hfile⟩ := T.code
  obtain ⟨cl, cld, csl, hcell⟩ := T.cell
  obtain ⟨t1, ho⟩ := exo_at I.hok hx
  have kin : K.In h1 := I.kIn
  obtain ⟨mb, hb1, hb2⟩ := e0.mod.blt
  have bk : ∀ b o, base.get? b = some o → h1.get? b = some o := I.bk
  have xps : ps.Nodup := by rw [← S.pre]; exact S.nd.sublist (List.take_sublist _ _)
  have lself : (ps.zip us).reverse.lookup ar.arg = some (.ref x) := by
    refine lookup_zip_rev (i := 0) xps ?_ ?_
    · rw [← List.head?_eq_getElem?]; exact hps
    · rw [← List.head?_eq_getElem?]; exact hus
  have hself : scope.names.lookup ar.arg = some .local := S.par _ (List.mem_of_head? hps)
  refine ks_wpAt_Expr_any (ks_wpAt_MethodCall ?_ (he _ rfl)) (hi _ rfl) (hs _ rfl)
  obtain ⟨hp0, g, d, t, os⟩ := s
  dsimp only at *
  refine ks_wpAt_super_base (env := PySem.W.ksEnv qual scope hp0.objs.size f (.ref cda) cc) S.sup S.cls (by decide) rfl (kin _ _ lk) rfl hp rfl (kin _ _ hcode) rfl hvs hfile T.top ?_
  refine PySem.W.ks_loadName_global S.kind S.sup (Calls.loadGlobal_builtin (env := PySem.W.ksEnv qual scope hp0.objs.size f (.ref cda) cc) (e0.mod.glob.keeps bk) hms (hb1.keeps bk) ((hb2 _ (by decide +kernel)).trans (by first | boot_by_name | rfl | kernel_rfl)) ⟨rfl, ?_⟩)
  refine wpAny_loadName_free S.kind S.cls rfl ⟨_, kin _ _ hcell, rfl⟩ ?_
  refine wpAny_loadName_local S.kind hself hn lself ?_
  refine ks_wpAny_isType_cls (kin _ _ hC) rfl ⟨rfl, ?_⟩
  refine ks_wpAny_call_super (kin _ _ hC) rfl ho rfl (fun c e => by cases e) (PySem.W.looks_mroIn kin T.mro) (fun h2 e2 k2' => ?_)
  have I2 : Inv (cxSup CX P w K mg base N qual scope f cda cc A outer ⟨hp0, g, d, t, os⟩ H E) [] (L2.start N vs) H ⟨h2, g, d, tk, os⟩ := I.kept (t' := tk) k2'
  have kin2 : K.In h2 := I2.kIn
  obtain ⟨t2, ho2⟩ := exo_at I2.hok hx
  have clsC : PySem.W.clsIn K C = some { name := nm, bases := bs, mro := .ref C :: bm, ns := NN, qualname := q, hasDict := true, slotNames := sn, subclasses := sub, abstract := ab, collection := col, hasDel := false } := by unfold PySem.W.clsIn; rw [hC] <;> rfl
  have hal : PySem.W.alongIn K "__init__" bm = some (some (.builtin "ValueError.__init__")) := by
    have e := T.sup
    unfold PySem.W.ks_superIn at e
    rw [clsC, Option.bind_some] at e
    have e3 : ((Value.ref C :: bm).dropWhile (· != .ref C)).drop 1 = bm := by simp [List.dropWhile_cons]
    rw [show (((Value.ref C :: bm).dropWhile fun x => x != Value.ref C).drop 1) = bm from e3] at e
    exact e
  have IA : PySem.W.InstAt h2 x (HandSPX.excO C t2) C none := ⟨ho2, rfl, rfl, trivial⟩
  have hInst : PySem.W.Looks (model P w) h2 (isInstance (.ref x) (.type "ValueError")) true := IA.type.andThen (PySem.W.looks_subIn kin2 T.ve)
  refine PySem.W.kxs_getMethod PySem.W.kxs_ValueError (D := C) (x := x) (C := C) (l₀ := .ref C :: bm) (l := bm) e2 (PySem.W.looks_opaque kin2 T.tp) (fun A Q E s k q => wpAny_bind ((PySem.W.looks_clsIn kin2 clsC) A _ E s k (wpAny_pure q))) (by simp [List.dropWhile_cons]) kin2 hal hInst (PySem.W.ks_ne kin2 IA clsC) (by decide) ?_
  have I3 : Inv (cxSup CX P w K mg base N qual scope f cda cc A outer ⟨hp0, g, d, t, os⟩ H E) [] (L2.start N vs) H ⟨h2.push (PySem.W.kxs_mw "ValueError.__init__" x), g, d, tk + 1, os⟩ := I2.kept (t' := tk + 1) fun b o e => Heap.get?_push_of_some _ e
  have hu : (h2.push (PySem.W.kxs_mw "ValueError.__init__" x)).get? h2.objs.size = some (PySem.W.kxs_mw "ValueError.__init__" x) := Heap.get?_push_at rfl rfl
  obtain ⟨t3, ho3⟩ := exo_at I3.hok hx
  have kin3 : K.In (h2.push (PySem.W.kxs_mw "ValueError.__init__" x)) := I3.kIn
  show wpAny _ _ (callWith pos (.ref h2.objs.size) [] _ []) _ _ _
  refine PySem.W.kxs_callWith (i := "ValueError.__init__") (x := x) rfl ?_
  have hst : backTo pos (starEach [Expr.Constant (.str txt) j p3] (PySem.W.ksEnv qual scope hp0.objs.size f (.ref cda) cc)) = [(false, eval (.Constant (.str txt) j p3) (PySem.W.ksEnv qual scope hp0.objs.size f (.ref cda) cc))] := by rfl
  rw [hst]
  refine Calls.evalArgs_plain (Calls.spliced_cons (Calls.Constant_str (Calls.spliced_nil ?_)))
  refine ⟨hu, ?_⟩
  show wpAny _ _ (call (.ref h2.objs.size) [_]) _ _ _
  refine bound_init PySem.F.excBase_ValueError (kin3 _ _ hC) hu ho3 (by show 1 ≤ sizeLine; rw [sizeLine_eq]; decide) fun h4 t4 k4 e4 => hq _ ?_
  have J := I3.write (t' := tk + 1 + 1) (x := x) (e := x) (o := exo x C none) (by rw [hx]; exact True.intro) (.inl rfl) k4 ⟨_, e4⟩ (exo_ok e4)
  have eu : upd H x (exo x C none) = H := by
    funext b
    by_cases hb : b = x
    · rw [hb, upd_same, hx]
    · rw [upd_ne hb]
  rw [eu] at J
  exact J

/-- THE RULE: an __init__ whose body is super().__init__(text), then rest -/
theorem fn_sup {k : Nat} {params : Arguments} {rest : List Stmt} {p0 p1 p2 p3 pos pos2 : Pos} {j : _} {txt : Str} {dV kV doc pm ct oc : Value} {an od : Option Addr} {osl : Array (Option Value)} {ar : Arg} {sp : Sp}
    (S : SupScope N ps scope) (T : SupC P K C cda cc)
    (lk : K.lookup f = some ⟨oc, od, .func (PySem.W.ksFn "__init__" qual params (.Expr (.Call (.Attribute (.Call (.Name "super" p0) [] [] p1) "__init__" p2) [.Constant (.str txt) j p3] [] pos) pos2 :: rest) scope dV kV doc pm an (.ref cda) ct cc), osl⟩)
    (hcd : PySem.W.codeIn K (.ref cda) qual = true) (hp : (params.posonlyargs ++ params.args).head? = some ar) (hps : ps.head? = some ar.arg) (hms : mg "super" = none)
    (len : ∀ vs H Q E, sp vs H Q E → vs.length = ps.length)
    (hself : ∀ vs H Q E, sp vs H Q E → ∃ x ws, vs = .ref x :: ws ∧ H x = some (exo x C none)) {pl : Sem Bool}
    (he : ∀ env : Env, env.scope = scope → eval (.Call (.Attribute (.Call (.Name "super" p0) [] [] p1) "__init__" p2) [.Constant (.str txt) j p3] [] pos) env = (do
      let ov ← attributeBase (.Call (.Name "super" p0) [] [] p1) "__init__" env (eval (.Call (.Name "super" p0) [] [] p1) env)
      standAt p2.atName
      let (g, first) ← holding [ov] (getMethod ov "__init__" pl)
      callWith pos g first (backTo pos (starEach [.Constant (.str txt) j p3] env)) []))
    (hi : ∀ env : Env, env.scope = scope → interactive env = false)
    (hs : ∀ env : Env, env.scope = scope → swapsWith (.Call (.Attribute (.Call (.Name "super" p0) [] [] p1) "__init__" p2) [.Constant (.str txt) j p3] [] pos) none pos2.line env = pure false)
    (hbody : ∀ (A : Around) (outer : List Env) (s : Shared) (H : Hp) (vs : List V) (Q : VK) (E : XK), Room k (A.deeper (PySem.W.ksEnv qual scope s.heap.objs.size f (.ref cda) cc)) → sp vs H Q E →
      ∃ t, PSs (cxSup CX P w K mg base N qual scope f cda cc A outer s H E) rest t ∧ t { nx := fun _ H' => Q .non H', rt := Q } (L2.start N vs) H) :
    FnOk P w K mg base CX (k + 1) f (PySem.W.ksFn "__init__" qual params (.Expr (.Call (.Attribute (.Call (.Name "super" p0) [] [] p1) "__init__" p2) [.Constant (.str txt) j p3] [] pos) pos2 :: rest) scope dV kV doc pm an (.ref cda) ct cc) ps sp := by
  refine ⟨len, fun A outer s H args us vs Q E hr e0 hb r hsp => ?_⟩
  have hl := len _ _ _ _ hsp
  obtain ⟨x, ws, evs, hx⟩ := hself _ _ _ _ hsp
  have KX : K.In s.heap := e0.mod.kin.keeps fun b o e => (e0.bs b o e).1
  have lim : s.heap.NoLimit := e0.mod.nolimit.keeps fun b o e => (e0.bs b o e).1
  have hus : us.head? = some (.ref x) := by
    subst evs
    cases r with
    | cons rv _ =>
      obtain rfl := rv
      rfl
  refine ks_codeAny_call_defAt hr.depth (KX _ _ lk) rfl lim (PySem.W.codeRec_of KX hcd) rfl hb S.nocell (fun y hy => S.par _ (List.of_mem_zip hy).1) (fun h1 hn hk => ?_) S.co S.gen S.kind
  refine ks_wpAt_execs_cons ?_
  refine sup_stmt (CX := CX) (E := E) (vs := vs) (us := us) (mg := mg) (base := base) (H := H) S T lk hp hps hus hms e0 hr.hd hl r hx hn hk (fun s1 I => ?_) he hi hs
  obtain ⟨t, ht, hq⟩ := hbody A outer s H vs Q E (hr.deeper _) hsp
  refine wpAt_of_wpAny (wpAny_mono (ht.run [] s1 (L2.start N vs) H _ I hq) (fun fl s' hs => ?_) fun e s' hs => hs)
  have fin : ∀ {σ' : L2.St} {H' : Hp} {v : V} {u : Value}, Inv (cxSup CX P w K mg base N qual scope f cda cc A outer s H E) [] σ' H' s' → RelV v u → Q v H' → CE outer P w H s Q u s' :=
    fun {σ' H' v u} J rv q => ⟨v, H', J.os, J.bare, J.base, J.hok, rv, q⟩
  cases fl with
  | ret u =>
    obtain ⟨v, σ', H', J, rv, q⟩ := hs
    exact fin J rv q
  | next =>
    obtain ⟨σ', H', J, q⟩ := hs
    exact fin (v := V.non) (u := Value.none) J rfl q
  | brk =>
    obtain ⟨_, _, _, q⟩ := hs
    exact False.elim q
  | cont =>
    obtain ⟨_, _, _, q⟩ := hs
    exact False.elim q
end
end Nd
/-! Raising an own error with a clean reading; several clauses «except X as e»; isinstance of the caught error. -/
namespace Nd
open PySem PySem.Spec PyProof.Rows L2

/-! ### a reading closed upwards -/
def cloA (ta : TA) : TA := fun σ H Q => ∃ R : List V → Hp → Prop, ta σ H R ∧ ∀ vs H1, R vs H1 → Q vs H1
theorem pa_clo {X : Cx} {es : List Expr} {ta : TA} (h : PA X es ta) : PA X es (cloA ta) := ⟨fun pos pins s σ H Q I ⟨R, hr, hq⟩ =>
  thn (h.run pos pins s σ H R I hr) fun us s1 ⟨vs, H1, I1, r, q⟩ => ⟨vs, H1, I1, r, hq vs H1 q⟩⟩

/-! ### the heap behind C(..) -/
theorem heap_made {H : Hp} {a d : Addr} {C : Addr} {o1 o2 o3 o4 : HO} (ha : H a = none) : upd (del (upd (upd (upd H a o1) d o2) a o3) a) d o4 = upd H d o4 := by
  funext b
  by_cases hb : b = d
  · rw [hb, upd_same, upd_same]
  · rw [upd_ne hb, upd_ne hb]
    by_cases hba : b = a
    · rw [hba, del_same, ha]
    · rw [del_ne hba, upd_ne hba, upd_ne hb, upd_ne hba]

/-- the promise of an __init__ that stores its parameters, each in a field: fs vs says which -/
def spIni (C : Addr) (fs : List V → Option (List (Str × V))) : Sp := fun vs H Q _ => ∃ (x : Addr) (ws : List V) (fv : List (Str × V)), vs = .ref x :: ws ∧ fs ws = some fv ∧ H x = some (exo x C none) ∧
  ∀ d, H d = none → d ≠ x → Q .non (upd (upd H d (exd d fv)) x (exo x C (some d)))

/-- C(e, ..): the class, a new dict that holds the fields -/
def tMk (C : Addr) (fs : List V → Option (List (Str × V))) (ta : TA) : L2.St → Hp → XK → Prop := fun σ H Q => ta σ H fun vs H1 => vs.length ≤ 1000 ∧ ∃ fv, fs vs = some fv ∧ ∀ d, H1 d = none → Q (.ref C) (some d) (upd H1 d (.xd fv))

/-- what the text must say of an error class named x, at C, its __init__ at fI keeping spIni -/
structure ErrC (P : Program) (w : World) (K : PySem.W.Frag) (mg : Str → Option Value) (base : Heap) (k : Nat) (C fI : Addr) (fdI : FuncData) (psI : List Str) (fs : List V → Option (List (Str × V))) (x : Str) : Prop where
  ox : OexC K C
  iC : PySem.W.findIn K (.ref C) "__init__" = some (some (.ref fI))
  tI : PySem.W.typeIn K (.ref fI) = some (.type "function")
  fn : FnOk P w K mg base CX0 k fI fdI psI (spIni C fs)
  b : Binds K fdI psI []
  g : mg x = some (.ref C)

theorem pmk_err {X : Cx} {k : Nat} {C fI : Addr} {fdI : FuncData} {psI : List Str} {fs : List V → Option (List (Str × V))} {x : Str} {p pos : Pos} {e : Expr} {es : List Expr} {ta : TA} (T : ErrC X.prog X.w X.K X.mg X.base k C fI fdI psI fs x) (hr : Room (k + 1) X.A) (ha : PA X (e :: es) ta) (hg : Gl X x := by rfl)
    (hdb : (x == ("__debug__" : Str)) = false := by decide) (he : starEach (e :: es) X.env = (false, eval e X.env) :: starEach es X.env := by rfl) (hpl : (backTo pos (starEach es X.env)).any (·.1) = false := by rfl) :
    PMk X (.Call (.Name x p) (e :: es) [] pos) (tMk C fs ta) := by
  intro pins s σ H Q I h
  refine pmk_oex (dvs := []) (ds := []) T.ox T.iC T.tI T.fn hr T.b .nil pass0 hg T.g (pa_clo ha) hdb he hpl pins s σ H Q I ?_
  refine ⟨_, h, fun vs H1 q => ?_⟩
  obtain ⟨hl, fv, hf, q⟩ := q
  refine ⟨hl, fun a na => ⟨a, vs, fv, by rw [List.append_nil], hf, upd_same, fun d nd hda => ?_⟩⟩
  have nd1 : H1 d = none := by rw [upd_ne hda] at nd; exact nd
  refine ⟨rfl, d, fv, upd_same, ?_, nd1, ?_⟩
  · rw [upd_ne hda, upd_same]
  · rw [heap_made (C := C) na]
    exact q d nd1
/-- raise C(e, ..) -/
def tRais (C : Addr) (fs : List V → Option (List (Str × V))) (W : WX) (ta : TA) : TS := fun _ σ H => tMk C fs ta σ H fun cls d H' => W cls d σ H'
theorem ps_err {X : Cx} {k : Nat} {C fI : Addr} {fdI : FuncData} {psI : List Str} {fs : List V → Option (List (Str × V))} {x : Str} {p pos pos2 : Pos} {e : Expr} {es : List Expr} {ta : TA} {W : WX} (hc : X.calm = true) (T : ErrC X.prog X.w X.K X.mg X.base k C fI fdI psI fs x) (hr : Room (k + 1) X.A) (tk : Takes X W) (ha : PA X (e :: es) ta) (hg : Gl X x := by rfl)
    (hdb : (x == ("__debug__" : Str)) = false := by decide) (he : starEach (e :: es) X.env = (false, eval e X.env) :: starEach es X.env := by rfl) (hpl : (backTo pos (starEach es X.env)).any (·.1) = false := by rfl) :
    PS X (.Raise (some (.Call (.Name x p) (e :: es) [] pos)) none pos2) (tRais C fs W ta) := ps_raise hc tk (pmk_err T hr ha hg hdb he hpl)

/-! ### isinstance(e, ..), e the caught error -/
structure IsC (K : PySem.W.Frag) (C : Addr) : Prop where
  cl : (PySem.W.clsIn K C).isSome = true
  ga : PySem.W.findIn K (.ref C) "__getattribute__" = some (some (.builtin "BaseException.__getattribute__"))
  gt : PySem.W.findIn K (.ref C) "__getattr__" = some none
  sb : PySem.W.subIn K (.ref C) (.type "BaseException") = some true
  ca : PySem.W.findIn K (.ref C) "__class__" = some (some (.builtin "object.__class__"))
  cg : PySem.W.specialIn K (.builtin "object.__class__") "__get__" = some (some (.builtin "getset_descriptor.__get__"))
  ct : PySem.W.takesIn K (.builtin "object.__class__") = some true
  mo : PySem.W.mroIn K C (.type "object") = some true
/-- isinstance(e, c); e lies at a, its class cls, its dict d -/
def rIsX (K : PySem.W.Frag) (a : Addr) (cls : Value) (d : Option Addr) : List V → Hp → VK → Prop := fun xs H Q => ∃ (D : Addr) (dd : Addr) (fv : List (Str × V)) (c : V), xs = [.ref a, c] ∧ cls = .ref D ∧ IsC K D ∧ d = some dd ∧ H dd = some (.xd fv) ∧
  ((∃ (u : Value) (b : Bool), ClsV c u ∧ PySem.W.kitOne K (.ref D) u = some b ∧ Q (.bl b) H) ∨ (∃ (tp : Addr) (cs : List V) (us : List Value) (b : Bool), c = .ref tp ∧ H tp = some (.tup cs) ∧ Paired ClsV cs us ∧ PySem.W.kitAny K (.ref D) us = some b ∧ Q (.bl b) H))
theorem call_isX {X : Cx} {a : Addr} {cls : Value} {d : Option Addr} {oe : Obj} {pn : List (Addr × Obj)} (hz : Zc cls d oe) (hf : ∃ vs, oe.data = .fields vs) : CallR (X.suite a ((a, oe) :: pn)) (.builtin "isinstance") (rIsX X.K a cls d) := by
  intro pins s σ H xs us Q I r h
  obtain ⟨D, dd, fv, c, rfl, rfl, C, rfl, hd, q⟩ := h
  obtain ⟨u1, u2, rfl, r1, r2⟩ := vals2 r
  obtain rfl : u1 = Value.ref a := r1
  obtain ⟨hget, _⟩ := I.pin (a, oe) (List.mem_append.mpr (.inl List.mem_cons_self))
  obtain ⟨vs, hv⟩ := hf
  obtain ⟨mA, hns, _⟩ := (show ObjOk X.prog X.w H s.heap dd (.xd fv) from I.hok dd _ hd)
  obtain ⟨od, ho, _⟩ := lookIn_ns hns
  have J : PySem.W.InstAt s.heap a oe D (some od) := ⟨hget, hz.1, by unfold PySem.W.notCls; rw [hv] <;> rfl, by rw [hz.2]; exact ho⟩
  have Z := PySem.W.kitx_exc (x := a) (ox := oe) (od := some od) C.cl C.ga C.gt C.sb C.ca C.cg C.ct C.mo
  rcases q with ⟨u, b, k, e, q⟩ | ⟨tp, cs, ws, b, rfl, hT, k, e, q⟩
  · have e2 := k.eq r2
    subst e2
    exact PySem.W.kia_one Z I.kIn J e (fun z => nomatch z) fun tk => ⟨.bl b, H, I.tok tk, rfl, q⟩
  · cases (show u2 = Value.ref tp from r2)
    obtain ⟨_, its, rv, o, h1, h2, n, h3⟩ := (show ObjOk X.prog X.w H s.heap tp (.tup cs) from I.hok tp _ hT)
    have e3 := ClsV.all k rv
    subst e3
    obtain ⟨oc, od', dt, sl⟩ := o
    simp only at h2 h3
    subst h2 h3
    exact PySem.W.kia_tup Z I.kIn J h1 e (fun z => nomatch z) fun tk => ⟨.bl b, H, I.tok tk, rfl, q⟩
end Nd
/-! try: body, then several clauses «except X as n: suite». -/
namespace Nd
open PySem PySem.Spec PyProof.Rows L2

abbrev Cl := Nat × Value × (Addr → Value → Option Addr → TS)
/-- behind a suite the clause's slot is empty -/
abbrev Ends.gone (D : Ends) (i : Nat) : Ends := { nx := fun σ' H' => D.nx (σ'.set i none) H', rt := D.rt, bk := fun σ' H' => D.bk (σ'.set i none) H', ct := fun σ' H' => D.ct (σ'.set i none) H' }
/-- what the clauses wish of an error of the body, one after the other -/
def wMs (K : PySem.W.Frag) (Wout : WX) (D : Ends) : List Cl → WX
  | [] => Wout
  | (i, c, ts) :: r => fun cls d σ H => ∃ b, PySem.W.exmOne K cls c = some b ∧ (b = true → ∀ a, H a = none → ts a cls d (Ends.gone D i) (σ.set i (some (.ref a))) H) ∧ (b = false → wMs K Wout D r cls d σ H)
inductive HdAs (X : Cx) : List ExceptHandler → List Cl → Prop
  | nil : HdAs X [] []
  | cons {x n : Str} {i : Nat} {c : Value} {ts : Addr → Value → Option Addr → TS} {b₀ : Stmt} {suite : List Stmt} {np pos' : Pos} {hds : List ExceptHandler} {l : List Cl} (hi : X.N[i]? = some n) (hln : X.env.kindOf n = some .local) (hc : Names X x c)
      (hsu : ∀ (a : Addr) (oe : Obj) (cls : Value) (d : Option Addr) (pn : List (Addr × Obj)), Zc cls d oe → (∃ vs, oe.data = .fields vs) → PSs (X.suite a ((a, oe) :: pn)) (b₀ :: suite) (ts a cls d)) (r : HdAs X hds l) :
      HdAs X (.ExceptHandler (some (.Name x np)) (some n) (b₀ :: suite) pos' :: hds) ((i, c, ts) :: l)

section
variable {X : Cx} {body : List Stmt} {h₀ : ExceptHandler} {hds : List ExceptHandler} {l : List Cl} {pos : Pos} {tb : WX → TS} {Wout : WX}

/-- an error at a that flies in h3; the state without it is sI -/
structure Caught (X : Cx) (pins : List (Addr × Obj)) (σ : L2.St) (H : Hp) (sI s' : Shared) (B h3 : Heap) (a : Addr) (cls : Value) (d : Option Addr) : Prop where
  J : Inv X pins σ H sI
  nb : ∀ b o, sI.heap.get? b = some o → b ∉ frs X.stack → B.get? b = some o
  up : sI.heap.UpToSlots s'.heap
  up3 : s'.heap.UpToSlots h3
  fl : HandSPX.FlyingZ B (X.env :: X.outer) a (Zc cls d) h3
  na : H a = none
  os : s'.os = sI.os
  ag : AllBare s'.gens
section
variable {pins : List (Addr × Obj)} {σ : L2.St} {H : Hp} {sI s' : Shared} {B h3 : Heap} {a : Addr} {cls : Value} {d : Option Addr} {D : Ends}
theorem Caught.inv (c : Caught X pins σ H sI s' B h3 a cls d) {h4 : Heap} (fl : HandSPX.FlyingZ B (X.env :: X.outer) a (Zc cls d) h4) (up : s'.heap.UpToSlots h4) : Inv X pins σ H { s' with heap := h4 } := c.J.landed c.nb fl.1 (c.up.trans up) c.os c.ag
theorem Caught.apart (c : Caught X pins σ H sI s' B h3 a cls d) (hf : X.env.frame = some X.env.locals) : a ≠ X.env.locals ∧ a ∉ X.fs := by
  obtain ⟨oe, vs, he, _, hd⟩ := c.fl.there
  have out : a ∉ frs (X.env :: X.outer) := fun hm => by
    obtain ⟨_, o, e, nf⟩ := c.fl.2.2.1.mem hm
    rw [he] at e
    cases e
    exact nf _ hd
  refine ⟨fun z => out (List.mem_filterMap.mpr ⟨X.env, List.mem_cons_self, by rw [hf, z]⟩), fun hm => ?_⟩
  obtain ⟨e, he', q⟩ := List.mem_filterMap.mp hm
  exact out (List.mem_filterMap.mpr ⟨e, List.mem_cons_of_mem _ he', q⟩)
/-- the clauses, asked one after the other -/
theorem clauses_run (ok : X.Ok) (hs : X.stack = X.env :: X.outer) (hf : X.env.frame = some X.env.locals) (hN : X.N.Nodup) (tk : Takes X Wout) (c : Caught X pins σ H sI s' B h3 a cls d) {hds : List ExceptHandler} {l : List Cl} (hh : HdAs X hds l) :
    wMs X.K Wout D l cls d σ H → wpAny (model X.prog X.w) X.A (handleBy (.ref a) X.env hds) (SP X pins D) X.xe { s' with heap := h3 } := by
  have J3 := c.inv c.fl c.up3
  obtain ⟨nL, nF⟩ := c.apart hf
  induction hh with
  | nil =>
    intro w
    obtain ⟨f1, f2, f3, oe, vs, T, oT, ts', he, hz, hd, h1, hr⟩ := id c.fl
    refine wpAny_handleBy_nil ?_
    unfold PySem.passOn
    refine wpAny_bind (wpAny_field he hd h1 ?_)
    rw [if_neg (show ¬ ((Value.ref T == Value.none) = true) from by simp)]
    have flown : wpAny (model X.prog X.w) X.A (setFlight (.ref a) X.env.frame) (fun _ s4 => wpAny (model X.prog X.w) X.A (throw (.ref a) : Sem Flow) (SP X pins D) X.xe s4) X.xe { s' with heap := h3 } := by
      rw [hf]
      exact HandSPX.setFlight_upZ c.fl fun h4 hh4 up4 => wpAny_throw (tk _ _ ⟨a, B, sI, pins, σ, H, cls, d, rfl, c.J, c.nb, (c.up.trans c.up3).trans up4, .inr (.inr (by rw [hs]; exact hh4)), c.na, c.os, c.ag, w⟩)
    first
      | exact wpAny_bind (wpAny_pure (wpAny_bind flown))
      | exact wpAny_bind flown
  | @cons x n i k ts b₀ suite np pos' hds2 l2 hi hln hc hsu r ih =>
    intro w
    obtain ⟨b, hb1, yes, no⟩ := w
    obtain ⟨oe3, vs3, he3, hz3, hd3⟩ := c.fl.there
    have S3 := J3.suite he3 hd3 c.na nL nF
    refine wpAny_handleBy_cons (codeAny_handlers_test ?_) (by intro q; cases q)
    have LT : PySem.W.Looks (model X.prog X.w) h3 (typeOf (.ref a)) cls := fun A Q E s k q => wpAny_typeOf_ref (k _ _ he3) (by rw [hz3.1]; exact q)
    have LM := PySem.W.exm_one (M := model X.prog X.w) (J3.kIn) LT hb1
    have name : ∀ {Q : Value → Shared → Prop} {E : Value → Shared → Prop}, Q k { s' with heap := h3 } → wpAny (model X.prog X.w) (X.A.mark (some (.ref a))) (eval (.Name x np) X.env) Q E { s' with heap := h3 } := fun {Q E} q => by
      obtain ⟨hg, hdbg, hm | ⟨hm, hv, hnn⟩⟩ := hc
      · exact ld_glob (X := X.suite a ((a, oe3) :: (X.pn ++ pins))) S3 hg hm q hdbg
      · exact ld_blt (X := X.suite a ((a, oe3) :: (X.pn ++ pins))) S3 hg hm hv q hnn hdbg
    refine name (LM.here ?_)
    cases b with
    | false =>
      show wpAny _ X.A (handleBy (.ref a) X.env hds2) _ _ _
      exact ih (no rfl)
    | true =>
      refine codeAny_handlers_suite_as ?_
      refine HandSPX.lands_againZ c.fl fun h4 fl4 up4 => ?_
      have J4 := c.inv fl4 (c.up3.trans up4)
      obtain ⟨oe4, vs4, he4, hz4, hd4⟩ := fl4.there
      have S4 := J4.suite he4 hd4 c.na nL nF
      refine store_ok (X := X.suite a ((a, oe4) :: (X.pn ++ pins))) (v := .ref a) S4 hN hi (.inl hln) rfl (fun s5 S5 => ?_) (.inr hln)
      refine wpAny_mono ((hsu a oe4 cls d (X.pn ++ pins) hz4 ⟨_, hd4⟩).run [] s5 _ H _ S5 (yes rfl a c.na)) (fun f s6 hsp => ?_) (fun _ _ z => False.elim z)
      have goes : ∀ {σ6 : L2.St} {H6 : Hp} {Q : Shared → Prop}, Inv (X.suite a ((a, oe4) :: (X.pn ++ pins))) [] σ6 H6 s6 → (∀ s7, Inv X pins (σ6.set i none) H6 s7 → Q s7) →
          wpAny (model X.prog X.w) X.A (do bindName X.env n .none; unbindBehindTheSuite X.env n pos') (fun _ s7 => Q s7) X.xe s6 := fun {σ6 H6 Q} S6 hq => gone_ok (S6.unsuite ok) hN hi hln hq
      cases f with
      | next => obtain ⟨σ6, H6, S6, q6⟩ := hsp; exact goes S6 fun s7 J7 => ⟨_, _, J7, q6⟩
      | brk => obtain ⟨σ6, H6, S6, q6⟩ := hsp; exact goes S6 fun s7 J7 => ⟨_, _, J7, q6⟩
      | cont => obtain ⟨σ6, H6, S6, q6⟩ := hsp; exact goes S6 fun s7 J7 => ⟨_, _, J7, q6⟩
      | ret u => obtain ⟨v6, σ6, H6, S6, r6, q6⟩ := hsp; exact goes S6 fun s7 J7 => ⟨_, _, _, J7, r6, q6⟩
end
theorem ps_try_ms (hs : X.stack = X.env :: X.outer) (hf : X.env.frame = some X.env.locals) (hN : X.N.Nodup) (tk : Takes X Wout)
    (hb : ∀ (W : WX) (pn : List (Addr × Obj)) (xe : Value → Shared → Prop), Takes (X.tr pn xe) W → PassesOwn (model X.prog X.w) X.A X.env xe → PSs (X.tr pn xe) body (tb W))
    (hh : HdAs X (h₀ :: hds) l) : PS X (.Try body (h₀ :: hds) [] [] pos) (fun D σ H => tb (wMs X.K Wout D l) D σ H) := by
  refine ⟨fun pins s σ H D I h => ?_⟩
  have ok := I.ok
  refine wpAny_Try_except ?_
  refine wpAny_mono ((hb (wMs X.K Wout D l) (X.pn ++ pins) (fun e s₁ => wpAny (model X.prog X.w) X.A (noteFrame e X.env) (fun _ s₂ => wpAny (model X.prog X.w) X.A (setFlight e none) (fun _ s₃ =>
    wpAny (model X.prog X.w) X.A (handleBy e X.env (h₀ :: hds)) (SP X pins D) X.xe s₃) X.xe s₂) X.xe s₁) (fun u s' xx => ?_) PassesOwn.looking).run [] s σ H D (I.toTry _) h) (fun f s1 hsp => ?_) (fun e s1 he => he)
  · obtain ⟨a, B, sI, pins', σ', H', cls, d, rfl, J', nb, up, sky, na, os, ag, w⟩ := xx
    have sky' : Sky B (X.env :: X.outer) a (Zc cls d) X.env.locals s'.heap := by rw [← hs]; exact sky
    show wpAny (model X.prog X.w) X.A (noteFrame (.ref a) X.env) _ _ _
    refine Sky.land Zc.steady (by rw [ok.frames, hs]) hf sky' fun h3 fl3 up3 => ?_
    exact clauses_run ok hs hf hN tk ⟨J'.ofTry ok, nb, up, up3, fl3, na, os, ag⟩ hh w
  · cases f with
    | next => obtain ⟨σ', H', J', q⟩ := hsp; exact wpAny_execs_nil ⟨σ', H', J'.ofTry ok, q⟩
    | brk => obtain ⟨σ', H', J', q⟩ := hsp; exact ⟨σ', H', J'.ofTry ok, q⟩
    | cont => obtain ⟨σ', H', J', q⟩ := hsp; exact ⟨σ', H', J'.ofTry ok, q⟩
    | ret u => obtain ⟨v, σ', H', J', r, q⟩ := hsp; exact ⟨v, σ', H', J'.ofTry ok, r, q⟩
end
end Nd
/-! Defs by name; defs that may be called anywhere (within an except suite too); lists or tuples walked. -/
namespace Nd
open PySem PySem.Spec PyProof.Rows L2

section
variable {P : Program} {w : World} {K : PySem.W.Frag} {mg : Str → Option Value} {base : Heap}

/-- the def x stands at the module's top with this body -/
structure DefAt (K : PySem.W.Frag) (mg : Str → Option Value) (x : Str) (st : Stmt) (ps : List Str) : Prop where
  ex : ∃ f fd, Fun K x x st f fd ∧ mg x = some (.ref f) ∧ Binds K fd ps []
/-- the def x keeps a promise -/
structure Has (P : Program) (w : World) (K : PySem.W.Frag) (mg : Str → Option Value) (base : Heap) (k : Nat) (x : Str) (ps : List Str) (sp : Sp) : Prop where
  ex : ∃ f fd, FnOk P w K mg base (L2.CX P w) k f fd ps sp ∧ mg x = some (.ref f) ∧ PySem.W.keepIn K (.ref f) = true ∧ Binds K fd ps []
theorem Has.imp {k : Nat} {x : Str} {ps : List Str} {sp sp' : Sp} (h : Has P w K mg base k x ps sp) (i : ∀ vs H Q E, sp' vs H Q E → sp vs H Q E) : Has P w K mg base k x ps sp' := by
  obtain ⟨f, fd, F, a, b, c⟩ := h.ex
  exact ⟨f, fd, F.imp i, a, b, c⟩
/-- by its body -/
theorem DefAt.has {x : Str} {st : Stmt} {N ps : List Str} {k : Nat} {sp : Sp} (D : DefAt K mg x st ps) (S : FnScope N ps (defScope st)) (len : ∀ vs H Q E, sp vs H Q E → vs.length = ps.length)
    (hbody : ∀ (f : Addr) (cdv : Value) (A : Around) (outer : List Env) (s : Shared) (H : Hp) (vs : List V) (Q : VK) (E : XK), Room k (A.deeper (envOfC x (defScope st) s.heap.objs.size f cdv)) → sp vs H Q E →
      ∃ t, PSs (cxOf (L2.CX P w) P w K mg base N x (defScope st) f cdv A outer s H E) (defBody st) t ∧ t { nx := fun _ H' => Q .non H', rt := Q } (L2.start N vs) H) : Has P w K mg base (k + 1) x ps sp := by
  obtain ⟨f, fd, F, hm, hb⟩ := D.ex
  exact ⟨f, fd, F.okX S len fun cdv A outer s H vs Q E hr h => hbody f cdv A outer s H vs Q E hr h, hm, F.kp, hb⟩

/-! ### room without a word on what is handled -/
structure RoomA (k : Nat) (A : Around) : Prop where
  dp : A.depth + 3 * k + 5 < recursionLimit
  un : A.units + 16 * k + 200 < cLine
theorem RoomA.of {k : Nat} {A : Around} (r : Room k A) : RoomA k A := ⟨r.dp, r.un⟩
theorem RoomA.mono {j k : Nat} {A : Around} (r : RoomA k A) (h : j ≤ k) : RoomA j A := ⟨by have := r.dp; omega, by have := r.un; omega⟩
theorem RoomA.deeper {k : Nat} {A : Around} (r : RoomA (k + 1) A) (env : Env) : RoomA k (A.deeper env) :=
  ⟨by have := r.dp; show A.depth + 1 + 3 * k + 5 < _; omega, by have := r.un; show A.units + 3 + 16 * k + 200 < _; omega⟩
theorem RoomA.depth {k : Nat} {A : Around} (r : RoomA k A) : A.depth < recursionLimit := by have := r.dp; omega
theorem RoomA.units {k : Nat} {A : Around} (r : RoomA k A) : A.units + 64 < cLine := by have := r.un; omega
/-- in an except suite there is the same room -/
theorem RoomA.suite {k : Nat} {A : Around} (r : Room k A) (v : Option Value) : RoomA k (A.mark v) := ⟨r.dp, r.un⟩

/-- a def that raises nothing, called anywhere -/
structure FnA (P : Program) (w : World) (K : PySem.W.Frag) (mg : Str → Option Value) (base : Heap) (k : Nat) (f : Addr) (fd : FuncData) (ps : List Str) (sp : Sp) : Prop where
  len : ∀ vs H Q E, sp vs H Q E → vs.length = ps.length
  run : ∀ (A : Around) (outer : List Env) (s : Shared) (H : Hp) (args : Args) (us : List Value) (vs : List V) (Q : VK) (E : XK), RoomA k A → Env0 P w K mg base A outer s H → BindsTo s fd args (ps.zip us) → Vals vs us → sp vs H Q E →
    codeAny (model P w) A (.call (.ref f) args) (CR CX0 outer P w H s Q E) s
structure HasA (P : Program) (w : World) (K : PySem.W.Frag) (mg : Str → Option Value) (base : Heap) (k : Nat) (x : Str) (ps : List Str) (sp : Sp) : Prop where
  ex : ∃ f fd, FnA P w K mg base k f fd ps sp ∧ mg x = some (.ref f) ∧ PySem.W.keepIn K (.ref f) = true ∧ Binds K fd ps []
theorem HasA.has {k : Nat} {x : Str} {ps : List Str} {sp : Sp} (h : HasA P w K mg base k x ps sp) : Has P w K mg base k x ps sp := by
  obtain ⟨f, fd, F, a, b, c⟩ := h.ex
  refine ⟨f, fd, ⟨F.len, fun A outer s H args us vs Q E hr he hb hv hs => codeAny_mono (F.run A outer s H args us vs Q E (.of hr) he hb hv hs) fun r s' q => ?_⟩, a, b, c⟩
  cases r with
  | error e => exact False.elim q
  | ok fl => cases fl <;> exact q
/-- the context of its body -/
def cxA (P : Program) (w : World) (K : PySem.W.Frag) (mg : Str → Option Value) (base : Heap) (N : List Str) (qual : Str) (scope : Scope) (f : Addr) (cd : Value) (A : Around) (outer : List Env) (s : Shared) (H : Hp) : Cx :=
  { cxOf CX0 P w K mg base N qual scope f cd A outer s H (fun _ _ _ => False) with calm := false, xe := fun _ _ => False }
theorem inv_A {N ps : List Str} {qual : Str} {scope : Scope} {f : Addr} {cd : Value} {A : Around} {outer : List Env} {s s1 : Shared} {H : Hp} {us : List Value} {vs : List V}
    (S : FnScope N ps scope) (e0 : Env0 P w K mg base A outer s H) (hl : vs.length = ps.length) (r : Vals vs us)
    (x : InCallC s s.heap.objs.size (bindL (envOfC qual scope s.heap.objs.size f cd).kindOf (ps.zip us) fun _ => none) (cellsFrom (s.heap.objs.size + 1) scope.names []) (bindC (envOfC qual scope s.heap.objs.size f cd).kindOf (ps.zip us) fun _ => none) s1) :
    Inv (cxA P w K mg base N qual scope f cd A outer s H) [] (L2.start N vs) H s1 := by
  have e1 : Env0 P w K mg base { A with handled := none } outer s H := ⟨e0.frames, e0.mod, e0.bs, e0.bsz, e0.funs, e0.frf, e0.hok, e0.bare⟩
  have I := inv_start (CX := CX0) (E := fun _ _ _ => False) (f := f) (cd := cd) (qual := qual) (A := { A with handled := none }) S rfl e1 hl r x
  have ok := I.ok
  exact ⟨⟨ok.mod, ok.kind, ok.glob, ok.blt, ok.above, ok.inj, ok.has, ok.cab, (fun z => Bool.noConfusion (show false = true from z)), Around.frames_deeper e0.frames, ok.stk, ok.exf, ok.bs, ok.bsz, ok.noex, ok.exfs, ok.funs, ok.frf⟩,
    I.os, I.bare, I.base, I.loc, I.cell, I.free, I.freeC, I.pin, I.hok, I.len⟩
theorem DefAt.hasA {x : Str} {st : Stmt} {N ps : List Str} {k : Nat} {sp : Sp} (D : DefAt K mg x st ps) (S : FnScope N ps (defScope st)) (len : ∀ vs H Q E, sp vs H Q E → vs.length = ps.length)
    (hbody : ∀ (f : Addr) (cdv : Value) (A : Around) (outer : List Env) (s : Shared) (H : Hp) (vs : List V) (Q : VK) (E : XK), RoomA k (A.deeper (envOfC x (defScope st) s.heap.objs.size f cdv)) → sp vs H Q E →
      ∃ t, PSs (cxA P w K mg base N x (defScope st) f cdv A outer s H) (defBody st) t ∧ t { nx := fun _ H' => Q .non H', rt := Q } (L2.start N vs) H) : HasA P w K mg base (k + 1) x ps sp := by
  obtain ⟨f, fd, F, hm, hb⟩ := D.ex
  obtain ⟨oc, od, kV, doc, pm, an, cdv, ct, osl, rfl, lk, hcd⟩ := F.ex
  refine ⟨f, _, ⟨len, fun A outer s H args us vs Q E hr e0 hb r hsp => ?_⟩, hm, F.kp, hb⟩
  have hl := len _ _ _ _ hsp
  have KX : K.In s.heap := e0.mod.kin.keeps fun b o e => (e0.bs b o e).1
  have lim : s.heap.NoLimit := e0.mod.nolimit.keeps fun b o e => (e0.bs b o e).1
  have hkind : ∀ y ∈ ps.zip us, (defScope st).names.lookup y.1 = some .local ∨ ((defScope st).names.lookup y.1 = some .cell ∧ ((cellsFrom (s.heap.objs.size + 1) (defScope st).names []).lookup y.1).isSome = true) := fun ⟨n, v⟩ hy => by
    rcases S.par n (List.of_mem_zip hy).1 with q | q
    · exact .inl q
    · exact .inr ⟨q, PySem.W.cellsFrom_some _ _ _ (.inl q)⟩
  refine codeAny_call_function hr.depth (KX _ _ lk) rfl S.co S.gen rfl (PySem.W.codeRec_of KX hcd) (hb _ _ _ _ ?_)
  refine wpAny_newFunctionEnv_cells S.kind hkind fun env he s1 y => ?_
  subst he
  refine ⟨lim.keeps y.toInCall.keep, codeAny_func ?_⟩
  obtain ⟨t, ht, hq⟩ := hbody f cdv A outer s H vs Q E (hr.deeper _) hsp
  refine wpAny_mono (ht.run [] s1 (L2.start N vs) H _ (inv_A S e0 hl r y) hq) (fun fl s' hs => ?_) fun e s' hs => False.elim hs
  have fin : ∀ {σ' : L2.St} {H' : Hp} {v : V} {u : Value}, Inv (cxA P w K mg base N x (defScope st) f cdv A outer s H) [] σ' H' s' → RelV v u → Q v H' → CE outer P w H s Q u s' :=
    fun {σ' H' v u} J rv q => ⟨v, H', J.os, J.bare, J.base, J.hok, rv, q⟩
  cases fl with
  | ret u => obtain ⟨v, σ', H', J, rv, q⟩ := hs; exact fin J rv q
  | next => obtain ⟨σ', H', J, q⟩ := hs; exact fin (v := V.non) (u := Value.none) J rfl q
  | brk => obtain ⟨_, _, _, q⟩ := hs; exact False.elim q
  | cont => obtain ⟨_, _, _, q⟩ := hs; exact False.elim q
end

/-! ### calls -/
section
variable {X : Cx} {k : Nat} {ps : List Str} {sp : Sp} {W : WX} {x : Str} {p pos : Pos} {e : Expr} {es : List Expr} {ta : TA}
theorem pe_hasR (G : Has X.prog X.w X.K X.mg X.base k x ps sp) (hr : Room k X.A) (tk : Takes X W) (ha : PA X (e :: es) ta) (hg : Gl X x := by rfl) (hdb : (x == ("__debug__" : Str)) = false := by decide)
    (he : starEach (e :: es) X.env = (false, eval e X.env) :: starEach es X.env := by rfl) (hpl : (backTo pos (starEach es X.env)).any (·.1) = false := by rfl) : PE X (.Call (.Name x p) (e :: es) [] pos) (tCallS sp (WE W) ta) := by
  obtain ⟨f, fd, F, hm, hk, hb⟩ := G.ex
  exact pe_callS F hr hg hm hk hb (fun σ => passAt tk σ) ha hdb he hpl
theorem pe_hasN (G : Has X.prog X.w X.K X.mg X.base k x ps sp) (hr : Room k X.A) (ha : PA X (e :: es) ta) (hg : Gl X x := by rfl) (hdb : (x == ("__debug__" : Str)) = false := by decide)
    (he : starEach (e :: es) X.env = (false, eval e X.env) :: starEach es X.env := by rfl) (hpl : (backTo pos (starEach es X.env)).any (·.1) = false := by rfl) : PE X (.Call (.Name x p) (e :: es) [] pos) (tCallS sp (fun _ => E0) ta) := by
  obtain ⟨f, fd, F, hm, hk, hb⟩ := G.ex
  exact pe_callS F hr hg hm hk hb (fun σ pins H s e' s' I c => passL pins σ H s e' s' I c) ha hdb he hpl
theorem pe_hasA (G : HasA X.prog X.w X.K X.mg X.base k x ps sp) (hr : RoomA k X.A) (ha : PA X (e :: es) ta) (hg : Gl X x := by rfl) (hdb : (x == ("__debug__" : Str)) = false := by decide)
    (he : starEach (e :: es) X.env = (false, eval e X.env) :: starEach es X.env := by rfl) (hpl : (backTo pos (starEach es X.env)).any (·.1) = false := by rfl) : PE X (.Call (.Name x p) (e :: es) [] pos) (tCallS sp (fun _ => E0) ta) := by
  obtain ⟨f, fd, F, hm, hk, hb⟩ := G.ex
  refine ⟨fun pins s σ H Q I h => ?_⟩
  refine wpAny_Call_Name_kw (ld_glob I hg hm ?_ hdb)
  refine PySem.W.callWith_K (h₀ := X.base) I.ok.mod.kin hk (thn (ha.run pos pins s σ H _ I h) fun us s1 ⟨vs, H1, I1, r, q⟩ => ⟨I1.kIn, ?_⟩) he hpl
  have hl : us.length = ps.length := by rw [← r.length]; exact F.len _ _ _ _ q
  have b := hb s1 us I1.kIn (by rw [List.append_nil]; exact hl)
  rw [List.append_nil] at b
  refine wpAny_call (codeAny_mono (F.run X.A X.stack s1 H1 ⟨us, []⟩ us vs Q E0 hr I1.env0 b r q) fun r s' hq => ?_)
  cases r with
  | error e => exact False.elim hq
  | ok fl =>
    cases fl with
    | ret u => exact I1.after hq
    | next => exact False.elim hq
    | brk => exact False.elim hq
    | cont => exact False.elim hq
end

/-! ### a list or a tuple, walked -/
def SqS (K : PySem.W.Frag) (H : Hp) (a : Addr) (xs : List V) : Prop := SqL K H a xs ∨ SqT K H a xs
def iSeq (K : PySem.W.Frag) (tl : TE) : TI := fun σ H R => tl σ H fun x H1 => ∃ a xs, x = .ref a ∧ ((SqL K H1 a xs ∧ R (Itl K a) H1) ∨ (SqT K H1 a xs ∧ R (Itt K a) H1))
theorem pi_seq {X : Cx} {tg l : Expr} {tl : TE} (hl : PE X l tl) : PI X tg l (iSeq X.K tl) := by
  refine ⟨fun pins s σ H R I h => ?_⟩
  refine thn (hl.run pins s σ H _ I h) fun v s1 ⟨x, H1, I1, r1, a, xs, ex, q⟩ => ?_
  subst ex
  cases r1
  have new : ∀ {b : Addr}, b ∈ [s1.heap.objs.size] → b = s1.heap.objs.size := fun {b} hb => by simpa using hb
  have fp : ∀ b ∈ [s1.heap.objs.size], FpOk X pins H1 b := fun b hb => by
    rw [new hb]
    exact I1.fpOk (Nat.le_refl _) (I1.hok.fresh (Nat.le_refl _))
  have kept : ∀ o, Inv X pins σ H1 { s1 with heap := s1.heap.push o } := fun o => I1.kept (t' := s1.toks) fun b u e => Heap.get?_push_of_some _ e
  rcases q with ⟨hq, q⟩ | ⟨hq, q⟩
  · obtain ⟨its, rv, p, hz⟩ := I1.list hq
    exact wpAny_pyIter_list p.isList ⟨_, _, _, _, H1, rfl, kept _, turn_list a _, ⟨_, Heap.get?_push_size _ rfl, rfl, rfl⟩, fp, q⟩
  · obtain ⟨its, rv, p, hz⟩ := I1.tuple hq
    exact wpAny_pyIter_tuple (show s1.heap.IsTuple a its.toArray from p) ⟨_, _, _, _, H1, rfl, kept _, turn_tuple a _, ⟨_, Heap.get?_push_size _ rfl, rfl, rfl⟩, fp, q⟩
end Nd
namespace Nd
open PySem PySem.Spec PyProof.Rows L2
/-! ### set(xs) of a list of ints, told exactly -/
section
variable {P : Program} {w : World} {A : Around} {E : Value → Shared → Prop} {s : Shared}
abbrev freshSet (w : World) : Obj := { cls := .type "set", dict := none, data := .set #[] 0 (.fresh 0 0 (!w.params.followText "set-order")) }
theorem call_set_lstI {l : Addr} {items : Array Value} (ns : List Int) {Q : Value → Shared → Prop} (hh : A.handled = none) (hl : s.heap.IsList l items) (hit : IntsAre items.toList ns) (hb : ns.length + 1 < scanBound)
    (h : ∀ (h' : Heap) (tk c : Nat), SetR w h' s.heap.objs.size (fun j => decide (j ∈ ns)) c → c ≤ ns.length → (∀ b o, s.heap.get? b = some o → h'.get? b = some o) → Q (.ref s.heap.objs.size) { s with heap := h', toks := tk }) :
    wpAny (model P w) A (call (.type "set") [.ref l]) Q E s := by
  have size : items.size = ns.length := by
    have q := IntsAre.length hit
    rwa [Array.length_toList] at q
  obtain ⟨c, tl, hmro⟩ := F.called_set.mro
  have c1 := F.called_set.made
  have c2 := F.called_set.sub
  have c3 := F.called_set.notType
  have c4 := F.called_set.canCreate
  have c5 := F.typeCall_set_1 (.ref l)
  refine wpAny_call (codeAny_of_tree ?_)
  show wpAny _ _ (callAny (.type "set") _) _ _ _
  refine wpAny_pure ⟨Code.quiet_builtin _ (by decide +kernel), codeAny_builtin F.entry_type_call ?_⟩
  rw [Around.under_plain (weight_type_call_type "set" [.ref l] []) rfl]
  repeat (any_goals (first | assumption | wp_step))
  -- the empty set, made
  refine codeAny_mono (code_set_led1 (.ref l) (E := E) (Q₁ := fun obj s₁ => obj = .ref s.heap.objs.size ∧ s₁ = { s with heap := s.heap.push (freshSet w) }) ⟨rfl, rfl⟩) fun r s₁ hr => ?_
  rcases r with e | fl
  · exact hr
  cases fl with
  | ret obj =>
    obtain ⟨rfl, rfl⟩ := hr
    have hS : (s.heap.push (freshSet w)).get? s.heap.objs.size = some (freshSet w) := Heap.get?_push_size _ rfl
    have hT : Shared.TypeIs { s with heap := s.heap.push (freshSet w) } (.ref s.heap.objs.size) "set" := ⟨_, hS, rfl⟩
    have i1 := F.called_set.init.lookup
    have i2 := F.called_set.init.bind (.ref s.heap.objs.size)
    repeat (any_goals (first | assumption | wp_step))
    -- filled
    refine codeAny_mono (codeAny_call_builtin (R := wants (fun r s₂ => r = .none ∧ ∃ h' tk c, s₂ = { s with heap := h', toks := tk } ∧ SetR w h' s.heap.objs.size (fun j => decide (j ∈ ns)) c ∧ c ≤ ns.length ∧
        (∀ b o, s.heap.get? b = some o → h'.get? b = some o)) E) F.called_set.init.plain F.entry_set_init (check_set_init_1 hT ?_)) fun r₂ s₂ hr₂ => ?_
    · obtain ⟨⟨lc, ld, lt, ls⟩, hol, hcl, nl, hdl⟩ := hl
      simp only at hcl hdl
      subst hcl; subst hdl
      have hol' : (s.heap.push (freshSet w)).get? l = some { cls := .type "list", dict := ld, data := .seq items nl, slots := ls } := Heap.get?_push_of_some _ hol
      have b1 := F.sub_list_set
      have b2 := F.sub_list_frozenset
      have b3 : (Value.type "list" == Value.type "dict") = false := by decide
      have lst : (s.heap.push (freshSet w)).IsList l items := ⟨_, hol', rfl, nl, rfl⟩
      unfold Builtin.«set.__init__» noKeywords Builtin.Frozenset.updateFrom
      generalize hPI : pyIter = PI
      wp_walk
      subst hPI
      refine wpAny_pyIter_list lst ?_
      refine wpAny_bind (wpAny_runValue ?_)
      have lt : l < s.heap.objs.size := Heap.lt_size hol
      have zs : (s.heap.push (freshSet w)).objs.size = s.heap.objs.size + 1 := Heap.size_push ..
      have cool : A.in1.in1.in1.handled = none := by simp [hh]
      have apart : l ≠ (s.heap.push (freshSet w)).objs.size := by
        rw [zs]
        exact Nat.ne_of_lt (Nat.lt_succ_of_lt lt)
      have out : s.heap.objs.size ∉ [(s.heap.push (freshSet w)).objs.size, l] := by
        rw [zs]; simp only [List.mem_cons, List.not_mem_nil, or_false, not_or]
        exact ⟨Nat.ne_of_lt (Nat.lt_succ_self _), Nat.ne_of_gt lt⟩
      have vals : ∀ (i : Nat) (v : Value), items[i]? = some v → ∃ k t, ns[i]? = some k ∧ v = .int k t := fun i v hv => by
        have hi : i < ns.length := by rw [← size]; exact (Array.getElem?_eq_some_iff.mp hv).1
        obtain ⟨t, e⟩ := PyProof.Rows.IntsAre.int_at hit i v (by rw [Array.getElem?_toList]; exact hv)
        refine ⟨ns[i], t, List.getElem?_eq_getElem hi, ?_⟩
        rw [e, List.getD_eq_getElem?_getD, List.getElem?_eq_getElem hi] <;> rfl
      refine set_update_ints ((Walks.list cool _ l apart items).toS) s.heap.objs.size out ns size hb vals (items.size - 0) 0 _ (by omega) (Nat.zero_le _) ⟨⟨_, Heap.get?_push_size _ rfl, rfl, rfl⟩, (lst.push _)⟩ ?S0 ?SR
      case S0 => exact ⟨0, Nat.le_refl 0, setR_new_at (Heap.get?_push_of_some _ hS)⟩
      case SR =>
        intro s' c' hm hc' hS'
        obtain ⟨h', g2, d', tk', os'⟩ := s'
        have eg : g2 = s.gens := hm.gens
        have ed : d' = s.drawn := hm.drawn
        have eo : os' = s.os := hm.os
        subst eg; subst ed; subst eo
        show wpAny _ _ _ _ _ _
        refine wpAny_pure ?_
        show wpAny _ _ (ret Value.none) _ _ _
        rw [size] at hc'
        refine wpAny_pure ⟨rfl, h', tk', c', rfl, hS', hc', fun b o e => ?_⟩
        have b0 : b < s.heap.objs.size := Heap.lt_size e
        refine hm.heap b o ?_ (Heap.get?_push_of_some _ (Heap.get?_push_of_some _ e))
        rw [zs]
        simp only [List.mem_cons, List.not_mem_nil, or_false, not_or]
        exact ⟨Nat.ne_of_lt b0, Nat.ne_of_lt (Nat.lt_succ_of_lt b0)⟩
    · rcases r₂ with e | fl₂
      · exact hr₂
      cases fl₂ with
      | ret r =>
        obtain ⟨rfl, h', tk, c', rfl, hS', hc', hk'⟩ := hr₂
        repeat (any_goals (first | assumption | wp_step))
        exact h _ _ _ hS' hc' hk'
      | _ => exact hr₂.elim
  | _ => exact hr.elim
end
end Nd
namespace Nd
open PySem PySem.Spec PyProof.Rows L2
/-! ### set(xs), xs a list or tuple of ints -/
def rSetI (K : PySem.W.Frag) (w : World) : List V → Hp → VK → Prop := fun xs H Q => ∃ (a : Addr) (ns : List Int), xs = [.ref a] ∧ SqS K H a (ns.map V.int) ∧ ns.length + 1 < scanBound ∧
  ∀ p c, H p = none → c ≤ ns.length → Q (.ref p) (upd H p (SetO w p (fun j => decide (j ∈ ns)) c))
theorem cr_setL {X : Cx} (hc : X.calm = true) : CallR X (.type "set") (rSetI X.K X.w) := by
  intro pins s σ H xs us Q I r h
  obtain ⟨a, ns, rfl, hq, hb, q⟩ := h
  rw [Vals.ref1 r]
  have fin : ∀ (h' : Heap) (tk c : Nat), SetR X.w h' s.heap.objs.size (fun j => decide (j ∈ ns)) c → c ≤ ns.length → (∀ b o, s.heap.get? b = some o → h'.get? b = some o) → EP X pins σ Q (.ref s.heap.objs.size) { s with heap := h', toks := tk } := fun h' tk c R hle k =>
    ⟨.ref s.heap.objs.size, upd H s.heap.objs.size (SetO X.w s.heap.objs.size (fun j => decide (j ∈ ns)) c), I.laid k (Nat.le_refl _) (setO_new R), rfl, q _ c (I.hok.fresh (Nat.le_refl _)) hle⟩
  rcases hq with hq | hq
  · obtain ⟨its, rv, p, hz⟩ := I.list hq
    exact call_set_lstI ns (I.ok.hd hc) p.isList (by simpa using Vals.ints rv) hb fin
  · obtain ⟨its, rv, p, hz⟩ := I.tuple hq
    exact call_set_tupI ns (I.ok.hd hc) (show s.heap.IsTuple a its.toArray from p) (by simpa using Vals.ints rv) hb fin

/-! ### (i, ns) <= (j, ms), ns and ms tuples of ints -/
def lexLe : List Int → List Int → Bool
  | [], _ => true
  | _ :: _, [] => false
  | x :: xs, y :: ys => if x = y then lexLe xs ys else decide (x ≤ y)
theorem lexAt_is : ∀ (ns ms : List Int) (pre : Nat) (e r : Nat → Bool), (∀ j, e (pre + j) = decide (ns.getD j 0 = ms.getD j 0)) → (∀ j, r (pre + j) = decide (ns.getD j 0 ≤ ms.getD j 0)) →
    Ob.lexAt e r (decide (ns.length ≤ ms.length)) pre (min ns.length ms.length) = lexLe ns ms
  | [], ms, pre, e, r, _, _ => by
    rw [show min ([] : List Int).length ms.length = 0 by simp, Ob.lexAt_zero]
    simp [lexLe]
  | _ :: _, [], pre, e, r, _, _ => by
    rw [show ∀ (x : Int) l, min (x :: l).length ([] : List Int).length = 0 by simp, Ob.lexAt_zero]
    simp [lexLe]
  | x :: xs, y :: ys, pre, e, r, he, hr => by
    rw [show min (x :: xs).length (y :: ys).length = min xs.length ys.length + 1 by simp only [List.length_cons]; omega, Ob.lexAt_succ]
    have e0 := he 0
    have r0 := hr 0
    simp only [Nat.add_zero, List.getD_cons_zero] at e0 r0
    have ih := lexAt_is xs ys (pre + 1) e r (fun j => by rw [show pre + 1 + j = pre + (j + 1) by omega, he (j + 1)]; simp) (fun j => by rw [show pre + 1 + j = pre + (j + 1) by omega, hr (j + 1)]; simp)
    rw [show decide ((x :: xs).length ≤ (y :: ys).length) = decide (xs.length ≤ ys.length) by simp, ih, e0, r0]
    by_cases h : x = y
    · simp [lexLe, h]
    · simp [lexLe, h]
theorem rc_le_ints {X : Cx} {pins : List (Addr × Obj)} {σ : L2.St} {H : Hp} {s : Shared} {A : Around} (I : Inv X pins σ H s) {a b : Addr} {ns ms : List Int} (ha : SqT X.K H a (ns.map V.int)) (hb : SqT X.K H b (ms.map V.int)) (hu : A.units < cLine) :
    Ob.RcOp .LtE A s (.ref a) (.ref b) (lexLe ns ms) := by
  obtain ⟨its, r1, p1, _⟩ := I.tuple ha
  obtain ⟨its2, r2, p2, _⟩ := I.tuple hb
  have i1 : IntsAre its ns := Vals.ints r1
  have i2 : IntsAre its2 ms := Vals.ints r2
  have e1 : its.toArray.size = ns.length := by rw [List.size_toArray]; exact i1.length
  have e2 : its2.toArray.size = ms.length := by rw [List.size_toArray]; exact i2.length
  have at1 : ∀ j (h1 : j < its.toArray.size), ∃ t, its.toArray[j] = .int (ns.getD j 0) t := fun j h1 => PyProof.Rows.IntsAre.int_at i1 _ _ (by simp at h1; simp [h1])
  have at2 : ∀ j (h1 : j < its2.toArray.size), ∃ t, its2.toArray[j] = .int (ms.getD j 0) t := fun j h1 => PyProof.Rows.IntsAre.int_at i2 _ _ (by simp at h1; simp [h1])
  have R := Ob.RcOp.tuples_le (A := A) (s := s) (e := fun j => decide (ns.getD j 0 = ms.getD j 0)) (r := fun j => decide (ns.getD j 0 ≤ ms.getD j 0)) p1 p2 hu (fun j h1 h2 => by
    obtain ⟨t, et⟩ := at1 j h1
    obtain ⟨t', et'⟩ := at2 j h2
    rw [et, et']
    rw [show decide (ns.getD j 0 = ms.getD j 0) = (ns.getD j 0 == ms.getD j 0) by rfl]
    exact SeqAt.EqAt.int_int _ _ _ _) (fun j h1 h2 _ => by
    obtain ⟨t, et⟩ := at1 j h1
    obtain ⟨t', et'⟩ := at2 j h2
    rw [et, et']
    exact Ob.RcOp.le_int _ _ _ _)
  rw [e1, e2, lexAt_is ns ms 0 _ _ (fun j => by rw [Nat.zero_add]) (fun j => by rw [Nat.zero_add])] at R
  exact R
def rLeP (K : PySem.W.Frag) : R2 := fun x y H Q => ∃ (a b p q : Addr) (i j : Int) (ns ms : List Int), x = .ref a ∧ y = .ref b ∧ SqT K H a [.int i, .ref p] ∧ SqT K H b [.int j, .ref q] ∧ SqT K H p (ns.map V.int) ∧ SqT K H q (ms.map V.int) ∧
  SeqAt.shaped (.tuple (ns.map PyData.int)) = true ∧ SeqAt.shaped (.tuple (ms.map PyData.int)) = true ∧ Q (.bl (if i = j then lexLe ns ms else decide (i ≤ j))) H
theorem dp_ints {K : PySem.W.Frag} {H : Hp} : ∀ ns : List Int, DpAll K H (ns.map V.int) (ns.map PyData.int)
  | [] => .nil
  | n :: ns => .cons (.int n) (dp_ints ns)
theorem eqv_ints : ∀ ns ms : List Int, PyData.eqvAll (ns.map PyData.int) (ms.map PyData.int) = decide (ns = ms)
  | [], [] => by simp [PyData.eqvAll]
  | [], _ :: _ => by simp [PyData.eqvAll]
  | _ :: _, [] => by simp [PyData.eqvAll]
  | x :: xs, y :: ys => by
    rw [List.map_cons, List.map_cons]
    show (PyData.eqv (.int x) (.int y) && PyData.eqvAll (xs.map PyData.int) (ys.map PyData.int)) = _
    rw [eqv_ints xs ys]
    show ((x == y) && decide (xs = ys)) = _
    by_cases h : x = y <;> by_cases h2 : xs = ys <;> simp [h, h2]
theorem lexLe_refl : ∀ ns : List Int, lexLe ns ns = true
  | [] => rfl
  | x :: xs => by simp [lexLe, lexLe_refl xs]
theorem _root_.L2.Room.u100 {k : Nat} {A : Around} (r : Room k A) : A.units + 100 < cLine := by have := r.un; omega
theorem op_leP {X : Cx} (hu : X.A.units + 100 < cLine) : OpR X (compareOp .LtE) (rLeP X.K) := by
  intro pins s σ H x y v u Q I rx ry h
  obtain ⟨a, b, p, q, i, j, ns, ms, rfl, rfl, ha, hb, hp, hq, sn, sm, q0⟩ := h
  cases rx
  cases ry
  obtain ⟨its, r1, p1, _⟩ := I.tuple ha
  obtain ⟨its2, r2, p2, _⟩ := I.tuple hb
  obtain ⟨_, _, rfl, ⟨t1, rfl⟩, hv1⟩ := vals2 r1
  obtain ⟨_, _, rfl, ⟨t2, rfl⟩, hv2⟩ := vals2 r2
  cases hv1
  cases hv2
  obtain ⟨as, ra⟩ := Dp.reads I (.tuple (ns.map PyData.int)) (.ref p) (.ref p) (.tup hp (dp_ints ns)) rfl
  obtain ⟨bs, rb⟩ := Dp.reads I (.tuple (ms.map PyData.int)) (.ref q) (.ref q) (.tup hq (dp_ints ms)) rfl
  have un : X.A.in1.units = X.A.units + 1 ∨ X.A.in1.units = X.A.units := by
    first
      | exact .inl rfl
      | exact .inr rfl
  have lt1 : X.A.in1.units < cLine := by omega
  have eqn : SeqAt.EqAt X.A.in1 s (.ref p) (.ref q) (decide (ns = ms)) := by
    have e := SeqAt.eqAt_reads _ _ X.A.in1 s _ _ as bs ra rb (SeqAt.canLay_of_shaped sn) (SeqAt.canLay_of_shaped sm) (by
      have h1 := SeqAt.depth_of_shaped sn
      have h2 : min (PyData.tuple (ns.map PyData.int)).depth (PyData.tuple (ms.map PyData.int)).depth ≤ (PyData.tuple (ns.map PyData.int)).depth := Nat.min_le_left _ _
      omega)
    rw [show PyData.eqv (.tuple (ns.map PyData.int)) (.tuple (ms.map PyData.int)) = PyData.eqvAll (ns.map PyData.int) (ms.map PyData.int) by rw [PyData.eqv], eqv_ints] at e
    exact e
  have R := Ob.RcOp.tuples_le (A := X.A) (s := s) (e := fun k => if k = 0 then decide (i = j) else decide (ns = ms)) (r := fun k => if k = 0 then decide (i ≤ j) else lexLe ns ms) p1 p2 (by omega) (fun k h1 h2 => by
    match k, h1, h2 with
    | 0, _, _ =>
      show SeqAt.EqAt _ _ (.int i t1) (.int j t2) (decide (i = j))
      exact SeqAt.EqAt.int_int _ _ _ _
    | 1, _, _ => exact eqn) (fun k h1 h2 _ => by
    match k, h1, h2 with
    | 0, _, _ =>
      show Ob.RcOp _ _ _ (.int i t1) (.int j t2) (decide (i ≤ j))
      exact Ob.RcOp.le_int _ _ _ _
    | 1, _, _ => exact rc_le_ints I hp hq lt1)
  have ev : Ob.lexAt (fun k => if k = 0 then decide (i = j) else decide (ns = ms)) (fun k => if k = 0 then decide (i ≤ j) else lexLe ns ms) (decide (2 ≤ 2)) 0 2 = (if i = j then lexLe ns ms else decide (i ≤ j)) := by
    rw [Ob.lexAt_succ, Ob.lexAt_succ, Ob.lexAt_zero]
    by_cases h : i = j
    · by_cases h2 : ns = ms
      · simp [h, h2, lexLe_refl]
      · simp [h, h2]
    · simp [h]
  have z : wpAny (model X.prog X.w) X.A (compareOp .LtE (.ref a) (.ref b)) (EP X pins σ Q) X.xe s := R X.prog X.w X.xe (EP X pins σ Q) ⟨.bl _, H, I, by show Value.bool _ = Value.bool _; exact congrArg _ ev, q0⟩
  exact z
end Nd
namespace Nd
open PySem PySem.Spec PyProof.Rows L2 Evl

/-! ### words of promises -/
/-- an error of the class at C whose field f holds v, whatever was made beside -/
def Err (C : Addr) (f : Str) (v : V) (H : Hp) (E : XK) : Prop := ∀ d H', Ex H H' → H' d = some (.xd [(f, v)]) → E (.ref C) (some d) H'
theorem Err.mono {C : Addr} {f : Str} {v : V} {H H' : Hp} {E : XK} (h : Err C f v H E) (e : Ex H H') : Err C f v H' E := fun d H2 e2 hd => h d H2 (e.trans e2) hd
theorem RetV.mono {v : V} {H H' : Hp} {Q : VK} (h : RetV v H Q) (e : Ex H H') : RetV v H' Q := fun H2 e2 => h H2 (e.trans e2)
/-- a new tuple -/
def RetU (xs : List V) (H : Hp) (Q : VK) : Prop := ∀ p H2, H p = none → Ex H H2 → H2 p = some (.tup xs) → Q (.ref p) H2
theorem RetL.mono {xs : List V} {H H' : Hp} {Q : VK} (h : RetL xs H Q) (e : Ex H H') : RetL xs H' Q := fun p H2 hp e2 h2 => h p H2 (fresh_back e hp) (e.trans e2) h2
theorem RetU.mono {xs : List V} {H H' : Hp} {Q : VK} (h : RetU xs H Q) (e : Ex H H') : RetU xs H' Q := fun p H2 hp e2 h2 => h p H2 (fresh_back e hp) (e.trans e2) h2
def fs1 (f : Str) : List V → Option (List (Str × V)) := fun ws => match ws with
  | [v] => some [(f, v)]
  | _ => none

/-- a module's constant -/
theorem pe_cst {X : Cx} {x : Str} {v : V} {pos : Pos} (h : ∃ u, X.mg x = some u ∧ RelV v u) (hg : Gl X x := by rfl) (hd : (x == ("__debug__" : Str)) = false := by decide) : PE X (.Name x pos) (tC v) := by
  obtain ⟨u, hm, r⟩ := h
  exact pe_glob hg hm r hd

/-- what the text says of an error class of one field -/
structure ErrT (P : Program) (w : World) (K : PySem.W.Frag) (mg : Str → Option Value) (base : Heap) (x f : Str) (C : Addr) : Prop where
  made : ∃ fI fdI, ErrC P w K mg base 1 C fI fdI ["self", f] (fs1 f) x
  is : IsC K C
  xf : XfC K C
  no : PySem.W.findIn K (.ref C) f = some none
  g : mg x = some (.ref C)
/-- raise C(e) -/
def tRais1 (C : Addr) (f : Str) (W : WX) (ta : TA) : TS := fun _ σ H => ta σ H fun vs H1 => ∃ v, vs = [v] ∧ Err C f v H1 (WE W σ)
theorem ps_err1 {X : Cx} {C : Addr} {f x : Str} {p pos pos2 : Pos} {e : Expr} {es : List Expr} {ta : TA} {W : WX} (hc : X.calm = true) (T : ErrT X.prog X.w X.K X.mg X.base x f C) (hr : Room 2 X.A) (tk : Takes X W) (ha : PA X (e :: es) ta) (hg : Gl X x := by rfl)
    (hdb : (x == ("__debug__" : Str)) = false := by decide) (he : starEach (e :: es) X.env = (false, eval e X.env) :: starEach es X.env := by rfl) (hpl : (backTo pos (starEach es X.env)).any (·.1) = false := by rfl) :
    PS X (.Raise (some (.Call (.Name x p) (e :: es) [] pos)) none pos2) (tRais1 C f W ta) := by
  obtain ⟨fI, fdI, M⟩ := T.made
  refine ⟨fun pins s σ H D I h => (ps_err hc M hr tk (pa_clo ha) hg hdb he hpl).run pins s σ H D I ?_⟩
  refine ⟨_, h, fun vs H1 q => ?_⟩
  obtain ⟨v, rfl, q⟩ := q
  exact ⟨(by decide : 1 ≤ 1000), _, rfl, fun d hd => q d _ (Ex.new hd) upd_same⟩

section
variable {K : PySem.W.Frag} {a : Addr} {xs : List V} {H H' : Hp}
theorem SqS.mono (e : Ex H H') (h : SqS K H a xs) : SqS K H' a xs := h.elim (fun h => .inl (ex_l e h)) (fun h => .inr (ex_t e h))
theorem SqS.lst (h : H a = some (.lst xs)) : SqS K H a xs := .inl (sq_of h)
theorem SqS.tup (h : H a = some (.tup xs)) : SqS K H a xs := .inr (st_of h)
end

/-! ### what is evaluated: lists or tuples -/
section
variable {K : PySem.W.Frag} {σ : L2.St} {H H' : Hp} {ta tb te tx : TE} {t u : TT} {x y z v : V} {D : Ends} {tu tw tz : TS} {g : TG} {r : R2}
theorem ev_lenS {a : Addr} {xs : List V} (ha : Ev ta σ H (.ref a)) (h : SqS K H a xs) : Ev (tCB (fun vs H Q => ∃ p ys, vs = [.ref p] ∧ (SqL K H p ys ∨ SqT K H p ys) ∧ Q (.int ys.length) H) (tCons ta tNil)) σ H (.int (xs.length : Int)) := fun H1 e Q q =>
  ha H1 e _ fun H2 e2 => ⟨a, xs, rfl, h.mono (e.trans e2), q H2 e2⟩
theorem rv_ixS' {p : Addr} {xs : List V} {i : Int} (h : SqS K H p xs) (ha : atI xs i = some v) : RV (rIx K) (.ref p) (.int i) H v := fun H1 e _ q =>
  h.elim (fun h => .inl ⟨p, xs, i, v, rfl, rfl, ex_l e h, ha, q H1 (Ex.refl H1)⟩) (fun h => .inr (.inl ⟨p, xs, i, v, rfl, rfl, ex_t e h, ha, q H1 (Ex.refl H1)⟩))
theorem rv_in {neg : Bool} {p : Addr} {xs : List V} (h : SqS K H p xs) (hx : flatV x = true) (ha : xs.all flatV = true) : RV (rIn K neg) x (.ref p) H (.bl (if neg then !inV x xs else inV x xs)) := h.elim (fun h => rv_inL h hx ha) (fun h => rv_inT h hx ha)
/-- tuple(xs) -/
theorem eu_tuple {a : Addr} {xs : List V} (ha : Ev ta σ H (.ref a)) (h : SqL K H a xs) : EvU (tCB (fun vs H Q => ∃ p ys, vs = [.ref p] ∧ ((SqL K H p ys ∧ ∀ l, H l = none → Q (.ref l) (upd H l (.tup ys))) ∨ (SqT K H p ys ∧ Q (.ref p) H))) (tCons ta tNil)) σ H xs := fun H1 e Q q =>
  ha H1 e _ fun H2 e2 => ⟨a, xs, rfl, .inl ⟨ex_l (e.trans e2) h, fun l hl => q l _ (fresh_back e2 hl) (e2.trans (Ex.new hl)) upd_same⟩⟩
/-- tuple of a new list -/
theorem eu_tupleL {xs : List V} (ha : EvL ta σ H xs) : EvU (tCB (fun vs H Q => ∃ p ys, vs = [.ref p] ∧ ((SqL K H p ys ∧ ∀ l, H l = none → Q (.ref l) (upd H l (.tup ys))) ∨ (SqT K H p ys ∧ Q (.ref p) H))) (tCons ta tNil)) σ H xs := fun H1 e Q q =>
  ha H1 e _ fun p H2 hp e2 h2 => ⟨p, xs, rfl, .inl ⟨sq_of h2, fun l hl => q l _ (fresh_back e2 hl) (e2.trans (Ex.new hl)) upd_same⟩⟩
/-- a loop over a list or a tuple -/
theorem s_forS {a : Addr} {xs : List V} {tl : TE} (h : Ev tl σ H (.ref a)) (hx : SqS K H a xs) (Pv : Nat → L2.St → Hp → Prop) (h0 : ∀ H1, Ex H H1 → Pv 0 σ H1) (hl : ∀ i σ' H', i ≤ xs.length → Pv i σ' H' → Ex H H')
    (hs : ∀ i x σ' H', xs[i]? = some x → Pv i σ' H' → g x σ' H' fun σ2 H2 => tu { D with nx := Pv (i + 1), ct := Pv (i + 1), bk := D.nx } σ2 H2) (hd : ∀ σ' H', Pv xs.length σ' H' → D.nx σ' H') : tFor (iSeq K tl) g tu D σ H :=
  h H (Ex.refl H) _ fun H1 e => ⟨a, xs, rfl, hx.elim (fun q => .inl ⟨ex_l e q, for_list Pv (h0 H1 e) (fun i σ' H' hi p => ex_l (hl i σ' H' hi p) q) hs hd⟩) (fun q => .inr ⟨ex_t e q, for_tup Pv (h0 H1 e) (fun i σ' H' hi p => ex_t (hl i σ' H' hi p) q) hs hd⟩)⟩
theorem q_forS {a : Addr} {xs : List V} {tl : TE} (h : Ev tl σ H (.ref a)) (hx : SqS K H a xs) (Pv : Nat → L2.St → Hp → Prop) (h0 : ∀ H1, Ex H H1 → Pv 0 σ H1) (hl : ∀ i σ' H', i ≤ xs.length → Pv i σ' H' → Ex H H')
    (hs : ∀ i x σ' H', xs[i]? = some x → Pv i σ' H' → g x σ' H' fun σ2 H2 => tu { D with nx := Pv (i + 1), ct := Pv (i + 1), bk := tz D } σ2 H2) (hd : ∀ σ' H', Pv xs.length σ' H' → tz D σ' H') : tSeq (tFor (iSeq K tl) g tu) tz D σ H :=
  s_forS (D := { D with nx := tz D }) h hx Pv h0 hl hs hd
/-- a comprehension over a list or a tuple -/
theorem el_lcS {a : Addr} {xs : List V} {tl : TE} {j : Nat} {vs : List Nat} (f : Nat → Bool) (v : Nat → V) (h : Ev tl σ H (.ref a)) (hx : SqS K H a xs) (hz : xs.length ≤ 40000) (hw : ∀ x, wipe ((wipe σ vs).set j (some x)) vs = wipe σ vs)
    (ht : ∀ (i : Nat) (x : V) H1, Ex H H1 → xs[i]? = some x → EvT t ((wipe σ vs).set j (some x)) H1 (f i)) (he : ∀ (i : Nat) (x : V) H1, Ex H H1 → xs[i]? = some x → f i = true → Ev te ((wipe σ vs).set j (some x)) H1 (v i)) :
    EvL (tLc (iSeq K tl) (gName j) t te vs) σ H (given xs.length f v) := fun H0 e Q q => h H0 e _ fun H1 e1 => ⟨a, xs, rfl, hx.elim
  (fun hq => .inl ⟨ex_l (e.trans e1) hq, fun Dl hD => lc_list (xs := xs) (Cw H1 f v Dl) ⟨hD, Ex.new hD, upd_same⟩ (fun i H' _ p => ex_l ((e.trans e1).trans p.2.1) hq)
      (fun i x H' hi p => ⟨hw x, cw_turn p (by have := (List.getElem?_eq_some_iff.mp hi).1; omega) (ht i x H1 (e.trans e1) hi) (fun hf => he i x H1 (e.trans e1) hi hf)⟩) (fun H' p => q Dl H' (fresh_back e1 p.1) (e1.trans p.2.1) p.2.2)⟩)
  (fun hq => .inr ⟨ex_t (e.trans e1) hq, fun Dl hD => lc_tup (xs := xs) (Cw H1 f v Dl) ⟨hD, Ex.new hD, upd_same⟩ (fun i H' _ p => ex_t ((e.trans e1).trans p.2.1) hq)
      (fun i x H' hi p => ⟨hw x, cw_turn p (by have := (List.getElem?_eq_some_iff.mp hi).1; omega) (ht i x H1 (e.trans e1) hi) (fun hf => he i x H1 (e.trans e1) hi hf)⟩) (fun H' p => q Dl H' (fresh_back e1 p.1) (e1.trans p.2.1) p.2.2)⟩)⟩
end
end Nd
namespace Nd
open PySem PySem.Spec PyProof.Rows L2 Evl
section
variable {K : PySem.W.Frag} {σ : L2.St} {H H' : Hp} {ta tb tc te tx : TE} {t u : TT} {x y z v : V} {D : Ends} {tu tw tz : TS} {g : TG} {r r' : R2}
/-- a comparison of three -/
theorem ev_chain {a b : Bool} {zr : V} (ha : Ev ta σ H x) (hb : Ev tb σ H y) (hr : RV r x y H (.bl a)) (hc : a = true → Ev tc σ H z) (hr' : a = true → RV r' y z H (.bl b)) : Ev (tChain r r' ta tb tc) σ H (.bl (a && b)) := by
  intro H1 e Q q
  refine ha H1 e _ fun H2 e2 => hb H2 (e.trans e2) _ fun H3 e3 => hr H3 ((e.trans e2).trans e3) _ fun H4 e4 => ⟨a, rfl, ?_⟩
  cases a with
  | false => exact q H4 ((e2.trans e3).trans e4)
  | true => exact hc rfl H4 (((e.trans e2).trans e3).trans e4) _ fun H5 e5 => hr' rfl H5 ((((e.trans e2).trans e3).trans e4).trans e5) _ fun H6 e6 => q H6 ((((e2.trans e3).trans e4).trans e5).trans e6)
theorem et_chain {a : Bool} (h : Ev (tChain r r' ta tb tc) σ H (.bl a)) : EvT (fun σ H Q => tChain r r' ta tb tc σ H fun x H1 => ∃ c, x = .bl c ∧ Q c H1) σ H a := fun H1 e _ q => h H1 e _ fun H2 e2 => ⟨a, rfl, q H2 e2⟩
theorem rv_mod {i j : Int} (h : 0 < j) : RV (rI (fun _ b => 0 < b) fun i j => .int (i % j)) (.int i) (.int j) H (.int (i % j)) := rv_I (C := fun _ b => 0 < b) (g := fun i j => .int (i % j)) h
/-- evaluates to some list or tuple of xs -/
def EvSq (K : PySem.W.Frag) (te : TE) (σ : L2.St) (H : Hp) (xs : List V) : Prop := ∀ H1, Ex H H1 → ∀ Q : VK, (∀ p H2, Ex H1 H2 → SqS K H2 p xs → Q (.ref p) H2) → te σ H1 Q
theorem es_ev {a : Addr} {xs : List V} (h : Ev te σ H (.ref a)) (hs : SqS K H a xs) : EvSq K te σ H xs := fun H1 e Q q => h H1 e _ fun H2 e2 => q a H2 e2 (hs.mono (e.trans e2))
theorem es_el {xs : List V} (h : EvL te σ H xs) : EvSq K te σ H xs := fun H1 e Q q => h H1 e _ fun p H2 _ e2 h2 => q p H2 e2 (.lst h2)
theorem es_eu {xs : List V} (h : EvU te σ H xs) : EvSq K te σ H xs := fun H1 e Q q => h H1 e _ fun p H2 _ e2 h2 => q p H2 e2 (.tup h2)
/-- sorted(set(xs)), fewer than 64 members -/
theorem el_sortedSet {w : World} {ns ms : List Int} (h : EvSq K te σ H (ns.map V.int)) (h64 : ns.length < 64) (hs : ms.Pairwise (· < ·)) (hm : ∀ k, k ∈ ms ↔ k ∈ ns) (uniq : ∀ xs : List Int, xs.Pairwise (· < ·) → (∀ k, k ∈ xs ↔ k ∈ ns) → xs = ms) :
    EvL (tCB (rSortedSet w) (tCons (tCB (rSetI K w) (tCons te tNil)) tNil)) σ H (ms.map V.int) := fun H1 e Q q =>
  h H1 e _ fun a H2 e2 h2 => ⟨a, ns, rfl, h2, by unfold scanBound; omega, fun p c hp hc => ⟨p, _, c, rfl, upd_same, by omega, fun xs l hx hmem _ hl => by
    have ex : xs = ms := uniq xs hx fun k => by rw [hmem]; simp
    subst ex
    have e3 : Ex H2 (upd H2 p (SetO w p (fun j => decide (j ∈ ns)) c)) := Ex.new hp
    exact q l _ (fresh_back (e2.trans e3) hl) ((e2.trans e3).trans (Ex.new hl)) upd_same⟩⟩
/-- t + u of tuples -/
def EvT2 (K : PySem.W.Frag) (te : TE) (σ : L2.St) (H : Hp) (xs : List V) : Prop := ∀ H1, Ex H H1 → ∀ Q : VK, (∀ p H2, Ex H1 H2 → SqT K H2 p xs → Q (.ref p) H2) → te σ H1 Q
theorem e2_ev {a : Addr} {xs : List V} (h : Ev te σ H (.ref a)) (hs : SqT K H a xs) : EvT2 K te σ H xs := fun H1 e Q q => h H1 e _ fun H2 e2 => q a H2 e2 (ex_t (e.trans e2) hs)
theorem e2_eu {xs : List V} (h : EvU te σ H xs) : EvT2 K te σ H xs := fun H1 e Q q => h H1 e _ fun p H2 _ e2 h2 => q p H2 e2 (st_of h2)
theorem e2_cat {xs ys : List V} (h1 : EvT2 K ta σ H xs) (h2 : EvT2 K tb σ H ys) (hz : xs.length + ys.length ≤ 100000) : EvT2 K (tOp (rCatA K) ta tb) σ H (xs ++ ys) := fun H1 e Q q =>
  h1 H1 e _ fun a H2 e2 t2 => h2 H2 (e.trans e2) _ fun b H3 e3 t3 => by
    have t2' := ex_t e3 t2
    have e13 := e2.trans e3
    refine ⟨a, b, xs, ys, rfl, rfl, t2', t3, sz_of hz, fun h0 => ?_, fun _ h0 => ?_, fun _ _ p hp => q p _ (e13.trans (Ex.new hp)) (st_of upd_same)⟩
    · subst h0
      exact q b H3 e13 t3
    · subst h0
      rw [List.append_nil] at q
      exact q a H3 e13 t2'
theorem es_e2 {xs : List V} (h : EvT2 K te σ H xs) : EvSq K te σ H xs := fun H1 e Q q => h H1 e _ fun p H2 e2 h2 => q p H2 e2 (.inr h2)
end
end Nd
namespace Nd
open PySem PySem.Spec PyProof.Rows L2 Evl
section
variable {K : PySem.W.Frag} {σ : L2.St} {H : Hp} {ta : TA} {tl te tx : TE} {Q : VK}
theorem yes_go {G : Bool → Hp → Prop} (h : G true H) : tYes σ H G := h
/-- [e for x in xs for y in range(lo, hi)] -/
theorem lc2_lr {a : Addr} {xs : List V} {j k : Nat} {vs vs1 : List Nat} (Out : Addr → Nat → Hp → Prop) (In : Addr → Nat → Nat → Hp → Prop) (h : Ev tl σ H (.ref a)) (hx : SqL K H a xs)
    (h0 : ∀ D H1, Ex H H1 → H1 D = none → Out D 0 (upd H1 D (.lst []))) (hO : ∀ D i H', Out D i H' → Ex H H')
    (hw : ∀ x, wipe ((wipe σ vs).set j (some x)) vs = wipe σ vs) (hw1 : ∀ x y, wipe ((wipe ((wipe σ vs).set j (some x)) vs1).set k (some y)) vs1 = wipe ((wipe σ vs).set j (some x)) vs1)
    (hin : ∀ D i x H', xs[i]? = some x → Out D i H' → ∃ lo hi : Int, (-100000 ≤ lo ∧ lo ≤ 100000 ∧ -100000 ≤ hi ∧ hi ≤ 100000) ∧ EvA ta ((wipe σ vs).set j (some x)) H' [.int lo, .int hi] ∧ (∀ H'', Ex H' H'' → In D i 0 H'') ∧
      (∀ m H'', In D i m H'' → lo + (m : Int) < hi → te ((wipe ((wipe σ vs).set j (some x)) vs1).set k (some (.int (lo + (m : Int))))) H'' fun y H4 => ∃ acc, H4 D = some (.lst acc) ∧ acc.length < sizeLine ∧ In D i (m + 1) (upd H4 D (.lst (acc ++ [y])))) ∧
      (∀ H'', In D i (hi - lo).toNat H'' → Out D (i + 1) H''))
    (hend : ∀ D H', Out D xs.length H' → Q (.ref D) H') : tLc2 (iList K tl) (gName j) tYes (iRng2 ta) (gName k) tYes te vs vs1 σ H Q := by
  refine h H (Ex.refl H) _ fun H1 e1 => ⟨a, rfl, ⟨xs, ex_l e1 hx⟩, fun D hD => ⟨fun i m H' => m = xs.length - i ∧ i ≤ xs.length ∧ Out D i H', ⟨_, rfl, Nat.zero_le _, h0 D H1 e1 hD⟩, ?_⟩⟩
  rintro i m H' ⟨rfl, hi, p⟩
  have q := ex_l (hO D i H' p) hx
  by_cases hlt : i < xs.length
  · refine .inr ⟨⟨xs, xs[i], q, by simp [hlt]⟩, Out D (i + 1), fun H2 p2 => ⟨xs.length - (i + 1), by omega, rfl, hlt, p2⟩, fun x H2 y => ?_⟩
    obtain ⟨rfl, y⟩ := y
    have hxi := y xs q
    obtain ⟨lo, hi', hb, hev, c0, c1, c2⟩ := hin D i x H2 hxi p
    refine ⟨hw x, ?_⟩
    refine yes_go ?_
    rw [if_pos rfl]
    refine hev H2 (Ex.refl H2) _ fun H3 e3 => ⟨lo, hi', rfl, ⟨by omega, by omega, by omega, by omega⟩, fun m n H' => n = (hi' - lo).toNat - m ∧ m ≤ (hi' - lo).toNat ∧ In D i m H', ⟨_, rfl, Nat.zero_le _, c0 H3 e3⟩, ?_⟩
    rintro m' n' H4 ⟨rfl, hm, p4⟩
    by_cases hl2 : m' < (hi' - lo).toNat
    · refine .inr ⟨hl2, fun H' => In D i (m' + 1) H', fun H5 p5 => ⟨(hi' - lo).toNat - (m' + 1), by omega, rfl, hl2, p5⟩, fun z H5 y5 => ?_⟩
      obtain ⟨rfl, rfl⟩ := y5
      refine ⟨hw1 x _, ?_⟩
      refine yes_go ?_
      rw [if_pos rfl]
      exact c1 m' _ p4 (by omega)
    · have em : m' = (hi' - lo).toNat := by omega
      subst em
      exact .inl ⟨Nat.le_refl _, c2 H4 p4⟩
  · have e : i = xs.length := by omega
    subst e
    exact .inl ⟨⟨xs, q, Nat.le_refl _⟩, hend D H' p⟩
/-- [e for x in range(n) for y in ys(x)] -/
theorem lc2_rl {n : Int} {j k : Nat} {vs vs1 : List Nat} (Out : Addr → Nat → Hp → Prop) (In : Addr → Nat → Addr → List V → Nat → Hp → Prop) (h : EvA ta σ H [.int n]) (hn : 0 ≤ n ∧ n ≤ 100000)
    (h0 : ∀ D H1, Ex H H1 → H1 D = none → Out D 0 (upd H1 D (.lst [])))
    (hw : ∀ x, wipe ((wipe σ vs).set j (some x)) vs = wipe σ vs) (hw1 : ∀ x y, wipe ((wipe ((wipe σ vs).set j (some x)) vs1).set k (some y)) vs1 = wipe ((wipe σ vs).set j (some x)) vs1)
    (hin : ∀ D (i : Nat) H', (i : Int) < n → Out D i H' → ∀ Q' : VK, (∀ a ys H'', SqL K H'' a ys → In D i a ys 0 H'' → Q' (.ref a) H'') → tl ((wipe σ vs).set j (some (.int (i : Int)))) H' Q')
    (hstep : ∀ D (i : Nat) a ys m y H', In D i a ys m H' → ys[m]? = some y → te ((wipe ((wipe σ vs).set j (some (.int (i : Int)))) vs1).set k (some y)) H' fun z H4 => ∃ acc, H4 D = some (.lst acc) ∧ acc.length < sizeLine ∧ In D i a ys (m + 1) (upd H4 D (.lst (acc ++ [z]))))
    (hseq : ∀ D i a ys m H', In D i a ys m H' → SqL K H' a ys) (hout : ∀ D i a ys H', In D i a ys ys.length H' → Out D (i + 1) H')
    (hend : ∀ D H', Out D n.toNat H' → Q (.ref D) H') : tLc2 (iRng1 ta) (gName j) tYes (iList K tl) (gName k) tYes te vs vs1 σ H Q := by
  refine h H (Ex.refl H) _ fun H1 e1 => ⟨n, rfl, by omega, by omega, fun D hD => ⟨fun i m H' => m = n.toNat - i ∧ i ≤ n.toNat ∧ Out D i H', ⟨_, rfl, Nat.zero_le _, h0 D H1 e1 hD⟩, ?_⟩⟩
  rintro i m H' ⟨rfl, hi, p⟩
  by_cases hlt : i < n.toNat
  · refine .inr ⟨hlt, Out D (i + 1), fun H2 p2 => ⟨n.toNat - (i + 1), by omega, rfl, hlt, p2⟩, fun x H2 y => ?_⟩
    obtain ⟨rfl, rfl⟩ := y
    have e0 : (0 : Int) + (i : Int) = (i : Int) := Int.zero_add _
    rw [e0]
    refine ⟨hw _, ?_⟩
    refine yes_go ?_
    rw [if_pos rfl]
    refine hin D i _ (by omega) p _ fun a ys H3 hs p3 => ⟨a, rfl, ⟨ys, hs⟩, fun m n H' => n = ys.length - m ∧ m ≤ ys.length ∧ In D i a ys m H', ⟨_, rfl, Nat.zero_le _, p3⟩, ?_⟩
    rintro m' n' H4 ⟨rfl, hm, p4⟩
    have q := hseq D i a ys m' H4 p4
    by_cases hl2 : m' < ys.length
    · refine .inr ⟨⟨ys, ys[m'], q, by simp [hl2]⟩, fun H' => In D i a ys (m' + 1) H', fun H5 p5 => ⟨ys.length - (m' + 1), by omega, rfl, hl2, p5⟩, fun z H5 y5 => ?_⟩
      obtain ⟨rfl, y5⟩ := y5
      refine ⟨hw1 _ _, ?_⟩
      refine yes_go ?_
      rw [if_pos rfl]
      exact hstep D i a ys m' z _ p4 (y5 ys q)
    · have em : m' = ys.length := by omega
      subst em
      exact .inl ⟨⟨ys, q, Nat.le_refl _⟩, hout D i a ys H4 p4⟩
  · have e : i = n.toNat := by omega
    subst e
    exact .inl ⟨Nat.le_refl _, hend D H' p⟩
/-! ### lists of ints, filtered and mapped -/
theorem ints_range (ns : List Int) : (List.range ns.length).map (fun i => ns.getD i 0) = ns := by
  apply List.ext_getElem
  · simp
  · intro i h1 h2
    have h3 : i < ns.length := by simpa using h1
    simp [h3]
theorem given_filter (ns : List Int) (p : Int → Bool) : given ns.length (fun i => p (ns.getD i 0)) (fun i => V.int (ns.getD i 0)) = (ns.filter p).map V.int := by
  have h : ns.filter p = ((List.range ns.length).filter (fun i => p (ns.getD i 0))).map (fun i => ns.getD i 0) := by
    have e := congrArg (List.filter p) (ints_range ns)
    rw [List.filter_map] at e
    exact e.symm
  rw [h, List.map_map]
  rfl
theorem given_map (ns : List Int) (g : Int → Int) : given ns.length (fun _ => true) (fun i => V.int (g (ns.getD i 0))) = (ns.map g).map V.int := by
  have h : ns.map g = (List.range ns.length).map (fun i => g (ns.getD i 0)) := by
    have e := congrArg (List.map g) (ints_range ns)
    rw [List.map_map] at e
    exact e.symm
  rw [h, List.map_map]
  unfold given
  rw [List.filter_eq_self.mpr (fun _ _ => rfl)]
  rfl
theorem inV_ints (z : Int) (ns : List Int) : inV (.int z) (ns.map V.int) = decide (z ∈ ns) := by
  unfold inV
  rw [List.any_map]
  induction ns with
  | nil => simp
  | cons n r ih =>
    rw [List.any_cons, ih]
    by_cases h : n = z
    · subst h
      simp [eqV]
    · have h2 : ¬ z = n := fun e => h e.symm
      simp [eqV, h, h2]
theorem all_flat (ns : List Int) : (ns.map V.int).all flatV = true := by
  rw [List.all_eq_true]
  intro x hx
  obtain ⟨n, _, rfl⟩ := List.mem_map.mp hx
  rfl
theorem at_ints {ns : List Int} {i : Nat} {x : V} (h : (ns.map V.int)[i]? = some x) : x = .int (ns.getD i 0) ∧ i < ns.length := by
  rw [List.getElem?_map] at h
  cases e : ns[i]? with
  | none => rw [e] at h; cases h
  | some z =>
    rw [e] at h
    obtain ⟨hi, ez⟩ := List.getElem?_eq_some_iff.mp e
    refine ⟨?_, hi⟩
    have h2 := Option.some.inj h
    rw [← h2, List.getD_eq_getElem?_getD, e]
    rfl
theorem ev_sumL {ns : List Int} (h : EvL te σ H (ns.map V.int)) : Ev (tCB (rSum K) (tCons te tNil)) σ H (.int ns.sum) := fun H1 e Q q =>
  h H1 e _ fun p H2 _ e2 h2 => ⟨p, ns, rfl, sq_of h2, q H2 e2⟩
theorem et_in {a : Addr} {z : Int} {ns : List Int} {neg : Bool} (hx : Ev tx σ H (.int z)) (ha : Ev tl σ H (.ref a)) (h : SqS K H a (ns.map V.int)) : EvT (tTest (tOp (rIn K neg) tx tl)) σ H (if neg then !decide (z ∈ ns) else decide (z ∈ ns)) := by
  refine et_test (ev_op hx ha ?_)
  have := rv_in (K := K) (neg := neg) (x := .int z) h rfl (all_flat ns)
  rw [inV_ints] at this
  exact this
end
/-! ### the rules that name the written part, it given (for a comprehension's block) -/
section
variable {X : Cx} (K : PySem.W.Frag)
theorem op_catAK (h : X.K = K := by rfl) : OpR X (binaryOp .Add) (rCatA K) := by subst h; exact op_catA
theorem op_in_seqK (h : X.K = K := by rfl) : OpR X (compareOp .In) (rIn K false) := by subst h; exact op_in_seq
theorem op_notIn_seqK (h : X.K = K := by rfl) : OpR X (compareOp .NotIn) (rIn K true) := by subst h; exact op_notIn_seq
theorem ix_listK (h : X.K = K := by rfl) : IxR X (rIxL K) := by subst h; exact ix_list
theorem ix_tupK (h : X.K = K := by rfl) : IxR X (rIxT K) := by subst h; exact ix_tup
theorem ix_seqK (h : X.K = K := by rfl) : IxR X (rIx K) := by subst h; exact ix_seq
theorem pi_listK {tg l : Expr} {tl : TE} (hl : PE X l tl) (h : X.K = K := by rfl) : PI X tg l (iList K tl) := by subst h; exact pi_list hl
theorem pi_tupK {tg l : Expr} {tl : TE} (hl : PE X l tl) (h : X.K = K := by rfl) : PI X tg l (iTup K tl) := by subst h; exact pi_tup hl
theorem pi_seqK {tg l : Expr} {tl : TE} (hl : PE X l tl) (h : X.K = K := by rfl) : PI X tg l (iSeq K tl) := by subst h; exact pi_seq hl
end
end Nd
/-! One list changes (a drawn tape), all else stays. Slices of lists of ints. isinstance. -/
namespace Nd
open PySem PySem.Spec PyProof.Rows L2 Evl
/-- all but what stands at p stays -/
def But (p : Addr) (H H' : Hp) : Prop := ∀ a o, a ≠ p → H a = some o → H' a = some o
section
variable {p q a : Addr} {H H' H2 : Hp} {o : HO} {xs : List V} {K : PySem.W.Frag}
theorem But.refl (p : Addr) (H : Hp) : But p H H := fun _ _ _ h => h
theorem But.trans (b : But p H H') (c : But p H' H2) : But p H H2 := fun a o n h => c a o n (b a o n h)
theorem But.of (e : Ex H H') : But p H H' := fun a o _ h => e a o h
theorem But.upd (b : But p H H') : But p H (upd H' p o) := fun a u n h => by rw [upd_ne n]; exact b a u n h
theorem But.new (b : But p H H') (hq : H q = none) : But p H (L2.upd H' q o) := fun a u n h => by
  rw [upd_ne (fun e => by rw [e, hq] at h; cases h)]
  exact b a u n h
theorem But.ex (b : But p H H') (e : Ex H2 H) (hp : H2 p = none) : Ex H2 H' := fun a u h => b a u (fun n => by rw [n, hp] at h; cases h) (e a u h)
theorem But.l (b : But p H H') (n : a ≠ p) (h : SqL K H a xs) : SqL K H' a xs := by
  rcases h with (h | ⟨u, h⟩) | h
  · exact .inl (.inl (b a _ n h))
  · exact .inl (.inr ⟨u, b a _ n h⟩)
  · exact .inr h
theorem But.t (b : But p H H') (n : a ≠ p) (h : SqT K H a xs) : SqT K H' a xs := by
  rcases h with (h | ⟨u, h⟩) | h
  · exact .inl (.inl (b a _ n h))
  · exact .inl (.inr ⟨u, b a _ n h⟩)
  · exact .inr h
/-- a list of ints stands at p -/
def Tape (H : Hp) (p : Addr) : Prop := ∃ ds : List Int, H p = some (.lst (ds.map V.int))
theorem Tape.mono (t : Tape H p) (e : Ex H H') : Tape H' p := let ⟨ds, h⟩ := t; ⟨ds, e p _ h⟩
theorem But.fresh (b : But p H H') (t : Tape H' p) (h : H' q = none) : H q = none ∧ q ≠ p := by
  obtain ⟨ds, hp⟩ := t
  have n : q ≠ p := fun e => by rw [e, hp] at h; cases h
  refine ⟨?_, n⟩
  cases e : H q with
  | none => rfl
  | some u => rw [b q u n e] at h; cases h
end
/-! ### slices -/
theorem cut_to {α : Type} (xs : List V) (k : Nat) : cutV xs none (some (k : Int)) = xs.take k := by
  unfold cutV
  rw [HT.sIx_none, HT.sIx_nat, List.drop_zero, Nat.sub_zero]
  rcases Nat.le_total k xs.length with h | h
  · rw [Nat.min_eq_left h]
  · rw [Nat.min_eq_right h, List.take_of_length_le (Nat.le_refl _), List.take_of_length_le h]
theorem cut_from (xs : List V) (k : Nat) : cutV xs (some (k : Int)) none = xs.drop k := by
  unfold cutV
  rw [HT.sIx_none, HT.sIx_nat]
  rcases Nat.le_total k xs.length with h | h
  · rw [Nat.min_eq_left h, List.take_of_length_le (by rw [List.length_drop]; omega)]
  · rw [Nat.min_eq_right h, Nat.sub_self, List.take_zero, List.drop_of_length_le h]
section
variable {K : PySem.W.Frag} {σ : L2.St} {H : Hp} {te ta tb : TE} {ts : TA}
/-- xs[:k] of a list of ints -/
theorem el_to {a : Addr} {ns : List Int} {th : TE} (k : Nat) (h : Ev te σ H (.ref a)) (hk : Ev th σ H (.int (k : Int))) (hs : SqL K H a (ns.map V.int)) : EvL (tSl (rSlL K) te tNoPart (tPart th)) σ H ((ns.take k).map V.int) := by
  have := el_sl (K := K) h eo_none (eo_some hk) hs
  rw [cut_to (α := Int), ← List.map_take] at this
  exact this
theorem el_from {a : Addr} {ns : List Int} {th : TE} (k : Nat) (h : Ev te σ H (.ref a)) (hk : Ev th σ H (.int (k : Int))) (hs : SqL K H a (ns.map V.int)) : EvL (tSl (rSlL K) te (tPart th) tNoPart) σ H ((ns.drop k).map V.int) := by
  have := el_sl (K := K) h (eo_some hk) eo_none hs
  rw [cut_from, ← List.map_drop] at this
  exact this
/-- .. of a new list -/
theorem el_slN {tl th : TO} {xs : List V} {lo hi : Option Int} (h : EvL te σ H xs) (h1 : EvO tl σ H lo) (h2 : EvO th σ H hi) : EvL (tSl (rSlL K) te tl th) σ H (cutV xs lo hi) := fun H1 e Q q =>
  h H1 e _ fun p H2 hp e2 hl => h1 H2 (e.trans e2) _ fun H3 e3 => h2 H3 ((e.trans e2).trans e3) _ fun H4 e4 => ⟨p, xs, rfl, sq_of (e4 p _ (e3 p _ hl)), fun r hr => q r _ (fresh_back ((e2.trans e3).trans e4) hr) (((e2.trans e3).trans e4).trans (Ex.new hr)) upd_same⟩
theorem el_toN {ns : List Int} {th : TE} (k : Nat) (h : EvL te σ H (ns.map V.int)) (hk : Ev th σ H (.int (k : Int))) : EvL (tSl (rSlL K) te tNoPart (tPart th)) σ H ((ns.take k).map V.int) := by
  have := el_slN (K := K) h eo_none (eo_some hk)
  rw [cut_to (α := Int), ← List.map_take] at this
  exact this
theorem el_fromN {ns : List Int} {th : TE} (k : Nat) (h : EvL te σ H (ns.map V.int)) (hk : Ev th σ H (.int (k : Int))) : EvL (tSl (rSlL K) te (tPart th) tNoPart) σ H ((ns.drop k).map V.int) := by
  have := el_slN (K := K) h (eo_some hk) eo_none
  rw [cut_from, ← List.map_drop] at this
  exact this
/-- a + b of lists of ints, where each is evaluated to a tracked list -/
def EvM (te : TE) (σ : L2.St) (H : Hp) (xs : List V) : Prop := ∀ H1, Ex H H1 → ∀ Q : VK, (∀ p H2, Ex H1 H2 → H2 p = some (.lst xs) → Q (.ref p) H2) → te σ H1 Q
theorem em_ev {a : Addr} {xs : List V} (h : Ev te σ H (.ref a)) (hs : H a = some (.lst xs)) : EvM te σ H xs := fun H1 e Q q => h H1 e _ fun H2 e2 => q a H2 e2 ((e.trans e2) a _ hs)
theorem em_el {xs : List V} (h : EvL te σ H xs) : EvM te σ H xs := fun H1 e Q q => h H1 e _ fun p H2 _ e2 h2 => q p H2 e2 h2
theorem el_cat {xs ys : List V} (h1 : EvM ta σ H xs) (h2 : EvM tb σ H ys) (hz : xs.length + ys.length ≤ 100000) : EvL (tOp rCat ta tb) σ H (xs ++ ys) := fun H1 e Q q =>
  h1 H1 e _ fun a H2 e2 g => h2 H2 (e.trans e2) _ fun b H3 e3 g3 => ⟨a, b, xs, ys, rfl, rfl, e3 a _ g, g3, sz_of hz, fun p hp => q p _ (fresh_back (e2.trans e3) hp) ((e2.trans e3).trans (Ex.new hp)) upd_same⟩
theorem el_rep {xs : List V} {k : Int} (h1 : EvM ta σ H xs) (h2 : Ev tb σ H (.int k)) (hk : 0 ≤ k ∧ k ≤ 100000) (hz : xs.length * k.toNat ≤ 100000) : EvL (tOp rRep ta tb) σ H (List.replicate k.toNat xs).flatten := fun H1 e Q q =>
  h1 H1 e _ fun a H2 e2 g => h2 H2 (e.trans e2) _ fun H3 e3 => ⟨a, k, xs, rfl, rfl, e3 a _ g, by omega, by omega, sz_of hz, fun p hp => q p _ (fresh_back (e2.trans e3) hp) ((e2.trans e3).trans (Ex.new hp)) upd_same⟩
/-- xs[::-1] -/
theorem el_rev {a : Addr} {xs : List V} (h : Ev te σ H (.ref a)) (hs : SqL K H a xs) : EvL (tRevL K te) σ H xs.reverse := fun H1 e Q q =>
  h H1 e _ fun H2 e2 => ⟨a, xs, rfl, ex_l (e.trans e2) hs, fun p hp => q p _ (fresh_back e2 hp) (e2.trans (Ex.new hp)) upd_same⟩
/-- isinstance(x, C) -/
theorem ev_isi {x c : V} {t u : Value} {b : Bool} (h : EvA ts σ H [x, c]) (k : ClsV c u) (ty : ∀ H1, Ex H H1 → TyX K H1 x t) (e : PySem.W.kitOne K t u = some b) : Ev (tCB (rIsi K) ts) σ H (.bl b) := fun H1 e1 Q q =>
  h H1 e1 _ fun H2 e2 => ⟨x, c, t, u, b, rfl, k, ty H2 (e1.trans e2), e, q H2 e2⟩
theorem tyx_t {a : Addr} {xs : List V} (h : SqT K H a xs) : TyX K H (.ref a) (.type "tuple") := by
  rcases h with (h | ⟨u, h⟩) | h
  · exact .base (.tup h)
  · exact .fTuple h
  · obtain ⟨o, _, _, h1, h2, _⟩ := h
    exact .kTuple h1 h2
theorem ev_add {i j : Int} (h1 : Ev ta σ H (.int i)) (h2 : Ev tb σ H (.int j)) : Ev (tOp (rI0 fun i j => .int (i + j)) ta tb) σ H (.int (i + j)) := ev_op h1 h2 rv_I0
theorem ev_sub {i j : Int} (h1 : Ev ta σ H (.int i)) (h2 : Ev tb σ H (.int j)) : Ev (tOp (rI0 fun i j => .int (i - j)) ta tb) σ H (.int (i - j)) := ev_op h1 h2 rv_I0
theorem ev_neg {i : Int} (h1 : Ev ta σ H (.int i)) : Ev (tUn (rU fun i => .int (-i)) ta) σ H (.int (-i)) := ev_un h1 ru_neg
theorem ev_pow {i j : Int} (h1 : Ev ta σ H (.int i)) (h2 : Ev tb σ H (.int j)) (hc : CPow i j) : Ev (tOp (rI CPow fun i j => .int (i ^ j.toNat)) ta tb) σ H (.int (i ^ j.toNat)) := ev_op h1 h2 (rv_I hc)
/-- xs[i] of a new list -/
theorem ev_ixN {xs : List V} {i : Int} {v : V} (h : EvL ta σ H xs) (hi : ∀ H1, Ex H H1 → Ev tb σ H1 (.int i)) (hat : atI xs i = some v) : Ev (tOp (rIxL K) ta tb) σ H v := ev_opL1 h hi fun p H1 g e => rv_ixL (sq_of g) hat
/-- int(e) -/
theorem ev_int1 {i : Int} (h : Ev te σ H (.int i)) : Ev (tCB (fun xs H Q => (∃ i, xs = [.int i] ∧ Q (.int i) H) ∨ ∃ k, xs = [.bl k] ∧ Q (.int (if k then 1 else 0)) H) (tCons te tNil)) σ H (.int i) := fun H1 e Q q =>
  h H1 e _ fun H2 e2 => .inl ⟨i, rfl, q H2 e2⟩
/-- abs(e) -/
theorem ev_abs {i : Int} (h : Ev te σ H (.int i)) : Ev (tCB (fun xs H Q => ∃ i, xs = [.int i] ∧ Q (.int (if i < 0 then -i else i)) H) (tCons te tNil)) σ H (.int (if i < 0 then -i else i)) := fun H1 e Q q =>
  h H1 e _ fun H2 e2 => ⟨i, rfl, q H2 e2⟩
theorem ev_min2 {i j : Int} (ha : Ev ta σ H (.int i)) (hb : Ev tb σ H (.int j)) : Ev (tCB (fun xs H Q => ∃ i j, xs = [.int i, .int j] ∧ Q (.int (if j < i then j else i)) H) (tCons ta (tCons tb tNil))) σ H (.int (if j < i then j else i)) := fun H1 e Q q =>
  ha H1 e _ fun H2 e2 => hb H2 (e.trans e2) _ fun H3 e3 => ⟨i, j, rfl, q H3 (e2.trans e3)⟩
end
end Nd
/-! Calls within expressions; order of pairs; deep equality of lists of ints. -/
namespace Nd
open PySem PySem.Spec PyProof.Rows L2 Evl
theorem lay_ints : ∀ ns : List Int, PyData.canLayAll0 (ns.map PyData.int) = true
  | [] => rfl
  | _ :: r => by simp [PyData.canLayAll0, PyData.canLay0, lay_ints r]
theorem dep_ints : ∀ ns : List Int, PyData.depthAll (ns.map PyData.int) = 0
  | [] => rfl
  | _ :: r => by simp [PyData.depthAll, PyData.depth, dep_ints r]
theorem shaped_l (ns : List Int) : SeqAt.shaped (.list (ns.map PyData.int)) = true := by
  simp [SeqAt.shaped, PyData.canLay0, PyData.depth, lay_ints, dep_ints]
theorem shaped_t (ns : List Int) : SeqAt.shaped (.tuple (ns.map PyData.int)) = true := by
  simp [SeqAt.shaped, PyData.canLay0, PyData.depth, lay_ints, dep_ints]
section
variable {K : PySem.W.Frag} {σ : L2.St} {H : Hp} {te ta tb : TE} {ts : TA} {D : Ends} {tu tw tz : TS}
/-- f(..) within an expression: f only makes -/
theorem ev_callS {sp : Sp} {E : L2.St → XK} {vs : List V} {z : V} (h : EvA ts σ H vs) (hs : ∀ H1, Ex H H1 → ∀ (Q : VK) (E' : XK), RetV z H1 Q → sp vs H1 Q E') : Ev (tCallS sp E ts) σ H z := fun H1 e Q q =>
  h H1 e _ fun H2 e2 => hs H2 (e.trans e2) Q (E σ) fun H3 e3 => q H3 (e2.trans e3)
theorem eu_callS {sp : Sp} {E : L2.St → XK} {vs xs : List V} (h : EvA ts σ H vs) (hs : ∀ H1, Ex H H1 → ∀ (Q : VK) (E' : XK), RetU xs H1 Q → sp vs H1 Q E') : EvU (tCallS sp E ts) σ H xs := fun H1 e Q q =>
  h H1 e _ fun H2 e2 => hs H2 (e.trans e2) Q (E σ) fun p H3 hp e3 g => q p H3 (fresh_back e2 hp) (e2.trans e3) g
theorem rv_leP {a b p q : Addr} {i j : Int} {ns ms : List Int} (ha : SqT K H a [.int i, .ref p]) (hb : SqT K H b [.int j, .ref q]) (hp : SqT K H p (ns.map V.int)) (hq : SqT K H q (ms.map V.int)) :
    RV (rLeP K) (.ref a) (.ref b) H (.bl (if i = j then lexLe ns ms else decide (i ≤ j))) := fun H1 e _ k =>
  ⟨a, b, p, q, i, j, ns, ms, rfl, rfl, ex_t e ha, ex_t e hb, ex_t e hp, ex_t e hq, shaped_t ns, shaped_t ms, k H1 (Ex.refl H1)⟩
end
end Nd
namespace Nd
open PySem PySem.Spec PyProof.Rows L2 Evl
section
variable {K : PySem.W.Frag} {σ : L2.St} {H H' : Hp} {te ta tb : TE}
mutual
theorem dp_mono (e : Ex H H') : ∀ {v : V} (d : PyData), Dp K H v d → Dp K H' v d
  | _, .none, h => by cases h; exact .non
  | _, .bool b, h => by cases h; exact .bl b
  | _, .int i, h => by cases h; exact .int i
  | _, .str x, h => by cases h; exact .str x
  | _, .list ds, h => by cases h with | lst s a => exact .lst (ex_l e s) (dpa_mono e ds a)
  | _, .tuple ds, h => by cases h with | tup s a => exact .tup (ex_t e s) (dpa_mono e ds a)
  | _, .dict _, h => by cases h
theorem dpa_mono (e : Ex H H') : ∀ {vs : List V} (ds : List PyData), DpAll K H vs ds → DpAll K H' vs ds
  | _, [], h => by cases h; exact .nil
  | _, d :: ds, h => by cases h with | cons a b => exact .cons (dp_mono e d a) (dpa_mono e ds b)
end
theorem rv_eqD {x y : V} {d f : PyData} {b : Bool} (hx : Dp K H x d) (hy : Dp K H y f) (sd : SeqAt.shaped d = true) (sf : SeqAt.shaped f = true) (hb : PyData.eqv d f = b) : RV (rEqD K) x y H (.bl b) := fun H1 e _ q =>
  ⟨d, f, dp_mono e d hx, dp_mono e f hy, sd, sf, by rw [hb]; exact q H1 (Ex.refl H1)⟩
theorem rv_neD {x y : V} {d f : PyData} {b : Bool} (hx : Dp K H x d) (hy : Dp K H y f) (sd : SeqAt.shaped d = true) (sf : SeqAt.shaped f = true) (hb : PyData.eqv d f = b) : RV (rNeD K) x y H (.bl (!b)) := fun H1 e _ q =>
  ⟨d, f, dp_mono e d hx, dp_mono e f hy, sd, sf, by rw [hb]; exact q H1 (Ex.refl H1)⟩
/-- a new tuple, then a value -/
theorem ev_opUV {r : R2} {xs : List V} {y z : V} (ha : EvU ta σ H xs) (hb : Ev tb σ H y) (hr : ∀ p H1, H1 p = some (.tup xs) → Ex H H1 → RV r (.ref p) y H1 z) : Ev (tOp r ta tb) σ H z := fun H1 e Q q =>
  ha H1 e _ fun p H2 hp e2 g => hb H2 (e.trans e2) _ fun H3 e3 => hr p H3 (e3 p _ g) ((e.trans e2).trans e3) H3 (Ex.refl H3) Q fun H4 e4 => q H4 ((e2.trans e3).trans e4)
end
end Nd
/-! In an except suite: isinstance(e, ..), e.f; a loop over a list of tuples. -/
namespace Nd
open PySem PySem.Spec PyProof.Rows L2 Evl
section
variable {K : PySem.W.Frag} {σ : L2.St} {H H' : Hp} {te ta tb tu : TE} {ts : TA}
theorem ev_isX1 {a D dd : Addr} {fv : List (Str × V)} {c : V} {u : Value} {b : Bool} (h : EvA ts σ H [.ref a, c]) (k : ClsV c u) (C : IsC K D) (hd : H dd = some (.xd fv)) (e : PySem.W.kitOne K (.ref D) u = some b) : Ev (tCB (rIsX K a (.ref D) (some dd)) ts) σ H (.bl b) := fun H1 e1 Q q =>
  h H1 e1 _ fun H2 e2 => ⟨D, dd, fv, c, rfl, rfl, C, rfl, (e1.trans e2) dd _ hd, .inl ⟨u, b, k, e, q H2 e2⟩⟩
theorem ev_isXT {a D dd : Addr} {fv : List (Str × V)} {cs : List V} {us : List Value} {b : Bool} (h : Ev te σ H (.ref a)) (hu : EvU tu σ H cs) (k : Paired ClsV cs us) (C : IsC K D) (hd : H dd = some (.xd fv)) (e : PySem.W.kitAny K (.ref D) us = some b) :
    Ev (tCB (rIsX K a (.ref D) (some dd)) (tCons te (tCons tu tNil))) σ H (.bl b) := fun H1 e1 Q q =>
  h H1 e1 _ fun H2 e2 => hu H2 (e1.trans e2) _ fun p H3 hp e3 g => ⟨D, dd, fv, .ref p, rfl, rfl, C, rfl, ((e1.trans e2).trans e3) dd _ hd, .inr ⟨p, cs, us, b, rfl, g, k, e, q H3 (e2.trans e3)⟩⟩
theorem kitAny2 {t c c2 : Value} (h1 : PySem.W.kitOne K t c = some false) (h2 : PySem.W.kitOne K t c2 = some false) : PySem.W.kitAny K t [c, c2] = some false := by
  simp only [PySem.W.kitAny, h1, h2]
theorem ev_xf {a C dd : Addr} {f : Str} {fs : List (Str × V)} {v : V} (h : Ev te σ H (.ref a)) (hd : H dd = some (.xd fs)) (hl : fs.lookup f = some v) : Ev (tXf a (.ref C) (some dd) C f te) σ H v := fun H1 e1 Q q =>
  h H1 e1 _ fun H2 e2 => ⟨rfl, rfl, dd, fs, v, rfl, (e1.trans e2) dd _ hd, hl, q H2 e2⟩
end
end Nd
/-! xs[:c] = ys, the lower bound left out. -/
namespace Nd
open PySem PySem.Spec PyProof.Rows L2 Evl PySem.Calls
theorem low_bounds {c n : Nat} (h : c ≤ n) : sliceBounds none (some (c : Int)) none n = (0, (c : Int), 1) := by
  have k1 : ¬ ((c : Int) < 0) := by omega
  have k2 : max 0 (min (c : Int) (n : Int)) = c := by omega
  simp [sliceBounds, k1, k2]
theorem head_splice (old new : List Value) (c : Nat) : old.toArray.extract 0 0 ++ new.toArray ++ old.toArray.extract c old.toArray.size = (new ++ old.drop c).toArray := by
  have z := splice_eq old new 0 c
  rw [List.take_zero, List.nil_append] at z
  exact z
section
variable {prog : Program} {w : World} {A : Around} {E : Value → Shared → Prop} {s : Shared} {l b k : Addr} {old new : List Value} {n m c : Nat} {top : Value} {Q : Unit → Shared → Prop}
/-- list.__setitem__ with the slice object at k, its parts (None, c, None) -/
theorem set_low (g1 : s.heap.get? l = some { cls := .type "list", data := .seq old.toArray n }) (g2 : s.heap.get? b = some { cls := .type "list", data := .seq new.toArray m }) (apart : l ≠ b)
    (so : s.heap.IsSliceOf k .none top .none) (pt : IsPart top (some (c : Int))) (hc : c ≤ old.length) (sz : old.length + new.length ≤ sizeLine)
    (go : Q () { s with heap := s.heap.update l (Obj.mapSeq fun xs => xs.extract 0 0 ++ new.toArray ++ xs.extract c xs.size) }) :
    wpAny (model prog w) A (setItem (.ref l) (.ref k) (.ref b)) Q E s := by
  have L1 := PySem.IsL.isList g1
  have L2 := PySem.IsL.isList g2
  obtain ⟨ob, gk, ck, dk⟩ := id so
  have tyk : s.TypeIs (.ref k) "slice" := ⟨ob, gk, ck⟩
  have nz : ¬ ((rawPart none == rawInt 0) = true) := Bool.false_ne_true
  have other : Builtin.List.listSameRef (.ref l) (.ref b) = false := by
    unfold Builtin.List.listSameRef
    exact beq_eq_false_iff_ne.mpr apart
  have sz2 : old.toArray.size + new.toArray.size ≤ sizeLine := by rw [List.size_toArray, List.size_toArray]; exact sz
  have mx : (max (0 : Int) (c : Int)).toNat = c := by omega
  have fits : ((fun xs : Array Value => xs.extract 0 0 ++ new.toArray ++ xs.extract c xs.size) old.toArray).size ≤ sizeLine + 1 := by
    simp only [Array.size_append, Array.size_extract]
    omega
  unfold setItem
  try with_reducible refine wpAny_holding ?_
  first | refine wpAny_bind (wpAny_pure ?_) | skip
  refine wpAny_bind (wpAny_sequenceKey (L1.typeIs) (by decide) ?_)
  refine wpAny_bind (wpAny_callSpecial?_slot (name := Str.ofString "__setitem__") (L1.typeIs) slot_list_setitem (wpAny_call_entry slot_list_setitem (L1.typeIs) entry_list_setitem ?_ (args_list_setitem _ _ _)))
  show wpAny _ _ (Builtin.List.listSubscript? (.ref k) >>= _) _ _ s
  refine wpAny_bind ?_
  unfold Builtin.List.listSubscript?
  refine wpAny_bind (wpAny_specialOf tyk slice_no_index ?_)
  simp only [Option.isNone_none, if_true]
  refine wpAny_pure ?_
  show wpAny _ _ (typeOf (.ref k) >>= _) _ _ s
  refine wpAny_bind (wpAny_typeOf tyk ?_)
  first | rw [if_neg (by decide)] | refine PySem.W.KFB.if_not (by decide) ?_
  rw [listSliceParts_eq]
  refine wpAny_bind (wpAny_bind (wpAny_field gk dk (x := .none) rfl (wpAny_bind (wpAny_listPart (.none) ?_))))
  rw [if_neg nz]
  refine wpAny_bind (wpAny_field gk dk (x := .none) rfl (wpAny_bind (wpAny_listPart (.none) ?_)))
  refine wpAny_bind (wpAny_field gk dk (x := top) rfl (wpAny_bind (wpAny_listPart pt (wpAny_pure ?_))))
  first | simp only [other, Bool.false_eq_true, if_false] | refine PySem.W.KFB.if_not other ?_ | (dsimp only; rw [if_neg (by rw [other]; exact Bool.false_ne_true)])
  refine wpAny_bind (m := Builtin.List.listAllItems (.ref b) ("must assign iterable to extended slice")) ?_
  unfold Builtin.List.listAllItems
  refine wpAny_bind (wpAny_typeOf (L2.typeIs) ?_)
  first | refine PySem.W.KFB.if_so (by decide) ?_ | rw [if_pos (by decide)] | simp only [beq_self_eq_true, Bool.true_or, if_true]
  unfold Builtin.List.listItems
  refine wpAny_bind (wpAny_seqItems g2 rfl (wpAny_pure ?_))
  refine wpAny_bind (wpAny_bind (wpAny_seqItems g1 rfl (wpAny_pure ?_)))
  have hb : sliceBounds none (some (c : Int)) none old.toArray.size = (0, (c : Int), 1) := low_bounds (by rw [List.size_toArray]; exact hc)
  refine wpAny_bind (wpAny_of_eq ((sliceIndices_raw none (some (c : Int)) none old.toArray.size (by simp)).trans (congrArg (pure : Int × Int × Int → Sem (Int × Int × Int)) hb)) ?_)
  show wpAny _ _ (if ((1 : Int) == 1) = true then _ else _) _ _ s
  rw [if_pos (by decide)]
  refine wpAny_bind (wpAny_rule ?_)
  first | simp only [notLongL sz2, Bool.false_eq_true, if_false] | refine PySem.W.KFB.if_not (notLongL sz2) ?_
  first | refine wpAny_bind (wpAny_pure ?_) | skip
  show wpAny _ _ (updateSeq l (fun xs => xs.extract 0 ((0 : Int)).toNat ++ new.toArray ++ xs.extract (max (0 : Int) (c : Int)).toNat xs.size) >>= _) _ _ s
  rw [mx]
  refine wpAny_bind (wpAny_updateSeq (hz := Nat.le_trans (Nat.le_add_right _ _) sz2) (_hz' := fits) g1 rfl ?_)
  refine wpAny_bind (wpAny_letGo ?_)
  first
    | exact wpAny_bind (wpAny_pure (wpAny_pure ⟨.none, rfl, wpAny_pure go⟩))
    | exact wpAny_pure ⟨.none, rfl, wpAny_pure go⟩
end
/-- o[:u] = .. of another list -/
def gSl0 (to tu : TE) : TG := fun v σ H Q => to σ H fun x H1 => tu σ H1 fun y H2 => ∃ (l b : Addr) (xs ys : List V) (c : Nat), x = .ref l ∧ v = .ref b ∧ y = .int (c : Int) ∧ H2 l = some (.lst xs) ∧ H2 b = some (.lst ys) ∧ l ≠ b ∧ c ≤ xs.length ∧ xs.length + ys.length ≤ sizeLine ∧
  Q σ (upd H2 l (.lst (ys ++ xs.drop c)))
theorem pg_sl0 {X : Cx} {o u : Expr} {to tu : TE} {p2 pos : Pos} (ho : PE X o to) (hu : PE X u tu) : PG X (.Subscript o (.Slice none (some u) none p2) pos) (gSl0 to tu) := by
  refine ⟨fun pins s σ H v vv Q I r h => ?_⟩
  rw [assign_Subscript]
  refine wpAny_bind (wpAny_holding (thn (ho.run pins s σ H _ I h) fun ov s1 ⟨x, H1, I1, r1, q1⟩ => ?_))
  refine wpAny_bind (wpAny_holding ?_)
  refine wpAny_Slice (thn (po_none.run pins s1 σ H1 (fun z H2 => z = none ∧ H2 = H1) I1 ⟨rfl, rfl⟩) fun vl s2 ⟨z, H2, I2, pl, ez, eH⟩ => ?_)
  subst ez eH
  cases pl
  refine thn (hu.run pins s2 σ H2 _ I2 q1) fun uv s3 ⟨y, H3, I3, r3, q3⟩ => ?_
  rw [evalPart_none]
  refine wpAny_pure ?_
  obtain ⟨l, b, xs, ys, c, rfl, rfl, rfl, gl, gb, ne, hc, sz, q⟩ := q3
  have I4 : Inv X pins σ H3 { s3 with heap := s3.heap.push { cls := .type "slice", data := .fields #[.none, uv, .none] } } := I3.kept (t' := s3.toks) fun _ _ q => Heap.get?_push_of_some _ q
  cases r1
  cases r
  obtain ⟨t, rfl⟩ := r3
  obtain ⟨z1, its, n1, v1, len1, e1⟩ := I4.lstM gl
  obtain ⟨z2, its2, n2, v2, len2, e2⟩ := I4.lstM gb
  refine wpAny_bind (wpAny_standAt (wpAny_bind (wpAny_holding ?_)))
  refine set_low e1 e2 ne (Heap.IsSliceOf.new ..) (.int _ _) (by rw [← len1]; exact hc) (by rw [← len1, ← len2]; exact sz) ?_
  refine wpAny_release ⟨σ, _, I4.lset (its' := its2 ++ its.drop c) (t' := s3.toks) gl e1 (head_splice its its2 c) (Vals.append v2 (v1.drop _)) ?_, q⟩
  rw [List.length_append, List.length_drop]
  omega
section
variable {K : PySem.W.Frag} {σ : L2.St} {H : Hp} {te to tu : TE} {D : Ends} {tz : TS}
/-- xs[:c] = ys[..], ys new -/
theorem q_sl0 {l : Addr} {xs ys : List V} (c : Nat) (hl : H l = some (.lst xs)) (h : EvL te σ H ys) (ho : Ev to σ H (.ref l)) (hu : Ev tu σ H (.int (c : Int))) (hc : c ≤ xs.length) (sz : xs.length + ys.length ≤ 100000)
    (k : ∀ H1, Ex H H1 → tz D σ (upd H1 l (.lst (ys ++ xs.drop c)))) : tSeq (tAsg te (gSl0 to tu)) tz D σ H := h H (Ex.refl H) _ fun b H1 hb e1 g1 => ho H1 e1 _ fun H2 e2 => hu H2 (e1.trans e2) _ fun H3 e3 =>
  ⟨l, b, xs, ys, c, rfl, rfl, rfl, (e2.trans e3) l _ (e1 l _ hl), (e2.trans e3) b _ g1, (fun e => by rw [e, hb] at hl; cases hl), hc, sz_of sz, k H3 ((e1.trans e2).trans e3)⟩
end
end Nd
/-! Own classes: operators by own methods, instances made by an __init__ that may raise. -/
namespace Nd
open PySem PySem.Spec PyProof.Rows L2 Evl
section
variable {X : Cx} {pins : List (Addr × Obj)} {σ : L2.St} {H : Hp} {s : Shared} {a C dx f : Addr} {fs : List (Str × V)}
theorem fr_of (I : Inv X pins σ H s) : ∃ m, Fr X.base X.env.locals s.heap m := by
  obtain ⟨m, n, _⟩ := I.loc
  exact ⟨m, n, I.bk, Nat.le_trans I.ok.bsz I.ok.above⟩
theorem inst_of (I : Inv X pins σ H s) (e : H a = some (.ins C dx fs)) : ∃ ox od, PySem.W.InstAt s.heap a ox C od := by
  obtain ⟨mA, O, _⟩ := ins_get I.hok e
  obtain ⟨od, J, _⟩ := O.look
  exact ⟨_, _, J⟩
theorem no_back {v : V} : ¬ RelV v .notImplemented := by
  intro h
  cases v <;> first | (cases h; done) | (obtain ⟨_, e⟩ := h; cases e) | exact h.elim
theorem back_of {Q : VK} {u : Value} {s' : Shared} (h : EP X pins σ Q u s') : PySem.W.CmpBack (EP X pins σ Q) u s' := by
  cases u with
  | notImplemented =>
    obtain ⟨v, H', J, rv, q⟩ := h
    exact (no_back rv).elim
  | _ => exact h
end
/-- what the text says of an own operator method -/
structure OwnOp (K : PySem.W.Frag) (C f : Addr) (op : Operator) : Prop where
  at_ : PySem.W.findIn K (.ref C) (PySem.dunder op.info.2) = some (some (.ref f))
  fn : PySem.W.isFn K (.ref f) = true
  sf : PySem.W.selfFirst K C = true
/-- .. where the right one may be an int -/
structure OwnInt (K : PySem.W.Frag) (C : Addr) (op : Operator) : Prop where
  hr : PySem.W.findIn K (.ref C) (PySem.dunderR op.info.2) = some none
  h1 : ∃ fo, PySem.W.findIn K (.type "int") (PySem.dunder op.info.2) = some fo
  h2 : ∃ ro, PySem.W.findIn K (.type "int") (PySem.dunderR op.info.2) = some ro
  sub : PySem.W.subIn K (.type "int") (.ref C) = some false
def tOpOwn (C : Addr) (sp : Sp) (E : L2.St → XK) (tl tr : TE) : TE := fun σ H Q => tl σ H fun x H1 => tr σ H1 fun y H2 =>
  (∃ a dx fs, x = .ref a ∧ H2 a = some (.ins C dx fs)) ∧ ((∃ b dy gs, y = .ref b ∧ H2 b = some (.ins C dy gs)) ∨ ∃ z : Int, y = .int z) ∧ sp [x, y] H2 Q (E σ)
def tUnOwn (C : Addr) (sp : Sp) (E : L2.St → XK) (te : TE) : TE := fun σ H Q => te σ H fun x H1 => (∃ a dx fs, x = .ref a ∧ H1 a = some (.ins C dx fs)) ∧ sp [x] H1 Q (E σ)
section
variable {X : Cx} {C f : Addr} {fd : FuncData} {ps : List Str} {sp : Sp} {k : Nat} {W : WX} {l r e : Expr} {tl tr te : TE} {pos : Pos}
theorem pe_opOwn {op : Operator} (M : OwnOp X.K C f op) (N : OwnInt X.K C op) (F : FnOk X.prog X.w X.K X.mg X.base (L2.CX X.prog X.w) k f fd ps sp) (hr : Room k X.A) (hb : Binds X.K fd ps []) (tk : Takes X W) (h1 : PE X l tl) (h2 : PE X r tr) :
    PE X (.BinOp l op r pos) (tOpOwn C sp (WE W) tl tr) := by
  refine ⟨fun pins s σ H Q I h => ?_⟩
  refine wpAny_BinOp (binT h1 h2 I h fun v u s2 x y H2 I2 rx ry q => ?_)
  obtain ⟨⟨a, dx, fs, rfl, ea⟩, hy, q⟩ := q
  obtain rfl : v = .ref a := rx
  obtain ⟨ox, od, IA⟩ := inst_of I2 ea
  obtain ⟨m, Fm⟩ := fr_of I2
  have run := run_fnS (us := [.ref a, u]) (vs := [.ref a, y]) F hr hb (passAt tk σ) I2 (.cons rfl (.cons ry .nil)) q
  have run2 := wpAny_mono run (fun u' s' hq => back_of hq) fun _ _ z => z
  rcases hy with ⟨b, dy, gs, rfl, eb⟩ | ⟨z, rfl⟩
  · obtain rfl : u = .ref b := ry
    obtain ⟨ob, od2, IB⟩ := inst_of I2 eb
    exact PySem.W.binop_K Fm I2.mod.kin IA IB.type M.sf M.at_ M.fn run2
  · obtain ⟨t, rfl⟩ := ry
    obtain ⟨fo, h1⟩ := N.h1
    obtain ⟨ro, h2⟩ := N.h2
    exact PySem.W.ksp_binT Fm I2.mod.kin IA rfl M.sf M.at_ M.fn N.hr (.inl rfl) h1 h2 N.sub run2
theorem pe_negOwn (hm : PySem.W.findIn X.K (.ref C) "__neg__" = some (some (.ref f))) (hf : PySem.W.isFn X.K (.ref f) = true) (F : FnOk X.prog X.w X.K X.mg X.base (L2.CX X.prog X.w) k f fd ps sp) (hr : Room k X.A) (hb : Binds X.K fd ps []) (tk : Takes X W) (h1 : PE X e te) :
    PE X (.UnaryOp .USub e pos) (tUnOwn C sp (WE W) te) := by
  refine ⟨fun pins s σ H Q I h => ?_⟩
  refine UnaryOp_ (thn (h1.run pins s σ H _ I h) fun v s2 ⟨x, H2, I2, rx, q⟩ => ?_)
  obtain ⟨⟨a, dx, fs, rfl, ea⟩, q⟩ := q
  obtain rfl : v = .ref a := rx
  obtain ⟨ox, od, IA⟩ := inst_of I2 ea
  obtain ⟨m, Fm⟩ := fr_of I2
  exact PySem.W.ksp_neg Fm I2.mod.kin IA hm hf (run_fnS (us := [.ref a]) (vs := [.ref a]) F hr hb (passAt tk σ) I2 (.cons rfl .nil) q)
end
end Nd
namespace Nd
open PySem PySem.Spec PyProof.Rows L2 Evl
/-- x == y by the class's own __eq__, which raises nothing -/
def rEqOwn (C : Addr) (sp : Sp) : R2 := fun x y H Q => (∃ a dx fs, x = .ref a ∧ H a = some (.ins C dx fs)) ∧ ((∃ b dy gs, y = .ref b ∧ H b = some (.ins C dy gs)) ∨ ∃ z : Int, y = .int z) ∧ sp [x, y] H Q E0
section
variable {X : Cx} {C f : Addr} {fd : FuncData} {ps : List Str} {sp : Sp} {k : Nat}
theorem op_eqOwn (hm : PySem.W.findIn X.K (.ref C) "__eq__" = some (some (.ref f))) (hf : PySem.W.isFn X.K (.ref f) = true) (hs : PySem.W.notFirst X.K C (.type "int") = true) (F : FnOk X.prog X.w X.K X.mg X.base CX0 k f fd ps sp) (hr : Room k X.A) (hb : Binds X.K fd ps []) :
    OpR X (compareOp .Eq) (rEqOwn C sp) := by
  intro pins s σ H x y v u Q I rx ry q
  obtain ⟨⟨a, dx, fs, rfl, ea⟩, hy, q⟩ := q
  obtain rfl : v = .ref a := rx
  obtain ⟨ox, od, IA⟩ := inst_of I ea
  obtain ⟨m, Fm⟩ := fr_of I
  have run := run_fn (us := [.ref a, u]) (vs := [.ref a, y]) (dvs := []) (ds := []) F hr hb .nil pass0 I (.cons rfl (.cons ry .nil)) q
  have run2 := wpAny_mono run (fun u' s' hq => back_of hq) fun _ _ z => z
  have hu : X.A.units < cLine := by have := hr.units; omega
  show wpAny _ _ (richCompare .Eq (.ref a) u) _ _ _
  rcases hy with ⟨b, dy, gs, rfl, eb⟩ | ⟨z, rfl⟩
  · obtain rfl : u = .ref b := ry
    obtain ⟨ob, od2, IB⟩ := inst_of I eb
    exact PySem.W.cmp_K (op := .Eq) hu Fm I.mod.kin IA IB.type (by simp [PySem.W.notFirst]) hm hf run2
  · obtain ⟨t, rfl⟩ := ry
    exact PySem.W.cmp_K (op := .Eq) hu Fm I.mod.kin IA (PySem.W.Looks.of_pure rfl) hs hm hf run2
end
end Nd
namespace Nd
open PySem PySem.Spec PyProof.Rows L2 Evl
section
variable {prog : Program} {w : World}
theorem in_bool_own (x : Addr) : MeetsIn prog w (Builtin.«bool.__new__» ⟨[.type "bool", .ref x], []⟩) (fun A R s => wpAny (model prog w) A.in1 (truthy (.ref x)) (fun b s' => R (.ok (.ret (.bool b))) s') (fun e s' => R (.error e) s') s) :=
  .of_wp fun A R s h => by
    have f1 := F.conv_sub_bool
    obtain ⟨hp, g, d, tk, os⟩ := s
    repeat (any_goals (first | assumption | (with_reducible refine wpAny_mono h (fun b s' hb => ?_) (fun e s' he => he)) | wp_step))
    all_goals exact ⟨_, rfl, hb⟩
end
section
variable {X : Cx} {C f : Addr} {fd : FuncData} {ps : List Str} {sp : Sp} {k : Nat}
/-- the callee runs somewhere below the body -/
theorem run_below {pins : List (Addr × Obj)} {σ : L2.St} {H : Hp} {s : Shared} {Q : VK} {us : List Value} {vs : List V} {A : Around} {CX : CXT} {E : XK} (F : FnOk X.prog X.w X.K X.mg X.base CX k f fd ps sp) (hr : Room k A) (e0 : Env0 X.prog X.w X.K X.mg X.base A X.stack s H) (hb : Binds X.K fd ps [])
    (hx : ∀ e s', CX X.stack H s E e s' → X.xe e s') (I : Inv X pins σ H s) (r : Vals vs us) (h : sp vs H Q E) : wpAny (model X.prog X.w) A (call (.ref f) us) (EP X pins σ Q) X.xe s := by
  have hl : us.length = ps.length := by rw [← r.length]; exact F.len _ _ _ _ h
  have b := hb s us I.kIn (by rw [List.append_nil]; exact hl)
  rw [List.append_nil] at b
  refine wpAny_call (codeAny_mono (F.run A X.stack s H ⟨us, []⟩ us vs Q E hr e0 b r h) fun r s' hq => ?_)
  cases r with
  | error e => exact hx e s' hq
  | ok fl =>
    cases fl with
    | ret u => exact I.after hq
    | next => exact False.elim hq
    | brk => exact False.elim hq
    | cont => exact False.elim hq
def rBoolOwn (C : Addr) (sp : Sp) : List V → Hp → VK → Prop := fun xs H Q => ∃ a dx fs, xs = [.ref a] ∧ H a = some (.ins C dx fs) ∧ sp [.ref a] H (fun v H' => ∃ b, v = .bl b ∧ Q v H') E0
/-- bool(x) by the class's own __bool__, which raises nothing and gives a bool -/
theorem call_boolOwn (hm : PySem.W.findIn X.K (.ref C) "__bool__" = some (some (.ref f))) (hf : PySem.W.isFn X.K (.ref f) = true) (F : FnOk X.prog X.w X.K X.mg X.base CX0 k f fd ps sp) (hr : Room (k + 2) X.A) (hb : Binds X.K fd ps []) : CallR X (.type "bool") (rBoolOwn C sp) := by
  intro pins s σ H xs us Q I r h
  obtain ⟨a, dx, fs, rfl, ea, q⟩ := h
  obtain ⟨u, rfl, r1⟩ := vals1 r
  obtain rfl : u = .ref a := r1
  obtain ⟨ox, od, IA⟩ := inst_of I ea
  obtain ⟨m, Fm⟩ := fr_of I
  refine callType_newIn PySem.F.called_bool PySem.F.newNe_bool (PySem.F.typeCall_bool_1 _) (PySem.F.newCall_bool_1 _) (fun obj => PySem.F.args_object_init_2 obj _) PySem.F.entry_bool_new (in_bool_own a) ?_
  refine PySem.W.truthy_K Fm I.mod.kin IA hm hf ?_
  refine wpAny_mono (run_below (A := X.A.in1.in1) (us := [.ref a]) (vs := [.ref a]) F hr.in1.in1 I.env0.in1.in1 hb (fun _ _ z => z.elim) I (.cons rfl .nil) q) (fun v s' hv => ?_) fun _ _ z => z
  obtain ⟨v', H', J, rv, b, rfl, q'⟩ := hv
  obtain rfl := rv
  exact ⟨(rfl : _), .bl b, H', J, rfl, q'⟩
end
end Nd
namespace Nd
open PySem PySem.Spec PyProof.Rows L2 Evl PySem.Calls PySem.F
section
variable {X : Cx} {C f : Addr} {fd : FuncData} {ps : List Str} {sp : Sp} {k : Nat}
/-- a call's error leaves from below the body too -/
theorem pass_below {W : WX} (tk : Takes X W) {pins : List (Addr × Obj)} {σ : L2.St} {H : Hp} {s : Shared} (I : Inv X pins σ H s) : ∀ e s', L2.CX X.prog X.w X.stack H s (WE W σ) e s' → X.xe e s' := fun e s' c => passAt tk σ pins H s e s' I c
end
end Nd
namespace Nd
open PySem PySem.Spec PyProof.Rows L2 Evl PySem.Calls PySem.F
theorem cx_E0 {P : Program} {w : World} {outer : List Env} {H : Hp} {s : Shared} {e : Value} {s' : Shared} : L2.CX P w outer H s E0 e s' → False := fun ⟨_, _, _, _, _, _, _, _, _, _, _, _, h⟩ => h
section
variable {X : Cx} {C f : Addr} {fd : FuncData} {ps : List Str} {sp : Sp} {k : Nat} {W : WX}
def rOwn1 (C : Addr) (sp : Sp) : List V → Hp → VK → Prop := fun xs H Q => ∃ a dx fs, xs = [.ref a] ∧ H a = some (.ins C dx fs) ∧ sp [.ref a] H Q E0
/-- abs(x) by the class's own __abs__ that is not refused here -/
theorem call_absOwn (hm : PySem.W.findIn X.K (.ref C) "__abs__" = some (some (.ref f))) (hf : PySem.W.isFn X.K (.ref f) = true) (Fn : FnOk X.prog X.w X.K X.mg X.base (L2.CX X.prog X.w) k f fd ps sp) (hr : Room (k + 1) X.A) (hb : Binds X.K fd ps []) : CallR X (.builtin "abs") (rOwn1 C sp) := by
  intro pins s σ H xs us Q I r h
  obtain ⟨a, dx, fs, rfl, ea, q⟩ := h
  obtain ⟨u, rfl, r1⟩ := vals1 r
  obtain rfl : u = .ref a := r1
  obtain ⟨ox, od, IA⟩ := inst_of I ea
  refine call_function_entry kind_abs plain_abs entry_abs (args_abs _) ?_
  unfold Builtin.«abs»
  refine wpAny_bind (m := oneArg "abs" _) (wpAny_pure ?_)
  refine wpAny_bind (m := callSpecial? (.ref a) (Str.ofString "__abs__")) (PySem.W.special_fn I.kIn IA hm (beq_iff_eq.mp hf) ?_)
  refine wpAny_mono (run_below (A := X.A.in1) (us := [.ref a]) (vs := [.ref a]) Fn hr.in1 I.env0.in1 hb (fun _ _ z => (cx_E0 z).elim) I (.cons rfl .nil) q) (fun v s' hv => ?_) fun _ _ z => z
  exact wpAny_pure ⟨_, rfl, hv⟩
/-- C(..): the class's __init__ may raise -/
theorem run_makeS {pins : List (Addr × Obj)} {σ : L2.St} {H : Hp} {s : Shared} {Q : VK} {us ds : List Value} {vs dvs : List V} (M : Mk X.K C f) (Fn : FnOk X.prog X.w X.K X.mg X.base (L2.CX X.prog X.w) k f fd ps sp) (hr : Room (k + 1) X.A) (hb : Binds X.K fd ps ds) (hd : Vals dvs ds) (tk : Takes X W)
    (I : Inv X pins σ H s) (r : Vals vs us) (h : ∀ x dx, H x = none → H dx = none → dx ≠ x → sp (.ref x :: (vs ++ dvs)) (upd (upd H dx (.own x)) x (.ins C dx [])) (fun v H2 => v = .non ∧ Q (.ref x) H2) (WE W σ)) :
    wpAny (model X.prog X.w) X.A (call (.ref C) us) (EP X pins σ Q) X.xe s := by
  have go := h (s.heap.objs.size + 1) s.heap.objs.size (I.hok.fresh (Nat.le_succ _)) (I.hok.fresh (Nat.le_refl _)) (Nat.ne_of_lt (Nat.lt_succ_self _))
  have J := Inv.made (C := C) I
  have rr : Vals (V.ref (s.heap.objs.size + 1) :: (vs ++ dvs)) (Value.ref (s.heap.objs.size + 1) :: (us ++ ds)) := .cons rfl (r.append hd)
  have len : (Value.ref (s.heap.objs.size + 1) :: us ++ ds).length = ps.length := (rr.length.symm.trans (Fn.len _ _ _ _ go))
  have run := Fn.run _ X.stack _ _ ⟨Value.ref (s.heap.objs.size + 1) :: us, []⟩ (Value.ref (s.heap.objs.size + 1) :: (us ++ ds)) _ _ _ (hr.make C us []) (J.env0.make C us []) (hb _ (Value.ref (s.heap.objs.size + 1) :: us) J.kIn len) rr go
  refine wpAny_call (make_map (f := f) I.kIn M.makes M.init (beq_iff_eq.mp M.fn) (codeAny_mono run fun res s' hq => ?_))
  cases res with
  | error e => exact pass_below tk J e s' hq
  | ok fl =>
    cases fl with
    | ret u =>
      obtain ⟨v, H', J2, rv, ev, q3⟩ := J.after hq
      subst ev
      exact ⟨rv, ⟨V.ref (s.heap.objs.size + 1), H', J2, rfl, q3⟩⟩
    | next => exact hq.elim
    | brk => exact hq.elim
    | cont => exact hq.elim
end
end Nd
/-! Methods by name; instances made; static methods; lcm of great numbers. -/
namespace Nd
open PySem PySem.Spec PyProof.Rows L2 Evl
section
variable {P : Program} {w : World} {K : PySem.W.Frag} {mg : Str → Option Value} {base : Heap}
/-- the method m of the class at C has this body -/
structure MethAt (K : PySem.W.Frag) (C : Addr) (m qual : Str) (st : Stmt) (ps : List Str) : Prop where
  ex : ∃ f fd, Fun K m qual st f fd ∧ Meth K C m f ∧ Binds K fd ps []
/-- .. keeps a promise -/
structure HasM (P : Program) (w : World) (K : PySem.W.Frag) (mg : Str → Option Value) (base : Heap) (k : Nat) (C : Addr) (m : Str) (ps : List Str) (sp : Sp) : Prop where
  ex : ∃ f fd, FnOk P w K mg base (L2.CX P w) k f fd ps sp ∧ Meth K C m f ∧ Binds K fd ps []
theorem MethAt.has {C : Addr} {m qual : Str} {st : Stmt} {N ps : List Str} {k : Nat} {sp : Sp} (D : MethAt K C m qual st ps) (S : FnScope N ps (defScope st)) (len : ∀ vs H Q E, sp vs H Q E → vs.length = ps.length)
    (hbody : ∀ (f : Addr) (cdv : Value) (A : Around) (outer : List Env) (s : Shared) (H : Hp) (vs : List V) (Q : VK) (E : XK), Room k (A.deeper (envOfC qual (defScope st) s.heap.objs.size f cdv)) → sp vs H Q E →
      ∃ t, PSs (cxOf (L2.CX P w) P w K mg base N qual (defScope st) f cdv A outer s H E) (defBody st) t ∧ t { nx := fun _ H' => Q .non H', rt := Q } (L2.start N vs) H) : HasM P w K mg base (k + 1) C m ps sp := by
  obtain ⟨f, fd, Fn, hm, hb⟩ := D.ex
  exact ⟨f, fd, Fn.okX S len fun cdv A outer s H vs Q E hr h => hbody f cdv A outer s H vs Q E hr h, hm, hb⟩
end
/-- o.m(..): the instance, the arguments, the method's promise -/
def tMetS (C : Addr) (m : Str) (sp : Sp) (E : L2.St → XK) (ta : TE) (t : TA) : TE := fun σ H Q => ta σ H fun x H1 => ∃ a dx fs, x = .ref a ∧ H1 a = some (.ins C dx fs) ∧ fs.lookup m = none ∧ t σ H1 fun vs H2 => sp (x :: vs) H2 Q (E σ)
/-- C(..) -/
def tMakS (C : Addr) (sp : Sp) (dvs : List V) (E : L2.St → XK) (t : TA) : TE := fun σ H Q => t σ H fun vs H1 => ∀ x dx, H1 x = none → H1 dx = none → dx ≠ x → sp (.ref x :: (vs ++ dvs)) (upd (upd H1 dx (.own x)) x (.ins C dx [])) (fun v H2 => v = .non ∧ Q (.ref x) H2) (E σ)
section
variable {X : Cx} {C : Addr} {m x : Str} {ps : List Str} {sp : Sp} {k : Nat} {W : WX} {o e : Expr} {es : List Expr} {ta : TE} {t : TA} {p pos apos : Pos} {pl : Sem Bool}
theorem pe_metR (he : PE X o ta) (c : Cls X.K C) (G : HasM X.prog X.w X.K X.mg X.base k C m ps sp) (hr : Room k X.A) (tk : Takes X W) (ha : PA X (e :: es) t)
    (hst : starEach (e :: es) X.env = (false, eval e X.env) :: starEach es X.env := by rfl) (hpl : (backTo pos (starEach es X.env)).any (·.1) = false := by rfl)
    (ht : eval (.Call (.Attribute o m apos) (e :: es) [] pos) X.env = (do
      let ov ← eval o X.env
      standAt apos.atName
      let (f, first) ← holding [ov] (getMethod ov m pl)
      callWith pos f first (backTo pos (starEach (e :: es) X.env)) (backToKw pos (keywordEach [] X.env))) := by rfl) :
    PE X (.Call (.Attribute o m apos) (e :: es) [] pos) (tMetS C m sp (WE W) ta t) := by
  obtain ⟨f, fd, Fn, hm, hb⟩ := G.ex
  refine ⟨fun pins s σ H Q I h => PySem.W.methodCall_KW (pl := pl) (thn (he.run pins s σ H _ I h) fun u s1 ⟨y, H1, I1, rx, a, dx, fs, ex, ea, l, q⟩ => ?_) ht⟩
  subst ex
  obtain rfl : u = Value.ref a := rx
  refine getmeth_ok I1 ea c hm l (PySem.W.callWith_K (first := [.ref a]) (h₀ := X.base) I.ok.mod.kin hm.kp (thn (ha.run pos pins s1 σ H1 _ I1 q) fun us s2 ⟨vs, H2, I2, r, q2⟩ => ⟨I2.kIn, ?_⟩) hst hpl)
  exact run_fnS (us := .ref a :: us) (vs := .ref a :: vs) Fn hr hb (passAt tk σ) I2 (.cons rfl r) q2
theorem pe_metR0 (he : PE X o ta) (c : Cls X.K C) (G : HasM X.prog X.w X.K X.mg X.base k C m ps sp) (hr : Room k X.A) (tk : Takes X W)
    (ht : eval (.Call (.Attribute o m apos) [] [] pos) X.env = (do
      let ov ← eval o X.env
      standAt apos.atName
      let (f, first) ← holding [ov] (getMethod ov m pl)
      callWith pos f first (backTo pos (starEach [] X.env)) (backToKw pos (keywordEach [] X.env))) := by rfl) :
    PE X (.Call (.Attribute o m apos) [] [] pos) (tMetS C m sp (WE W) ta tNil) := by
  obtain ⟨f, fd, Fn, hm, hb⟩ := G.ex
  refine ⟨fun pins s σ H Q I h => PySem.W.methodCall_KW (pl := pl) (thn (he.run pins s σ H _ I h) fun u s1 ⟨y, H1, I1, rx, a, dx, fs, ex, ea, l, q⟩ => ?_) ht⟩
  subst ex
  obtain rfl : u = Value.ref a := rx
  exact getmeth_ok I1 ea c hm l (PySem.W.callWith_K0 (first := [.ref a]) I1.kIn hm.kp (run_fnS (us := [.ref a]) (vs := [.ref a]) Fn hr hb (passAt tk σ) I1 (.cons rfl .nil) q))
/-- what the text says of a class that is made by C(..), its __init__ keeping sp -/
structure MakC (P : Program) (w : World) (K : PySem.W.Frag) (mg : Str → Option Value) (base : Heap) (k : Nat) (C : Addr) (x : Str) (ps : List Str) (sp : Sp) : Prop where
  ex : ∃ f fd, FnOk P w K mg base (L2.CX P w) k f fd ps sp ∧ Mk K C f ∧ Binds K fd ps []
  g : mg x = some (.ref C)
theorem pe_makR (M : MakC X.prog X.w X.K X.mg X.base k C x ps sp) (hr : Room (k + 1) X.A) (tk : Takes X W) (ha : PA X (e :: es) t) (hg : Gl X x := by rfl) (hdb : (x == ("__debug__" : Str)) = false := by decide)
    (hst : starEach (e :: es) X.env = (false, eval e X.env) :: starEach es X.env := by rfl) (hpl : (backTo pos (starEach es X.env)).any (·.1) = false := by rfl) : PE X (.Call (.Name x p) (e :: es) [] pos) (tMakS C sp [] (WE W) t) := by
  obtain ⟨f, fd, Fn, M1, hb⟩ := M.ex
  refine ⟨fun pins s σ H Q I h => wpAny_Call_Name_kw (ld_glob I hg M.g ?_ hdb)⟩
  refine PySem.W.callWith_K (h₀ := X.base) I.ok.mod.kin M1.kp (thn (ha.run pos pins s σ H _ I h) fun us s1 ⟨vs, H1, I1, r, q⟩ => ⟨I1.kIn, ?_⟩) hst hpl
  exact run_makeS M1 Fn hr hb .nil tk I1 r q
/-- .. with the last parameter left to its default, an int -/
structure MakD (P : Program) (w : World) (K : PySem.W.Frag) (mg : Str → Option Value) (base : Heap) (k : Nat) (C : Addr) (x : Str) (ps : List Str) (sp : Sp) (d : Int) : Prop where
  ex : ∃ f fd t, FnOk P w K mg base (L2.CX P w) k f fd ps sp ∧ Mk K C f ∧ Binds K fd ps [.int d t]
  g : mg x = some (.ref C)
theorem pe_makD {d : Int} (M : MakD X.prog X.w X.K X.mg X.base k C x ps sp d) (hr : Room (k + 1) X.A) (tk : Takes X W) (ha : PA X (e :: es) t) (hg : Gl X x := by rfl) (hdb : (x == ("__debug__" : Str)) = false := by decide)
    (hst : starEach (e :: es) X.env = (false, eval e X.env) :: starEach es X.env := by rfl) (hpl : (backTo pos (starEach es X.env)).any (·.1) = false := by rfl) : PE X (.Call (.Name x p) (e :: es) [] pos) (tMakS C sp [.int d] (WE W) t) := by
  obtain ⟨f, fd, td, Fn, M1, hb⟩ := M.ex
  refine ⟨fun pins s σ H Q I h => wpAny_Call_Name_kw (ld_glob I hg M.g ?_ hdb)⟩
  refine PySem.W.callWith_K (h₀ := X.base) I.ok.mod.kin M1.kp (thn (ha.run pos pins s σ H _ I h) fun us s1 ⟨vs, H1, I1, r, q⟩ => ⟨I1.kIn, ?_⟩) hst hpl
  exact run_makeS (dvs := [.int d]) M1 Fn hr hb (.cons (show RelV (.int d) _ from ⟨td, rfl⟩) .nil) tk I1 r q
/-- C.m is a staticmethod: its record at q, its def at g -/
structure StaM (K : PySem.W.Frag) (C : Addr) (mc : Value) (m : Str) (q g : Addr) : Prop where
  rd : ClX.CRead K C mc
  at_ : PySem.W.findCls K (.ref C) mc m = some (.get (.builtin "staticmethod.__get__") (.ref q) .none (.ref C))
  rc : ∃ rest, PySem.W.recIn K q "staticmethod" = some (.ref g :: rest)
  kp : PySem.W.keepIn K (.ref g) = true
structure HasS (P : Program) (w : World) (K : PySem.W.Frag) (mg : Str → Option Value) (base : Heap) (k : Nat) (C : Addr) (m : Str) (ps : List Str) (sp : Sp) : Prop where
  ex : ∃ f fd mc q, FnOk P w K mg base (L2.CX P w) k f fd ps sp ∧ StaM K C mc m q f ∧ Binds K fd ps []
def tStaS (C : Addr) (sp : Sp) (E : L2.St → XK) (ta : TE) (t : TA) : TE := fun σ H Q => ta σ H fun x H1 => x = .ref C ∧ t σ H1 fun vs H2 => sp vs H2 Q (E σ)
theorem pe_staR (he : PE X o ta) (G : HasS X.prog X.w X.K X.mg X.base k C m ps sp) (hr : Room k X.A) (tk : Takes X W) (ha : PA X (e :: es) t)
    (hst : starEach (e :: es) X.env = (false, eval e X.env) :: starEach es X.env := by rfl) (hpl : (backTo pos (starEach es X.env)).any (·.1) = false := by rfl)
    (ht : eval (.Call (.Attribute o m apos) (e :: es) [] pos) X.env = (do
      let ov ← eval o X.env
      standAt apos.atName
      let (f, first) ← holding [ov] (getMethod ov m pl)
      callWith pos f first (backTo pos (starEach (e :: es) X.env)) (backToKw pos (keywordEach [] X.env))) := by rfl) :
    PE X (.Call (.Attribute o m apos) (e :: es) [] pos) (tStaS C sp (WE W) ta t) := by
  obtain ⟨f, fd, mc, q, Fn, S, hb⟩ := G.ex
  refine ⟨fun pins s σ H Q I h => PySem.W.methodCall_KW (pl := pl) (thn (he.run pins s σ H _ I h) fun u s1 ⟨y, H1, I1, rx, ex, g⟩ => ?_) ht⟩
  subst ex
  obtain rfl : u = Value.ref C := rx
  obtain ⟨rest, hrc⟩ := S.rc
  refine PySem.W.method_cls I1.kIn S.rd.ga (PySem.W.cls_bind I1.kIn S.rd.rd S.at_ (wpAny_call (PySem.W.sm_get (s := { s1 with toks := s1.toks + 1 }) I1.kIn hrc (PySem.W.handed_on rfl ?_))))
  have I2 := I1.tok (s1.toks + 1)
  refine PySem.W.callWith_K (first := []) (h₀ := X.base) I.ok.mod.kin S.kp (thn (ha.run pos pins _ σ H1 _ I2 g) fun us s2 ⟨vs, H2, I3, r, q2⟩ => ⟨I3.kIn, ?_⟩) hst hpl
  exact run_fnS (us := us) (vs := vs) Fn hr hb (passAt tk σ) I3 r q2
/-- math.lcm of numbers below 450 digits of thirty bits -/
theorem cr_lcmW : CallR X (.builtin "math.lcm") (fun vs H Q => ∃ a b : Int, vs = [.int a, .int b] ∧ a.natAbs < 2 ^ 13500 ∧ b.natAbs < 2 ^ 13500 ∧ Q (.int ((Nat.lcm a.natAbs b.natAbs : Nat) : Int)) H) := by
  intro pins s σ H vs us Q I r h
  obtain ⟨a, b, rfl, ha, hb, q⟩ := h
  obtain ⟨t, u, rfl⟩ := Vals.int2 r
  have l1 : (max 1 a.natAbs).log2 ≤ 13499 := PySem.W.mg_log (by show max 1 a.natAbs < 2 ^ 13500; exact Nat.max_lt.mpr ⟨Nat.one_lt_two_pow (by decide), ha⟩)
  have l2 : (max a.natAbs b.natAbs).log2 ≤ 13499 := PySem.W.mg_log (by show max a.natAbs b.natAbs < 2 ^ 13500; exact Nat.max_lt.mpr ⟨ha, hb⟩)
  have e : Nat.lcm 1 a.natAbs = a.natAbs := by simp [Nat.lcm]
  have sz : ((((Nat.lcm 1 a.natAbs).lcm b.natAbs : Nat) : Int)).natAbs.log2 < bitsLine := by
    rw [e, Int.natAbs_natCast]
    have le : a.natAbs.lcm b.natAbs ≤ a.natAbs * b.natAbs := Nat.div_le_self _ _
    have lt : a.natAbs * b.natAbs < 2 ^ 27000 := by
      have : a.natAbs * b.natAbs < 2 ^ 13500 * 2 ^ 13500 := Nat.mul_lt_mul'' ha hb
      rwa [← Nat.pow_add] at this
    exact Nat.lt_of_le_of_lt (PySem.W.mg_log (k := 26999) (Nat.lt_of_le_of_lt le lt)) (by decide)
  refine PySem.call_function_meets PySem.W.MGF.kind_lcm PySem.W.MGF.plain_lcm PySem.W.MGF.entry_lcm (PySem.W.MGF.args_lcm _ _) (PySem.W.mg_run_lcm a t b u (by omega) (by omega) sz).meets ?_
  rw [e]
  exact ⟨.int _, H, I.tok _, ⟨_, rfl⟩, q⟩
end
end Nd
/-! Great numbers divided; bundles for own operators; instances as results; comprehensions that make objects. -/
namespace Nd
open PySem PySem.Spec PyProof.Rows L2 Evl
/-- // of a number below 450 digits of thirty bits -/
def CDivV (i j : Int) : Prop := 0 < j ∧ i.natAbs < 2 ^ 13500
theorem noPylongV {x y : Int} (h : x.natAbs < 2 ^ 13500) : Builtin.divisionGoesByPylong x y = false := by
  have hx : (if x == 0 then 0 else x.natAbs.log2 / 30 + 1) ≤ 450 := by
    by_cases h0 : (x == 0) = true
    · rw [if_pos h0]; exact Nat.zero_le _
    · rw [if_neg h0]
      have : x.natAbs.log2 ≤ 13499 := PySem.W.mg_log h
      omega
  show (decide ((if y == 0 then 0 else y.natAbs.log2 / 30 + 1) > 300) && decide ((if x == 0 then 0 else x.natAbs.log2 / 30 + 1) > (if y == 0 then 0 else y.natAbs.log2 / 30 + 1) + 150)) = false
  generalize (if x == 0 then 0 else x.natAbs.log2 / 30 + 1) = a at *
  generalize (if y == 0 then 0 else y.natAbs.log2 / 30 + 1) = b
  by_cases hb : b > 300
  · rw [decide_eq_false (show ¬ a > b + 150 by omega), Bool.and_false]
  · rw [decide_eq_false hb, Bool.false_and]
def CPowW (i j : Int) : Prop := 0 ≤ j ∧ (Builtin.Int.intBits i : Int) * j ≤ 2 ^ 27
def rNotB : R2 := fun x y H Q => ∃ a b, x = .bl a ∧ y = .bl b ∧ Q (.bl (a != b)) H
section
variable {X : Cx}
theorem op_fdivV : OpR X (binaryOp .FloorDiv) (rI CDivV fun i j => .int (i / j)) := opI fun i j _ _ _ _ _ hc q => by
  have h1 : (0 : Int) < j := hc.1
  exact floordiv_int (by omega) (by rw [Int.fdiv_eq_ediv_of_nonneg i (by omega)]; exact q) (.inl (noPylongV hc.2))
theorem op_powW : OpR X (binaryOp .Pow) (rI CPowW fun i j => .int (i ^ j.toNat)) := opI fun _ _ _ _ _ _ _ hc q => pow_int hc.1 hc.2 q
theorem op_isnotB : OpR X (compareOp .IsNot) rNotB := by
  intro pins s σ H x y v u Q I rx ry h
  obtain ⟨a, b, rfl, rfl, q⟩ := h
  cases rx
  cases ry
  refine wpAny_isNot_plain rfl (fin_bl I q ?_)
  cases a <;> cases b <;> rfl
end
theorem cMulW {i j : Int} {a b : Nat} (ha : i.natAbs < 2 ^ a) (hb : j.natAbs < 2 ^ b) (h0 : 0 < a := by decide) (h1 : 0 < b := by decide) (h : a + b ≤ 1000000 := by decide) : CMulW i j := wide_mul ha hb h0 h1 h
/-! ### bundles -/
structure HasO (P : Program) (w : World) (K : PySem.W.Frag) (mg : Str → Option Value) (base : Heap) (k : Nat) (C : Addr) (op : Operator) (ps : List Str) (sp : Sp) : Prop where
  ex : ∃ f fd, FnOk P w K mg base (L2.CX P w) k f fd ps sp ∧ OwnOp K C f op ∧ Binds K fd ps []
  int : OwnInt K C op
structure HasF (P : Program) (w : World) (K : PySem.W.Frag) (mg : Str → Option Value) (base : Heap) (k : Nat) (C : Addr) (m : Str) (ps : List Str) (sp : Sp) : Prop where
  ex : ∃ f fd, FnOk P w K mg base (L2.CX P w) k f fd ps sp ∧ (PySem.W.findIn K (.ref C) m = some (some (.ref f)) ∧ PySem.W.isFn K (.ref f) = true) ∧ Binds K fd ps []
theorem HasM.f {P : Program} {w : World} {K : PySem.W.Frag} {mg : Str → Option Value} {base : Heap} {k : Nat} {C : Addr} {m : Str} {ps : List Str} {sp : Sp} (G : HasM P w K mg base k C m ps sp) : HasF P w K mg base k C m ps sp := by
  obtain ⟨f, fd, F, M, b⟩ := G.ex
  exact ⟨f, fd, F, ⟨M.at_, M.fn⟩, b⟩
theorem HasM.o {P : Program} {w : World} {K : PySem.W.Frag} {mg : Str → Option Value} {base : Heap} {k : Nat} {C : Addr} {m : Str} {ps : List Str} {sp : Sp} {op : Operator} (G : HasM P w K mg base k C m ps sp) (e : PySem.dunder op.info.2 = m) (sf : PySem.W.selfFirst K C = true) (N : OwnInt K C op) : HasO P w K mg base k C op ps sp := by
  obtain ⟨f, fd, F, M, b⟩ := G.ex
  exact ⟨⟨f, fd, F, ⟨by rw [e]; exact M.at_, M.fn, sf⟩, b⟩, N⟩
theorem FnOk_calm {P : Program} {w : World} {K : PySem.W.Frag} {mg : Str → Option Value} {base : Heap} {k : Nat} {f : Addr} {fd : FuncData} {ps : List Str} {sp : Sp} (F : FnOk P w K mg base (L2.CX P w) k f fd ps sp) : FnOk P w K mg base CX0 k f fd ps (fun vs H Q _ => sp vs H Q E0) :=
  ⟨fun vs H Q E q => F.len vs H Q E0 q, fun A outer s H args us vs Q E hr he hb hv hs => codeAny_mono (F.run A outer s H args us vs Q E0 hr he hb hv hs) fun r s' q => by
    cases r with
    | error e => exact (cx_E0 q).elim
    | ok fl => cases fl <;> exact q⟩
section
variable {X : Cx} {C : Addr} {m x : Str} {ps : List Str} {sp : Sp} {k : Nat} {W : WX} {o e l r : Expr} {es : List Expr} {te tl tr ta : TE} {t : TA} {p pos apos : Pos} {pl : Sem Bool}
theorem pe_opR {op : Operator} (G : HasO X.prog X.w X.K X.mg X.base k C op ps sp) (hr : Room k X.A) (tk : Takes X W) (h1 : PE X l tl) (h2 : PE X r tr) : PE X (.BinOp l op r pos) (tOpOwn C sp (WE W) tl tr) := by
  obtain ⟨f, fd, F, M, b⟩ := G.ex
  exact pe_opOwn M G.int F hr b tk h1 h2
theorem pe_negR (G : HasF X.prog X.w X.K X.mg X.base k C "__neg__" ps sp) (hr : Room k X.A) (tk : Takes X W) (h1 : PE X e te) : PE X (.UnaryOp .USub e pos) (tUnOwn C sp (WE W) te) := by
  obtain ⟨f, fd, F, M, b⟩ := G.ex
  exact pe_negOwn M.1 M.2 F hr b tk h1
theorem op_eqR (G : HasF X.prog X.w X.K X.mg X.base k C "__eq__" ps sp) (hs : PySem.W.notFirst X.K C (.type "int") = true) (hr : Room k X.A) : OpR X (compareOp .Eq) (rEqOwn C sp) := by
  obtain ⟨f, fd, F, M, b⟩ := G.ex
  have h := op_eqOwn (sp := fun vs H Q _ => sp vs H Q E0) M.1 M.2 hs (FnOk_calm F) hr b
  exact h
theorem call_boolR (G : HasF X.prog X.w X.K X.mg X.base k C "__bool__" ps sp) (hr : Room (k + 2) X.A) : CallR X (.type "bool") (rBoolOwn C sp) := by
  obtain ⟨f, fd, F, M, b⟩ := G.ex
  have h := call_boolOwn (sp := fun vs H Q _ => sp vs H Q E0) M.1 M.2 (FnOk_calm F) hr b
  exact h
theorem call_absR (G : HasF X.prog X.w X.K X.mg X.base k C "__abs__" ps sp) (hr : Room (k + 1) X.A) : CallR X (.builtin "abs") (rOwn1 C sp) := by
  obtain ⟨f, fd, F, M, b⟩ := G.ex
  exact call_absOwn M.1 M.2 F hr b
/-- the same call of the class where nothing is raised (in a comprehension's block) -/
theorem run_makeN {pins : List (Addr × Obj)} {σ : L2.St} {H : Hp} {s : Shared} {Q : VK} {us ds : List Value} {vs dvs : List V} {f : Addr} {fd : FuncData} (M : Mk X.K C f) (Fn : FnOk X.prog X.w X.K X.mg X.base (L2.CX X.prog X.w) k f fd ps sp) (hr : Room (k + 1) X.A) (hb : Binds X.K fd ps ds) (hd : Vals dvs ds)
    (I : Inv X pins σ H s) (r : Vals vs us) (h : ∀ x dx, H x = none → H dx = none → dx ≠ x → sp (.ref x :: (vs ++ dvs)) (upd (upd H dx (.own x)) x (.ins C dx [])) (fun v H2 => v = .non ∧ Q (.ref x) H2) E0) :
    wpAny (model X.prog X.w) X.A (call (.ref C) us) (EP X pins σ Q) X.xe s := run_make M Fn hr hb hd (fun pins σ H s e s' I c => (cx_E0 c).elim) I r h
theorem pe_makN (M : MakC X.prog X.w X.K X.mg X.base k C x ps sp) (hr : Room (k + 1) X.A) (ha : PA X (e :: es) t) (hg : Gl X x := by rfl) (hdb : (x == ("__debug__" : Str)) = false := by decide)
    (hst : starEach (e :: es) X.env = (false, eval e X.env) :: starEach es X.env := by rfl) (hpl : (backTo pos (starEach es X.env)).any (·.1) = false := by rfl) : PE X (.Call (.Name x p) (e :: es) [] pos) (tMakS C sp [] (fun _ => E0) t) := by
  obtain ⟨f, fd, Fn, M1, hb⟩ := M.ex
  refine ⟨fun pins s σ H Q I h => wpAny_Call_Name_kw (ld_glob I hg M.g ?_ hdb)⟩
  refine PySem.W.callWith_K (h₀ := X.base) I.ok.mod.kin M1.kp (thn (ha.run pos pins s σ H _ I h) fun us s1 ⟨vs, H1, I1, r, q⟩ => ⟨I1.kIn, ?_⟩) hst hpl
  exact run_makeN M1 Fn hr hb .nil I1 r q
end
theorem pe_fldK {X : Cx} (K : PySem.W.Frag) {e : Expr} {f : Str} {pos : Pos} {ta : TE} (he : PE X e ta) (hb : attributeBase e f X.env (eval e X.env) = eval e X.env := by rfl) (h : X.K = K := by rfl) : PE X (.Attribute e f pos) (tFld K ta f) := by subst h; exact pe_fld he hb
/-! ### readings -/
/-- a new instance of the class at C with these fields -/
def RetI (C : Addr) (fs : List (Str × V)) (H : Hp) (Q : VK) : Prop := ∀ a dx H2, H a = none → Ex H H2 → H2 a = some (.ins C dx fs) → Q (.ref a) H2
theorem RetI.mono {C : Addr} {fs : List (Str × V)} {H H' : Hp} {Q : VK} (h : RetI C fs H Q) (e : Ex H H') : RetI C fs H' Q := fun a dx H2 ha e2 g => h a dx H2 (fresh_back e ha) (e.trans e2) g
def EvI (C : Addr) (te : TE) (σ : L2.St) (H : Hp) (fs : List (Str × V)) : Prop := ∀ H1, Ex H H1 → ∀ Q : VK, RetI C fs H1 Q → te σ H1 Q
section
variable {K : PySem.W.Frag} {σ : L2.St} {H H' : Hp} {te ta tb tl : TE} {ts : TA} {tz : TS} {D : Ends} {C a dx : Addr} {fs : List (Str × V)} {f : Str} {u v : V}
theorem ev_fld (h : Ev te σ H (.ref a)) (g : H a = some (.ins C dx fs)) (c : Cls K C) (n : NoAttr K C f) (l : fs.lookup f = some v) : Ev (tFld K te f) σ H v := fun H1 e Q q =>
  h H1 e _ fun H2 e2 => ⟨a, C, dx, fs, v, rfl, (e.trans e2) a _ g, c, n, l, q H2 e2⟩
/-- o.f = e, then the rest -/
theorem q_fldset (hv : Ev te σ H v) (ho : Ev ta σ H (.ref a)) (g : H a = some (.ins C dx fs)) (c : Cls K C) (n : NoAttr K C f) (l : fs.length < 1000) (k : ∀ H1, Ex H H1 → tz D σ (upd H1 a (.ins C dx (putF f v fs)))) : tSeq (sFld K ta te f) tz D σ H :=
  hv H (Ex.refl H) _ fun H1 e1 => ho H1 e1 _ fun H2 e2 => ⟨a, C, dx, fs, rfl, (e1.trans e2) a _ g, c, n, l, k H2 (e1.trans e2)⟩
theorem s_fldset (hv : Ev te σ H v) (ho : Ev ta σ H (.ref a)) (g : H a = some (.ins C dx fs)) (c : Cls K C) (n : NoAttr K C f) (l : fs.length < 1000) (k : ∀ H1, Ex H H1 → D.nx σ (upd H1 a (.ins C dx (putF f v fs)))) : sFld K ta te f D σ H :=
  hv H (Ex.refl H) _ fun H1 e1 => ho H1 e1 _ fun H2 e2 => ⟨a, C, dx, fs, rfl, (e1.trans e2) a _ g, c, n, l, k H2 (e1.trans e2)⟩
theorem ev_gcd {x y : Int} (h : EvA ts σ H [.int x, .int y]) : Ev (tCB rGcd ts) σ H (.int ((Nat.gcd x.natAbs y.natAbs : Nat) : Int)) := fun H1 e Q q => h H1 e _ fun H2 e2 => ⟨x, y, rfl, q H2 e2⟩
theorem q_asgI {i : Nat} (h : EvI C te σ H fs) (k : ∀ a dx H1, H a = none → Ex H H1 → H1 a = some (.ins C dx fs) → tz D (σ.set i (some (.ref a))) H1) : tSeq (tAsg te (gName i)) tz D σ H := h H (Ex.refl H) _ k
theorem s_retI (h : EvI C te σ H fs) (k : RetI C fs H D.rt) : tRet te D σ H := h H (Ex.refl H) _ k
/-- x, y = a tuple -/
theorem q_unp2 {i j : Nat} {p : Addr} (h : Ev te σ H (.ref p)) (g : SqT K H p [u, v]) (k : ∀ H1, Ex H H1 → tz D ((σ.set i (some u)).set j (some v)) H1) : tSeq (tAsg te (gTup K 2 (gCons (gName i) (gCons (gName j) gNil)))) tz D σ H :=
  h H (Ex.refl H) _ fun H1 e1 => ⟨p, [u, v], rfl, ex_t e1 g, rfl, u, [v], rfl, v, [], rfl, rfl, k H1 e1⟩
theorem q_unp2U {i j : Nat} (h : EvU te σ H [u, v]) (k : ∀ H1, Ex H H1 → tz D ((σ.set i (some u)).set j (some v)) H1) : tSeq (tAsg te (gTup K 2 (gCons (gName i) (gCons (gName j) gNil)))) tz D σ H :=
  h H (Ex.refl H) _ fun p H1 _ e1 g => ⟨p, [u, v], rfl, st_of g, rfl, u, [v], rfl, v, [], rfl, rfl, k H1 e1⟩
theorem ev_powW {i j : Int} (h1 : Ev ta σ H (.int i)) (h2 : Ev tb σ H (.int j)) (hc : CPowW i j) : Ev (tOp (rI CPowW fun i j => .int (i ^ j.toNat)) ta tb) σ H (.int (i ^ j.toNat)) := ev_op h1 h2 (rv_I hc)
theorem ev_mulW {i j : Int} (h1 : Ev ta σ H (.int i)) (h2 : Ev tb σ H (.int j)) (hc : CMulW i j) : Ev (tOp (rI CMulW fun i j => .int (i * j)) ta tb) σ H (.int (i * j)) := ev_op h1 h2 (rv_I hc)
theorem ev_divV {i j : Int} (h1 : Ev ta σ H (.int i)) (h2 : Ev tb σ H (.int j)) (hc : CDivV i j) : Ev (tOp (rI CDivV fun i j => .int (i / j)) ta tb) σ H (.int (i / j)) := ev_op h1 h2 (rv_I hc)
theorem ev_notB {x y : Bool} (h1 : Ev ta σ H (.bl x)) (h2 : Ev tb σ H (.bl y)) : Ev (tOp rNotB ta tb) σ H (.bl (x != y)) := ev_op h1 h2 fun H1 _ Q q => ⟨x, y, rfl, rfl, q H1 (Ex.refl H1)⟩
/-- int(b) -/
theorem ev_intB {b : Bool} (h : Ev te σ H (.bl b)) : Ev (tCB (fun xs H Q => (∃ i, xs = [.int i] ∧ Q (.int i) H) ∨ ∃ k, xs = [.bl k] ∧ Q (.int (if k then 1 else 0)) H) (tCons te tNil)) σ H (.int (if b then 1 else 0)) := fun H1 e Q q =>
  h H1 e _ fun H2 e2 => .inr ⟨b, rfl, q H2 e2⟩
theorem ev_bool1 {b : Bool} (h : Ev te σ H (.bl b)) : Ev (tCB (fun xs H Q => (∃ i, xs = [.int i] ∧ Q (.bl (i != 0)) H) ∨ ∃ k, xs = [.bl k] ∧ Q (.bl k) H) (tCons te tNil)) σ H (.bl b) := fun H1 e Q q =>
  h H1 e _ fun H2 e2 => .inr ⟨b, rfl, q H2 e2⟩
/-- evaluates to some value of which P holds -/
def EvG (te : TE) (σ : L2.St) (H : Hp) (P : V → Hp → Prop) : Prop := ∀ H1, Ex H H1 → ∀ Q : VK, (∀ x H2, Ex H1 H2 → P x H2 → Q x H2) → te σ H1 Q
/-- a word that stays where things are made and where a list changes -/
structure Solid (P : V → Hp → Prop) : Prop where
  ex : ∀ {x : V} {H H' : Hp}, Ex H H' → P x H → P x H'
  upd : ∀ {x : V} {H : Hp} {l : Addr} {ys zs : List V}, H l = some (.lst ys) → P x H → P x (L2.upd H l (.lst zs))
/-- evaluates to a new list, of each place of which P holds -/
def EvLG (te : TE) (σ : L2.St) (H : Hp) (n : Nat) (P : Nat → V → Hp → Prop) : Prop := ∀ H1, Ex H H1 → ∀ Q : VK, (∀ p ys H2, H1 p = none → Ex H1 H2 → H2 p = some (.lst ys) → ys.length = n → (∀ i y, ys[i]? = some y → P i y H2) → Q (.ref p) H2) → te σ H1 Q
theorem lg_turn {P : Nat → V → Hp → Prop} (hP : ∀ i, Solid (P i)) {Hb : Hp} {Dl : Addr} {i : Nat} {σ2 : L2.St} (hD : Hb Dl = none) (hi : i < 50000) (he : EvG te σ2 Hb (P i)) {H' : Hp} (p : Ex Hb H' ∧ ∃ ys, H' Dl = some (.lst ys) ∧ ys.length = i ∧ ∀ j y, ys[j]? = some y → P j y H') :
    te σ2 H' fun y H4 => ∃ acc, H4 Dl = some (.lst acc) ∧ acc.length < sizeLine ∧ (Ex Hb (upd H4 Dl (.lst (acc ++ [y]))) ∧ ∃ ys, upd H4 Dl (.lst (acc ++ [y])) Dl = some (.lst ys) ∧ ys.length = i + 1 ∧ ∀ j z, ys[j]? = some z → P j z (upd H4 Dl (.lst (acc ++ [y])))) := by
  obtain ⟨x, ys, g, hl, hp⟩ := p
  refine he H' x _ fun y H4 e4 py => ⟨ys, e4 Dl _ g, sz_lt (by omega), Ex.mut (x.trans e4) hD, ys ++ [y], upd_same, by rw [List.length_append, hl]; rfl, fun j z hz => ?_⟩
  by_cases hj : j < ys.length
  · rw [List.getElem?_append_left hj] at hz
    exact (hP j).upd (e4 Dl _ g) ((hP j).ex e4 (hp j z hz))
  · rw [List.getElem?_append_right (by omega)] at hz
    have hj2 : j - ys.length = 0 := by
      have := (List.getElem?_eq_some_iff.mp hz).1
      simp at this
      omega
    rw [hj2] at hz
    obtain rfl : y = z := by simpa using hz
    have : j = i := by omega
    subst this
    exact (hP j).upd (e4 Dl _ g) py
theorem lg_lcL {xs : List V} {j : Nat} {vs : List Nat} {p : Addr} (P : Nat → V → Hp → Prop) (hP : ∀ i, Solid (P i)) (h : Ev tl σ H (.ref p)) (hx : SqL K H p xs) (hz : xs.length ≤ 40000) (hw : ∀ x, wipe ((wipe σ vs).set j (some x)) vs = wipe σ vs)
    (he : ∀ (i : Nat) (x : V) H1, Ex H H1 → xs[i]? = some x → EvG te ((wipe σ vs).set j (some x)) H1 (P i)) : EvLG (tLc (iList K tl) (gName j) tYes te vs) σ H xs.length P := fun H0 e Q q => h H0 e _ fun H1 e1 => ⟨p, rfl, ⟨xs, ex_l (e.trans e1) hx⟩, fun Dl hD =>
  lc_list (xs := xs) (fun i H' => Ex H1 H' ∧ ∃ ys, H' Dl = some (.lst ys) ∧ ys.length = i ∧ ∀ j y, ys[j]? = some y → P j y H') ⟨Ex.new hD, [], upd_same, rfl, fun j y hy => by simp at hy⟩ (fun i H' _ w => ex_l ((e.trans e1).trans w.1) hx)
    (fun i x H' hi w => ⟨hw x, lg_turn hP hD (by have := (List.getElem?_eq_some_iff.mp hi).1; omega) (he i x H1 (e.trans e1) hi) w⟩)
    (fun H' ⟨x, ys, g, hl, hp⟩ => q Dl ys H' (fresh_back e1 hD) (e1.trans x) g hl hp)⟩
theorem lg_lcS {xs : List V} {j : Nat} {vs : List Nat} {p : Addr} (P : Nat → V → Hp → Prop) (hP : ∀ i, Solid (P i)) (h : Ev tl σ H (.ref p)) (hx : SqS K H p xs) (hz : xs.length ≤ 40000) (hw : ∀ x, wipe ((wipe σ vs).set j (some x)) vs = wipe σ vs)
    (he : ∀ (i : Nat) (x : V) H1, Ex H H1 → xs[i]? = some x → EvG te ((wipe σ vs).set j (some x)) H1 (P i)) : EvLG (tLc (iSeq K tl) (gName j) tYes te vs) σ H xs.length P := fun H0 e Q q => h H0 e _ fun H1 e1 => by
  rcases hx with hx | hx
  · refine ⟨p, xs, rfl, .inl ⟨ex_l (e.trans e1) hx, fun Dl hD => ?_⟩⟩
    exact lc_list (xs := xs) (fun i H' => Ex H1 H' ∧ ∃ ys, H' Dl = some (.lst ys) ∧ ys.length = i ∧ ∀ j y, ys[j]? = some y → P j y H') ⟨Ex.new hD, [], upd_same, rfl, fun j y hy => by simp at hy⟩ (fun i H' _ w => ex_l ((e.trans e1).trans w.1) hx)
      (fun i x H' hi w => ⟨hw x, lg_turn hP hD (by have := (List.getElem?_eq_some_iff.mp hi).1; omega) (he i x H1 (e.trans e1) hi) w⟩)
      (fun H' ⟨x, ys, g, hl, hp⟩ => q Dl ys H' (fresh_back e1 hD) (e1.trans x) g hl hp)
  · refine ⟨p, xs, rfl, .inr ⟨ex_t (e.trans e1) hx, fun Dl hD => ?_⟩⟩
    exact lc_tup (xs := xs) (fun i H' => Ex H1 H' ∧ ∃ ys, H' Dl = some (.lst ys) ∧ ys.length = i ∧ ∀ j y, ys[j]? = some y → P j y H') ⟨Ex.new hD, [], upd_same, rfl, fun j y hy => by simp at hy⟩ (fun i H' _ w => ex_t ((e.trans e1).trans w.1) hx)
      (fun i x H' hi w => ⟨hw x, lg_turn hP hD (by have := (List.getElem?_eq_some_iff.mp hi).1; omega) (he i x H1 (e.trans e1) hi) w⟩)
      (fun H' ⟨x, ys, g, hl, hp⟩ => q Dl ys H' (fresh_back e1 hD) (e1.trans x) g hl hp)
theorem q_asgLG {i n : Nat} {P : Nat → V → Hp → Prop} (h : EvLG te σ H n P) (k : ∀ p ys H1, H p = none → Ex H H1 → H1 p = some (.lst ys) → ys.length = n → (∀ j y, ys[j]? = some y → P j y H1) → tz D (σ.set i (some (.ref p))) H1) : tSeq (tAsg te (gName i)) tz D σ H := h H (Ex.refl H) _ k
end
end Nd
/-! Arguments of which something holds; the drawn tape beside tuples and instances; deep equality of lists. -/
namespace Nd
open PySem PySem.Spec PyProof.Rows L2 Evl
/-- arguments of which P holds -/
def EvAP (ts : TA) (σ : L2.St) (H : Hp) (P : List V → Hp → Prop) : Prop := ∀ H1, Ex H H1 → ∀ Q : List V → Hp → Prop, (∀ vs H2, Ex H1 H2 → P vs H2 → Q vs H2) → ts σ H1 Q
section
variable {K : PySem.W.Frag} {σ : L2.St} {H H2 : Hp} {te : TE} {ts : TA} {tz tu : TS} {D : Ends} {P : List V → Hp → Prop} {E : L2.St → XK} {sp : Sp} {p a : Addr}
theorem ap_nil : EvAP tNil σ H (fun vs _ => vs = []) := fun H1 _ Q q => q [] H1 (Ex.refl H1) rfl
theorem ap_cons {x : V} (h : Ev te σ H x) (hr : EvAP ts σ H P) : EvAP (tCons te ts) σ H (fun vs H2 => ∃ r, vs = x :: r ∧ P r H2) := fun H1 e Q q => h H1 e _ fun H2 e2 => hr H2 (e.trans e2) _ fun r H3 e3 hp => q _ H3 (e2.trans e3) ⟨r, rfl, hp⟩
theorem ap_consU {xs : List V} (h : EvU te σ H xs) (hr : EvAP ts σ H P) : EvAP (tCons te ts) σ H (fun vs H2 => ∃ p r, vs = .ref p :: r ∧ H2 p = some (.tup xs) ∧ P r H2) := fun H1 e Q q =>
  h H1 e _ fun p H2 _ e2 g => hr H2 (e.trans e2) _ fun r H3 e3 hp => q _ H3 (e2.trans e3) ⟨p, r, rfl, e3 p _ g, hp⟩
theorem ap_consL {xs : List V} (h : EvL te σ H xs) (hr : EvAP ts σ H P) : EvAP (tCons te ts) σ H (fun vs H2 => ∃ p r, vs = .ref p :: r ∧ H2 p = some (.lst xs) ∧ P r H2) := fun H1 e Q q =>
  h H1 e _ fun p H2 _ e2 g => hr H2 (e.trans e2) _ fun r H3 e3 hp => q _ H3 (e2.trans e3) ⟨p, r, rfl, e3 p _ g, hp⟩
theorem ev_callP {z : V} (h : EvAP ts σ H P) (hs : ∀ vs H1, Ex H H1 → P vs H1 → ∀ (Q : VK) (E' : XK), RetV z H1 Q → sp vs H1 Q E') : Ev (tCallS sp E ts) σ H z := fun H1 e Q q => h H1 e _ fun vs H2 e2 hp => hs vs H2 (e.trans e2) hp Q _ fun H3 e3 => q H3 (e2.trans e3)
theorem eu_callP {xs : List V} (h : EvAP ts σ H P) (hs : ∀ vs H1, Ex H H1 → P vs H1 → ∀ (Q : VK) (E' : XK), RetU xs H1 Q → sp vs H1 Q E') : EvU (tCallS sp E ts) σ H xs := fun H1 e Q q => h H1 e _ fun vs H2 e2 hp => hs vs H2 (e.trans e2) hp Q _ fun p H3 hp e3 g => q p H3 (fresh_back e2 hp) (e2.trans e3) g
/-- a new list of such arguments, given a name -/
theorem q_asgLP {i : Nat} (h : EvAP ts σ H P) (k : ∀ l vs H1 H2, Ex H H1 → P vs H1 → H1 l = none → H2 = upd H1 l (.lst vs) → tz D (σ.set i (some (.ref l))) H2) (hz : ∀ vs H1, P vs H1 → vs.length ≤ 100000) : tSeq (tAsg (tLst ts) (gName i)) tz D σ H :=
  h H (Ex.refl H) _ fun vs H1 e1 hp => ⟨sz_of (hz vs H1 hp), fun l hl => k l vs H1 _ e1 hp hl rfl⟩
/-- if not f(..): .. where f gives True and may change something -/
theorem q_callNot {vs : List V} (R : Hp → Prop) (h : EvA ts σ H vs) (hs : ∀ H1, Ex H H1 → ∀ (Q' : VK) (E' : XK), (∀ H2, R H2 → Q' (.bl true) H2) → sp vs H1 Q' E') (k : ∀ H2, R H2 → tz D σ H2) : tSeq (tIfS (tNot (tTest (tCallS sp E ts))) tu tNext) tz D σ H :=
  h H (Ex.refl H) _ fun H1 e1 => hs H1 e1 _ _ fun H2 r => ⟨true, rfl, k H2 r⟩
end
theorem But.tup {p a : Addr} {H H2 : Hp} {xs : List V} (b : But p H H2) (t : Tape H p) (g : H a = some (.tup xs)) : H2 a = some (.tup xs) := b a _ (fun e => by
  subst e
  obtain ⟨ds, h⟩ := t
  rw [h] at g
  cases g) g
theorem But.ins {p a C dx : Addr} {H H2 : Hp} {fs : List (Str × V)} (b : But p H H2) (t : Tape H p) (g : H a = some (.ins C dx fs)) : H2 a = some (.ins C dx fs) := b a _ (fun e => by
  subst e
  obtain ⟨ds, h⟩ := t
  rw [h] at g
  cases g) g
theorem Tape.ne {p l : Addr} {H : Hp} (t : Tape H p) (h : H l = none) : l ≠ p := fun e => by
  subst e
  obtain ⟨ds, g⟩ := t
  rw [h] at g
  cases g
theorem dpAll_of {K : PySem.W.Frag} {H : Hp} : ∀ (ys : List V) (ds : List PyData), ys.length = ds.length → (∀ (i : Nat) (y : V), ys[i]? = some y → ∃ d, ds[i]? = some d ∧ Dp K H y d) → DpAll K H ys ds
  | [], [], _, _ => .nil
  | [], _ :: _, h, _ => by simp at h
  | _ :: _, [], h, _ => by simp at h
  | y :: ys, d :: ds, h, k => by
    obtain ⟨d', h1, h2⟩ := k 0 y rfl
    obtain rfl : d = d' := by simpa using h1
    exact .cons h2 (dpAll_of ys ds (by simpa using h) fun i z hz => k (i + 1) z hz)
theorem given_mapV (ks : List Int) (g : Int → V) : given ks.length (fun _ => true) (fun i => g (ks.getD i 0)) = ks.map g := by
  unfold given
  rw [List.filter_eq_self.mpr (fun _ _ => rfl)]
  conv => rhs; rw [← ints_range ks]
  rw [List.map_map]
  rfl
end Nd
/-! The end: a law's row by its promise; defs, classes and own errors read off the written part. -/
namespace Nd
open PySem PySem.Spec PyProof.Rows L2 Evl
def clsBody (s : Stmt) (j : Nat) : Stmt := match s with
  | .ClassDef (body := b) .. => b.getD j (.Pass ⟨0, 0, 0, 0⟩)
  | s => s
structure ErrS (P : Program) (K : PySem.W.Frag) (mg : Str → Option Value) (x f : Str) (C : Addr) (st : Stmt) (qual : Str) : Prop where
  g : mg x = some (.ref C)
  is : IsC K C
  xf : XfC K C
  no : PySem.W.findIn K (.ref C) f = some none
  ini : ∃ (fI cda cc : Addr) (oc kV doc pm ct : Value) (od an : Option Addr) (osl : Array (Option Value)), SupC P K C cda cc ∧ K.lookup fI = some ⟨oc, od, .func (PySem.W.ksFn "__init__" qual (defArgs st) (defBody st) (defScope st) .none kV doc pm an (.ref cda) ct cc), osl⟩ ∧
    PySem.W.codeIn K (.ref cda) qual = true ∧ PySem.W.findIn K (.ref C) "__init__" = some (some (.ref fI)) ∧ PySem.W.typeIn K (.ref fI) = some (.type "function")
/-- as the layer's end, with what the top says of its loose names -/
theorem walk_x {l : PySem.W.OpenLaw} {n k : Nat} {q : Program} {loose : List Str} {XP : (Str → Option Value) → Heap → Prop} {YP : World → Heap → Prop} {d : DefRec} {K : Params → PySem.W.Frag} {CX : World → CXT} {sp : PySem.W.Frag → Sp} {x : Str}
    (h1 : l.most = some n) (h2 : n ≤ sizeLine) (h3 : d.params.defaults = []) (h4 : Room k callerA) (hY : ∀ (w : World) (h : Heap), YP w h → (K w.params).In h)
    (F : ∀ (w : World) (mg : Str → Option Value) (fa : Addr) (h : Heap), XP mg h → (K w.params).In h → h.Ns mainGlobals mg → mg d.name = some (.ref fa) →
      ∃ fd : FuncData, (∀ (s : Shared) (u : Value), BindsTo s fd ⟨[u], []⟩ [(x, u)]) ∧ ∀ base : Heap, (K w.params).In base → base.Ns mainGlobals mg → FnOk l.prog w (K w.params) mg base (CX w) k fa fd [x] (sp (K w.params)))
    (hs : ∀ (w : World) (H : Hp) (a : Addr) (ns : List Int), ns.length ≤ n → Only H → SqL (K w.params) H a (ns.map V.int) → sp (K w.params) [.ref a] H (fun v _ => v = .bl true) fun _ _ _ => False)
    (hC : ∀ (w : World) (H : Hp) (s : Shared) (e : Value) (s' : Shared), CX w [] H s (fun _ _ _ => False) e s' → False) : PySem.W.WalkO q loose XP YP l.row.toRowW d [] (fun f vs => PySem.call f vs) :=
  Att.attach_call h1 h3 fun w _ s1 mg _ fa _ _ _ _ a _ ns G Y _ _ _ hm ho hi hl hg => by
    have KX := hY w _ Y
    obtain ⟨_, hb, hF⟩ := F w mg fa _ G.X KX G.T.g hm
    exact law_call KX G.T.g G.T.b G.T.builtins G.T.nolimit hg ho hi (Nat.le_trans hl h2) h4 hF hb (fun H hO hS => hs w H a ns hl hO hS) fun H e s' => hC w H s1 e s'
theorem cx_no {P : Program} {w : World} {H : Hp} {s : Shared} {e : Value} {s' : Shared} : L2.CX P w [] H s (fun _ _ _ => False) e s' → False := fun ⟨_, _, _, _, _, _, _, _, _, _, _, _, h⟩ => h
section
variable {P : Program} {K : PySem.W.Frag} {mg : Str → Option Value} {h : Heap}
theorem def_at {x : Str} {st : Stmt} {ps : List Str} {f : Addr} {oc : Value} {od an : Option Addr} {osl : Array (Option Value)} {kV doc pm cdv ct : Value} (X : K.In h) (G : h.Ns mainGlobals mg) (a : PySem.W.nsIn K mainGlobals x = some (some (.ref f)))
    (l : K.lookup f = some ⟨oc, od, .func (PySem.W.fnOf x x (defArgs st) (defBody st) (defScope st) .none kV doc pm an cdv ct), osl⟩) (c : PySem.W.codeIn K cdv x = true) (k : PySem.W.keepIn K (.ref f) = true)
    (b : ∀ (kV doc pm : Value) (an : Option Addr) (cdv ct : Value) (us : List Value), us.length = ps.length → bindArgs (PySem.W.fnOf x x (defArgs st) (defBody st) (defScope st) .none kV doc pm an cdv ct) ⟨us, []⟩ = pure (ps.zip us)) : DefAt K mg x st ps :=
  ⟨f, _, fun_mk l c k, PySem.W.mg_of X G a, (fun_mk (st := st) l c k).binds b⟩
theorem kit_own {a b : Addr} {r : Bool} (hn : (Value.ref a == Value.ref b) = false) (hc : PySem.W.isClsIn K b = true) (ht : PySem.W.typeIn K (.ref b) = some (.type "type")) (hs : PySem.W.subIn K (.ref a) (.ref b) = some r) : PySem.W.kitOne K (.ref a) (.ref b) = some r := by
  have e2 : ((PySem.W.clsIn K b).isSome && PySem.W.typeIn K (.ref b) == some (.type "type")) = true := by
    have hc' : (PySem.W.clsIn K b).isSome = true := hc
    rw [hc', ht] <;> rfl
  unfold PySem.W.kitOne
  rw [hn]
  show (if ((PySem.W.clsIn K b).isSome && PySem.W.typeIn K (.ref b) == some (.type "type")) = true then PySem.W.subIn K (.ref a) (.ref b) else none) = some r
  rw [if_pos e2]
  exact hs
theorem kit_tyv {a : Addr} {t : String} {r : Bool} (hm : PySem.W.kitMeta t = true) (hs : PySem.W.subIn K (.ref a) (.type t) = some r) : PySem.W.kitOne K (.ref a) (.type t) = some r := by
  unfold PySem.W.kitOne
  rw [show (Value.ref a == Value.type t) = false from rfl]
  show (if PySem.W.kitMeta t = true then PySem.W.subIn K (.ref a) (.type t) else none) = some r
  rw [if_pos hm]
  exact hs
theorem errS_mk {x f qual : Str} {st : Stmt} {C fI cda cc : Addr} {nm q : Str} {N : Addr} {bs bm : List Value} {sn : List Str} {sub : List Value} {ab : Bool} {col : Option Bool} {dd : Option Addr} {m0 m1 m2 m3 m5 : Option Value}
    {oc kV doc pm ct : Value} {od an : Option Addr} {osl : Array (Option Value)} {ccl cl : Value} {cdd cld : Option Addr} {vs : Array Value} {ccs csl : Array (Option Value)} {file : Str} {tf : Tok} (X : K.In h) (G : h.Ns mainGlobals mg)
    (g : PySem.W.nsIn K mainGlobals x = some (some (.ref C)))
    (xL : K.lookup C = some (excClassObj nm q C N bs bm true sn sub ab col dd m0 m1 m2 m3 m5 "ValueError.__new__")) (rv : PySem.HandSPX.refsVE bm = true)
    (ic : PySem.W.isClsIn K C = true) (sa : PySem.W.findIn K (.ref C) "__setattr__" = some (some (.builtin "object.__setattr__"))) (ga : PySem.W.findIn K (.ref C) "__getattribute__" = some (some (.builtin "BaseException.__getattribute__")))
    (gg : PySem.W.findIn K (.ref C) "__getattr__" = some none) (no : PySem.W.findIn K (.ref C) f = some none) (sb : PySem.W.subIn K (.ref C) (.type "BaseException") = some true) (ca : PySem.W.findIn K (.ref C) "__class__" = some (some (.builtin "object.__class__")))
    (cg : PySem.W.specialIn K (.builtin "object.__class__") "__get__" = some (some (.builtin "getset_descriptor.__get__"))) (ctk : PySem.W.takesIn K (.builtin "object.__class__") = some true) (mo : PySem.W.mroIn K C (.type "object") = some true)
    (tC : PySem.W.typeIn K (.ref C) = some (.type "type")) (kC : PySem.W.keepIn K (.ref C) = true) (hd : PySem.W.hasDictIn K C = true) (mr : PySem.W.mroIn K C (.ref C) = some true)
    (a1 : PySem.W.findIn K (.ref C) "__init__" = some (some (.ref fI))) (t1 : PySem.W.typeIn K (.ref fI) = some (.type "function"))
    (l1 : K.lookup fI = some ⟨oc, od, .func (PySem.W.ksFn "__init__" qual (defArgs st) (defBody st) (defScope st) .none kV doc pm an (.ref cda) ct cc), osl⟩) (c1 : PySem.W.codeIn K (.ref cda) qual = true)
    (cL : K.lookup cda = some ⟨ccl, cdd, .fields vs, ccs⟩) (cv : vs[2]? = some (.str file tf)) (cf : ((P.main.file : Str) == file) = true) (eL : K.lookup cc = some ⟨cl, cld, .cell (some (.ref C)), csl⟩)
    (su : PySem.W.ks_superIn K C C "__init__" = some (some (.builtin "ValueError.__init__"))) (ve : PySem.W.subIn K (.ref C) (.type "ValueError") = some true) (tp : PySem.W.nsIn K cStatics "thirdparty.any" = some none) (top : (P.main.scope.names.lookup ("super" : Str)).isSome = false) :
    ErrS P K mg x f C st qual :=
  ⟨PySem.W.mg_of X G g, ⟨ic, ga, gg, sb, ca, cg, ctk, mo⟩, ⟨ga, gg, sb, hd⟩, no, fI, cda, cc, oc, kV, doc, pm, ct, od, an, osl, ⟨⟨⟨nm, q, N, bs, bm, sn, sub, ab, col, dd, m0, m1, m2, m3, m5, xL, rv⟩, sa, sb, tC, kC⟩, ⟨ccl, cdd, vs, ccs, file, tf, cL, cv, cf⟩, ⟨cl, cld, csl, eL⟩, mr, su, ve, tp, top⟩, l1, c1, a1, t1⟩
end
end Nd
/-! ratios: the numbers -/
namespace K1
theorem B_ex : ∃ b : Int, b = ((10:Int)^(50:Int).toNat)^(40:Int).toNat := ⟨_, rfl⟩
/-- the greatest number; its digits stay out of sight -/
noncomputable def B : Int := Classical.choose B_ex
theorem B_def : B = ((10:Int)^(50:Int).toNat)^(40:Int).toNat := Classical.choose_spec B_ex
theorem B_pos : 1000 ≤ B := by
  rw [B_def]
  decide +kernel
theorem B_lt : B.natAbs < 2 ^ 6644 := by
  rw [B_def]
  decide +kernel
theorem r20 : 144 ≤ ((10:Int)^(50:Int).toNat)^(20:Int).toNat ∧ ((10:Int)^(50:Int).toNat)^(20:Int).toNat + 144 ≤ B := by
  rw [B_def]
  decide +kernel
theorem B5 : B * B * 12 ≤ B ^ 5 := by
  rw [B_def]
  decide +kernel
def gI (n d : Int) : Int := ((Nat.gcd n.natAbs d.natAbs : Nat) : Int)
noncomputable def mk (n d : Int) : Except Int (Int × Int) := if n < -B ∨ n > B then .error n else if d < 1 ∨ d > B then .error d else .ok (n / gI n d, d / gI n d)
noncomputable def low (n d : Int) : Except Int (Int × Int) := mk (n / gI n d) (d / gI n d)
theorem gI_pos {n d : Int} (h : 0 < d) : 0 < gI n d := by
  have : 0 < Nat.gcd n.natAbs d.natAbs := Nat.gcd_pos_of_pos_right _ (by omega)
  unfold gI
  omega
theorem gI_dvd1 (n d : Int) : gI n d ∣ n := Int.natAbs_dvd_natAbs.mp (show n.natAbs.gcd d.natAbs ∣ n.natAbs from Nat.gcd_dvd_left _ _)
theorem gI_dvd2 (n d : Int) : gI n d ∣ d := Int.natAbs_dvd_natAbs.mp (show n.natAbs.gcd d.natAbs ∣ d.natAbs from Nat.gcd_dvd_right _ _)
theorem gI_div1 (n d : Int) : n / gI n d * gI n d = n := Int.ediv_mul_cancel (gI_dvd1 n d)
theorem gI_div2 (n d : Int) : d / gI n d * gI n d = d := Int.ediv_mul_cancel (gI_dvd2 n d)
theorem gI_one {n d : Int} (h : 0 < d) : gI (n / gI n d) (d / gI n d) = 1 := by
  have g0 := gI_pos (n := n) h
  have e1 := gI_div1 n d
  have e2 := gI_div2 n d
  generalize hg : gI n d = g at *
  generalize n / g = p at *
  generalize d / g = q at *
  have : g.natAbs = Nat.gcd (p.natAbs * g.natAbs) (q.natAbs * g.natAbs) := by
    have hh : g = ((Nat.gcd n.natAbs d.natAbs : Nat) : Int) := by rw [← hg]; rfl
    rw [← Int.natAbs_mul, ← Int.natAbs_mul, e1, e2]
    omega
  rw [Nat.gcd_mul_right] at this
  have gp : 0 < g.natAbs := by omega
  have : Nat.gcd p.natAbs q.natAbs = 1 := by
    have h1 : Nat.gcd p.natAbs q.natAbs * g.natAbs = 1 * g.natAbs := by omega
    exact Nat.eq_of_mul_eq_mul_right gp h1
  unfold gI
  rw [this]
  rfl
theorem div_pos {n d : Int} (h : 0 < d) : 0 < d / gI n d := by
  have g0 := gI_pos (n := n) h
  have e2 := gI_div2 n d
  generalize d / gI n d = q at *
  rcases Int.lt_trichotomy q 0 with z | z | z
  · have := Int.mul_neg_of_neg_of_pos z g0
    omega
  · rw [z] at e2; omega
  · exact z
theorem dvd_of {p q x : Int} (h : gI p q = 1) (hd : q ∣ p * x) : q ∣ x := by
  have c : Nat.Coprime q.natAbs p.natAbs := by
    have : Nat.gcd p.natAbs q.natAbs = 1 := by unfold gI at h; omega
    rw [Nat.gcd_comm] at this
    exact this
  have hd' : q.natAbs ∣ p.natAbs * x.natAbs := by
    rw [← Int.natAbs_mul]
    exact Int.natAbs_dvd_natAbs.mpr hd
  exact Int.natAbs_dvd_natAbs.mp (c.dvd_of_dvd_mul_left hd')
/-- lowest terms are one -/
theorem same {p q r s : Int} (h1 : gI p q = 1) (h2 : gI r s = 1) (hq : 0 < q) (hs : 0 < s) (e : p * s = r * q) : p = r ∧ q = s := by
  have d1 : q ∣ s := dvd_of h1 (x := s) ⟨r, by rw [e, Int.mul_comm]⟩
  have d2 : s ∣ q := dvd_of h2 (x := q) ⟨p, by rw [← e, Int.mul_comm]⟩
  have : q = s := Int.dvd_antisymm (by omega) (by omega) d1 d2
  subst this
  exact ⟨Int.eq_of_mul_eq_mul_right (by omega) e, rfl⟩
theorem cross_div {n d n' d' : Int} (h : 0 < d) (h' : 0 < d') (e : n * d' = n' * d) : n / gI n d = n' / gI n' d' ∧ d / gI n d = d' / gI n' d' := by
  have a1 := gI_one (n := n) h
  have a2 := gI_one (n := n') h'
  have b1 := div_pos (n := n) h
  have b2 := div_pos (n := n') h'
  have g1 := gI_pos (n := n) h
  have g2 := gI_pos (n := n') h'
  have e1 := gI_div1 n d
  have e2 := gI_div2 n d
  have e3 := gI_div1 n' d'
  have e4 := gI_div2 n' d'
  generalize n / gI n d = p at *
  generalize d / gI n d = q at *
  generalize n' / gI n' d' = r at *
  generalize d' / gI n' d' = s at *
  refine same a1 a2 b1 b2 ?_
  have : p * s * (gI n d * gI n' d') = r * q * (gI n d * gI n' d') := by
    calc p * s * (gI n d * gI n' d') = (p * gI n d) * (s * gI n' d') := by ac_rfl
      _ = (r * gI n' d') * (q * gI n d) := by rw [e1, e4, e3, e2, e]
      _ = r * q * (gI n d * gI n' d') := by ac_rfl
  exact Int.eq_of_mul_eq_mul_right (Int.ne_of_gt (Int.mul_pos g1 g2)) this
theorem cross {n d n' d' : Int} (h : 0 < d) (h' : 0 < d') (e : n * d' = n' * d) : low n d = low n' d' := by
  obtain ⟨a, b⟩ := cross_div h h' e
  unfold low
  rw [a, b]
structure Good (p q : Int) : Prop where
  q0 : 0 < q
  g1 : gI p q = 1
  lo : -B ≤ p
  hi : p ≤ B
  qB : q ≤ B
theorem mk_good {p q : Int} (g : Good p q) : mk p q = .ok (p, q) := by
  obtain ⟨a, b, c, d, e⟩ := g
  unfold mk
  rw [if_neg (by omega), if_neg (by omega), b, Int.ediv_one, Int.ediv_one]
theorem low_good {p q : Int} (g : Good p q) : low p q = .ok (p, q) := by
  unfold low
  rw [g.g1, Int.ediv_one, Int.ediv_one]
  exact mk_good g
/-- what low says -/
theorem low_is {n d : Int} (h : 0 < d) : (∃ z, low n d = .error z) ∨ ∃ p q, low n d = .ok (p, q) ∧ Good p q ∧ p * d = n * q := by
  have a1 := gI_one (n := n) h
  have b1 := div_pos (n := n) h
  have e1 := gI_div1 n d
  have e2 := gI_div2 n d
  unfold low
  generalize n / gI n d = p at *
  generalize d / gI n d = q at *
  by_cases h1 : p < -B ∨ p > B
  · exact .inl ⟨p, by unfold mk; rw [if_pos h1]⟩
  by_cases h2 : q < 1 ∨ q > B
  · exact .inl ⟨q, by unfold mk; rw [if_neg h1, if_pos h2]⟩
  have g : Good p q := ⟨b1, a1, by omega, by omega, by omega⟩
  refine .inr ⟨p, q, mk_good g, g, ?_⟩
  calc p * d = p * (q * gI n d) := by rw [e2]
    _ = (p * gI n d) * q := by ac_rfl
    _ = n * q := by rw [e1]
theorem low_ok {n d p q : Int} (h : 0 < d) (e : low n d = .ok (p, q)) : Good p q ∧ p * d = n * q := by
  rcases low_is (n := n) h with ⟨z, e2⟩ | ⟨p', q', e2, g, c⟩
  · rw [e2] at e; cases e
  · rw [e2] at e; cases e; exact ⟨g, c⟩
/-- a ratio told by n and d, whose lowest terms are p and q -/
structure Rep (n d p q : Int) : Prop where
  g : Good p q
  d0 : 0 < d
  c : p * d = n * q
theorem Rep.self {p q : Int} (g : Good p q) : Rep p q p q := ⟨g, g.q0, rfl⟩
theorem Rep.low {n d p q : Int} (r : Rep n d p q) : low n d = .ok (p, q) := by
  rw [← low_good r.g]
  exact cross r.d0 r.g.q0 (by rw [← r.c])
theorem abs_div {n g : Int} (h : 0 < g) (hd : g ∣ n) {b : Int} (b0 : 0 ≤ b) (h1 : -b ≤ n) (h2 : n ≤ b) : -b ≤ n / g ∧ n / g ≤ b := by
  obtain ⟨k, rfl⟩ := hd
  rw [Int.mul_ediv_cancel_left _ (by omega)]
  by_cases z : 0 ≤ k
  · have : k ≤ g * k := by
      have := Int.mul_le_mul_of_nonneg_right (show (1:Int) ≤ g by omega) z
      rwa [Int.one_mul] at this
    omega
  · have : g * k ≤ k := by
      have := Int.mul_le_mul_of_nonneg_right (show (1:Int) ≤ g by omega) (show 0 ≤ -k by omega)
      rw [Int.one_mul, Int.mul_neg] at this
      omega
    omega
/-- what is drawn -/
theorem rep_of {n d : Int} (h1 : -B ≤ n) (h2 : n ≤ B) (h3 : 0 < d) (h4 : d ≤ B) : ∃ p q, Rep n d p q ∧ mk n d = .ok (p, q) := by
  have b0 := B_pos
  have g0 := gI_pos (n := n) h3
  have x := abs_div g0 (gI_dvd1 n d) (b := B) (by omega) h1 h2
  have y := abs_div g0 (gI_dvd2 n d) (b := B) (by omega) (by omega) h4
  have a1 := gI_one (n := n) h3
  have b1 := div_pos (n := n) h3
  have e1 := gI_div1 n d
  have e2 := gI_div2 n d
  refine ⟨n / gI n d, d / gI n d, ⟨⟨b1, a1, x.1, x.2, y.2⟩, h3, ?_⟩, ?_⟩
  · generalize n / gI n d = p at *
    generalize d / gI n d = q at *
    calc p * d = p * (q * gI n d) := by rw [e2]
      _ = (p * gI n d) * q := by ac_rfl
      _ = n * q := by rw [e1]
  · unfold mk
    rw [if_neg (by omega), if_neg (by omega)]
theorem mk_rep {n d p q : Int} (r : Rep n d p q) (h1 : -B ≤ n) (h2 : n ≤ B) (h4 : d ≤ B) : mk n d = .ok (p, q) := by
  obtain ⟨p', q', r', e⟩ := rep_of h1 h2 r.d0 h4
  have := r.low.symm.trans r'.low
  cases this
  exact e
theorem gI_neg {p q : Int} : gI (-p) q = gI p q := by unfold gI; rw [Int.natAbs_neg]
theorem Good.neg {p q : Int} (g : Good p q) : Good (-p) q := ⟨g.q0, by rw [gI_neg]; exact g.g1, by have := g.hi; omega, by have := g.lo; omega, g.qB⟩
def abI (n : Int) : Int := if n < 0 then -n else n
theorem Good.abs {p q : Int} (g : Good p q) : Good (abI p) q := by
  unfold abI
  split
  · exact g.neg
  · exact g
theorem Rep.neg {n d p q : Int} (r : Rep n d p q) : Rep (-n) d (-p) q := ⟨r.g.neg, r.d0, by rw [Int.neg_mul, Int.neg_mul, r.c]⟩
theorem Rep.neg_iff {n d p q : Int} (r : Rep n d p q) : n < 0 ↔ p < 0 := by
  have c := r.c
  have q0 := r.g.q0
  have d0 := r.d0
  constructor
  · intro h
    have := Int.mul_neg_of_neg_of_pos h q0
    by_cases z : p < 0
    · exact z
    · have := Int.mul_nonneg (show 0 ≤ p by omega) (Int.le_of_lt d0)
      omega
  · intro h
    have := Int.mul_neg_of_neg_of_pos h d0
    by_cases z : n < 0
    · exact z
    · have := Int.mul_nonneg (show 0 ≤ n by omega) (Int.le_of_lt q0)
      omega
theorem Rep.abs {n d p q : Int} (r : Rep n d p q) : Rep (abI n) d (abI p) q := by
  unfold abI
  by_cases h : n < 0
  · rw [if_pos h, if_pos (r.neg_iff.mp h)]; exact r.neg
  · rw [if_neg h, if_neg (fun z => h (r.neg_iff.mpr z))]; exact r
theorem good_int {w : Int} (h1 : -B ≤ w) (h2 : w ≤ B) : Good w 1 := by
  have := B_pos
  exact ⟨by omega, by unfold gI; simp, h1, h2, by omega⟩
/-! ### what is due -/
noncomputable def due (n d : Int) : Except Int (Int × Int) := if d = 0 then .error 0 else if d < 0 then low (-n) (-d) else low n d
theorem Rep.due {n d p q : Int} (r : Rep n d p q) : due n d = .ok (p, q) := by
  have := r.d0
  unfold K1.due
  rw [if_neg (by omega), if_neg (by omega)]
  exact r.low
inductive Sg where
  | add | sub | mul | div
noncomputable def res : Sg → Int → Int → Int → Int → Except Int (Int × Int)
  | .add, n, d, t, u => due (n * u + t * d) (d * u)
  | .sub, n, d, t, u => due (n * u - t * d) (d * u)
  | .mul, n, d, t, u => due (n * t) (d * u)
  | .div, n, d, t, u => due (n * u) (d * t)
noncomputable def op : Sg → Int → Int → Int → Int → Except Int (Int × Int)
  | .add, p, q, r, s => low (p * s + r * q) (q * s)
  | .sub, p, q, r, s => low (p * s - r * q) (q * s)
  | .mul, p, q, r, s => low (p * r) (q * s)
  | .div, p, q, r, s => if r = 0 then .error 0 else if r < 0 then low (-p * s) (-q * r) else low (p * s) (q * r)
theorem Rep.zero_iff {n d p q : Int} (r : Rep n d p q) : n = 0 ↔ p = 0 := by
  have c := r.c
  have q0 := r.g.q0
  have d0 := r.d0
  constructor
  · rintro rfl
    rw [Int.zero_mul] at c
    rcases Int.mul_eq_zero.mp c with z | z
    · exact z
    · omega
  · rintro rfl
    rw [Int.zero_mul] at c
    rcases Int.mul_eq_zero.mp c.symm with z | z
    · exact z
    · omega
theorem due_pos {n d : Int} (h : 0 < d) : due n d = low n d := by
  unfold due
  rw [if_neg (by omega), if_neg (by omega)]
theorem op_res {n d p q t u r s : Int} (a : Rep n d p q) (b : Rep t u r s) : ∀ g : Sg, op g p q r s = res g n d t u
  | .add => by
    show low _ _ = due _ _
    rw [due_pos (Int.mul_pos a.d0 b.d0)]
    refine cross (Int.mul_pos a.g.q0 b.g.q0) (Int.mul_pos a.d0 b.d0) ?_
    have e1 := a.c
    have e2 := b.c
    calc (p * s + r * q) * (d * u) = (p * d) * (s * u) + (r * u) * (q * d) := by rw [Int.add_mul]; congr 1 <;> ac_rfl
      _ = (n * q) * (s * u) + (t * s) * (q * d) := by rw [e1, e2]
      _ = (n * u + t * d) * (q * s) := by rw [Int.add_mul]; congr 1 <;> ac_rfl
  | .sub => by
    show low _ _ = due _ _
    rw [due_pos (Int.mul_pos a.d0 b.d0)]
    refine cross (Int.mul_pos a.g.q0 b.g.q0) (Int.mul_pos a.d0 b.d0) ?_
    have e1 := a.c
    have e2 := b.c
    calc (p * s - r * q) * (d * u) = (p * d) * (s * u) - (r * u) * (q * d) := by rw [Int.sub_mul]; congr 1 <;> ac_rfl
      _ = (n * q) * (s * u) - (t * s) * (q * d) := by rw [e1, e2]
      _ = (n * u - t * d) * (q * s) := by rw [Int.sub_mul]; congr 1 <;> ac_rfl
  | .mul => by
    show low _ _ = due _ _
    rw [due_pos (Int.mul_pos a.d0 b.d0)]
    refine cross (Int.mul_pos a.g.q0 b.g.q0) (Int.mul_pos a.d0 b.d0) ?_
    have e1 := a.c
    have e2 := b.c
    calc (p * r) * (d * u) = (p * d) * (r * u) := by ac_rfl
      _ = (n * q) * (t * s) := by rw [e1, e2]
      _ = (n * t) * (q * s) := by ac_rfl
  | .div => by
    show (if r = 0 then _ else if r < 0 then low (-p * s) (-q * r) else low (p * s) (q * r)) = due _ _
    have e1 := a.c
    have e2 := b.c
    by_cases h0 : r = 0
    · have t0 := b.zero_iff.mpr h0
      rw [if_pos h0, t0, Int.mul_zero]
      rfl
    by_cases h1 : r < 0
    · have t1 := b.neg_iff.mpr h1
      rw [if_neg h0, if_pos h1]
      have z := Int.mul_neg_of_pos_of_neg a.d0 t1
      unfold due
      rw [if_neg (by omega), if_pos z]
      refine cross ?_ (by omega) ?_
      · have := Int.mul_neg_of_pos_of_neg a.g.q0 h1
        rw [Int.neg_mul]; omega
      · calc (-p * s) * -(d * t) = (p * d) * (t * s) := by rw [Int.neg_mul, Int.neg_mul_neg]; ac_rfl
          _ = (n * q) * (r * u) := by rw [e1, e2]
          _ = -(n * u) * (-q * r) := by rw [Int.neg_mul (a := q), Int.neg_mul_neg]; ac_rfl
    · have t1 : 0 < t := by
        have := b.neg_iff; have := b.zero_iff; omega
      rw [if_neg h0, if_neg h1, due_pos (Int.mul_pos a.d0 t1)]
      refine cross (Int.mul_pos a.g.q0 (by omega)) (Int.mul_pos a.d0 t1) ?_
      calc (p * s) * (d * t) = (p * d) * (t * s) := by ac_rfl
        _ = (n * q) * (r * u) := by rw [e1, e2]
        _ = (n * u) * (q * r) := by ac_rfl
/-- a sum's second part taken away again -/
theorem back_add {p q r s u v : Int} (a : Good p q) (b : Good r s) (h : op .add p q r s = .ok (u, v)) : Good u v ∧ op .sub u v r s = .ok (p, q) := by
  have ps := Int.mul_pos a.q0 b.q0
  obtain ⟨g, c⟩ := low_ok ps h
  refine ⟨g, ?_⟩
  rw [← low_good a]
  refine cross (Int.mul_pos g.q0 b.q0) a.q0 ?_
  have x : (u * s - r * v) * q * s = p * (v * s) * s := by
    have e : (u * s - r * v) * q * s = u * (q * s) * s - r * v * q * s := by rw [Int.sub_mul, Int.sub_mul]; congr 1; ac_rfl
    rw [e, c, Int.add_mul, Int.add_mul]
    have z1 : p * s * v * s = p * (v * s) * s := by ac_rfl
    have z2 : r * q * v * s = r * v * q * s := by ac_rfl
    omega
  exact Int.eq_of_mul_eq_mul_right (Int.ne_of_gt b.q0) x
theorem back_div {p q r s u v : Int} (a : Good p q) (b : Good r s) (h : op .div p q r s = .ok (u, v)) : Good u v ∧ op .mul u v r s = .ok (p, q) := by
  have h' : (if r = 0 then .error 0 else if r < 0 then low (-p * s) (-q * r) else low (p * s) (q * r)) = Except.ok (u, v) := h
  by_cases h0 : r = 0
  · rw [if_pos h0] at h'; cases h'
  rw [if_neg h0] at h'
  have key : Good u v ∧ u * (q * r) = p * s * v := by
    by_cases h1 : r < 0
    · rw [if_pos h1] at h'
      have pos : 0 < -q * r := by
        have := Int.mul_neg_of_pos_of_neg a.q0 h1
        rw [Int.neg_mul]; omega
      obtain ⟨g, c⟩ := low_ok pos h'
      refine ⟨g, ?_⟩
      rw [Int.neg_mul, Int.neg_mul, Int.mul_neg, Int.neg_mul] at c
      omega
    · rw [if_neg h1] at h'
      exact low_ok (Int.mul_pos a.q0 (by omega)) h'
  obtain ⟨g, c⟩ := key
  refine ⟨g, ?_⟩
  rw [← low_good a]
  refine cross (Int.mul_pos g.q0 b.q0) a.q0 ?_
  calc (u * r) * q = u * (q * r) := by ac_rfl
    _ = p * s * v := c
    _ = p * (v * s) := by ac_rfl
def enc : Except Int (Int × Int) → Bool × Int × Int
  | .error z => (false, z, 0)
  | .ok x => (true, x.1, x.2)
theorem gI_step {a b : Int} (h1 : 0 ≤ a) (h2 : 0 < b) : gI a b = gI b (a % b) := by
  unfold gI
  have e : (a % b).natAbs = a.natAbs % b.natAbs := by
    have := Int.emod_nonneg a (show b ≠ 0 by omega)
    have h3 : ((a.natAbs % b.natAbs : Nat) : Int) = a % b := by
      rw [Int.natCast_emod, Int.natAbs_of_nonneg h1, Int.natAbs_of_nonneg (Int.le_of_lt h2)]
    omega
  rw [e, Nat.gcd_comm b.natAbs, ← Nat.gcd_rec, Nat.gcd_comm]
theorem gI_zero {a : Int} (h : 0 ≤ a) : gI a 0 = a := by unfold gI; simp; omega
theorem gI_abs (n d : Int) : gI (abI n) d = gI n d := by
  unfold abI
  split
  · exact gI_neg
  · rfl
theorem low_top {n d : Int} (h : abI (n / gI n d) > B) : low n d = .error (n / gI n d) := by
  unfold low mk
  rw [if_pos]
  unfold abI at h
  split at h <;> omega
theorem low_bottom {n d : Int} (h1 : ¬ abI (n / gI n d) > B) (h2 : d / gI n d > B) : low n d = .error (d / gI n d) := by
  unfold low mk
  rw [if_neg, if_pos (.inr h2)]
  unfold abI at h1
  split at h1 <;> omega
theorem low_fine {n d : Int} (h0 : 0 < d) (h1 : ¬ abI (n / gI n d) > B) (h2 : ¬ d / gI n d > B) : low n d = .ok (n / gI n d, d / gI n d) := by
  have a := div_pos (n := n) h0
  unfold low mk
  rw [if_neg, if_neg (by omega), gI_one h0, Int.ediv_one, Int.ediv_one]
  unfold abI at h1
  split at h1 <;> omega
/-! ### order -/
theorem order {n d p q t u r s : Int} (a : Rep n d p q) (b : Rep t u r s) : (p * s < r * q ↔ n * u < t * d) ∧ (p * s = r * q ↔ n * u = t * d) := by
  have e1 := a.c
  have e2 := b.c
  have k1 : (p * s) * (d * u) = (n * u) * (q * s) := by
    calc (p * s) * (d * u) = (p * d) * (s * u) := by ac_rfl
      _ = (n * q) * (s * u) := by rw [e1]
      _ = (n * u) * (q * s) := by ac_rfl
  have k2 : (r * q) * (d * u) = (t * d) * (q * s) := by
    calc (r * q) * (d * u) = (r * u) * (q * d) := by ac_rfl
      _ = (t * s) * (q * d) := by rw [e2]
      _ = (t * d) * (q * s) := by ac_rfl
  have w1 := Int.mul_pos a.d0 b.d0
  have w2 := Int.mul_pos a.g.q0 b.g.q0
  refine ⟨⟨fun h => ?_, fun h => ?_⟩, fun h => ?_, fun h => ?_⟩
  · have := Int.mul_lt_mul_of_pos_right h w1
    rw [k1, k2] at this
    exact Int.lt_of_mul_lt_mul_right this (Int.le_of_lt w2)
  · have := Int.mul_lt_mul_of_pos_right h w2
    rw [← k1, ← k2] at this
    exact Int.lt_of_mul_lt_mul_right this (Int.le_of_lt w1)
  · rw [h, k2] at k1
    exact (Int.eq_of_mul_eq_mul_right (Int.ne_of_gt w2) k1).symm
  · rw [h, ← k2] at k1
    exact Int.eq_of_mul_eq_mul_right (Int.ne_of_gt w1) k1
theorem equal {n d p q t u r s : Int} (a : Rep n d p q) (b : Rep t u r s) : (p = r ∧ q = s) ↔ n * u = t * d := by
  rw [← (order a b).2]
  constructor
  · rintro ⟨rfl, rfl⟩; rfl
  · exact same a.g.g1 b.g.g1 a.g.q0 b.g.q0
theorem floor_is {n d p q : Int} (a : Rep n d p q) : p / q * d ≤ n ∧ n < (p / q + 1) * d := by
  have e1 := a.c
  have q0 := a.g.q0
  have h1 : p / q * q ≤ p := Int.ediv_mul_le p (by omega)
  have h2 : p < (p / q + 1) * q := Int.lt_ediv_add_one_mul_self p q0
  generalize p / q = k at *
  constructor
  · have := Int.mul_le_mul_of_nonneg_right h1 (Int.le_of_lt a.d0)
    rw [e1] at this
    have x : k * d * q ≤ n * q := by
      have : k * q * d = k * d * q := by ac_rfl
      omega
    exact Int.le_of_mul_le_mul_right x q0
  · have := Int.mul_lt_mul_of_pos_right h2 a.d0
    rw [e1] at this
    have x : n * q < (k + 1) * d * q := by
      have : (k + 1) * q * d = (k + 1) * d * q := by ac_rfl
      omega
    exact Int.lt_of_mul_lt_mul_right x (Int.le_of_lt q0)
theorem ceil_is {n d p q : Int} (a : Rep n d p q) : (-(-p / q) - 1) * d < n ∧ n ≤ -(-p / q) * d := by
  obtain ⟨h1, h2⟩ := floor_is a.neg
  generalize -p / q = k at *
  rw [Int.sub_mul, Int.neg_mul, Int.one_mul]
  rw [Int.add_mul, Int.one_mul] at h2
  omega
end K1
/-! ratios: totals; sizes -/
namespace K1
def lcI (a b : Int) : Int := ((Nat.lcm a.natAbs b.natAbs : Nat) : Int)
def lcP (ps : List (Int × Int)) : Int := ps.foldl (fun L x => lcI L x.2) 1
def sumP (ps : List (Int × Int)) (L : Int) : Int := (ps.map fun x => x.1 * (L / x.2)).sum
theorem lcP_snoc (ps : List (Int × Int)) (x : Int × Int) : lcP (ps ++ [x]) = lcI (lcP ps) x.2 := by unfold lcP; rw [List.foldl_append]; rfl
theorem lcI_dvd1 (a b : Int) : a ∣ lcI a b := Int.natAbs_dvd_natAbs.mp (show a.natAbs ∣ a.natAbs.lcm b.natAbs from Nat.dvd_lcm_left _ _)
theorem lcI_dvd2 (a b : Int) : b ∣ lcI a b := Int.natAbs_dvd_natAbs.mp (show b.natAbs ∣ a.natAbs.lcm b.natAbs from Nat.dvd_lcm_right _ _)
theorem lcI_pos {a b : Int} (h1 : 0 < a) (h2 : 0 < b) : 0 < lcI a b := by
  have : 0 < a.natAbs.lcm b.natAbs := Nat.lcm_pos (by omega) (by omega)
  unfold lcI
  omega
theorem lcI_least {a b D : Int} (h1 : a ∣ D) (h2 : b ∣ D) : lcI a b ∣ D :=
  Int.natAbs_dvd_natAbs.mp (show a.natAbs.lcm b.natAbs ∣ D.natAbs from Nat.lcm_dvd (Int.natAbs_dvd_natAbs.mpr h1) (Int.natAbs_dvd_natAbs.mpr h2))
theorem lcP_pos : ∀ ps : List (Int × Int), (∀ x ∈ ps, 0 < x.2) → 0 < lcP ps := by
  suffices h : ∀ (ps : List (Int × Int)) (L : Int), 0 < L → (∀ x ∈ ps, 0 < x.2) → 0 < ps.foldl (fun L x => lcI L x.2) L from fun ps hp => h ps 1 (by decide) hp
  intro ps
  induction ps with
  | nil => intro L h _; exact h
  | cons x t ih => intro L h hp; exact ih _ (lcI_pos h (hp x (List.mem_cons_self ..))) fun y hy => hp y (List.mem_cons_of_mem _ hy)
theorem lcP_least {D : Int} : ∀ ps : List (Int × Int), (∀ x ∈ ps, x.2 ∣ D) → lcP ps ∣ D := by
  suffices h : ∀ (ps : List (Int × Int)) (L : Int), L ∣ D → (∀ x ∈ ps, x.2 ∣ D) → ps.foldl (fun L x => lcI L x.2) L ∣ D from fun ps hp => h ps 1 (Int.one_dvd _) hp
  intro ps
  induction ps with
  | nil => intro L h _; exact h
  | cons x t ih => intro L h hp; exact ih _ (lcI_least h (hp x (List.mem_cons_self ..))) fun y hy => hp y (List.mem_cons_of_mem _ hy)
theorem fold_dvd : ∀ (ps : List (Int × Int)) (L : Int), L ∣ ps.foldl (fun L x => lcI L x.2) L ∧ ∀ x ∈ ps, x.2 ∣ ps.foldl (fun L x => lcI L x.2) L := by
  intro ps
  induction ps with
  | nil => intro L; exact ⟨Int.dvd_refl _, fun x hx => by cases hx⟩
  | cons y t ih =>
    intro L
    obtain ⟨h1, h2⟩ := ih (lcI L y.2)
    refine ⟨Int.dvd_trans (lcI_dvd1 _ _) h1, fun x hx => ?_⟩
    rcases List.mem_cons.mp hx with rfl | hx
    · exact Int.dvd_trans (lcI_dvd2 _ _) h1
    · exact h2 x hx
theorem lcP_dvd (ps : List (Int × Int)) : ∀ x ∈ ps, x.2 ∣ lcP ps := (fold_dvd ps 1).2
/-- an added part: D times what it gives is L times what is due -/
theorem part {p q n d c L D : Int} (q0 : 0 < q) (d0 : 0 < d) (e : p * d = n * q) (hq : q ∣ L) (hc : c * d = n * D) : p * (L / q) * D = c * L := by
  obtain ⟨k, rfl⟩ := hq
  rw [Int.mul_ediv_cancel_left _ (by omega)]
  have : p * k * D * d = c * (q * k) * d := by
    calc p * k * D * d = (p * d) * (k * D) := by ac_rfl
      _ = (n * D) * (q * k) := by rw [e]; ac_rfl
      _ = c * (q * k) * d := by rw [← hc]; ac_rfl
  exact Int.eq_of_mul_eq_mul_right (by omega) this
theorem sum_part {c : Int → Int} {f : Int → Int × Int} {L D : Int} : ∀ line : List Int, (∀ k ∈ line, (f k).1 * (L / (f k).2) * D = c k * L) → sumP (line.map f) L * D = (line.map c).sum * L := by
  intro line
  induction line with
  | nil => intro _; simp [sumP]
  | cons k t ih =>
    intro h
    have h1 := h k (List.mem_cons_self ..)
    have h2 := ih fun j hj => h j (List.mem_cons_of_mem _ hj)
    unfold sumP at *
    rw [List.map_cons, List.map_cons, List.sum_cons, List.map_cons, List.sum_cons, Int.add_mul, Int.add_mul, h1, h2]
theorem sum_count (c : Int → Int) : ∀ line : List Int, (∀ k ∈ line, 0 ≤ k ∧ k < 4) → (line.map c).sum = c 0 * (line.count 0 : Nat) + c 1 * (line.count 1 : Nat) + c 2 * (line.count 2 : Nat) + c 3 * (line.count 3 : Nat) := by
  intro line
  induction line with
  | nil => intro _; simp
  | cons k t ih =>
    intro h
    have h1 := h k (List.mem_cons_self ..)
    have h2 := ih fun j hj => h j (List.mem_cons_of_mem _ hj)
    rw [List.map_cons, List.sum_cons, h2]
    rcases (show k = 0 ∨ k = 1 ∨ k = 2 ∨ k = 3 by omega) with rfl | rfl | rfl | rfl <;>
      simp only [List.count_cons, Int.natCast_add, Int.mul_add, beq_iff_eq, reduceIte, Nat.add_zero, show ((0:Int) = 1) = False by simp, show ((0:Int) = 2) = False by simp, show ((0:Int) = 3) = False by simp,
        show ((1:Int) = 0) = False by simp, show ((1:Int) = 2) = False by simp, show ((1:Int) = 3) = False by simp, show ((2:Int) = 0) = False by simp, show ((2:Int) = 1) = False by simp, show ((2:Int) = 3) = False by simp,
        show ((3:Int) = 0) = False by simp, show ((3:Int) = 1) = False by simp, show ((3:Int) = 2) = False by simp] <;> omega
theorem count4 : ∀ line : List Int, (line.count 0 + line.count 1 + line.count 2 + line.count 3 : Nat) ≤ line.length := by
  intro line
  induction line with
  | nil => simp
  | cons k t ih =>
    simp only [List.count_cons, List.length_cons, beq_iff_eq]
    by_cases h0 : k = 0
    · subst h0; simp; omega
    by_cases h1 : k = 1
    · subst h1; simp; omega
    by_cases h2 : k = 2
    · subst h2; simp; omega
    by_cases h3 : k = 3
    · subst h3; simp; omega
    simp [h0, h1, h2, h3]; omega
/-! ### sizes -/
def Sm (k : Nat) (z : Int) : Prop := z.natAbs < 2 ^ k
theorem Sm.mono {j k : Nat} {z : Int} (h : Sm j z) (hk : j ≤ k) : Sm k z := Nat.lt_of_lt_of_le h (Nat.pow_le_pow_right (by decide) hk)
theorem Sm.mul {j k : Nat} {x y : Int} (h1 : Sm j x) (h2 : Sm k y) : Sm (j + k) (x * y) := by
  unfold Sm at *
  rw [Int.natAbs_mul, Nat.pow_add]
  exact Nat.mul_lt_mul'' h1 h2
theorem Sm.neg {k : Nat} {x : Int} (h : Sm k x) : Sm k (-x) := by unfold Sm at *; rw [Int.natAbs_neg]; exact h
theorem Sm.add {k : Nat} {x y : Int} (h1 : Sm k x) (h2 : Sm k y) : Sm (k + 1) (x + y) := by
  unfold Sm at *
  rw [Nat.pow_succ]
  have := Int.natAbs_add_le x y
  omega
theorem Sm.sub {k : Nat} {x y : Int} (h1 : Sm k x) (h2 : Sm k y) : Sm (k + 1) (x - y) := by
  rw [Int.sub_eq_add_neg]
  exact h1.add h2.neg
theorem Sm.le {k : Nat} {x b : Int} (h : Sm k b) (h1 : -b ≤ x) (h2 : x ≤ b) : Sm k x := by
  unfold Sm at *
  omega
theorem Sm.B : Sm 6644 B := B_lt
theorem Good.smp {p q : Int} (g : Good p q) : Sm 6644 p := Sm.le Sm.B g.lo g.hi
theorem Good.smq {p q : Int} (g : Good p q) : Sm 6644 q := Sm.le Sm.B (by have := g.q0; have := B_pos; omega) g.qB
theorem Sm.of {k : Nat} {z : Int} (m : Nat) (h : z.natAbs ≤ m) (hm : m < 2 ^ k) : Sm k z := Nat.lt_of_le_of_lt h hm
theorem Sm.div {k : Nat} {x y : Int} (h : Sm k x) (hy : 0 < y) : Sm k (x / y) := by
  unfold Sm at *
  have h2 : (x / y).natAbs ≤ x.natAbs := by
    by_cases z : 0 ≤ x
    · have a := Int.ediv_le_self y z
      have b := Int.ediv_nonneg z (Int.le_of_lt hy)
      omega
    · have a : -1 - (-x - 1) / y = x / y := by
        have e : x = -1 - (-x - 1) := by omega
        refine Eq.symm ?_
        rw [Int.ediv_eq_iff_of_pos hy]
        have h1 := Int.ediv_mul_le (-x - 1) (show y ≠ 0 by omega)
        have h2 := Int.lt_ediv_add_one_mul_self (-x - 1) hy
        constructor
        · rw [Int.sub_mul]
          rw [Int.add_mul] at h2
          omega
        · rw [Int.sub_mul]
          rw [Int.add_mul] at h2
          omega
      have b := Int.ediv_le_self y (show 0 ≤ -x - 1 by omega)
      have c := Int.ediv_nonneg (show 0 ≤ -x - 1 by omega) (Int.le_of_lt hy)
      omega
  omega
end K1
set_option exponentiation.threshold 20000
/-! ratios: the totals of the law -/
namespace K1
def nK (n1 n2 li : Int) : Int → Int := fun k => if k = 0 then n1 else if k = 1 then n2 else if k = 2 then -n1 else li
def dK (d1 d2 sm : Int) : Int → Int := fun k => if k = 0 then d1 else if k = 1 then d2 else if k = 2 then d1 else sm
def cK (n1 d1 n2 d2 li sm : Int) : Int → Int := fun k => if k = 0 then n1 * d2 * sm else if k = 1 then n2 * d1 * sm else if k = 2 then -n1 * d2 * sm else li * d1 * d2
def totI (ks : List Int) (n1 d1 n2 d2 li sm : Int) : Int := (((ks.count 0 : Nat) - (ks.count 2 : Nat) : Int) * n1 * d2 + (ks.count 1 : Nat) * n2 * d1) * sm + (ks.count 3 : Nat) * li * d1 * d2
theorem four {k : Int} (h : 0 ≤ k ∧ k < 4) : k = 0 ∨ k = 1 ∨ k = 2 ∨ k = 3 := by omega
theorem cK_is {n1 d1 n2 d2 li sm k : Int} (h : 0 ≤ k ∧ k < 4) : cK n1 d1 n2 d2 li sm k * dK d1 d2 sm k = nK n1 n2 li k * (d1 * d2 * sm) := by
  rcases four h with rfl | rfl | rfl | rfl
  · show n1 * d2 * sm * d1 = n1 * (d1 * d2 * sm)
    ac_rfl
  · show n2 * d1 * sm * d2 = n2 * (d1 * d2 * sm)
    ac_rfl
  · show -n1 * d2 * sm * d1 = -n1 * (d1 * d2 * sm)
    ac_rfl
  · show li * d1 * d2 * sm = li * (d1 * d2 * sm)
    ac_rfl
theorem totI_is (ks : List Int) (n1 d1 n2 d2 li sm : Int) (hk : ∀ k ∈ ks, 0 ≤ k ∧ k < 4) : (ks.map (cK n1 d1 n2 d2 li sm)).sum = totI ks n1 d1 n2 d2 li sm := by
  rw [sum_count _ ks hk]
  show n1 * d2 * sm * (ks.count 0 : Nat) + n2 * d1 * sm * (ks.count 1 : Nat) + -n1 * d2 * sm * (ks.count 2 : Nat) + li * d1 * d2 * (ks.count 3 : Nat) = _
  unfold totI
  generalize ((ks.count 0 : Nat) : Int) = a
  generalize ((ks.count 1 : Nat) : Int) = b
  generalize ((ks.count 2 : Nat) : Int) = c
  generalize ((ks.count 3 : Nat) : Int) = e
  rw [Int.add_mul, Int.sub_mul, Int.sub_mul, Int.sub_mul]
  have h1 : n1 * d2 * sm * a = a * n1 * d2 * sm := by ac_rfl
  have h2 : n2 * d1 * sm * b = b * n2 * d1 * sm := by ac_rfl
  have h3 : -n1 * d2 * sm * c = -(c * n1 * d2 * sm) := by rw [Int.neg_mul, Int.neg_mul, Int.neg_mul]; congr 1; ac_rfl
  have h4 : li * d1 * d2 * e = e * li * d1 * d2 := by ac_rfl
  rw [h1, h2, h3, h4]
  omega
structure Tot (ks : List Int) (f : Int → Int × Int) (n1 d1 n2 d2 li sm : Int) : Prop where
  pos : 0 < lcP (ks.map f)
  dvd : ∀ x ∈ ks.map f, x.2 ∣ d1 * d2 * sm
  low : low (sumP (ks.map f) (lcP (ks.map f))) (lcP (ks.map f)) = due (totI ks n1 d1 n2 d2 li sm) (d1 * d2 * sm)
  le : (sumP (ks.map f) (lcP (ks.map f))).natAbs ≤ (totI ks n1 d1 n2 d2 li sm).natAbs
theorem tot_is {ks : List Int} {f : Int → Int × Int} {n1 d1 n2 d2 li sm : Int} (hk : ∀ k ∈ ks, 0 ≤ k ∧ k < 4) (hf : ∀ k, 0 ≤ k ∧ k < 4 → Rep (nK n1 n2 li k) (dK d1 d2 sm k) (f k).1 (f k).2) (h1 : 0 < d1) (h2 : 0 < d2) (h3 : 0 < sm) : Tot ks f n1 d1 n2 d2 li sm := by
  have D0 : 0 < d1 * d2 * sm := Int.mul_pos (Int.mul_pos h1 h2) h3
  have pos : 0 < lcP (ks.map f) := lcP_pos _ fun x hx => by
    obtain ⟨k, hk1, rfl⟩ := List.mem_map.mp hx
    exact (hf k (hk k hk1)).g.q0
  have dvd : ∀ x ∈ ks.map f, x.2 ∣ d1 * d2 * sm := fun x hx => by
    obtain ⟨k, hk1, rfl⟩ := List.mem_map.mp hx
    have r := hf k (hk k hk1)
    have a : (f k).2 ∣ dK d1 d2 sm k := dvd_of r.g.g1 ⟨nK n1 n2 li k, by rw [r.c, Int.mul_comm]⟩
    refine Int.dvd_trans a ?_
    rcases four (hk k hk1) with rfl | rfl | rfl | rfl
    · exact ⟨d2 * sm, by show d1 * d2 * sm = d1 * (d2 * sm); ac_rfl⟩
    · exact ⟨d1 * sm, by show d1 * d2 * sm = d2 * (d1 * sm); ac_rfl⟩
    · exact ⟨d2 * sm, by show d1 * d2 * sm = d1 * (d2 * sm); ac_rfl⟩
    · exact ⟨d1 * d2, by show d1 * d2 * sm = sm * (d1 * d2); ac_rfl⟩
  have key : sumP (ks.map f) (lcP (ks.map f)) * (d1 * d2 * sm) = totI ks n1 d1 n2 d2 li sm * lcP (ks.map f) := by
    rw [← totI_is ks n1 d1 n2 d2 li sm hk]
    refine sum_part ks fun k hk1 => ?_
    have r := hf k (hk k hk1)
    exact part r.g.q0 r.d0 r.c (lcP_dvd _ _ (List.mem_map.mpr ⟨k, hk1, rfl⟩)) (cK_is (hk k hk1))
  refine ⟨pos, dvd, ?_, ?_⟩
  · rw [due_pos D0]
    exact cross pos D0 key
  · have le : lcP (ks.map f) ≤ d1 * d2 * sm := Int.le_of_dvd D0 (lcP_least _ dvd)
    have e := congrArg Int.natAbs key
    rw [Int.natAbs_mul (sumP _ _), Int.natAbs_mul (totI _ _ _ _ _ _ _)] at e
    have : (sumP (ks.map f) (lcP (ks.map f))).natAbs * (d1 * d2 * sm).natAbs ≤ (totI ks n1 d1 n2 d2 li sm).natAbs * (d1 * d2 * sm).natAbs := by
      rw [e]
      exact Nat.mul_le_mul_left _ (by omega)
    exact Nat.le_of_mul_le_mul_right this (by omega)
theorem cnt_sm (ks : List Int) (k : Int) (h : ks.length ≤ 1000) : Sm 10 (ks.count k : Nat) := Sm.of 1000 (by have := List.count_le_length (a := k) (l := ks); omega) (by decide)
theorem tot_sm {ks : List Int} {n1 d1 n2 d2 li sm : Int} (hl : ks.length ≤ 1000) (a : Sm 6644 n1) (b : Sm 6644 d1) (c : Sm 6644 n2) (d : Sm 6644 d2) (e : Sm 4 li) (f : Sm 4 sm) : Sm 13305 (totI ks n1 d1 n2 d2 li sm) := by
  have c0 := cnt_sm ks 0 hl
  have c1 := cnt_sm ks 1 hl
  have c2 := cnt_sm ks 2 hl
  have c3 := cnt_sm ks 3 hl
  have x : Sm 13304 ((((ks.count 0 : Nat) - (ks.count 2 : Nat) : Int) * n1 * d2 + (ks.count 1 : Nat) * n2 * d1) * sm) := (((((c0.sub c2).mul a).mul d).add (((c1.mono (show 10 ≤ 11 by decide)).mul c).mul b)).mul f).mono (by decide)
  have y : Sm 13304 ((ks.count 3 : Nat) * li * d1 * d2) := (((c3.mul e).mul b).mul d).mono (by decide)
  unfold totI
  exact x.add y
end K1
namespace K1
open PySem PySem.Spec PyProof.Rows L2 Evl Nd
def topS (i : Nat) : Stmt := PySem.Challenge.pw_nodearer_k01_ratio_arithmetic.main.body.getD i (.Pass ⟨0, 0, 0, 0⟩)
def clsS (i j : Nat) : Stmt := match topS i with
  | .ClassDef _ _ _ body _ _ _ _ _ _ _ => body.getD j (.Pass ⟨0, 0, 0, 0⟩)
  | s => s
abbrev s_look_size : Stmt := topS 13
theorem sc_look_size : FnScope ["count", "least", "most"] ["count", "least", "most"] (defScope s_look_size) := ⟨rfl, rfl, rfl, by decide +kernel, rfl, by decide +kernel, by decide +kernel⟩
abbrev s_look_number : Stmt := topS 14
theorem sc_look_number : FnScope ["number", "least", "most"] ["number", "least", "most"] (defScope s_look_number) := ⟨rfl, rfl, rfl, by decide +kernel, rfl, by decide +kernel, by decide +kernel⟩
abbrev s_ratio_of : Stmt := topS 21
theorem sc_ratio_of : FnScope ["num", "den", "shared"] ["num", "den"] (defScope s_ratio_of) := ⟨rfl, rfl, rfl, by decide +kernel, rfl, by decide +kernel, by decide +kernel⟩
abbrev s__parts : Stmt := topS 22
theorem sc__parts : FnScope ["other"] ["other"] (defScope s__parts) := ⟨rfl, rfl, rfl, by decide +kernel, rfl, by decide +kernel, by decide +kernel⟩
abbrev s__law_tape : Stmt := topS 24
theorem sc__law_tape : FnScope ["script", "digits", "cell", "rest", "k"] ["script"] (defScope s__law_tape) := ⟨rfl, rfl, rfl, by decide +kernel, rfl, by decide +kernel, by decide +kernel⟩
abbrev s__law_take : Stmt := topS 25
theorem sc__law_take : FnScope ["tape", "many", "salt", "digit"] ["tape", "many", "salt"] (defScope s__law_take) := ⟨rfl, rfl, rfl, by decide +kernel, rfl, by decide +kernel, by decide +kernel⟩
abbrev s__law_number : Stmt := topS 26
theorem sc__law_number : FnScope ["tape", "salt", "kind", "value", "k"] ["tape", "salt"] (defScope s__law_number) := ⟨rfl, rfl, rfl, by decide +kernel, rfl, by decide +kernel, by decide +kernel⟩
abbrev s__law_signed : Stmt := topS 27
theorem sc__law_signed : FnScope ["tape", "salt", "sign"] ["tape", "salt"] (defScope s__law_signed) := ⟨rfl, rfl, rfl, by decide +kernel, rfl, by decide +kernel, by decide +kernel⟩
abbrev s__law_int : Stmt := topS 28
theorem sc__law_int : FnScope ["told"] ["told"] (defScope s__law_int) := ⟨rfl, rfl, rfl, by decide +kernel, rfl, by decide +kernel, by decide +kernel⟩
abbrev s__law_common : Stmt := topS 29
theorem sc__law_common : FnScope ["one", "other", "rest"] ["one", "other"] (defScope s__law_common) := ⟨rfl, rfl, rfl, by decide +kernel, rfl, by decide +kernel, by decide +kernel⟩
abbrev s__law_due : Stmt := topS 30
theorem sc__law_due : FnScope ["num", "den", "divisor", "top", "bottom"] ["num", "den"] (defScope s__law_due) := ⟨rfl, rfl, rfl, by decide +kernel, rfl, by decide +kernel, by decide +kernel⟩
abbrev s__law_result : Stmt := topS 31
theorem sc__law_result : FnScope ["sign", "first", "second", "num", "den", "top", "under"] ["sign", "first", "second"] (defScope s__law_result) := ⟨rfl, rfl, rfl, by decide +kernel, rfl, by decide +kernel, by decide +kernel⟩
abbrev s__law_pair : Stmt := topS 32
theorem sc__law_pair : FnScope ["told"] ["told"] (defScope s__law_pair) := ⟨rfl, rfl, rfl, by decide +kernel, rfl, by decide +kernel, by decide +kernel⟩
abbrev s__law_told : Stmt := topS 33
theorem sc__law_told : FnScope ["sign", "one", "other", "told", "e"] ["sign", "one", "other"] (defScope s__law_told) := ⟨rfl, rfl, rfl, by decide +kernel, rfl, by decide +kernel, by decide +kernel⟩
abbrev s__law_operations : Stmt := topS 34
theorem sc__law_operations : FnScope ["signs", "one", "first", "other", "second", "sign"] ["signs", "one", "first", "other", "second"] (defScope s__law_operations) := ⟨rfl, rfl, rfl, by decide +kernel, rfl, by decide +kernel, by decide +kernel⟩
abbrev s__law_order : Stmt := topS 35
theorem sc__law_order : FnScope ["one", "first", "other", "second", "left", "right", "told", "equal"] ["one", "first", "other", "second"] (defScope s__law_order) := ⟨rfl, rfl, rfl, by decide +kernel, rfl, by decide +kernel, by decide +kernel⟩
abbrev s__law_rounded : Stmt := topS 36
theorem sc__law_rounded : FnScope ["one", "first", "low", "high"] ["one", "first"] (defScope s__law_rounded) := ⟨rfl, rfl, rfl, by decide +kernel, rfl, by decide +kernel, by decide +kernel⟩
abbrev s__law_single : Stmt := topS 37
theorem sc__law_single : FnScope ["one", "first", "num", "den", "due", "truth", "same", "twin"] ["one", "first"] (defScope s__law_single) := ⟨rfl, rfl, rfl, by decide +kernel, rfl, by decide +kernel, by decide +kernel⟩
abbrev s__law_back : Stmt := topS 38
theorem sc__law_back : FnScope ["one", "first", "other", "second", "due"] ["one", "first", "other", "second"] (defScope s__law_back) := ⟨rfl, rfl, rfl, by decide +kernel, rfl, by decide +kernel, by decide +kernel⟩
abbrev s__law_total : Stmt := topS 39
theorem sc__law_total : FnScope ["passed", "told", "e"] ["passed"] (defScope s__law_total) := ⟨rfl, rfl, rfl, by decide +kernel, rfl, by decide +kernel, by decide +kernel⟩
abbrev s__law_totals : Stmt := topS 40
theorem sc__law_totals : FnScope ["tape", "first", "second", "num", "den", "top", "under", "little", "small", "parts", "ratios", "pairs", "many", "line", "passed", "ones", "others", "total", "due", "kept", "part", "k", "told"] ["tape", "first", "second"] (defScope s__law_totals) := ⟨rfl, rfl, rfl, by decide +kernel, rfl, by decide +kernel, by decide +kernel⟩
abbrev s_law : Stmt := topS 41
theorem sc_law : FnScope ["script", "tape", "top", "first", "second", "whole", "one", "other", "third", "same", "signs"] ["script"] (defScope s_law) := ⟨rfl, rfl, rfl, by decide +kernel, rfl, by decide +kernel, by decide +kernel⟩
abbrev s_R_init : Stmt := clsS 20 0
theorem sc_R_init : FnScope ["self", "num", "den", "shared"] ["self", "num", "den"] (defScope s_R_init) := ⟨rfl, rfl, rfl, by decide +kernel, rfl, by decide +kernel, by decide +kernel⟩
abbrev s_R_add : Stmt := clsS 20 1
theorem sc_R_add : FnScope ["self", "other", "num", "den"] ["self", "other"] (defScope s_R_add) := ⟨rfl, rfl, rfl, by decide +kernel, rfl, by decide +kernel, by decide +kernel⟩
abbrev s_R_sub : Stmt := clsS 20 2
theorem sc_R_sub : FnScope ["self", "other", "num", "den"] ["self", "other"] (defScope s_R_sub) := ⟨rfl, rfl, rfl, by decide +kernel, rfl, by decide +kernel, by decide +kernel⟩
abbrev s_R_mul : Stmt := clsS 20 3
theorem sc_R_mul : FnScope ["self", "other", "num", "den"] ["self", "other"] (defScope s_R_mul) := ⟨rfl, rfl, rfl, by decide +kernel, rfl, by decide +kernel, by decide +kernel⟩
abbrev s_R_neg : Stmt := clsS 20 4
theorem sc_R_neg : FnScope ["self"] ["self"] (defScope s_R_neg) := ⟨rfl, rfl, rfl, by decide +kernel, rfl, by decide +kernel, by decide +kernel⟩
abbrev s_R_abs : Stmt := clsS 20 5
theorem sc_R_abs : FnScope ["self"] ["self"] (defScope s_R_abs) := ⟨rfl, rfl, rfl, by decide +kernel, rfl, by decide +kernel, by decide +kernel⟩
abbrev s_R_eq : Stmt := clsS 20 6
theorem sc_R_eq : FnScope ["self", "other"] ["self", "other"] (defScope s_R_eq) := ⟨rfl, rfl, rfl, by decide +kernel, rfl, by decide +kernel, by decide +kernel⟩
abbrev s_R_bool : Stmt := clsS 20 7
theorem sc_R_bool : FnScope ["self"] ["self"] (defScope s_R_bool) := ⟨rfl, rfl, rfl, by decide +kernel, rfl, by decide +kernel, by decide +kernel⟩
abbrev s_R_over : Stmt := clsS 20 9
theorem sc_R_over : FnScope ["self", "other"] ["self", "other"] (defScope s_R_over) := ⟨rfl, rfl, rfl, by decide +kernel, rfl, by decide +kernel, by decide +kernel⟩
abbrev s_R_compare : Stmt := clsS 20 10
theorem sc_R_compare : FnScope ["self", "other", "left", "right"] ["self", "other"] (defScope s_R_compare) := ⟨rfl, rfl, rfl, by decide +kernel, rfl, by decide +kernel, by decide +kernel⟩
abbrev s_R_floor : Stmt := clsS 20 11
theorem sc_R_floor : FnScope ["self"] ["self"] (defScope s_R_floor) := ⟨rfl, rfl, rfl, by decide +kernel, rfl, by decide +kernel, by decide +kernel⟩
abbrev s_R_ceil : Stmt := clsS 20 12
theorem sc_R_ceil : FnScope ["self"] ["self"] (defScope s_R_ceil) := ⟨rfl, rfl, rfl, by decide +kernel, rfl, by decide +kernel, by decide +kernel⟩
abbrev s_R_total : Stmt := clsS 20 14
theorem sc_R_total : FnScope ["ratios", "den", "ratio"] ["ratios"] (defScope s_R_total) := ⟨rfl, rfl, rfl, by decide +kernel, rfl, by decide +kernel, by decide +kernel⟩
structure GlobC (mg : Str → Option Value) (x : Str) (C : Addr) : Prop where
  g : mg x = some (.ref C)
/-- what the top has left -/
structure Tx (P : Program) (w : World) (K : PySem.W.Frag) (mg : Str → Option Value) (base : Heap) (CO CS CN CR : Addr) : Prop where
  z_len : mg "len" = none
  z_sum : mg "sum" = none
  z_max : mg "max" = none
  z_abs : mg "abs" = none
  z_isinstance : mg "isinstance" = none
  z_tuple : mg "tuple" = none
  z_bool : mg "bool" = none
  z_int : mg "int" = none
  z_range : mg "range" = none
  c_MOST : ∃ u, mg "MOST" = some u ∧ RelV (.int B) u
  c__MOST_COMMON : ∃ u, mg "_MOST_COMMON" = some u ∧ RelV (.int (B ^ 5)) u
  c__MOST_TERMS : ∃ u, mg "_MOST_TERMS" = some u ∧ RelV (.int 1000) u
  m_gcd : mg "gcd" = some (.builtin "math.gcd")
  m_lcm : mg "lcm" = some (.builtin "math.lcm")
  e_NodearerError : GlobC mg "NodearerError" CO
  e_SizeError : ErrT P w K mg base "SizeError" "count" CS
  e_NumberError : ErrT P w K mg base "NumberError" "number" CN
  e_Ratio : GlobC mg "Ratio" CR
  cl : Cls K CR
  nN : NoAttr K CR "num"
  nD : NoAttr K CR "den"
  nfI : PySem.W.notFirst K CR (.type "int") = true
  xNN : PySem.W.exmOne K (.ref CN) (.ref CN) = some true
  kNO : PySem.W.kitOne K (.ref CN) (.ref CO) = some true
  kRR : PySem.W.kitOne K (.ref CR) (.ref CR) = some true
  kIR : PySem.W.kitOne K (.type "int") (.ref CR) = some false
  tyC : PySem.W.findIn K (.ref CR) "__class__" = some (some (.builtin "object.__class__"))
  tyG : PySem.W.specialIn K (.builtin "object.__class__") "__get__" = some (some (.builtin "getset_descriptor.__get__"))
  tyT : PySem.W.takesIn K (.builtin "object.__class__") = some true
  tyM : PySem.W.mroIn K CR (.type "object") = some true
end K1
namespace K1
open PySem PySem.Spec PyProof.Rows L2 Evl Nd
local macro_rules | `(tactic| walk_at "ev") => `(tactic| first
  | exact ev_var rfl
  | exact ev_c
  | (apply ev_op; (walk_at "ev"); (walk_at "ev"); (walk_at "rv"))
  | (apply ev_un; (walk_at "ev"); (walk_at "rv"))
  | (apply ev_lenS; (walk_at "ev"); (walk_at "sq"))
  | (apply ev_andV; (walk_at "ev"); (intro _; walk_at "ev"))
  | (apply ev_orV; (walk_at "ev"); (intro _; walk_at "ev"))
  | (apply ev_notV; (walk_at "ev")))
local macro_rules | `(tactic| walk_at "rv") => `(tactic| first
  | exact rv_I0
  | exact ru_neg
  | exact rv_eq rfl
  | exact rv_ne rfl
  | exact rv_I (by decide)
  | exact rv_I (by first | omega | exact .inl (by omega) | exact .inr (by omega) | (constructor <;> omega)))
local macro_rules | `(tactic| walk_at "sq") => `(tactic| first
  | assumption
  | exact SqS.lst (by assumption)
  | exact SqS.tup (by assumption)
  | exact Or.inl (by assumption)
  | exact Or.inr (by assumption)
  | (refine SqS.mono (by assumption) ?_; walk_at "sq"))
local macro_rules | `(tactic| walk_at "et") => `(tactic| first
  | (apply et_or; (walk_at "et"); (intro _; walk_at "et"))
  | (apply et_and; (walk_at "et"); (intro _; walk_at "et"))
  | (apply et_not; (walk_at "et"))
  | (apply et_test; (walk_at "ev"))
  | (apply et_B; (walk_at "ev")))
local macro_rules | `(tactic| walk_at "ea") => `(tactic| first
  | exact ea_nil
  | (apply ea_cons; (walk_at "ev"); (walk_at "ea")))
section
variable {P : Program} {w : World} {K : PySem.W.Frag} {mg : Str → Option Value} {base : Heap} {CO CS CN CR : Addr}
/-! ### ratios in the heap -/
def flds (p q : Int) : List (Str × V) := [("num", .int p), ("den", .int q)]
def Rt (C : Addr) (H : Hp) (a : Addr) (p q : Int) : Prop := ∃ dx, H a = some (.ins C dx (flds p q))
theorem Rt.mono {C a : Addr} {H H' : Hp} {p q : Int} (e : Ex H H') : Rt C H a p q → Rt C H' a p q := fun ⟨dx, h⟩ => ⟨dx, e a _ h⟩
structure ResI (CR CN : Addr) (r : Except Int (Int × Int)) (H : Hp) (Q : VK) (E : XK) : Prop where
  err : ∀ z, r = .error z → Err CN "number" (.int z) H E
  ok : ∀ p q, r = .ok (p, q) → RetI CR (flds p q) H Q
theorem ResI.mono {r : Except Int (Int × Int)} {H H' : Hp} {Q : VK} {E : XK} (h : ResI CR CN r H Q E) (e : Ex H H') : ResI CR CN r H' Q E := ⟨fun z hz => (h.err z hz).mono e, fun p q hp => (h.ok p q hp).mono e⟩
/-- the other one: a ratio or an integer -/
def Opd (C : Addr) (H : Hp) (y : V) (r s : Int) : Prop := (∃ b, y = .ref b ∧ Rt C H b r s) ∨ (y = .int r ∧ s = 1)
theorem Opd.mono {C : Addr} {H H' : Hp} {y : V} {r s : Int} (e : Ex H H') : Opd C H y r s → Opd C H' y r s := fun h => h.elim (fun ⟨b, h1, h2⟩ => .inl ⟨b, h1, h2.mono e⟩) .inr
theorem tyx_r {H : Hp} {a : Addr} {p q : Int} (T : Tx P w K mg base CO CS CN CR) (h : Rt CR H a p q) : TyX K H (.ref a) (.ref CR) := by
  obtain ⟨dx, h⟩ := h
  exact .base (.ins h T.cl T.tyC T.tyG T.tyT T.tyM)
/-! ### looks -/
def spLookSize (CS : Addr) : Sp := fun vs H Q E => ∃ z lo hi : Int, vs = [.int z, .int lo, .int hi] ∧ ((z < lo ∨ z > hi) → Err CS "count" (.int z) H E) ∧ (¬ (z < lo ∨ z > hi) → RetV .non H Q)
def spLookNumber (CN : Addr) : Sp := fun vs H Q E => ∃ z lo hi : Int, vs = [.int z, .int lo, .int hi] ∧ ((z < lo ∨ z > hi) → Err CN "number" (.int z) H E) ∧ (¬ (z < lo ∨ z > hi) → RetV .non H Q)
theorem has_look_size (T : Tx P w K mg base CO CS CN CR) (D : DefAt K mg "look_size" s_look_size ["count", "least", "most"]) : Has P w K mg base 3 "look_size" ["count", "least", "most"] (spLookSize CS) := by
  refine D.has sc_look_size (fun vs H Q E h => ?len) (fun f cdv A outer s H vs Q E hr h => ?body)
  case len =>
    obtain ⟨_, _, _, rfl, _, _⟩ := h
    rfl
  case body =>
    have tk : Takes (cxOf (L2.CX P w) P w K mg base ["count", "least", "most"] "look_size" (defScope s_look_size) f cdv A outer s H E) (fun cls d _ H => E cls d H) := takes_of rfl rfl rfl rfl
    obtain ⟨c, lo, hi, rfl, h1, h2⟩ := h
    refine ⟨_, (pss_one (ps_if (PW.pt (pw_or (pt_cmpR op_lt (pv 0) (pv 1) (nomark _)) (pw_or1 (pt_cmpR op_gt (pv 0) (pv 2) (nomark _))))) (pss_one (ps_err1 rfl T.e_SizeError (hr.mono (by decide)) tk (pa_cons (pv 0) pa_nil))) pss_nil)), ?_⟩
    refine' s_when ?h (fun hb H1 e => ?a) (fun hb H1 e => ?b)
    case h => walk_at "et"
    case a => exact ⟨_, rfl, _, rfl, Err.mono (h1 (by simpa using hb)) e⟩
    case b => exact h2 (by simpa using hb) H1 e
theorem has_look_number (T : Tx P w K mg base CO CS CN CR) (D : DefAt K mg "look_number" s_look_number ["number", "least", "most"]) : Has P w K mg base 3 "look_number" ["number", "least", "most"] (spLookNumber CN) := by
  refine D.has sc_look_number (fun vs H Q E h => ?len) (fun f cdv A outer s H vs Q E hr h => ?body)
  case len =>
    obtain ⟨_, _, _, rfl, _, _⟩ := h
    rfl
  case body =>
    have tk : Takes (cxOf (L2.CX P w) P w K mg base ["number", "least", "most"] "look_number" (defScope s_look_number) f cdv A outer s H E) (fun cls d _ H => E cls d H) := takes_of rfl rfl rfl rfl
    obtain ⟨c, lo, hi, rfl, h1, h2⟩ := h
    refine ⟨_, (pss_one (ps_if (PW.pt (pw_or (pt_cmpR op_lt (pv 0) (pv 1) (nomark _)) (pw_or1 (pt_cmpR op_gt (pv 0) (pv 2) (nomark _))))) (pss_one (ps_err1 rfl T.e_NumberError (hr.mono (by decide)) tk (pa_cons (pv 0) pa_nil))) pss_nil)), ?_⟩
    refine' s_when ?h (fun hb H1 e => ?a) (fun hb H1 e => ?b)
    case h => walk_at "et"
    case a => exact ⟨_, rfl, _, rfl, Err.mono (h1 (by simpa using hb)) e⟩
    case b => exact h2 (by simpa using hb) H1 e
theorem q_look {ta : TA} {σ : L2.St} {H : Hp} {D : Ends} {tz : TS} {E : L2.St → XK} {z lo hi : Int} (h : EvA ta σ H [.int z, .int lo, .int hi]) (bad : (z < lo ∨ z > hi) → Err CN "number" (.int z) H (E σ)) (ok : ¬ (z < lo ∨ z > hi) → ∀ H1, Ex H H1 → tz D σ H1) :
    tSeq (tDrop (tCallS (spLookNumber CN) E ta)) tz D σ H := h H (Ex.refl H) _ fun H1 e1 => ⟨z, lo, hi, rfl, fun c => (bad c).mono e1, fun c H2 e2 => ok c H2 (e1.trans e2)⟩
theorem q_lookS {ta : TA} {σ : L2.St} {H : Hp} {D : Ends} {tz : TS} {E : L2.St → XK} {z lo hi : Int} (h : EvA ta σ H [.int z, .int lo, .int hi]) (bad : (z < lo ∨ z > hi) → Err CS "count" (.int z) H (E σ)) (ok : ¬ (z < lo ∨ z > hi) → ∀ H1, Ex H H1 → tz D σ H1) :
    tSeq (tDrop (tCallS (spLookSize CS) E ta)) tz D σ H := h H (Ex.refl H) _ fun H1 e1 => ⟨z, lo, hi, rfl, fun c => (bad c).mono e1, fun c H2 e2 => ok c H2 (e1.trans e2)⟩
/-! ### making -/
def spMk (CR CN : Addr) : Sp := fun vs H Q E => ∃ (x dx : Addr) (n d : Int), vs = [.ref x, .int n, .int d] ∧ H x = some (.ins CR dx []) ∧ (∀ z, mk n d = .error z → Err CN "number" (.int z) H E) ∧
  ∀ p q, mk n d = .ok (p, q) → ∀ H1, But x H H1 → H1 x = some (.ins CR dx (flds p q)) → Q .non H1
theorem sm_V {k : Nat} {z : Int} (h : Sm k z) (hk : k ≤ 13500 := by decide) : z.natAbs < 2 ^ 13500 := h.mono hk
theorem ok_R_init (T : Tx P w K mg base CO CS CN CR) (h_look_number : Has P w K mg base 3 "look_number" ["number", "least", "most"] (spLookNumber CN)) {fL : Addr} {fdL : FuncData} (D : FunD K "__init__" "Ratio.__init__" (defArgs s_R_init) (defBody s_R_init) (defScope s_R_init) [.int 1] [] fL fdL) : FnOk P w K mg base (L2.CX P w) 4 fL fdL ["self", "num", "den"] (spMk CR CN) := by
  refine D.ok sc_R_init (fun vs H Q E h => ?len) (fun cdv A outer s H vs Q E hr h => ?body)
  case len =>
    obtain ⟨_, _, _, _, rfl, _, _, _⟩ := h
    rfl
  case body =>
    have tk : Takes (cxOf (L2.CX P w) P w K mg base ["self", "num", "den", "shared"] "Ratio.__init__" (defScope s_R_init) fL cdv A outer s H E) (fun cls d _ H => E cls d H) := takes_of rfl rfl rfl rfl
    obtain ⟨x, dx, n, d, rfl, hx, h1, h2⟩ := h
    refine ⟨_, (pss_cons (ps_expr (pe_hasR h_look_number (hr.mono (by decide)) tk (pa_cons (pv 1) (pa_cons (pe_un un_neg (pe_cst T.c_MOST)) (pa_cons (pe_cst T.c_MOST) pa_nil)))))
      (pss_cons (ps_expr (pe_hasR h_look_number (hr.mono (by decide)) tk (pa_cons (pv 2) (pa_cons pe_int (pa_cons (pe_cst T.c_MOST) pa_nil)))))
      (pss_cons (ps_set (i := 3) sc_R_init.nd rfl (.inl rfl) (pe_callBfun cr_gcd rfl T.m_gcd (pa_cons (pv 1) (pa_cons (pv 2) pa_nil))))
      (pss_cons (ps_fld (pv 0) (pe_op op_fdivV (pv 1) (pv 3)) rfl)
      (pss_one (ps_fld (pv 0) (pe_op op_fdivV (pv 2) (pv 3)) rfl)))))), ?_⟩
    refine q_look (z := n) (lo := -B) (hi := B) (ea_cons (ev_var rfl) (ea_cons (ev_neg ev_c) (ea_cons ev_c ea_nil))) (fun c => h1 n (by unfold mk; rw [if_pos c])) fun c1 H1 e1 => ?_
    refine q_look (z := d) (lo := 1) (hi := B) (ea_cons (ev_var rfl) (ea_cons ev_c (ea_cons ev_c ea_nil))) (fun c => (h1 d (by unfold mk; rw [if_neg c1, if_pos c])).mono e1) fun c2 H2 e2 => ?_
    have hm : mk n d = .ok (n / gI n d, d / gI n d) := by unfold mk; rw [if_neg c1, if_neg c2]
    have d0 : 0 < d := by omega
    have g0 := gI_pos (n := n) d0
    refine q_asg (ev_gcd (ea_cons (ev_var rfl) (ea_cons (ev_var rfl) ea_nil))) fun H3 e3 => ?_
    have g3 := (e1.trans (e2.trans e3)) x _ hx
    refine q_fldset (ev_divV (ev_var rfl) (ev_var rfl) ⟨g0, sm_V (Sm.le Sm.B (by omega) (by omega))⟩) (ev_var rfl) g3 T.cl T.nN (by decide) fun H4 e4 => ?_
    refine s_fldset (ev_divV (ev_var rfl) (ev_var rfl) ⟨g0, sm_V (Sm.le Sm.B (by omega) (by omega))⟩) (ev_var rfl) upd_same T.cl T.nD (by show 1 < 1000; decide) fun H5 e5 => ?_
    exact h2 _ _ hm _ (((But.of (e1.trans (e2.trans (e3.trans e4)))).upd.trans (But.of e5)).upd) upd_same
theorem go_mak {ta : TA} {σ : L2.St} {H : Hp} {Q : VK} {E : L2.St → XK} {n d : Int} {vs dvs : List V} (h : EvA ta σ H vs) (hv : vs ++ dvs = [.int n, .int d]) (k : ResI CR CN (mk n d) H Q (E σ)) : tMakS CR (spMk CR CN) dvs E ta σ H Q := h H (Ex.refl H) _ fun H1 e1 x dx hx hd ne => by
  have hxu : upd H1 dx (.own x) x = none := by rw [upd_ne (fun e => ne e.symm)]; exact hx
  have X : Ex H1 (upd (upd H1 dx (.own x)) x (.ins CR dx [])) := (Ex.new hd).trans (Ex.new hxu)
  rw [hv]
  refine ⟨x, dx, n, d, rfl, upd_same, fun z hz => (k.err z hz).mono (e1.trans X), fun p q hp H2 b g => ⟨rfl, k.ok p q hp x dx H2 (fresh_back e1 hx) ?_ g⟩⟩
  refine e1.trans fun a o ha => b a o (fun e => by rw [e, hx] at ha; cases ha) (X a o ha)
theorem ei_mak {ta : TA} {σ : L2.St} {H : Hp} {E : L2.St → XK} {n d p q : Int} {vs dvs : List V} (h : EvA ta σ H vs) (hv : vs ++ dvs = [.int n, .int d]) (hm : mk n d = .ok (p, q)) : EvI CR (tMakS CR (spMk CR CN) dvs E ta) σ H (flds p q) := fun H1 e Q k =>
  go_mak (h.mono e) hv ⟨fun z hz => (by rw [hm] at hz; cases hz), fun p' q' hp => (by rw [hm] at hp; cases hp; exact k)⟩
def spLow (CR CN : Addr) : Sp := fun vs H Q E => ∃ n d : Int, vs = [.int n, .int d] ∧ 0 < d ∧ n.natAbs < 2 ^ 13500 ∧ d.natAbs < 2 ^ 13500 ∧ ResI CR CN (low n d) H Q E
theorem has_ratio_of (T : Tx P w K mg base CO CS CN CR) (h_R_mak : MakC P w K mg base 4 CR "Ratio" ["self", "num", "den"] (spMk CR CN)) (D : DefAt K mg "ratio_of" s_ratio_of ["num", "den"]) : Has P w K mg base 6 "ratio_of" ["num", "den"] (spLow CR CN) := by
  refine D.has sc_ratio_of (fun vs H Q E h => ?len) (fun f cdv A outer s H vs Q E hr h => ?body)
  case len =>
    obtain ⟨_, _, rfl, _, _, _, _⟩ := h
    rfl
  case body =>
    have tk : Takes (cxOf (L2.CX P w) P w K mg base ["num", "den", "shared"] "ratio_of" (defScope s_ratio_of) f cdv A outer s H E) (fun cls d _ H => E cls d H) := takes_of rfl rfl rfl rfl
    obtain ⟨n, d, rfl, d0, hn, hd, h⟩ := h
    refine ⟨_, (pss_cons (ps_set (i := 2) sc_ratio_of.nd rfl (.inl rfl) (pe_callBfun cr_gcd rfl T.m_gcd (pa_cons (pv 0) (pa_cons (pv 1) pa_nil))))
      (pss_one (ps_ret (pe_makR h_R_mak (hr.mono (by decide)) tk (pa_cons (pe_op op_fdivV (pv 0) (pv 2)) (pa_cons (pe_op op_fdivV (pv 1) (pv 2)) pa_nil)))))), ?_⟩
    have g0 := gI_pos (n := n) d0
    refine q_asg (ev_gcd (ea_cons (ev_var rfl) (ea_cons (ev_var rfl) ea_nil))) fun H1 e1 => ?_
    exact go_mak (n := n / gI n d) (d := d / gI n d) (dvs := []) (ea_cons (ev_divV (ev_var rfl) (ev_var rfl) ⟨g0, hn⟩) (ea_cons (ev_divV (ev_var rfl) (ev_var rfl) ⟨g0, hd⟩) ea_nil)) rfl (h.mono e1)
theorem go_low {ta : TA} {σ : L2.St} {H : Hp} {Q : VK} {E : L2.St → XK} {n d : Int} (h : EvA ta σ H [.int n, .int d]) (d0 : 0 < d) (hn : n.natAbs < 2 ^ 13500) (hd : d.natAbs < 2 ^ 13500) (k : ResI CR CN (low n d) H Q (E σ)) : tCallS (spLow CR CN) E ta σ H Q :=
  h H (Ex.refl H) _ fun H1 e1 => ⟨n, d, rfl, d0, hn, hd, k.mono e1⟩
def spParts (CR : Addr) : Sp := fun vs H Q E => ∃ (y : V) (r s : Int), vs = [y] ∧ Opd CR H y r s ∧ Good r s ∧ RetU [.int r, .int s] H Q
theorem ev_num {te : TE} {σ : L2.St} {H : Hp} {a : Addr} {p q : Int} (T : Tx P w K mg base CO CS CN CR) (h : Ev te σ H (.ref a)) (g : Rt CR H a p q) : Ev (tFld K te "num") σ H (.int p) := by
  obtain ⟨dx, g⟩ := g
  exact ev_fld h g T.cl T.nN rfl
theorem ev_den {te : TE} {σ : L2.St} {H : Hp} {a : Addr} {p q : Int} (T : Tx P w K mg base CO CS CN CR) (h : Ev te σ H (.ref a)) (g : Rt CR H a p q) : Ev (tFld K te "den") σ H (.int q) := by
  obtain ⟨dx, g⟩ := g
  exact ev_fld h g T.cl T.nD rfl
theorem has__parts (T : Tx P w K mg base CO CS CN CR) (h_look_number : Has P w K mg base 3 "look_number" ["number", "least", "most"] (spLookNumber CN)) (D : DefAt K mg "_parts" s__parts ["other"]) : Has P w K mg base 4 "_parts" ["other"] (spParts CR) := by
  refine D.has sc__parts (fun vs H Q E h => ?len) (fun f cdv A outer s H vs Q E hr h => ?body)
  case len =>
    obtain ⟨_, _, _, rfl, _, _, _⟩ := h
    rfl
  case body =>
    have tk : Takes (cxOf (L2.CX P w) P w K mg base ["other"] "_parts" (defScope s__parts) f cdv A outer s H E) (fun cls d _ H => E cls d H) := takes_of rfl rfl rfl rfl
    obtain ⟨y, r, s, rfl, hO, hG, h⟩ := h
    refine ⟨_, (pss_cons (ps_if (pt_val (pe_callB call_isi (by rfl) T.z_isinstance (by decide +kernel) (pa_cons (pv 0) (pa_cons (pe_glob (v := .ref CR) rfl T.e_Ratio.g rfl) pa_nil)))) (pss_one (ps_ret (pe_tup (pa_cons (pe_fld (pv 0) rfl) (pa_cons (pe_fld (pv 0) rfl) pa_nil))))) pss_nil)
      (pss_cons (ps_expr (pe_hasR h_look_number (hr.mono (by decide)) tk (pa_cons (pv 0) (pa_cons (pe_un un_neg (pe_cst T.c_MOST)) (pa_cons (pe_cst T.c_MOST) pa_nil)))))
      (pss_one (ps_ret (pe_tup (pa_cons (pv 0) (pa_cons pe_int pa_nil))))))), ?_⟩
    rcases hO with ⟨b, rfl, hb⟩ | ⟨rfl, rfl⟩
    · refine q_when (b := true) (et_test (ev_isi (ea_cons (ev_var rfl) (ea_cons ev_c ea_nil)) (.own CR) (fun H1 e1 => tyx_r T (hb.mono e1)) T.kRR)) (fun _ H1 e1 => ?_) (fun hb => Bool.noConfusion hb)
      exact s_retU (eu_tup (ea_cons (ev_num T (ev_var rfl) (hb.mono e1)) (ea_cons (ev_den T (ev_var rfl) (hb.mono e1)) ea_nil)) (by show 2 ≤ 100000; decide)) fun p H2 hp e2 g2 => h p H2 (fresh_back e1 hp) (e1.trans e2) g2
    · refine q_when (b := false) (et_test (ev_isi (ea_cons (ev_var rfl) (ea_cons ev_c ea_nil)) (.own CR) (fun H1 e1 => .base (.int r)) T.kIR)) (fun hb => Bool.noConfusion hb) (fun _ H1 e1 => ?_)
      refine q_look (z := r) (lo := -B) (hi := B) (ea_cons (ev_var rfl) (ea_cons (ev_neg ev_c) (ea_cons ev_c ea_nil))) (fun c => by have := hG.lo; have := hG.hi; omega) fun _ H2 e2 => ?_
      exact s_retU (eu_tup (ea_cons (ev_var rfl) (ea_cons ev_c ea_nil)) (by show 2 ≤ 100000; decide)) fun p H3 hp e3 g3 => h p H3 (fresh_back (e1.trans e2) hp) ((e1.trans e2).trans e3) g3
end
end K1
set_option exponentiation.threshold 20000
namespace K1
open PySem PySem.Spec PyProof.Rows L2 Evl Nd
local macro_rules | `(tactic| walk_at "ev") => `(tactic| first
  | exact ev_var rfl
  | exact ev_c
  | (apply ev_op; (walk_at "ev"); (walk_at "ev"); (walk_at "rv"))
  | (apply ev_un; (walk_at "ev"); (walk_at "rv"))
  | (apply ev_lenS; (walk_at "ev"); (walk_at "sq"))
  | (apply ev_andV; (walk_at "ev"); (intro _; walk_at "ev"))
  | (apply ev_orV; (walk_at "ev"); (intro _; walk_at "ev"))
  | (apply ev_notV; (walk_at "ev")))
local macro_rules | `(tactic| walk_at "rv") => `(tactic| first
  | exact rv_I0
  | exact ru_neg
  | exact rv_eq rfl
  | exact rv_ne rfl
  | exact rv_I (by decide)
  | exact rv_I (by first | omega | exact .inl (by omega) | exact .inr (by omega) | (constructor <;> omega)))
local macro_rules | `(tactic| walk_at "sq") => `(tactic| first
  | assumption
  | exact SqS.lst (by assumption)
  | exact SqS.tup (by assumption)
  | exact Or.inl (by assumption)
  | exact Or.inr (by assumption)
  | (refine SqS.mono (by assumption) ?_; walk_at "sq"))
local macro_rules | `(tactic| walk_at "et") => `(tactic| first
  | (apply et_or; (walk_at "et"); (intro _; walk_at "et"))
  | (apply et_and; (walk_at "et"); (intro _; walk_at "et"))
  | (apply et_not; (walk_at "et"))
  | (apply et_test; (walk_at "ev"))
  | (apply et_B; (walk_at "ev")))
local macro_rules | `(tactic| walk_at "ea") => `(tactic| first
  | exact ea_nil
  | (apply ea_cons; (walk_at "ev"); (walk_at "ea")))
section
variable {P : Program} {w : World} {K : PySem.W.Frag} {mg : Str → Option Value} {base : Heap} {CO CS CN CR : Addr}
/-! ### the class Ratio -/
def spOp (CR CN : Addr) (o : Sg) : Sp := fun vs H Q E => ∃ (a : Addr) (y : V) (p q r s : Int), vs = [.ref a, y] ∧ Rt CR H a p q ∧ Good p q ∧ Opd CR H y r s ∧ Good r s ∧ ResI CR CN (op o p q r s) H Q E
theorem eu_parts {ta : TA} {σ : L2.St} {H : Hp} {E : L2.St → XK} {y : V} {r s : Int} (h : EvA ta σ H [y]) (hO : Opd CR H y r s) (hG : Good r s) : EvU (tCallS (spParts CR) E ta) σ H [.int r, .int s] := eu_callS h fun H1 e1 Q' E' q' => ⟨y, r, s, rfl, hO.mono e1, hG, q'⟩
theorem sm2 {x y : Int} (h1 : Sm 6644 x) (h2 : Sm 6644 y) : Sm 13288 (x * y) := h1.mul h2
theorem has_R_add (T : Tx P w K mg base CO CS CN CR) (h__parts : Has P w K mg base 4 "_parts" ["other"] (spParts CR)) (h_ratio_of : Has P w K mg base 6 "ratio_of" ["num", "den"] (spLow CR CN)) (D : MethAt K CR "__add__" "Ratio.__add__" s_R_add ["self", "other"]) : HasM P w K mg base 7 CR "__add__" ["self", "other"] (spOp CR CN .add) := by
  refine D.has sc_R_add (fun vs H Q E h => ?len) (fun f cdv A outer s H vs Q E hr h => ?body)
  case len =>
    obtain ⟨_, _, _, _, _, _, rfl, _, _, _, _, _⟩ := h
    rfl
  case body =>
    have tk : Takes (cxOf (L2.CX P w) P w K mg base ["self", "other", "num", "den"] "Ratio.__add__" (defScope s_R_add) f cdv A outer s H E) (fun cls d _ H => E cls d H) := takes_of rfl rfl rfl rfl
    obtain ⟨a, y, p, q, r, s, rfl, hA, gA, hO, gO, h⟩ := h
    refine ⟨_, (pss_cons (ps_asg (pe_hasR h__parts (hr.mono (by decide)) tk (pa_cons (pv 1) pa_nil)) (pg_tup (by rfl) (pgs_cons (pg_name (i := 2) sc_R_add.nd rfl (.inl rfl)) (pgs_cons (pg_name (i := 3) sc_R_add.nd rfl (.inl rfl)) pgs_nil))))
      (pss_one (ps_ret (pe_hasR h_ratio_of (hr.mono (by decide)) tk (pa_cons (pe_op op_add (pe_op op_mulW (pe_fld (pv 0) rfl) (pv 3)) (pe_op op_mulW (pv 2) (pe_fld (pv 0) rfl))) (pa_cons (pe_op op_mulW (pe_fld (pv 0) rfl) (pv 3)) pa_nil)))))), ?_⟩
    refine q_unp2U (eu_parts (ea_cons (ev_var rfl) ea_nil) hO gO) fun H1 e1 => ?_
    have hA1 := hA.mono e1
    refine go_low (n := p * s + r * q) (d := q * s) (ea_cons (ev_op (ev_mulW (ev_num T (ev_var rfl) hA1) (ev_var rfl) (cMulW gA.smp gO.smq)) (ev_mulW (ev_var rfl) (ev_den T (ev_var rfl) hA1) (cMulW gO.smp gA.smq)) rv_I0) (ea_cons (ev_mulW (ev_den T (ev_var rfl) hA1) (ev_var rfl) (cMulW gA.smq gO.smq)) ea_nil)) (Int.mul_pos gA.q0 gO.q0) (sm_V ((sm2 gA.smp gO.smq).add (sm2 gO.smp gA.smq))) (sm_V (sm2 gA.smq gO.smq)) (h.mono e1)
theorem has_R_sub (T : Tx P w K mg base CO CS CN CR) (h__parts : Has P w K mg base 4 "_parts" ["other"] (spParts CR)) (h_ratio_of : Has P w K mg base 6 "ratio_of" ["num", "den"] (spLow CR CN)) (D : MethAt K CR "__sub__" "Ratio.__sub__" s_R_sub ["self", "other"]) : HasM P w K mg base 7 CR "__sub__" ["self", "other"] (spOp CR CN .sub) := by
  refine D.has sc_R_sub (fun vs H Q E h => ?len) (fun f cdv A outer s H vs Q E hr h => ?body)
  case len =>
    obtain ⟨_, _, _, _, _, _, rfl, _, _, _, _, _⟩ := h
    rfl
  case body =>
    have tk : Takes (cxOf (L2.CX P w) P w K mg base ["self", "other", "num", "den"] "Ratio.__sub__" (defScope s_R_sub) f cdv A outer s H E) (fun cls d _ H => E cls d H) := takes_of rfl rfl rfl rfl
    obtain ⟨a, y, p, q, r, s, rfl, hA, gA, hO, gO, h⟩ := h
    refine ⟨_, (pss_cons (ps_asg (pe_hasR h__parts (hr.mono (by decide)) tk (pa_cons (pv 1) pa_nil)) (pg_tup (by rfl) (pgs_cons (pg_name (i := 2) sc_R_sub.nd rfl (.inl rfl)) (pgs_cons (pg_name (i := 3) sc_R_sub.nd rfl (.inl rfl)) pgs_nil))))
      (pss_one (ps_ret (pe_hasR h_ratio_of (hr.mono (by decide)) tk (pa_cons (pe_op op_sub (pe_op op_mulW (pe_fld (pv 0) rfl) (pv 3)) (pe_op op_mulW (pv 2) (pe_fld (pv 0) rfl))) (pa_cons (pe_op op_mulW (pe_fld (pv 0) rfl) (pv 3)) pa_nil)))))), ?_⟩
    refine q_unp2U (eu_parts (ea_cons (ev_var rfl) ea_nil) hO gO) fun H1 e1 => ?_
    have hA1 := hA.mono e1
    refine go_low (n := p * s - r * q) (d := q * s) (ea_cons (ev_op (ev_mulW (ev_num T (ev_var rfl) hA1) (ev_var rfl) (cMulW gA.smp gO.smq)) (ev_mulW (ev_var rfl) (ev_den T (ev_var rfl) hA1) (cMulW gO.smp gA.smq)) rv_I0) (ea_cons (ev_mulW (ev_den T (ev_var rfl) hA1) (ev_var rfl) (cMulW gA.smq gO.smq)) ea_nil)) (Int.mul_pos gA.q0 gO.q0) (sm_V ((sm2 gA.smp gO.smq).sub (sm2 gO.smp gA.smq))) (sm_V (sm2 gA.smq gO.smq)) (h.mono e1)
theorem has_R_mul (T : Tx P w K mg base CO CS CN CR) (h__parts : Has P w K mg base 4 "_parts" ["other"] (spParts CR)) (h_ratio_of : Has P w K mg base 6 "ratio_of" ["num", "den"] (spLow CR CN)) (D : MethAt K CR "__mul__" "Ratio.__mul__" s_R_mul ["self", "other"]) : HasM P w K mg base 7 CR "__mul__" ["self", "other"] (spOp CR CN .mul) := by
  refine D.has sc_R_mul (fun vs H Q E h => ?len) (fun f cdv A outer s H vs Q E hr h => ?body)
  case len =>
    obtain ⟨_, _, _, _, _, _, rfl, _, _, _, _, _⟩ := h
    rfl
  case body =>
    have tk : Takes (cxOf (L2.CX P w) P w K mg base ["self", "other", "num", "den"] "Ratio.__mul__" (defScope s_R_mul) f cdv A outer s H E) (fun cls d _ H => E cls d H) := takes_of rfl rfl rfl rfl
    obtain ⟨a, y, p, q, r, s, rfl, hA, gA, hO, gO, h⟩ := h
    refine ⟨_, (pss_cons (ps_asg (pe_hasR h__parts (hr.mono (by decide)) tk (pa_cons (pv 1) pa_nil)) (pg_tup (by rfl) (pgs_cons (pg_name (i := 2) sc_R_mul.nd rfl (.inl rfl)) (pgs_cons (pg_name (i := 3) sc_R_mul.nd rfl (.inl rfl)) pgs_nil))))
      (pss_one (ps_ret (pe_hasR h_ratio_of (hr.mono (by decide)) tk (pa_cons (pe_op op_mulW (pe_fld (pv 0) rfl) (pv 2)) (pa_cons (pe_op op_mulW (pe_fld (pv 0) rfl) (pv 3)) pa_nil)))))), ?_⟩
    refine q_unp2U (eu_parts (ea_cons (ev_var rfl) ea_nil) hO gO) fun H1 e1 => ?_
    have hA1 := hA.mono e1
    refine go_low (n := p * r) (d := q * s) (ea_cons (ev_mulW (ev_num T (ev_var rfl) hA1) (ev_var rfl) (cMulW gA.smp gO.smp)) (ea_cons (ev_mulW (ev_den T (ev_var rfl) hA1) (ev_var rfl) (cMulW gA.smq gO.smq)) ea_nil)) (Int.mul_pos gA.q0 gO.q0) (sm_V (sm2 gA.smp gO.smp)) (sm_V (sm2 gA.smq gO.smq)) (h.mono e1)
def spUn (CR CN : Addr) (f : Int → Int) : Sp := fun vs H Q E => ∃ (a : Addr) (p q : Int), vs = [.ref a] ∧ Rt CR H a p q ∧ Good p q ∧ RetI CR (flds (f p) q) H Q
theorem res_ok {r : Except Int (Int × Int)} {H : Hp} {Q : VK} {E : XK} {p q : Int} (e : r = .ok (p, q)) (h : RetI CR (flds p q) H Q) : ResI CR CN r H Q E := ⟨fun z hz => (by rw [e] at hz; cases hz), fun p' q' hp => (by rw [e] at hp; cases hp; exact h)⟩
theorem has_R_neg (T : Tx P w K mg base CO CS CN CR) (h_R_mak : MakC P w K mg base 4 CR "Ratio" ["self", "num", "den"] (spMk CR CN)) (D : MethAt K CR "__neg__" "Ratio.__neg__" s_R_neg ["self"]) : HasM P w K mg base 6 CR "__neg__" ["self"] (spUn CR CN (fun p => -p)) := by
  refine D.has sc_R_neg (fun vs H Q E h => ?len) (fun f cdv A outer s H vs Q E hr h => ?body)
  case len =>
    obtain ⟨_, _, _, rfl, _, _, _⟩ := h
    rfl
  case body =>
    have tk : Takes (cxOf (L2.CX P w) P w K mg base ["self"] "Ratio.__neg__" (defScope s_R_neg) f cdv A outer s H E) (fun cls d _ H => E cls d H) := takes_of rfl rfl rfl rfl
    obtain ⟨a, p, q, rfl, hA, gA, h⟩ := h
    refine ⟨_, (pss_one (ps_ret (pe_makR h_R_mak (hr.mono (by decide)) tk (pa_cons (pe_un un_neg (pe_fld (pv 0) rfl)) (pa_cons (pe_fld (pv 0) rfl) pa_nil))))), ?_⟩
    exact go_mak (n := -p) (d := q) (dvs := []) (ea_cons (ev_neg (ev_num T (ev_var rfl) hA)) (ea_cons (ev_den T (ev_var rfl) hA) ea_nil)) rfl (res_ok (mk_good gA.neg) h)
theorem has_R_abs (T : Tx P w K mg base CO CS CN CR) (h_R_mak : MakC P w K mg base 4 CR "Ratio" ["self", "num", "den"] (spMk CR CN)) (D : MethAt K CR "__abs__" "Ratio.__abs__" s_R_abs ["self"]) : HasM P w K mg base 6 CR "__abs__" ["self"] (spUn CR CN abI) := by
  refine D.has sc_R_abs (fun vs H Q E h => ?len) (fun f cdv A outer s H vs Q E hr h => ?body)
  case len =>
    obtain ⟨_, _, _, rfl, _, _, _⟩ := h
    rfl
  case body =>
    have tk : Takes (cxOf (L2.CX P w) P w K mg base ["self"] "Ratio.__abs__" (defScope s_R_abs) f cdv A outer s H E) (fun cls d _ H => E cls d H) := takes_of rfl rfl rfl rfl
    obtain ⟨a, p, q, rfl, hA, gA, h⟩ := h
    refine ⟨_, (pss_one (ps_ret (pe_makR h_R_mak (hr.mono (by decide)) tk (pa_cons (pe_callB call_abs (by rfl) T.z_abs (by decide +kernel) (pa_cons (pe_fld (pv 0) rfl) pa_nil)) (pa_cons (pe_fld (pv 0) rfl) pa_nil))))), ?_⟩
    exact go_mak (n := abI p) (d := q) (dvs := []) (ea_cons (ev_abs (ev_num T (ev_var rfl) hA)) (ea_cons (ev_den T (ev_var rfl) hA) ea_nil)) rfl (res_ok (mk_good gA.abs) h)
def spEq (CR : Addr) : Sp := fun vs H Q E => ∃ (a : Addr) (y : V) (p q : Int) (b : Bool), vs = [.ref a, y] ∧ Rt CR H a p q ∧ ((∃ c r s, y = .ref c ∧ Rt CR H c r s ∧ b = (decide (p = r) && decide (q = s))) ∨ (∃ z, y = .int z ∧ b = false)) ∧ RetV (.bl b) H Q
theorem dint (i j : Int) : decide (V.int i = V.int j) = decide (i = j) := by
  by_cases h : i = j
  · rw [h]; simp
  · rw [decide_eq_false h, decide_eq_false (fun e => h (V.int.inj e))]
theorem has_R_eq (T : Tx P w K mg base CO CS CN CR) (D : MethAt K CR "__eq__" "Ratio.__eq__" s_R_eq ["self", "other"]) : HasM P w K mg base 4 CR "__eq__" ["self", "other"] (spEq CR) := by
  refine D.has sc_R_eq (fun vs H Q E h => ?len) (fun f cdv A outer s H vs Q E hr h => ?body)
  case len =>
    obtain ⟨_, _, _, _, _, rfl, _, _, _⟩ := h
    rfl
  case body =>
    have tk : Takes (cxOf (L2.CX P w) P w K mg base ["self", "other"] "Ratio.__eq__" (defScope s_R_eq) f cdv A outer s H E) (fun cls d _ H => E cls d H) := takes_of rfl rfl rfl rfl
    obtain ⟨a, y, p, q, b, rfl, hA, hO, h⟩ := h
    refine ⟨_, (pss_one (ps_ret (pe_and (pe_callB call_isi (by rfl) T.z_isinstance (by decide +kernel) (pa_cons (pv 1) (pa_cons (pe_glob (v := .ref CR) rfl T.e_Ratio.g rfl) pa_nil))) (pe_and (pe_cmpR op_eq (pe_fld (pv 0) rfl) (pe_fld (pv 1) rfl) (nomark _)) (pe_one (pe_cmpR op_eq (pe_fld (pv 0) rfl) (pe_fld (pv 1) rfl) (nomark _))))))), ?_⟩
    rcases hO with ⟨c, r, s, rfl, hC, rfl⟩ | ⟨z, rfl, rfl⟩
    · refine s_ret (ev_is (ev_andV (a := true) (b := decide (p = r) && decide (q = s)) (ev_isi (ea_cons (ev_var rfl) (ea_cons ev_c ea_nil)) (.own CR) (fun H1 e1 => tyx_r T (hC.mono e1)) T.kRR) fun _ => ?_) (by simp)) fun H1 e1 => h H1 e1
      rw [← dint, ← dint]
      exact ev_andV (ev_op (ev_num T (ev_var rfl) hA) (ev_num T (ev_var rfl) hC) (rv_eq rfl)) fun _ => ev_op (ev_den T (ev_var rfl) hA) (ev_den T (ev_var rfl) hC) (rv_eq rfl)
    · exact s_ret (ev_is (ev_andV (a := false) (b := false) (ev_isi (ea_cons (ev_var rfl) (ea_cons ev_c ea_nil)) (.own CR) (fun H1 e1 => .base (.int z)) T.kIR) fun hb => Bool.noConfusion hb) rfl) fun H1 e1 => h H1 e1
def spBool (CR : Addr) : Sp := fun vs H Q E => ∃ (a : Addr) (p q : Int), vs = [.ref a] ∧ Rt CR H a p q ∧ RetV (.bl (!decide (p = 0))) H Q
theorem has_R_bool (T : Tx P w K mg base CO CS CN CR) (D : MethAt K CR "__bool__" "Ratio.__bool__" s_R_bool ["self"]) : HasM P w K mg base 4 CR "__bool__" ["self"] (spBool CR) := by
  refine D.has sc_R_bool (fun vs H Q E h => ?len) (fun f cdv A outer s H vs Q E hr h => ?body)
  case len =>
    obtain ⟨_, _, _, rfl, _, _⟩ := h
    rfl
  case body =>
    have tk : Takes (cxOf (L2.CX P w) P w K mg base ["self"] "Ratio.__bool__" (defScope s_R_bool) f cdv A outer s H E) (fun cls d _ H => E cls d H) := takes_of rfl rfl rfl rfl
    obtain ⟨a, p, q, rfl, hA, h⟩ := h
    refine ⟨_, (pss_one (ps_ret (pe_callTy call_bool1 (by rfl) T.z_bool (by decide +kernel) (pa_cons (pe_cmpR op_ne (pe_fld (pv 0) rfl) pe_int (nomark _)) pa_nil)))), ?_⟩
    have e0 := dint p 0
    rw [← e0] at h
    exact s_ret (ev_bool1 (ev_op (ev_num T (ev_var rfl) hA) ev_c (rv_ne rfl))) fun H1 e1 => h H1 e1
def spOver (CR CN : Addr) : Sp := fun vs H Q E => ∃ (a b : Addr) (p q r s : Int), vs = [.ref a, .ref b] ∧ Rt CR H a p q ∧ Good p q ∧ Rt CR H b r s ∧ Good r s ∧ ResI CR CN (op .div p q r s) H Q E
theorem has_R_over (T : Tx P w K mg base CO CS CN CR) (h_ratio_of : Has P w K mg base 6 "ratio_of" ["num", "den"] (spLow CR CN)) (D : MethAt K CR "over" "Ratio.over" s_R_over ["self", "other"]) : HasM P w K mg base 7 CR "over" ["self", "other"] (spOver CR CN) := by
  refine D.has sc_R_over (fun vs H Q E h => ?len) (fun f cdv A outer s H vs Q E hr h => ?body)
  case len =>
    obtain ⟨_, _, _, _, _, _, rfl, _, _, _, _, _⟩ := h
    rfl
  case body =>
    have tk : Takes (cxOf (L2.CX P w) P w K mg base ["self", "other"] "Ratio.over" (defScope s_R_over) f cdv A outer s H E) (fun cls d _ H => E cls d H) := takes_of rfl rfl rfl rfl
    obtain ⟨a, b, p, q, r, s, rfl, hA, gA, hB, gB, h⟩ := h
    refine ⟨_, (pss_cons (ps_if (pt_cmpR op_eq (pe_fld (pv 1) rfl) pe_int (nomark _)) (pss_one (ps_err1 rfl T.e_NumberError (hr.mono (by decide)) tk (pa_cons pe_int pa_nil))) pss_nil)
      (pss_cons (ps_if (pt_cmpR op_lt (pe_fld (pv 1) rfl) pe_int (nomark _)) (pss_one (ps_ret (pe_hasR h_ratio_of (hr.mono (by decide)) tk (pa_cons (pe_op op_mulW (pe_un un_neg (pe_fld (pv 0) rfl)) (pe_fld (pv 1) rfl)) (pa_cons (pe_op op_mulW (pe_un un_neg (pe_fld (pv 0) rfl)) (pe_fld (pv 1) rfl)) pa_nil))))) pss_nil)
      (pss_one (ps_ret (pe_hasR h_ratio_of (hr.mono (by decide)) tk (pa_cons (pe_op op_mulW (pe_fld (pv 0) rfl) (pe_fld (pv 1) rfl)) (pa_cons (pe_op op_mulW (pe_fld (pv 0) rfl) (pe_fld (pv 1) rfl)) pa_nil))))))), ?_⟩
    refine q_when (et_test (ev_op (ev_num T (ev_var rfl) hB) ev_c (rv_eq rfl))) (fun hb H1 e1 => ?z) (fun hb H1 e1 => ?nz)
    case z =>
      rw [dint] at hb
      have r0 := of_decide_eq_true hb
      exact ⟨_, rfl, (h.err 0 (by show (if r = 0 then _ else _) = _; rw [if_pos r0])).mono e1⟩
    case nz =>
      rw [dint] at hb
      have r0 := of_decide_eq_false hb
      refine q_when (et_test (ev_op (ev_num T (ev_var rfl) (hB.mono e1)) ev_c rv_I0)) (fun hb H2 e2 => ?n) (fun hb H2 e2 => ?p)
      case n =>
        have r1 : r < 0 := of_decide_eq_true hb
        have hA2 := hA.mono (e1.trans e2)
        have hB2 := hB.mono (e1.trans e2)
        have e : op .div p q r s = low (-p * s) (-q * r) := by show (if r = 0 then _ else _) = _; rw [if_neg r0, if_pos r1]
        have pos : 0 < -q * r := by
          have := Int.mul_neg_of_pos_of_neg gA.q0 r1
          rw [Int.neg_mul]; omega
        rw [e] at h
        exact go_low (n := -p * s) (d := -q * r) (ea_cons (ev_mulW (ev_neg (ev_num T (ev_var rfl) hA2)) (ev_den T (ev_var rfl) hB2) (cMulW gA.smp.neg gB.smq)) (ea_cons (ev_mulW (ev_neg (ev_den T (ev_var rfl) hA2)) (ev_num T (ev_var rfl) hB2) (cMulW gA.smq.neg gB.smp)) ea_nil)) pos (sm_V (sm2 gA.smp.neg gB.smq)) (sm_V (sm2 gA.smq.neg gB.smp)) (h.mono (e1.trans e2))
      case p =>
        have r1 : ¬ r < 0 := of_decide_eq_false hb
        have hA2 := hA.mono (e1.trans e2)
        have hB2 := hB.mono (e1.trans e2)
        have e : op .div p q r s = low (p * s) (q * r) := by show (if r = 0 then _ else _) = _; rw [if_neg r0, if_neg r1]
        have pos : 0 < q * r := Int.mul_pos gA.q0 (by omega)
        rw [e] at h
        exact go_low (n := p * s) (d := q * r) (ea_cons (ev_mulW (ev_num T (ev_var rfl) hA2) (ev_den T (ev_var rfl) hB2) (cMulW gA.smp gB.smq)) (ea_cons (ev_mulW (ev_den T (ev_var rfl) hA2) (ev_num T (ev_var rfl) hB2) (cMulW gA.smq gB.smp)) ea_nil)) pos (sm_V (sm2 gA.smp gB.smq)) (sm_V (sm2 gA.smq gB.smp)) (h.mono (e1.trans e2))
def cmpI (x y : Int) : Int := if x < y then -1 else if x > y then 1 else 0
def spCmp (CR : Addr) : Sp := fun vs H Q E => ∃ (a b : Addr) (p q r s : Int), vs = [.ref a, .ref b] ∧ Rt CR H a p q ∧ Good p q ∧ Rt CR H b r s ∧ Good r s ∧ RetV (.int (cmpI (p * s) (r * q))) H Q
theorem has_R_compare (T : Tx P w K mg base CO CS CN CR) (D : MethAt K CR "compare" "Ratio.compare" s_R_compare ["self", "other"]) : HasM P w K mg base 4 CR "compare" ["self", "other"] (spCmp CR) := by
  refine D.has sc_R_compare (fun vs H Q E h => ?len) (fun f cdv A outer s H vs Q E hr h => ?body)
  case len =>
    obtain ⟨_, _, _, _, _, _, rfl, _, _, _, _, _⟩ := h
    rfl
  case body =>
    have tk : Takes (cxOf (L2.CX P w) P w K mg base ["self", "other", "left", "right"] "Ratio.compare" (defScope s_R_compare) f cdv A outer s H E) (fun cls d _ H => E cls d H) := takes_of rfl rfl rfl rfl
    obtain ⟨a, b, p, q, r, s, rfl, hA, gA, hB, gB, h⟩ := h
    refine ⟨_, (pss_cons (ps_set (i := 2) sc_R_compare.nd rfl (.inl rfl) (pe_op op_mulW (pe_fld (pv 0) rfl) (pe_fld (pv 1) rfl)))
      (pss_cons (ps_set (i := 3) sc_R_compare.nd rfl (.inl rfl) (pe_op op_mulW (pe_fld (pv 1) rfl) (pe_fld (pv 0) rfl)))
      (pss_cons (ps_if (pt_cmpR op_lt (pv 2) (pv 3) (nomark _)) (pss_one (ps_ret (pe_un un_neg pe_int))) pss_nil)
      (pss_one (ps_ret (pe_ifExp (pt_cmpR op_gt (pv 2) (pv 3) (nomark _)) pe_int pe_int)))))), ?_⟩
    refine q_asg (ev_mulW (ev_num T (ev_var rfl) hA) (ev_den T (ev_var rfl) hB) (cMulW gA.smp gB.smq)) fun H1 e1 => ?_
    refine q_asg (ev_mulW (ev_num T (ev_var rfl) (hB.mono e1)) (ev_den T (ev_var rfl) (hA.mono e1)) (cMulW gB.smp gA.smq)) fun H2 e2 => ?_
    refine q_when (et_test (ev_op (ev_var rfl) (ev_var rfl) rv_I0)) (fun hb H3 e3 => ?a) (fun hb H3 e3 => ?b)
    case a =>
      have hb : p * s < r * q := of_decide_eq_true hb
      refine s_ret (ev_neg ev_c) fun H4 e4 => ?_
      have := h H4 (((e1.trans e2).trans e3).trans e4)
      unfold cmpI at this
      rw [if_pos hb] at this
      exact this
    case b =>
      have hb : ¬ p * s < r * q := of_decide_eq_false hb
      refine s_ret (v := .int (if p * s > r * q then 1 else 0)) (ev_if (et_test (ev_op (ev_var rfl) (ev_var rfl) rv_I0)) (fun hc => ?x) (fun hc => ?y)) fun H4 e4 => ?_
      case x =>
        have hc : p * s > r * q := of_decide_eq_true hc
        rw [if_pos hc]
        exact ev_c
      case y =>
        have hc : ¬ p * s > r * q := of_decide_eq_false hc
        rw [if_neg hc]
        exact ev_c
      have := h H4 (((e1.trans e2).trans e3).trans e4)
      unfold cmpI at this
      rw [if_neg hb] at this
      exact this
def spRnd (CR : Addr) (f : Int → Int → Int) : Sp := fun vs H Q E => ∃ (a : Addr) (p q : Int), vs = [.ref a] ∧ Rt CR H a p q ∧ Good p q ∧ RetV (.int (f p q)) H Q
theorem has_R_floor (T : Tx P w K mg base CO CS CN CR) (D : MethAt K CR "floor" "Ratio.floor" s_R_floor ["self"]) : HasM P w K mg base 4 CR "floor" ["self"] (spRnd CR (fun p q => p / q)) := by
  refine D.has sc_R_floor (fun vs H Q E h => ?len) (fun f cdv A outer s H vs Q E hr h => ?body)
  case len =>
    obtain ⟨_, _, _, rfl, _, _, _⟩ := h
    rfl
  case body =>
    have tk : Takes (cxOf (L2.CX P w) P w K mg base ["self"] "Ratio.floor" (defScope s_R_floor) f cdv A outer s H E) (fun cls d _ H => E cls d H) := takes_of rfl rfl rfl rfl
    obtain ⟨a, p, q, rfl, hA, gA, h⟩ := h
    refine ⟨_, (pss_one (ps_ret (pe_op op_fdivV (pe_fld (pv 0) rfl) (pe_fld (pv 0) rfl)))), ?_⟩
    exact s_ret (ev_divV (ev_num T (ev_var rfl) hA) (ev_den T (ev_var rfl) hA) ⟨gA.q0, sm_V gA.smp⟩) fun H1 e1 => h H1 e1
theorem has_R_ceil (T : Tx P w K mg base CO CS CN CR) (D : MethAt K CR "ceil" "Ratio.ceil" s_R_ceil ["self"]) : HasM P w K mg base 4 CR "ceil" ["self"] (spRnd CR (fun p q => -(-p / q))) := by
  refine D.has sc_R_ceil (fun vs H Q E h => ?len) (fun f cdv A outer s H vs Q E hr h => ?body)
  case len =>
    obtain ⟨_, _, _, rfl, _, _, _⟩ := h
    rfl
  case body =>
    have tk : Takes (cxOf (L2.CX P w) P w K mg base ["self"] "Ratio.ceil" (defScope s_R_ceil) f cdv A outer s H E) (fun cls d _ H => E cls d H) := takes_of rfl rfl rfl rfl
    obtain ⟨a, p, q, rfl, hA, gA, h⟩ := h
    refine ⟨_, (pss_one (ps_ret (pe_un un_neg (pe_op op_fdivV (pe_un un_neg (pe_fld (pv 0) rfl)) (pe_fld (pv 0) rfl))))), ?_⟩
    exact s_ret (ev_neg (ev_divV (ev_neg (ev_num T (ev_var rfl) hA)) (ev_den T (ev_var rfl) hA) ⟨gA.q0, sm_V gA.smp.neg⟩)) fun H1 e1 => h H1 e1
end
end K1
set_option exponentiation.threshold 20000
namespace K1
open PySem PySem.Spec PyProof.Rows L2 Evl Nd
local macro_rules | `(tactic| walk_at "ev") => `(tactic| first
  | exact ev_var rfl
  | exact ev_c
  | (apply ev_op; (walk_at "ev"); (walk_at "ev"); (walk_at "rv"))
  | (apply ev_un; (walk_at "ev"); (walk_at "rv"))
  | (apply ev_lenS; (walk_at "ev"); (walk_at "sq"))
  | (apply ev_andV; (walk_at "ev"); (intro _; walk_at "ev"))
  | (apply ev_orV; (walk_at "ev"); (intro _; walk_at "ev"))
  | (apply ev_notV; (walk_at "ev")))
local macro_rules | `(tactic| walk_at "rv") => `(tactic| first
  | exact rv_I0
  | exact ru_neg
  | exact rv_eq rfl
  | exact rv_ne rfl
  | exact rv_I (by decide)
  | exact rv_I (by first | omega | exact .inl (by omega) | exact .inr (by omega) | (constructor <;> omega)))
local macro_rules | `(tactic| walk_at "sq") => `(tactic| first
  | assumption
  | exact SqS.lst (by assumption)
  | exact SqS.tup (by assumption)
  | exact Or.inl (by assumption)
  | exact Or.inr (by assumption)
  | (refine SqS.mono (by assumption) ?_; walk_at "sq"))
local macro_rules | `(tactic| walk_at "et") => `(tactic| first
  | (apply et_or; (walk_at "et"); (intro _; walk_at "et"))
  | (apply et_and; (walk_at "et"); (intro _; walk_at "et"))
  | (apply et_not; (walk_at "et"))
  | (apply et_test; (walk_at "ev"))
  | (apply et_B; (walk_at "ev")))
local macro_rules | `(tactic| walk_at "ea") => `(tactic| first
  | exact ea_nil
  | (apply ea_cons; (walk_at "ev"); (walk_at "ea")))
section
variable {P : Program} {w : World} {K : PySem.W.Frag} {mg : Str → Option Value} {base : Heap} {CO CS CN CR : Addr}
/-! ### totals -/
structure Rts (C : Addr) (H : Hp) (refs : List V) (ps : List (Int × Int)) : Prop where
  len : refs.length = ps.length
  at_ : ∀ (i : Nat) (v : V), refs[i]? = some v → ∃ b x, v = .ref b ∧ ps[i]? = some x ∧ Rt C H b x.1 x.2 ∧ Good x.1 x.2
theorem Rts.mono {C : Addr} {H H' : Hp} {refs : List V} {ps : List (Int × Int)} (h : Rts C H refs ps) (e : Ex H H') : Rts C H' refs ps := ⟨h.len, fun i v hv => by
  obtain ⟨b, x, h1, h2, h3, h4⟩ := h.at_ i v hv
  exact ⟨b, x, h1, h2, h3.mono e, h4⟩⟩
def spTotal (K : PySem.W.Frag) (CR CN : Addr) : Sp := fun vs H Q E => ∃ (a : Addr) (refs : List V) (ps : List (Int × Int)) (D : Int), vs = [.ref a] ∧ SqS K H a refs ∧ Rts CR H refs ps ∧ ps.length ≤ 1000 ∧ 0 < D ∧ D ≤ B ^ 5 ∧ D.natAbs < 2 ^ 13500 ∧ (∀ x ∈ ps, x.2 ∣ D) ∧
  (sumP ps (lcP ps)).natAbs < 2 ^ 13500 ∧ ResI CR CN (low (sumP ps (lcP ps)) (lcP ps)) H Q E
theorem ev_lcm {σ : L2.St} {H : Hp} {ts : TA} {x y : Int} (h : EvA ts σ H [.int x, .int y]) (hx : x.natAbs < 2 ^ 13500) (hy : y.natAbs < 2 ^ 13500) :
    Ev (tCB (fun vs H Q => ∃ a b : Int, vs = [.int a, .int b] ∧ a.natAbs < 2 ^ 13500 ∧ b.natAbs < 2 ^ 13500 ∧ Q (.int ((Nat.lcm a.natAbs b.natAbs : Nat) : Int)) H) ts) σ H (.int (lcI x y)) := fun H1 e Q q => h H1 e _ fun H2 e2 => ⟨x, y, rfl, hx, hy, q H2 e2⟩
theorem s_look {ta : TA} {σ : L2.St} {H : Hp} {D : Ends} {E : L2.St → XK} {z lo hi : Int} (h : EvA ta σ H [.int z, .int lo, .int hi]) (ok1 : lo ≤ z) (ok2 : z ≤ hi) (ok : ∀ H1, Ex H H1 → D.nx σ H1) :
    tDrop (tCallS (spLookNumber CN) E ta) D σ H := h H (Ex.refl H) _ fun H1 e1 => ⟨z, lo, hi, rfl, fun c => by omega, fun c H2 e2 => ok H2 (e1.trans e2)⟩
theorem et_yes {σ : L2.St} {H : Hp} : EvT tYes σ H true := fun H1 _ Q q => q H1 (Ex.refl H1)
theorem ok_R_total (T : Tx P w K mg base CO CS CN CR) (h_look_number : Has P w K mg base 3 "look_number" ["number", "least", "most"] (spLookNumber CN)) (h_look_size : Has P w K mg base 3 "look_size" ["count", "least", "most"] (spLookSize CS)) (h_ratio_of : Has P w K mg base 6 "ratio_of" ["num", "den"] (spLow CR CN)) {fL : Addr} {fdL : FuncData} (D : Fun K "total" "Ratio.total" s_R_total fL fdL) : FnOk P w K mg base (L2.CX P w) 8 fL fdL ["ratios"] (spTotal K CR CN) := by
  refine D.okX sc_R_total (fun vs H Q E h => ?len) (fun cdv A outer s H vs Q E hr h => ?body)
  case len =>
    obtain ⟨_, _, _, _, rfl, _, _, _, _, _, _, _, _, _⟩ := h
    rfl
  case body =>
    have tk : Takes (cxOf (L2.CX P w) P w K mg base ["ratios", "den", "ratio"] "Ratio.total" (defScope s_R_total) fL cdv A outer s H E) (fun cls d _ H => E cls d H) := takes_of rfl rfl rfl rfl
    obtain ⟨a, refs, ps, D, rfl, hS, hR, hl, D0, DB, Dz, hd, hz, h⟩ := h
    refine ⟨_, (pss_cons (ps_expr (pe_hasR h_look_size (hr.mono (by decide)) tk (pa_cons (pe_callB call_len_seq (by rfl) T.z_len (by decide +kernel) (pa_cons (pv 0) pa_nil)) (pa_cons pe_int (pa_cons (pe_cst T.c__MOST_TERMS) pa_nil)))))
      (pss_cons (ps_set (i := 1) sc_R_total.nd rfl (.inr rfl) pe_int)
      (pss_cons (ps_for (passes_of rfl) rfl (pi_seq (pv 0)) (pg_name (i := 2) sc_R_total.nd rfl (.inl rfl)) (pss_cons (ps_set (i := 1) sc_R_total.nd rfl (.inr rfl) (pe_callBfun cr_lcmW rfl T.m_lcm (pa_cons (pv 1) (pa_cons (pe_fld (pv 2) rfl) pa_nil))))
      (pss_one (ps_expr (pe_hasR h_look_number (hr.mono (by decide)) tk (pa_cons (pv 1) (pa_cons pe_int (pa_cons (pe_cst T.c__MOST_COMMON) pa_nil))))))))
      (pss_one (ps_ret (pe_hasR h_ratio_of (hr.mono (by decide)) tk (pa_cons (pe_callB (cr_sum rfl) (by rfl) T.z_sum (by decide +kernel) (pa_cons (pe_lc (own := [("ratio", 2)]) rfl sc_R_total.nd (pi_seq (pv 0)) (blkOk_by (own := [("ratio", 2)]) (N := ["ratios", "den", "ratio"]) (sc := defScope s_R_total) (by decide +kernel)) (fun _ _ _ _ _ => (pg_name (i := 2) sc_R_total.nd rfl (.inl rfl))) (fun _ _ _ _ _ => pts_nil) (fun _ _ _ _ _ => (pe_op op_mulW (pe_fldK K (pv 2)) (pe_op op_fdivV (pv 1) (pe_fldK K (pv 2)))))) pa_nil)) (pa_cons (pv 1) pa_nil)))))))), ?_⟩
    have hlen := hR.len
    refine q_lookS (z := (refs.length : Int)) (lo := 0) (hi := 1000) (ea_cons (ev_lenS (ev_var rfl) hS) (ea_cons ev_c (ea_cons ev_c ea_nil))) (fun c => by omega) fun _ H1 e1 => ?_
    refine q_asg ev_c fun H2 e2 => ?_
    have q0 : ∀ x ∈ ps, 0 < x.2 := fun x hx => by
      obtain ⟨i, hi⟩ := List.mem_iff_getElem?.mp hx
      have hi' : i < refs.length := by have := (List.getElem?_eq_some_iff.mp hi).1; omega
      obtain ⟨b, y, _, h2, _, h4⟩ := hR.at_ i _ (List.getElem?_eq_getElem hi')
      rw [hi] at h2
      cases h2
      exact h4.q0
    have small : ∀ qs : List (Int × Int), (∀ x ∈ qs, x ∈ ps) → 1 ≤ lcP qs ∧ lcP qs ≤ D := fun qs hq => by
      have p0 := lcP_pos qs fun x hx => q0 x (hq x hx)
      exact ⟨p0, Int.le_of_dvd D0 (lcP_least qs fun x hx => hd x (hq x hx))⟩
    refine q_forS (a := a) (xs := refs) (ev_var rfl) (hS.mono (e1.trans e2)) (fun i σ' H' => (∃ v, σ' = [some (.ref a), some (.int (lcP (ps.take i))), v]) ∧ Ex H2 H') (fun H3 e3 => ⟨⟨none, rfl⟩, e3⟩) (fun i σ' H' _ p => p.2) ?turn ?fin
    case turn =>
      rintro i v σ' H3 hv ⟨⟨u, rfl⟩, x3⟩
      have X3 := (e1.trans e2).trans x3
      obtain ⟨b, x, rfl, hx, hb, gb⟩ := (hR.mono X3).at_ i v hv
      have tk1 : ps.take (i + 1) = ps.take i ++ [x] := by rw [List.take_add_one, hx]; rfl
      have m1 := small (ps.take i) fun x hx => List.mem_of_mem_take hx
      have m2 := small (ps.take (i + 1)) fun x hx => List.mem_of_mem_take hx
      have DD : D.natAbs < 2 ^ 13500 := Dz
      have L1 : (lcP (ps.take i)).natAbs < 2 ^ 13500 := by omega
      refine q_asg (ev_lcm (ea_cons (ev_var rfl) (ea_cons (ev_den T (ev_var rfl) hb) ea_nil)) L1 (sm_V gb.smq)) fun H4 e4 => ?_
      rw [← lcP_snoc, ← tk1]
      exact s_look (lo := 1) (hi := B ^ 5) (ea_cons (ev_var rfl) (ea_cons ev_c (ea_cons ev_c ea_nil))) m2.1 (Int.le_trans m2.2 DB) fun H5 e5 => ⟨⟨_, rfl⟩, (x3.trans e4).trans e5⟩
    case fin =>
      rintro σ' H3 ⟨⟨u, rfl⟩, x3⟩
      have X3 := (e1.trans e2).trans x3
      rw [hlen, List.take_length]
      have L0 := small ps fun x hx => hx
      have DD : D.natAbs < 2 ^ 13500 := Dz
      have L1 : (lcP ps).natAbs < 2 ^ 13500 := by omega
      refine go_low (n := sumP ps (lcP ps)) (d := lcP ps) (ea_cons ?sum (ea_cons (ev_var rfl) ea_nil)) (by omega) hz L1 (h.mono X3)
      case sum =>
        have e : given refs.length (fun _ => true) (fun i => V.int ((ps.map fun x => x.1 * (lcP ps / x.2)).getD i 0)) = (ps.map fun x => x.1 * (lcP ps / x.2)).map V.int := by
          have := given_map (ps.map fun x => x.1 * (lcP ps / x.2)) (fun z => z)
          rw [List.length_map, List.map_id'] at this
          rw [hlen]
          exact this
        unfold sumP
        refine ev_sumL ?_
        rw [← e]
        refine el_lcS (a := a) (xs := refs) _ _ (ev_var rfl) (hS.mono X3) (by omega) (fun x => rfl) (fun i v H4 e4 hv => et_yes) fun i v H4 e4 hv _ => ?_
        obtain ⟨b, x, rfl, hx, hb, gb⟩ := (hR.mono (X3.trans e4)).at_ i v hv
        have ei : (ps.map fun x => x.1 * (lcP ps / x.2)).getD i 0 = x.1 * (lcP ps / x.2) := by rw [List.getD_eq_getElem?_getD, List.getElem?_map, hx]; rfl
        rw [ei]
        exact ev_mulW (ev_num T (ev_var rfl) hb) (ev_divV (ev_var rfl) (ev_den T (ev_var rfl) hb) ⟨gb.q0, L1⟩) (cMulW gb.smp (Sm.div (k := 13500) L1 gb.q0))
end
end K1
set_option exponentiation.threshold 20000
namespace K1
open PySem PySem.Spec PyProof.Rows L2 Evl Nd
local macro_rules | `(tactic| walk_at "ev") => `(tactic| first
  | exact ev_var rfl
  | exact ev_c
  | (apply ev_op; (walk_at "ev"); (walk_at "ev"); (walk_at "rv"))
  | (apply ev_un; (walk_at "ev"); (walk_at "rv"))
  | (apply ev_lenS; (walk_at "ev"); (walk_at "sq"))
  | (apply ev_andV; (walk_at "ev"); (intro _; walk_at "ev"))
  | (apply ev_orV; (walk_at "ev"); (intro _; walk_at "ev"))
  | (apply ev_notV; (walk_at "ev")))
local macro_rules | `(tactic| walk_at "rv") => `(tactic| first
  | exact rv_I0
  | exact ru_neg
  | exact rv_eq rfl
  | exact rv_ne rfl
  | exact rv_I (by decide)
  | exact rv_I (by first | omega | exact .inl (by omega) | exact .inr (by omega) | (constructor <;> omega)))
local macro_rules | `(tactic| walk_at "sq") => `(tactic| first
  | assumption
  | exact SqS.lst (by assumption)
  | exact SqS.tup (by assumption)
  | exact Or.inl (by assumption)
  | exact Or.inr (by assumption)
  | (refine SqS.mono (by assumption) ?_; walk_at "sq"))
local macro_rules | `(tactic| walk_at "et") => `(tactic| first
  | (apply et_or; (walk_at "et"); (intro _; walk_at "et"))
  | (apply et_and; (walk_at "et"); (intro _; walk_at "et"))
  | (apply et_not; (walk_at "et"))
  | (apply et_test; (walk_at "ev"))
  | (apply et_B; (walk_at "ev")))
local macro_rules | `(tactic| walk_at "ea") => `(tactic| first
  | exact ea_nil
  | (apply ea_cons; (walk_at "ev"); (walk_at "ea")))
section
variable {P : Program} {w : World} {K : PySem.W.Frag} {mg : Str → Option Value} {base : Heap} {CO CS CN CR : Addr}
/-! ### the law's drawing -/
theorem sql_upd {K : PySem.W.Frag} {H : Hp} {a D : Addr} {xs : List V} {o : HO} (hne : a ≠ D) (h : SqL K H a xs) : SqL K (upd H D o) a xs := by
  rcases h with (h | ⟨u, h⟩) | h
  · exact .inl (.inl (by rw [upd_ne hne]; exact h))
  · exact .inl (.inr ⟨u, by rw [upd_ne hne]; exact h⟩)
  · exact .inr h
theorem sqt_upd {K : PySem.W.Frag} {H : Hp} {a D : Addr} {xs acc : List V} {o : HO} (hD : H D = some (.lst acc)) (h : SqT K H a xs) : SqT K (upd H D o) a xs := by
  rcases h with (h | ⟨u, h⟩) | h
  · exact .inl (.inl (by rw [upd_ne (fun e => by rw [e, hD] at h; cases h)]; exact h))
  · exact .inl (.inr ⟨u, by rw [upd_ne (fun e => by rw [e, hD] at h; cases h)]; exact h⟩)
  · exact .inr h
def spTake : Sp := fun vs H Q E => ∃ (p : Addr) (many salt : Int), vs = [.ref p, .int many, .int salt] ∧ 0 < many ∧ Tape H p ∧ ∀ r H2, 0 ≤ r → r < many → But p H H2 → Tape H2 p → Q (.int r) H2
def spTape (K : PySem.W.Frag) : Sp := fun vs H Q E => ∃ (a : Addr) (ns : List Int), vs = [.ref a] ∧ SqL K H a (ns.map V.int) ∧ ∀ p H2, H p = none → Ex H H2 → Tape H2 p → Q (.ref p) H2
def spInt : Sp := fun vs H Q E => ∃ z : Int, vs = [.int z] ∧ RetV (.bl true) H Q
theorem go_take {ta : TA} {σ : L2.St} {H : Hp} {Q : VK} {E : L2.St → XK} {p : Addr} {many salt : Int} (h : EvA ta σ H [.ref p, .int many, .int salt]) (hm : 0 < many) (ht : Tape H p) (k : ∀ r H2, 0 ≤ r → r < many → But p H H2 → Tape H2 p → Q (.int r) H2) :
    tCallS spTake E ta σ H Q := h H (Ex.refl H) _ fun H1 e1 => ⟨p, many, salt, rfl, hm, ht.mono e1, fun r H2 a b c d => k r H2 a b ((But.of e1).trans c) d⟩
theorem q_take {ta : TA} {σ : L2.St} {H : Hp} {D : Ends} {tz : TS} {E : L2.St → XK} {p : Addr} {many salt : Int} {i : Nat} (h : EvA ta σ H [.ref p, .int many, .int salt]) (hm : 0 < many) (ht : Tape H p) (k : ∀ r H2, 0 ≤ r → r < many → But p H H2 → Tape H2 p → tz D (σ.set i (some (.int r))) H2) :
    tSeq (tAsg (tCallS spTake E ta) (gName i)) tz D σ H := go_take h hm ht k
theorem q_takeEq {ta : TA} {σ : L2.St} {H : Hp} {D : Ends} {tu tw tz : TS} {E : L2.St → XK} {p : Addr} {many salt c : Int} (h : EvA ta σ H [.ref p, .int many, .int salt]) (hm : 0 < many) (ht : Tape H p)
    (k : ∀ r H2, 0 ≤ r → r < many → But p H H2 → Tape H2 p → (r = c → tu { D with nx := tz D } σ H2) ∧ (¬ r = c → tw { D with nx := tz D } σ H2)) :
    tSeq (tIfS (tTest (tOp rEq (tCallS spTake E ta) (tC (.int c)))) tu tw) tz D σ H := go_take h hm ht fun r H2 a b c' d => ⟨rfl, _, rfl, ite2 (fun e => (k r H2 a b c' d).1 (V.int.inj (of_decide_eq_true e))) (fun e => (k r H2 a b c' d).2 fun z => e (decide_eq_true (congrArg V.int z)))⟩
theorem has__law_take (T : Tx P w K mg base CO CS CN CR) (D : DefAt K mg "_law_take" s__law_take ["tape", "many", "salt"]) : Has P w K mg base 4 "_law_take" ["tape", "many", "salt"] (spTake) := by
  refine D.has sc__law_take (fun vs H Q E h => ?len) (fun f cdv A outer s H vs Q E hr h => ?body)
  case len =>
    obtain ⟨_, _, _, rfl, _, ⟨_, _⟩, _⟩ := h
    rfl
  case body =>
    have tk : Takes (cxOf (L2.CX P w) P w K mg base ["tape", "many", "salt", "digit"] "_law_take" (defScope s__law_take) f cdv A outer s H E) (fun cls d _ H => E cls d H) := takes_of rfl rfl rfl rfl
    obtain ⟨p, many, salt, rfl, hm, ⟨ds, hp⟩, h⟩ := h
    refine ⟨_, (pss_cons (ps_set (i := 3) sc__law_take.nd rfl (.inl rfl) pe_int)
      (pss_cons (ps_if (pt_cmpR op_gt (pe_callB call_len_seq (by rfl) T.z_len (by decide +kernel) (pa_cons (pv 0) pa_nil)) pe_int (nomark _)) (pss_one (ps_set (i := 3) sc__law_take.nd rfl (.inl rfl) (pe_bm0 PySem.F.plainAttrs_list PySem.F.slot_list_pop PySem.F.type_list_pop mt_pop (pv 0)))) pss_nil)
      (pss_one (ps_ret (pe_op op_modN (pe_callTy call_int1 (by rfl) T.z_int (by decide +kernel) (pa_cons (pe_op op_add (pv 3) (pv 2)) pa_nil)) (pv 1)))))), ?_⟩
    refine q_asg ev_c fun H1 e1 => ?_
    have hp1 := e1 p _ hp
    have fin : ∀ d : Int, 0 ≤ (d + salt).fmod many ∧ (d + salt).fmod many < many := fun d => ⟨Int.fmod_nonneg_of_pos _ hm, Int.fmod_lt_of_pos _ hm⟩
    refine q_when (et_test (ev_op (ev_lenS (ev_var rfl) (.lst hp1)) ev_c rv_I0)) (fun hb H2 e2 => ?a) (fun hb H2 e2 => ?b)
    case b =>
      refine s_ret (ev_op (ev_int1 (ev_op (ev_var rfl) (ev_var rfl) rv_I0)) (ev_var rfl) (rv_I (by omega))) fun H3 e3 => ?_
      exact h _ H3 (fin 0).1 (fin 0).2 (But.of ((e1.trans e2).trans e3)) ⟨ds, ((e1.trans e2).trans e3) p _ hp⟩
    case a =>
      rcases List.eq_nil_or_concat ds with rfl | ⟨d0, z, e0⟩
      · simp at hb
      obtain rfl : ds = d0 ++ [z] := by simpa using e0
      have hp2 := e2 p _ hp1
      refine ⟨.ref p, rfl, .inl ⟨rfl, _, sq_of hp2⟩, p, _, .int z, rfl, rfl, hp2, by rw [List.map_append, List.length_append, List.getElem?_append_right (by simp)]; simp, ?_⟩
      rw [List.map_append, List.map_cons, List.map_nil, List.dropLast_concat]
      refine s_ret (ev_op (ev_int1 (ev_op (ev_var rfl) (ev_var rfl) rv_I0)) (ev_var rfl) (rv_I (by omega))) fun H3 e3 => ?_
      exact h _ H3 (fin z).1 (fin z).2 ((But.of (e1.trans e2)).upd.trans (But.of e3)) ⟨d0, e3 p _ upd_same⟩
theorem has__law_tape (T : Tx P w K mg base CO CS CN CR) (D : DefAt K mg "_law_tape" s__law_tape ["script"]) : Has P w K mg base 4 "_law_tape" ["script"] (spTape K) := by
  refine D.has sc__law_tape (fun vs H Q E h => ?len) (fun f cdv A outer s H vs Q E hr h => ?body)
  case len =>
    obtain ⟨_, _, rfl, _, _⟩ := h
    rfl
  case body =>
    have tk : Takes (cxOf (L2.CX P w) P w K mg base ["script", "digits", "cell", "rest", "k"] "_law_tape" (defScope s__law_tape) f cdv A outer s H E) (fun cls d _ H => E cls d H) := takes_of rfl rfl rfl rfl
    obtain ⟨a, ns, rfl, hS, h⟩ := h
    refine ⟨_, (pss_cons (ps_set (i := 1) sc__law_tape.nd rfl (.inl rfl) (pe_lst pa_nil))
      (pss_cons (ps_for (passes_of rfl) rfl (pi_list (pe_slice sl_list (pv 0) po_none (po_some pe_int))) (pg_name (i := 2) sc__law_tape.nd rfl (.inl rfl)) (pss_cons (ps_set (i := 3) sc__law_tape.nd rfl (.inl rfl) (pe_callB call_abs (by rfl) T.z_abs (by decide +kernel) (pa_cons (pv 2) pa_nil)))
      (pss_one (ps_for (passes_of rfl) rfl (pi_range1 rfl T.z_range (pa_cons pe_int pa_nil)) (pg_name (i := 4) sc__law_tape.nd rfl (.inl rfl)) (pss_one (ps_if (pt_cmpR op_gt (pv 3) pe_int (nomark _)) (pss_cons (ps_expr (pe_bm PySem.F.plainAttrs_list PySem.F.slot_list_append PySem.F.type_list_append mt_append (pv 1) (pa_cons (pe_op op_mod (pe_callTy call_int1 (by rfl) T.z_int (by decide +kernel) (pa_cons (pv 3) pa_nil)) pe_int) pa_nil)))
      (pss_one (ps_set (i := 3) sc__law_tape.nd rfl (.inl rfl) (pe_op op_fdiv (pv 3) pe_int)))) pss_nil))))))
      (pss_one (ps_ret (pe_revL (pv 1)))))), ?_⟩
    refine q_asgL (el_lst ea_nil (by decide)) fun p H1 hp e1 g1 => ?_
    refine q_forNL (el_to 63 (ev_var rfl) ev_c (ex_l e1 hS)) (fun q i σ' H' => ∃ v2 v3 v4, σ' = [some (.ref a), some (.ref p), v2, v3, v4] ∧ Ex H H' ∧ SqL K H' q ((ns.take 63).map V.int) ∧ q ≠ p ∧ ∃ ds : List Int, H' p = some (.lst (ds.map V.int)) ∧ ds.length ≤ 14 * i)
      (fun q H2 hq e2 g2 => ⟨none, none, none, rfl, e1.trans e2, sq_of g2, (fun e => by rw [e, g1] at hq; cases hq), [], e2 p _ g1, by simp⟩) (fun q i σ' H' _ w => by obtain ⟨_, _, _, _, _, g, _⟩ := w; exact g) ?turn ?fin
    case turn =>
      rintro q i x σ' H' hx ⟨v2, v3, v4, rfl, x1, hq, hne, ds, hp', hl⟩
      obtain ⟨rfl, hi⟩ := at_ints hx
      have hi63 : i < 63 := by rw [List.length_take] at hi; omega
      refine q_asg (ev_abs (ev_var rfl)) fun H2 e2 => ?_
      refine s_forR1 (n := 14) (ea_cons ev_c ea_nil) (by omega) (fun j σ' H' => ∃ v2 z v4, σ' = [some (.ref a), some (.ref p), v2, some (.int z), v4] ∧ 0 ≤ z ∧ Ex H H' ∧ SqL K H' q ((ns.take 63).map V.int) ∧ ∃ ds : List Int, H' p = some (.lst (ds.map V.int)) ∧ ds.length ≤ 14 * i + j)
        (fun H3 e3 => ⟨_, _, v4, rfl, by split <;> omega, (x1.trans e2).trans e3, ex_l (e2.trans e3) hq, ds, (e2.trans e3) p _ hp', by omega⟩) ?turn2 ?fin2
      case turn2 =>
        rintro j σ' H3 hj ⟨v2, z, v4, rfl, z0, x3, hq3, ds, hp3, hl3⟩
        refine s_when (et_test (ev_op (ev_var rfl) ev_c rv_I0)) (fun hb H4 e4 => ?a) (fun hb H4 e4 => ?b)
        case b => exact ⟨_, z, _, rfl, z0, x3.trans e4, ex_l e4 hq3, ds, e4 p _ hp3, by omega⟩
        case a =>
          refine q_app (e4 p _ hp3) (ev_var rfl) (ev_op (ev_int1 (ev_var rfl)) ev_c (rv_mod (by decide))) (by rw [List.length_map]; omega) fun H5 e5 => ?_
          refine s_asg (ev_op (ev_var rfl) ev_c (rv_I (show CDiv z 12 from ⟨by decide, by decide⟩))) fun H6 e6 => ?_
          refine ⟨_, z / 12, _, rfl, by omega, ((x3.trans (e4.trans e5)).mut hp).trans e6, ex_l e6 (sql_upd hne (ex_l (e4.trans e5) hq3)), ds ++ [z % 12], e6 p _ (by rw [upd_same, List.map_append]; rfl), by rw [List.length_append, List.length_cons, List.length_nil]; omega⟩
      case fin2 =>
        rintro σ' H3 ⟨v2, z, v4, rfl, z0, x3, hq3, ds, hp3, hl3⟩
        exact ⟨_, _, _, rfl, x3, hq3, hne, ds, hp3, by have e : ((14 : Int)).toNat = 14 := rfl; omega⟩
    case fin =>
      rintro q σ' H' ⟨v2, v3, v4, rfl, x1, hq, hne, ds, hp', hl⟩
      refine s_retL (el_rev (ev_var rfl) (sq_of hp')) fun r H2 hr e2 g2 => ?_
      exact h r H2 (fresh_back x1 hr) (x1.trans e2) ⟨ds.reverse, by rw [g2, List.map_reverse]⟩
theorem has__law_int (T : Tx P w K mg base CO CS CN CR) (D : DefAt K mg "_law_int" s__law_int ["told"]) : HasA P w K mg base 4 "_law_int" ["told"] (spInt) := by
  refine D.hasA sc__law_int (fun vs H Q E h => ?len) (fun f cdv A outer s H vs Q E hr h => ?body)
  case len =>
    obtain ⟨_, rfl, _⟩ := h
    rfl
  case body =>
    obtain ⟨z, rfl, h⟩ := h
    refine ⟨_, (pss_one (ps_ret (pe_and (pe_callB call_isi (by rfl) T.z_isinstance (by decide +kernel) (pa_cons (pv 0) (pa_cons (pe_bltn (v := .ty "int") rfl T.z_int (by decide +kernel) rfl) pa_nil))) (pe_one (pe_not (pe_callB call_isi (by rfl) T.z_isinstance (by decide +kernel) (pa_cons (pv 0) (pa_cons (pe_bltn (v := .ty "bool") rfl T.z_bool (by decide +kernel) rfl) pa_nil)))))))), ?_⟩
    refine s_ret (ev_andV (a := true) (b := true) (ev_isi (ea_cons (ev_var rfl) (ea_cons ev_c ea_nil)) (.ty "int") (fun H1 e1 => .base (.int z)) (kit_ty (by decide +kernel))) fun _ => ev_notV (a := false) (ev_isi (ea_cons (ev_var rfl) (ea_cons ev_c ea_nil)) (.ty "bool") (fun H1 e1 => .base (.int z)) (kit_ty (by decide +kernel)))) fun H1 e1 => h H1 e1
theorem opL_raw {σ : L2.St} {H : Hp} {ta tb : TE} {r : R2} {xs : List V} {Q : VK} (ha : EvL ta σ H xs) (k : ∀ l H1, H l = none → Ex H H1 → H1 l = some (.lst xs) → tb σ H1 fun y H2 => r (.ref l) y H2 Q) : tOp r ta tb σ H Q := ha H (Ex.refl H) _ k
theorem q_asgR {σ : L2.St} {H : Hp} {te : TE} {D : Ends} {tz : TS} {i : Nat} (h : te σ H fun v H1 => tz D (σ.set i (some v)) H1) : tSeq (tAsg te (gName i)) tz D σ H := h
theorem s_retR {σ : L2.St} {H : Hp} {te : TE} {D : Ends} (h : te σ H D.rt) : tRet te D σ H := h
theorem op_raw {K : PySem.W.Frag} {σ : L2.St} {H : Hp} {ta tb : TE} {r : R2} {x : V} {Q : VK} (ha : Ev ta σ H x) (k : ∀ H1, Ex H H1 → tb σ H1 fun y H2 => r x y H2 Q) : tOp r ta tb σ H Q := ha H (Ex.refl H) _ k
def spNumber : Sp := fun vs H Q E => ∃ (p : Addr) (salt : Int), vs = [.ref p, .int salt] ∧ Tape H p ∧ ∀ z H2, 0 ≤ z → z ≤ B → But p H H2 → Tape H2 p → Q (.int z) H2
def spSigned : Sp := fun vs H Q E => ∃ (p : Addr) (salt : Int), vs = [.ref p, .int salt] ∧ Tape H p ∧ ∀ z H2, -B ≤ z → z ≤ B → But p H H2 → Tape H2 p → Q (.int z) H2
theorem cpow1 : CPowW 10 50 := by unfold CPowW; decide +kernel
theorem cpow2 : CPowW ((10:Int)^(50:Int).toNat) 40 := by unfold CPowW; decide +kernel
theorem cpow3 : CPowW ((10:Int)^(50:Int).toNat) 20 := by unfold CPowW; decide +kernel
theorem ev_B {σ : L2.St} {H : Hp} : Ev (tOp (rI CPowW fun i j => .int (i ^ j.toNat)) (tOp (rI CPowW fun i j => .int (i ^ j.toNat)) (tC (.int 10)) (tC (.int 50))) (tC (.int 40))) σ H (.int B) := by
  rw [B_def]
  exact ev_powW (ev_powW ev_c ev_c cpow1) ev_c cpow2
theorem ev_R {σ : L2.St} {H : Hp} : Ev (tOp (rI CPowW fun i j => .int (i ^ j.toNat)) (tOp (rI CPowW fun i j => .int (i ^ j.toNat)) (tC (.int 10)) (tC (.int 50))) (tC (.int 20))) σ H (.int (((10:Int)^(50:Int).toNat)^(20:Int).toNat)) := ev_powW (ev_powW ev_c ev_c cpow1) ev_c cpow3
theorem deq {i j : Int} (h : decide (V.int i = V.int j) = true) : i = j := V.int.inj (of_decide_eq_true h)
theorem dne {i j : Int} (h : decide (V.int i = V.int j) = false) : i ≠ j := fun e => (of_decide_eq_false h) (by rw [e])
theorem pow12 (i : Nat) : (0:Int) ≤ 12 ^ i := Int.pow_nonneg (by decide)
theorem has__law_number (T : Tx P w K mg base CO CS CN CR) (h__law_take : Has P w K mg base 4 "_law_take" ["tape", "many", "salt"] (spTake)) (D : DefAt K mg "_law_number" s__law_number ["tape", "salt"]) : Has P w K mg base 5 "_law_number" ["tape", "salt"] (spNumber) := by
  refine D.has sc__law_number (fun vs H Q E h => ?len) (fun f cdv A outer s H vs Q E hr h => ?body)
  case len =>
    obtain ⟨_, _, rfl, _, _⟩ := h
    rfl
  case body =>
    have tk : Takes (cxOf (L2.CX P w) P w K mg base ["tape", "salt", "kind", "value", "k"] "_law_number" (defScope s__law_number) f cdv A outer s H E) (fun cls d _ H => E cls d H) := takes_of rfl rfl rfl rfl
    obtain ⟨p, salt, rfl, ht, h⟩ := h
    refine ⟨_, (pss_cons (ps_set (i := 2) sc__law_number.nd rfl (.inl rfl) (pe_hasN h__law_take (hr.mono (by decide)) (pa_cons (pv 0) (pa_cons pe_int (pa_cons (pv 1) pa_nil)))))
      (pss_cons (ps_set (i := 3) sc__law_number.nd rfl (.inl rfl) pe_int)
      (pss_cons (ps_for (passes_of rfl) rfl (pi_range1 rfl T.z_range (pa_cons (pe_ix ix_list (pe_lst (pa_cons pe_int (pa_cons pe_int (pa_cons pe_int (pa_cons pe_int (pa_cons pe_int (pa_cons pe_int (pa_cons pe_int (pa_cons pe_int (pa_cons pe_int (pa_cons pe_int (pa_cons pe_int (pa_cons pe_int pa_nil))))))))))))) (pv 2) (fun _ _ => rfl)) pa_nil)) (pg_name (i := 4) sc__law_number.nd rfl (.inl rfl)) (pss_one (ps_set (i := 3) sc__law_number.nd rfl (.inl rfl) (pe_op op_add (pe_op op_mul (pv 3) pe_int) (pe_hasN h__law_take (hr.mono (by decide)) (pa_cons (pv 0) (pa_cons pe_int (pa_cons (pe_op op_add (pv 1) (pe_op op_mul pe_int (pv 4))) pa_nil))))))))
      (pss_cons (ps_if (pt_cmpR op_eq (pv 2) pe_int (nomark _)) (pss_one (ps_ret (pe_op op_sub (pe_op op_powW (pe_op op_powW pe_int pe_int) pe_int) (pv 3)))) pss_nil)
      (pss_cons (ps_if (pt_cmpR op_eq (pv 2) pe_int (nomark _)) (pss_one (ps_ret (pe_op op_add (pe_op op_powW (pe_op op_powW pe_int pe_int) pe_int) (pv 3)))) pss_nil)
      (pss_cons (ps_if (pt_cmpR op_eq (pv 2) pe_int (nomark _)) (pss_one (ps_ret (pe_op op_sub (pe_op op_powW (pe_op op_powW pe_int pe_int) pe_int) (pv 3)))) pss_nil)
      (pss_one (ps_ret (pv 3))))))))), ?_⟩
    refine q_take (many := 12) (salt := salt) (ea_cons (ev_var rfl) (ea_cons ev_c (ea_cons (ev_var rfl) ea_nil))) (by decide) ht fun r H1 r0 r1 b1 t1 => ?_
    refine q_asg ev_c fun H2 e2 => ?_
    obtain ⟨m, hat, m0, m1, m2⟩ : ∃ m : Int, atI [V.int 1, .int 2, .int 6, .int 1, .int 3, .int 2, .int 1, .int 40, .int 12, .int 2, .int 2, .int 2] r = some (.int m) ∧ 0 ≤ m ∧ m ≤ 40 ∧ (9 ≤ r → m ≤ 2) ∧ True := by
      rcases (show r = 0 ∨ r = 1 ∨ r = 2 ∨ r = 3 ∨ r = 4 ∨ r = 5 ∨ r = 6 ∨ r = 7 ∨ r = 8 ∨ r = 9 ∨ r = 10 ∨ r = 11 by omega) with rfl | rfl | rfl | rfl | rfl | rfl | rfl | rfl | rfl | rfl | rfl | rfl <;> exact ⟨_, rfl, by decide, by decide, by decide, trivial⟩
    have b2 : But p H H2 := b1.trans (But.of e2)
    have t2 := t1.mono e2
    refine q_forR1 (n := m) (ea_cons (ev_ixN (K := K) (el_lst (ea_cons ev_c (ea_cons ev_c (ea_cons ev_c (ea_cons ev_c (ea_cons ev_c (ea_cons ev_c (ea_cons ev_c (ea_cons ev_c (ea_cons ev_c (ea_cons ev_c (ea_cons ev_c (ea_cons ev_c ea_nil)))))))))))) (by show 12 ≤ 100000; decide)) (fun H3 e3 => ev_var rfl) hat) ea_nil) (by omega)
      (fun i σ' H' => ∃ (v : Int) (vk : Option V), σ' = [some (.ref p), some (.int salt), some (.int r), some (.int v), vk] ∧ 0 ≤ v ∧ v < 12 ^ i ∧ But p H H' ∧ Tape H' p) (fun H3 e3 => ⟨0, none, rfl, by decide, by decide, b2.trans (But.of e3), t2.mono e3⟩) ?turn ?fin
    case turn =>
      rintro i σ' H3 hi ⟨v, vk, rfl, v0, v1, b3, t3⟩
      refine op_raw (K := K) (ev_op (ev_var rfl) ev_c (rv_I (.inr ⟨by decide, by decide⟩))) fun H4 e4 => ?_
      refine go_take (many := 12) (salt := salt + 5 * (i : Int)) (ea_cons (ev_var rfl) (ea_cons ev_c (ea_cons (ev_op (ev_var rfl) (ev_op ev_c (ev_var rfl) (rv_I (.inl ⟨by decide, by decide⟩))) rv_I0) ea_nil))) (by decide) (t3.mono e4) fun d H5 d0 d1 b5 t5 => ?_
      refine ⟨_, _, rfl, rfl, v * 12 + d, _, rfl, by omega, ?_, (b3.trans (But.of e4)).trans b5, t5⟩
      rw [Int.pow_succ]
      omega
    case fin =>
      rintro σ' H3 ⟨v, vk, rfl, v0, v1, b3, t3⟩
      have rr := r20
      have bp := B_pos
      have small : 9 ≤ r → v < 144 := fun h9 => by
        have m2' := m2.1 h9
        have : (12:Int) ^ m.toNat ≤ 12 ^ 2 := by
          rcases (show m.toNat = 0 ∨ m.toNat = 1 ∨ m.toNat = 2 by omega) with e | e | e <;> rw [e] <;> decide
        have : (12:Int)^2 = 144 := by decide
        omega
      have vB : v ≤ B := by
        have : (12:Int) ^ m.toNat ≤ 12 ^ 40 := by
          have h1 : (12:Nat) ^ m.toNat ≤ 12 ^ 40 := Nat.pow_le_pow_right (by decide) (by omega)
          have h2 : (((12:Nat) ^ m.toNat : Nat) : Int) = (12:Int) ^ m.toNat := by rw [Int.natCast_pow]; rfl
          have h3 : (((12:Nat) ^ 40 : Nat) : Int) = (12:Int) ^ 40 := by rw [Int.natCast_pow]; rfl
          omega
        have : (12:Int)^40 ≤ ((10:Int)^(50:Int).toNat)^(20:Int).toNat := by decide +kernel
        omega
      refine q_when (et_test (ev_op (ev_var rfl) ev_c (rv_eq rfl))) (fun hb H4 e4 => ?a) (fun hb H4 e4 => ?x)
      case a =>
        have := small (by have := deq hb; omega)
        exact s_ret (ev_op ev_B (ev_var rfl) rv_I0) fun H5 e5 => h _ H5 (by omega) (by omega) (b3.trans (But.of (e4.trans e5))) (t3.mono (e4.trans e5))
      refine q_when (et_test (ev_op (ev_var rfl) ev_c (rv_eq rfl))) (fun hb H5 e5 => ?b) (fun hb H5 e5 => ?y)
      case b =>
        have := small (by have := deq hb; omega)
        exact s_ret (ev_op ev_R (ev_var rfl) rv_I0) fun H6 e6 => h _ H6 (by omega) (by omega) (b3.trans (But.of ((e4.trans e5).trans e6))) (t3.mono ((e4.trans e5).trans e6))
      refine q_when (et_test (ev_op (ev_var rfl) ev_c (rv_eq rfl))) (fun hb H6 e6 => ?c) (fun hb H6 e6 => ?z)
      case c =>
        have := small (by have := deq hb; omega)
        exact s_ret (ev_op ev_R (ev_var rfl) rv_I0) fun H7 e7 => h _ H7 (by omega) (by omega) (b3.trans (But.of (((e4.trans e5).trans e6).trans e7))) (t3.mono (((e4.trans e5).trans e6).trans e7))
      exact s_ret (ev_var rfl) fun H7 e7 => h _ H7 (by omega) (by omega) (b3.trans (But.of (((e4.trans e5).trans e6).trans e7))) (t3.mono (((e4.trans e5).trans e6).trans e7))
theorem has__law_signed (T : Tx P w K mg base CO CS CN CR) (h__law_number : Has P w K mg base 5 "_law_number" ["tape", "salt"] (spNumber)) (h__law_take : Has P w K mg base 4 "_law_take" ["tape", "many", "salt"] (spTake)) (D : DefAt K mg "_law_signed" s__law_signed ["tape", "salt"]) : Has P w K mg base 6 "_law_signed" ["tape", "salt"] (spSigned) := by
  refine D.has sc__law_signed (fun vs H Q E h => ?len) (fun f cdv A outer s H vs Q E hr h => ?body)
  case len =>
    obtain ⟨_, _, rfl, _, _⟩ := h
    rfl
  case body =>
    have tk : Takes (cxOf (L2.CX P w) P w K mg base ["tape", "salt", "sign"] "_law_signed" (defScope s__law_signed) f cdv A outer s H E) (fun cls d _ H => E cls d H) := takes_of rfl rfl rfl rfl
    obtain ⟨p, salt, rfl, ht, h⟩ := h
    refine ⟨_, (pss_cons (ps_set (i := 2) sc__law_signed.nd rfl (.inl rfl) (pe_ix ix_list (pe_lst (pa_cons pe_int (pa_cons (pe_un un_neg pe_int) pa_nil))) (pe_hasN h__law_take (hr.mono (by decide)) (pa_cons (pv 0) (pa_cons pe_int (pa_cons (pv 1) pa_nil)))) (fun _ _ => rfl)))
      (pss_one (ps_ret (pe_op op_mul (pv 2) (pe_hasN h__law_number (hr.mono (by decide)) (pa_cons (pv 0) (pa_cons (pv 1) pa_nil))))))), ?_⟩
    refine q_asgR (opL_raw (xs := [V.int 1, V.int (-1)]) (el_lst (ea_cons ev_c (ea_cons (ev_neg ev_c) ea_nil)) (by show 2 ≤ 100000; decide)) fun l H1 hl e1 g1 => ?_)
    refine go_take (many := 2) (salt := salt) (ea_cons (ev_var rfl) (ea_cons ev_c (ea_cons (ev_var rfl) ea_nil))) (by decide) (ht.mono e1) fun r H2 r0 r1 b2 t2 => ?_
    have ne : l ≠ p := fun e => by
      obtain ⟨ds, hp⟩ := ht
      rw [e, hp] at hl
      cases hl
    obtain ⟨g, hat, hg⟩ : ∃ g : Int, atI [V.int 1, V.int (-1)] r = some (.int g) ∧ (g = 1 ∨ g = -1) := by
      rcases (show r = 0 ∨ r = 1 by omega) with rfl | rfl
      · exact ⟨_, rfl, .inl rfl⟩
      · exact ⟨_, rfl, .inr rfl⟩
    refine ⟨l, _, r, _, rfl, rfl, sq_of (b2 l _ ne g1), hat, ?_⟩
    refine s_retR (op_raw (K := K) (ev_var rfl) fun H3 e3 => ?_)
    refine (ea_cons (ev_var rfl) (ea_cons (ev_var rfl) ea_nil) : EvA _ _ H3 [.ref p, .int salt]) H3 (Ex.refl H3) _ fun H4 e4 => ?_
    refine ⟨p, salt, rfl, t2.mono (e3.trans e4), fun z H5 z0 z1 b5 t5 => ⟨g, z, rfl, rfl, .inl ⟨by omega, by omega⟩, ?_⟩⟩
    exact h _ H5 (by rcases hg with rfl | rfl <;> omega) (by rcases hg with rfl | rfl <;> omega) ((But.of e1).trans (b2.trans ((But.of (e3.trans e4)).trans b5))) t5
/-! ### what is due -/
def spCommon : Sp := fun vs H Q E => ∃ a b : Int, vs = [.int a, .int b] ∧ 0 ≤ a ∧ 0 ≤ b ∧ RetV (.int (gI a b)) H Q
theorem has__law_common (T : Tx P w K mg base CO CS CN CR) (D : DefAt K mg "_law_common" s__law_common ["one", "other"]) : Has P w K mg base 4 "_law_common" ["one", "other"] (spCommon) := by
  refine D.has sc__law_common (fun vs H Q E h => ?len) (fun f cdv A outer s H vs Q E hr h => ?body)
  case len =>
    obtain ⟨_, _, rfl, _, _, _⟩ := h
    rfl
  case body =>
    have tk : Takes (cxOf (L2.CX P w) P w K mg base ["one", "other", "rest"] "_law_common" (defScope s__law_common) f cdv A outer s H E) (fun cls d _ H => E cls d H) := takes_of rfl rfl rfl rfl
    obtain ⟨a, b, rfl, a0, b0, h⟩ := h
    refine ⟨_, (pss_cons (ps_while (passes_of rfl) (pt_cmpR op_ne (pv 1) pe_int (nomark _)) (pss_cons (ps_set (i := 2) sc__law_common.nd rfl (.inl rfl) (pe_op op_mod (pe_callTy call_int1 (by rfl) T.z_int (by decide +kernel) (pa_cons (pv 0) pa_nil)) (pv 1)))
      (pss_cons (ps_set (i := 0) sc__law_common.nd rfl (.inl rfl) (pv 1))
      (pss_one (ps_set (i := 1) sc__law_common.nd rfl (.inl rfl) (pv 2))))))
      (pss_one (ps_ret (pv 0)))), ?_⟩
    refine q_while (fun m σ' H' => ∃ (x y : Int) (v : Option V), σ' = [some (.int x), some (.int y), v] ∧ 0 ≤ x ∧ 0 ≤ y ∧ gI x y = gI a b ∧ Ex H H' ∧ m = y.toNat) b.toNat ⟨a, b, none, rfl, a0, b0, rfl, Ex.refl H, rfl⟩ ?turn
    rintro m σ' H1 ⟨x, y, v, rfl, x0, y0, eg, x1, rfl⟩
    refine ⟨_, et_test (ev_op (ev_var rfl) ev_c (rv_ne rfl)), fun hb H2 e2 => ?_, fun hb H2 e2 => ?_⟩
    · have yn : y ≠ 0 := dne (by simpa using hb)
      refine ⟨fun σ2 H2 => ∃ (x' y' : Int) (v : Option V), σ2 = [some (.int x'), some (.int y'), v] ∧ 0 ≤ x' ∧ 0 ≤ y' ∧ gI x' y' = gI a b ∧ Ex H H2 ∧ y'.toNat < y.toNat, fun σ2 H2 ⟨x', y', v, h1, h2, h3, h4, h5, h6⟩ => ⟨y'.toNat, h6, x', y', v, h1, h2, h3, h4, h5, rfl⟩, ?_⟩
      refine q_asg (ev_op (ev_int1 (ev_var rfl)) (ev_var rfl) (rv_mod (by omega))) fun H3 e3 => ?_
      refine q_asg (ev_var rfl) fun H4 e4 => ?_
      refine s_asg (ev_var rfl) fun H5 e5 => ?_
      have c0 := Int.emod_nonneg x yn
      have c1 := Int.emod_lt_of_pos x (show 0 < y by omega)
      exact ⟨y, x % y, _, rfl, y0, c0, by rw [← gI_step x0 (by omega)]; exact eg, (((x1.trans e2).trans e3).trans e4).trans e5, by omega⟩
    · obtain rfl : y = 0 := deq (by simpa using hb)
      rw [gI_zero x0] at eg
      subst eg
      exact s_ret (ev_var rfl) fun H3 e3 => h H3 ((x1.trans e2).trans e3)
def encV : Except Int (Int × Int) → List V
  | .error z => [.str "number", .int z]
  | .ok x => [.str "ratio", .int x.1, .int x.2]
def spDue : Sp := fun vs H Q E => ∃ n d : Int, vs = [.int n, .int d] ∧ n.natAbs < 2 ^ 13500 ∧ d.natAbs < 2 ^ 13500 ∧ RetU (encV (due n d)) H Q
theorem has__law_due (T : Tx P w K mg base CO CS CN CR) (h__law_common : Has P w K mg base 4 "_law_common" ["one", "other"] (spCommon)) (D : DefAt K mg "_law_due" s__law_due ["num", "den"]) : Has P w K mg base 5 "_law_due" ["num", "den"] (spDue) := by
  refine D.has sc__law_due (fun vs H Q E h => ?len) (fun f cdv A outer s H vs Q E hr h => ?body)
  case len =>
    obtain ⟨_, _, rfl, _, _, _⟩ := h
    rfl
  case body =>
    have tk : Takes (cxOf (L2.CX P w) P w K mg base ["num", "den", "divisor", "top", "bottom"] "_law_due" (defScope s__law_due) f cdv A outer s H E) (fun cls d _ H => E cls d H) := takes_of rfl rfl rfl rfl
    obtain ⟨n, d, rfl, hn, hd, h⟩ := h
    refine ⟨_, (pss_cons (ps_if (pt_cmpR op_eq (pv 1) pe_int (nomark _)) (pss_one (ps_ret (pe_tup (pa_cons pe_str (pa_cons pe_int pa_nil))))) pss_nil)
      (pss_cut (ps_if (pt_cmpR op_lt (pv 1) pe_int (nomark _)) (pss_cons (ps_set (i := 0) sc__law_due.nd rfl (.inl rfl) (pe_un un_neg (pv 0)))
      (pss_one (ps_set (i := 1) sc__law_due.nd rfl (.inl rfl) (pe_un un_neg (pv 1))))) pss_nil)
      (pss_cons (ps_set (i := 2) sc__law_due.nd rfl (.inl rfl) (pe_hasN h__law_common (hr.mono (by decide)) (pa_cons (pe_callB call_abs (by rfl) T.z_abs (by decide +kernel) (pa_cons (pv 0) pa_nil)) (pa_cons (pv 1) pa_nil))))
      (pss_cons (ps_set (i := 3) sc__law_due.nd rfl (.inl rfl) (pe_op op_fdivV (pv 0) (pv 2)))
      (pss_cons (ps_set (i := 4) sc__law_due.nd rfl (.inl rfl) (pe_op op_fdivV (pv 1) (pv 2)))
      (pss_cons (ps_if (pt_cmpR op_gt (pe_callB call_abs (by rfl) T.z_abs (by decide +kernel) (pa_cons (pv 3) pa_nil)) (pe_op op_powW (pe_op op_powW pe_int pe_int) pe_int) (nomark _)) (pss_one (ps_ret (pe_tup (pa_cons pe_str (pa_cons (pv 3) pa_nil))))) pss_nil)
      (pss_cons (ps_if (pt_cmpR op_gt (pv 4) (pe_op op_powW (pe_op op_powW pe_int pe_int) pe_int) (nomark _)) (pss_one (ps_ret (pe_tup (pa_cons pe_str (pa_cons (pv 4) pa_nil))))) pss_nil)
      (pss_one (ps_ret (pe_tup (pa_cons pe_str (pa_cons (pv 3) (pa_cons (pv 4) pa_nil))))))))))))), ?_⟩
    refine q_when (et_test (ev_op (ev_var rfl) ev_c (rv_eq rfl))) (fun hb H1 e1 => ?z) (fun hb H1 e1 => ?nz)
    case z =>
      have d0 := deq hb
      have e : due n d = .error 0 := by unfold due; rw [if_pos d0]
      rw [e] at h
      exact s_retU (eu_tup (ea_cons ev_c (ea_cons ev_c ea_nil)) (by show 2 ≤ 100000; decide)) fun p H2 hp e2 g2 => h p H2 (fresh_back e1 hp) (e1.trans e2) g2
    have d0 := dne hb
    refine q_cut (M := fun σ' H' => ∃ n' d' v1 v2 v3, σ' = [some (.int n'), some (.int d'), v1, v2, v3] ∧ 0 < d' ∧ n'.natAbs < 2 ^ 13500 ∧ d'.natAbs < 2 ^ 13500 ∧ Ex H H' ∧ due n d = low n' d') ?c ?k
    case c =>
      refine s_when (et_test (ev_op (ev_var rfl) ev_c rv_I0)) (fun hb H2 e2 => ?n) (fun hb H2 e2 => ?p)
      case n =>
        have dn : d < 0 := of_decide_eq_true hb
        refine q_asg (ev_neg (ev_var rfl)) fun H3 e3 => ?_
        refine s_asg (ev_neg (ev_var rfl)) fun H4 e4 => ?_
        exact ⟨-n, -d, _, _, _, rfl, by omega, by rw [Int.natAbs_neg]; exact hn, by rw [Int.natAbs_neg]; exact hd, ((e1.trans e2).trans e3).trans e4, by unfold due; rw [if_neg d0, if_pos dn]⟩
      case p =>
        have dn : ¬ d < 0 := of_decide_eq_false hb
        exact ⟨n, d, _, _, _, rfl, by omega, hn, hd, e1.trans e2, by unfold due; rw [if_neg d0, if_neg dn]⟩
    case k =>
      clear hn hd d0 hb
      rintro σ' H2 ⟨n', d', v1, v2, v3, rfl, dp, hn, hd, x2, e⟩
      rw [e] at h
      have g0 := gI_pos (n := n') dp
      refine q_asg (v := .int (gI n' d')) ?div fun H3 e3 => ?_
      case div =>
        rw [← gI_abs]
        exact ev_callS (ea_cons (ev_abs (ev_var rfl)) (ea_cons (ev_var rfl) ea_nil)) fun H3 e3 Q' E' q' => ⟨abI n', d', rfl, by unfold abI; split <;> omega, by omega, q'⟩
      refine q_asg (ev_divV (ev_var rfl) (ev_var rfl) ⟨g0, hn⟩) fun H4 e4 => ?_
      refine q_asg (ev_divV (ev_var rfl) (ev_var rfl) ⟨g0, hd⟩) fun H5 e5 => ?_
      have X5 := ((x2.trans e3).trans e4).trans e5
      refine q_when (et_test (ev_op (ev_abs (ev_var rfl)) ev_B rv_I0)) (fun hb H6 e6 => ?a) (fun hb H6 e6 => ?b)
      case a =>
        rw [low_top (n := n') (d := d') (of_decide_eq_true hb)] at h
        exact s_retU (eu_tup (ea_cons ev_c (ea_cons (ev_var rfl) ea_nil)) (by show 2 ≤ 100000; decide)) fun p H7 hp e7 g7 => h p H7 (fresh_back (X5.trans e6) hp) ((X5.trans e6).trans e7) g7
      have hb1 : ¬ abI (n' / gI n' d') > B := of_decide_eq_false hb
      refine q_when (et_test (ev_op (ev_var rfl) ev_B rv_I0)) (fun hb H7 e7 => ?c) (fun hb H7 e7 => ?okk)
      case c =>
        rw [low_bottom hb1 (of_decide_eq_true hb)] at h
        exact s_retU (eu_tup (ea_cons ev_c (ea_cons (ev_var rfl) ea_nil)) (by show 2 ≤ 100000; decide)) fun p H8 hp e8 g8 => h p H8 (fresh_back ((X5.trans e6).trans e7) hp) (((X5.trans e6).trans e7).trans e8) g8
      case okk =>
        rw [low_fine dp hb1 (of_decide_eq_false hb)] at h
        exact s_retU (eu_tup (ea_cons ev_c (ea_cons (ev_var rfl) (ea_cons (ev_var rfl) ea_nil))) (by show 3 ≤ 100000; decide)) fun p H8 hp e8 g8 => h p H8 (fresh_back ((X5.trans e6).trans e7) hp) (((X5.trans e6).trans e7).trans e8) g8
end
end K1
set_option exponentiation.threshold 20000
namespace K1
open PySem PySem.Spec PyProof.Rows L2 Evl Nd
local macro_rules | `(tactic| walk_at "ev") => `(tactic| first
  | exact ev_var rfl
  | exact ev_c
  | (apply ev_op; (walk_at "ev"); (walk_at "ev"); (walk_at "rv"))
  | (apply ev_un; (walk_at "ev"); (walk_at "rv"))
  | (apply ev_lenS; (walk_at "ev"); (walk_at "sq"))
  | (apply ev_andV; (walk_at "ev"); (intro _; walk_at "ev"))
  | (apply ev_orV; (walk_at "ev"); (intro _; walk_at "ev"))
  | (apply ev_notV; (walk_at "ev")))
local macro_rules | `(tactic| walk_at "rv") => `(tactic| first
  | exact rv_I0
  | exact ru_neg
  | exact rv_eq rfl
  | exact rv_ne rfl
  | exact rv_I (by decide)
  | exact rv_I (by first | omega | exact .inl (by omega) | exact .inr (by omega) | (constructor <;> omega)))
local macro_rules | `(tactic| walk_at "sq") => `(tactic| first
  | assumption
  | exact SqS.lst (by assumption)
  | exact SqS.tup (by assumption)
  | exact Or.inl (by assumption)
  | exact Or.inr (by assumption)
  | (refine SqS.mono (by assumption) ?_; walk_at "sq"))
local macro_rules | `(tactic| walk_at "et") => `(tactic| first
  | (apply et_or; (walk_at "et"); (intro _; walk_at "et"))
  | (apply et_and; (walk_at "et"); (intro _; walk_at "et"))
  | (apply et_not; (walk_at "et"))
  | (apply et_test; (walk_at "ev"))
  | (apply et_B; (walk_at "ev")))
local macro_rules | `(tactic| walk_at "ea") => `(tactic| first
  | exact ea_nil
  | (apply ea_cons; (walk_at "ev"); (walk_at "ea")))
section
variable {P : Program} {w : World} {K : PySem.W.Frag} {mg : Str → Option Value} {base : Heap} {CO CS CN CR : Addr}
/-! ### results -/
def Sg.str : Sg → Str
  | .add => "+"
  | .sub => "-"
  | .mul => "*"
  | .div => "/"
theorem go_int {ts : TA} {σ : L2.St} {H : Hp} {E : L2.St → XK} {z : Int} (h : EvA ts σ H [.int z]) : Ev (tCallS spInt E ts) σ H (.bl true) := ev_callS h fun H1 e1 Q E' q => ⟨z, rfl, q⟩
theorem eu_due {ts : TA} {σ : L2.St} {H : Hp} {E : L2.St → XK} {n d : Int} (h : EvA ts σ H [.int n, .int d]) (hn : n.natAbs < 2 ^ 13500) (hd : d.natAbs < 2 ^ 13500) : EvU (tCallS spDue E ts) σ H (encV (due n d)) := eu_callS h fun H1 e1 Q E' q => ⟨n, d, rfl, hn, hd, q⟩
def spResult (K : PySem.W.Frag) : Sp := fun vs H Q E => ∃ (o : Sg) (a b : Addr) (n d t u : Int), vs = [.str o.str, .ref a, .ref b] ∧ SqT K H a [.int n, .int d] ∧ SqT K H b [.int t, .int u] ∧ Sm 6644 n ∧ Sm 6644 d ∧ Sm 6644 t ∧ Sm 6644 u ∧ RetU (encV (res o n d t u)) H Q
theorem sno {x y : Str} {b : Bool} (h : decide (x = y) = b) : decide (V.str x = V.str y) = b := by
  rw [← h]
  by_cases e : x = y
  · subst e; simp
  · rw [decide_eq_false e, decide_eq_false (fun z => e (V.str.inj z))]
theorem has__law_result (T : Tx P w K mg base CO CS CN CR) (h__law_due : Has P w K mg base 5 "_law_due" ["num", "den"] (spDue)) (D : DefAt K mg "_law_result" s__law_result ["sign", "first", "second"]) : Has P w K mg base 6 "_law_result" ["sign", "first", "second"] (spResult K) := by
  refine D.has sc__law_result (fun vs H Q E h => ?len) (fun f cdv A outer s H vs Q E hr h => ?body)
  case len =>
    obtain ⟨_, _, _, _, _, _, _, rfl, _, _, _, _, _, _, _⟩ := h
    rfl
  case body =>
    have tk : Takes (cxOf (L2.CX P w) P w K mg base ["sign", "first", "second", "num", "den", "top", "under"] "_law_result" (defScope s__law_result) f cdv A outer s H E) (fun cls d _ H => E cls d H) := takes_of rfl rfl rfl rfl
    obtain ⟨o, a, b, n, d, t, u, rfl, hA, hB, sn, sd, st, su, h⟩ := h
    refine ⟨_, (pss_cons (ps_asg (pv 1) (pg_tup (by rfl) (pgs_cons (pg_name (i := 3) sc__law_result.nd rfl (.inl rfl)) (pgs_cons (pg_name (i := 4) sc__law_result.nd rfl (.inl rfl)) pgs_nil))))
      (pss_cons (ps_asg (pv 2) (pg_tup (by rfl) (pgs_cons (pg_name (i := 5) sc__law_result.nd rfl (.inl rfl)) (pgs_cons (pg_name (i := 6) sc__law_result.nd rfl (.inl rfl)) pgs_nil))))
      (pss_cons (ps_if (pt_cmpR op_eq (pv 0) pe_str (nomark _)) (pss_one (ps_ret (pe_hasN h__law_due (hr.mono (by decide)) (pa_cons (pe_op op_add (pe_op op_mulW (pv 3) (pv 6)) (pe_op op_mulW (pv 5) (pv 4))) (pa_cons (pe_op op_mulW (pv 4) (pv 6)) pa_nil))))) pss_nil)
      (pss_cons (ps_if (pt_cmpR op_eq (pv 0) pe_str (nomark _)) (pss_one (ps_ret (pe_hasN h__law_due (hr.mono (by decide)) (pa_cons (pe_op op_sub (pe_op op_mulW (pv 3) (pv 6)) (pe_op op_mulW (pv 5) (pv 4))) (pa_cons (pe_op op_mulW (pv 4) (pv 6)) pa_nil))))) pss_nil)
      (pss_cons (ps_if (pt_cmpR op_eq (pv 0) pe_str (nomark _)) (pss_one (ps_ret (pe_hasN h__law_due (hr.mono (by decide)) (pa_cons (pe_op op_mulW (pv 3) (pv 5)) (pa_cons (pe_op op_mulW (pv 4) (pv 6)) pa_nil))))) pss_nil)
      (pss_one (ps_ret (pe_hasN h__law_due (hr.mono (by decide)) (pa_cons (pe_op op_mulW (pv 3) (pv 6)) (pa_cons (pe_op op_mulW (pv 4) (pv 5)) pa_nil)))))))))), ?_⟩
    refine q_unp2 (ev_var rfl) hA fun H1 e1 => ?_
    refine q_unp2 (ev_var rfl) (ex_t e1 hB) fun H2 e2 => ?_
    have X2 := e1.trans e2
    cases o with
    | add =>
      refine q_when (b := true) (et_is (et_test (ev_op (ev_var rfl) ev_c (rv_eq rfl))) (by decide +kernel)) (fun _ G f => ?_) (fun hb => Bool.noConfusion hb)
      exact s_retU (eu_due (n := n * u + t * d) (d := d * u) (ea_cons (ev_op (ev_mulW (ev_var rfl) (ev_var rfl) (cMulW sn su)) (ev_mulW (ev_var rfl) (ev_var rfl) (cMulW st sd)) rv_I0) (ea_cons (ev_mulW (ev_var rfl) (ev_var rfl) (cMulW sd su)) ea_nil)) (sm_V ((sm2 sn su).add (sm2 st sd))) (sm_V (sm2 sd su))) fun p H3 hp e3 g3 => h p H3 (fresh_back (X2.trans f) hp) ((X2.trans f).trans e3) g3
    | sub =>
      refine q_when (b := false) (et_is (et_test (ev_op (ev_var rfl) ev_c (rv_eq rfl))) (by decide +kernel)) (fun hb => Bool.noConfusion hb) (fun _ G0 f0 => ?_)
      refine q_when (b := true) (et_is (et_test (ev_op (ev_var rfl) ev_c (rv_eq rfl))) (by decide +kernel)) (fun _ G f => ?_) (fun hb => Bool.noConfusion hb)
      exact s_retU (eu_due (n := n * u - t * d) (d := d * u) (ea_cons (ev_op (ev_mulW (ev_var rfl) (ev_var rfl) (cMulW sn su)) (ev_mulW (ev_var rfl) (ev_var rfl) (cMulW st sd)) rv_I0) (ea_cons (ev_mulW (ev_var rfl) (ev_var rfl) (cMulW sd su)) ea_nil)) (sm_V ((sm2 sn su).sub (sm2 st sd))) (sm_V (sm2 sd su))) fun p H3 hp e3 g3 => h p H3 (fresh_back ((X2.trans f0).trans f) hp) (((X2.trans f0).trans f).trans e3) g3
    | mul =>
      refine q_when (b := false) (et_is (et_test (ev_op (ev_var rfl) ev_c (rv_eq rfl))) (by decide +kernel)) (fun hb => Bool.noConfusion hb) (fun _ G0 f0 => ?_)
      refine q_when (b := false) (et_is (et_test (ev_op (ev_var rfl) ev_c (rv_eq rfl))) (by decide +kernel)) (fun hb => Bool.noConfusion hb) (fun _ G1 f1 => ?_)
      refine q_when (b := true) (et_is (et_test (ev_op (ev_var rfl) ev_c (rv_eq rfl))) (by decide +kernel)) (fun _ G f => ?_) (fun hb => Bool.noConfusion hb)
      exact s_retU (eu_due (n := n * t) (d := d * u) (ea_cons (ev_mulW (ev_var rfl) (ev_var rfl) (cMulW sn st)) (ea_cons (ev_mulW (ev_var rfl) (ev_var rfl) (cMulW sd su)) ea_nil)) (sm_V (sm2 sn st)) (sm_V (sm2 sd su))) fun p H3 hp e3 g3 => h p H3 (fresh_back (((X2.trans f0).trans f1).trans f) hp) ((((X2.trans f0).trans f1).trans f).trans e3) g3
    | div =>
      refine q_when (b := false) (et_is (et_test (ev_op (ev_var rfl) ev_c (rv_eq rfl))) (by decide +kernel)) (fun hb => Bool.noConfusion hb) (fun _ G0 f0 => ?_)
      refine q_when (b := false) (et_is (et_test (ev_op (ev_var rfl) ev_c (rv_eq rfl))) (by decide +kernel)) (fun hb => Bool.noConfusion hb) (fun _ G1 f1 => ?_)
      refine q_when (b := false) (et_is (et_test (ev_op (ev_var rfl) ev_c (rv_eq rfl))) (by decide +kernel)) (fun hb => Bool.noConfusion hb) (fun _ G2 f2 => ?_)
      exact s_retU (eu_due (n := n * u) (d := d * t) (ea_cons (ev_mulW (ev_var rfl) (ev_var rfl) (cMulW sn su)) (ea_cons (ev_mulW (ev_var rfl) (ev_var rfl) (cMulW sd st)) ea_nil)) (sm_V (sm2 sn su)) (sm_V (sm2 sd st))) fun p H3 hp e3 g3 => h p H3 (fresh_back (((X2.trans f0).trans f1).trans f2) hp) ((((X2.trans f0).trans f1).trans f2).trans e3) g3
def spPair (CR : Addr) : Sp := fun vs H Q E => ∃ (a : Addr) (p q : Int), vs = [.ref a] ∧ Rt CR H a p q ∧ RetU [.str "ratio", .int p, .int q] H Q
theorem has__law_pair (T : Tx P w K mg base CO CS CN CR) (h__law_int : HasA P w K mg base 4 "_law_int" ["told"] (spInt)) (D : DefAt K mg "_law_pair" s__law_pair ["told"]) : Has P w K mg base 5 "_law_pair" ["told"] (spPair CR) := by
  refine D.has sc__law_pair (fun vs H Q E h => ?len) (fun f cdv A outer s H vs Q E hr h => ?body)
  case len =>
    obtain ⟨_, _, _, rfl, _, _⟩ := h
    rfl
  case body =>
    have tk : Takes (cxOf (L2.CX P w) P w K mg base ["told"] "_law_pair" (defScope s__law_pair) f cdv A outer s H E) (fun cls d _ H => E cls d H) := takes_of rfl rfl rfl rfl
    obtain ⟨a, p, q, rfl, hA, h⟩ := h
    refine ⟨_, (pss_cons (ps_if (pt_not (pt_val (pe_callB call_isi (by rfl) T.z_isinstance (by decide +kernel) (pa_cons (pv 0) (pa_cons (pe_glob (v := .ref CR) rfl T.e_Ratio.g rfl) pa_nil))))) (pss_one (ps_ret (pe_tup (pa_cons pe_str pa_nil)))) pss_nil)
      (pss_cons (ps_if (PW.pt (pw_or (pt_not (pt_val (pe_hasN h__law_int.has (hr.mono (by decide)) (pa_cons (pe_fld (pv 0) rfl) pa_nil)))) (pw_or1 (pt_not (pt_val (pe_hasN h__law_int.has (hr.mono (by decide)) (pa_cons (pe_fld (pv 0) rfl) pa_nil))))))) (pss_one (ps_ret (pe_tup (pa_cons pe_str pa_nil)))) pss_nil)
      (pss_one (ps_ret (pe_tup (pa_cons pe_str (pa_cons (pe_fld (pv 0) rfl) (pa_cons (pe_fld (pv 0) rfl) pa_nil)))))))), ?_⟩
    refine q_when (b := false) (et_is (et_not (et_test (ev_isi (b := true) (ea_cons (ev_var rfl) (ea_cons ev_c ea_nil)) (.own CR) (fun H1 e1 => tyx_r T (hA.mono e1)) T.kRR))) rfl) (fun hb => Bool.noConfusion hb) fun _ H1 e1 => ?_
    refine q_when (b := false) (et_is (et_or (et_not (et_test (go_int (ea_cons (ev_num T (ev_var rfl) (hA.mono e1)) ea_nil)))) fun _ => et_not (et_test (go_int (ea_cons (ev_den T (ev_var rfl) (hA.mono e1)) ea_nil)))) rfl) (fun hb => Bool.noConfusion hb) fun _ H2 e2 => ?_
    have hA2 := hA.mono (e1.trans e2)
    exact s_retU (eu_tup (ea_cons ev_c (ea_cons (ev_num T (ev_var rfl) hA2) (ea_cons (ev_den T (ev_var rfl) hA2) ea_nil))) (by show 3 ≤ 100000; decide)) fun p H3 hp e3 g3 => h p H3 (fresh_back (e1.trans e2) hp) ((e1.trans e2).trans e3) g3
theorem eu_pair {te : TE} {σ : L2.St} {H : Hp} {E : L2.St → XK} {p q : Int} (h : EvI CR te σ H (flds p q)) : EvU (tCallS (spPair CR) E (tCons te tNil)) σ H [.str "ratio", .int p, .int q] := fun H1 e Q k =>
  h H1 e _ fun a dx H2 ha e2 g => ⟨a, p, q, rfl, ⟨dx, g⟩, fun r H3 hr e3 g3 => k r H3 (fresh_back e2 hr) (e2.trans e3) g3⟩
theorem eu_pairV {ta : TA} {σ : L2.St} {H : Hp} {E : L2.St → XK} {p q : Int} {a : Addr} (h : EvA ta σ H [.ref a]) (g : Rt CR H a p q) : EvU (tCallS (spPair CR) E ta) σ H [.str "ratio", .int p, .int q] :=
  eu_callS h fun H1 e1 Q E' k => ⟨a, p, q, rfl, g.mono e1, k⟩
/-! ### the operations -/
theorem go_own {tl tr : TE} {σ : L2.St} {H : Hp} {E : L2.St → XK} {Q : VK} {o : Sg} {a : Addr} {y : V} {p q r s : Int} (h1 : Ev tl σ H (.ref a)) (h2 : Ev tr σ H y) (hA : Rt CR H a p q) (gA : Good p q) (hO : Opd CR H y r s) (gO : Good r s) (k : ResI CR CN (op o p q r s) H Q (E σ)) :
    tOpOwn CR (spOp CR CN o) E tl tr σ H Q := h1 H (Ex.refl H) _ fun H1 e1 => h2 H1 e1 _ fun H2 e2 => by
  have X := e1.trans e2
  obtain ⟨dx, g⟩ := hA
  refine ⟨⟨a, dx, _, rfl, X a _ g⟩, ?_, a, y, p, q, r, s, rfl, ⟨dx, X a _ g⟩, gA, hO.mono X, gO, k.mono X⟩
  rcases hO with ⟨b, rfl, dy, gb⟩ | ⟨rfl, _⟩
  · exact .inl ⟨b, dy, _, rfl, X b _ gb⟩
  · exact .inr ⟨r, rfl⟩
theorem go_over {tl : TE} {ta : TA} {σ : L2.St} {H : Hp} {E : L2.St → XK} {Q : VK} {a b : Addr} {p q r s : Int} (h1 : Ev tl σ H (.ref a)) (h2 : EvA ta σ H [.ref b]) (hA : Rt CR H a p q) (gA : Good p q) (hB : Rt CR H b r s) (gB : Good r s) (k : ResI CR CN (op .div p q r s) H Q (E σ)) :
    tMetS CR "over" (spOver CR CN) E tl ta σ H Q := h1 H (Ex.refl H) _ fun H1 e1 => by
  obtain ⟨dx, g⟩ := hA
  exact ⟨a, dx, _, rfl, e1 a _ g, rfl, h2 H1 e1 _ fun H2 e2 => ⟨a, b, p, q, r, s, rfl, ⟨dx, (e1.trans e2) a _ g⟩, gA, hB.mono (e1.trans e2), gB, k.mono (e1.trans e2)⟩⟩
def spTold (CR : Addr) : Sp := fun vs H Q E => ∃ (o : Sg) (a : Addr) (y : V) (p q r s : Int), vs = [.str o.str, .ref a, y] ∧ Rt CR H a p q ∧ Good p q ∧ Opd CR H y r s ∧ Good r s ∧ (o = .div → ∃ b, y = .ref b ∧ Rt CR H b r s) ∧ RetU (encV (op o p q r s)) H Q
theorem has__law_told (T : Tx P w K mg base CO CS CN CR) (h__law_int : HasA P w K mg base 4 "_law_int" ["told"] (spInt)) (h__law_pair : Has P w K mg base 5 "_law_pair" ["told"] (spPair CR)) (h_R_add : HasO P w K mg base 7 CR .Add ["self", "other"] (spOp CR CN .add)) (h_R_mul : HasO P w K mg base 7 CR .Mult ["self", "other"] (spOp CR CN .mul)) (h_R_over : HasM P w K mg base 7 CR "over" ["self", "other"] (spOver CR CN)) (h_R_sub : HasO P w K mg base 7 CR .Sub ["self", "other"] (spOp CR CN .sub)) (D : DefAt K mg "_law_told" s__law_told ["sign", "one", "other"]) : Has P w K mg base 9 "_law_told" ["sign", "one", "other"] (spTold CR) := by
  refine D.has sc__law_told (fun vs H Q E h => ?len) (fun f cdv A outer s H vs Q E hr h => ?body)
  case len =>
    obtain ⟨_, _, _, _, _, _, _, rfl, _, _, _, _, _, _⟩ := h
    rfl
  case body =>
    have tk : Takes (cxOf (L2.CX P w) P w K mg base ["sign", "one", "other", "told", "e"] "_law_told" (defScope s__law_told) f cdv A outer s H E) (fun cls d _ H => E cls d H) := takes_of rfl rfl rfl rfl
    obtain ⟨o, a, y, p, q, r, s, rfl, hA, gA, hO, gO, hV, h⟩ := h
    refine ⟨_, (pss_cons (ps_try_ms rfl rfl sc__law_told.nd takes0 (fun W pn xe tk po => (pss_one (ps_if (pt_cmpR op_eq (pv 0) pe_str (nomark _)) (pss_one (ps_set (i := 3) sc__law_told.nd rfl (.inl rfl) (pe_opR h_R_add (hr.mono (by decide)) tk (pv 1) (pv 2)))) (pss_one (ps_if (pt_cmpR op_eq (pv 0) pe_str (nomark _)) (pss_one (ps_set (i := 3) sc__law_told.nd rfl (.inl rfl) (pe_opR h_R_sub (hr.mono (by decide)) tk (pv 1) (pv 2)))) (pss_one (ps_if (pt_cmpR op_eq (pv 0) pe_str (nomark _)) (pss_one (ps_set (i := 3) sc__law_told.nd rfl (.inl rfl) (pe_opR h_R_mul (hr.mono (by decide)) tk (pv 1) (pv 2)))) (pss_one (ps_set (i := 3) sc__law_told.nd rfl (.inl rfl) (pe_metR (pv 1) T.cl h_R_over (hr.mono (by decide)) tk (pa_cons (pv 2) pa_nil))))))))))) (HdAs.cons (i := 4) (c := .ref CN) rfl rfl ⟨rfl, by decide, .inl T.e_NumberError.g⟩ (fun a oe cls d pn hz hf => (pss_cons (ps_if (PW.pt (pw_or (pt_not (pt_val (pe_hasA h__law_int (RoomA.suite (hr.mono (by decide)) _) (pa_cons (pe_xf T.e_NumberError.xf T.e_NumberError.no hz hf (pv 4)) pa_nil)))) (pw_or1 (pt_not (pt_val (pe_callB (call_isX hz hf) (by rfl) T.z_isinstance (by decide +kernel) (pa_cons (pv 4) (pa_cons (pe_glob (v := .ref CO) rfl T.e_NodearerError.g rfl) pa_nil)))))))) (pss_one (ps_ret (pe_tup (pa_cons pe_str pa_nil)))) pss_nil)
      (pss_one (ps_ret (pe_tup (pa_cons pe_str (pa_cons (pe_xf T.e_NumberError.xf T.e_NumberError.no hz hf (pv 4)) pa_nil))))))) HdAs.nil))
      (pss_one (ps_ret (pe_hasN h__law_pair (hr.mono (by decide)) (pa_cons (pv 3) pa_nil))))), ?_⟩
    cases o with
    | add =>
      refine s_if (b := true) (et_is (et_test (ev_op (ev_var rfl) ev_c (rv_eq rfl))) (by decide +kernel)) (fun _ G f => ?_) (fun hb => Bool.noConfusion hb)
      have X := ((Ex.refl H).trans f)
      refine go_own (o := .add) (ev_var rfl) (ev_var rfl) (hA.mono X) gA (hO.mono X) gO ⟨fun z hz => ?_, fun u v huv => ?_⟩
      · rw [hz] at h
        intro d H' e' hd
        refine ⟨true, T.xNN, fun _ q na => ?_, fun hb => Bool.noConfusion hb⟩
        refine q_when (b := false) (et_is (et_or (et_not (et_test (go_int (ea_cons (ev_xf (ev_var rfl) hd rfl) ea_nil)))) fun _ => et_not (et_test (ev_isX1 (b := true) (ea_cons (ev_var rfl) (ea_cons ev_c ea_nil)) (.own CO) T.e_NumberError.is hd T.kNO))) rfl) (fun hb => Bool.noConfusion hb) fun _ H2 e2 => ?_
        exact s_retU (eu_tup (ea_cons ev_c (ea_cons (ev_xf (ev_var rfl) (e2 d _ hd) rfl) ea_nil)) (by show 2 ≤ 100000; decide)) fun p H3 hp e3 g3 => h p H3 (fresh_back ((X.trans e').trans e2) hp) (((X.trans e').trans e2).trans e3) g3
      · rw [huv] at h
        intro c dx H2 hc e2 g
        exact s_retU (eu_pairV (E := fun _ => E0) (ea_cons (ev_var rfl) ea_nil) ⟨dx, g⟩) fun p H3 hp e3 g3 => h p H3 (fresh_back (X.trans e2) hp) ((X.trans e2).trans e3) g3
    | sub =>
      refine s_if (b := false) (et_is (et_test (ev_op (ev_var rfl) ev_c (rv_eq rfl))) (by decide +kernel)) (fun hb => Bool.noConfusion hb) (fun _ G0 f0 => ?_)
      refine s_if (b := true) (et_is (et_test (ev_op (ev_var rfl) ev_c (rv_eq rfl))) (by decide +kernel)) (fun _ G f => ?_) (fun hb => Bool.noConfusion hb)
      have X := (((Ex.refl H).trans f0).trans f)
      refine go_own (o := .sub) (ev_var rfl) (ev_var rfl) (hA.mono X) gA (hO.mono X) gO ⟨fun z hz => ?_, fun u v huv => ?_⟩
      · rw [hz] at h
        intro d H' e' hd
        refine ⟨true, T.xNN, fun _ q na => ?_, fun hb => Bool.noConfusion hb⟩
        refine q_when (b := false) (et_is (et_or (et_not (et_test (go_int (ea_cons (ev_xf (ev_var rfl) hd rfl) ea_nil)))) fun _ => et_not (et_test (ev_isX1 (b := true) (ea_cons (ev_var rfl) (ea_cons ev_c ea_nil)) (.own CO) T.e_NumberError.is hd T.kNO))) rfl) (fun hb => Bool.noConfusion hb) fun _ H2 e2 => ?_
        exact s_retU (eu_tup (ea_cons ev_c (ea_cons (ev_xf (ev_var rfl) (e2 d _ hd) rfl) ea_nil)) (by show 2 ≤ 100000; decide)) fun p H3 hp e3 g3 => h p H3 (fresh_back ((X.trans e').trans e2) hp) (((X.trans e').trans e2).trans e3) g3
      · rw [huv] at h
        intro c dx H2 hc e2 g
        exact s_retU (eu_pairV (E := fun _ => E0) (ea_cons (ev_var rfl) ea_nil) ⟨dx, g⟩) fun p H3 hp e3 g3 => h p H3 (fresh_back (X.trans e2) hp) ((X.trans e2).trans e3) g3
    | mul =>
      refine s_if (b := false) (et_is (et_test (ev_op (ev_var rfl) ev_c (rv_eq rfl))) (by decide +kernel)) (fun hb => Bool.noConfusion hb) (fun _ G0 f0 => ?_)
      refine s_if (b := false) (et_is (et_test (ev_op (ev_var rfl) ev_c (rv_eq rfl))) (by decide +kernel)) (fun hb => Bool.noConfusion hb) (fun _ G1 f1 => ?_)
      refine s_if (b := true) (et_is (et_test (ev_op (ev_var rfl) ev_c (rv_eq rfl))) (by decide +kernel)) (fun _ G f => ?_) (fun hb => Bool.noConfusion hb)
      have X := ((((Ex.refl H).trans f0).trans f1).trans f)
      refine go_own (o := .mul) (ev_var rfl) (ev_var rfl) (hA.mono X) gA (hO.mono X) gO ⟨fun z hz => ?_, fun u v huv => ?_⟩
      · rw [hz] at h
        intro d H' e' hd
        refine ⟨true, T.xNN, fun _ q na => ?_, fun hb => Bool.noConfusion hb⟩
        refine q_when (b := false) (et_is (et_or (et_not (et_test (go_int (ea_cons (ev_xf (ev_var rfl) hd rfl) ea_nil)))) fun _ => et_not (et_test (ev_isX1 (b := true) (ea_cons (ev_var rfl) (ea_cons ev_c ea_nil)) (.own CO) T.e_NumberError.is hd T.kNO))) rfl) (fun hb => Bool.noConfusion hb) fun _ H2 e2 => ?_
        exact s_retU (eu_tup (ea_cons ev_c (ea_cons (ev_xf (ev_var rfl) (e2 d _ hd) rfl) ea_nil)) (by show 2 ≤ 100000; decide)) fun p H3 hp e3 g3 => h p H3 (fresh_back ((X.trans e').trans e2) hp) (((X.trans e').trans e2).trans e3) g3
      · rw [huv] at h
        intro c dx H2 hc e2 g
        exact s_retU (eu_pairV (E := fun _ => E0) (ea_cons (ev_var rfl) ea_nil) ⟨dx, g⟩) fun p H3 hp e3 g3 => h p H3 (fresh_back (X.trans e2) hp) ((X.trans e2).trans e3) g3
    | div =>
      refine s_if (b := false) (et_is (et_test (ev_op (ev_var rfl) ev_c (rv_eq rfl))) (by decide +kernel)) (fun hb => Bool.noConfusion hb) (fun _ G0 f0 => ?_)
      refine s_if (b := false) (et_is (et_test (ev_op (ev_var rfl) ev_c (rv_eq rfl))) (by decide +kernel)) (fun hb => Bool.noConfusion hb) (fun _ G1 f1 => ?_)
      refine s_if (b := false) (et_is (et_test (ev_op (ev_var rfl) ev_c (rv_eq rfl))) (by decide +kernel)) (fun hb => Bool.noConfusion hb) (fun _ G2 f2 => ?_)
      have X := ((((Ex.refl H).trans f0).trans f1).trans f2)
      obtain ⟨b, rfl, hB⟩ := hV rfl
      refine go_over (ev_var rfl) (ea_cons (ev_var rfl) ea_nil) (hA.mono X) gA (hB.mono X) gO ⟨fun z hz => ?_, fun u v huv => ?_⟩
      · rw [hz] at h
        intro d H' e' hd
        refine ⟨true, T.xNN, fun _ q na => ?_, fun hb => Bool.noConfusion hb⟩
        refine q_when (b := false) (et_is (et_or (et_not (et_test (go_int (ea_cons (ev_xf (ev_var rfl) hd rfl) ea_nil)))) fun _ => et_not (et_test (ev_isX1 (b := true) (ea_cons (ev_var rfl) (ea_cons ev_c ea_nil)) (.own CO) T.e_NumberError.is hd T.kNO))) rfl) (fun hb => Bool.noConfusion hb) fun _ H2 e2 => ?_
        exact s_retU (eu_tup (ea_cons ev_c (ea_cons (ev_xf (ev_var rfl) (e2 d _ hd) rfl) ea_nil)) (by show 2 ≤ 100000; decide)) fun p H3 hp e3 g3 => h p H3 (fresh_back ((X.trans e').trans e2) hp) (((X.trans e').trans e2).trans e3) g3
      · rw [huv] at h
        intro c dx H2 hc e2 g
        exact s_retU (eu_pairV (E := fun _ => E0) (ea_cons (ev_var rfl) ea_nil) ⟨dx, g⟩) fun p H3 hp e3 g3 => h p H3 (fresh_back (X.trans e2) hp) ((X.trans e2).trans e3) g3
/-! ### comparing what is due -/
def dEnc : Except Int (Int × Int) → PyData
  | .error z => .tuple [.str "number", .int z]
  | .ok x => .tuple [.str "ratio", .int x.1, .int x.2]
def dsEnc : Except Int (Int × Int) → List PyData
  | .error z => [.str "number", .int z]
  | .ok x => [.str "ratio", .int x.1, .int x.2]
theorem dEnc_is (r : Except Int (Int × Int)) : dEnc r = .tuple (dsEnc r) := by cases r <;> rfl
theorem shapedE (r : Except Int (Int × Int)) : SeqAt.shaped (.tuple (dsEnc r)) = true := by
  cases r <;> (simp [dsEnc, SeqAt.shaped, PyData.canLay0, PyData.canLayAll0, PyData.depth, PyData.depthAll]; try decide +kernel)
theorem eqvE (r : Except Int (Int × Int)) : PyData.eqv (.tuple (dsEnc r)) (.tuple (dsEnc r)) = true := by
  cases r <;> simp [dsEnc, PyData.eqv, PyData.eqvAll]
theorem dpE {H : Hp} (r : Except Int (Int × Int)) : DpAll K H (encV r) (dsEnc r) := by
  cases r with
  | error z => exact .cons (.str _) (.cons (.int _) .nil)
  | ok x => exact .cons (.str _) (.cons (.int _) (.cons (.int _) .nil))
theorem dpT {H : Hp} {a : Addr} {r : Except Int (Int × Int)} (h : SqT K H a (encV r)) : Dp K H (.ref a) (.tuple (dsEnc r)) := .tup h (dpE r)
theorem rv_ne_enc {H : Hp} {a b : Addr} {r : Except Int (Int × Int)} (h1 : SqT K H a (encV r)) (h2 : SqT K H b (encV r)) : RV (rNeD K) (.ref a) (.ref b) H (.bl false) := rv_neD (dpT h1) (dpT h2) (shapedE r) (shapedE r) (eqvE r)
theorem rv_eq_enc {H : Hp} {a b : Addr} {r : Except Int (Int × Int)} (h1 : SqT K H a (encV r)) (h2 : SqT K H b (encV r)) : RV (rEqD K) (.ref a) (.ref b) H (.bl true) := rv_eqD (dpT h1) (dpT h2) (shapedE r) (shapedE r) (eqvE r)
theorem et_neUU {ta tb : TE} {σ : L2.St} {H : Hp} {r : Except Int (Int × Int)} (h1 : EvU ta σ H (encV r)) (h2 : EvU tb σ H (encV r)) : EvT (tTest (tOp (rNeD K) ta tb)) σ H false := et_test (ev_opUU h1 h2 fun p q H1 g1 g2 e => rv_ne_enc (st_of g1) (st_of g2))
theorem et_neUV {ta tb : TE} {σ : L2.St} {H : Hp} {r : Except Int (Int × Int)} {b : Addr} (h1 : EvU ta σ H (encV r)) (h2 : Ev tb σ H (.ref b)) (g : SqT K H b (encV r)) : EvT (tTest (tOp (rNeD K) ta tb)) σ H false := et_test (ev_opUV h1 h2 fun p H1 g1 e => rv_ne_enc (st_of g1) (ex_t e g))
theorem ev_eqUU {ta tb : TE} {σ : L2.St} {H : Hp} {r : Except Int (Int × Int)} (h1 : EvU ta σ H (encV r)) (h2 : EvU tb σ H (encV r)) : Ev (tOp (rEqD K) ta tb) σ H (.bl true) := ev_opUU h1 h2 fun p q H1 g1 g2 e => rv_eq_enc (st_of g1) (st_of g2)
theorem ev_eqUV {ta tb : TE} {σ : L2.St} {H : Hp} {r : Except Int (Int × Int)} {b : Addr} (h1 : EvU ta σ H (encV r)) (h2 : Ev tb σ H (.ref b)) (g : SqT K H b (encV r)) : Ev (tOp (rEqD K) ta tb) σ H (.bl true) := ev_opUV h1 h2 fun p H1 g1 e => rv_eq_enc (st_of g1) (ex_t e g)
/-- a told pair, its place, and its ratio -/
structure Bd (n d : Int) : Prop where
  lo : -B ≤ n
  hi : n ≤ B
  dB : d ≤ B
  d0 : 0 < d
theorem Bd.sn {n d : Int} (b : Bd n d) : Sm 6644 n := Sm.le Sm.B b.lo b.hi
theorem Bd.sd {n d : Int} (b : Bd n d) : Sm 6644 d := Sm.le Sm.B (by have := b.d0; have := B_pos; omega) b.dB
theorem eu_told {ta : TA} {σ : L2.St} {H : Hp} {E : L2.St → XK} {o : Sg} {a : Addr} {y : V} {p q r s : Int} (h : EvA ta σ H [.str o.str, .ref a, y]) (hA : Rt CR H a p q) (gA : Good p q) (hO : Opd CR H y r s) (gO : Good r s) (hV : o = .div → ∃ b, y = .ref b ∧ Rt CR H b r s) :
    EvU (tCallS (spTold CR) E ta) σ H (encV (op o p q r s)) := eu_callS h fun H1 e1 Q E' k => ⟨o, a, y, p, q, r, s, rfl, hA.mono e1, gA, hO.mono e1, gO, fun z => let ⟨b, h1, h2⟩ := hV z; ⟨b, h1, h2.mono e1⟩, k⟩
theorem eu_result {ta : TA} {σ : L2.St} {H : Hp} {E : L2.St → XK} {o : Sg} {f g : Addr} {n d t u : Int} (h : EvA ta σ H [.str o.str, .ref f, .ref g]) (hf : SqT K H f [.int n, .int d]) (hg : SqT K H g [.int t, .int u]) (b1 : Bd n d) (b2 : Bd t u) :
    EvU (tCallS (spResult K) E ta) σ H (encV (res o n d t u)) := eu_callS h fun H1 e1 Q E' k => ⟨o, f, g, n, d, t, u, rfl, ex_t e1 hf, ex_t e1 hg, b1.sn, b1.sd, b2.sn, b2.sd, k⟩
def spOps (K : PySem.W.Frag) (CR : Addr) : Sp := fun vs H Q E => ∃ (l a f g : Addr) (y : V) (os : List Sg) (n d p q t u r s : Int), vs = [.ref l, .ref a, .ref f, y, .ref g] ∧ SqL K H l (os.map fun o => V.str o.str) ∧ Rt CR H a p q ∧ SqT K H f [.int n, .int d] ∧ Opd CR H y r s ∧ SqT K H g [.int t, .int u] ∧
  Rep n d p q ∧ Rep t u r s ∧ Bd n d ∧ Bd t u ∧ (∀ o ∈ os, o = .div → ∃ b, y = .ref b ∧ Rt CR H b r s) ∧ RetV (.bl true) H Q
theorem has__law_operations (T : Tx P w K mg base CO CS CN CR) (h__law_result : Has P w K mg base 6 "_law_result" ["sign", "first", "second"] (spResult K)) (h__law_told : Has P w K mg base 9 "_law_told" ["sign", "one", "other"] (spTold CR)) (D : DefAt K mg "_law_operations" s__law_operations ["signs", "one", "first", "other", "second"]) : Has P w K mg base 10 "_law_operations" ["signs", "one", "first", "other", "second"] (spOps K CR) := by
  refine D.has sc__law_operations (fun vs H Q E h => ?len) (fun f cdv A outer s H vs Q E hr h => ?body)
  case len =>
    obtain ⟨_, _, _, _, _, _, _, _, _, _, _, _, _, _, rfl, _, _, _, _, _, _, _, _, _, _, _⟩ := h
    rfl
  case body =>
    have tk : Takes (cxOf (L2.CX P w) P w K mg base ["signs", "one", "first", "other", "second", "sign"] "_law_operations" (defScope s__law_operations) f cdv A outer s H E) (fun cls d _ H => E cls d H) := takes_of rfl rfl rfl rfl
    obtain ⟨l, a, f, g, y, os, n, d, p, q, t, u, r, s, rfl, hL, hA, hf, hO, hg, r1, r2, b1, b2, hV, h⟩ := h
    refine ⟨_, (pss_cons (ps_for (passes_of rfl) rfl (pi_list (pv 0)) (pg_name (i := 5) sc__law_operations.nd rfl (.inl rfl)) (pss_one (ps_if (pt_cmpR (op_neD hr.units) (pe_hasR h__law_told (hr.mono (by decide)) tk (pa_cons (pv 5) (pa_cons (pv 1) (pa_cons (pv 3) pa_nil)))) (pe_hasN h__law_result (hr.mono (by decide)) (pa_cons (pv 5) (pa_cons (pv 2) (pa_cons (pv 4) pa_nil)))) (nomark _)) (pss_one (ps_ret pe_bl)) pss_nil)))
      (pss_one (ps_ret pe_bl))), ?_⟩
    refine q_forL (a := l) (ev_var rfl) hL (fun i σ' H' => (∃ v, σ' = [some (.ref l), some (.ref a), some (.ref f), some y, some (.ref g), v]) ∧ Ex H H') (fun H1 e1 => ⟨⟨none, rfl⟩, e1⟩) (fun i σ' H' _ z => ex_l z.2 hL) ?turn ?fin
    case turn =>
      rintro i v σ' H1 hv ⟨⟨w, rfl⟩, x1⟩
      rw [List.getElem?_map] at hv
      cases eo : os[i]? with
      | none => rw [eo] at hv; cases hv
      | some o =>
        rw [eo] at hv
        obtain rfl := Option.some.inj hv
        have mo : o ∈ os := List.mem_of_getElem? eo
        have tl := eu_told (E := (WE fun cls d _ H => E cls d H)) (o := o) (H := H1) (σ := [some (.ref l), some (.ref a), some (.ref f), some y, some (.ref g), some (.str o.str)]) (ea_cons (ev_var (i := 5) rfl) (ea_cons (ev_var (i := 1) rfl) (ea_cons (ev_var (i := 3) rfl) ea_nil))) (hA.mono x1) r1.g (hO.mono x1) r2.g (fun z => let ⟨b, h1, h2⟩ := hV o mo z; ⟨b, h1, h2.mono x1⟩)
        rw [op_res r1 r2 o] at tl
        refine s_when (b := false) (et_neUU tl (eu_result (o := o) (ea_cons (ev_var rfl) (ea_cons (ev_var rfl) (ea_cons (ev_var rfl) ea_nil))) (ex_t x1 hf) (ex_t x1 hg) b1 b2)) (fun hb => Bool.noConfusion hb) fun _ H2 e2 => ⟨⟨_, rfl⟩, x1.trans e2⟩
    case fin =>
      rintro σ' H1 ⟨⟨v, rfl⟩, x1⟩
      exact s_ret ev_c fun H2 e2 => h H2 (x1.trans e2)
end
end K1
set_option exponentiation.threshold 20000
namespace K1
open PySem PySem.Spec PyProof.Rows L2 Evl Nd
local macro_rules | `(tactic| walk_at "ev") => `(tactic| first
  | exact ev_var rfl
  | exact ev_c
  | (apply ev_op; (walk_at "ev"); (walk_at "ev"); (walk_at "rv"))
  | (apply ev_un; (walk_at "ev"); (walk_at "rv"))
  | (apply ev_lenS; (walk_at "ev"); (walk_at "sq"))
  | (apply ev_andV; (walk_at "ev"); (intro _; walk_at "ev"))
  | (apply ev_orV; (walk_at "ev"); (intro _; walk_at "ev"))
  | (apply ev_notV; (walk_at "ev")))
local macro_rules | `(tactic| walk_at "rv") => `(tactic| first
  | exact rv_I0
  | exact ru_neg
  | exact rv_eq rfl
  | exact rv_ne rfl
  | exact rv_I (by decide)
  | exact rv_I (by first | omega | exact .inl (by omega) | exact .inr (by omega) | (constructor <;> omega)))
local macro_rules | `(tactic| walk_at "sq") => `(tactic| first
  | assumption
  | exact SqS.lst (by assumption)
  | exact SqS.tup (by assumption)
  | exact Or.inl (by assumption)
  | exact Or.inr (by assumption)
  | (refine SqS.mono (by assumption) ?_; walk_at "sq"))
local macro_rules | `(tactic| walk_at "et") => `(tactic| first
  | (apply et_or; (walk_at "et"); (intro _; walk_at "et"))
  | (apply et_and; (walk_at "et"); (intro _; walk_at "et"))
  | (apply et_not; (walk_at "et"))
  | (apply et_test; (walk_at "ev"))
  | (apply et_B; (walk_at "ev")))
local macro_rules | `(tactic| walk_at "ea") => `(tactic| first
  | exact ea_nil
  | (apply ea_cons; (walk_at "ev"); (walk_at "ea")))
section
variable {P : Program} {w : World} {K : PySem.W.Frag} {mg : Str → Option Value} {base : Heap} {CO CS CN CR : Addr}
section
variable {σ : L2.St} {H : Hp} {ta : TA} {te tl tr : TE} {E : L2.St → XK} {a : Addr} {p q r s : Int} {y : V}
theorem ev_met {m : Str} {sp : Sp} {vs : List V} {z : V} (ho : Ev te σ H (.ref a)) (g : Rt CR H a p q) (ha : EvA ta σ H vs) (hs : ∀ H1, Ex H H1 → ∀ (Q : VK) (E' : XK), RetV z H1 Q → sp (.ref a :: vs) H1 Q E') (hl : (flds p q).lookup m = none := by rfl) : Ev (tMetS CR m sp E te ta) σ H z := fun H1 e Q k =>
  ho H1 e _ fun H2 e2 => by
    obtain ⟨dx, g⟩ := g
    exact ⟨a, dx, _, rfl, (e.trans e2) a _ g, hl, ha H2 (e.trans e2) _ fun H3 e3 => hs H3 ((e.trans e2).trans e3) Q _ fun H4 e4 => k H4 ((e2.trans e3).trans e4)⟩
theorem ev_cmp (T : Tx P w K mg base CO CS CN CR) {b : Addr} (ho : Ev te σ H (.ref a)) (ha : EvA ta σ H [.ref b]) (gA : Rt CR H a p q) (hA : Good p q) (gB : Rt CR H b r s) (hB : Good r s) : Ev (tMetS CR "compare" (spCmp CR) E te ta) σ H (.int (cmpI (p * s) (r * q))) :=
  ev_met ho gA ha fun H1 e1 Q E' k => ⟨a, b, p, q, r, s, rfl, gA.mono e1, hA, gB.mono e1, hB, k⟩
theorem ev_rnd {m : Str} {f : Int → Int → Int} (ho : Ev te σ H (.ref a)) (gA : Rt CR H a p q) (hA : Good p q) (hl : (flds p q).lookup m = none := by rfl) : Ev (tMetS CR m (spRnd CR f) E te tNil) σ H (.int (f p q)) :=
  ev_met ho gA ea_nil (fun H1 e1 Q E' k => ⟨a, p, q, rfl, gA.mono e1, hA, k⟩) hl
theorem ev_eqR {b : Bool} (h1 : Ev tl σ H (.ref a)) (h2 : Ev tr σ H y) (hA : Rt CR H a p q) (hy : (∃ c r s, y = .ref c ∧ Rt CR H c r s ∧ b = (decide (p = r) && decide (q = s))) ∨ (∃ z, y = .int z ∧ b = false)) : Ev (tOp (rEqOwn CR (spEq CR)) tl tr) σ H (.bl b) := ev_op h1 h2 fun H1 e1 Q k => by
  obtain ⟨dx, g⟩ := hA
  rcases hy with ⟨c, r, s, rfl, ⟨dy, gc⟩, rfl⟩ | ⟨z, rfl, rfl⟩
  · exact ⟨⟨a, dx, _, rfl, e1 a _ g⟩, .inl ⟨c, dy, _, rfl, e1 c _ gc⟩, a, .ref c, p, q, _, rfl, ⟨dx, e1 a _ g⟩, .inl ⟨c, r, s, rfl, ⟨dy, e1 c _ gc⟩, rfl⟩, fun H2 e2 => k H2 e2⟩
  · exact ⟨⟨a, dx, _, rfl, e1 a _ g⟩, .inr ⟨z, rfl⟩, a, .int z, p, q, _, rfl, ⟨dx, e1 a _ g⟩, .inr ⟨z, rfl, rfl⟩, fun H2 e2 => k H2 e2⟩
theorem ev_eqI (h1 : Ev tl σ H (.ref a)) (h2 : EvI CR tr σ H (flds r s)) (hA : Rt CR H a p q) : Ev (tOp (rEqOwn CR (spEq CR)) tl tr) σ H (.bl (decide (p = r) && decide (q = s))) := fun H1 e1 Q k => h1 H1 e1 _ fun H2 e2 => h2 H2 (e1.trans e2) _ fun c dy H3 hc e3 g3 => by
  obtain ⟨dx, g⟩ := hA
  have ga := ((e1.trans e2).trans e3) a _ g
  exact ⟨⟨a, dx, _, rfl, ga⟩, .inl ⟨c, dy, _, rfl, g3⟩, a, .ref c, p, q, _, rfl, ⟨dx, ga⟩, .inl ⟨c, r, s, rfl, ⟨dy, g3⟩, rfl⟩, fun H4 e4 => k H4 ((e2.trans e3).trans e4)⟩
theorem ei_un {f : Int → Int} (h : Ev te σ H (.ref a)) (hA : Rt CR H a p q) (gA : Good p q) : EvI CR (tUnOwn CR (spUn CR CN f) E te) σ H (flds (f p) q) := fun H1 e1 Q k => h H1 e1 _ fun H2 e2 => by
  obtain ⟨dx, g⟩ := hA
  have ga := (e1.trans e2) a _ g
  exact ⟨⟨a, dx, _, rfl, ga⟩, a, p, q, rfl, ⟨dx, ga⟩, gA, k.mono e2⟩
theorem ei_abs (h : Ev te σ H (.ref a)) (hA : Rt CR H a p q) (gA : Good p q) : EvI CR (tCB (rOwn1 CR (spUn CR CN abI)) (tCons te tNil)) σ H (flds (abI p) q) := fun H1 e1 Q k => h H1 e1 _ fun H2 e2 => by
  obtain ⟨dx, g⟩ := hA
  have ga := (e1.trans e2) a _ g
  exact ⟨a, dx, _, rfl, ga, a, p, q, rfl, ⟨dx, ga⟩, gA, k.mono e2⟩
theorem ev_boolR (h : Ev te σ H (.ref a)) (hA : Rt CR H a p q) : Ev (tCB (rBoolOwn CR (spBool CR)) (tCons te tNil)) σ H (.bl (!decide (p = 0))) := fun H1 e1 Q k => h H1 e1 _ fun H2 e2 => by
  obtain ⟨dx, g⟩ := hA
  have ga := (e1.trans e2) a _ g
  exact ⟨a, dx, _, rfl, ga, a, p, q, rfl, ⟨dx, ga⟩, fun H3 e3 => ⟨_, rfl, k H3 (e2.trans e3)⟩⟩
theorem ei_own {o : Sg} {x z : Int} (h1 : Ev tl σ H (.ref a)) (h2 : Ev tr σ H y) (hA : Rt CR H a p q) (gA : Good p q) (hO : Opd CR H y r s) (gO : Good r s) (e : op o p q r s = .ok (x, z)) : EvI CR (tOpOwn CR (spOp CR CN o) E tl tr) σ H (flds x z) := fun H1 e1 Q k =>
  go_own (h1.mono e1) (h2.mono e1) (hA.mono e1) gA (hO.mono e1) gO (res_ok e k)
theorem ei_ownI {o : Sg} {x z u v : Int} (h1 : EvI CR tl σ H (flds u v)) (h2 : Ev tr σ H y) (gA : Good u v) (hO : Opd CR H y r s) (gO : Good r s) (e : op o u v r s = .ok (x, z)) : EvI CR (tOpOwn CR (spOp CR CN o) E tl tr) σ H (flds x z) := fun H1 e1 Q k =>
  h1 H1 e1 _ fun c dx H2 hc e2 g2 => h2 H2 (e1.trans e2) _ fun H3 e3 => by
    have X := (e1.trans e2).trans e3
    refine ⟨⟨c, dx, _, rfl, e3 c _ g2⟩, ?_, c, y, u, v, r, s, rfl, ⟨dx, e3 c _ g2⟩, gA, hO.mono X, gO, res_ok e (k.mono (e2.trans e3))⟩
    rcases hO with ⟨b, rfl, dy, gb⟩ | ⟨rfl, _⟩
    · exact .inl ⟨b, dy, _, rfl, X b _ gb⟩
    · exact .inr ⟨r, rfl⟩
theorem ei_over {b : Addr} {x z : Int} (h1 : Ev tl σ H (.ref a)) (h2 : EvA ta σ H [.ref b]) (hA : Rt CR H a p q) (gA : Good p q) (hB : Rt CR H b r s) (gB : Good r s) (e : op .div p q r s = .ok (x, z)) : EvI CR (tMetS CR "over" (spOver CR CN) E tl ta) σ H (flds x z) := fun H1 e1 Q k =>
  go_over (h1.mono e1) (h2.mono e1) (hA.mono e1) gA (hB.mono e1) gB (res_ok e k)
/-- x[i] of a new tuple -/
theorem ev_ixU {xs : List V} {i : Int} {v : V} (h : EvU tl σ H xs) (hat : atI xs i = some v) : Ev (tOp (rIxT K) tl (tC (.int i))) σ H v := ev_opUV h ev_c fun p H1 g e => rv_ixT (st_of g) hat
theorem rv_leT {i j : Int} (h : i ≤ j) : RV (rI0 fun i j => V.bl (decide (i ≤ j))) (.int i) (.int j) H (.bl true) := by
  have := rv_I0 (H := H) (g := fun i j => V.bl (decide (i ≤ j))) (i := i) (j := j)
  rw [show decide (i ≤ j) = true from decide_eq_true h] at this
  exact this
theorem rv_ltT {i j : Int} (h : i < j) : RV (rI0 fun i j => V.bl (decide (i < j))) (.int i) (.int j) H (.bl true) := by
  have := rv_I0 (H := H) (g := fun i j => V.bl (decide (i < j))) (i := i) (j := j)
  rw [show decide (i < j) = true from decide_eq_true h] at this
  exact this
end
/-! ### the order -/
def spOrder (K : PySem.W.Frag) (CR : Addr) : Sp := fun vs H Q E => ∃ (a f b g : Addr) (n d p q t u r s : Int), vs = [.ref a, .ref f, .ref b, .ref g] ∧ Rt CR H a p q ∧ SqT K H f [.int n, .int d] ∧ Rt CR H b r s ∧ SqT K H g [.int t, .int u] ∧ Rep n d p q ∧ Rep t u r s ∧ Bd n d ∧ Bd t u ∧ RetV (.bl true) H Q
theorem cmp_is {n d p q t u r s : Int} (r1 : Rep n d p q) (r2 : Rep t u r s) : cmpI (p * s) (r * q) = (if decide (n * u > t * d) = true then 1 else 0) - (if decide (n * u < t * d) = true then 1 else 0) := by
  have o1 := (order r1 r2).1
  have o2 := (order r2 r1).1
  unfold cmpI
  by_cases h1 : p * s < r * q
  · have := o1.mp h1
    rw [if_pos h1, if_neg (by simp; omega), if_pos (by simp; omega)]
    rfl
  · have n1 : ¬ n * u < t * d := fun z => h1 (o1.mpr z)
    by_cases h2 : r * q < p * s
    · have := o2.mp h2
      rw [if_neg h1, if_pos h2, if_pos (by simp; omega), if_neg (by simp; omega)]
      rfl
    · have n2 : ¬ t * d < n * u := fun z => h2 (o2.mpr z)
      rw [if_neg h1, if_neg h2, if_neg (by simp; omega), if_neg (by simp; omega)]
      rfl
theorem has__law_order (T : Tx P w K mg base CO CS CN CR) (h__law_int : HasA P w K mg base 4 "_law_int" ["told"] (spInt)) (h_R_compare : HasM P w K mg base 4 CR "compare" ["self", "other"] (spCmp CR)) (h_R_eq : HasF P w K mg base 4 CR "__eq__" ["self", "other"] (spEq CR)) (D : DefAt K mg "_law_order" s__law_order ["one", "first", "other", "second"]) : Has P w K mg base 9 "_law_order" ["one", "first", "other", "second"] (spOrder K CR) := by
  refine D.has sc__law_order (fun vs H Q E h => ?len) (fun f cdv A outer s H vs Q E hr h => ?body)
  case len =>
    obtain ⟨_, _, _, _, _, _, _, _, _, _, _, _, rfl, _, _, _, _, _, _, _, _, _⟩ := h
    rfl
  case body =>
    have tk : Takes (cxOf (L2.CX P w) P w K mg base ["one", "first", "other", "second", "left", "right", "told", "equal"] "_law_order" (defScope s__law_order) f cdv A outer s H E) (fun cls d _ H => E cls d H) := takes_of rfl rfl rfl rfl
    obtain ⟨a, f, b, g, n, d, p, q, t, u, r, s, rfl, hA, hf, hB, hg, r1, r2, b1, b2, h⟩ := h
    refine ⟨_, (pss_cons (ps_set (i := 4) sc__law_order.nd rfl (.inl rfl) (pe_op op_mulW (pe_ix ix_tup (pv 1) pe_int (fun _ _ => rfl)) (pe_ix ix_tup (pv 3) pe_int (fun _ _ => rfl))))
      (pss_cons (ps_set (i := 5) sc__law_order.nd rfl (.inl rfl) (pe_op op_mulW (pe_ix ix_tup (pv 3) pe_int (fun _ _ => rfl)) (pe_ix ix_tup (pv 1) pe_int (fun _ _ => rfl))))
      (pss_cons (ps_set (i := 6) sc__law_order.nd rfl (.inl rfl) (pe_metR (pv 0) T.cl h_R_compare (hr.mono (by decide)) tk (pa_cons (pv 2) pa_nil)))
      (pss_cons (ps_if (PW.pt (pw_or (pt_not (pt_val (pe_hasN h__law_int.has (hr.mono (by decide)) (pa_cons (pv 6) pa_nil)))) (pw_or1 (pt_cmpR op_ne (pv 6) (pe_op op_sub (pe_callTy call_int1 (by rfl) T.z_int (by decide +kernel) (pa_cons (pe_cmpR op_gt (pv 4) (pv 5) (nomark _)) pa_nil)) (pe_callTy call_int1 (by rfl) T.z_int (by decide +kernel) (pa_cons (pe_cmpR op_lt (pv 4) (pv 5) (nomark _)) pa_nil))) (nomark _))))) (pss_one (ps_ret pe_bl)) pss_nil)
      (pss_cons (ps_set (i := 7) sc__law_order.nd rfl (.inl rfl) (pe_cmpR (op_eqR h_R_eq T.nfI (hr.mono (by decide))) (pv 0) (pv 2) (nomark _)))
      (pss_one (ps_ret (pe_and (pe_callB call_isi (by rfl) T.z_isinstance (by decide +kernel) (pa_cons (pv 7) (pa_cons (pe_bltn (v := .ty "bool") rfl T.z_bool (by decide +kernel) rfl) pa_nil))) (pe_one (pe_cmpR op_eq (pv 7) (pe_cmpR op_eq (pv 4) (pv 5) (nomark _)) (nomark _))))))))))), ?_⟩
    refine q_asg (v := .int (n * u)) (ev_mulW (ev_op (ev_var rfl) ev_c (rv_ixT hf (atI_nat (j := 0) rfl))) (ev_op (ev_var rfl) ev_c (rv_ixT hg (atI_nat (j := 1) rfl))) (cMulW b1.sn b2.sd)) fun H1 e1 => ?_
    refine q_asg (v := .int (t * d)) (ev_mulW (ev_op (ev_var rfl) ev_c (rv_ixT (ex_t e1 hg) (atI_nat (j := 0) rfl))) (ev_op (ev_var rfl) ev_c (rv_ixT (ex_t e1 hf) (atI_nat (j := 1) rfl))) (cMulW b2.sn b1.sd)) fun H2 e2 => ?_
    have X2 := e1.trans e2
    refine q_asg (ev_cmp T (ev_var rfl) (ea_cons (ev_var rfl) ea_nil) (hA.mono X2) r1.g (hB.mono X2) r2.g) fun H3 e3 => ?_
    refine q_when (b := false) (et_is (et_or (et_not (et_test (go_int (ea_cons (ev_var rfl) ea_nil)))) fun _ => et_test (ev_op (ev_var rfl) (ev_op (ev_intB (ev_op (ev_var rfl) (ev_var rfl) rv_I0)) (ev_intB (ev_op (ev_var rfl) (ev_var rfl) rv_I0)) rv_I0) (rv_ne rfl))) (by rw [cmp_is r1 r2]; simp)) (fun hb => Bool.noConfusion hb) fun _ H4 e4 => ?_
    have X4 := (X2.trans e3).trans e4
    refine q_asg (ev_eqR (b := decide (p = r) && decide (q = s)) (ev_var rfl) (ev_var rfl) (hA.mono X4) (.inl ⟨b, r, s, rfl, hB.mono X4, rfl⟩)) fun H5 e5 => ?_
    have eqv : decide (V.bl (decide (p = r) && decide (q = s)) = V.bl (decide (V.int (n * u) = V.int (t * d)))) = true := by
      have e := equal r1 r2
      rw [dint]
      by_cases z : n * u = t * d
      · obtain ⟨e1, e2⟩ := e.mpr z
        rw [decide_eq_true e1, decide_eq_true e2, decide_eq_true z]; rfl
      · rw [decide_eq_false z]
        have : (decide (p = r) && decide (q = s)) = false := by
          cases hb : (decide (p = r) && decide (q = s)) with
          | false => rfl
          | true =>
            obtain ⟨h1, h2⟩ := Bool.and_eq_true_iff.mp hb
            exact (z (e.mp ⟨of_decide_eq_true h1, of_decide_eq_true h2⟩)).elim
        rw [this]; rfl
    refine s_ret (v := .bl true) (ev_is (ev_andV (a := true) (b := true) (ev_isi (ea_cons (ev_var rfl) (ea_cons ev_c ea_nil)) (.ty "bool") (fun H1 e1 => .base (.bl _)) (kit_ty (by decide +kernel))) fun _ => ?_) rfl) fun H6 e6 => h H6 ((X4.trans e5).trans e6)
    rw [← eqv]
    exact ev_op (ev_var rfl) (ev_op (ev_var rfl) (ev_var rfl) (rv_eq rfl)) (rv_eq rfl)
def spRounded (K : PySem.W.Frag) (CR : Addr) : Sp := fun vs H Q E => ∃ (a f : Addr) (n d p q : Int), vs = [.ref a, .ref f] ∧ Rt CR H a p q ∧ SqT K H f [.int n, .int d] ∧ Rep n d p q ∧ Bd n d ∧ RetV (.bl true) H Q
theorem has__law_rounded (T : Tx P w K mg base CO CS CN CR) (h__law_int : HasA P w K mg base 4 "_law_int" ["told"] (spInt)) (h_R_ceil : HasM P w K mg base 4 CR "ceil" ["self"] (spRnd CR (fun p q => -(-p / q)))) (h_R_floor : HasM P w K mg base 4 CR "floor" ["self"] (spRnd CR (fun p q => p / q))) (D : DefAt K mg "_law_rounded" s__law_rounded ["one", "first"]) : Has P w K mg base 9 "_law_rounded" ["one", "first"] (spRounded K CR) := by
  refine D.has sc__law_rounded (fun vs H Q E h => ?len) (fun f cdv A outer s H vs Q E hr h => ?body)
  case len =>
    obtain ⟨_, _, _, _, _, _, rfl, _, _, _, _, _⟩ := h
    rfl
  case body =>
    have tk : Takes (cxOf (L2.CX P w) P w K mg base ["one", "first", "low", "high"] "_law_rounded" (defScope s__law_rounded) f cdv A outer s H E) (fun cls d _ H => E cls d H) := takes_of rfl rfl rfl rfl
    obtain ⟨a, f, n, d, p, q, rfl, hA, hf, r1, b1, h⟩ := h
    refine ⟨_, (pss_cons (ps_set (i := 2) sc__law_rounded.nd rfl (.inl rfl) (pe_metR0 (pv 0) T.cl h_R_floor (hr.mono (by decide)) tk))
      (pss_cons (ps_set (i := 3) sc__law_rounded.nd rfl (.inl rfl) (pe_metR0 (pv 0) T.cl h_R_ceil (hr.mono (by decide)) tk))
      (pss_cons (ps_if (PW.pt (pw_or (pt_not (pt_val (pe_hasN h__law_int.has (hr.mono (by decide)) (pa_cons (pv 2) pa_nil)))) (pw_or1 (pt_not (pt_val (pe_hasN h__law_int.has (hr.mono (by decide)) (pa_cons (pv 3) pa_nil))))))) (pss_one (ps_ret pe_bl)) pss_nil)
      (pss_cons (ps_if (pt_not (pt_chain op_le op_lt (pe_op op_mulW (pv 2) (pe_ix ix_tup (pv 1) pe_int (fun _ _ => rfl))) (pe_ix ix_tup (pv 1) pe_int (fun _ _ => rfl)) (pe_op op_mulW (pe_op op_add (pv 2) pe_int) (pe_ix ix_tup (pv 1) pe_int (fun _ _ => rfl))))) (pss_one (ps_ret pe_bl)) pss_nil)
      (pss_one (ps_ret (pe_chain op_lt op_le (pe_op op_mulW (pe_op op_sub (pv 3) pe_int) (pe_ix ix_tup (pv 1) pe_int (fun _ _ => rfl))) (pe_ix ix_tup (pv 1) pe_int (fun _ _ => rfl)) (pe_op op_mulW (pv 3) (pe_ix ix_tup (pv 1) pe_int (fun _ _ => rfl)))))))))), ?_⟩
    refine q_asg (ev_rnd (f := fun p q => p / q) (ev_var rfl) hA r1.g) fun H1 e1 => ?_
    refine q_asg (ev_rnd (f := fun p q => -(-p / q)) (ev_var rfl) (hA.mono e1) r1.g) fun H2 e2 => ?_
    refine q_when (b := false) (et_is (et_or (et_not (et_test (go_int (ea_cons (ev_var rfl) ea_nil)))) fun _ => et_not (et_test (go_int (ea_cons (ev_var rfl) ea_nil)))) rfl) (fun hb => Bool.noConfusion hb) fun _ H3 e3 => ?_
    have X3 := (e1.trans e2).trans e3
    have hf3 := ex_t X3 hf
    have fl := floor_is r1
    have ce := ceil_is r1
    have s1 : Sm 6645 (p / q) := (Sm.div r1.g.smp r1.g.q0).mono (by decide)
    have s2 : Sm 6645 (-(-p / q)) := (Sm.div r1.g.smp.neg r1.g.q0).neg.mono (by decide)
    have one : Sm 6645 1 := Sm.of 1 (by decide) (Nat.one_lt_two_pow (by decide))
    refine q_when (b := false) (et_is (et_not (et_chain (ev_chain (zr := .non) (a := true) (b := true) (ev_mulW (ev_var rfl) (ev_op (ev_var rfl) ev_c (rv_ixT hf3 (atI_nat (j := 1) rfl))) (cMulW s1 b1.sd)) (ev_op (ev_var rfl) ev_c (rv_ixT hf3 (atI_nat (j := 0) rfl))) (rv_leT fl.1) (fun _ => ev_mulW (ev_op (ev_var rfl) ev_c rv_I0) (ev_op (ev_var rfl) ev_c (rv_ixT hf3 (atI_nat (j := 1) rfl))) (cMulW (s1.add one) b1.sd)) fun _ => rv_ltT fl.2))) rfl) (fun hb => Bool.noConfusion hb) fun _ H4 e4 => ?_
    have hf4 := ex_t e4 hf3
    exact s_ret (ev_is (ev_chain (zr := .non) (a := true) (b := true) (ev_mulW (ev_op (ev_var rfl) ev_c rv_I0) (ev_op (ev_var rfl) ev_c (rv_ixT hf4 (atI_nat (j := 1) rfl))) (cMulW (s2.sub one) b1.sd)) (ev_op (ev_var rfl) ev_c (rv_ixT hf4 (atI_nat (j := 0) rfl))) (rv_ltT ce.1) (fun _ => ev_mulW (ev_var rfl) (ev_op (ev_var rfl) ev_c (rv_ixT hf4 (atI_nat (j := 1) rfl))) (cMulW s2 b1.sd)) fun _ => rv_leT ce.2) rfl) fun H5 e5 => h H5 ((X3.trans e4).trans e5)
theorem has__law_single (T : Tx P w K mg base CO CS CN CR) (h__law_due : Has P w K mg base 5 "_law_due" ["num", "den"] (spDue)) (h__law_pair : Has P w K mg base 5 "_law_pair" ["told"] (spPair CR)) (h__law_rounded : Has P w K mg base 9 "_law_rounded" ["one", "first"] (spRounded K CR)) (h_R_abs : HasF P w K mg base 6 CR "__abs__" ["self"] (spUn CR CN abI)) (h_R_bool : HasF P w K mg base 4 CR "__bool__" ["self"] (spBool CR)) (h_R_eq : HasF P w K mg base 4 CR "__eq__" ["self", "other"] (spEq CR)) (h_R_mak : MakC P w K mg base 4 CR "Ratio" ["self", "num", "den"] (spMk CR CN)) (h_R_neg : HasF P w K mg base 6 CR "__neg__" ["self"] (spUn CR CN (fun p => -p))) (D : DefAt K mg "_law_single" s__law_single ["one", "first"]) : Has P w K mg base 10 "_law_single" ["one", "first"] (spRounded K CR) := by
  refine D.has sc__law_single (fun vs H Q E h => ?len) (fun f cdv A outer s H vs Q E hr h => ?body)
  case len =>
    obtain ⟨_, _, _, _, _, _, rfl, _, _, _, _, _⟩ := h
    rfl
  case body =>
    have tk : Takes (cxOf (L2.CX P w) P w K mg base ["one", "first", "num", "den", "due", "truth", "same", "twin"] "_law_single" (defScope s__law_single) f cdv A outer s H E) (fun cls d _ H => E cls d H) := takes_of rfl rfl rfl rfl
    obtain ⟨a, f, n, d, p, q, rfl, hA, hf, r1, b1, h⟩ := h
    refine ⟨_, (pss_cons (ps_asg (pv 1) (pg_tup (by rfl) (pgs_cons (pg_name (i := 2) sc__law_single.nd rfl (.inl rfl)) (pgs_cons (pg_name (i := 3) sc__law_single.nd rfl (.inl rfl)) pgs_nil))))
      (pss_cons (ps_set (i := 4) sc__law_single.nd rfl (.inl rfl) (pe_hasN h__law_due (hr.mono (by decide)) (pa_cons (pv 2) (pa_cons (pv 3) pa_nil))))
      (pss_cons (ps_if (pt_cmpR (op_neD hr.units) (pe_hasN h__law_pair (hr.mono (by decide)) (pa_cons (pv 0) pa_nil)) (pv 4) (nomark _)) (pss_one (ps_ret pe_bl)) pss_nil)
      (pss_cons (ps_if (pt_cmpR (op_neD hr.units) (pe_hasN h__law_pair (hr.mono (by decide)) (pa_cons (pe_negR h_R_neg (hr.mono (by decide)) tk (pv 0)) pa_nil)) (pe_hasN h__law_due (hr.mono (by decide)) (pa_cons (pe_un un_neg (pv 2)) (pa_cons (pv 3) pa_nil))) (nomark _)) (pss_one (ps_ret pe_bl)) pss_nil)
      (pss_cons (ps_if (pt_cmpR (op_neD hr.units) (pe_hasN h__law_pair (hr.mono (by decide)) (pa_cons (pe_callB (call_absR h_R_abs (hr.mono (by decide))) (by rfl) T.z_abs (by decide +kernel) (pa_cons (pv 0) pa_nil)) pa_nil)) (pe_hasN h__law_due (hr.mono (by decide)) (pa_cons (pe_callB call_abs (by rfl) T.z_abs (by decide +kernel) (pa_cons (pv 2) pa_nil)) (pa_cons (pv 3) pa_nil))) (nomark _)) (pss_one (ps_ret pe_bl)) pss_nil)
      (pss_cons (ps_set (i := 5) sc__law_single.nd rfl (.inl rfl) (pe_callTy (call_boolR h_R_bool (hr.mono (by decide))) (by rfl) T.z_bool (by decide +kernel) (pa_cons (pv 0) pa_nil)))
      (pss_cons (ps_if (pt_cmpR op_ne (pv 5) (pe_cmpR op_ne (pv 2) pe_int (nomark _)) (nomark _)) (pss_one (ps_ret pe_bl)) pss_nil)
      (pss_cons (ps_set (i := 6) sc__law_single.nd rfl (.inl rfl) (pe_cmpR (op_eqR h_R_eq T.nfI (hr.mono (by decide))) (pv 0) (pv 2) (nomark _)))
      (pss_cons (ps_set (i := 7) sc__law_single.nd rfl (.inl rfl) (pe_cmpR (op_eqR h_R_eq T.nfI (hr.mono (by decide))) (pv 0) (pe_makR h_R_mak (hr.mono (by decide)) tk (pa_cons (pe_ix ix_tup (pv 4) pe_int (fun _ _ => rfl)) (pa_cons (pe_ix ix_tup (pv 4) pe_int (fun _ _ => rfl)) pa_nil))) (nomark _)))
      (pss_cons (ps_if (PW.pt (pw_or (pt_cmpR op_isnotB (pv 6) pe_bl (nomark _)) (pw_or1 (pt_cmpR op_isnotB (pv 7) pe_bl (nomark _))))) (pss_one (ps_ret pe_bl)) pss_nil)
      (pss_one (ps_ret (pe_hasR h__law_rounded (hr.mono (by decide)) tk (pa_cons (pv 0) (pa_cons (pv 1) pa_nil))))))))))))))), ?_⟩
    refine q_unp2 (ev_var rfl) hf fun H1 e1 => ?_
    have sn := sm_V b1.sn
    have sd := sm_V b1.sd
    have de : encV (due n d) = encV (.ok (p, q)) := by rw [r1.due]
    have dn : encV (due (-n) d) = encV (.ok (-p, q)) := by rw [r1.neg.due]
    have da : encV (due (abI n) d) = encV (.ok (abI p, q)) := by rw [r1.abs.due]
    refine q_asgU (xs := encV (.ok (p, q))) (by rw [← de]; exact eu_due (ea_cons (ev_var rfl) (ea_cons (ev_var rfl) ea_nil)) sn sd) fun l H2 hl e2 g2 => ?_
    have X2 := e1.trans e2
    refine q_when (b := false) (et_neUV (r := .ok (p, q)) (eu_pairV (E := fun _ => E0) (ea_cons (ev_var rfl) ea_nil) (hA.mono X2)) (ev_var rfl) (st_of g2)) (fun hb => Bool.noConfusion hb) fun _ H3 e3 => ?_
    have X3 := X2.trans e3
    refine q_when (b := false) (et_neUU (r := .ok (-p, q)) (eu_pair (E := fun _ => E0) (ei_un (f := fun p => -p) (ev_var rfl) (hA.mono X3) r1.g)) (by rw [← dn]; exact eu_due (E := fun _ => E0) (ea_cons (ev_neg (ev_var rfl)) (ea_cons (ev_var rfl) ea_nil)) (by rw [Int.natAbs_neg]; exact sn) sd)) (fun hb => Bool.noConfusion hb) fun _ H4 e4 => ?_
    have X4 := X3.trans e4
    refine q_when (b := false) (et_neUU (r := .ok (abI p, q)) (eu_pair (E := fun _ => E0) (ei_abs (ev_var rfl) (hA.mono X4) r1.g)) (by rw [← da]; exact eu_due (E := fun _ => E0) (ea_cons (ev_abs (ev_var rfl)) (ea_cons (ev_var rfl) ea_nil)) (by unfold abI; split <;> omega) sd)) (fun hb => Bool.noConfusion hb) fun _ H5 e5 => ?_
    have X5 := X4.trans e5
    refine q_asg (ev_boolR (ev_var rfl) (hA.mono X5)) fun H6 e6 => ?_
    have zi := r1.zero_iff
    refine q_when (b := false) (et_is (et_test (ev_op (ev_var rfl) (ev_op (ev_var rfl) ev_c (rv_ne rfl)) (rv_ne rfl))) (by
      rw [dint]
      by_cases z : n = 0
      · rw [decide_eq_true z, decide_eq_true (zi.mp z)]; rfl
      · rw [decide_eq_false z, decide_eq_false (fun y => z (zi.mpr y))]; rfl)) (fun hb => Bool.noConfusion hb) fun _ H7 e7 => ?_
    have X7 := (X5.trans e6).trans e7
    refine q_asg (ev_eqR (b := false) (ev_var rfl) (ev_var rfl) (hA.mono X7) (.inr ⟨n, rfl, rfl⟩)) fun H8 e8 => ?_
    have X8 := X7.trans e8
    have g8 := (e3.trans (e4.trans (e5.trans (e6.trans (e7.trans e8))))) l _ g2
    refine q_asg (v := .bl true) (ev_is (ev_eqI (r := p) (s := q) (ev_var rfl) (ei_mak (n := p) (d := q) (dvs := []) (ea_cons (ev_op (ev_var rfl) ev_c (rv_ixT (st_of g8) (atI_nat (j := 1) rfl))) (ea_cons (ev_op (ev_var rfl) ev_c (rv_ixT (st_of g8) (atI_nat (j := 2) rfl))) ea_nil)) rfl (mk_good r1.g)) (hA.mono X8)) (by simp)) fun H9 e9 => ?_
    refine q_when (b := false) (et_is (et_or (et_test (ev_notB (ev_var rfl) ev_c)) fun _ => et_test (ev_notB (ev_var rfl) ev_c)) rfl) (fun hb => Bool.noConfusion hb) fun _ HA eA => ?_
    have XA := (X8.trans e9).trans eA
    exact s_ret (v := .bl true) (ev_callS (ea_cons (ev_var rfl) (ea_cons (ev_var rfl) ea_nil)) fun H1 e1 Q' E' k => ⟨a, f, n, d, p, q, rfl, hA.mono (XA.trans e1), ex_t (XA.trans e1) hf, r1, b1, k⟩) fun HB eB => h HB (XA.trans eB)
end
end K1
set_option exponentiation.threshold 20000
namespace K1
open PySem PySem.Spec PyProof.Rows L2 Evl Nd
local macro_rules | `(tactic| walk_at "ev") => `(tactic| first
  | exact ev_var rfl
  | exact ev_c
  | (apply ev_op; (walk_at "ev"); (walk_at "ev"); (walk_at "rv"))
  | (apply ev_un; (walk_at "ev"); (walk_at "rv"))
  | (apply ev_lenS; (walk_at "ev"); (walk_at "sq"))
  | (apply ev_andV; (walk_at "ev"); (intro _; walk_at "ev"))
  | (apply ev_orV; (walk_at "ev"); (intro _; walk_at "ev"))
  | (apply ev_notV; (walk_at "ev")))
local macro_rules | `(tactic| walk_at "rv") => `(tactic| first
  | exact rv_I0
  | exact ru_neg
  | exact rv_eq rfl
  | exact rv_ne rfl
  | exact rv_I (by decide)
  | exact rv_I (by first | omega | exact .inl (by omega) | exact .inr (by omega) | (constructor <;> omega)))
local macro_rules | `(tactic| walk_at "sq") => `(tactic| first
  | assumption
  | exact SqS.lst (by assumption)
  | exact SqS.tup (by assumption)
  | exact Or.inl (by assumption)
  | exact Or.inr (by assumption)
  | (refine SqS.mono (by assumption) ?_; walk_at "sq"))
local macro_rules | `(tactic| walk_at "et") => `(tactic| first
  | (apply et_or; (walk_at "et"); (intro _; walk_at "et"))
  | (apply et_and; (walk_at "et"); (intro _; walk_at "et"))
  | (apply et_not; (walk_at "et"))
  | (apply et_test; (walk_at "ev"))
  | (apply et_B; (walk_at "ev")))
local macro_rules | `(tactic| walk_at "ea") => `(tactic| first
  | exact ea_nil
  | (apply ea_cons; (walk_at "ev"); (walk_at "ea")))
section
variable {P : Program} {w : World} {K : PySem.W.Frag} {mg : Str → Option Value} {base : Heap} {CO CS CN CR : Addr}
/-! ### taken back -/
def spBack (K : PySem.W.Frag) (CR : Addr) : Sp := fun vs H Q E => ∃ (a f b g : Addr) (n d p q t u r s : Int), vs = [.ref a, .ref f, .ref b, .ref g] ∧ Rt CR H a p q ∧ SqT K H f [.int n, .int d] ∧ Rt CR H b r s ∧ SqT K H g [.int t, .int u] ∧ Rep n d p q ∧ Rep t u r s ∧ Bd n d ∧ Bd t u ∧ RetV (.bl true) H Q
theorem enc_err {z : Int} : atI (encV (.error z)) 0 = some (.str "number") := rfl
theorem enc_ok {x : Int × Int} : atI (encV (.ok x)) 0 = some (.str "ratio") := rfl
theorem has__law_back (T : Tx P w K mg base CO CS CN CR) (h__law_due : Has P w K mg base 5 "_law_due" ["num", "den"] (spDue)) (h__law_pair : Has P w K mg base 5 "_law_pair" ["told"] (spPair CR)) (h__law_result : Has P w K mg base 6 "_law_result" ["sign", "first", "second"] (spResult K)) (h_R_add : HasO P w K mg base 7 CR .Add ["self", "other"] (spOp CR CN .add)) (h_R_mul : HasO P w K mg base 7 CR .Mult ["self", "other"] (spOp CR CN .mul)) (h_R_over : HasM P w K mg base 7 CR "over" ["self", "other"] (spOver CR CN)) (h_R_sub : HasO P w K mg base 7 CR .Sub ["self", "other"] (spOp CR CN .sub)) (D : DefAt K mg "_law_back" s__law_back ["one", "first", "other", "second"]) : Has P w K mg base 10 "_law_back" ["one", "first", "other", "second"] (spBack K CR) := by
  refine D.has sc__law_back (fun vs H Q E h => ?len) (fun f cdv A outer s H vs Q E hr h => ?body)
  case len =>
    obtain ⟨_, _, _, _, _, _, _, _, _, _, _, _, rfl, _, _, _, _, _, _, _, _, _⟩ := h
    rfl
  case body =>
    have tk : Takes (cxOf (L2.CX P w) P w K mg base ["one", "first", "other", "second", "due"] "_law_back" (defScope s__law_back) f cdv A outer s H E) (fun cls d _ H => E cls d H) := takes_of rfl rfl rfl rfl
    obtain ⟨a, f, b, g, n, d, p, q, t, u, r, s, rfl, hA, hf, hB, hg, r1, r2, b1, b2, h⟩ := h
    refine ⟨_, (pss_cons (ps_set (i := 4) sc__law_back.nd rfl (.inl rfl) (pe_hasN h__law_due (hr.mono (by decide)) (pa_cons (pe_ix ix_tup (pv 1) pe_int (fun _ _ => rfl)) (pa_cons (pe_ix ix_tup (pv 1) pe_int (fun _ _ => rfl)) pa_nil))))
      (pss_cons (ps_if (pt_cmpR op_eq (pe_ix ix_tup (pe_hasN h__law_result (hr.mono (by decide)) (pa_cons pe_str (pa_cons (pv 1) (pa_cons (pv 3) pa_nil)))) pe_int (fun _ _ => rfl)) pe_str (nomark _)) (pss_one (ps_if (pt_cmpR (op_neD hr.units) (pe_hasN h__law_pair (hr.mono (by decide)) (pa_cons (pe_opR h_R_sub (hr.mono (by decide)) tk (pe_opR h_R_add (hr.mono (by decide)) tk (pv 0) (pv 2)) (pv 2)) pa_nil)) (pv 4) (nomark _)) (pss_one (ps_ret pe_bl)) pss_nil)) pss_nil)
      (pss_cons (ps_if (pt_cmpR op_eq (pe_ix ix_tup (pe_hasN h__law_result (hr.mono (by decide)) (pa_cons pe_str (pa_cons (pv 1) (pa_cons (pv 3) pa_nil)))) pe_int (fun _ _ => rfl)) pe_str (nomark _)) (pss_one (ps_ret (pe_cmpR (op_eqD hr.units) (pe_hasN h__law_pair (hr.mono (by decide)) (pa_cons (pe_opR h_R_mul (hr.mono (by decide)) tk (pe_metR (pv 0) T.cl h_R_over (hr.mono (by decide)) tk (pa_cons (pv 2) pa_nil)) (pv 2)) pa_nil)) (pv 4) (nomark _)))) pss_nil)
      (pss_one (ps_ret pe_bl))))), ?_⟩
    have de : encV (due n d) = encV (.ok (p, q)) := by rw [r1.due]
    refine q_asgU (xs := encV (.ok (p, q))) (by rw [← de]; exact eu_due (ea_cons (ev_op (ev_var rfl) ev_c (rv_ixT hf (atI_nat (j := 0) rfl))) (ea_cons (ev_op (ev_var rfl) ev_c (rv_ixT hf (atI_nat (j := 1) rfl))) ea_nil)) (sm_V b1.sn) (sm_V b1.sd)) fun l H1 hl e1 g1 => ?_
    have oB : ∀ H', Ex H H' → Opd CR H' (.ref b) r s := fun H' e => .inl ⟨b, rfl, hB.mono e⟩
    have step1 : ∀ (tz : TS) (D : Ends), (∀ H2, Ex H1 H2 → tz D [some (.ref a), some (.ref f), some (.ref b), some (.ref g), some (.ref l)] H2) → tSeq (tIfS (tTest (tOp rEq (tOp (rIxT K) (tCallS (spResult K) (fun _ => E0) (tCons (tC (.str "+")) (tCons (tVar 1) (tCons (tVar 3) tNil)))) (tC (.int 0))) (tC (.str "ratio")))) (tIfS (tTest (tOp (rNeD K) (tCallS (spPair CR) (fun _ => E0) (tCons (tOpOwn CR (spOp CR CN .sub) (WE fun cls d _ H => E cls d H) (tOpOwn CR (spOp CR CN .add) (WE fun cls d _ H => E cls d H) (tVar 0) (tVar 2)) (tVar 2)) tNil)) (tVar 4))) (tRet (tC (.bl false))) tNext) tNext) tz D [some (.ref a), some (.ref f), some (.ref b), some (.ref g), some (.ref l)] H1 := by
      intro tz D k
      have er := eu_result (K := K) (E := fun _ => E0) (o := .add) (σ := [some (.ref a), some (.ref f), some (.ref b), some (.ref g), some (.ref l)]) (ta := tCons (tC (.str "+")) (tCons (tVar 1) (tCons (tVar 3) tNil))) (ea_cons (x := .str Sg.add.str) ev_c (ea_cons (ev_var rfl) (ea_cons (ev_var rfl) ea_nil))) (ex_t e1 hf) (ex_t e1 hg) b1 b2
      rw [← op_res r1 r2] at er
      rcases low_is (n := p * s + r * q) (Int.mul_pos r1.g.q0 r2.g.q0) with ⟨z, ez⟩ | ⟨x, y, exy, _, _⟩
      · rw [show op .add p q r s = .error z from ez] at er
        exact q_when (b := false) (et_is (et_test (ev_op (ev_ixU er enc_err) ev_c (rv_eq rfl))) (by decide +kernel)) (fun hb => Bool.noConfusion hb) fun _ H2 e2 => k H2 e2
      · have eo : op .add p q r s = .ok (x, y) := exy
        rw [eo] at er
        obtain ⟨gxy, eb⟩ := back_add r1.g r2.g eo
        refine q_when (b := true) (et_is (et_test (ev_op (ev_ixU er enc_ok) ev_c (rv_eq rfl))) (by decide +kernel)) (fun _ H2 e2 => ?_) (fun hb => Bool.noConfusion hb)
        have X2 := e1.trans e2
        refine s_when (b := false) (et_neUV (r := .ok (p, q)) (eu_pair (ei_ownI (o := .sub) (ei_own (o := .add) (ev_var rfl) (ev_var rfl) (hA.mono X2) r1.g (oB H2 X2) r2.g eo) (ev_var rfl) gxy (oB H2 X2) r2.g eb)) (ev_var rfl) (st_of (e2 l _ g1))) (fun hb => Bool.noConfusion hb) fun _ H3 e3 => k H3 (e2.trans e3)
    refine step1 _ _ fun H2 e2 => ?_
    have X2 := e1.trans e2
    have er := eu_result (K := K) (E := fun _ => E0) (o := .div) (H := H2) (σ := [some (.ref a), some (.ref f), some (.ref b), some (.ref g), some (.ref l)]) (ta := tCons (tC (.str "/")) (tCons (tVar 1) (tCons (tVar 3) tNil))) (ea_cons (x := .str Sg.div.str) ev_c (ea_cons (ev_var rfl) (ea_cons (ev_var rfl) ea_nil))) (ex_t X2 hf) (ex_t X2 hg) b1 b2
    rw [← op_res r1 r2] at er
    cases eo : op .div p q r s with
    | error z =>
      rw [eo] at er
      refine q_when (b := false) (et_is (et_test (ev_op (ev_ixU er enc_err) ev_c (rv_eq rfl))) (by decide +kernel)) (fun hb => Bool.noConfusion hb) fun _ H3 e3 => ?_
      exact s_ret ev_c fun H4 e4 => h H4 ((X2.trans e3).trans e4)
    | ok v =>
      obtain ⟨x, y⟩ := v
      rw [eo] at er
      obtain ⟨gxy, eb⟩ := back_div r1.g r2.g eo
      refine q_when (b := true) (et_is (et_test (ev_op (ev_ixU er enc_ok) ev_c (rv_eq rfl))) (by decide +kernel)) (fun _ H3 e3 => ?_) (fun hb => Bool.noConfusion hb)
      have X3 := X2.trans e3
      exact s_ret (ev_eqUV (r := .ok (p, q)) (eu_pair (ei_ownI (o := .mul) (ei_over (ev_var rfl) (ea_cons (ev_var rfl) ea_nil) (hA.mono X3) r1.g (hB.mono X3) r2.g eo) (ev_var rfl) gxy (oB H3 X3) r2.g eb)) (ev_var rfl) (st_of ((e2.trans e3) l _ g1))) fun H4 e4 => h H4 (X3.trans e4)
/-! ### totals, told -/
def spTotalL (K : PySem.W.Frag) (CR : Addr) : Sp := fun vs H Q E => ∃ (a : Addr) (refs : List V) (ps : List (Int × Int)) (D : Int), vs = [.ref a] ∧ SqS K H a refs ∧ Rts CR H refs ps ∧ ps.length ≤ 1000 ∧ 0 < D ∧ D ≤ B ^ 5 ∧ D.natAbs < 2 ^ 13500 ∧ (∀ x ∈ ps, x.2 ∣ D) ∧
  (sumP ps (lcP ps)).natAbs < 2 ^ 13500 ∧ RetU (encV (low (sumP ps (lcP ps)) (lcP ps))) H Q
theorem has__law_total (T : Tx P w K mg base CO CS CN CR) (h__law_int : HasA P w K mg base 4 "_law_int" ["told"] (spInt)) (h__law_pair : Has P w K mg base 5 "_law_pair" ["told"] (spPair CR)) (h_R_total : HasS P w K mg base 8 CR "total" ["ratios"] (spTotal K CR CN)) (D : DefAt K mg "_law_total" s__law_total ["passed"]) : Has P w K mg base 10 "_law_total" ["passed"] (spTotalL K CR) := by
  refine D.has sc__law_total (fun vs H Q E h => ?len) (fun f cdv A outer s H vs Q E hr h => ?body)
  case len =>
    obtain ⟨_, _, _, _, rfl, _, _, _, _, _, _, _, _, _⟩ := h
    rfl
  case body =>
    have tk : Takes (cxOf (L2.CX P w) P w K mg base ["passed", "told", "e"] "_law_total" (defScope s__law_total) f cdv A outer s H E) (fun cls d _ H => E cls d H) := takes_of rfl rfl rfl rfl
    obtain ⟨a, refs, ps, D, rfl, hS, hR, hl, D0, DB, Dz, hd, hz, h⟩ := h
    refine ⟨_, (pss_cons (ps_try_ms rfl rfl sc__law_total.nd takes0 (fun W pn xe tk po => (pss_one (ps_set (i := 1) sc__law_total.nd rfl (.inl rfl) (pe_staR (pe_glob (v := .ref CR) rfl T.e_Ratio.g rfl) h_R_total (hr.mono (by decide)) tk (pa_cons (pv 0) pa_nil))))) (HdAs.cons (i := 2) (c := .ref CN) rfl rfl ⟨rfl, by decide, .inl T.e_NumberError.g⟩ (fun a oe cls d pn hz hf => (pss_cons (ps_if (PW.pt (pw_or (pt_not (pt_val (pe_hasA h__law_int (RoomA.suite (hr.mono (by decide)) _) (pa_cons (pe_xf T.e_NumberError.xf T.e_NumberError.no hz hf (pv 2)) pa_nil)))) (pw_or1 (pt_not (pt_val (pe_callB (call_isX hz hf) (by rfl) T.z_isinstance (by decide +kernel) (pa_cons (pv 2) (pa_cons (pe_glob (v := .ref CO) rfl T.e_NodearerError.g rfl) pa_nil)))))))) (pss_one (ps_ret (pe_tup (pa_cons pe_str pa_nil)))) pss_nil)
      (pss_one (ps_ret (pe_tup (pa_cons pe_str (pa_cons (pe_xf T.e_NumberError.xf T.e_NumberError.no hz hf (pv 2)) pa_nil))))))) HdAs.nil))
      (pss_one (ps_ret (pe_hasN h__law_pair (hr.mono (by decide)) (pa_cons (pv 1) pa_nil))))), ?_⟩
    refine ⟨rfl, _, rfl, a, refs, ps, D, rfl, hS, hR, hl, D0, DB, Dz, hd, hz, fun z hz => ?_, fun u v huv => ?_⟩
    · rw [hz] at h
      intro d H' e' hd
      refine ⟨true, T.xNN, fun _ q na => ?_, fun hb => Bool.noConfusion hb⟩
      refine q_when (b := false) (et_is (et_or (et_not (et_test (go_int (ea_cons (ev_xf (ev_var rfl) hd rfl) ea_nil)))) fun _ => et_not (et_test (ev_isX1 (b := true) (ea_cons (ev_var rfl) (ea_cons ev_c ea_nil)) (.own CO) T.e_NumberError.is hd T.kNO))) rfl) (fun hb => Bool.noConfusion hb) fun _ H2 e2 => ?_
      exact s_retU (eu_tup (ea_cons ev_c (ea_cons (ev_xf (ev_var rfl) (e2 d _ hd) rfl) ea_nil)) (by show 2 ≤ 100000; decide)) fun p H3 hp e3 g3 => h p H3 (fresh_back (e'.trans e2) hp) ((e'.trans e2).trans e3) g3
    · rw [huv] at h
      intro c dx H2 hc e2 g
      exact s_retU (eu_pairV (E := fun _ => E0) (ea_cons (ev_var rfl) ea_nil) ⟨dx, g⟩) fun p H3 hp e3 g3 => h p H3 (fresh_back e2 hp) (e2.trans e3) g3
end
end K1
set_option exponentiation.threshold 20000
namespace K1
open PySem PySem.Spec PyProof.Rows L2 Evl Nd
local macro_rules | `(tactic| walk_at "ev") => `(tactic| first
  | exact ev_var rfl
  | exact ev_c
  | (apply ev_op; (walk_at "ev"); (walk_at "ev"); (walk_at "rv"))
  | (apply ev_un; (walk_at "ev"); (walk_at "rv"))
  | (apply ev_lenS; (walk_at "ev"); (walk_at "sq"))
  | (apply ev_andV; (walk_at "ev"); (intro _; walk_at "ev"))
  | (apply ev_orV; (walk_at "ev"); (intro _; walk_at "ev"))
  | (apply ev_notV; (walk_at "ev")))
local macro_rules | `(tactic| walk_at "rv") => `(tactic| first
  | exact rv_I0
  | exact ru_neg
  | exact rv_eq rfl
  | exact rv_ne rfl
  | exact rv_I (by decide)
  | exact rv_I (by first | omega | exact .inl (by omega) | exact .inr (by omega) | (constructor <;> omega)))
local macro_rules | `(tactic| walk_at "sq") => `(tactic| first
  | assumption
  | exact SqS.lst (by assumption)
  | exact SqS.tup (by assumption)
  | exact Or.inl (by assumption)
  | exact Or.inr (by assumption)
  | (refine SqS.mono (by assumption) ?_; walk_at "sq"))
local macro_rules | `(tactic| walk_at "et") => `(tactic| first
  | (apply et_or; (walk_at "et"); (intro _; walk_at "et"))
  | (apply et_and; (walk_at "et"); (intro _; walk_at "et"))
  | (apply et_not; (walk_at "et"))
  | (apply et_test; (walk_at "ev"))
  | (apply et_B; (walk_at "ev")))
local macro_rules | `(tactic| walk_at "ea") => `(tactic| first
  | exact ea_nil
  | (apply ea_cons; (walk_at "ev"); (walk_at "ea")))
section
variable {P : Program} {w : World} {K : PySem.W.Frag} {mg : Str → Option Value} {base : Heap} {CO CS CN CR : Addr}
/-! ### lists of ratios and of what is due -/
theorem solid_rt (C : Addr) (x : Int × Int) : Solid fun v H => ∃ a, v = .ref a ∧ Rt C H a x.1 x.2 := ⟨fun e ⟨a, h1, h2⟩ => ⟨a, h1, h2.mono e⟩, fun hl ⟨a, h1, dx, h2⟩ => ⟨a, h1, dx, by rw [upd_ne (fun e => by rw [e, hl] at h2; cases h2)]; exact h2⟩⟩
theorem solid_tup (xs : List V) : Solid fun v H => ∃ a, v = .ref a ∧ H a = some (.tup xs) := ⟨fun e ⟨a, h1, h2⟩ => ⟨a, h1, e a _ h2⟩, fun hl ⟨a, h1, h2⟩ => ⟨a, h1, by rw [upd_ne (fun e => by rw [e, hl] at h2; cases h2)]; exact h2⟩⟩
theorem eg_I {C : Addr} {te : TE} {σ : L2.St} {H : Hp} {p q : Int} (h : EvI C te σ H (flds p q)) : EvG te σ H fun v H => ∃ a, v = .ref a ∧ Rt C H a p q := fun H1 e Q q => h H1 e _ fun a dx H2 _ e2 g => q _ H2 e2 ⟨a, rfl, dx, g⟩
theorem eg_U {te : TE} {σ : L2.St} {H : Hp} {xs : List V} (h : EvU te σ H xs) : EvG te σ H fun v H => ∃ a, v = .ref a ∧ H a = some (.tup xs) := fun H1 e Q q => h H1 e _ fun a H2 _ e2 g => q _ H2 e2 ⟨a, rfl, g⟩
theorem ev_cnt {to : TE} {ta : TA} {σ : L2.St} {H : Hp} {l : Addr} {ks : List Int} {k : Int} (h : Ev to σ H (.ref l)) (g : SqL K H l (ks.map V.int)) (ha : EvA ta σ H [.int k]) : Ev (tBM K "list" (rCntI K) to ta) σ H (.int (ks.count k : Nat)) := fun H1 e Q q =>
  h H1 e _ fun H2 e2 => ⟨Or.inl ⟨rfl, _, ex_l (e.trans e2) g⟩, ha H2 (e.trans e2) _ fun H3 e3 => ⟨l, ks, k, rfl, rfl, ex_l ((e.trans e2).trans e3) g, q H3 (e2.trans e3)⟩⟩
/-- [take(tape, ..) for k in range(m)] -/
theorem q_line {σ : L2.St} {H : Hp} {ta ts : TA} {D : Ends} {tz : TS} {p : Addr} {m many : Int} {i j : Nat} {vs : List Nat} {E : L2.St → XK} (h : EvA ta σ H [.int m]) (hm : 0 ≤ m ∧ m ≤ 100) (h4 : 0 < many) (ht : Tape H p) (hw : ∀ x, wipe ((wipe σ vs).set j (some x)) vs = wipe σ vs)
    (he : ∀ (z : Int) H1, ∃ salt, EvA ts ((wipe σ vs).set j (some (.int z))) H1 [.ref p, .int many, .int salt]) (k : ∀ l ks H2, But p H H2 → Tape H2 p → l ≠ p → H2 l = some (.lst (List.map V.int ks)) → ks.length = m.toNat → (∀ k ∈ ks, 0 ≤ k ∧ k < many) → tz D (σ.set i (some (.ref l))) H2) :
    tSeq (tAsg (tLc (iRng1 ta) (gName j) tYes (tCallS spTake E ts) vs) (gName i)) tz D σ H := h H (Ex.refl H) _ fun H1 e1 => ⟨m, rfl, by omega, by omega, fun Dl hD =>
  lc_range (lo := 0) (n := m.toNat) (fun i H' => But p H1 H' ∧ Tape H' p ∧ ∃ ks, H' Dl = some (.lst (List.map V.int ks)) ∧ ks.length = i ∧ ∀ k ∈ ks, 0 ≤ k ∧ k < many)
    ⟨(But.refl p H1).new hD, (by
      obtain ⟨ds, hp⟩ := ht.mono e1
      exact ⟨ds, by rw [upd_ne (fun e => by rw [e, hD] at hp; cases hp)]; exact hp⟩), [], upd_same, rfl, fun k hk => by simp at hk⟩
    (fun i H' hi ⟨b, t, ks, g, hl, hk⟩ => ⟨hw _, by
      have ne : Dl ≠ p := (ht.mono e1).ne hD
      obtain ⟨salt, ha⟩ := he (0 + (i : Int)) H'
      refine go_take ha h4 t fun r H4 r0 r1 b4 t4 => ⟨List.map V.int ks, b4 Dl _ ne g, sz_lt (by rw [List.length_map]; omega), (b.trans b4).new hD, ?_, ks ++ [r], by rw [upd_same, List.map_append]; rfl, by rw [List.length_append, hl]; rfl, fun k hk' => ?_⟩
      · obtain ⟨ds, hp⟩ := t4
        exact ⟨ds, by rw [upd_ne (fun e => ne e.symm)]; exact hp⟩
      · rcases List.mem_append.mp hk' with z | z
        · exact hk k z
        · obtain rfl : k = r := by simpa using z
          exact ⟨r0, r1⟩⟩)
    fun H' ⟨b, t, ks, g, hl, hk⟩ => k Dl ks H' ((But.of e1).trans b) t ((ht.mono e1).ne hD) g hl hk⟩
theorem shapedL (rs : List (Except Int (Int × Int))) : SeqAt.shaped (.list (rs.map fun r => PyData.tuple (dsEnc r))) = true := by
  have h1 : ∀ rs : List (Except Int (Int × Int)), PyData.canLayAll0 (rs.map fun r => PyData.tuple (dsEnc r)) = true := by
    intro rs
    induction rs with
    | nil => rfl
    | cons r t ih =>
      have e := SeqAt.canLay_of_shaped (shapedE r)
      rw [List.map_cons, PyData.canLayAll0, e, ih]; rfl
  have h2 : ∀ rs : List (Except Int (Int × Int)), PyData.depthAll (rs.map fun r => PyData.tuple (dsEnc r)) ≤ 1 := by
    intro rs
    induction rs with
    | nil => decide
    | cons r t ih =>
      rw [List.map_cons, PyData.depthAll]
      have : PyData.depth (.tuple (dsEnc r)) ≤ 1 := by cases r <;> simp [dsEnc, PyData.depth, PyData.depthAll]
      omega
  show (PyData.canLay0 _ && decide (PyData.depth _ ≤ 64)) = true
  rw [PyData.canLay0, h1, PyData.depth, decide_eq_true (by have := h2 rs; omega)]
  rfl
theorem eqvL (rs : List (Except Int (Int × Int))) : PyData.eqv (.list (rs.map fun r => PyData.tuple (dsEnc r))) (.list (rs.map fun r => PyData.tuple (dsEnc r))) = true := by
  have h1 : ∀ rs : List (Except Int (Int × Int)), PyData.eqvAll (rs.map fun r => PyData.tuple (dsEnc r)) (rs.map fun r => PyData.tuple (dsEnc r)) = true := by
    intro rs
    induction rs with
    | nil => rfl
    | cons r t ih =>
      rw [List.map_cons, PyData.eqvAll, eqvE r, ih]; rfl
  rw [PyData.eqv, h1]
theorem rI0_go {g : Int → Int → V} {i j z : Int} {H : Hp} {Q : VK} (e : g i j = .int z) (k : Q (.int z) H) : rI0 g (.int i) (.int j) H Q := ⟨i, j, rfl, rfl, by rw [e]; exact k⟩
theorem rIc_go {g : Int → Int → V} {i c z : Int} {σ : L2.St} {H : Hp} {Q : VK} (e : g i c = .int z) (k : Q (.int z) H) : tC (.int c) σ H (fun y H2 => rI0 g (.int i) y H2 Q) := ⟨i, c, rfl, rfl, by rw [e]; exact k⟩
/-! ### the totals -/
def spTotals (K : PySem.W.Frag) : Sp := fun vs H Q E => ∃ (p f g : Addr) (n1 d1 n2 d2 : Int), vs = [.ref p, .ref f, .ref g] ∧ Tape H p ∧ H f = some (.tup [.int n1, .int d1]) ∧ H g = some (.tup [.int n2, .int d2]) ∧ Bd n1 d1 ∧ Bd n2 d2 ∧ ∀ H2, But p H H2 → Q (.bl true) H2
theorem eu_totalL {ta : TA} {σ : L2.St} {H : Hp} {E : L2.St → XK} {P : List V → Hp → Prop} {refs : List V} {ps : List (Int × Int)} {D : Int} (h : EvAP ta σ H P) (hP : ∀ vs H1, P vs H1 → Ex H H1 → ∃ a, vs = [.ref a] ∧ SqS K H1 a refs) (hR : Rts CR H refs ps) (hl : ps.length ≤ 1000) (D0 : 0 < D) (DB : D ≤ B ^ 5) (Dz : D.natAbs < 2 ^ 13500)
    (hd : ∀ x ∈ ps, x.2 ∣ D) (hz : (sumP ps (lcP ps)).natAbs < 2 ^ 13500) : EvU (tCallS (spTotalL K CR) E ta) σ H (encV (low (sumP ps (lcP ps)) (lcP ps))) := eu_callP h fun vs H1 e1 hp Q E' k => by
  obtain ⟨a, rfl, hS⟩ := hP vs H1 hp e1
  exact ⟨a, refs, ps, D, rfl, hS, hR.mono e1, hl, D0, DB, Dz, hd, hz, k⟩
def fK (p1 q1 p2 q2 p3 q3 : Int) : Int → Int × Int := fun k => if k = 0 then (p1, q1) else if k = 1 then (p2, q2) else if k = 2 then (-p1, q1) else (p3, q3)
theorem bd_mk {n d p q : Int} (b : Bd n d) (r : Rep n d p q) : mk n d = .ok (p, q) := mk_rep r b.lo b.hi b.dB
theorem Bd.neg {n d : Int} (b : Bd n d) : Bd (-n) d := ⟨by have := b.hi; omega, by have := b.lo; omega, b.dB, b.d0⟩
theorem Bd.rep {n d : Int} (b : Bd n d) : ∃ p q, Rep n d p q := let ⟨p, q, r, _⟩ := rep_of b.lo b.hi b.d0 b.dB; ⟨p, q, r⟩
theorem has__law_totals (T : Tx P w K mg base CO CS CN CR) (h__law_due : Has P w K mg base 5 "_law_due" ["num", "den"] (spDue)) (h__law_pair : Has P w K mg base 5 "_law_pair" ["told"] (spPair CR)) (h__law_take : Has P w K mg base 4 "_law_take" ["tape", "many", "salt"] (spTake)) (h__law_total : Has P w K mg base 10 "_law_total" ["passed"] (spTotalL K CR)) (h_R_mak : MakC P w K mg base 4 CR "Ratio" ["self", "num", "den"] (spMk CR CN)) (D : DefAt K mg "_law_totals" s__law_totals ["tape", "first", "second"]) : Has P w K mg base 12 "_law_totals" ["tape", "first", "second"] (spTotals K) := by
  refine D.has sc__law_totals (fun vs H Q E h => ?len) (fun f cdv A outer s H vs Q E hr h => ?body)
  case len =>
    obtain ⟨_, _, _, _, _, _, _, rfl, _, _, _, _, _, _⟩ := h
    rfl
  case body =>
    have tk : Takes (cxOf (L2.CX P w) P w K mg base ["tape", "first", "second", "num", "den", "top", "under", "little", "small", "parts", "ratios", "pairs", "many", "line", "passed", "ones", "others", "total", "due", "kept", "part", "k", "told"] "_law_totals" (defScope s__law_totals) f cdv A outer s H E) (fun cls d _ H => E cls d H) := takes_of rfl rfl rfl rfl
    obtain ⟨p, f, g, n1, d1, n2, d2, rfl, ht, hf, hg, b1, b2, h⟩ := h
    refine ⟨_, (pss_cons (ps_asg (pv 1) (pg_tup (by rfl) (pgs_cons (pg_name (i := 3) sc__law_totals.nd rfl (.inl rfl)) (pgs_cons (pg_name (i := 4) sc__law_totals.nd rfl (.inl rfl)) pgs_nil))))
      (pss_cons (ps_asg (pv 2) (pg_tup (by rfl) (pgs_cons (pg_name (i := 5) sc__law_totals.nd rfl (.inl rfl)) (pgs_cons (pg_name (i := 6) sc__law_totals.nd rfl (.inl rfl)) pgs_nil))))
      (pss_cons (ps_set (i := 7) sc__law_totals.nd rfl (.inl rfl) (pe_op op_sub (pe_hasN h__law_take (hr.mono (by decide)) (pa_cons (pv 0) (pa_cons pe_int (pa_cons pe_int pa_nil)))) pe_int))
      (pss_cons (ps_set (i := 8) sc__law_totals.nd rfl (.inl rfl) (pe_op op_add pe_int (pe_hasN h__law_take (hr.mono (by decide)) (pa_cons (pv 0) (pa_cons pe_int (pa_cons pe_int pa_nil))))))
      (pss_cons (ps_set (i := 9) sc__law_totals.nd rfl (.inl rfl) (pe_lst (pa_cons (pe_tup (pa_cons (pv 3) (pa_cons (pv 4) pa_nil))) (pa_cons (pe_tup (pa_cons (pv 5) (pa_cons (pv 6) pa_nil))) (pa_cons (pe_tup (pa_cons (pe_un un_neg (pv 3)) (pa_cons (pv 4) pa_nil))) (pa_cons (pe_tup (pa_cons (pv 7) (pa_cons (pv 8) pa_nil))) pa_nil))))))
      (pss_cons (ps_set (i := 10) sc__law_totals.nd rfl (.inr rfl) (pe_lc (own := [("part", 20)]) rfl sc__law_totals.nd (pi_list (pv 9)) (blkOk_by (own := [("part", 20)]) (N := ["tape", "first", "second", "num", "den", "top", "under", "little", "small", "parts", "ratios", "pairs", "many", "line", "passed", "ones", "others", "total", "due", "kept", "part", "k", "told"]) (sc := defScope s__law_totals) (by decide +kernel)) (fun _ _ _ _ _ => (pg_name (i := 20) sc__law_totals.nd rfl (.inl rfl))) (fun _ _ _ _ _ => pts_nil) (fun _ _ _ _ _ => (pe_makN h_R_mak (hr.mono (by decide)) (pa_cons (pe_ix (ix_tupK K) (pv 20) pe_int (fun _ _ => rfl)) (pa_cons (pe_ix (ix_tupK K) (pv 20) pe_int (fun _ _ => rfl)) pa_nil))))))
      (pss_cons (ps_set (i := 11) sc__law_totals.nd rfl (.inr rfl) (pe_lc (own := [("part", 20)]) rfl sc__law_totals.nd (pi_list (pv 9)) (blkOk_by (own := [("part", 20)]) (N := ["tape", "first", "second", "num", "den", "top", "under", "little", "small", "parts", "ratios", "pairs", "many", "line", "passed", "ones", "others", "total", "due", "kept", "part", "k", "told"]) (sc := defScope s__law_totals) (by decide +kernel)) (fun _ _ _ _ _ => (pg_name (i := 20) sc__law_totals.nd rfl (.inl rfl))) (fun _ _ _ _ _ => pts_nil) (fun _ _ _ _ _ => (pe_hasN h__law_due (hr.mono (by decide)) (pa_cons (pe_ix (ix_tupK K) (pv 20) pe_int (fun _ _ => rfl)) (pa_cons (pe_ix (ix_tupK K) (pv 20) pe_int (fun _ _ => rfl)) pa_nil))))))
      (pss_cons (ps_set (i := 12) sc__law_totals.nd rfl (.inl rfl) (pe_hasN h__law_take (hr.mono (by decide)) (pa_cons (pv 0) (pa_cons pe_int (pa_cons pe_int pa_nil)))))
      (pss_cons (ps_setLc (i := 13) (own := [("k", 21)]) rfl sc__law_totals.nd rfl rfl (sw_true rfl rfl rfl (by decide +kernel)) (pi_range1 rfl T.z_range (pa_cons (pv 12) pa_nil)) (blkOk_by (own := [("k", 21)]) (N := ["tape", "first", "second", "num", "den", "top", "under", "little", "small", "parts", "ratios", "pairs", "many", "line", "passed", "ones", "others", "total", "due", "kept", "part", "k", "told"]) (sc := defScope s__law_totals) (by decide +kernel)) (fun _ _ _ _ _ => (pg_name (i := 21) sc__law_totals.nd rfl (.inl rfl))) (fun _ _ _ _ _ => pts_nil) (fun _ _ _ _ _ => (pe_hasN h__law_take (hr.mono (by decide)) (pa_cons (pv 0) (pa_cons pe_int (pa_cons (pv 21) pa_nil))))))
      (pss_cut (ps_if (pt_cmpR op_eq (pv 12) pe_int (nomark _)) (pss_one (ps_set (i := 13) sc__law_totals.nd rfl (.inl rfl) (pe_op op_rep (pe_lst (pa_cons (pe_ix ix_list (pv 13) pe_int (fun _ _ => rfl)) pa_nil)) pe_int))) pss_nil)
      (pss_cons (ps_setLc (i := 14) (own := [("k", 21)]) rfl sc__law_totals.nd rfl rfl (sw_true rfl rfl rfl (by decide +kernel)) (pi_list (pv 13)) (blkOk_by (own := [("k", 21)]) (N := ["tape", "first", "second", "num", "den", "top", "under", "little", "small", "parts", "ratios", "pairs", "many", "line", "passed", "ones", "others", "total", "due", "kept", "part", "k", "told"]) (sc := defScope s__law_totals) (by decide +kernel)) (fun _ _ _ _ _ => (pg_name (i := 21) sc__law_totals.nd rfl (.inl rfl))) (fun _ _ _ _ _ => pts_nil) (fun _ _ _ _ _ => (pe_ix (ix_listK K) (pv 10) (pv 21) (fun _ _ => rfl))))
      (pss_cons (ps_set (i := 15) sc__law_totals.nd rfl (.inl rfl) (pe_op op_sub (pe_bm PySem.F.plainAttrs_list PySem.F.slot_list_count PySem.F.type_list_count mt_lcount (pv 13) (pa_cons pe_int pa_nil)) (pe_bm PySem.F.plainAttrs_list PySem.F.slot_list_count PySem.F.type_list_count mt_lcount (pv 13) (pa_cons pe_int pa_nil))))
      (pss_cons (ps_set (i := 16) sc__law_totals.nd rfl (.inl rfl) (pe_bm PySem.F.plainAttrs_list PySem.F.slot_list_count PySem.F.type_list_count mt_lcount (pv 13) (pa_cons pe_int pa_nil)))
      (pss_cons (ps_set (i := 17) sc__law_totals.nd rfl (.inl rfl) (pe_op op_mulW (pe_op op_add (pe_op op_mulW (pe_op op_mulW (pv 15) (pv 3)) (pv 6)) (pe_op op_mulW (pe_op op_mulW (pv 16) (pv 5)) (pv 4))) (pv 8)))
      (pss_cons (ps_set (i := 17) sc__law_totals.nd rfl (.inl rfl) (pe_op op_add (pv 17) (pe_op op_mulW (pe_op op_mulW (pe_op op_mulW (pe_bm PySem.F.plainAttrs_list PySem.F.slot_list_count PySem.F.type_list_count mt_lcount (pv 13) (pa_cons pe_int pa_nil)) (pv 7)) (pv 4)) (pv 6))))
      (pss_cons (ps_set (i := 18) sc__law_totals.nd rfl (.inl rfl) (pe_hasN h__law_due (hr.mono (by decide)) (pa_cons (pv 17) (pa_cons (pe_op op_mulW (pe_op op_mulW (pv 4) (pv 6)) (pv 8)) pa_nil))))
      (pss_cons (ps_if (PW.pt (pw_or (pt_cmpR (op_neD hr.units) (pe_hasR h__law_total (hr.mono (by decide)) tk (pa_cons (pv 14) pa_nil)) (pv 18) (nomark _)) (pw_or1 (pt_cmpR (op_neD hr.units) (pe_hasR h__law_total (hr.mono (by decide)) tk (pa_cons (pe_callTy call_tuple_of (by rfl) T.z_tuple (by decide +kernel) (pa_cons (pv 14) pa_nil)) pa_nil)) (pv 18) (nomark _))))) (pss_one (ps_ret pe_bl)) pss_nil)
      (pss_cons (ps_setLc (i := 19) (own := [("told", 22)]) rfl sc__law_totals.nd rfl rfl (sw_true rfl rfl rfl (by decide +kernel)) (pi_list (pv 14)) (blkOk_by (own := [("told", 22)]) (N := ["tape", "first", "second", "num", "den", "top", "under", "little", "small", "parts", "ratios", "pairs", "many", "line", "passed", "ones", "others", "total", "due", "kept", "part", "k", "told"]) (sc := defScope s__law_totals) (by decide +kernel)) (fun _ _ _ _ _ => (pg_name (i := 22) sc__law_totals.nd rfl (.inl rfl))) (fun _ _ _ _ _ => pts_nil) (fun _ _ _ _ _ => (pe_hasN h__law_pair (hr.mono (by decide)) (pa_cons (pv 22) pa_nil))))
      (pss_one (ps_ret (pe_cmpR (op_eqD hr.units) (pv 19) (pe_lc (own := [("k", 21)]) rfl sc__law_totals.nd (pi_list (pv 13)) (blkOk_by (own := [("k", 21)]) (N := ["tape", "first", "second", "num", "den", "top", "under", "little", "small", "parts", "ratios", "pairs", "many", "line", "passed", "ones", "others", "total", "due", "kept", "part", "k", "told"]) (sc := defScope s__law_totals) (by decide +kernel)) (fun _ _ _ _ _ => (pg_name (i := 21) sc__law_totals.nd rfl (.inl rfl))) (fun _ _ _ _ _ => pts_nil) (fun _ _ _ _ _ => (pe_ix (ix_listK K) (pv 11) (pv 21) (fun _ _ => rfl)))) (nomark _)))))))))))))))))))))), ?_⟩
    refine q_unp2 (ev_var rfl) (st_of hf) fun H1 e1 => ?_
    refine q_unp2 (ev_var rfl) (st_of (e1 g _ hg)) fun H2 e2 => ?_
    refine q_asgR (go_take (many := 12) (salt := 9) (ea_cons (ev_var rfl) (ea_cons ev_c (ea_cons ev_c ea_nil))) (by decide) (ht.mono (e1.trans e2)) fun r0 H3 a0 a1 c3 t3 => ?_)
    obtain ⟨li, hli⟩ : ∃ z, r0 - 5 = z := ⟨_, rfl⟩
    refine rIc_go (z := li) ?li1 ?li2
    case li1 =>
      show V.int (r0 - 5) = V.int li
      rw [hli]
    refine q_asgR (op_raw (K := K) ev_c fun H4 e4 => go_take (many := 12) (salt := 6) (ea_cons (ev_var rfl) (ea_cons ev_c (ea_cons ev_c ea_nil))) (by decide) (t3.mono e4) fun r1 H5 a2 a3 c5 t5 => ?_)
    obtain ⟨sm, hsm⟩ : ∃ z, 1 + r1 = z := ⟨_, rfl⟩
    refine rI0_go (z := sm) ?sm1 ?sm2
    case sm1 =>
      show V.int (1 + r1) = V.int sm
      rw [hsm]
    have C5 : But p H H5 := (But.of (e1.trans e2)).trans (c3.trans ((But.of e4).trans c5))
    have bp := B_pos
    have b3 : Bd li sm := ⟨by omega, by omega, by omega, by omega⟩
    obtain ⟨p1, q1, rp1⟩ := b1.rep
    obtain ⟨p2, q2, rp2⟩ := b2.rep
    obtain ⟨p3, q3, rp3⟩ := b3.rep
    have hfk : ∀ k, 0 ≤ k ∧ k < 4 → Rep (nK n1 n2 li k) (dK d1 d2 sm k) (fK p1 q1 p2 q2 p3 q3 k).1 (fK p1 q1 p2 q2 p3 q3 k).2 ∧ Bd (nK n1 n2 li k) (dK d1 d2 sm k) := fun k hk => by
      rcases four hk with rfl | rfl | rfl | rfl
      · exact ⟨rp1, b1⟩
      · exact ⟨rp2, b2⟩
      · exact ⟨rp1.neg, b1.neg⟩
      · exact ⟨rp3, b3⟩
    generalize hF : fK p1 q1 p2 q2 p3 q3 = F at hfk
    clear hF rp1 rp2 rp3 p1 q1 p2 q2 p3 q3
    -- parts
    refine q_asgLP (ap_consU (eu_tup (vs := [.int n1, .int d1]) (ea_cons (ev_var rfl) (ea_cons (ev_var rfl) ea_nil)) (by show 2 ≤ 100000; decide)) (ap_consU (eu_tup (vs := [.int n2, .int d2]) (ea_cons (ev_var rfl) (ea_cons (ev_var rfl) ea_nil)) (by show 2 ≤ 100000; decide)) (ap_consU (eu_tup (vs := [.int (-n1), .int d1]) (ea_cons (ev_neg (ev_var rfl)) (ea_cons (ev_var rfl) ea_nil)) (by show 2 ≤ 100000; decide)) (ap_consU (eu_tup (vs := [.int li, .int sm]) (ea_cons (ev_var rfl) (ea_cons (ev_var rfl) ea_nil)) (by show 2 ≤ 100000; decide)) ap_nil)))) (fun lp vs H6 H7 e6 hp hlp he => ?_) (fun vs H1 hp => by
      obtain ⟨_, _, rfl, _, _, _, rfl, _, _, _, rfl, _, _, _, rfl, _, rfl⟩ := hp
      show 4 ≤ 100000
      decide)
    obtain ⟨x0, _, rfl, g0, x1, _, rfl, g1, x2, _, rfl, g2, x3, _, rfl, g3, rfl⟩ := hp
    have X7 : Ex H6 H7 := by rw [he]; exact Ex.new hlp
    have gl : H7 lp = some (.lst [.ref x0, .ref x1, .ref x2, .ref x3]) := by rw [he]; exact upd_same
    have part : ∀ (i : Nat) (x : V), [V.ref x0, .ref x1, .ref x2, .ref x3][i]? = some x → ∃ t, x = .ref t ∧ H7 t = some (.tup [.int (nK n1 n2 li i), .int (dK d1 d2 sm i)]) ∧ (0 ≤ (i : Int) ∧ (i : Int) < 4) := fun i x hx => by
      rcases i with _ | _ | _ | _ | i
      · obtain rfl : V.ref x0 = x := by simpa using hx
        exact ⟨x0, rfl, X7 x0 _ g0, by omega⟩
      · obtain rfl : V.ref x1 = x := by simpa using hx
        exact ⟨x1, rfl, X7 x1 _ g1, by omega⟩
      · obtain rfl : V.ref x2 = x := by simpa using hx
        exact ⟨x2, rfl, X7 x2 _ g2, by omega⟩
      · obtain rfl : V.ref x3 = x := by simpa using hx
        exact ⟨x3, rfl, X7 x3 _ g3, by omega⟩
      · simp at hx
    clear he g0 g1 g2 g3
    -- ratios
    refine q_asgLG (lg_lcL (fun i v H => ∃ a, v = .ref a ∧ Rt CR H a (F i).1 (F i).2) (fun i => solid_rt CR (F i)) (ev_var rfl) (sq_of gl) (by show 4 ≤ 40000; decide) (fun x => rfl) fun i x H8 e8 hx => ?_) fun lr ys H8 hlr e8 gr ny py => ?_
    · obtain ⟨t, rfl, gt, hi⟩ := part i x hx
      have gt8 := e8 t _ gt
      obtain ⟨rk, bk⟩ := hfk i hi
      exact eg_I (ei_mak (n := nK n1 n2 li i) (d := dK d1 d2 sm i) (dvs := []) (ea_cons (ev_op (ev_var rfl) ev_c (rv_ixT (st_of gt8) (atI_nat (j := 0) rfl))) (ea_cons (ev_op (ev_var rfl) ev_c (rv_ixT (st_of gt8) (atI_nat (j := 1) rfl))) ea_nil)) rfl (bd_mk bk rk))
    -- pairs
    refine q_asgLG (lg_lcL (fun i v H => ∃ a, v = .ref a ∧ H a = some (.tup (encV (.ok (F i))))) (fun i => solid_tup (encV (.ok (F i)))) (ev_var rfl) (sq_of (e8 lp _ gl)) (by show 4 ≤ 40000; decide) (fun x => rfl) fun i x H9 e9 hx => ?_) fun lq zs H9 hlq e9 gq nz pz => ?_
    · obtain ⟨t, rfl, gt, hi⟩ := part i x hx
      have gt9 := (e8.trans e9) t _ gt
      obtain ⟨rk, bk⟩ := hfk i hi
      rw [show (.ok (F i) : Except Int (Int × Int)) = due (nK n1 n2 li i) (dK d1 d2 sm i) from rk.due.symm]
      exact eg_U (eu_due (ea_cons (ev_op (ev_var rfl) ev_c (rv_ixT (st_of gt9) (atI_nat (j := 0) rfl))) (ea_cons (ev_op (ev_var rfl) ev_c (rv_ixT (st_of gt9) (atI_nat (j := 1) rfl))) ea_nil)) (sm_V bk.sn) (sm_V bk.sd))
    have X9 : Ex H5 H9 := ((e6.trans X7).trans e8).trans e9
    have t9 := t5.mono X9
    have nr : lr ≠ p := (t5.mono (e6.trans X7)).ne hlr
    have nq : lq ≠ p := (t5.mono ((e6.trans X7).trans e8)).ne hlq
    have gr9 := e9 lr _ gr
    refine q_take (many := 7) (salt := 4) (ea_cons (ev_var rfl) (ea_cons ev_c (ea_cons ev_c ea_nil))) (by decide) t9 fun m HA m0 m1 cA tA => ?_
    refine q_line (p := p) (m := m) (many := 4) (ea_cons (ev_var rfl) ea_nil) (by omega) (by decide) tA (fun x => rfl) (fun z H1 => ⟨z, ea_cons (ev_var rfl) (ea_cons ev_c (ea_cons (ev_var rfl) ea_nil))⟩) fun l0 k0 HB cB tB nl0 gl0 hl0 hk0 => ?_
    have CB := cA.trans cB
    have grB := CB lr _ nr gr9
    have gqB := CB lq _ nq gq
    have pyB : ∀ (i : Nat) (y : V), ys[i]? = some y → ∃ a, y = .ref a ∧ Rt CR HB a (F i).1 (F i).2 := fun i y hy => by
      obtain ⟨a, h1, dx, h2⟩ := py i y hy
      exact ⟨a, h1, dx, CB.ins t9 (e9 a _ h2)⟩
    have pzB : ∀ (i : Nat) (y : V), zs[i]? = some y → ∃ a, y = .ref a ∧ HB a = some (.tup (encV (.ok (F i)))) := fun i y hy => by
      obtain ⟨a, h1, h2⟩ := pz i y hy
      exact ⟨a, h1, CB.tup t9 h2⟩
    have DB := C5.trans ((But.of X9).trans CB)
    have ny4 : ys.length = 4 := ny
    have nz4 : zs.length = 4 := nz
    clear py pz gq gr gr9 part gl ny nz
    -- the list of places
    refine q_cut (M := fun σ' H' => ∃ l ks, σ' = [some (.ref p), some (.ref f), some (.ref g), some (.int n1), some (.int d1), some (.int n2), some (.int d2), some (.int li), some (.int sm), some (.ref lp), some (.ref lr), some (.ref lq), some (.int m), some (.ref l), none, none, none, none, none, none, none, none, none] ∧ Ex HB H' ∧ H' l = some (.lst (List.map V.int ks)) ∧ ks.length ≤ 1000 ∧ ∀ k ∈ ks, 0 ≤ k ∧ k < 4) ?many ?rest
    case many =>
      refine s_when (et_test (ev_op (ev_var rfl) ev_c (rv_eq rfl))) (fun hb HC eC => ?six) (fun hb HC eC => ?less)
      case less => exact ⟨l0, k0, rfl, eC, eC l0 _ gl0, by omega, hk0⟩
      case six =>
        have m6 := deq hb
        have i0 : 0 < k0.length := by omega
        have mem : k0.getD 0 0 ∈ k0 := by rw [List.getD_eq_getElem?_getD, List.getElem?_eq_getElem i0]; exact List.getElem_mem _
        refine s_asgL (el_rep (em_el (el_lst (vs := [.int (k0.getD 0 0)]) (ea_cons (ev_op (ev_var rfl) ev_c (rv_ixL (sq_of (eC l0 _ gl0)) (atI_nat (j := 0) (by rw [List.getElem?_map, List.getElem?_eq_getElem i0, List.getD_eq_getElem?_getD, List.getElem?_eq_getElem i0]; rfl)))) ea_nil) (by show 1 ≤ 100000; decide))) ev_c (by decide) (by show 1 * 1000 ≤ 100000; decide)) fun l HD hl eD gD => ?_
        refine ⟨l, List.replicate 1000 (k0.getD 0 0), rfl, eC.trans eD, ?_, by rw [List.length_replicate]; decide, fun k hk => ?_⟩
        · rw [gD, List.map_replicate, show (1000 : Int).toNat = 1000 from rfl, List.flatten_replicate_singleton]
        · rw [List.eq_of_mem_replicate hk]
          exact hk0 _ mem
    case rest =>
      rintro σ' HC ⟨l, ks, rfl, eC, gk, hl, hk⟩
      have T1 := tot_is (f := F) hk (fun k h => (hfk k h).1) b1.d0 b2.d0 b3.d0
      have sm4 : Sm 4 sm := Sm.of 12 (by omega) (by decide)
      have li4 : Sm 4 li := Sm.of 12 (by omega) (by decide)
      have tsz := tot_sm hl b1.sn b1.sd b2.sn b2.sd li4 sm4
      have mL : (List.map V.int ks).length = ks.length := List.length_map ..
      have at4 : ∀ (xs : List V), xs.length = 4 → ∀ k, 0 ≤ k ∧ k < 4 → atI xs k = some (xs.getD k.toNat .non) := fun xs hx k h => by
        have e : ((k.toNat : Nat) : Int) = k := by omega
        have hlt : k.toNat < xs.length := by omega
        have := atI_nat (xs := xs) (j := k.toNat) (v := xs.getD k.toNat .non) (by rw [List.getD_eq_getElem?_getD, List.getElem?_eq_getElem hlt]; rfl)
        rwa [e] at this
      -- passed
      have eP : ∀ (te : TE) (lx : Addr) (xs : List V) (ix : Nat) (σ1 : L2.St) (Hx : Hp), xs.length = 4 → True := fun _ _ _ _ _ _ _ => trivial
      refine q_asgL (xs := ks.map fun k => ys.getD k.toNat .non) ?lcP fun la HD hla eD ga => ?_
      case lcP =>
        rw [← given_mapV, ← mL]
        refine el_lcL (fun _ => true) _ (ev_var rfl) (sq_of gk) (by omega) (fun x => rfl) (fun i v H4 e4 hv => et_yes) fun i v H4 e4 hv _ => ?_
        obtain ⟨rfl, hi⟩ := at_ints hv
        have hki := hk (ks.getD i 0) (by rw [List.getD_eq_getElem?_getD, List.getElem?_eq_getElem hi]; exact List.getElem_mem _)
        exact ev_op (ev_var rfl) (ev_var rfl) (rv_ixL (sq_of ((eC.trans e4) lr _ grB)) (at4 ys ny4 _ hki))
      have XD := eC.trans eD
      have refsAt : ∀ (i : Nat) (v : V), (ks.map fun k => ys.getD k.toNat .non)[i]? = some v → ∃ b, v = .ref b ∧ Rt CR HD b (F (ks.getD i 0)).1 (F (ks.getD i 0)).2 ∧ i < ks.length ∧ (0 ≤ ks.getD i 0 ∧ ks.getD i 0 < 4) := fun i v hv => by
        rw [List.getElem?_map] at hv
        have hi : i < ks.length := by
          cases e : ks[i]? with
          | none => rw [e] at hv; cases hv
          | some z => exact (List.getElem?_eq_some_iff.mp e).1
        have e : ks[i]? = some (ks.getD i 0) := by rw [List.getD_eq_getElem?_getD, List.getElem?_eq_getElem hi]; rfl
        rw [e] at hv
        have hki := hk (ks.getD i 0) (List.mem_of_getElem? e)
        have hlt : (ks.getD i 0).toNat < ys.length := by omega
        obtain ⟨b, h1, h2⟩ := pyB (ks.getD i 0).toNat _ (List.getElem?_eq_getElem hlt)
        have ev : ys.getD (ks.getD i 0).toNat .non = v := Option.some.inj hv
        rw [List.getD_eq_getElem?_getD, List.getElem?_eq_getElem hlt] at ev
        have e2 : (((ks.getD i 0).toNat : Nat) : Int) = ks.getD i 0 := by omega
        rw [e2] at h2
        refine ⟨b, ?_, h2.mono XD, hi, hki⟩
        rw [← ev]
        exact h1
      have hR : Rts CR HD (ks.map fun k => ys.getD k.toNat .non) (ks.map F) := ⟨by rw [List.length_map, List.length_map], fun i v hv => by
        obtain ⟨b, h1, h2, hi, hki⟩ := refsAt i v hv
        refine ⟨b, F (ks.getD i 0), h1, ?_, h2, (hfk _ hki).1.g⟩
        rw [List.getElem?_map, List.getD_eq_getElem?_getD, List.getElem?_eq_getElem hi]
        rfl⟩
      have gkD := eD l _ gk
      -- counts
      refine q_asg (v := .int ((ks.count 0 : Nat) - (ks.count 2 : Nat))) (ev_op (ev_cnt (ev_var rfl) (sq_of gkD) (ea_cons ev_c ea_nil)) (ev_cnt (ev_var rfl) (sq_of gkD) (ea_cons ev_c ea_nil)) rv_I0) fun HE eE => ?_
      refine q_asg (ev_cnt (ev_var rfl) (sq_of (eE l _ gkD)) (ea_cons ev_c ea_nil)) fun HF eF => ?_
      have c0 := cnt_sm ks 0 hl
      have c1 := cnt_sm ks 1 hl
      have c2 := cnt_sm ks 2 hl
      have c3 := cnt_sm ks 3 hl
      have sx := (c0.sub c2).mul b1.sn
      have sx2 := sx.mul b2.sd
      have sy := c1.mul b2.sn
      have sy2 := sy.mul b1.sd
      refine q_asg (ev_mulW (ev_op (ev_mulW (ev_mulW (ev_var rfl) (ev_var rfl) (cMulW (c0.sub c2) b1.sn)) (ev_var rfl) (cMulW sx b2.sd)) (ev_mulW (ev_mulW (ev_var rfl) (ev_var rfl) (cMulW c1 b2.sn)) (ev_var rfl) (cMulW sy b1.sd)) rv_I0) (ev_var rfl) (cMulW (sx2.add (sy2.mono (by decide))) sm4)) fun HG eG => ?_
      have gkG := (eE.trans (eF.trans eG)) l _ gkD
      refine q_asg (v := .int (totI ks n1 d1 n2 d2 li sm)) (ev_op (ev_var rfl) (ev_mulW (ev_mulW (ev_mulW (ev_cnt (ev_var rfl) (sq_of gkG) (ea_cons ev_c ea_nil)) (ev_var rfl) (cMulW c3 li4)) (ev_var rfl) (cMulW (c3.mul li4) b1.sd)) (ev_var rfl) (cMulW ((c3.mul li4).mul b1.sd) b2.sd)) rv_I0) fun HH eH => ?_
      have dd := b1.sd.mul b2.sd
      have D0 : 0 < d1 * d2 * sm := Int.mul_pos (Int.mul_pos b1.d0 b2.d0) b3.d0
      have Dz : Sm 13292 (d1 * d2 * sm) := dd.mul sm4
      refine q_asgU (eu_due (n := totI ks n1 d1 n2 d2 li sm) (d := d1 * d2 * sm) (ea_cons (ev_var rfl) (ea_cons (ev_mulW (ev_mulW (ev_var rfl) (ev_var rfl) (cMulW b1.sd b2.sd)) (ev_var rfl) (cMulW dd sm4)) ea_nil)) (sm_V tsz) (sm_V Dz)) fun ld HI hld eI gd => ?_
      have XI : Ex HD HI := eE.trans (eF.trans (eG.trans (eH.trans eI)))
      rw [← T1.low] at gd
      have gaI := XI la _ ga
      have DB5 : d1 * d2 * sm ≤ B ^ 5 := by
        have m1 : d1 * d2 ≤ B * B := Int.mul_le_mul b1.dB b2.dB (Int.le_of_lt b2.d0) (by omega)
        have m2 : d1 * d2 * sm ≤ B * B * 12 := Int.mul_le_mul m1 (by omega) (Int.le_of_lt b3.d0) (Int.mul_nonneg (by omega) (by omega))
        exact Int.le_trans m2 B5
      have Sz : Sm 13500 (sumP (ks.map F) (lcP (ks.map F))) := Nat.lt_of_le_of_lt T1.le (sm_V tsz)
      have pl : (ks.map F).length ≤ 1000 := by rw [List.length_map]; exact hl
      refine q_when (b := false) (et_is (et_or (et_neUV (eu_totalL (K := K) (ap_cons (ev_var rfl) ap_nil) (fun vs H1 ⟨_, h1, h2⟩ e => ⟨la, by rw [h1, h2], .inl (sq_of (e la _ gaI))⟩) (hR.mono XI) pl D0 DB5 (sm_V Dz) T1.dvd Sz) (ev_var rfl) (st_of gd)) fun _ => et_neUV (eu_totalL (K := K) (ap_consU (eu_tuple (ev_var rfl) (sq_of gaI)) ap_nil) (fun vs H1 ⟨a, _, h1, h3, h2⟩ e => ⟨a, by rw [h1, h2], .inr (st_of h3)⟩) (hR.mono XI) pl D0 DB5 (sm_V Dz) T1.dvd Sz) (ev_var rfl) (st_of gd)) rfl) (fun hb => Bool.noConfusion hb) fun _ HJ eJ => ?_
      have XJ := XI.trans eJ
      -- kept
      refine q_asgLG (lg_lcL (fun i v H => ∃ a, v = .ref a ∧ H a = some (.tup (encV (.ok (F (ks.getD i 0)))))) (fun i => solid_tup _) (ev_var rfl) (sq_of (XJ la _ ga)) (by rw [List.length_map]; omega) (fun x => rfl) fun i x HK eK hx => ?_) fun lk ws HL hlk eL gw nw pw => ?_
      · obtain ⟨b, rfl, hb, hi, hki⟩ := refsAt i x hx
        exact eg_U (eu_pairV (ea_cons (ev_var rfl) ea_nil) (hb.mono (XJ.trans eK)))
      have XL := XD.trans (XJ.trans eL)
      have gkL := (XJ.trans eL) l _ gkD
      refine s_ret (v := .bl true) (ev_opL (xs := ks.map fun k => zs.getD k.toNat .non) (ev_var rfl) ?lcQ fun lz HM gz eM => ?_) fun HN eN => h HN (DB.trans (But.of (XL.trans eN)))
      case lcQ =>
        rw [← given_mapV, ← mL]
        refine el_lcL (fun _ => true) _ (ev_var rfl) (sq_of gkL) (by omega) (fun x => rfl) (fun i v H4 e4 hv => et_yes) fun i v H4 e4 hv _ => ?_
        obtain ⟨rfl, hi⟩ := at_ints hv
        have hki := hk (ks.getD i 0) (by rw [List.getD_eq_getElem?_getD, List.getElem?_eq_getElem hi]; exact List.getElem_mem _)
        exact ev_op (ev_var rfl) (ev_var rfl) (rv_ixL (sq_of ((XL.trans e4) lq _ gqB)) (at4 zs nz4 _ hki))
      have look : ∀ i, i < ks.length → ((ks.map fun k => (.ok (F k) : Except Int (Int × Int))).map fun r => PyData.tuple (dsEnc r))[i]? = some (.tuple (dsEnc (.ok (F (ks.getD i 0))))) := fun i hi => by
        rw [List.getElem?_map, List.getElem?_map, List.getD_eq_getElem?_getD, List.getElem?_eq_getElem hi]
        rfl
      refine rv_eqD (d := .list ((ks.map fun k => (.ok (F k) : Except Int (Int × Int))).map fun r => PyData.tuple (dsEnc r))) (f := .list ((ks.map fun k => (.ok (F k) : Except Int (Int × Int))).map fun r => PyData.tuple (dsEnc r))) (.lst (sq_of (eM lk _ gw)) (dpAll_of _ _ (by rw [nw, List.length_map, List.length_map, List.length_map]) fun i y hy => ?_)) (.lst (sq_of gz) (dpAll_of _ _ (by rw [List.length_map, List.length_map, List.length_map]) fun i y hy => ?_)) (shapedL _) (shapedL _) (eqvL _)
      · have hi : i < ks.length := by
          have := (List.getElem?_eq_some_iff.mp hy).1
          rw [nw, List.length_map] at this
          exact this
        obtain ⟨a, rfl, ha⟩ := pw i y hy
        exact ⟨_, look i hi, dpT (r := .ok (F (ks.getD i 0))) (st_of (eM a _ ha))⟩
      · have hi : i < ks.length := by
          have := (List.getElem?_eq_some_iff.mp hy).1
          rw [List.length_map] at this
          exact this
        have e : ks[i]? = some (ks.getD i 0) := by rw [List.getD_eq_getElem?_getD, List.getElem?_eq_getElem hi]; rfl
        have hki := hk (ks.getD i 0) (List.mem_of_getElem? e)
        have hlt : (ks.getD i 0).toNat < zs.length := by omega
        obtain ⟨a, h1, h2⟩ := pzB (ks.getD i 0).toNat _ (List.getElem?_eq_getElem hlt)
        have e2 : (((ks.getD i 0).toNat : Nat) : Int) = ks.getD i 0 := by omega
        rw [e2] at h2
        rw [List.getElem?_map, e] at hy
        have ey : zs.getD (ks.getD i 0).toNat .non = y := Option.some.inj hy
        rw [List.getD_eq_getElem?_getD, List.getElem?_eq_getElem hlt] at ey
        refine ⟨_, look i hi, ?_⟩
        rw [← ey]
        show Dp K HM zs[(ks.getD i 0).toNat] _
        rw [h1]
        exact dpT (r := .ok (F (ks.getD i 0))) (st_of ((XL.trans eM) a _ h2))
end
end K1
set_option exponentiation.threshold 20000
namespace K1
open PySem PySem.Spec PyProof.Rows L2 Evl Nd
local macro_rules | `(tactic| walk_at "ev") => `(tactic| first
  | exact ev_var rfl
  | exact ev_c
  | (apply ev_op; (walk_at "ev"); (walk_at "ev"); (walk_at "rv"))
  | (apply ev_un; (walk_at "ev"); (walk_at "rv"))
  | (apply ev_lenS; (walk_at "ev"); (walk_at "sq"))
  | (apply ev_andV; (walk_at "ev"); (intro _; walk_at "ev"))
  | (apply ev_orV; (walk_at "ev"); (intro _; walk_at "ev"))
  | (apply ev_notV; (walk_at "ev")))
local macro_rules | `(tactic| walk_at "rv") => `(tactic| first
  | exact rv_I0
  | exact ru_neg
  | exact rv_eq rfl
  | exact rv_ne rfl
  | exact rv_I (by decide)
  | exact rv_I (by first | omega | exact .inl (by omega) | exact .inr (by omega) | (constructor <;> omega)))
local macro_rules | `(tactic| walk_at "sq") => `(tactic| first
  | assumption
  | exact SqS.lst (by assumption)
  | exact SqS.tup (by assumption)
  | exact Or.inl (by assumption)
  | exact Or.inr (by assumption)
  | (refine SqS.mono (by assumption) ?_; walk_at "sq"))
local macro_rules | `(tactic| walk_at "et") => `(tactic| first
  | (apply et_or; (walk_at "et"); (intro _; walk_at "et"))
  | (apply et_and; (walk_at "et"); (intro _; walk_at "et"))
  | (apply et_not; (walk_at "et"))
  | (apply et_test; (walk_at "ev"))
  | (apply et_B; (walk_at "ev")))
local macro_rules | `(tactic| walk_at "ea") => `(tactic| first
  | exact ea_nil
  | (apply ea_cons; (walk_at "ev"); (walk_at "ea")))
section
variable {P : Program} {w : World} {K : PySem.W.Frag} {mg : Str → Option Value} {base : Heap} {CO CS CN CR : Addr}
/-! ### the law -/
theorem go_number {ta : TA} {σ : L2.St} {H : Hp} {Q : VK} {E : L2.St → XK} {p : Addr} {salt : Int} (h : EvA ta σ H [.ref p, .int salt]) (ht : Tape H p) (k : ∀ z H2, 0 ≤ z → z ≤ B → But p H H2 → Tape H2 p → Q (.int z) H2) :
    tCallS spNumber E ta σ H Q := h H (Ex.refl H) _ fun H1 e1 => ⟨p, salt, rfl, ht.mono e1, fun z H2 a b c d => k z H2 a b ((But.of e1).trans c) d⟩
theorem q_signed {ta : TA} {σ : L2.St} {H : Hp} {D : Ends} {tz : TS} {E : L2.St → XK} {p : Addr} {salt : Int} {i : Nat} (h : EvA ta σ H [.ref p, .int salt]) (ht : Tape H p) (k : ∀ z H2, -B ≤ z → z ≤ B → But p H H2 → Tape H2 p → tz D (σ.set i (some (.int z))) H2) :
    tSeq (tAsg (tCallS spSigned E ta) (gName i)) tz D σ H := h H (Ex.refl H) _ fun H1 e1 => ⟨p, salt, rfl, ht.mono e1, fun z H2 a b c d => k z H2 a b ((But.of e1).trans c) d⟩
theorem q_tape {ta : TA} {σ : L2.St} {H : Hp} {D : Ends} {tz : TS} {E : L2.St → XK} {a : Addr} {ns : List Int} {i : Nat} (h : EvA ta σ H [.ref a]) (hS : SqL K H a (ns.map V.int)) (k : ∀ p H2, H p = none → Ex H H2 → Tape H2 p → tz D (σ.set i (some (.ref p))) H2) :
    tSeq (tAsg (tCallS (spTape K) E ta) (gName i)) tz D σ H := h H (Ex.refl H) _ fun H1 e1 => ⟨a, ns, rfl, ex_l e1 hS, fun p H2 hp e2 t => k p H2 (fresh_back e1 hp) (e1.trans e2) t⟩
/-- (x, max(1, number)) -/
theorem q_first {te : TE} {ta : TA} {σ : L2.St} {H : Hp} {D : Ends} {tz : TS} {E : L2.St → XK} {p : Addr} {salt x : Int} {i : Nat} (hx : Ev te σ H (.int x)) (h : EvA ta σ H [.ref p, .int salt]) (ht : Tape H p)
    (k : ∀ z l H2, 1 ≤ z → z ≤ B → But p H H2 → Tape H2 p → H2 l = some (.tup [.int x, .int z]) → tz D (σ.set i (some (.ref l))) H2) :
    tSeq (tAsg (tTup (tCons te (tCons (tCB rMax2 (tCons (tC (.int 1)) (tCons (tCallS spNumber E ta) tNil))) tNil))) (gName i)) tz D σ H := hx H (Ex.refl H) _ fun H1 e1 => go_number (h.mono e1) (ht.mono e1) fun z H2 z0 z1 b t => by
  have bp := B_pos
  refine ⟨1, z, rfl, by show 2 ≤ sizeLine; decide, fun l hl => k (if z > 1 then z else 1) l _ (by split <;> omega) (by split <;> omega) (((But.of e1).trans b).trans (But.of (Ex.new hl))) (t.mono (Ex.new hl)) upd_same⟩
def spLaw (K : PySem.W.Frag) : Sp := fun vs H Q E => ∃ (a : Addr) (ns : List Int), vs = [.ref a] ∧ SqL K H a (ns.map V.int) ∧ RetV (.bl true) H Q
theorem el_is3 {te : TE} {σ : L2.St} {H : Hp} {xs ys : List V} (h : EvL te σ H xs) (e : xs = ys := by rfl) : EvL te σ H ys := by rw [← e]; exact h
theorem tRV {te : TE} {σ : L2.St} {H : Hp} (h : Ev te σ H (.bl true)) : EvT (tNot (tTest te)) σ H false := et_is (et_not (et_test h)) rfl
theorem ok_law (T : Tx P w K mg base CO CS CN CR) (h__law_back : Has P w K mg base 10 "_law_back" ["one", "first", "other", "second"] (spBack K CR)) (h__law_int : HasA P w K mg base 4 "_law_int" ["told"] (spInt)) (h__law_number : Has P w K mg base 5 "_law_number" ["tape", "salt"] (spNumber)) (h__law_operations : Has P w K mg base 10 "_law_operations" ["signs", "one", "first", "other", "second"] (spOps K CR)) (h__law_order : Has P w K mg base 9 "_law_order" ["one", "first", "other", "second"] (spOrder K CR)) (h__law_pair : Has P w K mg base 5 "_law_pair" ["told"] (spPair CR)) (h__law_result : Has P w K mg base 6 "_law_result" ["sign", "first", "second"] (spResult K)) (h__law_signed : Has P w K mg base 6 "_law_signed" ["tape", "salt"] (spSigned)) (h__law_single : Has P w K mg base 10 "_law_single" ["one", "first"] (spRounded K CR)) (h__law_tape : Has P w K mg base 4 "_law_tape" ["script"] (spTape K)) (h__law_told : Has P w K mg base 9 "_law_told" ["sign", "one", "other"] (spTold CR)) (h__law_totals : Has P w K mg base 12 "_law_totals" ["tape", "first", "second"] (spTotals K)) (h_R_eq : HasF P w K mg base 4 CR "__eq__" ["self", "other"] (spEq CR)) (h_R_mak : MakC P w K mg base 4 CR "Ratio" ["self", "num", "den"] (spMk CR CN)) (h_R_mkd : MakD P w K mg base 4 CR "Ratio" ["self", "num", "den"] (spMk CR CN) 1) {fL : Addr} {fdL : FuncData} (D : Fun K "law" "law" s_law fL fdL) : FnOk P w K mg base (L2.CX P w) 14 fL fdL ["script"] (spLaw K) := by
  refine D.okX sc_law (fun vs H Q E h => ?len) (fun cdv A outer s H vs Q E hr h => ?body)
  case len =>
    obtain ⟨_, _, rfl, _, _⟩ := h
    rfl
  case body =>
    have tk : Takes (cxOf (L2.CX P w) P w K mg base ["script", "tape", "top", "first", "second", "whole", "one", "other", "third", "same", "signs"] "law" (defScope s_law) fL cdv A outer s H E) (fun cls d _ H => E cls d H) := takes_of rfl rfl rfl rfl
    obtain ⟨a, ns, rfl, hS, h⟩ := h
    refine ⟨_, (pss_cons (ps_if (PW.pt (pw_or (pt_not (pt_val (pe_hasN h__law_int.has (hr.mono (by decide)) (pa_cons (pe_cst T.c_MOST) pa_nil)))) (pw_or1 (pt_cmpR op_ne (pe_cst T.c_MOST) (pe_op op_powW (pe_op op_powW pe_int pe_int) pe_int) (nomark _))))) (pss_one (ps_ret pe_bl)) pss_nil)
      (pss_cons (ps_set (i := 1) sc_law.nd rfl (.inl rfl) (pe_hasN h__law_tape (hr.mono (by decide)) (pa_cons (pv 0) pa_nil)))
      (pss_cons (ps_set (i := 2) sc_law.nd rfl (.inl rfl) (pe_hasN h__law_signed (hr.mono (by decide)) (pa_cons (pv 1) (pa_cons pe_int pa_nil))))
      (pss_cons (ps_set (i := 3) sc_law.nd rfl (.inl rfl) (pe_tup (pa_cons (pv 2) (pa_cons (pe_callB (call_max2 rfl) (by rfl) T.z_max (by decide +kernel) (pa_cons pe_int (pa_cons (pe_hasN h__law_number (hr.mono (by decide)) (pa_cons (pv 1) (pa_cons pe_int pa_nil))) pa_nil))) pa_nil))))
      (pss_cons (ps_set (i := 2) sc_law.nd rfl (.inl rfl) (pe_hasN h__law_signed (hr.mono (by decide)) (pa_cons (pv 1) (pa_cons pe_int pa_nil))))
      (pss_cons (ps_set (i := 4) sc_law.nd rfl (.inl rfl) (pe_tup (pa_cons (pv 2) (pa_cons (pe_callB (call_max2 rfl) (by rfl) T.z_max (by decide +kernel) (pa_cons pe_int (pa_cons (pe_hasN h__law_number (hr.mono (by decide)) (pa_cons (pv 1) (pa_cons pe_int pa_nil))) pa_nil))) pa_nil))))
      (pss_cons (ps_set (i := 5) sc_law.nd rfl (.inl rfl) (pe_hasN h__law_signed (hr.mono (by decide)) (pa_cons (pv 1) (pa_cons pe_int pa_nil))))
      (pss_cons (ps_set (i := 6) sc_law.nd rfl (.inl rfl) (pe_makR h_R_mak (hr.mono (by decide)) tk (pa_cons (pe_ix ix_tup (pv 3) pe_int (fun _ _ => rfl)) (pa_cons (pe_ix ix_tup (pv 3) pe_int (fun _ _ => rfl)) pa_nil))))
      (pss_cons (ps_set (i := 7) sc_law.nd rfl (.inl rfl) (pe_makR h_R_mak (hr.mono (by decide)) tk (pa_cons (pe_ix ix_tup (pv 4) pe_int (fun _ _ => rfl)) (pa_cons (pe_ix ix_tup (pv 4) pe_int (fun _ _ => rfl)) pa_nil))))
      (pss_cons (ps_set (i := 8) sc_law.nd rfl (.inl rfl) (pe_makD h_R_mkd (hr.mono (by decide)) tk (pa_cons (pv 5) pa_nil)))
      (pss_cons (ps_if (PW.pt (pw_or (pt_not (pt_val (pe_hasR h__law_single (hr.mono (by decide)) tk (pa_cons (pv 6) (pa_cons (pv 3) pa_nil))))) (pw_or1 (pt_not (pt_val (pe_hasR h__law_single (hr.mono (by decide)) tk (pa_cons (pv 7) (pa_cons (pv 4) pa_nil)))))))) (pss_one (ps_ret pe_bl)) pss_nil)
      (pss_cons (ps_set (i := 9) sc_law.nd rfl (.inl rfl) (pe_cmpR (op_eqR h_R_eq T.nfI (hr.mono (by decide))) (pv 8) (pv 5) (nomark _)))
      (pss_cons (ps_if (PW.pt (pw_or (pt_cmpR (op_neD hr.units) (pe_hasN h__law_pair (hr.mono (by decide)) (pa_cons (pv 8) pa_nil)) (pe_tup (pa_cons pe_str (pa_cons (pv 5) (pa_cons pe_int pa_nil)))) (nomark _)) (pw_or1 (pt_cmpR op_isnotB (pv 9) pe_bl (nomark _))))) (pss_one (ps_ret pe_bl)) pss_nil)
      (pss_cons (ps_set (i := 10) sc_law.nd rfl (.inl rfl) (pe_lst (pa_cons pe_str (pa_cons pe_str (pa_cons pe_str (pa_cons pe_str pa_nil))))))
      (pss_cons (ps_if (pt_not (pt_val (pe_hasR h__law_operations (hr.mono (by decide)) tk (pa_cons (pv 10) (pa_cons (pv 6) (pa_cons (pv 3) (pa_cons (pv 7) (pa_cons (pv 4) pa_nil)))))))) (pss_one (ps_ret pe_bl)) pss_nil)
      (pss_cons (ps_if (pt_not (pt_val (pe_hasR h__law_operations (hr.mono (by decide)) tk (pa_cons (pv 10) (pa_cons (pv 7) (pa_cons (pv 4) (pa_cons (pv 6) (pa_cons (pv 3) pa_nil)))))))) (pss_one (ps_ret pe_bl)) pss_nil)
      (pss_cons (ps_if (pt_not (pt_val (pe_hasR h__law_operations (hr.mono (by decide)) tk (pa_cons (pv 10) (pa_cons (pv 6) (pa_cons (pv 3) (pa_cons (pv 6) (pa_cons (pv 3) pa_nil)))))))) (pss_one (ps_ret pe_bl)) pss_nil)
      (pss_cons (ps_if (pt_not (pt_val (pe_hasR h__law_operations (hr.mono (by decide)) tk (pa_cons (pe_slice sl_list (pv 10) po_none (po_some pe_int)) (pa_cons (pv 6) (pa_cons (pv 3) (pa_cons (pv 5) (pa_cons (pe_tup (pa_cons (pv 5) (pa_cons pe_int pa_nil))) pa_nil)))))))) (pss_one (ps_ret pe_bl)) pss_nil)
      (pss_cons (ps_if (pt_not (pt_val (pe_hasR h__law_order (hr.mono (by decide)) tk (pa_cons (pv 6) (pa_cons (pv 3) (pa_cons (pv 7) (pa_cons (pv 4) pa_nil))))))) (pss_one (ps_ret pe_bl)) pss_nil)
      (pss_cons (ps_if (pt_not (pt_val (pe_hasR h__law_order (hr.mono (by decide)) tk (pa_cons (pv 7) (pa_cons (pv 4) (pa_cons (pv 6) (pa_cons (pv 3) pa_nil))))))) (pss_one (ps_ret pe_bl)) pss_nil)
      (pss_cons (ps_if (pt_not (pt_val (pe_hasR h__law_order (hr.mono (by decide)) tk (pa_cons (pv 6) (pa_cons (pv 3) (pa_cons (pv 6) (pa_cons (pv 3) pa_nil))))))) (pss_one (ps_ret pe_bl)) pss_nil)
      (pss_cons (ps_if (pt_not (pt_val (pe_hasR h__law_order (hr.mono (by decide)) tk (pa_cons (pv 7) (pa_cons (pv 4) (pa_cons (pv 8) (pa_cons (pe_tup (pa_cons (pv 5) (pa_cons pe_int pa_nil))) pa_nil))))))) (pss_one (ps_ret pe_bl)) pss_nil)
      (pss_cons (ps_if (pt_not (pt_val (pe_hasR h__law_back (hr.mono (by decide)) tk (pa_cons (pv 6) (pa_cons (pv 3) (pa_cons (pv 7) (pa_cons (pv 4) pa_nil))))))) (pss_one (ps_ret pe_bl)) pss_nil)
      (pss_cons (ps_if (pt_not (pt_val (pe_hasR h__law_back (hr.mono (by decide)) tk (pa_cons (pv 7) (pa_cons (pv 4) (pa_cons (pv 6) (pa_cons (pv 3) pa_nil))))))) (pss_one (ps_ret pe_bl)) pss_nil)
      (pss_cons (ps_if (pt_not (pt_val (pe_hasR h__law_totals (hr.mono (by decide)) tk (pa_cons (pv 1) (pa_cons (pv 3) (pa_cons (pv 4) pa_nil)))))) (pss_one (ps_ret pe_bl)) pss_nil)
      (pss_cons (ps_if (PW.pt (pw_or (pt_not (pt_val (pe_hasR h__law_single (hr.mono (by decide)) tk (pa_cons (pv 6) (pa_cons (pv 3) pa_nil))))) (pw_or1 (pt_not (pt_val (pe_hasR h__law_single (hr.mono (by decide)) tk (pa_cons (pv 7) (pa_cons (pv 4) pa_nil)))))))) (pss_one (ps_ret pe_bl)) pss_nil)
      (pss_one (ps_ret (pe_cmpR (op_eqD hr.units) (pe_hasR h__law_told (hr.mono (by decide)) tk (pa_cons pe_str (pa_cons (pv 6) (pa_cons (pv 7) pa_nil)))) (pe_hasN h__law_result (hr.mono (by decide)) (pa_cons pe_str (pa_cons (pv 3) (pa_cons (pv 4) pa_nil)))) (nomark _)))))))))))))))))))))))))))))), ?_⟩
    refine q_when (b := false) (et_is (et_or (et_not (et_test (go_int (ea_cons ev_c ea_nil)))) fun _ => et_test (ev_op ev_c ev_B (rv_ne rfl))) (by simp)) (fun hb => Bool.noConfusion hb) fun _ H1 e1 => ?_
    refine q_tape (ea_cons (ev_var rfl) ea_nil) (ex_l e1 hS) fun p H3 hp e3 t3 => ?_
    have X3 : Ex H H3 := e1.trans e3
    have fp : H p = none := fresh_back e1 hp
    clear e1 e3 hp
    refine q_signed (p := p) (salt := 2) (ea_cons (ev_var rfl) (ea_cons ev_c ea_nil)) t3 fun n1 H4 n1a n1b c4 t4 => ?_
    refine q_first (p := p) (salt := 4) (ev_var rfl) (ea_cons (ev_var rfl) (ea_cons ev_c ea_nil)) t4 fun d1 f H5 d1a d1b c5 t5 g5 => ?_
    refine q_signed (p := p) (salt := 5) (ea_cons (ev_var rfl) (ea_cons ev_c ea_nil)) t5 fun n2 H6 n2a n2b c6 t6 => ?_
    refine q_first (p := p) (salt := 1) (ev_var rfl) (ea_cons (ev_var rfl) (ea_cons ev_c ea_nil)) t6 fun d2 g H7 d2a d2b c7 t7 g7 => ?_
    refine q_signed (p := p) (salt := 3) (ea_cons (ev_var rfl) (ea_cons ev_c ea_nil)) t7 fun w H8 wa wb c8 t8 => ?_
    have hf : H8 f = some (.tup [.int n1, .int d1]) := c8.tup t7 (c7.tup t6 (c6.tup t5 g5))
    have hg : H8 g = some (.tup [.int n2, .int d2]) := c8.tup t7 g7
    have b1 : Bd n1 d1 := ⟨n1a, n1b, d1b, by omega⟩
    have b2 : Bd n2 d2 := ⟨n2a, n2b, d2b, by omega⟩
    have X8 : But p H H8 := (But.of X3).trans (c4.trans (c5.trans (c6.trans (c7.trans c8))))
    have XX : Ex H H8 := X8.ex (Ex.refl H) fp
    clear c4 c5 c6 c7 c8 t3 t4 t5 t6 t7 g5 g7 X3 X8
    obtain ⟨p1, q1, r1⟩ := b1.rep
    obtain ⟨p2, q2, r2⟩ := b2.rep
    have gw : Good w 1 := good_int wa wb
    have bp := B_pos
    have bw : Bd w 1 := ⟨wa, wb, by omega, by decide⟩
    have rw1 : Rep w 1 w 1 := Rep.self gw
    refine q_asgI (ei_mak (dvs := []) (ea_cons (ev_op (ev_var rfl) ev_c (rv_ixT (st_of hf) (atI_nat (j := 0) rfl))) (ea_cons (ev_op (ev_var rfl) ev_c (rv_ixT (st_of hf) (atI_nat (j := 1) rfl))) ea_nil)) rfl (bd_mk b1 r1)) fun o x1 H9 ho e9 go => ?_
    refine q_asgI (ei_mak (dvs := []) (ea_cons (ev_op (ev_var rfl) ev_c (rv_ixT (st_of (e9 g _ hg)) (atI_nat (j := 0) rfl))) (ea_cons (ev_op (ev_var rfl) ev_c (rv_ixT (st_of (e9 g _ hg)) (atI_nat (j := 1) rfl))) ea_nil)) rfl (bd_mk b2 r2)) fun u x2 HA hu eA gu => ?_
    refine q_asgI (ei_mak (n := w) (d := 1) (dvs := [.int 1]) (ea_cons (ev_var rfl) ea_nil) rfl (bd_mk bw rw1)) fun v x3 HB hv eB gv => ?_
    have XB := (e9.trans eA).trans eB
    have hO : Rt CR HB o p1 q1 := ⟨x1, (eA.trans eB) o _ go⟩
    have hU : Rt CR HB u p2 q2 := ⟨x2, eB u _ gu⟩
    have hV : Rt CR HB v w 1 := ⟨x3, gv⟩
    have hF : SqT K HB f [.int n1, .int d1] := st_of (XB f _ hf)
    have hG : SqT K HB g [.int n2, .int d2] := st_of (XB g _ hg)
    have fB := XB f _ hf
    have gB := XB g _ hg
    have tB := t8.mono XB
    have XXB := XX.trans XB
    clear go gu gv hf hg XB XX e9 eA eB ho hu hv t8
    have single1 : ∀ (σ : L2.St) (ta : TA) (E : L2.St → XK) (H' : Hp), Ex HB H' → EvA ta σ H' [.ref o, .ref f] → Ev (tCallS (spRounded K CR) E ta) σ H' (.bl true) := fun σ ta E H' x hh => ev_callS hh fun H1 e1 Q' E' k => ⟨o, f, n1, d1, p1, q1, rfl, hO.mono (x.trans e1), ex_t (x.trans e1) hF, r1, b1, k⟩
    have single2 : ∀ (σ : L2.St) (ta : TA) (E : L2.St → XK) (H' : Hp), Ex HB H' → EvA ta σ H' [.ref u, .ref g] → Ev (tCallS (spRounded K CR) E ta) σ H' (.bl true) := fun σ ta E H' x hh => ev_callS hh fun H1 e1 Q' E' k => ⟨u, g, n2, d2, p2, q2, rfl, hU.mono (x.trans e1), ex_t (x.trans e1) hG, r2, b2, k⟩
    refine q_when (b := false) (et_is (et_or (et_not (et_test (single1 _ _ _ HB (Ex.refl HB) (ea_cons (ev_var rfl) (ea_cons (ev_var rfl) ea_nil))))) fun _ => et_not (et_test (single2 _ _ _ HB (Ex.refl HB) (ea_cons (ev_var rfl) (ea_cons (ev_var rfl) ea_nil))))) rfl) (fun hb => Bool.noConfusion hb) fun _ HC eC => ?_
    refine q_asg (ev_eqR (b := false) (ev_var rfl) (ev_var rfl) (hV.mono eC) (.inr ⟨w, rfl, rfl⟩)) fun HD eD => ?_
    have XD := eC.trans eD
    refine q_when (b := false) (et_is (et_or (et_neUU (r := .ok (w, 1)) (eu_pairV (E := fun _ => E0) (ea_cons (ev_var rfl) ea_nil) (hV.mono XD)) (eu_tup (vs := encV (.ok (w, 1))) (ea_cons ev_c (ea_cons (ev_var rfl) (ea_cons ev_c ea_nil))) (by show 3 ≤ 100000; decide))) fun _ => et_test (ev_notB (ev_var rfl) ev_c)) rfl) (fun hb => Bool.noConfusion hb) fun _ HE eE => ?_
    have XE := XD.trans eE
    refine q_asgL (el_lst (vs := [.str "+", .str "-", .str "*", .str "/"]) (ea_cons ev_c (ea_cons ev_c (ea_cons ev_c (ea_cons ev_c ea_nil)))) (by show 4 ≤ 100000; decide)) fun l HF hl eF gl => ?_
    have XF := XE.trans eF
    have dv : ∀ (b : Addr) (r s : Int) (H' : Hp) (o' : Sg), Rt CR H' b r s → o' = .div → ∃ b', V.ref b = .ref b' ∧ Rt CR H' b' r s := fun b r s H' o' h1 _ => ⟨b, rfl, h1⟩
    -- operations
    refine q_when (b := false) (tRV (ev_callS (ea_cons (ev_var rfl) (ea_cons (ev_var rfl) (ea_cons (ev_var rfl) (ea_cons (ev_var rfl) (ea_cons (ev_var rfl) ea_nil))))) fun H' e' Q' E' k => ⟨l, o, f, g, .ref u, [.add, .sub, .mul, .div], n1, d1, p1, q1, n2, d2, p2, q2, rfl, sq_of (e' l _ gl), hO.mono (XF.trans e'), ex_t (XF.trans e') hF, .inl ⟨u, rfl, hU.mono (XF.trans e')⟩, ex_t (XF.trans e') hG, r1, r2, b1, b2, fun o' _ => dv u p2 q2 H' o' (hU.mono (XF.trans e')), k⟩)) (fun hb => Bool.noConfusion hb) fun _ HG eG => ?_
    have XG := XF.trans eG
    have glG := eG l _ gl
    refine q_when (b := false) (tRV (ev_callS (ea_cons (ev_var rfl) (ea_cons (ev_var rfl) (ea_cons (ev_var rfl) (ea_cons (ev_var rfl) (ea_cons (ev_var rfl) ea_nil))))) fun H' e' Q' E' k => ⟨l, u, g, f, .ref o, [.add, .sub, .mul, .div], n2, d2, p2, q2, n1, d1, p1, q1, rfl, sq_of (e' l _ glG), hU.mono (XG.trans e'), ex_t (XG.trans e') hG, .inl ⟨o, rfl, hO.mono (XG.trans e')⟩, ex_t (XG.trans e') hF, r2, r1, b2, b1, fun o' _ => dv o p1 q1 H' o' (hO.mono (XG.trans e')), k⟩)) (fun hb => Bool.noConfusion hb) fun _ HI eI => ?_
    have XI := XG.trans eI
    have glI := eI l _ glG
    refine q_when (b := false) (tRV (ev_callS (ea_cons (ev_var rfl) (ea_cons (ev_var rfl) (ea_cons (ev_var rfl) (ea_cons (ev_var rfl) (ea_cons (ev_var rfl) ea_nil))))) fun H' e' Q' E' k => ⟨l, o, f, f, .ref o, [.add, .sub, .mul, .div], n1, d1, p1, q1, n1, d1, p1, q1, rfl, sq_of (e' l _ glI), hO.mono (XI.trans e'), ex_t (XI.trans e') hF, .inl ⟨o, rfl, hO.mono (XI.trans e')⟩, ex_t (XI.trans e') hF, r1, r1, b1, b1, fun o' _ => dv o p1 q1 H' o' (hO.mono (XI.trans e')), k⟩)) (fun hb => Bool.noConfusion hb) fun _ HJ eJ => ?_
    have XJ := XI.trans eJ
    have glJ := eJ l _ glI
    refine q_when (b := false) (tRV (ev_callP (ap_consL (xs := [.str "+", .str "-", .str "*"]) (el_is3 (el_sl (ev_var rfl) eo_none (eo_some ev_c) (sq_of glJ))) (ap_cons (ev_var rfl) (ap_cons (ev_var rfl) (ap_cons (ev_var rfl) (ap_consU (eu_tup (vs := [.int w, .int 1]) (ea_cons (ev_var rfl) (ea_cons ev_c ea_nil)) (by show 2 ≤ 100000; decide)) ap_nil))))) fun vs H' e' hp Q' E' k => by
      obtain ⟨l3, _, rfl, g3, _, rfl, _, rfl, _, rfl, t3, _, rfl, gt, rfl⟩ := hp
      have x := XJ.trans e'
      exact ⟨l3, o, f, t3, .int w, [.add, .sub, .mul], n1, d1, p1, q1, w, 1, w, 1, rfl, sq_of g3, hO.mono x, ex_t x hF, .inr ⟨rfl, rfl⟩, st_of gt, r1, rw1, b1, bw, fun o' ho hd => by subst hd; simp at ho, k⟩)) (fun hb => Bool.noConfusion hb) fun _ HK eK => ?_
    have XK := XJ.trans eK
    -- order
    refine q_when (b := false) (tRV (ev_callS (ea_cons (ev_var rfl) (ea_cons (ev_var rfl) (ea_cons (ev_var rfl) (ea_cons (ev_var rfl) ea_nil)))) fun H' e' Q' E' k => ⟨o, f, u, g, n1, d1, p1, q1, n2, d2, p2, q2, rfl, hO.mono (XK.trans e'), ex_t (XK.trans e') hF, hU.mono (XK.trans e'), ex_t (XK.trans e') hG, r1, r2, b1, b2, k⟩)) (fun hb => Bool.noConfusion hb) fun _ HL eL => ?_
    have XL := XK.trans eL
    refine q_when (b := false) (tRV (ev_callS (ea_cons (ev_var rfl) (ea_cons (ev_var rfl) (ea_cons (ev_var rfl) (ea_cons (ev_var rfl) ea_nil)))) fun H' e' Q' E' k => ⟨u, g, o, f, n2, d2, p2, q2, n1, d1, p1, q1, rfl, hU.mono (XL.trans e'), ex_t (XL.trans e') hG, hO.mono (XL.trans e'), ex_t (XL.trans e') hF, r2, r1, b2, b1, k⟩)) (fun hb => Bool.noConfusion hb) fun _ HM eM => ?_
    have XM := XL.trans eM
    refine q_when (b := false) (tRV (ev_callS (ea_cons (ev_var rfl) (ea_cons (ev_var rfl) (ea_cons (ev_var rfl) (ea_cons (ev_var rfl) ea_nil)))) fun H' e' Q' E' k => ⟨o, f, o, f, n1, d1, p1, q1, n1, d1, p1, q1, rfl, hO.mono (XM.trans e'), ex_t (XM.trans e') hF, hO.mono (XM.trans e'), ex_t (XM.trans e') hF, r1, r1, b1, b1, k⟩)) (fun hb => Bool.noConfusion hb) fun _ HN eN => ?_
    have XN := XM.trans eN
    refine q_when (b := false) (tRV (ev_callP (ap_cons (ev_var rfl) (ap_cons (ev_var rfl) (ap_cons (ev_var rfl) (ap_consU (eu_tup (vs := [.int w, .int 1]) (ea_cons (ev_var rfl) (ea_cons ev_c ea_nil)) (by show 2 ≤ 100000; decide)) ap_nil)))) fun vs H' e' hp Q' E' k => by
      obtain ⟨_, rfl, _, rfl, _, rfl, t3, _, rfl, gt, rfl⟩ := hp
      have x := XN.trans e'
      exact ⟨u, g, v, t3, n2, d2, p2, q2, w, 1, w, 1, rfl, hU.mono x, ex_t x hG, hV.mono x, st_of gt, r2, rw1, b2, bw, k⟩)) (fun hb => Bool.noConfusion hb) fun _ HP eP => ?_
    have XP := XN.trans eP
    -- taken back
    refine q_when (b := false) (tRV (ev_callS (ea_cons (ev_var rfl) (ea_cons (ev_var rfl) (ea_cons (ev_var rfl) (ea_cons (ev_var rfl) ea_nil)))) fun H' e' Q' E' k => ⟨o, f, u, g, n1, d1, p1, q1, n2, d2, p2, q2, rfl, hO.mono (XP.trans e'), ex_t (XP.trans e') hF, hU.mono (XP.trans e'), ex_t (XP.trans e') hG, r1, r2, b1, b2, k⟩)) (fun hb => Bool.noConfusion hb) fun _ HQ eQ => ?_
    have XQ := XP.trans eQ
    refine q_when (b := false) (tRV (ev_callS (ea_cons (ev_var rfl) (ea_cons (ev_var rfl) (ea_cons (ev_var rfl) (ea_cons (ev_var rfl) ea_nil)))) fun H' e' Q' E' k => ⟨u, g, o, f, n2, d2, p2, q2, n1, d1, p1, q1, rfl, hU.mono (XQ.trans e'), ex_t (XQ.trans e') hG, hO.mono (XQ.trans e'), ex_t (XQ.trans e') hF, r2, r1, b2, b1, k⟩)) (fun hb => Bool.noConfusion hb) fun _ HR eR => ?_
    have XR := XQ.trans eR
    -- totals
    refine q_callNot (R := fun H' => But p HR H') (vs := [.ref p, .ref f, .ref g]) (ea_cons (ev_var rfl) (ea_cons (ev_var rfl) (ea_cons (ev_var rfl) ea_nil))) (fun H1 e1 Q' E' k => ⟨p, f, g, n1, d1, n2, d2, rfl, tB.mono (XR.trans e1), (XR.trans e1) f _ fB, (XR.trans e1) g _ gB, b1, b2, fun H2 b => k H2 ((But.of e1).trans b)⟩) fun HS cS => ?_
    have tR := tB.mono XR
    have hO2 : Rt CR HS o p1 q1 := let ⟨dx, gg⟩ := hO.mono XR; ⟨dx, cS.ins tR gg⟩
    have hU2 : Rt CR HS u p2 q2 := let ⟨dx, gg⟩ := hU.mono XR; ⟨dx, cS.ins tR gg⟩
    have hF2 : SqT K HS f [.int n1, .int d1] := st_of (cS.tup tR (XR f _ fB))
    have hG2 : SqT K HS g [.int n2, .int d2] := st_of (cS.tup tR (XR g _ gB))
    have XS : Ex H HS := cS.ex (XXB.trans XR) fp
    refine q_when (b := false) (et_is (et_or (et_not (et_test (ev_callS (ea_cons (ev_var rfl) (ea_cons (ev_var rfl) ea_nil)) fun H1 e1 Q' E' k => ⟨o, f, n1, d1, p1, q1, rfl, hO2.mono e1, ex_t e1 hF2, r1, b1, k⟩))) fun _ => et_not (et_test (ev_callS (ea_cons (ev_var rfl) (ea_cons (ev_var rfl) ea_nil)) fun H1 e1 Q' E' k => ⟨u, g, n2, d2, p2, q2, rfl, hU2.mono e1, ex_t e1 hG2, r2, b2, k⟩))) rfl) (fun hb => Bool.noConfusion hb) fun _ HT eT => ?_
    have tl := eu_told (E := (WE fun cls d _ H => E cls d H)) (o := .add) (H := HT) (σ := [some (.ref a), some (.ref p), some (.int n2), some (.ref f), some (.ref g), some (.int w), some (.ref o), some (.ref u), some (.ref v), some (.bl false), some (.ref l)]) (ea_cons (x := .str Sg.add.str) ev_c (ea_cons (ev_var (i := 6) rfl) (ea_cons (ev_var (i := 7) rfl) ea_nil))) (hO2.mono eT) r1.g (.inl ⟨u, rfl, hU2.mono eT⟩) r2.g (fun z => by cases z)
    rw [op_res r1 r2 .add] at tl
    exact s_ret (ev_eqUU tl (eu_result (o := .add) (ea_cons (x := .str Sg.add.str) ev_c (ea_cons (ev_var rfl) (ea_cons (ev_var rfl) ea_nil))) (ex_t eT hF2) (ex_t eT hG2) b1 b2)) fun HU eU => h HU ((XS.trans eT).trans eU)
end
end K1
set_option exponentiation.threshold 20000
namespace K1
open PySem PySem.Spec PyProof.Rows L2 Evl Nd
section
variable {P : Program} {w : World} {K : PySem.W.Frag} {mg : Str → Option Value} {base h : Heap}
abbrev i_SizeError : Stmt := clsBody (topS 3) 0
theorem is_SizeError : SupScope ["self", "count"] ["self", "count"] (defScope i_SizeError) := ⟨rfl, rfl, rfl, by decide, rfl, by decide +kernel, by decide +kernel, by decide +kernel, rfl, rfl⟩
theorem ini_SizeError {C fI cda cc : Addr} {oc kV doc pm ct : Value} {od an : Option Addr} {osl : Array (Option Value)} (S : SupC P K C cda cc) (no : PySem.W.findIn K (.ref C) "count" = some none)
    (lk : K.lookup fI = some ⟨oc, od, .func (PySem.W.ksFn "__init__" "SizeError.__init__" (defArgs i_SizeError) (defBody i_SizeError) (defScope i_SizeError) .none kV doc pm an (.ref cda) ct cc), osl⟩) (c1 : PySem.W.codeIn K (.ref cda) "SizeError.__init__" = true) (hms : mg "super" = none) :
    FnOk P w K mg base CX0 1 fI (PySem.W.ksFn "__init__" "SizeError.__init__" (defArgs i_SizeError) (defBody i_SizeError) (defScope i_SizeError) .none kV doc pm an (.ref cda) ct cc) ["self", "count"] (spIni C (fs1 "count")) := by
  refine fn_sup (k := 0) (pl := (do return (some false : Option Bool).getD true)) (ps := ["self", "count"]) is_SizeError S lk c1 rfl rfl hms (fun vs H Q E h => ?len) (fun vs H Q E h => ?self) (fun env h => ?he) (fun env h => ?hi) (fun env h => ?hs) (fun A outer s H vs Q E hr h => ?body)
  case len =>
    obtain ⟨x, ws, fv, rfl, hf, _⟩ := h
    match ws, hf with
    | [_], _ => rfl
  case self =>
    obtain ⟨x, ws, fv, rfl, hf, hx, _⟩ := h
    exact ⟨x, ws, rfl, hx⟩
  case he => rfl
  case hi => first | rfl | (unfold PySem.interactive; rw [h]; rfl)
  case hs => rfl
  case body =>
    obtain ⟨x, ws, fv, rfl, hf, hx, q⟩ := h
    match ws, hf with
    | [v], hf =>
      obtain rfl := Option.some.inj hf
      exact ⟨_, pss_one (ps_ost (pv 0) (pv 1)), _, rfl, _, rfl, x, C, rfl, S.ox, no, .inl ⟨hx, fun dx h1 h2 => q dx h1 h2⟩⟩
theorem errT_SizeError {C : Addr} (E : ErrS P K mg "SizeError" "count" C i_SizeError "SizeError.__init__") (hms : mg "super" = none) : ErrT P w K mg base "SizeError" "count" C := by
  obtain ⟨fI, cda, cc, oc, kV, doc, pm, ct, od, an, osl, S, lk, c1, iC, tI⟩ := E.ini
  exact ⟨⟨fI, _, ⟨S.ox, iC, tI, ini_SizeError S E.no lk c1 hms, .all (fun us hl => match us, hl with | [_, _], _ => rfl), E.g⟩⟩, E.is, E.xf, E.no, E.g⟩
abbrev i_NumberError : Stmt := clsBody (topS 4) 0
theorem is_NumberError : SupScope ["self", "number"] ["self", "number"] (defScope i_NumberError) := ⟨rfl, rfl, rfl, by decide, rfl, by decide +kernel, by decide +kernel, by decide +kernel, rfl, rfl⟩
theorem ini_NumberError {C fI cda cc : Addr} {oc kV doc pm ct : Value} {od an : Option Addr} {osl : Array (Option Value)} (S : SupC P K C cda cc) (no : PySem.W.findIn K (.ref C) "number" = some none)
    (lk : K.lookup fI = some ⟨oc, od, .func (PySem.W.ksFn "__init__" "NumberError.__init__" (defArgs i_NumberError) (defBody i_NumberError) (defScope i_NumberError) .none kV doc pm an (.ref cda) ct cc), osl⟩) (c1 : PySem.W.codeIn K (.ref cda) "NumberError.__init__" = true) (hms : mg "super" = none) :
    FnOk P w K mg base CX0 1 fI (PySem.W.ksFn "__init__" "NumberError.__init__" (defArgs i_NumberError) (defBody i_NumberError) (defScope i_NumberError) .none kV doc pm an (.ref cda) ct cc) ["self", "number"] (spIni C (fs1 "number")) := by
  refine fn_sup (k := 0) (pl := (do return (some false : Option Bool).getD true)) (ps := ["self", "number"]) is_NumberError S lk c1 rfl rfl hms (fun vs H Q E h => ?len) (fun vs H Q E h => ?self) (fun env h => ?he) (fun env h => ?hi) (fun env h => ?hs) (fun A outer s H vs Q E hr h => ?body)
  case len =>
    obtain ⟨x, ws, fv, rfl, hf, _⟩ := h
    match ws, hf with
    | [_], _ => rfl
  case self =>
    obtain ⟨x, ws, fv, rfl, hf, hx, _⟩ := h
    exact ⟨x, ws, rfl, hx⟩
  case he => rfl
  case hi => first | rfl | (unfold PySem.interactive; rw [h]; rfl)
  case hs => rfl
  case body =>
    obtain ⟨x, ws, fv, rfl, hf, hx, q⟩ := h
    match ws, hf with
    | [v], hf =>
      obtain rfl := Option.some.inj hf
      exact ⟨_, pss_one (ps_ost (pv 0) (pv 1)), _, rfl, _, rfl, x, C, rfl, S.ox, no, .inl ⟨hx, fun dx h1 h2 => q dx h1 h2⟩⟩
theorem errT_NumberError {C : Addr} (E : ErrS P K mg "NumberError" "number" C i_NumberError "NumberError.__init__") (hms : mg "super" = none) : ErrT P w K mg base "NumberError" "number" C := by
  obtain ⟨fI, cda, cc, oc, kV, doc, pm, ct, od, an, osl, S, lk, c1, iC, tI⟩ := E.ini
  exact ⟨⟨fI, _, ⟨S.ox, iC, tI, ini_NumberError S E.no lk c1 hms, .all (fun us hl => match us, hl with | [_, _], _ => rfl), E.g⟩⟩, E.is, E.xf, E.no, E.g⟩
/-- the __init__ of Ratio -/
structure InitF (K : PySem.W.Frag) (CR : Addr) : Prop where
  ex : ∃ f fd t, FunD K "__init__" "Ratio.__init__" (defArgs s_R_init) (defBody s_R_init) (defScope s_R_init) [.int 1] [] f fd ∧ Mk K CR f ∧ Binds K fd ["self", "num", "den"] [] ∧ Binds K fd ["self", "num", "den"] [.int 1 t]
structure TotF (K : PySem.W.Frag) (CR : Addr) : Prop where
  ex : ∃ f fd mc q, Fun K "total" "Ratio.total" s_R_total f fd ∧ StaM K CR mc "total" q f ∧ Binds K fd ["ratios"] []
structure Facts (P : Program) (K : PySem.W.Frag) (mg : Str → Option Value) (CO CS CN CR : Addr) : Prop where
  d_look_size : DefAt K mg "look_size" s_look_size ["count", "least", "most"]
  d_look_number : DefAt K mg "look_number" s_look_number ["number", "least", "most"]
  d_ratio_of : DefAt K mg "ratio_of" s_ratio_of ["num", "den"]
  d__parts : DefAt K mg "_parts" s__parts ["other"]
  d__law_tape : DefAt K mg "_law_tape" s__law_tape ["script"]
  d__law_take : DefAt K mg "_law_take" s__law_take ["tape", "many", "salt"]
  d__law_number : DefAt K mg "_law_number" s__law_number ["tape", "salt"]
  d__law_signed : DefAt K mg "_law_signed" s__law_signed ["tape", "salt"]
  d__law_int : DefAt K mg "_law_int" s__law_int ["told"]
  d__law_common : DefAt K mg "_law_common" s__law_common ["one", "other"]
  d__law_due : DefAt K mg "_law_due" s__law_due ["num", "den"]
  d__law_result : DefAt K mg "_law_result" s__law_result ["sign", "first", "second"]
  d__law_pair : DefAt K mg "_law_pair" s__law_pair ["told"]
  d__law_told : DefAt K mg "_law_told" s__law_told ["sign", "one", "other"]
  d__law_operations : DefAt K mg "_law_operations" s__law_operations ["signs", "one", "first", "other", "second"]
  d__law_order : DefAt K mg "_law_order" s__law_order ["one", "first", "other", "second"]
  d__law_rounded : DefAt K mg "_law_rounded" s__law_rounded ["one", "first"]
  d__law_single : DefAt K mg "_law_single" s__law_single ["one", "first"]
  d__law_back : DefAt K mg "_law_back" s__law_back ["one", "first", "other", "second"]
  d__law_total : DefAt K mg "_law_total" s__law_total ["passed"]
  d__law_totals : DefAt K mg "_law_totals" s__law_totals ["tape", "first", "second"]
  m_R_add : MethAt K CR "__add__" "Ratio.__add__" s_R_add ["self", "other"]
  m_R_sub : MethAt K CR "__sub__" "Ratio.__sub__" s_R_sub ["self", "other"]
  m_R_mul : MethAt K CR "__mul__" "Ratio.__mul__" s_R_mul ["self", "other"]
  m_R_neg : MethAt K CR "__neg__" "Ratio.__neg__" s_R_neg ["self"]
  m_R_abs : MethAt K CR "__abs__" "Ratio.__abs__" s_R_abs ["self"]
  m_R_eq : MethAt K CR "__eq__" "Ratio.__eq__" s_R_eq ["self", "other"]
  m_R_bool : MethAt K CR "__bool__" "Ratio.__bool__" s_R_bool ["self"]
  m_R_over : MethAt K CR "over" "Ratio.over" s_R_over ["self", "other"]
  m_R_compare : MethAt K CR "compare" "Ratio.compare" s_R_compare ["self", "other"]
  m_R_floor : MethAt K CR "floor" "Ratio.floor" s_R_floor ["self"]
  m_R_ceil : MethAt K CR "ceil" "Ratio.ceil" s_R_ceil ["self"]
  ini : InitF K CR
  tot : TotF K CR
  sf : PySem.W.selfFirst K CR = true
  i_add : OwnInt K CR .Add
  i_sub : OwnInt K CR .Sub
  i_mul : OwnInt K CR .Mult
  z_len : mg "len" = none
  z_sum : mg "sum" = none
  z_max : mg "max" = none
  z_abs : mg "abs" = none
  z_isinstance : mg "isinstance" = none
  z_tuple : mg "tuple" = none
  z_bool : mg "bool" = none
  z_int : mg "int" = none
  z_range : mg "range" = none
  z_super : mg "super" = none
  c_MOST : ∃ u, mg "MOST" = some u ∧ RelV (.int B) u
  c__MOST_COMMON : ∃ u, mg "_MOST_COMMON" = some u ∧ RelV (.int (B ^ 5)) u
  c__MOST_TERMS : ∃ u, mg "_MOST_TERMS" = some u ∧ RelV (.int 1000) u
  m_gcd : mg "gcd" = some (.builtin "math.gcd")
  m_lcm : mg "lcm" = some (.builtin "math.lcm")
  gO : mg "NodearerError" = some (.ref CO)
  gR : mg "Ratio" = some (.ref CR)
  s_SizeError : ErrS P K mg "SizeError" "count" CS i_SizeError "SizeError.__init__"
  s_NumberError : ErrS P K mg "NumberError" "number" CN i_NumberError "NumberError.__init__"
  cl : Cls K CR
  nN : NoAttr K CR "num"
  nD : NoAttr K CR "den"
  nfI : PySem.W.notFirst K CR (.type "int") = true
  xNN : PySem.W.exmOne K (.ref CN) (.ref CN) = some true
  kNO : PySem.W.kitOne K (.ref CN) (.ref CO) = some true
  kRR : PySem.W.kitOne K (.ref CR) (.ref CR) = some true
  kIR : PySem.W.kitOne K (.type "int") (.ref CR) = some false
  tyC : PySem.W.findIn K (.ref CR) "__class__" = some (some (.builtin "object.__class__"))
  tyG : PySem.W.specialIn K (.builtin "object.__class__") "__get__" = some (some (.builtin "getset_descriptor.__get__"))
  tyT : PySem.W.takesIn K (.builtin "object.__class__") = some true
  tyM : PySem.W.mroIn K CR (.type "object") = some true
theorem Facts.tx {CO CS CN CR : Addr} (F : Facts P K mg CO CS CN CR) : Tx P w K mg base CO CS CN CR where
  z_len := F.z_len
  z_sum := F.z_sum
  z_max := F.z_max
  z_abs := F.z_abs
  z_isinstance := F.z_isinstance
  z_tuple := F.z_tuple
  z_bool := F.z_bool
  z_int := F.z_int
  z_range := F.z_range
  c_MOST := F.c_MOST
  c__MOST_COMMON := F.c__MOST_COMMON
  c__MOST_TERMS := F.c__MOST_TERMS
  m_gcd := F.m_gcd
  m_lcm := F.m_lcm
  e_NodearerError := ⟨F.gO⟩
  e_Ratio := ⟨F.gR⟩
  e_SizeError := errT_SizeError F.s_SizeError F.z_super
  e_NumberError := errT_NumberError F.s_NumberError F.z_super
  cl := F.cl
  nN := F.nN
  nD := F.nD
  nfI := F.nfI
  xNN := F.xNN
  kNO := F.kNO
  kRR := F.kRR
  kIR := F.kIR
  tyC := F.tyC
  tyG := F.tyG
  tyT := F.tyT
  tyM := F.tyM
theorem law_fn {CO CS CN CR : Addr} (F : Facts P K mg CO CS CN CR) {fL : Addr} {fdL : FuncData} (FL : Fun K "law" "law" s_law fL fdL) : FnOk P w K mg base (L2.CX P w) 14 fL fdL ["script"] (spLaw K) := by
  have T : Tx P w K mg base CO CS CN CR := F.tx
  have H__law_common := has__law_common T  F.d__law_common
  have H__law_due := has__law_due T H__law_common F.d__law_due
  have H__law_int := has__law_int T  F.d__law_int
  have H__law_pair := has__law_pair T H__law_int F.d__law_pair
  have H__law_result := has__law_result T H__law_due F.d__law_result
  have H_look_number := has_look_number T  F.d_look_number
  have H__parts := has__parts T H_look_number F.d__parts
  obtain ⟨fi, fdi, ti, FDi, Mki, Bi0, Bi1⟩ := F.ini.ex
  have H_R_mak : MakC P w K mg base 4 CR "Ratio" ["self", "num", "den"] (spMk CR CN) := ⟨⟨fi, fdi, ok_R_init T H_look_number FDi, Mki, Bi0⟩, F.gR⟩
  have H_R_mkd : MakD P w K mg base 4 CR "Ratio" ["self", "num", "den"] (spMk CR CN) 1 := ⟨⟨fi, fdi, ti, ok_R_init T H_look_number FDi, Mki, Bi1⟩, F.gR⟩
  have H_ratio_of := has_ratio_of T H_R_mak F.d_ratio_of
  have H_R_add := (has_R_add T H__parts H_ratio_of F.m_R_add).o (op := .Add) (by rfl) F.sf F.i_add
  have H_R_mul := (has_R_mul T H__parts H_ratio_of F.m_R_mul).o (op := .Mult) (by rfl) F.sf F.i_mul
  have H_R_over := has_R_over T H_ratio_of F.m_R_over
  have H_R_sub := (has_R_sub T H__parts H_ratio_of F.m_R_sub).o (op := .Sub) (by rfl) F.sf F.i_sub
  have H__law_back := has__law_back T H__law_due H__law_pair H__law_result H_R_add H_R_mul H_R_over H_R_sub F.d__law_back
  have H__law_take := has__law_take T  F.d__law_take
  have H__law_number := has__law_number T H__law_take F.d__law_number
  have H__law_told := has__law_told T H__law_int H__law_pair H_R_add H_R_mul H_R_over H_R_sub F.d__law_told
  have H__law_operations := has__law_operations T H__law_result H__law_told F.d__law_operations
  have H_R_compare := has_R_compare T  F.m_R_compare
  have H_R_eq := (has_R_eq T  F.m_R_eq).f
  have H__law_order := has__law_order T H__law_int H_R_compare H_R_eq F.d__law_order
  have H__law_signed := has__law_signed T H__law_number H__law_take F.d__law_signed
  have H_R_ceil := has_R_ceil T  F.m_R_ceil
  have H_R_floor := has_R_floor T  F.m_R_floor
  have H__law_rounded := has__law_rounded T H__law_int H_R_ceil H_R_floor F.d__law_rounded
  have H_R_abs := (has_R_abs T H_R_mak F.m_R_abs).f
  have H_R_bool := (has_R_bool T  F.m_R_bool).f
  have H_R_neg := (has_R_neg T H_R_mak F.m_R_neg).f
  have H__law_single := has__law_single T H__law_due H__law_pair H__law_rounded H_R_abs H_R_bool H_R_eq H_R_mak H_R_neg F.d__law_single
  have H__law_tape := has__law_tape T  F.d__law_tape
  have H_look_size := has_look_size T  F.d_look_size
  obtain ⟨ft, fdt, mct, qt, FTt, Stt, Btt⟩ := F.tot.ex
  have H_R_total : HasS P w K mg base 8 CR "total" ["ratios"] (spTotal K CR CN) := ⟨⟨ft, fdt, mct, qt, ok_R_total T H_look_number H_look_size H_ratio_of FTt, Stt, Btt⟩⟩
  have H__law_total := has__law_total T H__law_int H__law_pair H_R_total F.d__law_total
  have H__law_totals := has__law_totals T H__law_due H__law_pair H__law_take H__law_total H_R_mak F.d__law_totals
  exact ok_law T H__law_back H__law_int H__law_number H__law_operations H__law_order H__law_pair H__law_result H__law_signed H__law_single H__law_tape H__law_told H__law_totals H_R_eq H_R_mak H_R_mkd FL
end
end K1
set_option exponentiation.threshold 20000
namespace K1
open PySem PySem.Spec PyProof.Rows L2 Evl Nd
theorem most_of {p : Program} {mg : Str → Option Value} {h : Heap} {z zc : Int} (x : PySem.W.XL p [("MOST", PySem.W.WData.int z), ("_MOST_COMMON", PySem.W.WData.int zc)] mg h) (e1 : z = B) (e2 : zc = B ^ 5) : (∃ u, mg "MOST" = some u ∧ RelV (.int B) u) ∧ ∃ u, mg "_MOST_COMMON" = some u ∧ RelV (.int (B ^ 5)) u := by
  subst e1
  subst e2
  obtain ⟨v, hm, hr⟩ := x.2.val _ (List.mem_cons_self ..)
  cases hr
  obtain ⟨v2, hm2, hr2⟩ := x.2.val _ (List.mem_cons_of_mem _ (List.mem_cons_self ..))
  cases hr2
  exact ⟨⟨_, hm, ⟨_, rfl⟩⟩, ⟨_, hm2, ⟨_, rfl⟩⟩⟩
section
variable {P : Program} {K : PySem.W.Frag} {mg : Str → Option Value} {h : Heap}
theorem meth_at {m qual : Str} {st : Stmt} {ps : List Str} {C f : Addr} {oc : Value} {od an : Option Addr} {osl : Array (Option Value)} {kV doc pm cdv ct : Value} (a : PySem.W.findIn K (.ref C) m = some (some (.ref f)))
    (l : K.lookup f = some ⟨oc, od, .func (PySem.W.fnOf m qual (defArgs st) (defBody st) (defScope st) .none kV doc pm an cdv ct), osl⟩) (c : PySem.W.codeIn K cdv qual = true) (k : PySem.W.keepIn K (.ref f) = true) (n : PySem.W.isFn K (.ref f) = true)
    (b : ∀ (kV doc pm : Value) (an : Option Addr) (cdv ct : Value) (us : List Value), us.length = ps.length → bindArgs (PySem.W.fnOf m qual (defArgs st) (defBody st) (defScope st) .none kV doc pm an cdv ct) ⟨us, []⟩ = pure (ps.zip us)) : MethAt K C m qual st ps :=
  ⟨f, _, fun_mk l c k, ⟨a, n, k⟩, (fun_mk (st := st) l c k).binds b⟩
theorem tot_at {st : Stmt} {C f q : Addr} {mc : Value} {oc : Value} {od an : Option Addr} {osl : Array (Option Value)} {kV doc pm cdv ct : Value} {rest : List Value} (hst : st = s_R_total) (rd : PySem.W.readsIn K C mc = true) (ga : PySem.W.specialIn K (.ref C) "__getattribute__" = some (some (.builtin "type.__getattribute__")))
    (a : PySem.W.findCls K (.ref C) mc "total" = some (.get (.builtin "staticmethod.__get__") (.ref q) .none (.ref C))) (rc : PySem.W.recIn K q "staticmethod" = some (.ref f :: rest))
    (l : K.lookup f = some ⟨oc, od, .func (PySem.W.fnOf "total" "Ratio.total" (defArgs st) (defBody st) (defScope st) .none kV doc pm an cdv ct), osl⟩) (c : PySem.W.codeIn K cdv "Ratio.total" = true) (k : PySem.W.keepIn K (.ref f) = true)
    (b : ∀ (kV doc pm : Value) (an : Option Addr) (cdv ct : Value) (us : List Value), us.length = 1 → bindArgs (PySem.W.fnOf "total" "Ratio.total" (defArgs st) (defBody st) (defScope st) .none kV doc pm an cdv ct) ⟨us, []⟩ = pure ((["ratios"] : List Str).zip us)) : TotF K C := by
  subst hst
  exact ⟨f, _, mc, q, fun_mk l c k, ⟨⟨rd, ga⟩, a, ⟨rest, rc⟩, k⟩, (fun_mk (st := s_R_total) l c k).binds b⟩
theorem own_int {C : Addr} {op : Operator} {m r : Str} {fo ro : Option Value} (e1 : PySem.dunder op.info.2 = m) (e2 : PySem.dunderR op.info.2 = r) (a : PySem.W.findIn K (.ref C) r = some none) (b : PySem.W.findIn K (.type "int") m = some fo) (c : PySem.W.findIn K (.type "int") r = some ro) (s : PySem.W.subIn K (.type "int") (.ref C) = some false) : OwnInt K C op :=
  ⟨by rw [e2]; exact a, ⟨fo, by rw [e1]; exact b⟩, ⟨ro, by rw [e2]; exact c⟩, s⟩
theorem not_first {C : Addr} {t : Value} (s : PySem.W.subIn K t (.ref C) = some false) : PySem.W.notFirst K C t = true := by
  unfold PySem.W.notFirst
  rw [s]
  simp
theorem kit_same {t : Value} (h : (t == t) = true) : PySem.W.kitOne K t t = some true := by
  unfold PySem.W.kitOne
  rw [if_pos h]
theorem kit_tyown {t : String} {b : Addr} {r : Bool} (hc : PySem.W.isClsIn K b = true) (ht : PySem.W.typeIn K (.ref b) = some (.type "type")) (hs : PySem.W.subIn K (.type t) (.ref b) = some r) : PySem.W.kitOne K (.type t) (.ref b) = some r := by
  have e2 : ((PySem.W.clsIn K b).isSome && PySem.W.typeIn K (.ref b) == some (.type "type")) = true := by
    have hc' : (PySem.W.clsIn K b).isSome = true := hc
    rw [hc', ht] <;> rfl
  unfold PySem.W.kitOne
  rw [show (Value.type t == Value.ref b) = false from rfl]
  show (if ((PySem.W.clsIn K b).isSome && PySem.W.typeIn K (.ref b) == some (.type "type")) = true then PySem.W.subIn K (.type t) (.ref b) else none) = some r
  rw [if_pos e2]
  exact hs
theorem init_at {C f T : Addr} {oc : Value} {od an : Option Addr} {osl : Array (Option Value)} {kV doc pm cdv ct : Value} {o : Obj} {tk : Tok} {n : Nat} (mk : PySem.W.makesIn K C = true) (a : PySem.W.findIn K (.ref C) "__init__" = some (some (.ref f))) (fn : PySem.W.isFn K (.ref f) = true) (kC : PySem.W.keepIn K (.ref C) = true)
    (l : K.lookup f = some ⟨oc, od, .func (PySem.W.fnOf "__init__" "Ratio.__init__" (defArgs s_R_init) (defBody s_R_init) (defScope s_R_init) (.ref T) kV doc pm an cdv ct), osl⟩) (c : PySem.W.codeIn K cdv "Ratio.__init__" = true) (kf : PySem.W.keepIn K (.ref f) = true)
    (lT : K.lookup T = some o) (oT : o.data = .seq #[.int 1 tk] n)
    (b0 : ∀ (us : List Value), us.length = 3 → bindArgs (PySem.W.fnOf "__init__" "Ratio.__init__" (defArgs s_R_init) (defBody s_R_init) (defScope s_R_init) (.ref T) kV doc pm an cdv ct) ⟨us, []⟩ = pure ((["self", "num", "den"] : List Str).zip us) ∨
      ∃ k, bindArgs (PySem.W.fnOf "__init__" "Ratio.__init__" (defArgs s_R_init) (defBody s_R_init) (defScope s_R_init) (.ref T) kV doc pm an cdv ct) ⟨us, []⟩ = seqItems? (.ref T) >>= k ∧ k (some #[.int 1 tk]) = pure ((["self", "num", "den"] : List Str).zip us))
    (b1 : ∀ (us : List Value), us.length = 2 → ∃ k, bindArgs (PySem.W.fnOf "__init__" "Ratio.__init__" (defArgs s_R_init) (defBody s_R_init) (defScope s_R_init) (.ref T) kV doc pm an cdv ct) ⟨us, []⟩ = seqItems? (.ref T) >>= k ∧ k (some #[.int 1 tk]) = pure ((["self", "num", "den"] : List Str).zip (us ++ [.int 1 tk]))) : InitF K C := by
  refine ⟨f, _, tk, ⟨⟨oc, od, _, kV, doc, pm, an, cdv, ct, osl, rfl, l, c, .inr ⟨by simp, T, o, [.int 1 tk], n, rfl, lT, oT, .cons ⟨tk, rfl⟩ .nil⟩, .inl rfl⟩, kf⟩, ⟨mk, a, fn, kC⟩, fun s us X hl => ?_, fun s us X hl => ?_⟩
  · rw [List.append_nil] at hl ⊢
    rcases b0 us hl with e | ⟨k, e1, e2⟩
    · exact .of_eq e
    · refine BindsTo.of_looks fun M => ?_
      rw [e1]
      exact looks_items X lT oT (.of_pure e2)
  · obtain ⟨k, e1, e2⟩ := b1 us (by simpa using hl)
    refine BindsTo.of_looks fun M => ?_
    rw [e1]
    exact looks_items X lT oT (.of_pure e2)
theorem fin_mk {w : World} {CO CS CN CR fa fL : Addr} {oc kV doc pm cdv ct : Value} {od an : Option Addr} {osl : Array (Option Value)} {tT : Tok} {z zc : Int} {pp : Program} (X : K.In h) (G : h.Ns mainGlobals mg) (hfa : mg "law" = some (.ref fa)) (xx : PySem.W.XL pp [("MOST", PySem.W.WData.int z), ("_MOST_COMMON", PySem.W.WData.int zc)] mg h) (e1 : z = B) (e2 : zc = B ^ 5)
    (aL : PySem.W.nsIn K mainGlobals "law" = some (some (.ref fL))) (lL : K.lookup fL = some ⟨oc, od, .func (PySem.W.fnOf "law" "law" (defArgs s_law) (defBody s_law) (defScope s_law) .none kV doc pm an cdv ct), osl⟩) (cL : PySem.W.codeIn K cdv "law" = true) (kL : PySem.W.keepIn K (.ref fL) = true)
    (gO : PySem.W.nsIn K mainGlobals "NodearerError" = some (some (.ref CO)))
    (gR : PySem.W.nsIn K mainGlobals "Ratio" = some (some (.ref CR)))
    (s_SizeError : ErrS P K mg "SizeError" "count" CS i_SizeError "SizeError.__init__")
    (s_NumberError : ErrS P K mg "NumberError" "number" CN i_NumberError "NumberError.__init__")
    (d_look_size : DefAt K mg "look_size" s_look_size ["count", "least", "most"])
    (d_look_number : DefAt K mg "look_number" s_look_number ["number", "least", "most"])
    (d_ratio_of : DefAt K mg "ratio_of" s_ratio_of ["num", "den"])
    (d__parts : DefAt K mg "_parts" s__parts ["other"])
    (d__law_tape : DefAt K mg "_law_tape" s__law_tape ["script"])
    (d__law_take : DefAt K mg "_law_take" s__law_take ["tape", "many", "salt"])
    (d__law_number : DefAt K mg "_law_number" s__law_number ["tape", "salt"])
    (d__law_signed : DefAt K mg "_law_signed" s__law_signed ["tape", "salt"])
    (d__law_int : DefAt K mg "_law_int" s__law_int ["told"])
    (d__law_common : DefAt K mg "_law_common" s__law_common ["one", "other"])
    (d__law_due : DefAt K mg "_law_due" s__law_due ["num", "den"])
    (d__law_result : DefAt K mg "_law_result" s__law_result ["sign", "first", "second"])
    (d__law_pair : DefAt K mg "_law_pair" s__law_pair ["told"])
    (d__law_told : DefAt K mg "_law_told" s__law_told ["sign", "one", "other"])
    (d__law_operations : DefAt K mg "_law_operations" s__law_operations ["signs", "one", "first", "other", "second"])
    (d__law_order : DefAt K mg "_law_order" s__law_order ["one", "first", "other", "second"])
    (d__law_rounded : DefAt K mg "_law_rounded" s__law_rounded ["one", "first"])
    (d__law_single : DefAt K mg "_law_single" s__law_single ["one", "first"])
    (d__law_back : DefAt K mg "_law_back" s__law_back ["one", "first", "other", "second"])
    (d__law_total : DefAt K mg "_law_total" s__law_total ["passed"])
    (d__law_totals : DefAt K mg "_law_totals" s__law_totals ["tape", "first", "second"])
    (m_R_add : MethAt K CR "__add__" "Ratio.__add__" s_R_add ["self", "other"])
    (m_R_sub : MethAt K CR "__sub__" "Ratio.__sub__" s_R_sub ["self", "other"])
    (m_R_mul : MethAt K CR "__mul__" "Ratio.__mul__" s_R_mul ["self", "other"])
    (m_R_neg : MethAt K CR "__neg__" "Ratio.__neg__" s_R_neg ["self"])
    (m_R_abs : MethAt K CR "__abs__" "Ratio.__abs__" s_R_abs ["self"])
    (m_R_eq : MethAt K CR "__eq__" "Ratio.__eq__" s_R_eq ["self", "other"])
    (m_R_bool : MethAt K CR "__bool__" "Ratio.__bool__" s_R_bool ["self"])
    (m_R_over : MethAt K CR "over" "Ratio.over" s_R_over ["self", "other"])
    (m_R_compare : MethAt K CR "compare" "Ratio.compare" s_R_compare ["self", "other"])
    (m_R_floor : MethAt K CR "floor" "Ratio.floor" s_R_floor ["self"])
    (m_R_ceil : MethAt K CR "ceil" "Ratio.ceil" s_R_ceil ["self"])
    (ini : InitF K CR)
    (tot : TotF K CR)
    (sf : PySem.W.selfFirst K CR = true)
    (sI : PySem.W.subIn K (.type "int") (.ref CR) = some false)
    (r_add : PySem.W.findIn K (.ref CR) "__radd__" = some none)
    (b_add : ∃ fo, PySem.W.findIn K (.type "int") "__add__" = some fo)
    (c_add : ∃ fo, PySem.W.findIn K (.type "int") "__radd__" = some fo)
    (r_sub : PySem.W.findIn K (.ref CR) "__rsub__" = some none)
    (b_sub : ∃ fo, PySem.W.findIn K (.type "int") "__sub__" = some fo)
    (c_sub : ∃ fo, PySem.W.findIn K (.type "int") "__rsub__" = some fo)
    (r_mul : PySem.W.findIn K (.ref CR) "__rmul__" = some none)
    (b_mul : ∃ fo, PySem.W.findIn K (.type "int") "__mul__" = some fo)
    (c_mul : ∃ fo, PySem.W.findIn K (.type "int") "__rmul__" = some fo)
    (z_len : PySem.W.nsIn K mainGlobals "len" = some none)
    (z_sum : PySem.W.nsIn K mainGlobals "sum" = some none)
    (z_max : PySem.W.nsIn K mainGlobals "max" = some none)
    (z_abs : PySem.W.nsIn K mainGlobals "abs" = some none)
    (z_isinstance : PySem.W.nsIn K mainGlobals "isinstance" = some none)
    (z_tuple : PySem.W.nsIn K mainGlobals "tuple" = some none)
    (z_bool : PySem.W.nsIn K mainGlobals "bool" = some none)
    (z_int : PySem.W.nsIn K mainGlobals "int" = some none)
    (z_range : PySem.W.nsIn K mainGlobals "range" = some none)
    (z_super : PySem.W.nsIn K mainGlobals "super" = some none)
    (nT : PySem.W.nsIn K mainGlobals "_MOST_TERMS" = some (some (.int 1000 tT)))
    (m_gcd : PySem.W.nsIn K mainGlobals "gcd" = some (some (.builtin "math.gcd")))
    (m_lcm : PySem.W.nsIn K mainGlobals "lcm" = some (some (.builtin "math.lcm")))
    (cl_pg : PySem.W.plainGet K CR Str.empty = true)
    (cl_hd : PySem.W.hasDictIn K CR = true)
    (cl_po : PySem.W.plainOver K CR = true)
    (cl_sa : PySem.W.findIn K (.ref CR) "__setattr__" = some (some (.builtin "object.__setattr__")))
    (nN : PySem.W.findIn K (.ref CR) "num" = some none)
    (nD : PySem.W.findIn K (.ref CR) "den" = some none)
    (xNN : PySem.W.exmOne K (.ref CN) (.ref CN) = some true)
    (kNO : PySem.W.kitOne K (.ref CN) (.ref CO) = some true)
    (kRR : PySem.W.kitOne K (.ref CR) (.ref CR) = some true)
    (kIR : PySem.W.kitOne K (.type "int") (.ref CR) = some false)
    (tyC : PySem.W.findIn K (.ref CR) "__class__" = some (some (.builtin "object.__class__")))
    (tyG : PySem.W.specialIn K (.builtin "object.__class__") "__get__" = some (some (.builtin "getset_descriptor.__get__")))
    (tyT : PySem.W.takesIn K (.builtin "object.__class__") = some true)
    (tyM : PySem.W.mroIn K CR (.type "object") = some true) :
    ∃ fd : FuncData, (∀ (s : Shared) (u : Value), BindsTo s fd ⟨[u], []⟩ [("script", u)]) ∧ ∀ base : Heap, K.In base → base.Ns mainGlobals mg → FnOk P w K mg base (L2.CX P w) 14 fa fd ["script"] (spLaw K) := by
  have e := hfa.symm.trans (PySem.W.mg_of X G aL)
  cases e
  have F : Facts P K mg CO CS CN CR := { gO := PySem.W.mg_of X G gO, gR := PySem.W.mg_of X G gR, s_SizeError := s_SizeError, s_NumberError := s_NumberError, d_look_size := d_look_size, d_look_number := d_look_number, d_ratio_of := d_ratio_of, d__parts := d__parts, d__law_tape := d__law_tape, d__law_take := d__law_take, d__law_number := d__law_number, d__law_signed := d__law_signed, d__law_int := d__law_int, d__law_common := d__law_common, d__law_due := d__law_due, d__law_result := d__law_result, d__law_pair := d__law_pair, d__law_told := d__law_told, d__law_operations := d__law_operations, d__law_order := d__law_order, d__law_rounded := d__law_rounded, d__law_single := d__law_single, d__law_back := d__law_back, d__law_total := d__law_total, d__law_totals := d__law_totals, m_R_add := m_R_add, m_R_sub := m_R_sub, m_R_mul := m_R_mul, m_R_neg := m_R_neg, m_R_abs := m_R_abs, m_R_eq := m_R_eq, m_R_bool := m_R_bool, m_R_over := m_R_over, m_R_compare := m_R_compare, m_R_floor := m_R_floor, m_R_ceil := m_R_ceil, i_add := (let ⟨_, hb⟩ := b_add; let ⟨_, hc⟩ := c_add; own_int (by rfl) (by rfl) r_add hb hc sI), i_sub := (let ⟨_, hb⟩ := b_sub; let ⟨_, hc⟩ := c_sub; own_int (by rfl) (by rfl) r_sub hb hc sI), i_mul := (let ⟨_, hb⟩ := b_mul; let ⟨_, hc⟩ := c_mul; own_int (by rfl) (by rfl) r_mul hb hc sI), ini := ini, tot := tot, sf := sf, nfI := not_first sI, z_len := PySem.W.mg_none_of X G z_len, z_sum := PySem.W.mg_none_of X G z_sum, z_max := PySem.W.mg_none_of X G z_max, z_abs := PySem.W.mg_none_of X G z_abs, z_isinstance := PySem.W.mg_none_of X G z_isinstance, z_tuple := PySem.W.mg_none_of X G z_tuple, z_bool := PySem.W.mg_none_of X G z_bool, z_int := PySem.W.mg_none_of X G z_int, z_range := PySem.W.mg_none_of X G z_range, z_super := PySem.W.mg_none_of X G z_super, c__MOST_TERMS := ⟨_, PySem.W.mg_of X G nT, ⟨_, rfl⟩⟩, c_MOST := (most_of xx e1 e2).1, c__MOST_COMMON := (most_of xx e1 e2).2, m_gcd := PySem.W.mg_of X G m_gcd, m_lcm := PySem.W.mg_of X G m_lcm, cl := ⟨cl_pg, cl_hd, cl_po, cl_sa⟩, nN := nN, nD := nD, xNN := xNN, kNO := kNO, kRR := kRR, kIR := kIR, tyC := tyC, tyG := tyG, tyT := tyT, tyM := tyM }
  exact ⟨_, fun s u => .of_eq rfl, fun base _ _ => law_fn F (fun_mk (st := s_law) lL cL kL)⟩
end
end K1
open PySem PySem.W PyProof.Rows
set_option maxRecDepth 100000 in
set_option maxHeartbeats 0 in
theorem PySem.Challenge.cw_nodearer_k01_ratio_arithmetic_holds : PySem.Challenge.rw_nodearer_k01_ratio_arithmetic.Holds := by
  w_on; o_law; k_head; (case hw => w_witness2)
  k_fill
  refine Nd.walk_x (l := PySem.Challenge.rw_nodearer_k01_ratio_arithmetic) (n := 63) (k := 14) (x := "script") (CX := fun w => L2.CX PySem.Challenge.rw_nodearer_k01_ratio_arithmetic.prog w) (sp := K1.spLaw) rfl (by decide) rfl ⟨rfl, by decide, by decide⟩ (fun w h Y => PySem.W.kIn_of Y) ?F (fun _ _ a ns hl _ hS => ⟨a, ns, rfl, hS, fun _ _ => rfl⟩) (fun _ _ _ _ _ => Nd.cx_no)
  case F =>
    intro w mg fa h XX KX G hmg
    refine' K1.fin_mk KX G hmg XX ?e1 ?e2 ?aL ?lL ?cL ?kL ?gO ?gR ?s_SizeError ?s_NumberError ?d_look_size ?d_look_number ?d_ratio_of ?d__parts ?d__law_tape ?d__law_take ?d__law_number ?d__law_signed ?d__law_int ?d__law_common ?d__law_due ?d__law_result ?d__law_pair ?d__law_told ?d__law_operations ?d__law_order ?d__law_rounded ?d__law_single ?d__law_back ?d__law_total ?d__law_totals ?m_R_add ?m_R_sub ?m_R_mul ?m_R_neg ?m_R_abs ?m_R_eq ?m_R_bool ?m_R_over ?m_R_compare ?m_R_floor ?m_R_ceil ?ini ?tot ?sf ?sI ?r_add ?b_add ?c_add ?r_sub ?b_sub ?c_sub ?r_mul ?b_mul ?c_mul ?z_len ?z_sum ?z_max ?z_abs ?z_isinstance ?z_tuple ?z_bool ?z_int ?z_range ?z_super ?nT ?m_gcd ?m_lcm ?cl_pg ?cl_hd ?cl_po ?cl_sa ?nN ?nD ?xNN ?kNO ?kRR ?kIR ?tyC ?tyG ?tyT ?tyM
    (case e1 => rw [K1.B_def]; decide +kernel)
    (case e2 => rw [K1.B_def]; decide +kernel)
    (case aL => k_is)
    (case lL => k_is)
    (case cL => k_is)
    (case kL => k_is)
    (case gO => k_is)
    (case gR => k_is)
    case s_SizeError =>
      refine' Nd.errS_mk KX G ?g ?xL ?rv ?ic ?sa ?ga ?gg ?no ?sb ?ca ?cg ?ctk ?mo ?tC ?kC ?hd ?mr ?a1 ?t1 ?l1 ?c1 ?cL ?cv ?cf ?eL ?su ?ve ?tp ?top
      (case g => k_is); (case xL => k_is); (case rv => decide +kernel); (case ic => k_is); (case sa => k_is); (case ga => k_is); (case gg => k_is); (case no => k_is); (case sb => k_is); (case ca => k_is); (case cg => k_is); (case ctk => k_is); (case mo => k_is); (case tC => k_is); (case kC => k_is); (case hd => k_is); (case mr => k_is); (case a1 => k_is); (case t1 => k_is); (case l1 => k_is); (case c1 => k_is); (case cL => k_is); (case cv => rfl); (case cf => decide +kernel); (case eL => k_is); (case su => kernel_rfl); (case ve => k_is); (case tp => k_is); (case top => decide +kernel)
    case s_NumberError =>
      refine' Nd.errS_mk KX G ?g ?xL ?rv ?ic ?sa ?ga ?gg ?no ?sb ?ca ?cg ?ctk ?mo ?tC ?kC ?hd ?mr ?a1 ?t1 ?l1 ?c1 ?cL ?cv ?cf ?eL ?su ?ve ?tp ?top
      (case g => k_is); (case xL => k_is); (case rv => decide +kernel); (case ic => k_is); (case sa => k_is); (case ga => k_is); (case gg => k_is); (case no => k_is); (case sb => k_is); (case ca => k_is); (case cg => k_is); (case ctk => k_is); (case mo => k_is); (case tC => k_is); (case kC => k_is); (case hd => k_is); (case mr => k_is); (case a1 => k_is); (case t1 => k_is); (case l1 => k_is); (case c1 => k_is); (case cL => k_is); (case cv => rfl); (case cf => decide +kernel); (case eL => k_is); (case su => kernel_rfl); (case ve => k_is); (case tp => k_is); (case top => decide +kernel)
    case d_look_size =>
      refine' Nd.def_at KX G ?a ?l ?c ?k (fun _ _ _ _ _ _ us hl => match us, hl with | [_, _, _], _ => rfl)
      (case a => k_is); (case l => k_is); (case c => k_is); (case k => k_is)
    case d_look_number =>
      refine' Nd.def_at KX G ?a ?l ?c ?k (fun _ _ _ _ _ _ us hl => match us, hl with | [_, _, _], _ => rfl)
      (case a => k_is); (case l => k_is); (case c => k_is); (case k => k_is)
    case d_ratio_of =>
      refine' Nd.def_at KX G ?a ?l ?c ?k (fun _ _ _ _ _ _ us hl => match us, hl with | [_, _], _ => rfl)
      (case a => k_is); (case l => k_is); (case c => k_is); (case k => k_is)
    case d__parts =>
      refine' Nd.def_at KX G ?a ?l ?c ?k (fun _ _ _ _ _ _ us hl => match us, hl with | [_], _ => rfl)
      (case a => k_is); (case l => k_is); (case c => k_is); (case k => k_is)
    case d__law_tape =>
      refine' Nd.def_at KX G ?a ?l ?c ?k (fun _ _ _ _ _ _ us hl => match us, hl with | [_], _ => rfl)
      (case a => k_is); (case l => k_is); (case c => k_is); (case k => k_is)
    case d__law_take =>
      refine' Nd.def_at KX G ?a ?l ?c ?k (fun _ _ _ _ _ _ us hl => match us, hl with | [_, _, _], _ => rfl)
      (case a => k_is); (case l => k_is); (case c => k_is); (case k => k_is)
    case d__law_number =>
      refine' Nd.def_at KX G ?a ?l ?c ?k (fun _ _ _ _ _ _ us hl => match us, hl with | [_, _], _ => rfl)
      (case a => k_is); (case l => k_is); (case c => k_is); (case k => k_is)
    case d__law_signed =>
      refine' Nd.def_at KX G ?a ?l ?c ?k (fun _ _ _ _ _ _ us hl => match us, hl with | [_, _], _ => rfl)
      (case a => k_is); (case l => k_is); (case c => k_is); (case k => k_is)
    case d__law_int =>
      refine' Nd.def_at KX G ?a ?l ?c ?k (fun _ _ _ _ _ _ us hl => match us, hl with | [_], _ => rfl)
      (case a => k_is); (case l => k_is); (case c => k_is); (case k => k_is)
    case d__law_common =>
      refine' Nd.def_at KX G ?a ?l ?c ?k (fun _ _ _ _ _ _ us hl => match us, hl with | [_, _], _ => rfl)
      (case a => k_is); (case l => k_is); (case c => k_is); (case k => k_is)
    case d__law_due =>
      refine' Nd.def_at KX G ?a ?l ?c ?k (fun _ _ _ _ _ _ us hl => match us, hl with | [_, _], _ => rfl)
      (case a => k_is); (case l => k_is); (case c => k_is); (case k => k_is)
    case d__law_result =>
      refine' Nd.def_at KX G ?a ?l ?c ?k (fun _ _ _ _ _ _ us hl => match us, hl with | [_, _, _], _ => rfl)
      (case a => k_is); (case l => k_is); (case c => k_is); (case k => k_is)
    case d__law_pair =>
      refine' Nd.def_at KX G ?a ?l ?c ?k (fun _ _ _ _ _ _ us hl => match us, hl with | [_], _ => rfl)
      (case a => k_is); (case l => k_is); (case c => k_is); (case k => k_is)
    case d__law_told =>
      refine' Nd.def_at KX G ?a ?l ?c ?k (fun _ _ _ _ _ _ us hl => match us, hl with | [_, _, _], _ => rfl)
      (case a => k_is); (case l => k_is); (case c => k_is); (case k => k_is)
    case d__law_operations =>
      refine' Nd.def_at KX G ?a ?l ?c ?k (fun _ _ _ _ _ _ us hl => match us, hl with | [_, _, _, _, _], _ => rfl)
      (case a => k_is); (case l => k_is); (case c => k_is); (case k => k_is)
    case d__law_order =>
      refine' Nd.def_at KX G ?a ?l ?c ?k (fun _ _ _ _ _ _ us hl => match us, hl with | [_, _, _, _], _ => rfl)
      (case a => k_is); (case l => k_is); (case c => k_is); (case k => k_is)
    case d__law_rounded =>
      refine' Nd.def_at KX G ?a ?l ?c ?k (fun _ _ _ _ _ _ us hl => match us, hl with | [_, _], _ => rfl)
      (case a => k_is); (case l => k_is); (case c => k_is); (case k => k_is)
    case d__law_single =>
      refine' Nd.def_at KX G ?a ?l ?c ?k (fun _ _ _ _ _ _ us hl => match us, hl with | [_, _], _ => rfl)
      (case a => k_is); (case l => k_is); (case c => k_is); (case k => k_is)
    case d__law_back =>
      refine' Nd.def_at KX G ?a ?l ?c ?k (fun _ _ _ _ _ _ us hl => match us, hl with | [_, _, _, _], _ => rfl)
      (case a => k_is); (case l => k_is); (case c => k_is); (case k => k_is)
    case d__law_total =>
      refine' Nd.def_at KX G ?a ?l ?c ?k (fun _ _ _ _ _ _ us hl => match us, hl with | [_], _ => rfl)
      (case a => k_is); (case l => k_is); (case c => k_is); (case k => k_is)
    case d__law_totals =>
      refine' Nd.def_at KX G ?a ?l ?c ?k (fun _ _ _ _ _ _ us hl => match us, hl with | [_, _, _], _ => rfl)
      (case a => k_is); (case l => k_is); (case c => k_is); (case k => k_is)
    case m_R_add =>
      refine' K1.meth_at ?a ?l ?c ?k ?n (fun _ _ _ _ _ _ us hl => match us, hl with | [_, _], _ => rfl)
      (case a => k_is); (case l => k_is); (case c => k_is); (case k => k_is); (case n => k_is)
    case m_R_sub =>
      refine' K1.meth_at ?a ?l ?c ?k ?n (fun _ _ _ _ _ _ us hl => match us, hl with | [_, _], _ => rfl)
      (case a => k_is); (case l => k_is); (case c => k_is); (case k => k_is); (case n => k_is)
    case m_R_mul =>
      refine' K1.meth_at ?a ?l ?c ?k ?n (fun _ _ _ _ _ _ us hl => match us, hl with | [_, _], _ => rfl)
      (case a => k_is); (case l => k_is); (case c => k_is); (case k => k_is); (case n => k_is)
    case m_R_neg =>
      refine' K1.meth_at ?a ?l ?c ?k ?n (fun _ _ _ _ _ _ us hl => match us, hl with | [_], _ => rfl)
      (case a => k_is); (case l => k_is); (case c => k_is); (case k => k_is); (case n => k_is)
    case m_R_abs =>
      refine' K1.meth_at ?a ?l ?c ?k ?n (fun _ _ _ _ _ _ us hl => match us, hl with | [_], _ => rfl)
      (case a => k_is); (case l => k_is); (case c => k_is); (case k => k_is); (case n => k_is)
    case m_R_eq =>
      refine' K1.meth_at ?a ?l ?c ?k ?n (fun _ _ _ _ _ _ us hl => match us, hl with | [_, _], _ => rfl)
      (case a => k_is); (case l => k_is); (case c => k_is); (case k => k_is); (case n => k_is)
    case m_R_bool =>
      refine' K1.meth_at ?a ?l ?c ?k ?n (fun _ _ _ _ _ _ us hl => match us, hl with | [_], _ => rfl)
      (case a => k_is); (case l => k_is); (case c => k_is); (case k => k_is); (case n => k_is)
    case m_R_over =>
      refine' K1.meth_at ?a ?l ?c ?k ?n (fun _ _ _ _ _ _ us hl => match us, hl with | [_, _], _ => rfl)
      (case a => k_is); (case l => k_is); (case c => k_is); (case k => k_is); (case n => k_is)
    case m_R_compare =>
      refine' K1.meth_at ?a ?l ?c ?k ?n (fun _ _ _ _ _ _ us hl => match us, hl with | [_, _], _ => rfl)
      (case a => k_is); (case l => k_is); (case c => k_is); (case k => k_is); (case n => k_is)
    case m_R_floor =>
      refine' K1.meth_at ?a ?l ?c ?k ?n (fun _ _ _ _ _ _ us hl => match us, hl with | [_], _ => rfl)
      (case a => k_is); (case l => k_is); (case c => k_is); (case k => k_is); (case n => k_is)
    case m_R_ceil =>
      refine' K1.meth_at ?a ?l ?c ?k ?n (fun _ _ _ _ _ _ us hl => match us, hl with | [_], _ => rfl)
      (case a => k_is); (case l => k_is); (case c => k_is); (case k => k_is); (case n => k_is)
    case ini =>
      refine' K1.init_at ?mk ?a ?fn ?kC ?l ?c ?kf ?lT ?oT (fun us hl => match us, hl with | [_, _, _], _ => ?b0) (fun us hl => match us, hl with | [_, _], _ => ?b1)
      (case mk => k_is); (case a => k_is); (case fn => k_is); (case kC => k_is); (case l => k_is); (case c => k_is); (case kf => k_is); (case lT => k_is); (case oT => rfl)
      (case b0 => first | exact .inl rfl | exact .inr ⟨_, rfl, rfl⟩)
      (case b1 => exact ⟨_, rfl, rfl⟩)
    case tot =>
      refine' K1.tot_at (mc := .type "type") rfl ?rd ?ga ?a ?rc ?l ?c ?k (fun _ _ _ _ _ _ us hl => match us, hl with | [_], _ => rfl)
      (case rd => k_is); (case ga => k_is); (case a => k_is); (case rc => k_is); (case l => k_is); (case c => k_is); (case k => k_is)
    (case sf => k_is)
    (case sI => k_is)
    (case r_add => k_is)
    (case b_add => exact ⟨_, by k_is⟩)
    (case c_add => exact ⟨_, by k_is⟩)
    (case r_sub => k_is)
    (case b_sub => exact ⟨_, by k_is⟩)
    (case c_sub => exact ⟨_, by k_is⟩)
    (case r_mul => k_is)
    (case b_mul => exact ⟨_, by k_is⟩)
    (case c_mul => exact ⟨_, by k_is⟩)
    (case z_len => k_is)
    (case z_sum => k_is)
    (case z_max => k_is)
    (case z_abs => k_is)
    (case z_isinstance => k_is)
    (case z_tuple => k_is)
    (case z_bool => k_is)
    (case z_int => k_is)
    (case z_range => k_is)
    (case z_super => k_is)
    (case nT => k_is)
    (case m_gcd => k_is)
    (case m_lcm => k_is)
    (case cl_pg => k_is)
    (case cl_hd => k_is)
    (case cl_po => k_is)
    (case cl_sa => k_is)
    (case nN => k_is)
    (case nD => k_is)
    case xNN =>
      refine' PySem.W.exm_ref ?a ?b ?c ?d
      (case a => k_is); (case b => k_is); (case c => k_is); (case d => k_is)
    case kNO =>
      refine' Nd.kit_own ?a ?b ?c ?d
      (case a => decide); (case b => k_is); (case c => k_is); (case d => k_is)
    (case kRR => exact K1.kit_same (by simp))
    case kIR =>
      refine' K1.kit_tyown ?a ?b ?c
      (case a => k_is); (case b => k_is); (case c => k_is)
    (case tyC => k_is)
    (case tyG => k_is)
    (case tyT => k_is)
    (case tyM => k_is)
