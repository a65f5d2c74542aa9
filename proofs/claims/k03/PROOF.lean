import PyProof.Rows.All
import Wide.All
import OpenK.AllK
import Wide.FinOn
import KE.KExcSuper
import HandS.ForMost
import HandS.ForExc
import HandS.Evl
import HandS.Exc
import HandS.ExcOwn
import HandS.ExcInit
import HandS.ExcIs
import HandS.ExcField
import HandS.TryMany
import KE.KExcIs
import HandS.IsInst
import HandS.Style
import HandS.Strs
import HandS.SetFor
import HandS.TupLe
import HandS.TupAny
import PySem.Challenge.RW_nodearer_k03_lots
set_option Elab.async false
set_option linter.all false
set_option maxRecDepth 100000
set_option maxHeartbeats 4000000
/-! An own error whose __init__ begins with super().__init__(text): its promise by the rest of its body. -/
namespace Nd
open PySem PySem.Spec PyProof.Rows L2

/-- a built-in base's __init__, bound, called on an exception without a dict -/
theorem bound_init {prog : Program} {w : World} {A : Around} {E : Value → Shared → Prop} {s : Shared} {B newId i : String} {bmB : List Value} {nm q : Str} {C N u x t0 : Addr} {bs bm : List Value} {hdct : Bool} {sn : List Str} {sub : List Value} {ab : Bool}
    {col : Option Bool} {dd : Option Addr} {k0 k1 k2 k3 k5 : Option Value} {rest : List Value} {Q : Value → Shared → Prop} (FB : ExcBaseFacts B newId i bmB)
    (hC : s.heap.get? C = some (excClassObj nm q C N bs bm hdct sn sub ab col dd k0 k1 k2 k3 k5 newId)) (hu : s.heap.get? u = some (PySem.W.kxs_mw i x)) (hx : s.heap.get? x = some (HandSPX.excO C t0)) (hz : rest.length ≤ sizeLine)
    (hq : ∀ h' t1, (∀ b o, b ≠ x → s.heap.get? b = some o → h'.get? b = some o) → h'.get? x = some (HandSPX.excO C t1) → Q .none { s with heap := h' }) :
    wpAny (model prog w) A (call (.ref u) rest) Q E s := by
  obtain ⟨hh, g, d, tk, os⟩ := s
  refine wpAny_call (codeAny_of_tree ?_)
  show wpAny _ A.in1 (callAny (.ref u) ⟨rest, []⟩) _ _ _
  simp only [callAny]
  refine wpAny_bind (wpAny_load hu ?_)
  have m1 : (Value.type "method-wrapper" == Value.type "method" || Value.type "method-wrapper" == Value.type "builtin_function_or_method" || Value.type "method-wrapper" == Value.type "method-wrapper") = true := by decide
  simp only [PySem.W.kxs_mw, m1, if_true]
  refine PySem.W.KFB.if_so (by decide) ?_
  refine wpAny_bind (PySem.W.check_bound_init FB.toExcCallFacts hC hx rfl ?_)
  refine wpAny_bind (wpAny_pure (wpAny_pure ?_))
  refine ⟨plainId_quiet FB.init.plain _, codeAny_builtin FB.initEntry ?_⟩
  exact PySem.W.exc_init_tree (cls := .ref C) (t0 := t0) (dv := none) (c2 := .none) (c3 := .none) (b4 := .bool false) hx hz fun h' k e' _ => hq h' _ k e'

/-- what the written part says of an error class at C whose own __init__ (at fI, its code at cda, its cell __class__ at cc) begins with super().__init__(text) -/
structure SupC (P : Program) (K : PySem.W.Frag) (C cda cc : Addr) : Prop where
  ox : OexC K C
  code : ∃ ccl cdd vs ccs file tf, K.lookup cda = some ⟨ccl, cdd, .fields vs, ccs⟩ ∧ vs[2]? = some (.str file tf) ∧ ((P.main.file : Str) == file) = true
  cell : ∃ cl cld csl, K.lookup cc = some ⟨cl, cld, .cell (some (.ref C)), csl⟩
  mro : PySem.W.mroIn K C (.ref C) = some true
  sup : PySem.W.ks_superIn K C C "__init__" = some (some (.builtin "ValueError.__init__"))
  ve : PySem.W.subIn K (.ref C) (.type "ValueError") = some true
  tp : PySem.W.nsIn K cStatics "thirdparty.any" = some none
  top : (P.main.scope.names.lookup ("super" : Str)).isSome = false

/-- the context of such an __init__ -/
def cxSup (CX : CXT) (P : Program) (w : World) (K : PySem.W.Frag) (mg : Str → Option Value) (base : Heap) (N : List Str) (qual : Str) (scope : Scope) (f cda cc : Addr) (A : Around) (outer : List Env) (s : Shared) (H : Hp) (E : XK) : Cx where
  prog := P
  w := w
  K := K
  mg := mg
  base := base
  A := A.deeper (PySem.W.ksEnv qual scope s.heap.objs.size f (.ref cda) cc)
  N := N
  s_0 := s
  H_0 := H
  env := PySem.W.ksEnv qual scope s.heap.objs.size f (.ref cda) cc
  outer := outer
  stack := PySem.W.ksEnv qual scope s.heap.objs.size f (.ref cda) cc :: outer
  ex := []
  calm := true
  fn := fun _ => false
  pn := []
  xe := fun e s' => wpAny (model P w) (A.deeper (PySem.W.ksEnv qual scope s.heap.objs.size f (.ref cda) cc)) (leaving (PySem.W.ksEnv qual scope s.heap.objs.size f (.ref cda) cc) e) (fun _ s'' => CX outer H s E e s'') (fun e' s'' => CX outer H s E e' s'') s'

theorem lookup_zip_rev {α : Type} : ∀ {ps : List Str} {us : List α} {i : Nat} {x : Str} {u : α}, ps.Nodup → ps[i]? = some x → us[i]? = some u → (ps.zip us).reverse.lookup x = some u
  | [], _, i, _, _, _, h, _ => by simp at h
  | _ :: _, [], i, _, _, _, _, h => by simp at h
  | p :: ps, v :: us, 0, x, u, nd, h1, h2 => by
    simp at h1 h2
    subst h1; subst h2
    rw [List.zip_cons_cons, List.reverse_cons]
    have nn : ((ps.zip us).reverse).lookup p = none := by
      rw [List.lookup_eq_none_iff]
      intro q hq
      have hq' := List.mem_reverse.mp hq
      have : q.1 ∈ ps := (List.of_mem_zip (a := q.1) (b := q.2) hq').1
      have np : p ∉ ps := (List.nodup_cons.mp nd).1
      simp only [beq_eq_false_iff_ne, ne_eq, bne_iff_ne]
      intro e
      exact np (e ▸ this)
    rw [List.lookup_append, nn]
    simp [List.lookup]
  | p :: ps, v :: us, i + 1, x, u, nd, h1, h2 => by
    have ih := lookup_zip_rev (ps := ps) (us := us) (i := i) (x := x) (u := u) (List.nodup_cons.mp nd).2 (by simpa using h1) (by simpa using h2)
    rw [List.zip_cons_cons, List.reverse_cons, List.lookup_append, ih]
    rfl

/-- the scope of such an __init__: parameters P, names N (parameters first), beside __class__ all local or global -/
structure SupScope (N P : List Str) (sc : Scope) : Prop where
  kind : sc.kind = .function
  co : sc.isCoroutine = false
  gen : sc.isGenerator = false
  nd : N.Nodup
  pre : N.take P.length = P
  par : ∀ x ∈ P, sc.names.lookup x = some .local
  nocell : ∀ y ∈ sc.names, y.2 ≠ .cell
  onlycls : ∀ y ∈ sc.names, y.2 = .free → y.1 = "__class__"
  sup : sc.names.lookup ("super" : Str) = some .globalImplicit
  cls : sc.names.lookup ("__class__" : Str) = some .free

section
variable {CX : CXT} {P : Program} {w : World} {K : PySem.W.Frag} {mg : Str → Option Value} {base : Heap} {N ps : List Str} {qual : Str} {scope : Scope} {f cda cc C : Addr} {A : Around} {outer : List Env} {s : Shared} {H : Hp} {E : XK}

theorem inv_sup {us : List Value} {vs : List V} {h1 : Heap} {tk : Nat} (S : SupScope N ps scope) (T : SupC P K C cda cc) (hd : A.handled = none) (e0 : Env0 P w K mg base A outer s H) (hl : vs.length = ps.length) (r : Vals vs us)
    (hn : h1.Ns s.heap.objs.size (fun x => (ps.zip us).reverse.lookup x)) (hk : ∀ b o, s.heap.get? b = some o → h1.get? b = some o) :
    Inv (cxSup CX P w K mg base N qual scope f cda cc A outer s H E) [] (L2.start N vs) H { s with heap := h1, toks := tk } := by
  have hpl : ps.length ≤ N.length := by have := congrArg List.length S.pre; rw [List.length_take] at this; omega
  have noA : ∀ b : Addr, b ∉ (cxSup CX P w K mg base N qual scope f cda cc A outer s H E).ex := fun b z => absurd (show b ∈ ([] : List Addr) from z) (by simp)
  obtain ⟨cl, cld, csl, hcell⟩ := T.cell
  have bcell : base.get? cc = some ⟨cl, cld, .cell (some (.ref C)), csl⟩ := e0.mod.kin _ _ hcell
  have look1 : ∀ {x : Str} {c : Addr}, ([("__class__", cc)] : List (Str × Addr)).lookup x = some c → x = "__class__" ∧ c = cc := fun {x c} h => by
    by_cases hx : x = "__class__"
    · subst hx
      simp [List.lookup] at h
      exact ⟨rfl, h.symm⟩
    · have : (x == ("__class__" : Str)) = false := by simpa using hx
      simp [List.lookup, this] at h
  refine ⟨⟨e0.mod, S.kind, rfl, rfl, Nat.le_refl _, fun y z c h1 h2 => ?_, fun y hy => ?_, fun y c z _ => absurd z (by simp [cxSup]), fun _ => hd, Around.frames_deeper e0.frames, .inr ⟨rfl, rfl⟩, fun b z => absurd z (noA b), e0.bs, e0.bsz, fun b _ _ => noA b, fun b z => absurd z (noA b), e0.funs, e0.frf⟩,
    rfl, e0.bare, Un.kept hk, ⟨_, hn, fun i y v h1 h2 h3 => ?_⟩, fun y c h => ?_, e0.hok.fresh (Nat.le_refl _), fun y c h => ?_, fun p hp => absurd (show p ∈ ([] : List (Addr × Obj)) from hp) (by simp), e0.hok.kept hk, ?_⟩
  · exact (look1 h1).1.trans (look1 h2).1.symm
  · have hy : scope.names.lookup y = some .cell ∨ scope.names.lookup y = some .free := hy
    rcases hy with hy | hy
    · exact absurd rfl (S.nocell _ (PySem.mem_of_lookup hy))
    · have e := S.onlycls _ (PySem.mem_of_lookup hy) rfl
      have e' : y = "__class__" := e
      subst e'
      exact ⟨cc, by simp [cxSup, List.lookup]⟩
  · have hi : i < vs.length := by
      unfold L2.start at h2
      by_cases hi : i < vs.length
      · exact hi
      · rw [List.getElem?_append_right (by simpa using hi)] at h2
        rw [List.getElem?_replicate] at h2
        split at h2 <;> cases h2
    have ha : vs[i]? = some v := by
      unfold L2.start at h2
      rw [List.getElem?_append_left (by simpa using hi), List.getElem?_map] at h2
      cases e : vs[i]? with
      | none => rw [e] at h2; cases h2
      | some a => rw [e] at h2; cases h2; rfl
    obtain ⟨u, hu, rv⟩ := r.get ha
    have hp : ps[i]? = some y := by
      rw [← S.pre, List.getElem?_take_of_lt (by omega)]; exact h1
    have ndP : ps.Nodup := by rw [← S.pre]; exact S.nd.sublist (List.take_sublist _ _)
    exact ⟨u, rv, .inl ⟨S.par y (List.mem_of_getElem? hp), lookup_zip_rev ndP hp hu⟩⟩
  · obtain ⟨_, rfl⟩ := look1 h
    exact ⟨_, _, hk _ _ (e0.bs _ _ bcell).1, rfl⟩
  · obtain ⟨_, rfl⟩ := look1 h
    exact (e0.bs _ _ bcell).2
  · unfold L2.start
    show _ = N.length
    rw [List.length_append, List.length_map, List.length_replicate]
    omega

/-- super().__init__(text), the first statement -/
theorem sup_stmt {us : List Value} {vs : List V} {body : List Stmt} {p0 p1 p2 p3 pos pos2 : Pos} {j : _} {txt : Str} {fd : FuncData} {oc : Value} {od : Option Addr} {osl : Array (Option Value)} {ar : Arg} {x : Addr} {h1 : Heap} {tk : Nat} {Q : Flow → Shared → Prop} {E' : Value → Shared → Prop}
    (S : SupScope N ps scope) (T : SupC P K C cda cc) (lk : K.lookup f = some ⟨oc, od, .func fd, osl⟩) (hp : (fd.params.posonlyargs ++ fd.params.args).head? = some ar) (hps : ps.head? = some ar.arg) (hus : us.head? = some (.ref x))
    (hms : mg "super" = none) (e0 : Env0 P w K mg base A outer s H) (hd : A.handled = none) (hl : vs.length = ps.length) (r : Vals vs us) (hx : H x = some (exo x C none))
    (hn : h1.Ns s.heap.objs.size (fun x => (ps.zip us).reverse.lookup x)) (hk : ∀ b o, s.heap.get? b = some o → h1.get? b = some o)
    (hq : ∀ s', Inv (cxSup CX P w K mg base N qual scope f cda cc A outer s H E) [] (L2.start N vs) H s' → Q .next s') {pl : Sem Bool}
    (he : ∀ env : Env, env.scope = scope → eval (.Call (.Attribute (.Call (.Name "super" p0) [] [] p1) "__init__" p2) [.Constant (.str txt) j p3] [] pos) env = (do
      let ov ← attributeBase (.Call (.Name "super" p0) [] [] p1) "__init__" env (eval (.Call (.Name "super" p0) [] [] p1) env)
      standAt p2.atName
      let (g, first) ← holding [ov] (getMethod ov "__init__" pl)
      callWith pos g first (backTo pos (starEach [.Constant (.str txt) j p3] env)) []))
    (hi : ∀ env : Env, env.scope = scope → interactive env = false)
    (hs : ∀ env : Env, env.scope = scope → swapsWith (.Call (.Attribute (.Call (.Name "super" p0) [] [] p1) "__init__" p2) [.Constant (.str txt) j p3] [] pos) none pos2.line env = pure false) :
    PySem.wpAt (model P w) (A.deeper (PySem.W.ksEnv qual scope s.heap.objs.size f (.ref cda) cc)) (.func body (PySem.W.ksEnv qual scope s.heap.objs.size f (.ref cda) cc))
      (exec (.Expr (.Call (.Attribute (.Call (.Name "super" p0) [] [] p1) "__init__" p2) [.Constant (.str txt) j p3] [] pos) pos2) (PySem.W.ksEnv qual scope s.heap.objs.size f (.ref cda) cc)) Q E' { s with heap := h1, toks := tk } := by
  have I : Inv (cxSup CX P w K mg base N qual scope f cda cc A outer s H E) [] (L2.start N vs) H { s with heap := h1, toks := tk } := inv_sup S T hd e0 hl r hn hk
  obtain ⟨nm, q, NN, bs, bm, sn, sub, ab, col, dd, k0, k1, k2, k3, k5, hC, hbm⟩ := T.ox.cls
  obtain ⟨ccl, cdd, cvs, ccs, file, tf, hcode, hvs, hfile⟩ := T.code
  obtain ⟨cl, cld, csl, hcell⟩ := T.cell
  obtain ⟨t1, ho⟩ := exo_at I.hok hx
  have kin : K.In h1 := I.kIn
  obtain ⟨mb, hb1, hb2⟩ := e0.mod.blt
  have bk : ∀ b o, base.get? b = some o → h1.get? b = some o := I.bk
  have xps : ps.Nodup := by rw [← S.pre]; exact S.nd.sublist (List.take_sublist _ _)
  have lself : (ps.zip us).reverse.lookup ar.arg = some (.ref x) := by
    refine lookup_zip_rev (i := 0) xps ?_ ?_
    · rw [← List.head?_eq_getElem?]; exact hps
    · rw [← List.head?_eq_getElem?]; exact hus
  have hself : scope.names.lookup ar.arg = some .local := S.par _ (List.mem_of_head? hps)
  refine ks_wpAt_Expr_any (ks_wpAt_MethodCall ?_ (he _ rfl)) (hi _ rfl) (hs _ rfl)
  obtain ⟨hp0, g, d, t, os⟩ := s
  dsimp only at *
  refine ks_wpAt_super_base (env := PySem.W.ksEnv qual scope hp0.objs.size f (.ref cda) cc) S.sup S.cls (by decide) rfl (kin _ _ lk) rfl hp rfl (kin _ _ hcode) rfl hvs hfile T.top ?_
  refine PySem.W.ks_loadName_global S.kind S.sup (Calls.loadGlobal_builtin (env := PySem.W.ksEnv qual scope hp0.objs.size f (.ref cda) cc) (e0.mod.glob.keeps bk) hms (hb1.keeps bk) ((hb2 _ (by decide +kernel)).trans (by first | boot_by_name | rfl | kernel_rfl)) ⟨rfl, ?_⟩)
  refine wpAny_loadName_free S.kind S.cls rfl ⟨_, kin _ _ hcell, rfl⟩ ?_
  refine wpAny_loadName_local S.kind hself hn lself ?_
  refine ks_wpAny_isType_cls (kin _ _ hC) rfl ⟨rfl, ?_⟩
  refine ks_wpAny_call_super (kin _ _ hC) rfl ho rfl (fun c e => by cases e) (PySem.W.looks_mroIn kin T.mro) (fun h2 e2 k2' => ?_)
  have I2 : Inv (cxSup CX P w K mg base N qual scope f cda cc A outer ⟨hp0, g, d, t, os⟩ H E) [] (L2.start N vs) H ⟨h2, g, d, tk, os⟩ := I.kept (t' := tk) k2'
  have kin2 : K.In h2 := I2.kIn
  obtain ⟨t2, ho2⟩ := exo_at I2.hok hx
  have clsC : PySem.W.clsIn K C = some { name := nm, bases := bs, mro := .ref C :: bm, ns := NN, qualname := q, hasDict := true, slotNames := sn, subclasses := sub, abstract := ab, collection := col, hasDel := false } := by unfold PySem.W.clsIn; rw [hC] <;> rfl
  have hal : PySem.W.alongIn K "__init__" bm = some (some (.builtin "ValueError.__init__")) := by
    have e := T.sup
    unfold PySem.W.ks_superIn at e
    rw [clsC, Option.bind_some] at e
    have e3 : ((Value.ref C :: bm).dropWhile (· != .ref C)).drop 1 = bm := by simp [List.dropWhile_cons]
    rw [show (((Value.ref C :: bm).dropWhile fun x => x != Value.ref C).drop 1) = bm from e3] at e
    exact e
  have IA : PySem.W.InstAt h2 x (HandSPX.excO C t2) C none := ⟨ho2, rfl, rfl, trivial⟩
  have hInst : PySem.W.Looks (model P w) h2 (isInstance (.ref x) (.type "ValueError")) true := IA.type.andThen (PySem.W.looks_subIn kin2 T.ve)
  refine PySem.W.kxs_getMethod PySem.W.kxs_ValueError (D := C) (x := x) (C := C) (l₀ := .ref C :: bm) (l := bm) e2 (PySem.W.looks_opaque kin2 T.tp) (fun A Q E s k q => wpAny_bind ((PySem.W.looks_clsIn kin2 clsC) A _ E s k (wpAny_pure q))) (by simp [List.dropWhile_cons]) kin2 hal hInst (PySem.W.ks_ne kin2 IA clsC) (by decide) ?_
  have I3 : Inv (cxSup CX P w K mg base N qual scope f cda cc A outer ⟨hp0, g, d, t, os⟩ H E) [] (L2.start N vs) H ⟨h2.push (PySem.W.kxs_mw "ValueError.__init__" x), g, d, tk + 1, os⟩ := I2.kept (t' := tk + 1) fun b o e => Heap.get?_push_of_some _ e
  have hu : (h2.push (PySem.W.kxs_mw "ValueError.__init__" x)).get? h2.objs.size = some (PySem.W.kxs_mw "ValueError.__init__" x) := Heap.get?_push_at rfl rfl
  obtain ⟨t3, ho3⟩ := exo_at I3.hok hx
  have kin3 : K.In (h2.push (PySem.W.kxs_mw "ValueError.__init__" x)) := I3.kIn
  show wpAny _ _ (callWith pos (.ref h2.objs.size) [] _ []) _ _ _
  refine PySem.W.kxs_callWith (i := "ValueError.__init__") (x := x) rfl ?_
  have hst : backTo pos (starEach [Expr.Constant (.str txt) j p3] (PySem.W.ksEnv qual scope hp0.objs.size f (.ref cda) cc)) = [(false, eval (.Constant (.str txt) j p3) (PySem.W.ksEnv qual scope hp0.objs.size f (.ref cda) cc))] := by rfl
  rw [hst]
  refine Calls.evalArgs_plain (Calls.spliced_cons (Calls.Constant_str (Calls.spliced_nil ?_)))
  refine ⟨hu, ?_⟩
  show wpAny _ _ (call (.ref h2.objs.size) [_]) _ _ _
  refine bound_init PySem.F.excBase_ValueError (kin3 _ _ hC) hu ho3 (by show 1 ≤ sizeLine; rw [sizeLine_eq]; decide) fun h4 t4 k4 e4 => hq _ ?_
  have J := I3.write (t' := tk + 1 + 1) (x := x) (e := x) (o := exo x C none) (by rw [hx]; exact True.intro) (.inl rfl) k4 ⟨_, e4⟩ (exo_ok e4)
  have eu : upd H x (exo x C none) = H := by
    funext b
    by_cases hb : b = x
    · rw [hb, upd_same, hx]
    · rw [upd_ne hb]
  rw [eu] at J
  exact J

/-- THE RULE: an __init__ whose body is super().__init__(text), then rest -/
theorem fn_sup {k : Nat} {params : Arguments} {rest : List Stmt} {p0 p1 p2 p3 pos pos2 : Pos} {j : _} {txt : Str} {dV kV doc pm ct oc : Value} {an od : Option Addr} {osl : Array (Option Value)} {ar : Arg} {sp : Sp}
    (S : SupScope N ps scope) (T : SupC P K C cda cc)
    (lk : K.lookup f = some ⟨oc, od, .func (PySem.W.ksFn "__init__" qual params (.Expr (.Call (.Attribute (.Call (.Name "super" p0) [] [] p1) "__init__" p2) [.Constant (.str txt) j p3] [] pos) pos2 :: rest) scope dV kV doc pm an (.ref cda) ct cc), osl⟩)
    (hcd : PySem.W.codeIn K (.ref cda) qual = true) (hp : (params.posonlyargs ++ params.args).head? = some ar) (hps : ps.head? = some ar.arg) (hms : mg "super" = none)
    (len : ∀ vs H Q E, sp vs H Q E → vs.length = ps.length)
    (hself : ∀ vs H Q E, sp vs H Q E → ∃ x ws, vs = .ref x :: ws ∧ H x = some (exo x C none)) {pl : Sem Bool}
    (he : ∀ env : Env, env.scope = scope → eval (.Call (.Attribute (.Call (.Name "super" p0) [] [] p1) "__init__" p2) [.Constant (.str txt) j p3] [] pos) env = (do
      let ov ← attributeBase (.Call (.Name "super" p0) [] [] p1) "__init__" env (eval (.Call (.Name "super" p0) [] [] p1) env)
      standAt p2.atName
      let (g, first) ← holding [ov] (getMethod ov "__init__" pl)
      callWith pos g first (backTo pos (starEach [.Constant (.str txt) j p3] env)) []))
    (hi : ∀ env : Env, env.scope = scope → interactive env = false)
    (hs : ∀ env : Env, env.scope = scope → swapsWith (.Call (.Attribute (.Call (.Name "super" p0) [] [] p1) "__init__" p2) [.Constant (.str txt) j p3] [] pos) none pos2.line env = pure false)
    (hbody : ∀ (A : Around) (outer : List Env) (s : Shared) (H : Hp) (vs : List V) (Q : VK) (E : XK), Room k (A.deeper (PySem.W.ksEnv qual scope s.heap.objs.size f (.ref cda) cc)) → sp vs H Q E →
      ∃ t, PSs (cxSup CX P w K mg base N qual scope f cda cc A outer s H E) rest t ∧ t { nx := fun _ H' => Q .non H', rt := Q } (L2.start N vs) H) :
    FnOk P w K mg base CX (k + 1) f (PySem.W.ksFn "__init__" qual params (.Expr (.Call (.Attribute (.Call (.Name "super" p0) [] [] p1) "__init__" p2) [.Constant (.str txt) j p3] [] pos) pos2 :: rest) scope dV kV doc pm an (.ref cda) ct cc) ps sp := by
  refine ⟨len, fun A outer s H args us vs Q E hr e0 hb r hsp => ?_⟩
  have hl := len _ _ _ _ hsp
  obtain ⟨x, ws, evs, hx⟩ := hself _ _ _ _ hsp
  have KX : K.In s.heap := e0.mod.kin.keeps fun b o e => (e0.bs b o e).1
  have lim : s.heap.NoLimit := e0.mod.nolimit.keeps fun b o e => (e0.bs b o e).1
  have hus : us.head? = some (.ref x) := by
    subst evs
    cases r with
    | cons rv _ =>
      obtain rfl := rv
      rfl
  refine ks_codeAny_call_defAt hr.depth (KX _ _ lk) rfl lim (PySem.W.codeRec_of KX hcd) rfl hb S.nocell (fun y hy => S.par _ (List.of_mem_zip hy).1) (fun h1 hn hk => ?_) S.co S.gen S.kind
  refine ks_wpAt_execs_cons ?_
  refine sup_stmt (CX := CX) (E := E) (vs := vs) (us := us) (mg := mg) (base := base) (H := H) S T lk hp hps hus hms e0 hr.hd hl r hx hn hk (fun s1 I => ?_) he hi hs
  obtain ⟨t, ht, hq⟩ := hbody A outer s H vs Q E (hr.deeper _) hsp
  refine wpAt_of_wpAny (wpAny_mono (ht.run [] s1 (L2.start N vs) H _ I hq) (fun fl s' hs => ?_) fun e s' hs => hs)
  have fin : ∀ {σ' : L2.St} {H' : Hp} {v : V} {u : Value}, Inv (cxSup CX P w K mg base N qual scope f cda cc A outer s H E) [] σ' H' s' → RelV v u → Q v H' → CE outer P w H s Q u s' :=
    fun {σ' H' v u} J rv q => ⟨v, H', J.os, J.bare, J.base, J.hok, rv, q⟩
  cases fl with
  | ret u =>
    obtain ⟨v, σ', H', J, rv, q⟩ := hs
    exact fin J rv q
  | next =>
    obtain ⟨σ', H', J, q⟩ := hs
    exact fin (v := V.non) (u := Value.none) J rfl q
  | brk =>
    obtain ⟨_, _, _, q⟩ := hs
    exact False.elim q
  | cont =>
    obtain ⟨_, _, _, q⟩ := hs
    exact False.elim q
end
end Nd
/-! Raising an own error with a clean reading; several clauses «except X as e»; isinstance of the caught error. -/
namespace Nd
open PySem PySem.Spec PyProof.Rows L2

/-! ### a reading closed upwards -/
def cloA (ta : TA) : TA := fun σ H Q => ∃ R : List V → Hp → Prop, ta σ H R ∧ ∀ vs H1, R vs H1 → Q vs H1
theorem pa_clo {X : Cx} {es : List Expr} {ta : TA} (h : PA X es ta) : PA X es (cloA ta) := ⟨fun pos pins s σ H Q I ⟨R, hr, hq⟩ =>
  thn (h.run pos pins s σ H R I hr) fun us s1 ⟨vs, H1, I1, r, q⟩ => ⟨vs, H1, I1, r, hq vs H1 q⟩⟩

/-! ### the heap behind C(..) -/
theorem heap_made {H : Hp} {a d : Addr} {C : Addr} {o1 o2 o3 o4 : HO} (ha : H a = none) : upd (del (upd (upd (upd H a o1) d o2) a o3) a) d o4 = upd H d o4 := by
  funext b
  by_cases hb : b = d
  · rw [hb, upd_same, upd_same]
  · rw [upd_ne hb, upd_ne hb]
    by_cases hba : b = a
    · rw [hba, del_same, ha]
    · rw [del_ne hba, upd_ne hba, upd_ne hb, upd_ne hba]

/-- the promise of an __init__ that stores its parameters, each in a field: fs vs says which -/
def spIni (C : Addr) (fs : List V → Option (List (Str × V))) : Sp := fun vs H Q _ => ∃ (x : Addr) (ws : List V) (fv : List (Str × V)), vs = .ref x :: ws ∧ fs ws = some fv ∧ H x = some (exo x C none) ∧
  ∀ d, H d = none → d ≠ x → Q .non (upd (upd H d (exd d fv)) x (exo x C (some d)))

/-- C(e, ..): the class, a new dict that holds the fields -/
def tMk (C : Addr) (fs : List V → Option (List (Str × V))) (ta : TA) : L2.St → Hp → XK → Prop := fun σ H Q => ta σ H fun vs H1 => vs.length ≤ 1000 ∧ ∃ fv, fs vs = some fv ∧ ∀ d, H1 d = none → Q (.ref C) (some d) (upd H1 d (.xd fv))

/-- what the text must say of an error class named x, at C, its __init__ at fI keeping spIni -/
structure ErrC (P : Program) (w : World) (K : PySem.W.Frag) (mg : Str → Option Value) (base : Heap) (k : Nat) (C fI : Addr) (fdI : FuncData) (psI : List Str) (fs : List V → Option (List (Str × V))) (x : Str) : Prop where
  ox : OexC K C
  iC : PySem.W.findIn K (.ref C) "__init__" = some (some (.ref fI))
  tI : PySem.W.typeIn K (.ref fI) = some (.type "function")
  fn : FnOk P w K mg base CX0 k fI fdI psI (spIni C fs)
  b : Binds K fdI psI []
  g : mg x = some (.ref C)

theorem pmk_err {X : Cx} {k : Nat} {C fI : Addr} {fdI : FuncData} {psI : List Str} {fs : List V → Option (List (Str × V))} {x : Str} {p pos : Pos} {e : Expr} {es : List Expr} {ta : TA} (T : ErrC X.prog X.w X.K X.mg X.base k C fI fdI psI fs x) (hr : Room (k + 1) X.A) (ha : PA X (e :: es) ta) (hg : Gl X x := by rfl)
    (hdb : (x == ("__debug__" : Str)) = false := by decide) (he : starEach (e :: es) X.env = (false, eval e X.env) :: starEach es X.env := by rfl) (hpl : (backTo pos (starEach es X.env)).any (·.1) = false := by rfl) :
    PMk X (.Call (.Name x p) (e :: es) [] pos) (tMk C fs ta) := by
  intro pins s σ H Q I h
  refine pmk_oex (dvs := []) (ds := []) T.ox T.iC T.tI T.fn hr T.b .nil pass0 hg T.g (pa_clo ha) hdb he hpl pins s σ H Q I ?_
  refine ⟨_, h, fun vs H1 q => ?_⟩
  obtain ⟨hl, fv, hf, q⟩ := q
  refine ⟨hl, fun a na => ⟨a, vs, fv, by rw [List.append_nil], hf, upd_same, fun d nd hda => ?_⟩⟩
  have nd1 : H1 d = none := by rw [upd_ne hda] at nd; exact nd
  refine ⟨rfl, d, fv, upd_same, ?_, nd1, ?_⟩
  · rw [upd_ne hda, upd_same]
  · rw [heap_made (C := C) na]
    exact q d nd1
/-- raise C(e, ..) -/
def tRais (C : Addr) (fs : List V → Option (List (Str × V))) (W : WX) (ta : TA) : TS := fun _ σ H => tMk C fs ta σ H fun cls d H' => W cls d σ H'
theorem ps_err {X : Cx} {k : Nat} {C fI : Addr} {fdI : FuncData} {psI : List Str} {fs : List V → Option (List (Str × V))} {x : Str} {p pos pos2 : Pos} {e : Expr} {es : List Expr} {ta : TA} {W : WX} (hc : X.calm = true) (T : ErrC X.prog X.w X.K X.mg X.base k C fI fdI psI fs x) (hr : Room (k + 1) X.A) (tk : Takes X W) (ha : PA X (e :: es) ta) (hg : Gl X x := by rfl)
    (hdb : (x == ("__debug__" : Str)) = false := by decide) (he : starEach (e :: es) X.env = (false, eval e X.env) :: starEach es X.env := by rfl) (hpl : (backTo pos (starEach es X.env)).any (·.1) = false := by rfl) :
    PS X (.Raise (some (.Call (.Name x p) (e :: es) [] pos)) none pos2) (tRais C fs W ta) := ps_raise hc tk (pmk_err T hr ha hg hdb he hpl)

/-! ### isinstance(e, ..), e the caught error -/
structure IsC (K : PySem.W.Frag) (C : Addr) : Prop where
  cl : (PySem.W.clsIn K C).isSome = true
  ga : PySem.W.findIn K (.ref C) "__getattribute__" = some (some (.builtin "BaseException.__getattribute__"))
  gt : PySem.W.findIn K (.ref C) "__getattr__" = some none
  sb : PySem.W.subIn K (.ref C) (.type "BaseException") = some true
  ca : PySem.W.findIn K (.ref C) "__class__" = some (some (.builtin "object.__class__"))
  cg : PySem.W.specialIn K (.builtin "object.__class__") "__get__" = some (some (.builtin "getset_descriptor.__get__"))
  ct : PySem.W.takesIn K (.builtin "object.__class__") = some true
  mo : PySem.W.mroIn K C (.type "object") = some true
/-- isinstance(e, c); e lies at a, its class cls, its dict d -/
def rIsX (K : PySem.W.Frag) (a : Addr) (cls : Value) (d : Option Addr) : List V → Hp → VK → Prop := fun xs H Q => ∃ (D : Addr) (dd : Addr) (fv : List (Str × V)) (c : V), xs = [.ref a, c] ∧ cls = .ref D ∧ IsC K D ∧ d = some dd ∧ H dd = some (.xd fv) ∧
  ((∃ (u : Value) (b : Bool), ClsV c u ∧ PySem.W.kitOne K (.ref D) u = some b ∧ Q (.bl b) H) ∨ (∃ (tp : Addr) (cs : List V) (us : List Value) (b : Bool), c = .ref tp ∧ H tp = some (.tup cs) ∧ Paired ClsV cs us ∧ PySem.W.kitAny K (.ref D) us = some b ∧ Q (.bl b) H))
theorem call_isX {X : Cx} {a : Addr} {cls : Value} {d : Option Addr} {oe : Obj} {pn : List (Addr × Obj)} (hz : Zc cls d oe) (hf : ∃ vs, oe.data = .fields vs) : CallR (X.suite a ((a, oe) :: pn)) (.builtin "isinstance") (rIsX X.K a cls d) := by
  intro pins s σ H xs us Q I r h
  obtain ⟨D, dd, fv, c, rfl, rfl, C, rfl, hd, q⟩ := h
  obtain ⟨u1, u2, rfl, r1, r2⟩ := vals2 r
  obtain rfl : u1 = Value.ref a := r1
  obtain ⟨hget, _⟩ := I.pin (a, oe) (List.mem_append.mpr (.inl List.mem_cons_self))
  obtain ⟨vs, hv⟩ := hf
  obtain ⟨mA, hns, _⟩ := (show ObjOk X.prog X.w H s.heap dd (.xd fv) from I.hok dd _ hd)
  obtain ⟨od, ho, _⟩ := lookIn_ns hns
  have J : PySem.W.InstAt s.heap a oe D (some od) := ⟨hget, hz.1, by unfold PySem.W.notCls; rw [hv] <;> rfl, by rw [hz.2]; exact ho⟩
  have Z := PySem.W.kitx_exc (x := a) (ox := oe) (od := some od) C.cl C.ga C.gt C.sb C.ca C.cg C.ct C.mo
  rcases q with ⟨u, b, k, e, q⟩ | ⟨tp, cs, ws, b, rfl, hT, k, e, q⟩
  · have e2 := k.eq r2
    subst e2
    exact PySem.W.kia_one Z I.kIn J e (fun z => nomatch z) fun tk => ⟨.bl b, H, I.tok tk, rfl, q⟩
  · cases (show u2 = Value.ref tp from r2)
    obtain ⟨_, its, rv, o, h1, h2, n, h3⟩ := (show ObjOk X.prog X.w H s.heap tp (.tup cs) from I.hok tp _ hT)
    have e3 := ClsV.all k rv
    subst e3
    obtain ⟨oc, od', dt, sl⟩ := o
    simp only at h2 h3
    subst h2 h3
    exact PySem.W.kia_tup Z I.kIn J h1 e (fun z => nomatch z) fun tk => ⟨.bl b, H, I.tok tk, rfl, q⟩
end Nd
/-! try: body, then several clauses «except X as n: suite». -/
namespace Nd
open PySem PySem.Spec PyProof.Rows L2

abbrev Cl := Nat × Value × (Addr → Value → Option Addr → TS)
/-- behind a suite the clause's slot is empty -/
abbrev Ends.gone (D : Ends) (i : Nat) : Ends := { nx := fun σ' H' => D.nx (σ'.set i none) H', rt := D.rt, bk := fun σ' H' => D.bk (σ'.set i none) H', ct := fun σ' H' => D.ct (σ'.set i none) H' }
/-- what the clauses wish of an error of the body, one after the other -/
def wMs (K : PySem.W.Frag) (Wout : WX) (D : Ends) : List Cl → WX
  | [] => Wout
  | (i, c, ts) :: r => fun cls d σ H => ∃ b, PySem.W.exmOne K cls c = some b ∧ (b = true → ∀ a, H a = none → ts a cls d (Ends.gone D i) (σ.set i (some (.ref a))) H) ∧ (b = false → wMs K Wout D r cls d σ H)
inductive HdAs (X : Cx) : List ExceptHandler → List Cl → Prop
  | nil : HdAs X [] []
  | cons {x n : Str} {i : Nat} {c : Value} {ts : Addr → Value → Option Addr → TS} {b₀ : Stmt} {suite : List Stmt} {np pos' : Pos} {hds : List ExceptHandler} {l : List Cl} (hi : X.N[i]? = some n) (hln : X.env.kindOf n = some .local) (hc : Names X x c)
      (hsu : ∀ (a : Addr) (oe : Obj) (cls : Value) (d : Option Addr) (pn : List (Addr × Obj)), Zc cls d oe → (∃ vs, oe.data = .fields vs) → PSs (X.suite a ((a, oe) :: pn)) (b₀ :: suite) (ts a cls d)) (r : HdAs X hds l) :
      HdAs X (.ExceptHandler (some (.Name x np)) (some n) (b₀ :: suite) pos' :: hds) ((i, c, ts) :: l)

section
variable {X : Cx} {body : List Stmt} {h₀ : ExceptHandler} {hds : List ExceptHandler} {l : List Cl} {pos : Pos} {tb : WX → TS} {Wout : WX}

/-- an error at a that flies in h3; the state without it is sI -/
structure Caught (X : Cx) (pins : List (Addr × Obj)) (σ : L2.St) (H : Hp) (sI s' : Shared) (B h3 : Heap) (a : Addr) (cls : Value) (d : Option Addr) : Prop where
  J : Inv X pins σ H sI
  nb : ∀ b o, sI.heap.get? b = some o → b ∉ frs X.stack → B.get? b = some o
  up : sI.heap.UpToSlots s'.heap
  up3 : s'.heap.UpToSlots h3
  fl : HandSPX.FlyingZ B (X.env :: X.outer) a (Zc cls d) h3
  na : H a = none
  os : s'.os = sI.os
  ag : AllBare s'.gens
section
variable {pins : List (Addr × Obj)} {σ : L2.St} {H : Hp} {sI s' : Shared} {B h3 : Heap} {a : Addr} {cls : Value} {d : Option Addr} {D : Ends}
theorem Caught.inv (c : Caught X pins σ H sI s' B h3 a cls d) {h4 : Heap} (fl : HandSPX.FlyingZ B (X.env :: X.outer) a (Zc cls d) h4) (up : s'.heap.UpToSlots h4) : Inv X pins σ H { s' with heap := h4 } := c.J.landed c.nb fl.1 (c.up.trans up) c.os c.ag
theorem Caught.apart (c : Caught X pins σ H sI s' B h3 a cls d) (hf : X.env.frame = some X.env.locals) : a ≠ X.env.locals ∧ a ∉ X.fs := by
  obtain ⟨oe, vs, he, _, hd⟩ := c.fl.there
  have out : a ∉ frs (X.env :: X.outer) := fun hm => by
    obtain ⟨_, o, e, nf⟩ := c.fl.2.2.1.mem hm
    rw [he] at e
    cases e
    exact nf _ hd
  refine ⟨fun z => out (List.mem_filterMap.mpr ⟨X.env, List.mem_cons_self, by rw [hf, z]⟩), fun hm => ?_⟩
  obtain ⟨e, he', q⟩ := List.mem_filterMap.mp hm
  exact out (List.mem_filterMap.mpr ⟨e, List.mem_cons_of_mem _ he', q⟩)
/-- the clauses, asked one after the other -/
theorem clauses_run (ok : X.Ok) (hs : X.stack = X.env :: X.outer) (hf : X.env.frame = some X.env.locals) (hN : X.N.Nodup) (tk : Takes X Wout) (c : Caught X pins σ H sI s' B h3 a cls d) {hds : List ExceptHandler} {l : List Cl} (hh : HdAs X hds l) :
    wMs X.K Wout D l cls d σ H → wpAny (model X.prog X.w) X.A (handleBy (.ref a) X.env hds) (SP X pins D) X.xe { s' with heap := h3 } := by
  have J3 := c.inv c.fl c.up3
  obtain ⟨nL, nF⟩ := c.apart hf
  induction hh with
  | nil =>
    intro w
    obtain ⟨f1, f2, f3, oe, vs, T, oT, ts', he, hz, hd, h1, hr⟩ := id c.fl
    refine wpAny_handleBy_nil ?_
    unfold PySem.passOn
    refine wpAny_bind (wpAny_field he hd h1 ?_)
    rw [if_neg (show ¬ ((Value.ref T == Value.none) = true) from by simp)]
    have flown : wpAny (model X.prog X.w) X.A (setFlight (.ref a) X.env.frame) (fun _ s4 => wpAny (model X.prog X.w) X.A (throw (.ref a) : Sem Flow) (SP X pins D) X.xe s4) X.xe { s' with heap := h3 } := by
      rw [hf]
      exact HandSPX.setFlight_upZ c.fl fun h4 hh4 up4 => wpAny_throw (tk _ _ ⟨a, B, sI, pins, σ, H, cls, d, rfl, c.J, c.nb, (c.up.trans c.up3).trans up4, .inr (.inr (by rw [hs]; exact hh4)), c.na, c.os, c.ag, w⟩)
    first
      | exact wpAny_bind (wpAny_pure (wpAny_bind flown))
      | exact wpAny_bind flown
  | @cons x n i k ts b₀ suite np pos' hds2 l2 hi hln hc hsu r ih =>
    intro w
    obtain ⟨b, hb1, yes, no⟩ := w
    obtain ⟨oe3, vs3, he3, hz3, hd3⟩ := c.fl.there
    have S3 := J3.suite he3 hd3 c.na nL nF
    refine wpAny_handleBy_cons (codeAny_handlers_test ?_) (by intro q; cases q)
    have LT : PySem.W.Looks (model X.prog X.w) h3 (typeOf (.ref a)) cls := fun A Q E s k q => wpAny_typeOf_ref (k _ _ he3) (by rw [hz3.1]; exact q)
    have LM := PySem.W.exm_one (M := model X.prog X.w) (J3.kIn) LT hb1
    have name : ∀ {Q : Value → Shared → Prop} {E : Value → Shared → Prop}, Q k { s' with heap := h3 } → wpAny (model X.prog X.w) (X.A.mark (some (.ref a))) (eval (.Name x np) X.env) Q E { s' with heap := h3 } := fun {Q E} q => by
      obtain ⟨hg, hdbg, hm | ⟨hm, hv, hnn⟩⟩ := hc
      · exact ld_glob (X := X.suite a ((a, oe3) :: (X.pn ++ pins))) S3 hg hm q hdbg
      · exact ld_blt (X := X.suite a ((a, oe3) :: (X.pn ++ pins))) S3 hg hm hv q hnn hdbg
    refine name (LM.here ?_)
    cases b with
    | false =>
      show wpAny _ X.A (handleBy (.ref a) X.env hds2) _ _ _
      exact ih (no rfl)
    | true =>
      refine codeAny_handlers_suite_as ?_
      refine HandSPX.lands_againZ c.fl fun h4 fl4 up4 => ?_
      have J4 := c.inv fl4 (c.up3.trans up4)
      obtain ⟨oe4, vs4, he4, hz4, hd4⟩ := fl4.there
      have S4 := J4.suite he4 hd4 c.na nL nF
      refine store_ok (X := X.suite a ((a, oe4) :: (X.pn ++ pins))) (v := .ref a) S4 hN hi (.inl hln) rfl (fun s5 S5 => ?_) (.inr hln)
      refine wpAny_mono ((hsu a oe4 cls d (X.pn ++ pins) hz4 ⟨_, hd4⟩).run [] s5 _ H _ S5 (yes rfl a c.na)) (fun f s6 hsp => ?_) (fun _ _ z => False.elim z)
      have goes : ∀ {σ6 : L2.St} {H6 : Hp} {Q : Shared → Prop}, Inv (X.suite a ((a, oe4) :: (X.pn ++ pins))) [] σ6 H6 s6 → (∀ s7, Inv X pins (σ6.set i none) H6 s7 → Q s7) →
          wpAny (model X.prog X.w) X.A (do bindName X.env n .none; unbindBehindTheSuite X.env n pos') (fun _ s7 => Q s7) X.xe s6 := fun {σ6 H6 Q} S6 hq => gone_ok (S6.unsuite ok) hN hi hln hq
      cases f with
      | next => obtain ⟨σ6, H6, S6, q6⟩ := hsp; exact goes S6 fun s7 J7 => ⟨_, _, J7, q6⟩
      | brk => obtain ⟨σ6, H6, S6, q6⟩ := hsp; exact goes S6 fun s7 J7 => ⟨_, _, J7, q6⟩
      | cont => obtain ⟨σ6, H6, S6, q6⟩ := hsp; exact goes S6 fun s7 J7 => ⟨_, _, J7, q6⟩
      | ret u => obtain ⟨v6, σ6, H6, S6, r6, q6⟩ := hsp; exact goes S6 fun s7 J7 => ⟨_, _, _, J7, r6, q6⟩
end
theorem ps_try_ms (hs : X.stack = X.env :: X.outer) (hf : X.env.frame = some X.env.locals) (hN : X.N.Nodup) (tk : Takes X Wout)
    (hb : ∀ (W : WX) (pn : List (Addr × Obj)) (xe : Value → Shared → Prop), Takes (X.tr pn xe) W → PassesOwn (model X.prog X.w) X.A X.env xe → PSs (X.tr pn xe) body (tb W))
    (hh : HdAs X (h₀ :: hds) l) : PS X (.Try body (h₀ :: hds) [] [] pos) (fun D σ H => tb (wMs X.K Wout D l) D σ H) := by
  refine ⟨fun pins s σ H D I h => ?_⟩
  have ok := I.ok
  refine wpAny_Try_except ?_
  refine wpAny_mono ((hb (wMs X.K Wout D l) (X.pn ++ pins) (fun e s₁ => wpAny (model X.prog X.w) X.A (noteFrame e X.env) (fun _ s₂ => wpAny (model X.prog X.w) X.A (setFlight e none) (fun _ s₃ =>
    wpAny (model X.prog X.w) X.A (handleBy e X.env (h₀ :: hds)) (SP X pins D) X.xe s₃) X.xe s₂) X.xe s₁) (fun u s' xx => ?_) PassesOwn.looking).run [] s σ H D (I.toTry _) h) (fun f s1 hsp => ?_) (fun e s1 he => he)
  · obtain ⟨a, B, sI, pins', σ', H', cls, d, rfl, J', nb, up, sky, na, os, ag, w⟩ := xx
    have sky' : Sky B (X.env :: X.outer) a (Zc cls d) X.env.locals s'.heap := by rw [← hs]; exact sky
    show wpAny (model X.prog X.w) X.A (noteFrame (.ref a) X.env) _ _ _
    refine Sky.land Zc.steady (by rw [ok.frames, hs]) hf sky' fun h3 fl3 up3 => ?_
    exact clauses_run ok hs hf hN tk ⟨J'.ofTry ok, nb, up, up3, fl3, na, os, ag⟩ hh w
  · cases f with
    | next => obtain ⟨σ', H', J', q⟩ := hsp; exact wpAny_execs_nil ⟨σ', H', J'.ofTry ok, q⟩
    | brk => obtain ⟨σ', H', J', q⟩ := hsp; exact ⟨σ', H', J'.ofTry ok, q⟩
    | cont => obtain ⟨σ', H', J', q⟩ := hsp; exact ⟨σ', H', J'.ofTry ok, q⟩
    | ret u => obtain ⟨v, σ', H', J', r, q⟩ := hsp; exact ⟨v, σ', H', J'.ofTry ok, r, q⟩
end
end Nd
/-! Defs by name; defs that may be called anywhere (within an except suite too); lists or tuples walked. -/
namespace Nd
open PySem PySem.Spec PyProof.Rows L2

section
variable {P : Program} {w : World} {K : PySem.W.Frag} {mg : Str → Option Value} {base : Heap}

/-- the def x stands at the module's top with this body -/
structure DefAt (K : PySem.W.Frag) (mg : Str → Option Value) (x : Str) (st : Stmt) (ps : List Str) : Prop where
  ex : ∃ f fd, Fun K x x st f fd ∧ mg x = some (.ref f) ∧ Binds K fd ps []
/-- the def x keeps a promise -/
structure Has (P : Program) (w : World) (K : PySem.W.Frag) (mg : Str → Option Value) (base : Heap) (k : Nat) (x : Str) (ps : List Str) (sp : Sp) : Prop where
  ex : ∃ f fd, FnOk P w K mg base (L2.CX P w) k f fd ps sp ∧ mg x = some (.ref f) ∧ PySem.W.keepIn K (.ref f) = true ∧ Binds K fd ps []
theorem Has.imp {k : Nat} {x : Str} {ps : List Str} {sp sp' : Sp} (h : Has P w K mg base k x ps sp) (i : ∀ vs H Q E, sp' vs H Q E → sp vs H Q E) : Has P w K mg base k x ps sp' := by
  obtain ⟨f, fd, F, a, b, c⟩ := h.ex
  exact ⟨f, fd, F.imp i, a, b, c⟩
/-- by its body -/
theorem DefAt.has {x : Str} {st : Stmt} {N ps : List Str} {k : Nat} {sp : Sp} (D : DefAt K mg x st ps) (S : FnScope N ps (defScope st)) (len : ∀ vs H Q E, sp vs H Q E → vs.length = ps.length)
    (hbody : ∀ (f : Addr) (cdv : Value) (A : Around) (outer : List Env) (s : Shared) (H : Hp) (vs : List V) (Q : VK) (E : XK), Room k (A.deeper (envOfC x (defScope st) s.heap.objs.size f cdv)) → sp vs H Q E →
      ∃ t, PSs (cxOf (L2.CX P w) P w K mg base N x (defScope st) f cdv A outer s H E) (defBody st) t ∧ t { nx := fun _ H' => Q .non H', rt := Q } (L2.start N vs) H) : Has P w K mg base (k + 1) x ps sp := by
  obtain ⟨f, fd, F, hm, hb⟩ := D.ex
  exact ⟨f, fd, F.okX S len fun cdv A outer s H vs Q E hr h => hbody f cdv A outer s H vs Q E hr h, hm, F.kp, hb⟩

/-! ### room without a word on what is handled -/
structure RoomA (k : Nat) (A : Around) : Prop where
  dp : A.depth + 3 * k + 5 < recursionLimit
  un : A.units + 16 * k + 200 < cLine
theorem RoomA.of {k : Nat} {A : Around} (r : Room k A) : RoomA k A := ⟨r.dp, r.un⟩
theorem RoomA.mono {j k : Nat} {A : Around} (r : RoomA k A) (h : j ≤ k) : RoomA j A := ⟨by have := r.dp; omega, by have := r.un; omega⟩
theorem RoomA.deeper {k : Nat} {A : Around} (r : RoomA (k + 1) A) (env : Env) : RoomA k (A.deeper env) :=
  ⟨by have := r.dp; show A.depth + 1 + 3 * k + 5 < _; omega, by have := r.un; show A.units + 3 + 16 * k + 200 < _; omega⟩
theorem RoomA.depth {k : Nat} {A : Around} (r : RoomA k A) : A.depth < recursionLimit := by have := r.dp; omega
theorem RoomA.units {k : Nat} {A : Around} (r : RoomA k A) : A.units + 64 < cLine := by have := r.un; omega
/-- in an except suite there is the same room -/
theorem RoomA.suite {k : Nat} {A : Around} (r : Room k A) (v : Option Value) : RoomA k (A.mark v) := ⟨r.dp, r.un⟩

/-- a def that raises nothing, called anywhere -/
structure FnA (P : Program) (w : World) (K : PySem.W.Frag) (mg : Str → Option Value) (base : Heap) (k : Nat) (f : Addr) (fd : FuncData) (ps : List Str) (sp : Sp) : Prop where
  len : ∀ vs H Q E, sp vs H Q E → vs.length = ps.length
  run : ∀ (A : Around) (outer : List Env) (s : Shared) (H : Hp) (args : Args) (us : List Value) (vs : List V) (Q : VK) (E : XK), RoomA k A → Env0 P w K mg base A outer s H → BindsTo s fd args (ps.zip us) → Vals vs us → sp vs H Q E →
    codeAny (model P w) A (.call (.ref f) args) (CR CX0 outer P w H s Q E) s
structure HasA (P : Program) (w : World) (K : PySem.W.Frag) (mg : Str → Option Value) (base : Heap) (k : Nat) (x : Str) (ps : List Str) (sp : Sp) : Prop where
  ex : ∃ f fd, FnA P w K mg base k f fd ps sp ∧ mg x = some (.ref f) ∧ PySem.W.keepIn K (.ref f) = true ∧ Binds K fd ps []
theorem HasA.has {k : Nat} {x : Str} {ps : List Str} {sp : Sp} (h : HasA P w K mg base k x ps sp) : Has P w K mg base k x ps sp := by
  obtain ⟨f, fd, F, a, b, c⟩ := h.ex
  refine ⟨f, fd, ⟨F.len, fun A outer s H args us vs Q E hr he hb hv hs => codeAny_mono (F.run A outer s H args us vs Q E (.of hr) he hb hv hs) fun r s' q => ?_⟩, a, b, c⟩
  cases r with
  | error e => exact False.elim q
  | ok fl => cases fl <;> exact q
/-- the context of its body -/
def cxA (P : Program) (w : World) (K : PySem.W.Frag) (mg : Str → Option Value) (base : Heap) (N : List Str) (qual : Str) (scope : Scope) (f : Addr) (cd : Value) (A : Around) (outer : List Env) (s : Shared) (H : Hp) : Cx :=
  { cxOf CX0 P w K mg base N qual scope f cd A outer s H (fun _ _ _ => False) with calm := false, xe := fun _ _ => False }
theorem inv_A {N ps : List Str} {qual : Str} {scope : Scope} {f : Addr} {cd : Value} {A : Around} {outer : List Env} {s s1 : Shared} {H : Hp} {us : List Value} {vs : List V}
    (S : FnScope N ps scope) (e0 : Env0 P w K mg base A outer s H) (hl : vs.length = ps.length) (r : Vals vs us)
    (x : InCallC s s.heap.objs.size (bindL (envOfC qual scope s.heap.objs.size f cd).kindOf (ps.zip us) fun _ => none) (cellsFrom (s.heap.objs.size + 1) scope.names []) (bindC (envOfC qual scope s.heap.objs.size f cd).kindOf (ps.zip us) fun _ => none) s1) :
    Inv (cxA P w K mg base N qual scope f cd A outer s H) [] (L2.start N vs) H s1 := by
  have e1 : Env0 P w K mg base { A with handled := none } outer s H := ⟨e0.frames, e0.mod, e0.bs, e0.bsz, e0.funs, e0.frf, e0.hok, e0.bare⟩
  have I := inv_start (CX := CX0) (E := fun _ _ _ => False) (f := f) (cd := cd) (qual := qual) (A := { A with handled := none }) S rfl e1 hl r x
  have ok := I.ok
  exact ⟨⟨ok.mod, ok.kind, ok.glob, ok.blt, ok.above, ok.inj, ok.has, ok.cab, (fun z => Bool.noConfusion (show false = true from z)), Around.frames_deeper e0.frames, ok.stk, ok.exf, ok.bs, ok.bsz, ok.noex, ok.exfs, ok.funs, ok.frf⟩,
    I.os, I.bare, I.base, I.loc, I.cell, I.free, I.freeC, I.pin, I.hok, I.len⟩
theorem DefAt.hasA {x : Str} {st : Stmt} {N ps : List Str} {k : Nat} {sp : Sp} (D : DefAt K mg x st ps) (S : FnScope N ps (defScope st)) (len : ∀ vs H Q E, sp vs H Q E → vs.length = ps.length)
    (hbody : ∀ (f : Addr) (cdv : Value) (A : Around) (outer : List Env) (s : Shared) (H : Hp) (vs : List V) (Q : VK) (E : XK), RoomA k (A.deeper (envOfC x (defScope st) s.heap.objs.size f cdv)) → sp vs H Q E →
      ∃ t, PSs (cxA P w K mg base N x (defScope st) f cdv A outer s H) (defBody st) t ∧ t { nx := fun _ H' => Q .non H', rt := Q } (L2.start N vs) H) : HasA P w K mg base (k + 1) x ps sp := by
  obtain ⟨f, fd, F, hm, hb⟩ := D.ex
  obtain ⟨oc, od, kV, doc, pm, an, cdv, ct, osl, rfl, lk, hcd⟩ := F.ex
  refine ⟨f, _, ⟨len, fun A outer s H args us vs Q E hr e0 hb r hsp => ?_⟩, hm, F.kp, hb⟩
  have hl := len _ _ _ _ hsp
  have KX : K.In s.heap := e0.mod.kin.keeps fun b o e => (e0.bs b o e).1
  have lim : s.heap.NoLimit := e0.mod.nolimit.keeps fun b o e => (e0.bs b o e).1
  have hkind : ∀ y ∈ ps.zip us, (defScope st).names.lookup y.1 = some .local ∨ ((defScope st).names.lookup y.1 = some .cell ∧ ((cellsFrom (s.heap.objs.size + 1) (defScope st).names []).lookup y.1).isSome = true) := fun ⟨n, v⟩ hy => by
    rcases S.par n (List.of_mem_zip hy).1 with q | q
    · exact .inl q
    · exact .inr ⟨q, PySem.W.cellsFrom_some _ _ _ (.inl q)⟩
  refine codeAny_call_function hr.depth (KX _ _ lk) rfl S.co S.gen rfl (PySem.W.codeRec_of KX hcd) (hb _ _ _ _ ?_)
  refine wpAny_newFunctionEnv_cells S.kind hkind fun env he s1 y => ?_
  subst he
  refine ⟨lim.keeps y.toInCall.keep, codeAny_func ?_⟩
  obtain ⟨t, ht, hq⟩ := hbody f cdv A outer s H vs Q E (hr.deeper _) hsp
  refine wpAny_mono (ht.run [] s1 (L2.start N vs) H _ (inv_A S e0 hl r y) hq) (fun fl s' hs => ?_) fun e s' hs => False.elim hs
  have fin : ∀ {σ' : L2.St} {H' : Hp} {v : V} {u : Value}, Inv (cxA P w K mg base N x (defScope st) f cdv A outer s H) [] σ' H' s' → RelV v u → Q v H' → CE outer P w H s Q u s' :=
    fun {σ' H' v u} J rv q => ⟨v, H', J.os, J.bare, J.base, J.hok, rv, q⟩
  cases fl with
  | ret u => obtain ⟨v, σ', H', J, rv, q⟩ := hs; exact fin J rv q
  | next => obtain ⟨σ', H', J, q⟩ := hs; exact fin (v := V.non) (u := Value.none) J rfl q
  | brk => obtain ⟨_, _, _, q⟩ := hs; exact False.elim q
  | cont => obtain ⟨_, _, _, q⟩ := hs; exact False.elim q
end

/-! ### calls -/
section
variable {X : Cx} {k : Nat} {ps : List Str} {sp : Sp} {W : WX} {x : Str} {p pos : Pos} {e : Expr} {es : List Expr} {ta : TA}
theorem pe_hasR (G : Has X.prog X.w X.K X.mg X.base k x ps sp) (hr : Room k X.A) (tk : Takes X W) (ha : PA X (e :: es) ta) (hg : Gl X x := by rfl) (hdb : (x == ("__debug__" : Str)) = false := by decide)
    (he : starEach (e :: es) X.env = (false, eval e X.env) :: starEach es X.env := by rfl) (hpl : (backTo pos (starEach es X.env)).any (·.1) = false := by rfl) : PE X (.Call (.Name x p) (e :: es) [] pos) (tCallS sp (WE W) ta) := by
  obtain ⟨f, fd, F, hm, hk, hb⟩ := G.ex
  exact pe_callS F hr hg hm hk hb (fun σ => passAt tk σ) ha hdb he hpl
theorem pe_hasN (G : Has X.prog X.w X.K X.mg X.base k x ps sp) (hr : Room k X.A) (ha : PA X (e :: es) ta) (hg : Gl X x := by rfl) (hdb : (x == ("__debug__" : Str)) = false := by decide)
    (he : starEach (e :: es) X.env = (false, eval e X.env) :: starEach es X.env := by rfl) (hpl : (backTo pos (starEach es X.env)).any (·.1) = false := by rfl) : PE X (.Call (.Name x p) (e :: es) [] pos) (tCallS sp (fun _ => E0) ta) := by
  obtain ⟨f, fd, F, hm, hk, hb⟩ := G.ex
  exact pe_callS F hr hg hm hk hb (fun σ pins H s e' s' I c => passL pins σ H s e' s' I c) ha hdb he hpl
theorem pe_hasA (G : HasA X.prog X.w X.K X.mg X.base k x ps sp) (hr : RoomA k X.A) (ha : PA X (e :: es) ta) (hg : Gl X x := by rfl) (hdb : (x == ("__debug__" : Str)) = false := by decide)
    (he : starEach (e :: es) X.env = (false, eval e X.env) :: starEach es X.env := by rfl) (hpl : (backTo pos (starEach es X.env)).any (·.1) = false := by rfl) : PE X (.Call (.Name x p) (e :: es) [] pos) (tCallS sp (fun _ => E0) ta) := by
  obtain ⟨f, fd, F, hm, hk, hb⟩ := G.ex
  refine ⟨fun pins s σ H Q I h => ?_⟩
  refine wpAny_Call_Name_kw (ld_glob I hg hm ?_ hdb)
  refine PySem.W.callWith_K (h₀ := X.base) I.ok.mod.kin hk (thn (ha.run pos pins s σ H _ I h) fun us s1 ⟨vs, H1, I1, r, q⟩ => ⟨I1.kIn, ?_⟩) he hpl
  have hl : us.length = ps.length := by rw [← r.length]; exact F.len _ _ _ _ q
  have b := hb s1 us I1.kIn (by rw [List.append_nil]; exact hl)
  rw [List.append_nil] at b
  refine wpAny_call (codeAny_mono (F.run X.A X.stack s1 H1 ⟨us, []⟩ us vs Q E0 hr I1.env0 b r q) fun r s' hq => ?_)
  cases r with
  | error e => exact False.elim hq
  | ok fl =>
    cases fl with
    | ret u => exact I1.after hq
    | next => exact False.elim hq
    | brk => exact False.elim hq
    | cont => exact False.elim hq
end

/-! ### a list or a tuple, walked -/
def SqS (K : PySem.W.Frag) (H : Hp) (a : Addr) (xs : List V) : Prop := SqL K H a xs ∨ SqT K H a xs
def iSeq (K : PySem.W.Frag) (tl : TE) : TI := fun σ H R => tl σ H fun x H1 => ∃ a xs, x = .ref a ∧ ((SqL K H1 a xs ∧ R (Itl K a) H1) ∨ (SqT K H1 a xs ∧ R (Itt K a) H1))
theorem pi_seq {X : Cx} {tg l : Expr} {tl : TE} (hl : PE X l tl) : PI X tg l (iSeq X.K tl) := by
  refine ⟨fun pins s σ H R I h => ?_⟩
  refine thn (hl.run pins s σ H _ I h) fun v s1 ⟨x, H1, I1, r1, a, xs, ex, q⟩ => ?_
  subst ex
  cases r1
  have new : ∀ {b : Addr}, b ∈ [s1.heap.objs.size] → b = s1.heap.objs.size := fun {b} hb => by simpa using hb
  have fp : ∀ b ∈ [s1.heap.objs.size], FpOk X pins H1 b := fun b hb => by
    rw [new hb]
    exact I1.fpOk (Nat.le_refl _) (I1.hok.fresh (Nat.le_refl _))
  have kept : ∀ o, Inv X pins σ H1 { s1 with heap := s1.heap.push o } := fun o => I1.kept (t' := s1.toks) fun b u e => Heap.get?_push_of_some _ e
  rcases q with ⟨hq, q⟩ | ⟨hq, q⟩
  · obtain ⟨its, rv, p, hz⟩ := I1.list hq
    exact wpAny_pyIter_list p.isList ⟨_, _, _, _, H1, rfl, kept _, turn_list a _, ⟨_, Heap.get?_push_size _ rfl, rfl, rfl⟩, fp, q⟩
  · obtain ⟨its, rv, p, hz⟩ := I1.tuple hq
    exact wpAny_pyIter_tuple (show s1.heap.IsTuple a its.toArray from p) ⟨_, _, _, _, H1, rfl, kept _, turn_tuple a _, ⟨_, Heap.get?_push_size _ rfl, rfl, rfl⟩, fp, q⟩
end Nd
namespace Nd
open PySem PySem.Spec PyProof.Rows L2
/-! ### set(xs) of a list of ints, told exactly -/
section
variable {P : Program} {w : World} {A : Around} {E : Value → Shared → Prop} {s : Shared}
abbrev freshSet (w : World) : Obj := { cls := .type "set", dict := none, data := .set #[] 0 (.fresh 0 0 (!w.params.followText "set-order")) }
theorem call_set_lstI {l : Addr} {items : Array Value} (ns : List Int) {Q : Value → Shared → Prop} (hh : A.handled = none) (hl : s.heap.IsList l items) (hit : IntsAre items.toList ns) (hb : ns.length + 1 < scanBound)
    (h : ∀ (h' : Heap) (tk c : Nat), SetR w h' s.heap.objs.size (fun j => decide (j ∈ ns)) c → c ≤ ns.length → (∀ b o, s.heap.get? b = some o → h'.get? b = some o) → Q (.ref s.heap.objs.size) { s with heap := h', toks := tk }) :
    wpAny (model P w) A (call (.type "set") [.ref l]) Q E s := by
  have size : items.size = ns.length := by
    have q := IntsAre.length hit
    rwa [Array.length_toList] at q
  obtain ⟨c, tl, hmro⟩ := F.called_set.mro
  have c1 := F.called_set.made
  have c2 := F.called_set.sub
  have c3 := F.called_set.notType
  have c4 := F.called_set.canCreate
  have c5 := F.typeCall_set_1 (.ref l)
  refine wpAny_call (codeAny_of_tree ?_)
  show wpAny _ _ (callAny (.type "set") _) _ _ _
  refine wpAny_pure ⟨Code.quiet_builtin _ (by decide +kernel), codeAny_builtin F.entry_type_call ?_⟩
  rw [Around.under_plain (weight_type_call_type "set" [.ref l] []) rfl]
  repeat (any_goals (first | assumption | wp_step))
  -- the empty set, made
  refine codeAny_mono (code_set_led1 (.ref l) (E := E) (Q₁ := fun obj s₁ => obj = .ref s.heap.objs.size ∧ s₁ = { s with heap := s.heap.push (freshSet w) }) ⟨rfl, rfl⟩) fun r s₁ hr => ?_
  rcases r with e | fl
  · exact hr
  cases fl with
  | ret obj =>
    obtain ⟨rfl, rfl⟩ := hr
    have hS : (s.heap.push (freshSet w)).get? s.heap.objs.size = some (freshSet w) := Heap.get?_push_size _ rfl
    have hT : Shared.TypeIs { s with heap := s.heap.push (freshSet w) } (.ref s.heap.objs.size) "set" := ⟨_, hS, rfl⟩
    have i1 := F.called_set.init.lookup
    have i2 := F.called_set.init.bind (.ref s.heap.objs.size)
    repeat (any_goals (first | assumption | wp_step))
    -- filled
    refine codeAny_mono (codeAny_call_builtin (R := wants (fun r s₂ => r = .none ∧ ∃ h' tk c, s₂ = { s with heap := h', toks := tk } ∧ SetR w h' s.heap.objs.size (fun j => decide (j ∈ ns)) c ∧ c ≤ ns.length ∧
        (∀ b o, s.heap.get? b = some o → h'.get? b = some o)) E) F.called_set.init.plain F.entry_set_init (check_set_init_1 hT ?_)) fun r₂ s₂ hr₂ => ?_
    · obtain ⟨⟨lc, ld, lt, ls⟩, hol, hcl, nl, hdl⟩ := hl
      simp only at hcl hdl
      subst hcl; subst hdl
      have hol' : (s.heap.push (freshSet w)).get? l = some { cls := .type "list", dict := ld, data := .seq items nl, slots := ls } := Heap.get?_push_of_some _ hol
      have b1 := F.sub_list_set
      have b2 := F.sub_list_frozenset
      have b3 : (Value.type "list" == Value.type "dict") = false := by decide
      have lst : (s.heap.push (freshSet w)).IsList l items := ⟨_, hol', rfl, nl, rfl⟩
      unfold Builtin.«set.__init__» noKeywords Builtin.Frozenset.updateFrom
      generalize hPI : pyIter = PI
      wp_walk
      subst hPI
      refine wpAny_pyIter_list lst ?_
      refine wpAny_bind (wpAny_runValue ?_)
      have lt : l < s.heap.objs.size := Heap.lt_size hol
      have zs : (s.heap.push (freshSet w)).objs.size = s.heap.objs.size + 1 := Heap.size_push ..
      have cool : A.in1.in1.in1.handled = none := by simp [hh]
      have apart : l ≠ (s.heap.push (freshSet w)).objs.size := by
        rw [zs]
        exact Nat.ne_of_lt (Nat.lt_succ_of_lt lt)
      have out : s.heap.objs.size ∉ [(s.heap.push (freshSet w)).objs.size, l] := by
        rw [zs]; simp only [List.mem_cons, List.not_mem_nil, or_false, not_or]
        exact ⟨Nat.ne_of_lt (Nat.lt_succ_self _), Nat.ne_of_gt lt⟩
      have vals : ∀ (i : Nat) (v : Value), items[i]? = some v → ∃ k t, ns[i]? = some k ∧ v = .int k t := fun i v hv => by
        have hi : i < ns.length := by rw [← size]; exact (Array.getElem?_eq_some_iff.mp hv).1
        obtain ⟨t, e⟩ := PyProof.Rows.IntsAre.int_at hit i v (by rw [Array.getElem?_toList]; exact hv)
        refine ⟨ns[i], t, List.getElem?_eq_getElem hi, ?_⟩
        rw [e, List.getD_eq_getElem?_getD, List.getElem?_eq_getElem hi] <;> rfl
      refine set_update_ints ((Walks.list cool _ l apart items).toS) s.heap.objs.size out ns size hb vals (items.size - 0) 0 _ (by omega) (Nat.zero_le _) ⟨⟨_, Heap.get?_push_size _ rfl, rfl, rfl⟩, (lst.push _)⟩ ?S0 ?SR
      case S0 => exact ⟨0, Nat.le_refl 0, setR_new_at (Heap.get?_push_of_some _ hS)⟩
      case SR =>
        intro s' c' hm hc' hS'
        obtain ⟨h', g2, d', tk', os'⟩ := s'
        have eg : g2 = s.gens := hm.gens
        have ed : d' = s.drawn := hm.drawn
        have eo : os' = s.os := hm.os
        subst eg; subst ed; subst eo
        show wpAny _ _ _ _ _ _
        refine wpAny_pure ?_
        show wpAny _ _ (ret Value.none) _ _ _
        rw [size] at hc'
        refine wpAny_pure ⟨rfl, h', tk', c', rfl, hS', hc', fun b o e => ?_⟩
        have b0 : b < s.heap.objs.size := Heap.lt_size e
        refine hm.heap b o ?_ (Heap.get?_push_of_some _ (Heap.get?_push_of_some _ e))
        rw [zs]
        simp only [List.mem_cons, List.not_mem_nil, or_false, not_or]
        exact ⟨Nat.ne_of_lt b0, Nat.ne_of_lt (Nat.lt_succ_of_lt b0)⟩
    · rcases r₂ with e | fl₂
      · exact hr₂
      cases fl₂ with
      | ret r =>
        obtain ⟨rfl, h', tk, c', rfl, hS', hc', hk'⟩ := hr₂
        repeat (any_goals (first | assumption | wp_step))
        exact h _ _ _ hS' hc' hk'
      | _ => exact hr₂.elim
  | _ => exact hr.elim
end
end Nd
namespace Nd
open PySem PySem.Spec PyProof.Rows L2
/-! ### set(xs), xs a list or tuple of ints -/
def rSetI (K : PySem.W.Frag) (w : World) : List V → Hp → VK → Prop := fun xs H Q => ∃ (a : Addr) (ns : List Int), xs = [.ref a] ∧ SqS K H a (ns.map V.int) ∧ ns.length + 1 < scanBound ∧
  ∀ p c, H p = none → c ≤ ns.length → Q (.ref p) (upd H p (SetO w p (fun j => decide (j ∈ ns)) c))
theorem cr_setL {X : Cx} (hc : X.calm = true) : CallR X (.type "set") (rSetI X.K X.w) := by
  intro pins s σ H xs us Q I r h
  obtain ⟨a, ns, rfl, hq, hb, q⟩ := h
  rw [Vals.ref1 r]
  have fin : ∀ (h' : Heap) (tk c : Nat), SetR X.w h' s.heap.objs.size (fun j => decide (j ∈ ns)) c → c ≤ ns.length → (∀ b o, s.heap.get? b = some o → h'.get? b = some o) → EP X pins σ Q (.ref s.heap.objs.size) { s with heap := h', toks := tk } := fun h' tk c R hle k =>
    ⟨.ref s.heap.objs.size, upd H s.heap.objs.size (SetO X.w s.heap.objs.size (fun j => decide (j ∈ ns)) c), I.laid k (Nat.le_refl _) (setO_new R), rfl, q _ c (I.hok.fresh (Nat.le_refl _)) hle⟩
  rcases hq with hq | hq
  · obtain ⟨its, rv, p, hz⟩ := I.list hq
    exact call_set_lstI ns (I.ok.hd hc) p.isList (by simpa using Vals.ints rv) hb fin
  · obtain ⟨its, rv, p, hz⟩ := I.tuple hq
    exact call_set_tupI ns (I.ok.hd hc) (show s.heap.IsTuple a its.toArray from p) (by simpa using Vals.ints rv) hb fin

/-! ### (i, ns) <= (j, ms), ns and ms tuples of ints -/
def lexLe : List Int → List Int → Bool
  | [], _ => true
  | _ :: _, [] => false
  | x :: xs, y :: ys => if x = y then lexLe xs ys else decide (x ≤ y)
theorem lexAt_is : ∀ (ns ms : List Int) (pre : Nat) (e r : Nat → Bool), (∀ j, e (pre + j) = decide (ns.getD j 0 = ms.getD j 0)) → (∀ j, r (pre + j) = decide (ns.getD j 0 ≤ ms.getD j 0)) →
    Ob.lexAt e r (decide (ns.length ≤ ms.length)) pre (min ns.length ms.length) = lexLe ns ms
  | [], ms, pre, e, r, _, _ => by
    rw [show min ([] : List Int).length ms.length = 0 by simp, Ob.lexAt_zero]
    simp [lexLe]
  | _ :: _, [], pre, e, r, _, _ => by
    rw [show ∀ (x : Int) l, min (x :: l).length ([] : List Int).length = 0 by simp, Ob.lexAt_zero]
    simp [lexLe]
  | x :: xs, y :: ys, pre, e, r, he, hr => by
    rw [show min (x :: xs).length (y :: ys).length = min xs.length ys.length + 1 by simp only [List.length_cons]; omega, Ob.lexAt_succ]
    have e0 := he 0
    have r0 := hr 0
    simp only [Nat.add_zero, List.getD_cons_zero] at e0 r0
    have ih := lexAt_is xs ys (pre + 1) e r (fun j => by rw [show pre + 1 + j = pre + (j + 1) by omega, he (j + 1)]; simp) (fun j => by rw [show pre + 1 + j = pre + (j + 1) by omega, hr (j + 1)]; simp)
    rw [show decide ((x :: xs).length ≤ (y :: ys).length) = decide (xs.length ≤ ys.length) by simp, ih, e0, r0]
    by_cases h : x = y
    · simp [lexLe, h]
    · simp [lexLe, h]
theorem rc_le_ints {X : Cx} {pins : List (Addr × Obj)} {σ : L2.St} {H : Hp} {s : Shared} {A : Around} (I : Inv X pins σ H s) {a b : Addr} {ns ms : List Int} (ha : SqT X.K H a (ns.map V.int)) (hb : SqT X.K H b (ms.map V.int)) (hu : A.units < cLine) :
    Ob.RcOp .LtE A s (.ref a) (.ref b) (lexLe ns ms) := by
  obtain ⟨its, r1, p1, _⟩ := I.tuple ha
  obtain ⟨its2, r2, p2, _⟩ := I.tuple hb
  have i1 : IntsAre its ns := Vals.ints r1
  have i2 : IntsAre its2 ms := Vals.ints r2
  have e1 : its.toArray.size = ns.length := by rw [List.size_toArray]; exact i1.length
  have e2 : its2.toArray.size = ms.length := by rw [List.size_toArray]; exact i2.length
  have at1 : ∀ j (h1 : j < its.toArray.size), ∃ t, its.toArray[j] = .int (ns.getD j 0) t := fun j h1 => PyProof.Rows.IntsAre.int_at i1 _ _ (by simp at h1; simp [h1])
  have at2 : ∀ j (h1 : j < its2.toArray.size), ∃ t, its2.toArray[j] = .int (ms.getD j 0) t := fun j h1 => PyProof.Rows.IntsAre.int_at i2 _ _ (by simp at h1; simp [h1])
  have R := Ob.RcOp.tuples_le (A := A) (s := s) (e := fun j => decide (ns.getD j 0 = ms.getD j 0)) (r := fun j => decide (ns.getD j 0 ≤ ms.getD j 0)) p1 p2 hu (fun j h1 h2 => by
    obtain ⟨t, et⟩ := at1 j h1
    obtain ⟨t', et'⟩ := at2 j h2
    rw [et, et']
    rw [show decide (ns.getD j 0 = ms.getD j 0) = (ns.getD j 0 == ms.getD j 0) by rfl]
    exact SeqAt.EqAt.int_int _ _ _ _) (fun j h1 h2 _ => by
    obtain ⟨t, et⟩ := at1 j h1
    obtain ⟨t', et'⟩ := at2 j h2
    rw [et, et']
    exact Ob.RcOp.le_int _ _ _ _)
  rw [e1, e2, lexAt_is ns ms 0 _ _ (fun j => by rw [Nat.zero_add]) (fun j => by rw [Nat.zero_add])] at R
  exact R
def rLeP (K : PySem.W.Frag) : R2 := fun x y H Q => ∃ (a b p q : Addr) (i j : Int) (ns ms : List Int), x = .ref a ∧ y = .ref b ∧ SqT K H a [.int i, .ref p] ∧ SqT K H b [.int j, .ref q] ∧ SqT K H p (ns.map V.int) ∧ SqT K H q (ms.map V.int) ∧
  SeqAt.shaped (.tuple (ns.map PyData.int)) = true ∧ SeqAt.shaped (.tuple (ms.map PyData.int)) = true ∧ Q (.bl (if i = j then lexLe ns ms else decide (i ≤ j))) H
theorem dp_ints {K : PySem.W.Frag} {H : Hp} : ∀ ns : List Int, DpAll K H (ns.map V.int) (ns.map PyData.int)
  | [] => .nil
  | n :: ns => .cons (.int n) (dp_ints ns)
theorem eqv_ints : ∀ ns ms : List Int, PyData.eqvAll (ns.map PyData.int) (ms.map PyData.int) = decide (ns = ms)
  | [], [] => by simp [PyData.eqvAll]
  | [], _ :: _ => by simp [PyData.eqvAll]
  | _ :: _, [] => by simp [PyData.eqvAll]
  | x :: xs, y :: ys => by
    rw [List.map_cons, List.map_cons]
    show (PyData.eqv (.int x) (.int y) && PyData.eqvAll (xs.map PyData.int) (ys.map PyData.int)) = _
    rw [eqv_ints xs ys]
    show ((x == y) && decide (xs = ys)) = _
    by_cases h : x = y <;> by_cases h2 : xs = ys <;> simp [h, h2]
theorem lexLe_refl : ∀ ns : List Int, lexLe ns ns = true
  | [] => rfl
  | x :: xs => by simp [lexLe, lexLe_refl xs]
theorem _root_.L2.Room.u100 {k : Nat} {A : Around} (r : Room k A) : A.units + 100 < cLine := by have := r.un; omega
theorem op_leP {X : Cx} (hu : X.A.units + 100 < cLine) : OpR X (compareOp .LtE) (rLeP X.K) := by
  intro pins s σ H x y v u Q I rx ry h
  obtain ⟨a, b, p, q, i, j, ns, ms, rfl, rfl, ha, hb, hp, hq, sn, sm, q0⟩ := h
  cases rx
  cases ry
  obtain ⟨its, r1, p1, _⟩ := I.tuple ha
  obtain ⟨its2, r2, p2, _⟩ := I.tuple hb
  obtain ⟨_, _, rfl, ⟨t1, rfl⟩, hv1⟩ := vals2 r1
  obtain ⟨_, _, rfl, ⟨t2, rfl⟩, hv2⟩ := vals2 r2
  cases hv1
  cases hv2
  obtain ⟨as, ra⟩ := Dp.reads I (.tuple (ns.map PyData.int)) (.ref p) (.ref p) (.tup hp (dp_ints ns)) rfl
  obtain ⟨bs, rb⟩ := Dp.reads I (.tuple (ms.map PyData.int)) (.ref q) (.ref q) (.tup hq (dp_ints ms)) rfl
  have un : X.A.in1.units = X.A.units + 1 ∨ X.A.in1.units = X.A.units := by
    first
      | exact .inl rfl
      | exact .inr rfl
  have lt1 : X.A.in1.units < cLine := by omega
  have eqn : SeqAt.EqAt X.A.in1 s (.ref p) (.ref q) (decide (ns = ms)) := by
    have e := SeqAt.eqAt_reads _ _ X.A.in1 s _ _ as bs ra rb (SeqAt.canLay_of_shaped sn) (SeqAt.canLay_of_shaped sm) (by
      have h1 := SeqAt.depth_of_shaped sn
      have h2 : min (PyData.tuple (ns.map PyData.int)).depth (PyData.tuple (ms.map PyData.int)).depth ≤ (PyData.tuple (ns.map PyData.int)).depth := Nat.min_le_left _ _
      omega)
    rw [show PyData.eqv (.tuple (ns.map PyData.int)) (.tuple (ms.map PyData.int)) = PyData.eqvAll (ns.map PyData.int) (ms.map PyData.int) by rw [PyData.eqv], eqv_ints] at e
    exact e
  have R := Ob.RcOp.tuples_le (A := X.A) (s := s) (e := fun k => if k = 0 then decide (i = j) else decide (ns = ms)) (r := fun k => if k = 0 then decide (i ≤ j) else lexLe ns ms) p1 p2 (by omega) (fun k h1 h2 => by
    match k, h1, h2 with
    | 0, _, _ =>
      show SeqAt.EqAt _ _ (.int i t1) (.int j t2) (decide (i = j))
      exact SeqAt.EqAt.int_int _ _ _ _
    | 1, _, _ => exact eqn) (fun k h1 h2 _ => by
    match k, h1, h2 with
    | 0, _, _ =>
      show Ob.RcOp _ _ _ (.int i t1) (.int j t2) (decide (i ≤ j))
      exact Ob.RcOp.le_int _ _ _ _
    | 1, _, _ => exact rc_le_ints I hp hq lt1)
  have ev : Ob.lexAt (fun k => if k = 0 then decide (i = j) else decide (ns = ms)) (fun k => if k = 0 then decide (i ≤ j) else lexLe ns ms) (decide (2 ≤ 2)) 0 2 = (if i = j then lexLe ns ms else decide (i ≤ j)) := by
    rw [Ob.lexAt_succ, Ob.lexAt_succ, Ob.lexAt_zero]
    by_cases h : i = j
    · by_cases h2 : ns = ms
      · simp [h, h2, lexLe_refl]
      · simp [h, h2]
    · simp [h]
  have z : wpAny (model X.prog X.w) X.A (compareOp .LtE (.ref a) (.ref b)) (EP X pins σ Q) X.xe s := R X.prog X.w X.xe (EP X pins σ Q) ⟨.bl _, H, I, by show Value.bool _ = Value.bool _; exact congrArg _ ev, q0⟩
  exact z
end Nd
namespace Nd
open PySem PySem.Spec PyProof.Rows L2 Evl

/-! ### words of promises -/
/-- an error of the class at C whose field f holds v, whatever was made beside -/
def Err (C : Addr) (f : Str) (v : V) (H : Hp) (E : XK) : Prop := ∀ d H', Ex H H' → H' d = some (.xd [(f, v)]) → E (.ref C) (some d) H'
theorem Err.mono {C : Addr} {f : Str} {v : V} {H H' : Hp} {E : XK} (h : Err C f v H E) (e : Ex H H') : Err C f v H' E := fun d H2 e2 hd => h d H2 (e.trans e2) hd
theorem RetV.mono {v : V} {H H' : Hp} {Q : VK} (h : RetV v H Q) (e : Ex H H') : RetV v H' Q := fun H2 e2 => h H2 (e.trans e2)
/-- a new tuple -/
def RetU (xs : List V) (H : Hp) (Q : VK) : Prop := ∀ p H2, H p = none → Ex H H2 → H2 p = some (.tup xs) → Q (.ref p) H2
theorem RetL.mono {xs : List V} {H H' : Hp} {Q : VK} (h : RetL xs H Q) (e : Ex H H') : RetL xs H' Q := fun p H2 hp e2 h2 => h p H2 (fresh_back e hp) (e.trans e2) h2
theorem RetU.mono {xs : List V} {H H' : Hp} {Q : VK} (h : RetU xs H Q) (e : Ex H H') : RetU xs H' Q := fun p H2 hp e2 h2 => h p H2 (fresh_back e hp) (e.trans e2) h2
def fs1 (f : Str) : List V → Option (List (Str × V)) := fun ws => match ws with
  | [v] => some [(f, v)]
  | _ => none

/-- a module's constant -/
theorem pe_cst {X : Cx} {x : Str} {v : V} {pos : Pos} (h : ∃ u, X.mg x = some u ∧ RelV v u) (hg : Gl X x := by rfl) (hd : (x == ("__debug__" : Str)) = false := by decide) : PE X (.Name x pos) (tC v) := by
  obtain ⟨u, hm, r⟩ := h
  exact pe_glob hg hm r hd

/-- what the text says of an error class of one field -/
structure ErrT (P : Program) (w : World) (K : PySem.W.Frag) (mg : Str → Option Value) (base : Heap) (x f : Str) (C : Addr) : Prop where
  made : ∃ fI fdI, ErrC P w K mg base 1 C fI fdI ["self", f] (fs1 f) x
  is : IsC K C
  xf : XfC K C
  no : PySem.W.findIn K (.ref C) f = some none
  g : mg x = some (.ref C)
/-- raise C(e) -/
def tRais1 (C : Addr) (f : Str) (W : WX) (ta : TA) : TS := fun _ σ H => ta σ H fun vs H1 => ∃ v, vs = [v] ∧ Err C f v H1 (WE W σ)
theorem ps_err1 {X : Cx} {C : Addr} {f x : Str} {p pos pos2 : Pos} {e : Expr} {es : List Expr} {ta : TA} {W : WX} (hc : X.calm = true) (T : ErrT X.prog X.w X.K X.mg X.base x f C) (hr : Room 2 X.A) (tk : Takes X W) (ha : PA X (e :: es) ta) (hg : Gl X x := by rfl)
    (hdb : (x == ("__debug__" : Str)) = false := by decide) (he : starEach (e :: es) X.env = (false, eval e X.env) :: starEach es X.env := by rfl) (hpl : (backTo pos (starEach es X.env)).any (·.1) = false := by rfl) :
    PS X (.Raise (some (.Call (.Name x p) (e :: es) [] pos)) none pos2) (tRais1 C f W ta) := by
  obtain ⟨fI, fdI, M⟩ := T.made
  refine ⟨fun pins s σ H D I h => (ps_err hc M hr tk (pa_clo ha) hg hdb he hpl).run pins s σ H D I ?_⟩
  refine ⟨_, h, fun vs H1 q => ?_⟩
  obtain ⟨v, rfl, q⟩ := q
  exact ⟨(by decide : 1 ≤ 1000), _, rfl, fun d hd => q d _ (Ex.new hd) upd_same⟩

section
variable {K : PySem.W.Frag} {a : Addr} {xs : List V} {H H' : Hp}
theorem SqS.mono (e : Ex H H') (h : SqS K H a xs) : SqS K H' a xs := h.elim (fun h => .inl (ex_l e h)) (fun h => .inr (ex_t e h))
theorem SqS.lst (h : H a = some (.lst xs)) : SqS K H a xs := .inl (sq_of h)
theorem SqS.tup (h : H a = some (.tup xs)) : SqS K H a xs := .inr (st_of h)
end

/-! ### what is evaluated: lists or tuples -/
section
variable {K : PySem.W.Frag} {σ : L2.St} {H H' : Hp} {ta tb te tx : TE} {t u : TT} {x y z v : V} {D : Ends} {tu tw tz : TS} {g : TG} {r : R2}
theorem ev_lenS {a : Addr} {xs : List V} (ha : Ev ta σ H (.ref a)) (h : SqS K H a xs) : Ev (tCB (fun vs H Q => ∃ p ys, vs = [.ref p] ∧ (SqL K H p ys ∨ SqT K H p ys) ∧ Q (.int ys.length) H) (tCons ta tNil)) σ H (.int (xs.length : Int)) := fun H1 e Q q =>
  ha H1 e _ fun H2 e2 => ⟨a, xs, rfl, h.mono (e.trans e2), q H2 e2⟩
theorem rv_ixS' {p : Addr} {xs : List V} {i : Int} (h : SqS K H p xs) (ha : atI xs i = some v) : RV (rIx K) (.ref p) (.int i) H v := fun H1 e _ q =>
  h.elim (fun h => .inl ⟨p, xs, i, v, rfl, rfl, ex_l e h, ha, q H1 (Ex.refl H1)⟩) (fun h => .inr (.inl ⟨p, xs, i, v, rfl, rfl, ex_t e h, ha, q H1 (Ex.refl H1)⟩))
theorem rv_in {neg : Bool} {p : Addr} {xs : List V} (h : SqS K H p xs) (hx : flatV x = true) (ha : xs.all flatV = true) : RV (rIn K neg) x (.ref p) H (.bl (if neg then !inV x xs else inV x xs)) := h.elim (fun h => rv_inL h hx ha) (fun h => rv_inT h hx ha)
/-- tuple(xs) -/
theorem eu_tuple {a : Addr} {xs : List V} (ha : Ev ta σ H (.ref a)) (h : SqL K H a xs) : EvU (tCB (fun vs H Q => ∃ p ys, vs = [.ref p] ∧ ((SqL K H p ys ∧ ∀ l, H l = none → Q (.ref l) (upd H l (.tup ys))) ∨ (SqT K H p ys ∧ Q (.ref p) H))) (tCons ta tNil)) σ H xs := fun H1 e Q q =>
  ha H1 e _ fun H2 e2 => ⟨a, xs, rfl, .inl ⟨ex_l (e.trans e2) h, fun l hl => q l _ (fresh_back e2 hl) (e2.trans (Ex.new hl)) upd_same⟩⟩
/-- tuple of a new list -/
theorem eu_tupleL {xs : List V} (ha : EvL ta σ H xs) : EvU (tCB (fun vs H Q => ∃ p ys, vs = [.ref p] ∧ ((SqL K H p ys ∧ ∀ l, H l = none → Q (.ref l) (upd H l (.tup ys))) ∨ (SqT K H p ys ∧ Q (.ref p) H))) (tCons ta tNil)) σ H xs := fun H1 e Q q =>
  ha H1 e _ fun p H2 hp e2 h2 => ⟨p, xs, rfl, .inl ⟨sq_of h2, fun l hl => q l _ (fresh_back e2 hl) (e2.trans (Ex.new hl)) upd_same⟩⟩
/-- a loop over a list or a tuple -/
theorem s_forS {a : Addr} {xs : List V} {tl : TE} (h : Ev tl σ H (.ref a)) (hx : SqS K H a xs) (Pv : Nat → L2.St → Hp → Prop) (h0 : ∀ H1, Ex H H1 → Pv 0 σ H1) (hl : ∀ i σ' H', i ≤ xs.length → Pv i σ' H' → Ex H H')
    (hs : ∀ i x σ' H', xs[i]? = some x → Pv i σ' H' → g x σ' H' fun σ2 H2 => tu { D with nx := Pv (i + 1), ct := Pv (i + 1), bk := D.nx } σ2 H2) (hd : ∀ σ' H', Pv xs.length σ' H' → D.nx σ' H') : tFor (iSeq K tl) g tu D σ H :=
  h H (Ex.refl H) _ fun H1 e => ⟨a, xs, rfl, hx.elim (fun q => .inl ⟨ex_l e q, for_list Pv (h0 H1 e) (fun i σ' H' hi p => ex_l (hl i σ' H' hi p) q) hs hd⟩) (fun q => .inr ⟨ex_t e q, for_tup Pv (h0 H1 e) (fun i σ' H' hi p => ex_t (hl i σ' H' hi p) q) hs hd⟩)⟩
theorem q_forS {a : Addr} {xs : List V} {tl : TE} (h : Ev tl σ H (.ref a)) (hx : SqS K H a xs) (Pv : Nat → L2.St → Hp → Prop) (h0 : ∀ H1, Ex H H1 → Pv 0 σ H1) (hl : ∀ i σ' H', i ≤ xs.length → Pv i σ' H' → Ex H H')
    (hs : ∀ i x σ' H', xs[i]? = some x → Pv i σ' H' → g x σ' H' fun σ2 H2 => tu { D with nx := Pv (i + 1), ct := Pv (i + 1), bk := tz D } σ2 H2) (hd : ∀ σ' H', Pv xs.length σ' H' → tz D σ' H') : tSeq (tFor (iSeq K tl) g tu) tz D σ H :=
  s_forS (D := { D with nx := tz D }) h hx Pv h0 hl hs hd
/-- a comprehension over a list or a tuple -/
theorem el_lcS {a : Addr} {xs : List V} {tl : TE} {j : Nat} {vs : List Nat} (f : Nat → Bool) (v : Nat → V) (h : Ev tl σ H (.ref a)) (hx : SqS K H a xs) (hz : xs.length ≤ 40000) (hw : ∀ x, wipe ((wipe σ vs).set j (some x)) vs = wipe σ vs)
    (ht : ∀ (i : Nat) (x : V) H1, Ex H H1 → xs[i]? = some x → EvT t ((wipe σ vs).set j (some x)) H1 (f i)) (he : ∀ (i : Nat) (x : V) H1, Ex H H1 → xs[i]? = some x → f i = true → Ev te ((wipe σ vs).set j (some x)) H1 (v i)) :
    EvL (tLc (iSeq K tl) (gName j) t te vs) σ H (given xs.length f v) := fun H0 e Q q => h H0 e _ fun H1 e1 => ⟨a, xs, rfl, hx.elim
  (fun hq => .inl ⟨ex_l (e.trans e1) hq, fun Dl hD => lc_list (xs := xs) (Cw H1 f v Dl) ⟨hD, Ex.new hD, upd_same⟩ (fun i H' _ p => ex_l ((e.trans e1).trans p.2.1) hq)
      (fun i x H' hi p => ⟨hw x, cw_turn p (by have := (List.getElem?_eq_some_iff.mp hi).1; omega) (ht i x H1 (e.trans e1) hi) (fun hf => he i x H1 (e.trans e1) hi hf)⟩) (fun H' p => q Dl H' (fresh_back e1 p.1) (e1.trans p.2.1) p.2.2)⟩)
  (fun hq => .inr ⟨ex_t (e.trans e1) hq, fun Dl hD => lc_tup (xs := xs) (Cw H1 f v Dl) ⟨hD, Ex.new hD, upd_same⟩ (fun i H' _ p => ex_t ((e.trans e1).trans p.2.1) hq)
      (fun i x H' hi p => ⟨hw x, cw_turn p (by have := (List.getElem?_eq_some_iff.mp hi).1; omega) (ht i x H1 (e.trans e1) hi) (fun hf => he i x H1 (e.trans e1) hi hf)⟩) (fun H' p => q Dl H' (fresh_back e1 p.1) (e1.trans p.2.1) p.2.2)⟩)⟩
end
end Nd
namespace Nd
open PySem PySem.Spec PyProof.Rows L2 Evl
section
variable {K : PySem.W.Frag} {σ : L2.St} {H H' : Hp} {ta tb tc te tx : TE} {t u : TT} {x y z v : V} {D : Ends} {tu tw tz : TS} {g : TG} {r r' : R2}
/-- a comparison of three -/
theorem ev_chain {a b : Bool} {zr : V} (ha : Ev ta σ H x) (hb : Ev tb σ H y) (hr : RV r x y H (.bl a)) (hc : a = true → Ev tc σ H z) (hr' : a = true → RV r' y z H (.bl b)) : Ev (tChain r r' ta tb tc) σ H (.bl (a && b)) := by
  intro H1 e Q q
  refine ha H1 e _ fun H2 e2 => hb H2 (e.trans e2) _ fun H3 e3 => hr H3 ((e.trans e2).trans e3) _ fun H4 e4 => ⟨a, rfl, ?_⟩
  cases a with
  | false => exact q H4 ((e2.trans e3).trans e4)
  | true => exact hc rfl H4 (((e.trans e2).trans e3).trans e4) _ fun H5 e5 => hr' rfl H5 ((((e.trans e2).trans e3).trans e4).trans e5) _ fun H6 e6 => q H6 ((((e2.trans e3).trans e4).trans e5).trans e6)
theorem et_chain {a : Bool} (h : Ev (tChain r r' ta tb tc) σ H (.bl a)) : EvT (fun σ H Q => tChain r r' ta tb tc σ H fun x H1 => ∃ c, x = .bl c ∧ Q c H1) σ H a := fun H1 e _ q => h H1 e _ fun H2 e2 => ⟨a, rfl, q H2 e2⟩
theorem rv_mod {i j : Int} (h : 0 < j) : RV (rI (fun _ b => 0 < b) fun i j => .int (i % j)) (.int i) (.int j) H (.int (i % j)) := rv_I (C := fun _ b => 0 < b) (g := fun i j => .int (i % j)) h
/-- evaluates to some list or tuple of xs -/
def EvSq (K : PySem.W.Frag) (te : TE) (σ : L2.St) (H : Hp) (xs : List V) : Prop := ∀ H1, Ex H H1 → ∀ Q : VK, (∀ p H2, Ex H1 H2 → SqS K H2 p xs → Q (.ref p) H2) → te σ H1 Q
theorem es_ev {a : Addr} {xs : List V} (h : Ev te σ H (.ref a)) (hs : SqS K H a xs) : EvSq K te σ H xs := fun H1 e Q q => h H1 e _ fun H2 e2 => q a H2 e2 (hs.mono (e.trans e2))
theorem es_el {xs : List V} (h : EvL te σ H xs) : EvSq K te σ H xs := fun H1 e Q q => h H1 e _ fun p H2 _ e2 h2 => q p H2 e2 (.lst h2)
theorem es_eu {xs : List V} (h : EvU te σ H xs) : EvSq K te σ H xs := fun H1 e Q q => h H1 e _ fun p H2 _ e2 h2 => q p H2 e2 (.tup h2)
/-- sorted(set(xs)), fewer than 64 members -/
theorem el_sortedSet {w : World} {ns ms : List Int} (h : EvSq K te σ H (ns.map V.int)) (h64 : ns.length < 64) (hs : ms.Pairwise (· < ·)) (hm : ∀ k, k ∈ ms ↔ k ∈ ns) (uniq : ∀ xs : List Int, xs.Pairwise (· < ·) → (∀ k, k ∈ xs ↔ k ∈ ns) → xs = ms) :
    EvL (tCB (rSortedSet w) (tCons (tCB (rSetI K w) (tCons te tNil)) tNil)) σ H (ms.map V.int) := fun H1 e Q q =>
  h H1 e _ fun a H2 e2 h2 => ⟨a, ns, rfl, h2, by unfold scanBound; omega, fun p c hp hc => ⟨p, _, c, rfl, upd_same, by omega, fun xs l hx hmem _ hl => by
    have ex : xs = ms := uniq xs hx fun k => by rw [hmem]; simp
    subst ex
    have e3 : Ex H2 (upd H2 p (SetO w p (fun j => decide (j ∈ ns)) c)) := Ex.new hp
    exact q l _ (fresh_back (e2.trans e3) hl) ((e2.trans e3).trans (Ex.new hl)) upd_same⟩⟩
/-- t + u of tuples -/
def EvT2 (K : PySem.W.Frag) (te : TE) (σ : L2.St) (H : Hp) (xs : List V) : Prop := ∀ H1, Ex H H1 → ∀ Q : VK, (∀ p H2, Ex H1 H2 → SqT K H2 p xs → Q (.ref p) H2) → te σ H1 Q
theorem e2_ev {a : Addr} {xs : List V} (h : Ev te σ H (.ref a)) (hs : SqT K H a xs) : EvT2 K te σ H xs := fun H1 e Q q => h H1 e _ fun H2 e2 => q a H2 e2 (ex_t (e.trans e2) hs)
theorem e2_eu {xs : List V} (h : EvU te σ H xs) : EvT2 K te σ H xs := fun H1 e Q q => h H1 e _ fun p H2 _ e2 h2 => q p H2 e2 (st_of h2)
theorem e2_cat {xs ys : List V} (h1 : EvT2 K ta σ H xs) (h2 : EvT2 K tb σ H ys) (hz : xs.length + ys.length ≤ 100000) : EvT2 K (tOp (rCatA K) ta tb) σ H (xs ++ ys) := fun H1 e Q q =>
  h1 H1 e _ fun a H2 e2 t2 => h2 H2 (e.trans e2) _ fun b H3 e3 t3 => by
    have t2' := ex_t e3 t2
    have e13 := e2.trans e3
    refine ⟨a, b, xs, ys, rfl, rfl, t2', t3, sz_of hz, fun h0 => ?_, fun _ h0 => ?_, fun _ _ p hp => q p _ (e13.trans (Ex.new hp)) (st_of upd_same)⟩
    · subst h0
      exact q b H3 e13 t3
    · subst h0
      rw [List.append_nil] at q
      exact q a H3 e13 t2'
theorem es_e2 {xs : List V} (h : EvT2 K te σ H xs) : EvSq K te σ H xs := fun H1 e Q q => h H1 e _ fun p H2 e2 h2 => q p H2 e2 (.inr h2)
end
end Nd
namespace Nd
open PySem PySem.Spec PyProof.Rows L2 Evl
section
variable {K : PySem.W.Frag} {σ : L2.St} {H : Hp} {ta : TA} {tl te tx : TE} {Q : VK}
theorem yes_go {G : Bool → Hp → Prop} (h : G true H) : tYes σ H G := h
/-- [e for x in xs for y in range(lo, hi)] -/
theorem lc2_lr {a : Addr} {xs : List V} {j k : Nat} {vs vs1 : List Nat} (Out : Addr → Nat → Hp → Prop) (In : Addr → Nat → Nat → Hp → Prop) (h : Ev tl σ H (.ref a)) (hx : SqL K H a xs)
    (h0 : ∀ D H1, Ex H H1 → H1 D = none → Out D 0 (upd H1 D (.lst []))) (hO : ∀ D i H', Out D i H' → Ex H H')
    (hw : ∀ x, wipe ((wipe σ vs).set j (some x)) vs = wipe σ vs) (hw1 : ∀ x y, wipe ((wipe ((wipe σ vs).set j (some x)) vs1).set k (some y)) vs1 = wipe ((wipe σ vs).set j (some x)) vs1)
    (hin : ∀ D i x H', xs[i]? = some x → Out D i H' → ∃ lo hi : Int, (-100000 ≤ lo ∧ lo ≤ 100000 ∧ -100000 ≤ hi ∧ hi ≤ 100000) ∧ EvA ta ((wipe σ vs).set j (some x)) H' [.int lo, .int hi] ∧ (∀ H'', Ex H' H'' → In D i 0 H'') ∧
      (∀ m H'', In D i m H'' → lo + (m : Int) < hi → te ((wipe ((wipe σ vs).set j (some x)) vs1).set k (some (.int (lo + (m : Int))))) H'' fun y H4 => ∃ acc, H4 D = some (.lst acc) ∧ acc.length < sizeLine ∧ In D i (m + 1) (upd H4 D (.lst (acc ++ [y])))) ∧
      (∀ H'', In D i (hi - lo).toNat H'' → Out D (i + 1) H''))
    (hend : ∀ D H', Out D xs.length H' → Q (.ref D) H') : tLc2 (iList K tl) (gName j) tYes (iRng2 ta) (gName k) tYes te vs vs1 σ H Q := by
  refine h H (Ex.refl H) _ fun H1 e1 => ⟨a, rfl, ⟨xs, ex_l e1 hx⟩, fun D hD => ⟨fun i m H' => m = xs.length - i ∧ i ≤ xs.length ∧ Out D i H', ⟨_, rfl, Nat.zero_le _, h0 D H1 e1 hD⟩, ?_⟩⟩
  rintro i m H' ⟨rfl, hi, p⟩
  have q := ex_l (hO D i H' p) hx
  by_cases hlt : i < xs.length
  · refine .inr ⟨⟨xs, xs[i], q, by simp [hlt]⟩, Out D (i + 1), fun H2 p2 => ⟨xs.length - (i + 1), by omega, rfl, hlt, p2⟩, fun x H2 y => ?_⟩
    obtain ⟨rfl, y⟩ := y
    have hxi := y xs q
    obtain ⟨lo, hi', hb, hev, c0, c1, c2⟩ := hin D i x H2 hxi p
    refine ⟨hw x, ?_⟩
    refine yes_go ?_
    rw [if_pos rfl]
    refine hev H2 (Ex.refl H2) _ fun H3 e3 => ⟨lo, hi', rfl, ⟨by omega, by omega, by omega, by omega⟩, fun m n H' => n = (hi' - lo).toNat - m ∧ m ≤ (hi' - lo).toNat ∧ In D i m H', ⟨_, rfl, Nat.zero_le _, c0 H3 e3⟩, ?_⟩
    rintro m' n' H4 ⟨rfl, hm, p4⟩
    by_cases hl2 : m' < (hi' - lo).toNat
    · refine .inr ⟨hl2, fun H' => In D i (m' + 1) H', fun H5 p5 => ⟨(hi' - lo).toNat - (m' + 1), by omega, rfl, hl2, p5⟩, fun z H5 y5 => ?_⟩
      obtain ⟨rfl, rfl⟩ := y5
      refine ⟨hw1 x _, ?_⟩
      refine yes_go ?_
      rw [if_pos rfl]
      exact c1 m' _ p4 (by omega)
    · have em : m' = (hi' - lo).toNat := by omega
      subst em
      exact .inl ⟨Nat.le_refl _, c2 H4 p4⟩
  · have e : i = xs.length := by omega
    subst e
    exact .inl ⟨⟨xs, q, Nat.le_refl _⟩, hend D H' p⟩
/-- [e for x in range(n) for y in ys(x)] -/
theorem lc2_rl {n : Int} {j k : Nat} {vs vs1 : List Nat} (Out : Addr → Nat → Hp → Prop) (In : Addr → Nat → Addr → List V → Nat → Hp → Prop) (h : EvA ta σ H [.int n]) (hn : 0 ≤ n ∧ n ≤ 100000)
    (h0 : ∀ D H1, Ex H H1 → H1 D = none → Out D 0 (upd H1 D (.lst [])))
    (hw : ∀ x, wipe ((wipe σ vs).set j (some x)) vs = wipe σ vs) (hw1 : ∀ x y, wipe ((wipe ((wipe σ vs).set j (some x)) vs1).set k (some y)) vs1 = wipe ((wipe σ vs).set j (some x)) vs1)
    (hin : ∀ D (i : Nat) H', (i : Int) < n → Out D i H' → ∀ Q' : VK, (∀ a ys H'', SqL K H'' a ys → In D i a ys 0 H'' → Q' (.ref a) H'') → tl ((wipe σ vs).set j (some (.int (i : Int)))) H' Q')
    (hstep : ∀ D (i : Nat) a ys m y H', In D i a ys m H' → ys[m]? = some y → te ((wipe ((wipe σ vs).set j (some (.int (i : Int)))) vs1).set k (some y)) H' fun z H4 => ∃ acc, H4 D = some (.lst acc) ∧ acc.length < sizeLine ∧ In D i a ys (m + 1) (upd H4 D (.lst (acc ++ [z]))))
    (hseq : ∀ D i a ys m H', In D i a ys m H' → SqL K H' a ys) (hout : ∀ D i a ys H', In D i a ys ys.length H' → Out D (i + 1) H')
    (hend : ∀ D H', Out D n.toNat H' → Q (.ref D) H') : tLc2 (iRng1 ta) (gName j) tYes (iList K tl) (gName k) tYes te vs vs1 σ H Q := by
  refine h H (Ex.refl H) _ fun H1 e1 => ⟨n, rfl, by omega, by omega, fun D hD => ⟨fun i m H' => m = n.toNat - i ∧ i ≤ n.toNat ∧ Out D i H', ⟨_, rfl, Nat.zero_le _, h0 D H1 e1 hD⟩, ?_⟩⟩
  rintro i m H' ⟨rfl, hi, p⟩
  by_cases hlt : i < n.toNat
  · refine .inr ⟨hlt, Out D (i + 1), fun H2 p2 => ⟨n.toNat - (i + 1), by omega, rfl, hlt, p2⟩, fun x H2 y => ?_⟩
    obtain ⟨rfl, rfl⟩ := y
    have e0 : (0 : Int) + (i : Int) = (i : Int) := Int.zero_add _
    rw [e0]
    refine ⟨hw _, ?_⟩
    refine yes_go ?_
    rw [if_pos rfl]
    refine hin D i _ (by omega) p _ fun a ys H3 hs p3 => ⟨a, rfl, ⟨ys, hs⟩, fun m n H' => n = ys.length - m ∧ m ≤ ys.length ∧ In D i a ys m H', ⟨_, rfl, Nat.zero_le _, p3⟩, ?_⟩
    rintro m' n' H4 ⟨rfl, hm, p4⟩
    have q := hseq D i a ys m' H4 p4
    by_cases hl2 : m' < ys.length
    · refine .inr ⟨⟨ys, ys[m'], q, by simp [hl2]⟩, fun H' => In D i a ys (m' + 1) H', fun H5 p5 => ⟨ys.length - (m' + 1), by omega, rfl, hl2, p5⟩, fun z H5 y5 => ?_⟩
      obtain ⟨rfl, y5⟩ := y5
      refine ⟨hw1 _ _, ?_⟩
      refine yes_go ?_
      rw [if_pos rfl]
      exact hstep D i a ys m' z _ p4 (y5 ys q)
    · have em : m' = ys.length := by omega
      subst em
      exact .inl ⟨⟨ys, q, Nat.le_refl _⟩, hout D i a ys H4 p4⟩
  · have e : i = n.toNat := by omega
    subst e
    exact .inl ⟨Nat.le_refl _, hend D H' p⟩
/-! ### lists of ints, filtered and mapped -/
theorem ints_range (ns : List Int) : (List.range ns.length).map (fun i => ns.getD i 0) = ns := by
  apply List.ext_getElem
  · simp
  · intro i h1 h2
    have h3 : i < ns.length := by simpa using h1
    simp [h3]
theorem given_filter (ns : List Int) (p : Int → Bool) : given ns.length (fun i => p (ns.getD i 0)) (fun i => V.int (ns.getD i 0)) = (ns.filter p).map V.int := by
  have h : ns.filter p = ((List.range ns.length).filter (fun i => p (ns.getD i 0))).map (fun i => ns.getD i 0) := by
    have e := congrArg (List.filter p) (ints_range ns)
    rw [List.filter_map] at e
    exact e.symm
  rw [h, List.map_map]
  rfl
theorem given_map (ns : List Int) (g : Int → Int) : given ns.length (fun _ => true) (fun i => V.int (g (ns.getD i 0))) = (ns.map g).map V.int := by
  have h : ns.map g = (List.range ns.length).map (fun i => g (ns.getD i 0)) := by
    have e := congrArg (List.map g) (ints_range ns)
    rw [List.map_map] at e
    exact e.symm
  rw [h, List.map_map]
  unfold given
  rw [List.filter_eq_self.mpr (fun _ _ => rfl)]
  rfl
theorem inV_ints (z : Int) (ns : List Int) : inV (.int z) (ns.map V.int) = decide (z ∈ ns) := by
  unfold inV
  rw [List.any_map]
  induction ns with
  | nil => simp
  | cons n r ih =>
    rw [List.any_cons, ih]
    by_cases h : n = z
    · subst h
      simp [eqV]
    · have h2 : ¬ z = n := fun e => h e.symm
      simp [eqV, h, h2]
theorem all_flat (ns : List Int) : (ns.map V.int).all flatV = true := by
  rw [List.all_eq_true]
  intro x hx
  obtain ⟨n, _, rfl⟩ := List.mem_map.mp hx
  rfl
theorem at_ints {ns : List Int} {i : Nat} {x : V} (h : (ns.map V.int)[i]? = some x) : x = .int (ns.getD i 0) ∧ i < ns.length := by
  rw [List.getElem?_map] at h
  cases e : ns[i]? with
  | none => rw [e] at h; cases h
  | some z =>
    rw [e] at h
    obtain ⟨hi, ez⟩ := List.getElem?_eq_some_iff.mp e
    refine ⟨?_, hi⟩
    have h2 := Option.some.inj h
    rw [← h2, List.getD_eq_getElem?_getD, e]
    rfl
theorem ev_sumL {ns : List Int} (h : EvL te σ H (ns.map V.int)) : Ev (tCB (rSum K) (tCons te tNil)) σ H (.int ns.sum) := fun H1 e Q q =>
  h H1 e _ fun p H2 _ e2 h2 => ⟨p, ns, rfl, sq_of h2, q H2 e2⟩
theorem et_in {a : Addr} {z : Int} {ns : List Int} {neg : Bool} (hx : Ev tx σ H (.int z)) (ha : Ev tl σ H (.ref a)) (h : SqS K H a (ns.map V.int)) : EvT (tTest (tOp (rIn K neg) tx tl)) σ H (if neg then !decide (z ∈ ns) else decide (z ∈ ns)) := by
  refine et_test (ev_op hx ha ?_)
  have := rv_in (K := K) (neg := neg) (x := .int z) h rfl (all_flat ns)
  rw [inV_ints] at this
  exact this
end
/-! ### the rules that name the written part, it given (for a comprehension's block) -/
section
variable {X : Cx} (K : PySem.W.Frag)
theorem op_catAK (h : X.K = K := by rfl) : OpR X (binaryOp .Add) (rCatA K) := by subst h; exact op_catA
theorem op_in_seqK (h : X.K = K := by rfl) : OpR X (compareOp .In) (rIn K false) := by subst h; exact op_in_seq
theorem op_notIn_seqK (h : X.K = K := by rfl) : OpR X (compareOp .NotIn) (rIn K true) := by subst h; exact op_notIn_seq
theorem ix_listK (h : X.K = K := by rfl) : IxR X (rIxL K) := by subst h; exact ix_list
theorem ix_tupK (h : X.K = K := by rfl) : IxR X (rIxT K) := by subst h; exact ix_tup
theorem ix_seqK (h : X.K = K := by rfl) : IxR X (rIx K) := by subst h; exact ix_seq
theorem pi_listK {tg l : Expr} {tl : TE} (hl : PE X l tl) (h : X.K = K := by rfl) : PI X tg l (iList K tl) := by subst h; exact pi_list hl
theorem pi_tupK {tg l : Expr} {tl : TE} (hl : PE X l tl) (h : X.K = K := by rfl) : PI X tg l (iTup K tl) := by subst h; exact pi_tup hl
theorem pi_seqK {tg l : Expr} {tl : TE} (hl : PE X l tl) (h : X.K = K := by rfl) : PI X tg l (iSeq K tl) := by subst h; exact pi_seq hl
end
end Nd
/-! One list changes (a drawn tape), all else stays. Slices of lists of ints. isinstance. -/
namespace Nd
open PySem PySem.Spec PyProof.Rows L2 Evl
/-- all but what stands at p stays -/
def But (p : Addr) (H H' : Hp) : Prop := ∀ a o, a ≠ p → H a = some o → H' a = some o
section
variable {p q a : Addr} {H H' H2 : Hp} {o : HO} {xs : List V} {K : PySem.W.Frag}
theorem But.refl (p : Addr) (H : Hp) : But p H H := fun _ _ _ h => h
theorem But.trans (b : But p H H') (c : But p H' H2) : But p H H2 := fun a o n h => c a o n (b a o n h)
theorem But.of (e : Ex H H') : But p H H' := fun a o _ h => e a o h
theorem But.upd (b : But p H H') : But p H (upd H' p o) := fun a u n h => by rw [upd_ne n]; exact b a u n h
theorem But.new (b : But p H H') (hq : H q = none) : But p H (L2.upd H' q o) := fun a u n h => by
  rw [upd_ne (fun e => by rw [e, hq] at h; cases h)]
  exact b a u n h
theorem But.ex (b : But p H H') (e : Ex H2 H) (hp : H2 p = none) : Ex H2 H' := fun a u h => b a u (fun n => by rw [n, hp] at h; cases h) (e a u h)
theorem But.l (b : But p H H') (n : a ≠ p) (h : SqL K H a xs) : SqL K H' a xs := by
  rcases h with (h | ⟨u, h⟩) | h
  · exact .inl (.inl (b a _ n h))
  · exact .inl (.inr ⟨u, b a _ n h⟩)
  · exact .inr h
theorem But.t (b : But p H H') (n : a ≠ p) (h : SqT K H a xs) : SqT K H' a xs := by
  rcases h with (h | ⟨u, h⟩) | h
  · exact .inl (.inl (b a _ n h))
  · exact .inl (.inr ⟨u, b a _ n h⟩)
  · exact .inr h
/-- a list of ints stands at p -/
def Tape (H : Hp) (p : Addr) : Prop := ∃ ds : List Int, H p = some (.lst (ds.map V.int))
theorem Tape.mono (t : Tape H p) (e : Ex H H') : Tape H' p := let ⟨ds, h⟩ := t; ⟨ds, e p _ h⟩
theorem But.fresh (b : But p H H') (t : Tape H' p) (h : H' q = none) : H q = none ∧ q ≠ p := by
  obtain ⟨ds, hp⟩ := t
  have n : q ≠ p := fun e => by rw [e, hp] at h; cases h
  refine ⟨?_, n⟩
  cases e : H q with
  | none => rfl
  | some u => rw [b q u n e] at h; cases h
end
/-! ### slices -/
theorem cut_to {α : Type} (xs : List V) (k : Nat) : cutV xs none (some (k : Int)) = xs.take k := by
  unfold cutV
  rw [HT.sIx_none, HT.sIx_nat, List.drop_zero, Nat.sub_zero]
  rcases Nat.le_total k xs.length with h | h
  · rw [Nat.min_eq_left h]
  · rw [Nat.min_eq_right h, List.take_of_length_le (Nat.le_refl _), List.take_of_length_le h]
theorem cut_from (xs : List V) (k : Nat) : cutV xs (some (k : Int)) none = xs.drop k := by
  unfold cutV
  rw [HT.sIx_none, HT.sIx_nat]
  rcases Nat.le_total k xs.length with h | h
  · rw [Nat.min_eq_left h, List.take_of_length_le (by rw [List.length_drop]; omega)]
  · rw [Nat.min_eq_right h, Nat.sub_self, List.take_zero, List.drop_of_length_le h]
section
variable {K : PySem.W.Frag} {σ : L2.St} {H : Hp} {te ta tb : TE} {ts : TA}
/-- xs[:k] of a list of ints -/
theorem el_to {a : Addr} {ns : List Int} {th : TE} (k : Nat) (h : Ev te σ H (.ref a)) (hk : Ev th σ H (.int (k : Int))) (hs : SqL K H a (ns.map V.int)) : EvL (tSl (rSlL K) te tNoPart (tPart th)) σ H ((ns.take k).map V.int) := by
  have := el_sl (K := K) h eo_none (eo_some hk) hs
  rw [cut_to (α := Int), ← List.map_take] at this
  exact this
theorem el_from {a : Addr} {ns : List Int} {th : TE} (k : Nat) (h : Ev te σ H (.ref a)) (hk : Ev th σ H (.int (k : Int))) (hs : SqL K H a (ns.map V.int)) : EvL (tSl (rSlL K) te (tPart th) tNoPart) σ H ((ns.drop k).map V.int) := by
  have := el_sl (K := K) h (eo_some hk) eo_none hs
  rw [cut_from, ← List.map_drop] at this
  exact this
/-- .. of a new list -/
theorem el_slN {tl th : TO} {xs : List V} {lo hi : Option Int} (h : EvL te σ H xs) (h1 : EvO tl σ H lo) (h2 : EvO th σ H hi) : EvL (tSl (rSlL K) te tl th) σ H (cutV xs lo hi) := fun H1 e Q q =>
  h H1 e _ fun p H2 hp e2 hl => h1 H2 (e.trans e2) _ fun H3 e3 => h2 H3 ((e.trans e2).trans e3) _ fun H4 e4 => ⟨p, xs, rfl, sq_of (e4 p _ (e3 p _ hl)), fun r hr => q r _ (fresh_back ((e2.trans e3).trans e4) hr) (((e2.trans e3).trans e4).trans (Ex.new hr)) upd_same⟩
theorem el_toN {ns : List Int} {th : TE} (k : Nat) (h : EvL te σ H (ns.map V.int)) (hk : Ev th σ H (.int (k : Int))) : EvL (tSl (rSlL K) te tNoPart (tPart th)) σ H ((ns.take k).map V.int) := by
  have := el_slN (K := K) h eo_none (eo_some hk)
  rw [cut_to (α := Int), ← List.map_take] at this
  exact this
theorem el_fromN {ns : List Int} {th : TE} (k : Nat) (h : EvL te σ H (ns.map V.int)) (hk : Ev th σ H (.int (k : Int))) : EvL (tSl (rSlL K) te (tPart th) tNoPart) σ H ((ns.drop k).map V.int) := by
  have := el_slN (K := K) h (eo_some hk) eo_none
  rw [cut_from, ← List.map_drop] at this
  exact this
/-- a + b of lists of ints, where each is evaluated to a tracked list -/
def EvM (te : TE) (σ : L2.St) (H : Hp) (xs : List V) : Prop := ∀ H1, Ex H H1 → ∀ Q : VK, (∀ p H2, Ex H1 H2 → H2 p = some (.lst xs) → Q (.ref p) H2) → te σ H1 Q
theorem em_ev {a : Addr} {xs : List V} (h : Ev te σ H (.ref a)) (hs : H a = some (.lst xs)) : EvM te σ H xs := fun H1 e Q q => h H1 e _ fun H2 e2 => q a H2 e2 ((e.trans e2) a _ hs)
theorem em_el {xs : List V} (h : EvL te σ H xs) : EvM te σ H xs := fun H1 e Q q => h H1 e _ fun p H2 _ e2 h2 => q p H2 e2 h2
theorem el_cat {xs ys : List V} (h1 : EvM ta σ H xs) (h2 : EvM tb σ H ys) (hz : xs.length + ys.length ≤ 100000) : EvL (tOp rCat ta tb) σ H (xs ++ ys) := fun H1 e Q q =>
  h1 H1 e _ fun a H2 e2 g => h2 H2 (e.trans e2) _ fun b H3 e3 g3 => ⟨a, b, xs, ys, rfl, rfl, e3 a _ g, g3, sz_of hz, fun p hp => q p _ (fresh_back (e2.trans e3) hp) ((e2.trans e3).trans (Ex.new hp)) upd_same⟩
theorem el_rep {xs : List V} {k : Int} (h1 : EvM ta σ H xs) (h2 : Ev tb σ H (.int k)) (hk : 0 ≤ k ∧ k ≤ 100000) (hz : xs.length * k.toNat ≤ 100000) : EvL (tOp rRep ta tb) σ H (List.replicate k.toNat xs).flatten := fun H1 e Q q =>
  h1 H1 e _ fun a H2 e2 g => h2 H2 (e.trans e2) _ fun H3 e3 => ⟨a, k, xs, rfl, rfl, e3 a _ g, by omega, by omega, sz_of hz, fun p hp => q p _ (fresh_back (e2.trans e3) hp) ((e2.trans e3).trans (Ex.new hp)) upd_same⟩
/-- xs[::-1] -/
theorem el_rev {a : Addr} {xs : List V} (h : Ev te σ H (.ref a)) (hs : SqL K H a xs) : EvL (tRevL K te) σ H xs.reverse := fun H1 e Q q =>
  h H1 e _ fun H2 e2 => ⟨a, xs, rfl, ex_l (e.trans e2) hs, fun p hp => q p _ (fresh_back e2 hp) (e2.trans (Ex.new hp)) upd_same⟩
/-- isinstance(x, C) -/
theorem ev_isi {x c : V} {t u : Value} {b : Bool} (h : EvA ts σ H [x, c]) (k : ClsV c u) (ty : ∀ H1, Ex H H1 → TyX K H1 x t) (e : PySem.W.kitOne K t u = some b) : Ev (tCB (rIsi K) ts) σ H (.bl b) := fun H1 e1 Q q =>
  h H1 e1 _ fun H2 e2 => ⟨x, c, t, u, b, rfl, k, ty H2 (e1.trans e2), e, q H2 e2⟩
theorem tyx_t {a : Addr} {xs : List V} (h : SqT K H a xs) : TyX K H (.ref a) (.type "tuple") := by
  rcases h with (h | ⟨u, h⟩) | h
  · exact .base (.tup h)
  · exact .fTuple h
  · obtain ⟨o, _, _, h1, h2, _⟩ := h
    exact .kTuple h1 h2
theorem ev_add {i j : Int} (h1 : Ev ta σ H (.int i)) (h2 : Ev tb σ H (.int j)) : Ev (tOp (rI0 fun i j => .int (i + j)) ta tb) σ H (.int (i + j)) := ev_op h1 h2 rv_I0
theorem ev_sub {i j : Int} (h1 : Ev ta σ H (.int i)) (h2 : Ev tb σ H (.int j)) : Ev (tOp (rI0 fun i j => .int (i - j)) ta tb) σ H (.int (i - j)) := ev_op h1 h2 rv_I0
theorem ev_neg {i : Int} (h1 : Ev ta σ H (.int i)) : Ev (tUn (rU fun i => .int (-i)) ta) σ H (.int (-i)) := ev_un h1 ru_neg
theorem ev_pow {i j : Int} (h1 : Ev ta σ H (.int i)) (h2 : Ev tb σ H (.int j)) (hc : CPow i j) : Ev (tOp (rI CPow fun i j => .int (i ^ j.toNat)) ta tb) σ H (.int (i ^ j.toNat)) := ev_op h1 h2 (rv_I hc)
/-- xs[i] of a new list -/
theorem ev_ixN {xs : List V} {i : Int} {v : V} (h : EvL ta σ H xs) (hi : ∀ H1, Ex H H1 → Ev tb σ H1 (.int i)) (hat : atI xs i = some v) : Ev (tOp (rIxL K) ta tb) σ H v := ev_opL1 h hi fun p H1 g e => rv_ixL (sq_of g) hat
/-- int(e) -/
theorem ev_int1 {i : Int} (h : Ev te σ H (.int i)) : Ev (tCB (fun xs H Q => (∃ i, xs = [.int i] ∧ Q (.int i) H) ∨ ∃ k, xs = [.bl k] ∧ Q (.int (if k then 1 else 0)) H) (tCons te tNil)) σ H (.int i) := fun H1 e Q q =>
  h H1 e _ fun H2 e2 => .inl ⟨i, rfl, q H2 e2⟩
/-- abs(e) -/
theorem ev_abs {i : Int} (h : Ev te σ H (.int i)) : Ev (tCB (fun xs H Q => ∃ i, xs = [.int i] ∧ Q (.int (if i < 0 then -i else i)) H) (tCons te tNil)) σ H (.int (if i < 0 then -i else i)) := fun H1 e Q q =>
  h H1 e _ fun H2 e2 => ⟨i, rfl, q H2 e2⟩
theorem ev_min2 {i j : Int} (ha : Ev ta σ H (.int i)) (hb : Ev tb σ H (.int j)) : Ev (tCB (fun xs H Q => ∃ i j, xs = [.int i, .int j] ∧ Q (.int (if j < i then j else i)) H) (tCons ta (tCons tb tNil))) σ H (.int (if j < i then j else i)) := fun H1 e Q q =>
  ha H1 e _ fun H2 e2 => hb H2 (e.trans e2) _ fun H3 e3 => ⟨i, j, rfl, q H3 (e2.trans e3)⟩
end
end Nd
/-! Calls within expressions; order of pairs; deep equality of lists of ints. -/
namespace Nd
open PySem PySem.Spec PyProof.Rows L2 Evl
theorem lay_ints : ∀ ns : List Int, PyData.canLayAll0 (ns.map PyData.int) = true
  | [] => rfl
  | _ :: r => by simp [PyData.canLayAll0, PyData.canLay0, lay_ints r]
theorem dep_ints : ∀ ns : List Int, PyData.depthAll (ns.map PyData.int) = 0
  | [] => rfl
  | _ :: r => by simp [PyData.depthAll, PyData.depth, dep_ints r]
theorem shaped_l (ns : List Int) : SeqAt.shaped (.list (ns.map PyData.int)) = true := by
  simp [SeqAt.shaped, PyData.canLay0, PyData.depth, lay_ints, dep_ints]
theorem shaped_t (ns : List Int) : SeqAt.shaped (.tuple (ns.map PyData.int)) = true := by
  simp [SeqAt.shaped, PyData.canLay0, PyData.depth, lay_ints, dep_ints]
section
variable {K : PySem.W.Frag} {σ : L2.St} {H : Hp} {te ta tb : TE} {ts : TA} {D : Ends} {tu tw tz : TS}
/-- f(..) within an expression: f only makes -/
theorem ev_callS {sp : Sp} {E : L2.St → XK} {vs : List V} {z : V} (h : EvA ts σ H vs) (hs : ∀ H1, Ex H H1 → ∀ (Q : VK) (E' : XK), RetV z H1 Q → sp vs H1 Q E') : Ev (tCallS sp E ts) σ H z := fun H1 e Q q =>
  h H1 e _ fun H2 e2 => hs H2 (e.trans e2) Q (E σ) fun H3 e3 => q H3 (e2.trans e3)
theorem eu_callS {sp : Sp} {E : L2.St → XK} {vs xs : List V} (h : EvA ts σ H vs) (hs : ∀ H1, Ex H H1 → ∀ (Q : VK) (E' : XK), RetU xs H1 Q → sp vs H1 Q E') : EvU (tCallS sp E ts) σ H xs := fun H1 e Q q =>
  h H1 e _ fun H2 e2 => hs H2 (e.trans e2) Q (E σ) fun p H3 hp e3 g => q p H3 (fresh_back e2 hp) (e2.trans e3) g
theorem rv_leP {a b p q : Addr} {i j : Int} {ns ms : List Int} (ha : SqT K H a [.int i, .ref p]) (hb : SqT K H b [.int j, .ref q]) (hp : SqT K H p (ns.map V.int)) (hq : SqT K H q (ms.map V.int)) :
    RV (rLeP K) (.ref a) (.ref b) H (.bl (if i = j then lexLe ns ms else decide (i ≤ j))) := fun H1 e _ k =>
  ⟨a, b, p, q, i, j, ns, ms, rfl, rfl, ex_t e ha, ex_t e hb, ex_t e hp, ex_t e hq, shaped_t ns, shaped_t ms, k H1 (Ex.refl H1)⟩
end
end Nd
namespace Nd
open PySem PySem.Spec PyProof.Rows L2 Evl
section
variable {K : PySem.W.Frag} {σ : L2.St} {H H' : Hp} {te ta tb : TE}
mutual
theorem dp_mono (e : Ex H H') : ∀ {v : V} (d : PyData), Dp K H v d → Dp K H' v d
  | _, .none, h => by cases h; exact .non
  | _, .bool b, h => by cases h; exact .bl b
  | _, .int i, h => by cases h; exact .int i
  | _, .str x, h => by cases h; exact .str x
  | _, .list ds, h => by cases h with | lst s a => exact .lst (ex_l e s) (dpa_mono e ds a)
  | _, .tuple ds, h => by cases h with | tup s a => exact .tup (ex_t e s) (dpa_mono e ds a)
  | _, .dict _, h => by cases h
theorem dpa_mono (e : Ex H H') : ∀ {vs : List V} (ds : List PyData), DpAll K H vs ds → DpAll K H' vs ds
  | _, [], h => by cases h; exact .nil
  | _, d :: ds, h => by cases h with | cons a b => exact .cons (dp_mono e d a) (dpa_mono e ds b)
end
theorem rv_eqD {x y : V} {d f : PyData} {b : Bool} (hx : Dp K H x d) (hy : Dp K H y f) (sd : SeqAt.shaped d = true) (sf : SeqAt.shaped f = true) (hb : PyData.eqv d f = b) : RV (rEqD K) x y H (.bl b) := fun H1 e _ q =>
  ⟨d, f, dp_mono e d hx, dp_mono e f hy, sd, sf, by rw [hb]; exact q H1 (Ex.refl H1)⟩
theorem rv_neD {x y : V} {d f : PyData} {b : Bool} (hx : Dp K H x d) (hy : Dp K H y f) (sd : SeqAt.shaped d = true) (sf : SeqAt.shaped f = true) (hb : PyData.eqv d f = b) : RV (rNeD K) x y H (.bl (!b)) := fun H1 e _ q =>
  ⟨d, f, dp_mono e d hx, dp_mono e f hy, sd, sf, by rw [hb]; exact q H1 (Ex.refl H1)⟩
/-- a new tuple, then a value -/
theorem ev_opUV {r : R2} {xs : List V} {y z : V} (ha : EvU ta σ H xs) (hb : Ev tb σ H y) (hr : ∀ p H1, H1 p = some (.tup xs) → Ex H H1 → RV r (.ref p) y H1 z) : Ev (tOp r ta tb) σ H z := fun H1 e Q q =>
  ha H1 e _ fun p H2 hp e2 g => hb H2 (e.trans e2) _ fun H3 e3 => hr p H3 (e3 p _ g) ((e.trans e2).trans e3) H3 (Ex.refl H3) Q fun H4 e4 => q H4 ((e2.trans e3).trans e4)
end
end Nd
/-! In an except suite: isinstance(e, ..), e.f; a loop over a list of tuples. -/
namespace Nd
open PySem PySem.Spec PyProof.Rows L2 Evl
section
variable {K : PySem.W.Frag} {σ : L2.St} {H H' : Hp} {te ta tb tu : TE} {ts : TA}
theorem ev_isX1 {a D dd : Addr} {fv : List (Str × V)} {c : V} {u : Value} {b : Bool} (h : EvA ts σ H [.ref a, c]) (k : ClsV c u) (C : IsC K D) (hd : H dd = some (.xd fv)) (e : PySem.W.kitOne K (.ref D) u = some b) : Ev (tCB (rIsX K a (.ref D) (some dd)) ts) σ H (.bl b) := fun H1 e1 Q q =>
  h H1 e1 _ fun H2 e2 => ⟨D, dd, fv, c, rfl, rfl, C, rfl, (e1.trans e2) dd _ hd, .inl ⟨u, b, k, e, q H2 e2⟩⟩
theorem ev_isXT {a D dd : Addr} {fv : List (Str × V)} {cs : List V} {us : List Value} {b : Bool} (h : Ev te σ H (.ref a)) (hu : EvU tu σ H cs) (k : Paired ClsV cs us) (C : IsC K D) (hd : H dd = some (.xd fv)) (e : PySem.W.kitAny K (.ref D) us = some b) :
    Ev (tCB (rIsX K a (.ref D) (some dd)) (tCons te (tCons tu tNil))) σ H (.bl b) := fun H1 e1 Q q =>
  h H1 e1 _ fun H2 e2 => hu H2 (e1.trans e2) _ fun p H3 hp e3 g => ⟨D, dd, fv, .ref p, rfl, rfl, C, rfl, ((e1.trans e2).trans e3) dd _ hd, .inr ⟨p, cs, us, b, rfl, g, k, e, q H3 (e2.trans e3)⟩⟩
theorem kitAny2 {t c c2 : Value} (h1 : PySem.W.kitOne K t c = some false) (h2 : PySem.W.kitOne K t c2 = some false) : PySem.W.kitAny K t [c, c2] = some false := by
  simp only [PySem.W.kitAny, h1, h2]
theorem ev_xf {a C dd : Addr} {f : Str} {fs : List (Str × V)} {v : V} (h : Ev te σ H (.ref a)) (hd : H dd = some (.xd fs)) (hl : fs.lookup f = some v) : Ev (tXf a (.ref C) (some dd) C f te) σ H v := fun H1 e1 Q q =>
  h H1 e1 _ fun H2 e2 => ⟨rfl, rfl, dd, fs, v, rfl, (e1.trans e2) dd _ hd, hl, q H2 e2⟩
end
end Nd
/-! xs[:c] = ys, the lower bound left out. -/
namespace Nd
open PySem PySem.Spec PyProof.Rows L2 Evl PySem.Calls
theorem low_bounds {c n : Nat} (h : c ≤ n) : sliceBounds none (some (c : Int)) none n = (0, (c : Int), 1) := by
  have k1 : ¬ ((c : Int) < 0) := by omega
  have k2 : max 0 (min (c : Int) (n : Int)) = c := by omega
  simp [sliceBounds, k1, k2]
theorem head_splice (old new : List Value) (c : Nat) : old.toArray.extract 0 0 ++ new.toArray ++ old.toArray.extract c old.toArray.size = (new ++ old.drop c).toArray := by
  have z := splice_eq old new 0 c
  rw [List.take_zero, List.nil_append] at z
  exact z
section
variable {prog : Program} {w : World} {A : Around} {E : Value → Shared → Prop} {s : Shared} {l b k : Addr} {old new : List Value} {n m c : Nat} {top : Value} {Q : Unit → Shared → Prop}
/-- list.__setitem__ with the slice object at k, its parts (None, c, None) -/
theorem set_low (g1 : s.heap.get? l = some { cls := .type "list", data := .seq old.toArray n }) (g2 : s.heap.get? b = some { cls := .type "list", data := .seq new.toArray m }) (apart : l ≠ b)
    (so : s.heap.IsSliceOf k .none top .none) (pt : IsPart top (some (c : Int))) (hc : c ≤ old.length) (sz : old.length + new.length ≤ sizeLine)
    (go : Q () { s with heap := s.heap.update l (Obj.mapSeq fun xs => xs.extract 0 0 ++ new.toArray ++ xs.extract c xs.size) }) :
    wpAny (model prog w) A (setItem (.ref l) (.ref k) (.ref b)) Q E s := by
  have L1 := PySem.IsL.isList g1
  have L2 := PySem.IsL.isList g2
  obtain ⟨ob, gk, ck, dk⟩ := id so
  have tyk : s.TypeIs (.ref k) "slice" := ⟨ob, gk, ck⟩
  have nz : ¬ ((rawPart none == rawInt 0) = true) := Bool.false_ne_true
  have other : Builtin.List.listSameRef (.ref l) (.ref b) = false := by
    unfold Builtin.List.listSameRef
    exact beq_eq_false_iff_ne.mpr apart
  have sz2 : old.toArray.size + new.toArray.size ≤ sizeLine := by rw [List.size_toArray, List.size_toArray]; exact sz
  have mx : (max (0 : Int) (c : Int)).toNat = c := by omega
  have fits : ((fun xs : Array Value => xs.extract 0 0 ++ new.toArray ++ xs.extract c xs.size) old.toArray).size ≤ sizeLine + 1 := by
    simp only [Array.size_append, Array.size_extract]
    omega
  unfold setItem
  try with_reducible refine wpAny_holding ?_
  first | refine wpAny_bind (wpAny_pure ?_) | skip
  refine wpAny_bind (wpAny_sequenceKey (L1.typeIs) (by decide) ?_)
  refine wpAny_bind (wpAny_callSpecial?_slot (name := Str.ofString "__setitem__") (L1.typeIs) slot_list_setitem (wpAny_call_entry slot_list_setitem (L1.typeIs) entry_list_setitem ?_ (args_list_setitem _ _ _)))
  show wpAny _ _ (Builtin.List.listSubscript? (.ref k) >>= _) _ _ s
  refine wpAny_bind ?_
  unfold Builtin.List.listSubscript?
  refine wpAny_bind (wpAny_specialOf tyk slice_no_index ?_)
  simp only [Option.isNone_none, if_true]
  refine wpAny_pure ?_
  show wpAny _ _ (typeOf (.ref k) >>= _) _ _ s
  refine wpAny_bind (wpAny_typeOf tyk ?_)
  first | rw [if_neg (by decide)] | refine PySem.W.KFB.if_not (by decide) ?_
  rw [listSliceParts_eq]
  refine wpAny_bind (wpAny_bind (wpAny_field gk dk (x := .none) rfl (wpAny_bind (wpAny_listPart (.none) ?_))))
  rw [if_neg nz]
  refine wpAny_bind (wpAny_field gk dk (x := .none) rfl (wpAny_bind (wpAny_listPart (.none) ?_)))
  refine wpAny_bind (wpAny_field gk dk (x := top) rfl (wpAny_bind (wpAny_listPart pt (wpAny_pure ?_))))
  first | simp only [other, Bool.false_eq_true, if_false] | refine PySem.W.KFB.if_not other ?_ | (dsimp only; rw [if_neg (by rw [other]; exact Bool.false_ne_true)])
  refine wpAny_bind (m := Builtin.List.listAllItems (.ref b) ("must assign iterable to extended slice")) ?_
  unfold Builtin.List.listAllItems
  refine wpAny_bind (wpAny_typeOf (L2.typeIs) ?_)
  first | refine PySem.W.KFB.if_so (by decide) ?_ | rw [if_pos (by decide)] | simp only [beq_self_eq_true, Bool.true_or, if_true]
  unfold Builtin.List.listItems
  refine wpAny_bind (wpAny_seqItems g2 rfl (wpAny_pure ?_))
  refine wpAny_bind (wpAny_bind (wpAny_seqItems g1 rfl (wpAny_pure ?_)))
  have hb : sliceBounds none (some (c : Int)) none old.toArray.size = (0, (c : Int), 1) := low_bounds (by rw [List.size_toArray]; exact hc)
  refine wpAny_bind (wpAny_of_eq ((sliceIndices_raw none (some (c : Int)) none old.toArray.size (by simp)).trans (congrArg (pure : Int × Int × Int → Sem (Int × Int × Int)) hb)) ?_)
  show wpAny _ _ (if ((1 : Int) == 1) = true then _ else _) _ _ s
  rw [if_pos (by decide)]
  refine wpAny_bind (wpAny_rule ?_)
  first | simp only [notLongL sz2, Bool.false_eq_true, if_false] | refine PySem.W.KFB.if_not (notLongL sz2) ?_
  first | refine wpAny_bind (wpAny_pure ?_) | skip
  show wpAny _ _ (updateSeq l (fun xs => xs.extract 0 ((0 : Int)).toNat ++ new.toArray ++ xs.extract (max (0 : Int) (c : Int)).toNat xs.size) >>= _) _ _ s
  rw [mx]
  refine wpAny_bind (wpAny_updateSeq (hz := Nat.le_trans (Nat.le_add_right _ _) sz2) (_hz' := fits) g1 rfl ?_)
  refine wpAny_bind (wpAny_letGo ?_)
  first
    | exact wpAny_bind (wpAny_pure (wpAny_pure ⟨.none, rfl, wpAny_pure go⟩))
    | exact wpAny_pure ⟨.none, rfl, wpAny_pure go⟩
end
/-- o[:u] = .. of another list -/
def gSl0 (to tu : TE) : TG := fun v σ H Q => to σ H fun x H1 => tu σ H1 fun y H2 => ∃ (l b : Addr) (xs ys : List V) (c : Nat), x = .ref l ∧ v = .ref b ∧ y = .int (c : Int) ∧ H2 l = some (.lst xs) ∧ H2 b = some (.lst ys) ∧ l ≠ b ∧ c ≤ xs.length ∧ xs.length + ys.length ≤ sizeLine ∧
  Q σ (upd H2 l (.lst (ys ++ xs.drop c)))
theorem pg_sl0 {X : Cx} {o u : Expr} {to tu : TE} {p2 pos : Pos} (ho : PE X o to) (hu : PE X u tu) : PG X (.Subscript o (.Slice none (some u) none p2) pos) (gSl0 to tu) := by
  refine ⟨fun pins s σ H v vv Q I r h => ?_⟩
  rw [assign_Subscript]
  refine wpAny_bind (wpAny_holding (thn (ho.run pins s σ H _ I h) fun ov s1 ⟨x, H1, I1, r1, q1⟩ => ?_))
  refine wpAny_bind (wpAny_holding ?_)
  refine wpAny_Slice (thn (po_none.run pins s1 σ H1 (fun z H2 => z = none ∧ H2 = H1) I1 ⟨rfl, rfl⟩) fun vl s2 ⟨z, H2, I2, pl, ez, eH⟩ => ?_)
  subst ez eH
  cases pl
  refine thn (hu.run pins s2 σ H2 _ I2 q1) fun uv s3 ⟨y, H3, I3, r3, q3⟩ => ?_
  rw [evalPart_none]
  refine wpAny_pure ?_
  obtain ⟨l, b, xs, ys, c, rfl, rfl, rfl, gl, gb, ne, hc, sz, q⟩ := q3
  have I4 : Inv X pins σ H3 { s3 with heap := s3.heap.push { cls := .type "slice", data := .fields #[.none, uv, .none] } } := I3.kept (t' := s3.toks) fun _ _ q => Heap.get?_push_of_some _ q
  cases r1
  cases r
  obtain ⟨t, rfl⟩ := r3
  obtain ⟨z1, its, n1, v1, len1, e1⟩ := I4.lstM gl
  obtain ⟨z2, its2, n2, v2, len2, e2⟩ := I4.lstM gb
  refine wpAny_bind (wpAny_standAt (wpAny_bind (wpAny_holding ?_)))
  refine set_low e1 e2 ne (Heap.IsSliceOf.new ..) (.int _ _) (by rw [← len1]; exact hc) (by rw [← len1, ← len2]; exact sz) ?_
  refine wpAny_release ⟨σ, _, I4.lset (its' := its2 ++ its.drop c) (t' := s3.toks) gl e1 (head_splice its its2 c) (Vals.append v2 (v1.drop _)) ?_, q⟩
  rw [List.length_append, List.length_drop]
  omega
section
variable {K : PySem.W.Frag} {σ : L2.St} {H : Hp} {te to tu : TE} {D : Ends} {tz : TS}
/-- xs[:c] = ys[..], ys new -/
theorem q_sl0 {l : Addr} {xs ys : List V} (c : Nat) (hl : H l = some (.lst xs)) (h : EvL te σ H ys) (ho : Ev to σ H (.ref l)) (hu : Ev tu σ H (.int (c : Int))) (hc : c ≤ xs.length) (sz : xs.length + ys.length ≤ 100000)
    (k : ∀ H1, Ex H H1 → tz D σ (upd H1 l (.lst (ys ++ xs.drop c)))) : tSeq (tAsg te (gSl0 to tu)) tz D σ H := h H (Ex.refl H) _ fun b H1 hb e1 g1 => ho H1 e1 _ fun H2 e2 => hu H2 (e1.trans e2) _ fun H3 e3 =>
  ⟨l, b, xs, ys, c, rfl, rfl, rfl, (e2.trans e3) l _ (e1 l _ hl), (e2.trans e3) b _ g1, (fun e => by rw [e, hb] at hl; cases hl), hc, sz_of sz, k H3 ((e1.trans e2).trans e3)⟩
end
end Nd
/-! The program's looks and lots, as functions of plain Lean. -/
namespace K3
open PySem PySem.Spec PyProof.Rows L2 Evl Nd
inductive Er where
  | size (z : Int)
  | num (z : Int)
  | thing (z : Int)
/-- the classes' addresses -/
structure Cs where
  S : Addr
  N : Addr
  T : Addr
def Er.is (c : Cs) : Er → Hp → XK → Prop
  | .size z, H, E => Err c.S "count" (.int z) H E
  | .num z, H, E => Err c.N "number" (.int z) H E
  | .thing z, H, E => Err c.T "thing" (.int z) H E
theorem Er.mono {c : Cs} {H H' : Hp} {E : XK} (e : Ex H H') : ∀ {r : Er}, r.is c H E → r.is c H' E
  | .size _, h => Err.mono h e
  | .num _, h => Err.mono h e
  | .thing _, h => Err.mono h e
abbrev R := Except Er
def Res {α : Type} (c : Cs) (r : R α) (ok : α → Prop) (H : Hp) (E : XK) : Prop := match r with
  | .error e => e.is c H E
  | .ok a => ok a
theorem Res.err {α : Type} {c : Cs} {r : R α} {ok : α → Prop} {H : Hp} {E : XK} {e : Er} (h : r = .error e) (k : Res c r ok H E) : e.is c H E := by rw [h] at k; exact k
theorem Res.fine {α : Type} {c : Cs} {r : R α} {ok : α → Prop} {H : Hp} {E : XK} {a : α} (h : r = .ok a) (k : Res c r ok H E) : ok a := by rw [h] at k; exact k
/-- a part, then the rest -/
theorem Res.of {α : Type} {c : Cs} {r : R α} {ok : α → Prop} {H : Hp} {E : XK} (h1 : ∀ e, r = .error e → e.is c H E) (h2 : ∀ a, r = .ok a → ok a) : Res c r ok H E := by
  cases h : r with
  | error e => exact h1 e h
  | ok a => exact h2 a h
def out (lo hi z : Int) : Bool := decide (z < lo) || decide (hi < z)
def lookSize (c lo hi : Int) : R Unit := if out lo hi c = true then .error (.size c) else .ok ()
def lookNumber (z lo hi : Int) : R Unit := if out lo hi z = true then .error (.num z) else .ok ()
def lookNumbers (lo hi : Int) : List Int → R Unit
  | [] => .ok ()
  | z :: r => if out lo hi z = true then .error (.num z) else lookNumbers lo hi r
def lookThings (n : Int) : R Unit := lookNumber n 0 10
def lookThing (n z : Int) : R Unit := if (decide (z < 0) || decide (n ≤ z)) = true then .error (.thing z) else .ok ()
def lookEach (n : Int) : List Int → R Unit
  | [] => .ok ()
  | z :: r => match lookThing n z with
    | .error e => .error e
    | .ok _ => lookEach n r
def nums (n : Int) : List Int := (List.range n.toNat).map fun (k : Nat) => (k : Int)
/-- the lot of a list of things -/
def lotL (n : Int) (ns : List Int) : List Int := (nums n).filter fun k => decide (k ∈ ns)
def lookLot (n : Int) (ns : List Int) : R (List Int) := match lookSize ns.length 0 60 with
  | .error e => .error e
  | .ok _ => match lookEach n ns with
    | .error e => .error e
    | .ok _ => .ok (lotL n ns)
def lookCosts (n : Int) (cs : List Int) : R Unit := match lookSize cs.length n n with
  | .error e => .error e
  | .ok _ => lookNumbers (-1000000) 1000000 cs
def lotOf (n : Int) (ns : List Int) : R (List Int) := match lookThings n with
  | .error e => .error e
  | .ok _ => lookLot n ns
def lookTwo (n : Int) (xs ys : List Int) : R (List Int × List Int) := match lookThings n with
  | .error e => .error e
  | .ok _ => match lookLot n xs with
    | .error e => .error e
    | .ok a => match lookLot n ys with
      | .error e => .error e
      | .ok b => .ok (a, b)
def onTwo (f : List Int → List Int → List Int) (n : Int) (xs ys : List Int) : R (List Int) := match lookTwo n xs ys with
  | .error e => .error e
  | .ok (a, b) => .ok (f a b)
def joined (n : Int) : List Int → List Int → R (List Int) := onTwo (fun a b => lotL n (a ++ b)) n
def common (n : Int) : List Int → List Int → R (List Int) := onTwo (fun a b => a.filter fun k => decide (k ∈ b)) n
def without (n : Int) : List Int → List Int → R (List Int) := onTwo (fun a b => a.filter fun k => !decide (k ∈ b)) n
def costSum (cs : List Int) (lot : List Int) : Int := (lot.map fun k => cs.getD k.toNat 0).sum
def costOf (n : Int) (cs ns : List Int) : R Int := match lookThings n with
  | .error e => .error e
  | .ok _ => match lookCosts n cs with
    | .error e => .error e
    | .ok _ => match lookLot n ns with
      | .error e => .error e
      | .ok l => .ok (costSum cs l)

/-! ### facts -/
theorem mem_nums {n k : Int} : k ∈ nums n ↔ 0 ≤ k ∧ k < n := by
  unfold nums
  rw [List.mem_map]
  constructor
  · rintro ⟨j, hj, rfl⟩
    have := List.mem_range.mp hj
    omega
  · intro h
    exact ⟨k.toNat, List.mem_range.mpr (by omega), by omega⟩
theorem nums_sorted (n : Int) : (nums n).Pairwise (· < ·) := by
  unfold nums
  rw [List.pairwise_map]
  exact (List.pairwise_lt_range).imp fun h => by omega
theorem lotL_sorted (n : Int) (ns : List Int) : (lotL n ns).Pairwise (· < ·) := (nums_sorted n).sublist List.filter_sublist
theorem mem_lotL {n k : Int} {ns : List Int} : k ∈ lotL n ns ↔ (0 ≤ k ∧ k < n) ∧ k ∈ ns := by
  unfold lotL
  rw [List.mem_filter, mem_nums, decide_eq_true_eq]
/-- strictly ascending lists with the same members are one -/
theorem asc_ext : ∀ {xs ys : List Int}, xs.Pairwise (· < ·) → ys.Pairwise (· < ·) → (∀ k, k ∈ xs ↔ k ∈ ys) → xs = ys
  | [], [], _, _, _ => rfl
  | [], y :: ys, _, _, h => absurd ((h y).mpr List.mem_cons_self) (by simp)
  | x :: xs, [], _, _, h => absurd ((h x).mp List.mem_cons_self) (by simp)
  | x :: xs, y :: ys, hx, hy, h => by
    obtain ⟨hx1, hx2⟩ := List.pairwise_cons.mp hx
    obtain ⟨hy1, hy2⟩ := List.pairwise_cons.mp hy
    have e : x = y := by
      rcases List.mem_cons.mp ((h x).mp List.mem_cons_self) with a | a
      · exact a
      · rcases List.mem_cons.mp ((h y).mpr List.mem_cons_self) with b | b
        · exact b.symm
        · have := hy1 x a
          have := hx1 y b
          omega
    subst e
    refine congrArg (x :: ·) (asc_ext hx2 hy2 fun k => ⟨fun hk => ?_, fun hk => ?_⟩)
    · rcases List.mem_cons.mp ((h k).mp (List.mem_cons_of_mem _ hk)) with a | a
      · have := hx1 k hk
        omega
      · exact a
    · rcases List.mem_cons.mp ((h k).mpr (List.mem_cons_of_mem _ hk)) with a | a
      · have := hy1 k hk
        omega
      · exact a
theorem lookEach_ok {n : Int} : ∀ {ns : List Int} {u : Unit}, lookEach n ns = .ok u → ∀ k ∈ ns, 0 ≤ k ∧ k < n
  | [], _, _, k, hk => by simp at hk
  | z :: r, u, h, k, hk => by
    unfold lookEach lookThing at h
    by_cases c : (decide (z < 0) || decide (n ≤ z)) = true
    · rw [if_pos c] at h
      simp at h
    · rw [if_neg c] at h
      have c' : ¬ z < 0 ∧ ¬ n ≤ z := by simpa using c
      rcases List.mem_cons.mp hk with e | e
      · subst e
        omega
      · exact lookEach_ok (ns := r) (u := u) h k e
theorem lotL_is {n : Int} {ns ms : List Int} (hb : ∀ k ∈ ns, 0 ≤ k ∧ k < n) (hs : ms.Pairwise (· < ·)) (hm : ∀ k, k ∈ ms ↔ k ∈ ns) : ms = lotL n ns :=
  asc_ext hs (lotL_sorted n ns) fun k => by
    rw [hm, mem_lotL]
    exact ⟨fun h => ⟨hb k h, h⟩, fun h => h.2⟩
theorem nums_len (n : Int) : (nums n).length = n.toNat := by simp [nums]
theorem lotL_len (n : Int) (ns : List Int) : (lotL n ns).length ≤ n.toNat := by
  have h := List.length_filter_le (fun k => decide (k ∈ ns)) (nums n)
  rw [nums_len] at h
  exact h
theorem lookThings_ok {n : Int} {u : Unit} (h : lookThings n = .ok u) : 0 ≤ n ∧ n ≤ 10 := by
  unfold lookThings lookNumber out at h
  by_cases c : (decide (n < 0) || decide (10 < n)) = true
  · rw [if_pos c] at h; simp at h
  · have : ¬ n < 0 ∧ ¬ 10 < n := by simpa using c
    omega
theorem lookSize_ok {c lo hi : Int} {u : Unit} (h : lookSize c lo hi = .ok u) : lo ≤ c ∧ c ≤ hi := by
  unfold lookSize out at h
  by_cases d : (decide (c < lo) || decide (hi < c)) = true
  · rw [if_pos d] at h; simp at h
  · have : ¬ c < lo ∧ ¬ hi < c := by simpa using d
    omega
theorem map_at {ns : List Int} {i : Nat} {x : V} (h : (ns.map V.int)[i]? = some x) : ∃ z, x = .int z ∧ ns[i]? = some z ∧ ns.drop i = z :: ns.drop (i + 1) := by
  rw [List.getElem?_map] at h
  cases e : ns[i]? with
  | none => rw [e] at h; cases h
  | some z =>
    rw [e] at h
    obtain ⟨hi, ez⟩ := List.getElem?_eq_some_iff.mp e
    refine ⟨z, (Option.some.inj h).symm, rfl, ?_⟩
    rw [List.drop_eq_getElem_cons hi, ez]
theorem lookNumbers_cons {lo hi z : Int} {r : List Int} : lookNumbers lo hi (z :: r) = match lookNumber z lo hi with
  | .error e => .error e
  | .ok _ => lookNumbers lo hi r := by
  show (if out lo hi z = true then Except.error (.num z) else lookNumbers lo hi r) = _
  unfold lookNumber
  by_cases c : out lo hi z = true
  · rw [if_pos c, if_pos c]
  · rw [if_neg c, if_neg c]
theorem lookLot_ok {n : Int} {ns l : List Int} (h : lookLot n ns = .ok l) : l = lotL n ns ∧ (∀ k ∈ ns, 0 ≤ k ∧ k < n) := by
  unfold lookLot at h
  cases e1 : lookSize (ns.length : Int) 0 60 with
  | error r => rw [e1] at h; simp at h
  | ok u =>
    rw [e1] at h
    simp only at h
    cases e2 : lookEach n ns with
    | error r => rw [e2] at h; simp at h
    | ok u2 =>
      rw [e2] at h
      simp only at h
      exact ⟨(Except.ok.inj h).symm, lookEach_ok e2⟩
theorem lookTwo_ok {n : Int} {xs ys l m : List Int} (h : lookTwo n xs ys = .ok (l, m)) : n ≤ 10 ∧ l = lotL n xs ∧ m = lotL n ys ∧ (∀ k ∈ xs, 0 ≤ k ∧ k < n) ∧ (∀ k ∈ ys, 0 ≤ k ∧ k < n) := by
  unfold lookTwo at h
  cases e1 : lookThings n with
  | error r => rw [e1] at h; simp at h
  | ok u =>
    rw [e1] at h
    simp only at h
    cases e2 : lookLot n xs with
    | error r => rw [e2] at h; simp at h
    | ok a =>
      rw [e2] at h
      simp only at h
      cases e3 : lookLot n ys with
      | error r => rw [e3] at h; simp at h
      | ok b =>
        rw [e3] at h
        simp only at h
        have hh := Except.ok.inj h
        obtain ⟨rfl, rfl⟩ := Prod.mk.inj hh
        exact ⟨(lookThings_ok e1).2, (lookLot_ok e2).1, (lookLot_ok e3).1, (lookLot_ok e2).2, (lookLot_ok e3).2⟩
theorem lookCosts_ok {n : Int} {cs : List Int} {u : Unit} (h : lookCosts n cs = .ok u) : (cs.length : Int) = n := by
  unfold lookCosts at h
  cases e1 : lookSize (cs.length : Int) n n with
  | error r => rw [e1] at h; simp at h
  | ok v =>
    have := lookSize_ok e1
    omega
end K3
namespace K3
open PySem PySem.Spec PyProof.Rows L2 Evl Nd
/-! ### all lots -/
def nextOf (l : List Nat) : Nat := match l.getLast? with
  | some z => z + 1
  | none => 0
def more (n : Nat) (l : List Nat) : List (List Nat) := (List.range (n - nextOf l)).map fun m => l ++ [nextOf l + m]
def lotsN (n : Nat) : Nat → List (List Nat)
  | 0 => [[]]
  | k + 1 => (lotsN n k).flatMap (more n)
def allN (n : Nat) : List (List Nat) := (List.range (n + 1)).flatMap (lotsN n)
def vN (l : List Nat) : List V := l.map fun (k : Nat) => .int (k : Int)
theorem few_lots : ((List.range 11).all fun n => (List.range 12).all fun k => decide ((lotsN n k).length ≤ 300)) = true := by decide +kernel
theorem lotsN_few {n k : Nat} (hn : n ≤ 10) (hk : k ≤ 11) : (lotsN n k).length ≤ 300 := by
  have h := List.all_eq_true.mp few_lots n (List.mem_range.mpr (by omega))
  exact of_decide_eq_true (List.all_eq_true.mp h k (List.mem_range.mpr (by omega)))
theorem lotsN_len {n : Nat} : ∀ {k : Nat} {l : List Nat}, l ∈ lotsN n k → l.length = k
  | 0, l, h => by
    have : l = [] := by simpa [lotsN] using h
    rw [this]; rfl
  | k + 1, l, h => by
    obtain ⟨l0, h0, hl⟩ := List.mem_flatMap.mp h
    obtain ⟨m, _, rfl⟩ := List.mem_map.mp hl
    rw [List.length_append, lotsN_len h0]
    rfl
theorem lotsN_in {n : Nat} : ∀ {k : Nat} {l : List Nat}, l ∈ lotsN n k → ∀ z ∈ l, z < n
  | 0, l, h, z, hz => by
    have : l = [] := by simpa [lotsN] using h
    rw [this] at hz; simp at hz
  | k + 1, l, h, z, hz => by
    obtain ⟨l0, h0, hl⟩ := List.mem_flatMap.mp h
    obtain ⟨m, hm, rfl⟩ := List.mem_map.mp hl
    have hm' := List.mem_range.mp hm
    rcases List.mem_append.mp hz with a | a
    · exact lotsN_in h0 z a
    · have : z = nextOf l0 + m := by simpa using a
      omega
theorem nextOf_le {n : Nat} {l : List Nat} (h : ∀ z ∈ l, z < n) : nextOf l ≤ n := by
  unfold nextOf
  split
  · rename_i z hz
    have := h z (List.mem_of_getLast? hz)
    omega
  · omega

/-- rs are the addresses of the lots -/
def LotsAt (K : PySem.W.Frag) (H : Hp) (rs : List V) (ls : List (List Nat)) : Prop := rs.length = ls.length ∧ ∀ (i : Nat) l, ls[i]? = some l → ∃ a, rs[i]? = some (.ref a) ∧ SqT K H a (vN l)
section
variable {K : PySem.W.Frag} {H H' : Hp} {rs : List V} {ls : List (List Nat)}
theorem LotsAt.mono (e : Ex H H') (h : LotsAt K H rs ls) : LotsAt K H' rs ls := ⟨h.1, fun i l hl => let ⟨a, h1, h2⟩ := h.2 i l hl; ⟨a, h1, ex_t e h2⟩⟩
theorem sqt_upd {a D : Addr} {xs acc : List V} {o : HO} (hD : H D = some (.lst acc)) (h : SqT K H a xs) : SqT K (upd H D o) a xs := by
  rcases h with (h | ⟨u, h⟩) | h
  · exact .inl (.inl (by rw [upd_ne (fun e => by rw [e, hD] at h; cases h)]; exact h))
  · exact .inl (.inr ⟨u, by rw [upd_ne (fun e => by rw [e, hD] at h; cases h)]; exact h⟩)
  · exact .inr h
theorem LotsAt.upd {D : Addr} {acc : List V} {o : HO} (hD : H D = some (.lst acc)) (h : LotsAt K H rs ls) : LotsAt K (upd H D o) rs ls := ⟨h.1, fun i l hl => let ⟨a, h1, h2⟩ := h.2 i l hl; ⟨a, h1, sqt_upd hD h2⟩⟩
theorem LotsAt.nil : LotsAt K H [] [] := ⟨rfl, fun i l h => by simp at h⟩
theorem LotsAt.snoc {a : Addr} {l : List Nat} (h : LotsAt K H rs ls) (ha : SqT K H a (vN l)) : LotsAt K H (rs ++ [.ref a]) (ls ++ [l]) := by
  refine ⟨by rw [List.length_append, List.length_append, h.1]; rfl, fun i m hm => ?_⟩
  by_cases hi : i < ls.length
  · rw [List.getElem?_append_left hi] at hm
    obtain ⟨b, h1, h2⟩ := h.2 i m hm
    exact ⟨b, by rw [List.getElem?_append_left (by rw [h.1]; exact hi)]; exact h1, h2⟩
  · have hlt := (List.getElem?_eq_some_iff.mp hm).1
    rw [List.length_append] at hlt
    have e : i = ls.length := by simp at hlt; omega
    subst e
    rw [List.getElem?_append_right (Nat.le_refl _), Nat.sub_self] at hm
    obtain rfl : l = m := by simpa using hm
    exact ⟨a, by rw [← h.1, List.getElem?_append_right (Nat.le_refl _), Nat.sub_self]; rfl, ha⟩
end
theorem flatMap_take {α β : Type} {f : α → List β} : ∀ {xs : List α} {i : Nat} {x : α}, xs[i]? = some x → (xs.take (i + 1)).flatMap f = (xs.take i).flatMap f ++ f x
  | [], i, x, h => by simp at h
  | y :: ys, 0, x, h => by
    have e : y = x := by simpa using h
    subst e
    simp
  | y :: ys, i + 1, x, h => by
    have ih := flatMap_take (f := f) (xs := ys) (i := i) (x := x) (by simpa using h)
    rw [List.take_succ_cons, List.take_succ_cons, List.flatMap_cons, List.flatMap_cons, ih, List.append_assoc]
theorem flat_prefix {α β : Type} {f : α → List β} : ∀ {xs : List α} {i : Nat}, ((xs.take i).flatMap f).length ≤ (xs.flatMap f).length
  | [], i => by simp
  | y :: ys, 0 => by simp
  | y :: ys, i + 1 => by
    rw [List.take_succ_cons, List.flatMap_cons, List.flatMap_cons, List.length_append, List.length_append]
    have := flat_prefix (f := f) (xs := ys) (i := i)
    omega
theorem vN_snoc (l : List Nat) (z : Nat) : vN (l ++ [z]) = vN l ++ [.int (z : Int)] := by simp [vN]
theorem range_snoc (n : Nat) (l : List Nat) (m : Nat) : ((List.range (m + 1)).map fun j => l ++ [nextOf l + j]) = ((List.range m).map fun j => l ++ [nextOf l + j]) ++ [l ++ [nextOf l + m]] := by
  rw [List.range_succ, List.map_append]
  rfl
theorem all_few : ((List.range 11).all fun n => decide ((allN n).length ≤ 1024)) = true := by decide +kernel
theorem allN_few {n : Nat} (hn : n ≤ 10) : (allN n).length ≤ 1024 := of_decide_eq_true (List.all_eq_true.mp all_few n (List.mem_range.mpr (by omega)))
theorem part_few {n i j : Nat} (hn : n ≤ 10) (hi : i ≤ n) : ((List.range i).flatMap (lotsN n) ++ (lotsN n i).take j).length ≤ 1024 := by
  have h1 := allN_few hn
  have h2 := flat_prefix (f := lotsN n) (xs := List.range (n + 1)) (i := i + 1)
  have e : (List.range (n + 1)).take (i + 1) = List.range i ++ [i] := by
    rw [List.take_range, show min (i + 1) (n + 1) = i + 1 by omega, List.range_succ]
  rw [e, List.flatMap_append] at h2
  have h3 : ((lotsN n i).take j).length ≤ (lotsN n i).length := by rw [List.length_take]; omega
  have h4 : ([i].flatMap (lotsN n)).length = (lotsN n i).length := by simp
  rw [List.length_append] at h2 ⊢
  unfold allN at h1
  omega
theorem sql_upd {K : PySem.W.Frag} {H : Hp} {a D : Addr} {xs : List V} {o : HO} (hne : a ≠ D) (h : SqL K H a xs) : SqL K (upd H D o) a xs := by
  rcases h with (h | ⟨u, h⟩) | h
  · exact .inl (.inl (by rw [upd_ne hne]; exact h))
  · exact .inl (.inr ⟨u, by rw [upd_ne hne]; exact h⟩)
  · exact .inr h
end K3
namespace K3
open PySem PySem.Spec PyProof.Rows L2 Evl Nd
/-! ### what holds of all lots, for at most 10 things -/
def iN (l : List Nat) : List Int := l.map fun (k : Nat) => (k : Int)
theorem vN_is (l : List Nat) : vN l = (iN l).map V.int := by simp [vN, iN]
def ascB (n : Nat) : Nat → List Nat → Bool
  | _, [] => true
  | m, z :: r => decide (m ≤ z) && decide (z < n) && ascB n (z + 1) r
def leB (x y : List Nat) : Bool := if (x.length : Int) = (y.length : Int) then lexLe (iN x) (iN y) else decide ((x.length : Int) ≤ (y.length : Int))
def sortedB : List (List Nat) → Bool
  | x :: y :: r => !leB y x && sortedB (y :: r)
  | _ => true
theorem all_asc : ((List.range 11).all fun n => (allN n).all fun l => ascB n 0 l) = true := by decide +kernel
theorem all_sorted : ((List.range 11).all fun n => sortedB (allN n)) = true := by decide +kernel
theorem all_many : ((List.range 11).all fun n => decide ((allN n).length = 2 ^ n)) = true := by decide +kernel
theorem allN_asc {n : Nat} (hn : n ≤ 10) {l : List Nat} (h : l ∈ allN n) : ascB n 0 l = true := List.all_eq_true.mp (List.all_eq_true.mp all_asc n (List.mem_range.mpr (by omega))) l h
theorem allN_many {n : Nat} (hn : n ≤ 10) : (allN n).length = 2 ^ n := of_decide_eq_true (List.all_eq_true.mp all_many n (List.mem_range.mpr (by omega)))
theorem sortedB_at : ∀ {ls : List (List Nat)} {i : Nat} {x y : List Nat}, sortedB ls = true → ls[i]? = some x → ls[i + 1]? = some y → leB y x = false
  | [], _, _, _, _, h, _ => by simp at h
  | [_], 0, _, _, _, _, h => by simp at h
  | [_], i + 1, _, _, _, h, _ => by simp at h
  | a :: b :: r, 0, x, y, hs, h1, h2 => by
    have e1 : a = x := by simpa using h1
    have e2 : b = y := by simpa using h2
    subst e1 e2
    have := (Bool.and_eq_true_iff.mp hs).1
    simpa using this
  | a :: b :: r, i + 1, x, y, hs, h1, h2 => sortedB_at (ls := b :: r) (i := i) (Bool.and_eq_true_iff.mp hs).2 (by simpa using h1) (by simpa using h2)
theorem allN_next {n : Nat} (hn : n ≤ 10) {i : Nat} {x y : List Nat} (h1 : (allN n)[i]? = some x) (h2 : (allN n)[i + 1]? = some y) : leB y x = false :=
  sortedB_at (List.all_eq_true.mp all_sorted n (List.mem_range.mpr (by omega))) h1 h2
theorem ascB_in : ∀ {n m : Nat} {l : List Nat}, ascB n m l = true → l.length + m ≤ n + (if l = [] then m else 0)
  | n, m, [], _ => by simp
  | n, m, z :: r, h => by
    obtain ⟨h1, h2⟩ := Bool.and_eq_true_iff.mp h
    obtain ⟨h3, h4⟩ := Bool.and_eq_true_iff.mp h1
    have h3 := of_decide_eq_true h3
    have h4 := of_decide_eq_true h4
    have ih := ascB_in (n := n) (m := z + 1) (l := r) h2
    rw [List.length_cons]
    by_cases e : r = []
    · subst e
      simp at ih ⊢
      omega
    · rw [if_neg e] at ih
      simp
      omega
theorem lookThings_go {n : Int} (h0 : 0 ≤ n) (h1 : n ≤ 10) : lookThings n = .ok () := by
  unfold lookThings lookNumber out
  rw [if_neg]
  simp
  omega
end K3
namespace K3
open PySem PySem.Spec PyProof.Rows L2 Evl Nd
/-! ### calls that are not refused -/
def Fit (n : Int) (ns : List Int) : Prop := (∀ k ∈ ns, 0 ≤ k ∧ k < n) ∧ ns.length ≤ 60
theorem lookEach_go {n : Int} : ∀ {ns : List Int}, (∀ k ∈ ns, 0 ≤ k ∧ k < n) → lookEach n ns = .ok ()
  | [], _ => rfl
  | z :: r, h => by
    have hz := h z List.mem_cons_self
    unfold lookEach lookThing
    rw [if_neg (by simp; omega)]
    exact lookEach_go fun k hk => h k (List.mem_cons_of_mem _ hk)
theorem lookSize_go {c lo hi : Int} (h : lo ≤ c ∧ c ≤ hi) : lookSize c lo hi = .ok () := by
  unfold lookSize out
  rw [if_neg]
  simp
  omega
theorem lookLot_go {n : Int} {ns : List Int} (h : Fit n ns) : lookLot n ns = .ok (lotL n ns) := by
  have := h.2
  unfold lookLot
  rw [lookSize_go (by omega)]
  simp only
  rw [lookEach_go h.1]
theorem lotOf_go {n : Int} {ns : List Int} (n0 : 0 ≤ n) (n10 : n ≤ 10) (h : Fit n ns) : lotOf n ns = .ok (lotL n ns) := by
  unfold lotOf
  rw [lookThings_go n0 n10]
  exact lookLot_go h
theorem onTwo_go {f : List Int → List Int → List Int} {n : Int} {xs ys : List Int} (n0 : 0 ≤ n) (n10 : n ≤ 10) (hx : Fit n xs) (hy : Fit n ys) : onTwo f n xs ys = .ok (f (lotL n xs) (lotL n ys)) := by
  unfold onTwo lookTwo
  rw [lookThings_go n0 n10]
  simp only
  rw [lookLot_go hx]
  simp only
  rw [lookLot_go hy]
theorem joined_go {n : Int} {xs ys : List Int} (n0 : 0 ≤ n) (n10 : n ≤ 10) (hx : Fit n xs) (hy : Fit n ys) : joined n xs ys = .ok ((nums n).filter fun k => decide (k ∈ xs) || decide (k ∈ ys)) := by
  unfold joined
  rw [onTwo_go n0 n10 hx hy]
  refine congrArg Except.ok ?_
  unfold lotL
  refine List.filter_congr fun k hk => ?_
  rw [← Bool.decide_or]
  refine decide_eq_decide.mpr ?_
  rw [List.mem_append]
  have := mem_nums.mp hk
  constructor
  · rintro (h | h)
    · exact .inl (of_decide_eq_true (List.mem_filter.mp h).2)
    · exact .inr (of_decide_eq_true (List.mem_filter.mp h).2)
  · rintro (h | h)
    · exact .inl (List.mem_filter.mpr ⟨hk, decide_eq_true h⟩)
    · exact .inr (List.mem_filter.mpr ⟨hk, decide_eq_true h⟩)
theorem in_lot {n k : Int} {xs ys : List Int} (h : k ∈ lotL n xs) : decide (k ∈ lotL n ys) = decide (k ∈ ys) := by
  refine decide_eq_decide.mpr ?_
  rw [mem_lotL]
  exact ⟨fun q => q.2, fun q => ⟨(mem_lotL.mp h).1, q⟩⟩
theorem common_go {n : Int} {xs ys : List Int} (n0 : 0 ≤ n) (n10 : n ≤ 10) (hx : Fit n xs) (hy : Fit n ys) : common n xs ys = .ok ((lotL n xs).filter fun k => decide (k ∈ ys)) := by
  unfold common
  rw [onTwo_go n0 n10 hx hy]
  exact congrArg Except.ok (List.filter_congr fun k hk => in_lot hk)
theorem without_go {n : Int} {xs ys : List Int} (n0 : 0 ≤ n) (n10 : n ≤ 10) (hx : Fit n xs) (hy : Fit n ys) : without n xs ys = .ok ((lotL n xs).filter fun k => !decide (k ∈ ys)) := by
  unfold without
  rw [onTwo_go n0 n10 hx hy]
  exact congrArg Except.ok (List.filter_congr fun k hk => by rw [in_lot hk])
theorem given_nums (n : Int) (p : Int → Bool) : given n.toNat (fun i => p (i : Int)) (fun i => V.int (i : Int)) = ((nums n).filter p).map V.int := by
  unfold given nums
  rw [List.filter_map, List.map_map]
  rfl
def Cost (n : Int) (cs : List Int) : Prop := (cs.length : Int) = n ∧ ∀ k ∈ cs, -1000000 ≤ k ∧ k ≤ 1000000
theorem lookNumbers_go {lo hi : Int} : ∀ {ns : List Int}, (∀ k ∈ ns, lo ≤ k ∧ k ≤ hi) → lookNumbers lo hi ns = .ok ()
  | [], _ => rfl
  | z :: r, h => by
    have hz := h z List.mem_cons_self
    unfold lookNumbers out
    rw [if_neg (by simp; omega)]
    exact lookNumbers_go fun k hk => h k (List.mem_cons_of_mem _ hk)
theorem lookCosts_go {n : Int} {cs : List Int} (h : Cost n cs) : lookCosts n cs = .ok () := by
  have := h.1
  unfold lookCosts
  rw [lookSize_go (by omega)]
  exact lookNumbers_go h.2
theorem costOf_go {n : Int} {cs ns : List Int} (n0 : 0 ≤ n) (n10 : n ≤ 10) (hc : Cost n cs) (h : Fit n ns) : costOf n cs ns = .ok (costSum cs (lotL n ns)) := by
  unfold costOf
  rw [lookThings_go n0 n10]
  simp only
  rw [lookCosts_go hc]
  simp only
  rw [lookLot_go h]
/-- the law's own sum -/
def dueTo (cs ns : List Int) (i : Nat) : Int := ((List.range i).map fun (k : Nat) => if (k : Int) ∈ ns then cs.getD k 0 else 0).sum
theorem dueTo_succ (cs ns : List Int) (i : Nat) : dueTo cs ns (i + 1) = dueTo cs ns i + if (i : Int) ∈ ns then cs.getD i 0 else 0 := by
  unfold dueTo
  rw [List.range_succ, List.map_append, List.sum_append]
  simp
theorem sum_filter {p : Int → Bool} {f : Int → Int} : ∀ l : List Int, ((l.filter p).map f).sum = (l.map fun k => if p k = true then f k else 0).sum
  | [] => rfl
  | z :: r => by
    rw [List.filter_cons]
    by_cases h : p z = true
    · rw [if_pos h, List.map_cons, List.map_cons, List.sum_cons, List.sum_cons, sum_filter r, if_pos h]
    · rw [if_neg h, List.map_cons, List.sum_cons, sum_filter r, if_neg h]
      omega
theorem dueTo_all (cs ns : List Int) (n : Int) : dueTo cs ns n.toNat = costSum cs (lotL n ns) := by
  unfold dueTo costSum lotL
  rw [sum_filter]
  unfold nums
  rw [List.map_map]
  refine congrArg List.sum (List.map_congr_left fun k _ => ?_)
  simp
theorem shaped3 (a b c : List Int) : SeqAt.shaped (.tuple [.list (a.map PyData.int), .list (b.map PyData.int), .list (c.map PyData.int)]) = true := by
  simp [SeqAt.shaped, PyData.canLay0, PyData.canLayAll0, PyData.depth, PyData.depthAll, lay_ints, dep_ints]
theorem eqv3 (a b c : List Int) : PyData.eqv (.tuple [.list (a.map PyData.int), .list (b.map PyData.int), .list (c.map PyData.int)]) (.tuple [.list (a.map PyData.int), .list (b.map PyData.int), .list (c.map PyData.int)]) = true := by
  simp [PyData.eqv, PyData.eqvAll, eqv_ints]
end K3
namespace K3
open PySem PySem.Spec PyProof.Rows L2 Evl Nd
/-! ### calls that are refused -/
theorem lookThings_bad {n : Int} (h : n < 0 ∨ 10 < n) : lookThings n = .error (.num n) := by
  unfold lookThings lookNumber out
  rw [if_pos]
  simp
  omega
theorem lookSize_bad {c lo hi : Int} (h : c < lo ∨ hi < c) : lookSize c lo hi = .error (.size c) := by
  unfold lookSize out
  rw [if_pos]
  simp
  omega
theorem lookEach_bad {n z : Int} (hz : z < 0 ∨ n ≤ z) {post : List Int} : ∀ {pre : List Int}, (∀ k ∈ pre, 0 ≤ k ∧ k < n) → lookEach n (pre ++ z :: post) = .error (.thing z)
  | [], _ => by
    show lookEach n (z :: post) = _
    unfold lookEach lookThing
    rw [if_pos (by simp; omega)]
  | y :: r, h => by
    have hy := h y List.mem_cons_self
    show lookEach n (y :: (r ++ z :: post)) = _
    unfold lookEach lookThing
    rw [if_neg (by simp; omega)]
    exact lookEach_bad hz fun k hk => h k (List.mem_cons_of_mem _ hk)
theorem lookLot_thing {n z : Int} {pre post : List Int} (hz : z < 0 ∨ n ≤ z) (h : ∀ k ∈ pre, 0 ≤ k ∧ k < n) (hl : (pre ++ z :: post).length ≤ 60) : lookLot n (pre ++ z :: post) = .error (.thing z) := by
  unfold lookLot
  rw [lookSize_go (by omega)]
  simp only
  rw [lookEach_bad hz h]
theorem lookLot_size {n : Int} {ns : List Int} (h : 60 < ns.length) : lookLot n ns = .error (.size ns.length) := by
  unfold lookLot
  rw [lookSize_bad (by omega)]
theorem lotOf_things {n : Int} {ns : List Int} (h : n < 0 ∨ 10 < n) : lotOf n ns = .error (.num n) := by
  unfold lotOf
  rw [lookThings_bad h]
theorem lotOf_bad {n : Int} {ns : List Int} {r : Er} (n0 : 0 ≤ n) (n10 : n ≤ 10) (h : lookLot n ns = .error r) : lotOf n ns = .error r := by
  unfold lotOf
  rw [lookThings_go n0 n10]
  exact h
section
variable {f : List Int → List Int → List Int} {n : Int} {xs ys cs : List Int} {r : Er}
theorem onTwo_things (h : n < 0 ∨ 10 < n) : onTwo f n xs ys = .error (.num n) := by
  unfold onTwo lookTwo
  rw [lookThings_bad h]
theorem onTwo_first (n0 : 0 ≤ n) (n10 : n ≤ 10) (h : lookLot n xs = .error r) : onTwo f n xs ys = .error r := by
  unfold onTwo lookTwo
  rw [lookThings_go n0 n10]
  simp only
  rw [h]
theorem onTwo_second (n0 : 0 ≤ n) (n10 : n ≤ 10) (hx : Fit n xs) (h : lookLot n ys = .error r) : onTwo f n xs ys = .error r := by
  unfold onTwo lookTwo
  rw [lookThings_go n0 n10]
  simp only
  rw [lookLot_go hx]
  simp only
  rw [h]
theorem costOf_things (h : n < 0 ∨ 10 < n) : costOf n cs xs = .error (.num n) := by
  unfold costOf
  rw [lookThings_bad h]
theorem costOf_costs (n0 : 0 ≤ n) (n10 : n ≤ 10) (h : lookCosts n cs = .error r) : costOf n cs xs = .error r := by
  unfold costOf
  rw [lookThings_go n0 n10]
  simp only
  rw [h]
theorem costOf_lot (n0 : 0 ≤ n) (n10 : n ≤ 10) (hc : Cost n cs) (h : lookLot n xs = .error r) : costOf n cs xs = .error r := by
  unfold costOf
  rw [lookThings_go n0 n10]
  simp only
  rw [lookCosts_go hc]
  simp only
  rw [h]
theorem lookCosts_size (h : ¬ (cs.length : Int) = n) : lookCosts n cs = .error (.size cs.length) := by
  unfold lookCosts
  rw [lookSize_bad (by omega)]
theorem lookNumbers_bad {lo hi z : Int} (hz : z < lo ∨ hi < z) {post : List Int} : ∀ {pre : List Int}, (∀ k ∈ pre, lo ≤ k ∧ k ≤ hi) → lookNumbers lo hi (pre ++ z :: post) = .error (.num z)
  | [], _ => by
    show lookNumbers lo hi (z :: post) = _
    unfold lookNumbers out
    rw [if_pos (by simp; omega)]
  | y :: r, h => by
    have hy := h y List.mem_cons_self
    show lookNumbers lo hi (y :: (r ++ z :: post)) = _
    unfold lookNumbers out
    rw [if_neg (by simp; omega)]
    exact lookNumbers_bad hz fun k hk => h k (List.mem_cons_of_mem _ hk)
theorem lookCosts_number {z : Int} {pre post : List Int} (hl : ((pre ++ z :: post).length : Int) = n) (hz : z < -1000000 ∨ 1000000 < z) (h : ∀ k ∈ pre, -1000000 ≤ k ∧ k ≤ 1000000) : lookCosts n (pre ++ z :: post) = .error (.num z) := by
  unfold lookCosts
  rw [lookSize_go (by omega)]
  exact lookNumbers_bad hz h
end
end K3
namespace K3
open PySem PySem.Spec PyProof.Rows L2 Evl Nd
def topS (i : Nat) : Stmt := PySem.Challenge.pw_nodearer_k03_lots.main.body.getD i (.Pass ⟨0, 0, 0, 0⟩)
abbrev s_lots_of_size : Stmt := topS 1
theorem sc_lots_of_size : FnScope ["things", "size", "lots", "_", "lot", "thing"] ["things", "size"] (defScope s_lots_of_size) := ⟨rfl, rfl, rfl, by decide +kernel, rfl, by decide +kernel, by decide +kernel⟩
abbrev s__least_next : Stmt := topS 2
theorem sc__least_next : FnScope ["lot"] ["lot"] (defScope s__least_next) := ⟨rfl, rfl, rfl, by decide +kernel, rfl, by decide +kernel, by decide +kernel⟩
abbrev s_look_size : Stmt := topS 12
theorem sc_look_size : FnScope ["count", "least", "most"] ["count", "least", "most"] (defScope s_look_size) := ⟨rfl, rfl, rfl, by decide +kernel, rfl, by decide +kernel, by decide +kernel⟩
abbrev s_look_number : Stmt := topS 13
theorem sc_look_number : FnScope ["number", "least", "most"] ["number", "least", "most"] (defScope s_look_number) := ⟨rfl, rfl, rfl, by decide +kernel, rfl, by decide +kernel, by decide +kernel⟩
abbrev s_look_numbers : Stmt := topS 14
theorem sc_look_numbers : FnScope ["numbers", "least", "most", "number"] ["numbers", "least", "most"] (defScope s_look_numbers) := ⟨rfl, rfl, rfl, by decide +kernel, rfl, by decide +kernel, by decide +kernel⟩
abbrev s_look_things : Stmt := topS 15
theorem sc_look_things : FnScope ["things"] ["things"] (defScope s_look_things) := ⟨rfl, rfl, rfl, by decide +kernel, rfl, by decide +kernel, by decide +kernel⟩
abbrev s_look_thing : Stmt := topS 16
theorem sc_look_thing : FnScope ["things", "thing"] ["things", "thing"] (defScope s_look_thing) := ⟨rfl, rfl, rfl, by decide +kernel, rfl, by decide +kernel, by decide +kernel⟩
abbrev s_look_lot : Stmt := topS 17
theorem sc_look_lot : FnScope ["things", "entries", "thing"] ["things", "entries"] (defScope s_look_lot) := ⟨rfl, rfl, rfl, by decide +kernel, rfl, by decide +kernel, by decide +kernel⟩
abbrev s_look_costs : Stmt := topS 18
theorem sc_look_costs : FnScope ["things", "costs"] ["things", "costs"] (defScope s_look_costs) := ⟨rfl, rfl, rfl, by decide +kernel, rfl, by decide +kernel, by decide +kernel⟩
abbrev s_lot_of : Stmt := topS 20
theorem sc_lot_of : FnScope ["things", "entries"] ["things", "entries"] (defScope s_lot_of) := ⟨rfl, rfl, rfl, by decide +kernel, rfl, by decide +kernel, by decide +kernel⟩
abbrev s_all_lots : Stmt := topS 21
theorem sc_all_lots : FnScope ["things", "size", "lot"] ["things"] (defScope s_all_lots) := ⟨rfl, rfl, rfl, by decide +kernel, rfl, by decide +kernel, by decide +kernel⟩
abbrev s_joined : Stmt := topS 22
theorem sc_joined : FnScope ["things", "first", "second", "one", "two"] ["things", "first", "second"] (defScope s_joined) := ⟨rfl, rfl, rfl, by decide +kernel, rfl, by decide +kernel, by decide +kernel⟩
abbrev s_common : Stmt := topS 23
theorem sc_common : FnScope ["things", "first", "second", "one", "two", "thing"] ["things", "first", "second"] (defScope s_common) := ⟨rfl, rfl, rfl, by decide +kernel, rfl, by decide +kernel, by decide +kernel⟩
abbrev s_without : Stmt := topS 24
theorem sc_without : FnScope ["things", "first", "second", "one", "two", "thing"] ["things", "first", "second"] (defScope s_without) := ⟨rfl, rfl, rfl, by decide +kernel, rfl, by decide +kernel, by decide +kernel⟩
abbrev s_cost_of : Stmt := topS 25
theorem sc_cost_of : FnScope ["things", "costs", "lot"] ["things", "costs", "lot"] (defScope s_cost_of) := ⟨rfl, rfl, rfl, by decide +kernel, rfl, by decide +kernel, by decide +kernel⟩
abbrev s_sum_of_costs : Stmt := topS 26
theorem sc_sum_of_costs : FnScope ["costs", "lot", "thing"] ["costs", "lot"] (defScope s_sum_of_costs) := ⟨rfl, rfl, rfl, by decide +kernel, rfl, by decide +kernel, by decide +kernel⟩
abbrev s__look_two : Stmt := topS 27
theorem sc__look_two : FnScope ["things", "first", "second"] ["things", "first", "second"] (defScope s__look_two) := ⟨rfl, rfl, rfl, by decide +kernel, rfl, by decide +kernel, by decide +kernel⟩
abbrev s__law_tape : Stmt := topS 29
theorem sc__law_tape : FnScope ["script", "digits", "cell", "rest", "k"] ["script"] (defScope s__law_tape) := ⟨rfl, rfl, rfl, by decide +kernel, rfl, by decide +kernel, by decide +kernel⟩
abbrev s__law_take : Stmt := topS 30
theorem sc__law_take : FnScope ["tape", "many", "salt", "digit"] ["tape", "many", "salt"] (defScope s__law_take) := ⟨rfl, rfl, rfl, by decide +kernel, rfl, by decide +kernel, by decide +kernel⟩
abbrev s__law_int : Stmt := topS 31
theorem sc__law_int : FnScope ["told"] ["told"] (defScope s__law_int) := ⟨rfl, rfl, rfl, by decide +kernel, rfl, by decide +kernel, by decide +kernel⟩
abbrev s__law_entries : Stmt := topS 32
theorem sc__law_entries : FnScope ["tape", "things", "salt", "many", "entries", "k"] ["tape", "things", "salt"] (defScope s__law_entries) := ⟨rfl, rfl, rfl, by decide +kernel, rfl, by decide +kernel, by decide +kernel⟩
abbrev s__law_no_thing : Stmt := topS 33
theorem sc__law_no_thing : FnScope ["tape", "things", "salt", "kind", "step"] ["tape", "things", "salt"] (defScope s__law_no_thing) := ⟨rfl, rfl, rfl, by decide +kernel, rfl, by decide +kernel, by decide +kernel⟩
abbrev s__law_told : Stmt := topS 34
theorem sc__law_told : FnScope ["name", "things", "one", "other", "told", "e", "f", "g"] ["name", "things", "one", "other"] (defScope s__law_told) := ⟨rfl, rfl, rfl, by decide +kernel, rfl, by decide +kernel, by decide +kernel⟩
abbrev s__law_is_lot : Stmt := topS 35
theorem sc__law_is_lot : FnScope ["told", "due", "k"] ["told", "due"] (defScope s__law_is_lot) := ⟨rfl, rfl, rfl, by decide +kernel, rfl, by decide +kernel, by decide +kernel⟩
abbrev s__law_ascending : Stmt := topS 36
theorem sc__law_ascending : FnScope ["told", "things", "least", "thing"] ["told", "things"] (defScope s__law_ascending) := ⟨rfl, rfl, rfl, by decide +kernel, rfl, by decide +kernel, by decide +kernel⟩
abbrev s__law_all_lots : Stmt := topS 37
theorem sc__law_all_lots : FnScope ["things", "turn", "told", "before", "k", "lot"] ["things"] (defScope s__law_all_lots) := ⟨rfl, rfl, rfl, by decide +kernel, rfl, by decide +kernel, by decide +kernel⟩
abbrev s__law_lots : Stmt := topS 38
theorem sc__law_lots : FnScope ["things", "one", "other", "first", "due", "k"] ["things", "one", "other"] (defScope s__law_lots) := ⟨rfl, rfl, rfl, by decide +kernel, rfl, by decide +kernel, by decide +kernel⟩
abbrev s__law_cost : Stmt := topS 39
theorem sc__law_cost : FnScope ["things", "costs", "one", "due", "thing", "told"] ["things", "costs", "one"] (defScope s__law_cost) := ⟨rfl, rfl, rfl, by decide +kernel, rfl, by decide +kernel, by decide +kernel⟩
abbrev s__law_good : Stmt := topS 40
theorem sc__law_good : FnScope ["things", "costs", "one", "other", "kept"] ["things", "costs", "one", "other"] (defScope s__law_good) := ⟨rfl, rfl, rfl, by decide +kernel, rfl, by decide +kernel, by decide +kernel⟩
abbrev s__law_all_refused : Stmt := topS 41
theorem sc__law_all_refused : FnScope ["cases", "name", "things", "one", "other", "due", "told"] ["cases"] (defScope s__law_all_refused) := ⟨rfl, rfl, rfl, by decide +kernel, rfl, by decide +kernel, by decide +kernel⟩
abbrev s__law_bad_lots : Stmt := topS 42
theorem sc__law_bad_lots : FnScope ["tape", "things", "one", "odd", "at", "wrong", "many", "step", "far", "cases", "name", "kept"] ["tape", "things", "one"] (defScope s__law_bad_lots) := ⟨rfl, rfl, rfl, by decide +kernel, rfl, by decide +kernel, by decide +kernel⟩
abbrev s__law_bad_costs : Stmt := topS 43
theorem sc__law_bad_costs : FnScope ["tape", "things", "costs", "one", "odd", "step", "far", "at", "more", "cases", "less", "wrong", "kept", "cost"] ["tape", "things", "costs", "one"] (defScope s__law_bad_costs) := ⟨rfl, rfl, rfl, by decide +kernel, rfl, by decide +kernel, by decide +kernel⟩
abbrev s_law : Stmt := topS 44
theorem sc_law : FnScope ["script", "tape", "things", "one", "other", "costs", "extreme", "k"] ["script"] (defScope s_law) := ⟨rfl, rfl, rfl, by decide +kernel, rfl, by decide +kernel, by decide +kernel⟩
structure GlobC (mg : Str → Option Value) (x : Str) (C : Addr) : Prop where
  g : mg x = some (.ref C)
/-- what the top has left -/
structure Tx (P : Program) (w : World) (K : PySem.W.Frag) (mg : Str → Option Value) (base : Heap) (CNodearerError CSizeError CNumberError CThingError : Addr) : Prop where
  z_len : mg "len" = none
  z_sum : mg "sum" = none
  z_min : mg "min" = none
  z_max : mg "max" = none
  z_abs : mg "abs" = none
  z_isinstance : mg "isinstance" = none
  z_sorted : mg "sorted" = none
  z_tuple : mg "tuple" = none
  z_list : mg "list" = none
  z_set : mg "set" = none
  z_int : mg "int" = none
  z_bool : mg "bool" = none
  z_range : mg "range" = none
  z_ValueError : mg "ValueError" = none
  c__MOST_THINGS : ∃ u, mg "_MOST_THINGS" = some u ∧ RelV (.int 10) u
  c__MOST_ENTRIES : ∃ u, mg "_MOST_ENTRIES" = some u ∧ RelV (.int 60) u
  c_MOST_COST : ∃ u, mg "MOST_COST" = some u ∧ RelV (.int 1000000) u
  e_NodearerError : GlobC mg "NodearerError" CNodearerError
  e_SizeError : ErrT P w K mg base "SizeError" "count" CSizeError
  e_NumberError : ErrT P w K mg base "NumberError" "number" CNumberError
  e_ThingError : ErrT P w K mg base "ThingError" "thing" CThingError
  xSS : PySem.W.exmOne K (.ref CSizeError) (.ref CSizeError) = some true
  xTS : PySem.W.exmOne K (.ref CThingError) (.ref CSizeError) = some false
  xTT : PySem.W.exmOne K (.ref CThingError) (.ref CThingError) = some true
  xNS : PySem.W.exmOne K (.ref CNumberError) (.ref CSizeError) = some false
  xNT : PySem.W.exmOne K (.ref CNumberError) (.ref CThingError) = some false
  xNN : PySem.W.exmOne K (.ref CNumberError) (.ref CNumberError) = some true
  kSO : PySem.W.kitOne K (.ref CSizeError) (.ref CNodearerError) = some true
  kTO : PySem.W.kitOne K (.ref CThingError) (.ref CNodearerError) = some true
  kNO : PySem.W.kitOne K (.ref CNumberError) (.ref CNodearerError) = some true
  kSN : PySem.W.kitOne K (.ref CSizeError) (.ref CNumberError) = some false
  kST : PySem.W.kitOne K (.ref CSizeError) (.ref CThingError) = some false
  kTN : PySem.W.kitOne K (.ref CThingError) (.ref CNumberError) = some false
  kNV : PySem.W.kitOne K (.ref CNumberError) (.type "ValueError") = some true
end K3
namespace K3
open PySem PySem.Spec PyProof.Rows L2 Evl Nd
local macro_rules | `(tactic| walk_at "ev") => `(tactic| first
  | exact ev_var rfl
  | exact ev_c
  | (apply ev_op; (walk_at "ev"); (walk_at "ev"); (walk_at "rv"))
  | (apply ev_un; (walk_at "ev"); (walk_at "rv"))
  | (apply ev_lenS; (walk_at "ev"); (walk_at "sq"))
  | (apply ev_andV; (walk_at "ev"); (intro _; walk_at "ev"))
  | (apply ev_orV; (walk_at "ev"); (intro _; walk_at "ev"))
  | (apply ev_notV; (walk_at "ev")))
local macro_rules | `(tactic| walk_at "rv") => `(tactic| first
  | exact rv_I0
  | exact ru_neg
  | exact rv_eq rfl
  | exact rv_ne rfl
  | exact rv_I (by decide)
  | exact rv_I (by first | omega | exact .inl (by omega) | exact .inr (by omega) | (constructor <;> omega)))
local macro_rules | `(tactic| walk_at "sq") => `(tactic| first
  | assumption
  | exact SqS.lst (by assumption)
  | exact SqS.tup (by assumption)
  | exact Or.inl (by assumption)
  | exact Or.inr (by assumption)
  | (refine SqS.mono (by assumption) ?_; walk_at "sq"))
local macro_rules | `(tactic| walk_at "et") => `(tactic| first
  | (apply et_or; (walk_at "et"); (intro _; walk_at "et"))
  | (apply et_and; (walk_at "et"); (intro _; walk_at "et"))
  | (apply et_not; (walk_at "et"))
  | (apply et_test; (walk_at "ev"))
  | (apply et_B; (walk_at "ev")))
local macro_rules | `(tactic| walk_at "ea") => `(tactic| first
  | exact ea_nil
  | (apply ea_cons; (walk_at "ev"); (walk_at "ea")))
section
variable {P : Program} {w : World} {K : PySem.W.Frag} {mg : Str → Option Value} {base : Heap} {CO CS CN CT : Addr}
/-! ### looks -/
def spLookSize (c : Cs) : Sp := fun vs H Q E => ∃ z lo hi : Int, vs = [.int z, .int lo, .int hi] ∧ Res c (lookSize z lo hi) (fun _ => RetV .non H Q) H E
def spLookNumber (c : Cs) : Sp := fun vs H Q E => ∃ z lo hi : Int, vs = [.int z, .int lo, .int hi] ∧ Res c (lookNumber z lo hi) (fun _ => RetV .non H Q) H E
def spLookThings (c : Cs) : Sp := fun vs H Q E => ∃ n : Int, vs = [.int n] ∧ Res c (lookThings n) (fun _ => RetV .non H Q) H E
def spLookThing (c : Cs) : Sp := fun vs H Q E => ∃ n z : Int, vs = [.int n, .int z] ∧ Res c (lookThing n z) (fun _ => RetV .non H Q) H E
def spLookNumbers (K : PySem.W.Frag) (c : Cs) : Sp := fun vs H Q E => ∃ (a : Addr) (ns : List Int) (lo hi : Int), vs = [.ref a, .int lo, .int hi] ∧ SqS K H a (ns.map V.int) ∧ Res c (lookNumbers lo hi ns) (fun _ => RetV .non H Q) H E
def spLookLot (K : PySem.W.Frag) (c : Cs) : Sp := fun vs H Q E => ∃ (a : Addr) (ns : List Int) (n : Int), vs = [.int n, .ref a] ∧ SqS K H a (ns.map V.int) ∧ n ≤ 10 ∧ Res c (lookLot n ns) (fun l => RetU (l.map V.int) H Q) H E
def spLookCosts (K : PySem.W.Frag) (c : Cs) : Sp := fun vs H Q E => ∃ (a : Addr) (ns : List Int) (n : Int), vs = [.int n, .ref a] ∧ SqS K H a (ns.map V.int) ∧ Res c (lookCosts n ns) (fun _ => RetV .non H Q) H E
theorem has_look_size (T : Tx P w K mg base CO CS CN CT) (D : DefAt K mg "look_size" s_look_size ["count", "least", "most"]) : Has P w K mg base 3 "look_size" ["count", "least", "most"] (spLookSize ⟨CS, CN, CT⟩) := by
  refine D.has sc_look_size (fun vs H Q E h => ?len) (fun f cdv A outer s H vs Q E hr h => ?body)
  case len =>
    obtain ⟨_, _, _, rfl, _⟩ := h
    rfl
  case body =>
    have tk : Takes (cxOf (L2.CX P w) P w K mg base ["count", "least", "most"] "look_size" (defScope s_look_size) f cdv A outer s H E) (fun cls d _ H => E cls d H) := takes_of rfl rfl rfl rfl
    obtain ⟨c, lo, hi, rfl, h⟩ := h
    refine ⟨_, (pss_one (ps_if (PW.pt (pw_or (pt_cmpR op_lt (pv 0) (pv 1) (nomark _)) (pw_or1 (pt_cmpR op_gt (pv 0) (pv 2) (nomark _))))) (pss_one (ps_err1 rfl T.e_SizeError (hr.mono (by decide)) tk (pa_cons (pv 0) pa_nil))) pss_nil)), ?_⟩
    refine' s_when ?h (fun hb H1 e => ?a) (fun hb H1 e => ?b)
    case h => walk_at "et"
    case a => exact ⟨_, rfl, _, rfl, Err.mono (Res.err (e := .size c) (if_pos hb) h) e⟩
    case b => exact (Res.fine (a := ()) (if_neg (by rw [show out lo hi c = false from hb]; decide)) h).go e
theorem has_look_number (T : Tx P w K mg base CO CS CN CT) (D : DefAt K mg "look_number" s_look_number ["number", "least", "most"]) : Has P w K mg base 3 "look_number" ["number", "least", "most"] (spLookNumber ⟨CS, CN, CT⟩) := by
  refine D.has sc_look_number (fun vs H Q E h => ?len) (fun f cdv A outer s H vs Q E hr h => ?body)
  case len =>
    obtain ⟨_, _, _, rfl, _⟩ := h
    rfl
  case body =>
    have tk : Takes (cxOf (L2.CX P w) P w K mg base ["number", "least", "most"] "look_number" (defScope s_look_number) f cdv A outer s H E) (fun cls d _ H => E cls d H) := takes_of rfl rfl rfl rfl
    obtain ⟨c, lo, hi, rfl, h⟩ := h
    refine ⟨_, (pss_one (ps_if (PW.pt (pw_or (pt_cmpR op_lt (pv 0) (pv 1) (nomark _)) (pw_or1 (pt_cmpR op_gt (pv 0) (pv 2) (nomark _))))) (pss_one (ps_err1 rfl T.e_NumberError (hr.mono (by decide)) tk (pa_cons (pv 0) pa_nil))) pss_nil)), ?_⟩
    refine' s_when ?h (fun hb H1 e => ?a) (fun hb H1 e => ?b)
    case h => walk_at "et"
    case a => exact ⟨_, rfl, _, rfl, Err.mono (Res.err (e := .num c) (if_pos hb) h) e⟩
    case b => exact (Res.fine (a := ()) (if_neg (by rw [show out lo hi c = false from hb]; decide)) h).go e
theorem has_look_thing (T : Tx P w K mg base CO CS CN CT) (D : DefAt K mg "look_thing" s_look_thing ["things", "thing"]) : Has P w K mg base 3 "look_thing" ["things", "thing"] (spLookThing ⟨CS, CN, CT⟩) := by
  refine D.has sc_look_thing (fun vs H Q E h => ?len) (fun f cdv A outer s H vs Q E hr h => ?body)
  case len =>
    obtain ⟨_, _, rfl, _⟩ := h
    rfl
  case body =>
    have tk : Takes (cxOf (L2.CX P w) P w K mg base ["things", "thing"] "look_thing" (defScope s_look_thing) f cdv A outer s H E) (fun cls d _ H => E cls d H) := takes_of rfl rfl rfl rfl
    obtain ⟨n, z, rfl, h⟩ := h
    refine ⟨_, (pss_one (ps_if (PW.pt (pw_or (pt_cmpR op_lt (pv 1) pe_int (nomark _)) (pw_or1 (pt_cmpR op_ge (pv 1) (pv 0) (nomark _))))) (pss_one (ps_err1 rfl T.e_ThingError (hr.mono (by decide)) tk (pa_cons (pv 1) pa_nil))) pss_nil)), ?_⟩
    refine' s_when ?h (fun hb H1 e => ?a) (fun hb H1 e => ?b)
    case h => walk_at "et"
    case a => exact ⟨_, rfl, _, rfl, Err.mono (Res.err (e := .thing z) (if_pos hb) h) e⟩
    case b => exact (Res.fine (a := ()) (if_neg (by rw [hb]; decide)) h).go e
theorem has_look_things (T : Tx P w K mg base CO CS CN CT) (h_look_number : Has P w K mg base 3 "look_number" ["number", "least", "most"] (spLookNumber ⟨CS, CN, CT⟩)) (D : DefAt K mg "look_things" s_look_things ["things"]) : Has P w K mg base 4 "look_things" ["things"] (spLookThings ⟨CS, CN, CT⟩) := by
  refine D.has sc_look_things (fun vs H Q E h => ?len) (fun f cdv A outer s H vs Q E hr h => ?body)
  case len =>
    obtain ⟨_, rfl, _⟩ := h
    rfl
  case body =>
    have tk : Takes (cxOf (L2.CX P w) P w K mg base ["things"] "look_things" (defScope s_look_things) f cdv A outer s H E) (fun cls d _ H => E cls d H) := takes_of rfl rfl rfl rfl
    obtain ⟨n, rfl, h⟩ := h
    refine ⟨_, (pss_one (ps_expr (pe_hasR h_look_number (hr.mono (by decide)) tk (pa_cons (pv 0) (pa_cons pe_int (pa_cons (pe_cst T.c__MOST_THINGS) pa_nil)))))), ?_⟩
    refine ⟨_, rfl, n, 0, 10, rfl, ?_⟩
    exact h
theorem has_look_numbers (T : Tx P w K mg base CO CS CN CT) (h_look_number : Has P w K mg base 3 "look_number" ["number", "least", "most"] (spLookNumber ⟨CS, CN, CT⟩)) (D : DefAt K mg "look_numbers" s_look_numbers ["numbers", "least", "most"]) : Has P w K mg base 4 "look_numbers" ["numbers", "least", "most"] (spLookNumbers K ⟨CS, CN, CT⟩) := by
  refine D.has sc_look_numbers (fun vs H Q E h => ?len) (fun f cdv A outer s H vs Q E hr h => ?body)
  case len =>
    obtain ⟨_, _, _, _, rfl, _, _⟩ := h
    rfl
  case body =>
    have tk : Takes (cxOf (L2.CX P w) P w K mg base ["numbers", "least", "most", "number"] "look_numbers" (defScope s_look_numbers) f cdv A outer s H E) (fun cls d _ H => E cls d H) := takes_of rfl rfl rfl rfl
    obtain ⟨a, ns, lo, hi, rfl, hS, h⟩ := h
    refine ⟨_, (pss_one (ps_for (passes_of rfl) rfl (pi_seq (pv 0)) (pg_name (i := 3) sc_look_numbers.nd rfl (.inl rfl)) (pss_one (ps_expr (pe_hasR h_look_number (hr.mono (by decide)) tk (pa_cons (pv 3) (pa_cons (pv 1) (pa_cons (pv 2) pa_nil)))))))), ?_⟩
    refine s_forS (a := a) (ev_var rfl) hS (fun i σ' H' => (∃ v, σ' = [some (.ref a), some (.int lo), some (.int hi), v]) ∧ Ex H H' ∧ lookNumbers lo hi ns = lookNumbers lo hi (ns.drop i)) (fun H1 e => ⟨⟨none, rfl⟩, e, rfl⟩) (fun i σ' H' _ p => p.2.1) ?turn ?fin
    case turn =>
      rintro i x σ' H' hx ⟨⟨v, rfl⟩, e, eq⟩
      obtain ⟨z, rfl, _, hd⟩ := map_at hx
      rw [hd, lookNumbers_cons] at eq
      refine ⟨_, rfl, _, rfl, _, rfl, z, lo, hi, rfl, Res.of (fun r hr1 => ?_) fun _ hr1 => ?_⟩
      · rw [hr1] at eq
        exact Er.mono e (Res.err eq h)
      · rw [hr1] at eq
        exact fun H2 e2 => ⟨⟨_, rfl⟩, e.trans e2, eq⟩
    case fin =>
      rintro σ' H' ⟨_, e, eq⟩
      rw [List.length_map, List.drop_length] at eq
      exact Res.fine eq h H' e
theorem has_look_lot (T : Tx P w K mg base CO CS CN CT) (h_look_size : Has P w K mg base 3 "look_size" ["count", "least", "most"] (spLookSize ⟨CS, CN, CT⟩)) (h_look_thing : Has P w K mg base 3 "look_thing" ["things", "thing"] (spLookThing ⟨CS, CN, CT⟩)) (D : DefAt K mg "look_lot" s_look_lot ["things", "entries"]) : Has P w K mg base 4 "look_lot" ["things", "entries"] (spLookLot K ⟨CS, CN, CT⟩) := by
  refine D.has sc_look_lot (fun vs H Q E h => ?len) (fun f cdv A outer s H vs Q E hr h => ?body)
  case len =>
    obtain ⟨_, _, _, rfl, _, _, _⟩ := h
    rfl
  case body =>
    have tk : Takes (cxOf (L2.CX P w) P w K mg base ["things", "entries", "thing"] "look_lot" (defScope s_look_lot) f cdv A outer s H E) (fun cls d _ H => E cls d H) := takes_of rfl rfl rfl rfl
    obtain ⟨a, ns, n, rfl, hS, hn, h⟩ := h
    refine ⟨_, (pss_cons (ps_expr (pe_hasR h_look_size (hr.mono (by decide)) tk (pa_cons (pe_callB call_len_seq (by rfl) T.z_len (by decide +kernel) (pa_cons (pv 1) pa_nil)) (pa_cons pe_int (pa_cons (pe_cst T.c__MOST_ENTRIES) pa_nil)))))
      (pss_cons (ps_for (passes_of rfl) rfl (pi_seq (pv 1)) (pg_name (i := 2) sc_look_lot.nd rfl (.inl rfl)) (pss_one (ps_expr (pe_hasR h_look_thing (hr.mono (by decide)) tk (pa_cons (pv 0) (pa_cons (pv 2) pa_nil))))))
      (pss_one (ps_ret (pe_callTy call_tuple_of (by rfl) T.z_tuple (by decide +kernel) (pa_cons (pe_callB (cr_sortedSet rfl) (by rfl) T.z_sorted (by decide +kernel) (pa_cons (pe_callTy (cr_setL rfl) (by rfl) T.z_set (by decide +kernel) (pa_cons (pv 1) pa_nil)) pa_nil)) pa_nil)))))), ?_⟩
    -- the number of entries
    refine ⟨_, rfl, a, _, rfl, hS, _, 0, 60, rfl, ?_⟩
    rw [List.length_map]
    refine Res.of (fun r e1 => ?_) fun u e1 => ?_
    · exact Res.err (by unfold lookLot; rw [e1]) h
    have h60 := lookSize_ok e1
    refine fun H1 x1 => ?_
    -- each entry
    refine q_forS (a := a) (H := H1) (ev_var rfl) (hS.mono x1) (fun i σ' H' => (∃ v, σ' = [some (.int n), some (.ref a), v]) ∧ Ex H1 H' ∧ lookEach n ns = lookEach n (ns.drop i)) (fun H2 e => ⟨⟨none, rfl⟩, e, rfl⟩) (fun i σ' H' _ p => p.2.1) ?turn ?fin
    case turn =>
      rintro i x σ' H' hx ⟨⟨v, rfl⟩, e, eq⟩
      obtain ⟨z, rfl, _, hd⟩ := map_at hx
      rw [hd, lookEach] at eq
      refine ⟨_, rfl, _, rfl, n, z, rfl, Res.of (fun r hr1 => ?_) fun _ hr1 => ?_⟩
      · rw [hr1] at eq
        exact Er.mono (x1.trans e) (Res.err (by unfold lookLot; rw [e1]; simp only; rw [eq]) h)
      · rw [hr1] at eq
        exact fun H2 e2 => ⟨⟨_, rfl⟩, e.trans e2, eq⟩
    case fin =>
      rintro σ' H' ⟨⟨v, rfl⟩, e, eq⟩
      rw [List.length_map, List.drop_length] at eq
      have hin := lookEach_ok eq
      have good : RetU ((lotL n ns).map V.int) H Q := Res.fine (r := lookLot n ns) (a := lotL n ns) (by unfold lookLot; rw [e1]; simp only; rw [eq]; rfl) h
      refine s_retU (eu_tupleL (el_sortedSet (es_ev (ev_var rfl) (hS.mono (x1.trans e))) (by omega) (lotL_sorted n ns) (fun k => ?_) fun xs hx hm => lotL_is hin hx hm)) fun p H2 hp e2 h2 => good p H2 (fresh_back (x1.trans e) hp) ((x1.trans e).trans e2) h2
      rw [mem_lotL]
      exact ⟨fun h => h.2, fun h => ⟨hin k h, h⟩⟩
theorem has_look_costs (T : Tx P w K mg base CO CS CN CT) (h_look_numbers : Has P w K mg base 4 "look_numbers" ["numbers", "least", "most"] (spLookNumbers K ⟨CS, CN, CT⟩)) (h_look_size : Has P w K mg base 3 "look_size" ["count", "least", "most"] (spLookSize ⟨CS, CN, CT⟩)) (D : DefAt K mg "look_costs" s_look_costs ["things", "costs"]) : Has P w K mg base 5 "look_costs" ["things", "costs"] (spLookCosts K ⟨CS, CN, CT⟩) := by
  refine D.has sc_look_costs (fun vs H Q E h => ?len) (fun f cdv A outer s H vs Q E hr h => ?body)
  case len =>
    obtain ⟨_, _, _, rfl, _, _⟩ := h
    rfl
  case body =>
    have tk : Takes (cxOf (L2.CX P w) P w K mg base ["things", "costs"] "look_costs" (defScope s_look_costs) f cdv A outer s H E) (fun cls d _ H => E cls d H) := takes_of rfl rfl rfl rfl
    obtain ⟨a, ns, n, rfl, hS, h⟩ := h
    refine ⟨_, (pss_cons (ps_expr (pe_hasR h_look_size (hr.mono (by decide)) tk (pa_cons (pe_callB call_len_seq (by rfl) T.z_len (by decide +kernel) (pa_cons (pv 1) pa_nil)) (pa_cons (pv 0) (pa_cons (pv 0) pa_nil)))))
      (pss_one (ps_expr (pe_hasR h_look_numbers (hr.mono (by decide)) tk (pa_cons (pv 1) (pa_cons (pe_un un_neg (pe_cst T.c_MOST_COST)) (pa_cons (pe_cst T.c_MOST_COST) pa_nil))))))), ?_⟩
    refine ⟨_, rfl, a, _, rfl, hS, _, rfl, _, rfl, _, n, n, rfl, ?_⟩
    rw [List.length_map]
    refine Res.of (fun r e1 => Res.err (by unfold lookCosts; rw [e1]) h) fun u e1 => ?_
    refine fun H1 x1 => ⟨_, rfl, 1000000, rfl, a, ns, -1000000, 1000000, rfl, hS.mono x1, Res.of (fun r e2 => ?_) fun u2 e2 => ?_⟩
    · exact Er.mono x1 (Res.err (by unfold lookCosts; rw [e1]; exact e2) h)
    · exact fun H2 x2 => Res.fine (r := lookCosts n ns) (by unfold lookCosts; rw [e1]; exact e2) h H2 (x1.trans x2)
end
end K3
namespace K3
open PySem PySem.Spec PyProof.Rows L2 Evl Nd
local macro_rules | `(tactic| walk_at "ev") => `(tactic| first
  | exact ev_var rfl
  | exact ev_c
  | (apply ev_op; (walk_at "ev"); (walk_at "ev"); (walk_at "rv"))
  | (apply ev_un; (walk_at "ev"); (walk_at "rv"))
  | (apply ev_lenS; (walk_at "ev"); (walk_at "sq"))
  | (apply ev_andV; (walk_at "ev"); (intro _; walk_at "ev"))
  | (apply ev_orV; (walk_at "ev"); (intro _; walk_at "ev"))
  | (apply ev_notV; (walk_at "ev")))
local macro_rules | `(tactic| walk_at "rv") => `(tactic| first
  | exact rv_I0
  | exact ru_neg
  | exact rv_eq rfl
  | exact rv_ne rfl
  | exact rv_I (by decide)
  | exact rv_I (by first | omega | exact .inl (by omega) | exact .inr (by omega) | (constructor <;> omega)))
local macro_rules | `(tactic| walk_at "sq") => `(tactic| first
  | assumption
  | exact SqS.lst (by assumption)
  | exact SqS.tup (by assumption)
  | exact Or.inl (by assumption)
  | exact Or.inr (by assumption)
  | (refine SqS.mono (by assumption) ?_; walk_at "sq"))
local macro_rules | `(tactic| walk_at "et") => `(tactic| first
  | (apply et_or; (walk_at "et"); (intro _; walk_at "et"))
  | (apply et_and; (walk_at "et"); (intro _; walk_at "et"))
  | (apply et_not; (walk_at "et"))
  | (apply et_test; (walk_at "ev"))
  | (apply et_B; (walk_at "ev")))
local macro_rules | `(tactic| walk_at "ea") => `(tactic| first
  | exact ea_nil
  | (apply ea_cons; (walk_at "ev"); (walk_at "ea")))
section
variable {P : Program} {w : World} {K : PySem.W.Frag} {mg : Str → Option Value} {base : Heap} {CO CS CN CT : Addr}
/-! ### lots -/
def spNext (K : PySem.W.Frag) : Sp := fun vs H Q E => ∃ (a : Addr) (l : List Nat), vs = [.ref a] ∧ SqT K H a (vN l) ∧ l.length ≤ 100 ∧ RetV (.int (nextOf l : Nat)) H Q
def spLotsOf (K : PySem.W.Frag) : Sp := fun vs H Q E => ∃ n k : Nat, vs = [.int (n : Int), .int (k : Int)] ∧ n ≤ 10 ∧ k ≤ 11 ∧ ∀ p H2 rs, H p = none → Ex H H2 → H2 p = some (.lst rs) → LotsAt K H2 rs (lotsN n k) → Q (.ref p) H2
theorem has__least_next (T : Tx P w K mg base CO CS CN CT) (D : DefAt K mg "_least_next" s__least_next ["lot"]) : Has P w K mg base 1 "_least_next" ["lot"] (spNext K) := by
  refine D.has sc__least_next (fun vs H Q E h => ?len) (fun f cdv A outer s H vs Q E hr h => ?body)
  case len =>
    obtain ⟨_, _, rfl, _, _, _⟩ := h
    rfl
  case body =>
    have tk : Takes (cxOf (L2.CX P w) P w K mg base ["lot"] "_least_next" (defScope s__least_next) f cdv A outer s H E) (fun cls d _ H => E cls d H) := takes_of rfl rfl rfl rfl
    obtain ⟨a, l, rfl, hS, hl, h⟩ := h
    refine ⟨_, (pss_one (ps_ret (pe_ifExp (pt_truth (pv 0) (by intro _; rfl)) (pe_op op_add (pe_ix ix_tup (pv 0) (pe_un un_neg pe_int) (fun _ _ => rfl)) pe_int) pe_int))), ?_⟩
    rcases List.eq_nil_or_concat l with rfl | ⟨l0, z, e0⟩
    · refine ⟨_, rfl, false, .inr (.inl ⟨[], hS, rfl⟩), iteF ?_⟩
      exact h H (Ex.refl H)
    · obtain rfl : l = l0 ++ [z] := by simpa using e0
      rw [vN_snoc] at hS
      refine ⟨_, rfl, true, .inr (.inl ⟨_, hS, by cases vN l0 <;> rfl⟩), iteT ?_⟩
      refine ⟨_, rfl, 1, rfl, a, _, -1, _, rfl, rfl, hS, atI_last _ _, _, _, rfl, rfl, ?_⟩
      have e : nextOf (l0 ++ [z]) = z + 1 := by unfold nextOf; rw [List.getLast?_append]; rfl
      rw [e] at h
      exact h H (Ex.refl H)
theorem has_lots_of_size (T : Tx P w K mg base CO CS CN CT) (h__least_next : Has P w K mg base 1 "_least_next" ["lot"] (spNext K)) (D : DefAt K mg "lots_of_size" s_lots_of_size ["things", "size"]) : Has P w K mg base 2 "lots_of_size" ["things", "size"] (spLotsOf K) := by
  refine D.has sc_lots_of_size (fun vs H Q E h => ?len) (fun f cdv A outer s H vs Q E hr h => ?body)
  case len =>
    obtain ⟨_, _, rfl, _, _, _⟩ := h
    rfl
  case body =>
    have tk : Takes (cxOf (L2.CX P w) P w K mg base ["things", "size", "lots", "_", "lot", "thing"] "lots_of_size" (defScope s_lots_of_size) f cdv A outer s H E) (fun cls d _ H => E cls d H) := takes_of rfl rfl rfl rfl
    obtain ⟨n, k, rfl, hn, hk, h⟩ := h
    refine ⟨_, (pss_cons (ps_set (i := 2) sc_lots_of_size.nd rfl (.inl rfl) (pe_lst (pa_cons (pe_tup pa_nil) pa_nil)))
      (pss_cons (ps_for (passes_of rfl) rfl (pi_range1 rfl T.z_range (pa_cons (pv 1) pa_nil)) (pg_name (i := 3) sc_lots_of_size.nd rfl (.inl rfl)) (pss_one (ps_setLc2 (i := 2) (own := [("lot", 4), ("thing", 5)]) (vs1 := [5]) rfl sc_lots_of_size.nd rfl rfl (sw_true rfl rfl rfl (by decide +kernel)) (pi_list (pv 2)) (blkOk_by (own := [("lot", 4), ("thing", 5)]) (N := ["things", "size", "lots", "_", "lot", "thing"]) (sc := defScope s_lots_of_size) (by decide +kernel)) (by decide) (fun _ _ _ _ _ => (pg_name (i := 4) sc_lots_of_size.nd rfl (.inl rfl))) (fun _ _ _ _ _ => pts_nil) (fun _ _ _ _ _ => (pi_range2 rfl T.z_range (pa_cons (pe_hasN h__least_next (hr.mono (by decide)) (pa_cons (pv 4) pa_nil)) (pa_cons (pv 0) pa_nil)))) (fun _ _ _ _ _ => (pg_name (i := 5) sc_lots_of_size.nd rfl (.inl rfl))) (fun _ _ _ _ _ => pts_nil) (fun _ _ _ _ _ => (pe_op (op_catAK K) (pv 4) (pe_tup (pa_cons (pv 5) pa_nil)))))))
      (pss_one (ps_ret (pv 2))))), ?_⟩
    -- lots = [()]
    refine ⟨by show 0 ≤ sizeLine; decide, fun t ht => ⟨by show 1 ≤ sizeLine; decide, fun p hp => ?_⟩⟩
    have x0 : Ex H (upd H t (.tup [])) := Ex.new ht
    have x1 : Ex H (upd (upd H t (.tup [])) p (.lst [.ref t])) := x0.trans (Ex.new hp)
    have p0 : H p = none := fresh_back x0 hp
    refine q_forR1 (n := (k : Int)) (ea_cons (ev_var rfl) ea_nil) (by omega) (fun i σ' H' => ∃ p rs v3, σ' = [some (.int (n : Int)), some (.int (k : Int)), some (.ref p), v3, none, none] ∧ Ex H H' ∧ H' p = some (.lst rs) ∧ H p = none ∧ LotsAt K H' rs (lotsN n i))
      (fun H1 e => ⟨p, [.ref t], none, rfl, x1.trans e, e p _ upd_same, p0, ?start⟩) ?turn ?fin
    case start =>
      have t1 : LotsAt K H1 ([] ++ [.ref t]) ([] ++ [[]]) := LotsAt.nil.snoc (ex_t e (st_of (by rw [upd_ne (ne_of_none upd_same hp)]; exact upd_same)))
      exact t1
    case turn =>
      rintro i σ' H' hi ⟨p, rs, v3, rfl, x, hp, p0, lots⟩
      have hi10 : i ≤ 11 := by omega
      refine lc2_lr (a := p) (xs := rs)
        (fun D j H2 => Ex H' H2 ∧ H' D = none ∧ ∃ acc, H2 D = some (.lst acc) ∧ LotsAt K H2 acc (((lotsN n i).take j).flatMap (more n)))
        (fun D j m H2 => Ex H' H2 ∧ H' D = none ∧ ∃ acc l, (lotsN n i)[j]? = some l ∧ H2 D = some (.lst acc) ∧ LotsAt K H2 acc (((lotsN n i).take j).flatMap (more n) ++ (List.range m).map fun q => l ++ [nextOf l + q]))
        (ev_var rfl) (sq_of hp) (fun D H1 e hD => ⟨e.trans (Ex.new hD), fresh_back e hD, [], upd_same, by simpa using (LotsAt.nil : LotsAt K _ [] [])⟩) (fun D j H2 q => q.1) (fun v => rfl) (fun v u => rfl) ?inn ?out
      case inn =>
        rintro D j v H2 hv ⟨x2, hD, acc, hacc, la⟩
        have hj : j < (lotsN n i).length := by rw [← lots.1]; exact (List.getElem?_eq_some_iff.mp hv).1
        obtain ⟨a, ha, hT⟩ := lots.2 j _ (List.getElem?_eq_getElem hj)
        obtain rfl : v = .ref a := by rw [hv] at ha; exact Option.some.inj ha
        have hmem : (lotsN n i)[j] ∈ lotsN n i := List.getElem_mem hj
        have hlen := lotsN_len hmem
        have hnx : nextOf (lotsN n i)[j] ≤ n := nextOf_le (lotsN_in hmem)
        refine ⟨(nextOf (lotsN n i)[j] : Nat), (n : Int), by omega, ?args, fun H3 e3 => ⟨x2.trans e3, hD, acc, _, List.getElem?_eq_getElem hj, e3 D _ hacc, by simpa using la.mono e3⟩, ?step, ?last⟩
        case args =>
          refine ea_cons ?_ (ea_cons (ev_var rfl) ea_nil)
          intro H3 e3 Q' q
          exact ⟨_, rfl, a, _, rfl, ex_t (x2.trans e3) hT, by omega, fun H4 e4 => q H4 e4⟩
        case step =>
          rintro m H3 ⟨x3, _, acc, l, hl, hacc, la⟩ hm
          obtain rfl : (lotsN n i)[j] = l := by rw [List.getElem?_eq_getElem hj] at hl; exact Option.some.inj hl
          refine e2_cat (xs := vN (lotsN n i)[j]) (ys := [.int ((nextOf (lotsN n i)[j] : Nat) + (m : Int))]) (e2_ev (ev_var rfl) (ex_t x3 hT)) (e2_eu (eu_tup (ea_cons (ev_var rfl) ea_nil) (show 1 ≤ 100000 by decide))) (by simp only [vN, List.length_map, List.length_cons, List.length_nil]; omega) H3 (Ex.refl H3) _ fun b H4 e4 hb => ⟨acc, e4 D _ hacc, ?_, (x3.trans e4).mut hD, hD, acc ++ [.ref b], (lotsN n i)[j], hl, upd_same, ?_⟩
          · have z : acc.length ≤ 300 := by
              rw [la.1]
              have h1 : ((List.take j (lotsN n i)).flatMap (more n) ++ (List.range m).map fun q => (lotsN n i)[j] ++ [nextOf (lotsN n i)[j] + q]).length ≤ ((List.take (j + 1) (lotsN n i)).flatMap (more n)).length := by
                rw [flatMap_take (List.getElem?_eq_getElem hj), List.length_append, List.length_append]
                unfold more
                rw [List.length_map, List.length_map, List.length_range, List.length_range]
                omega
              have h2 := flat_prefix (f := more n) (xs := lotsN n i) (i := j + 1)
              have h3 := lotsN_few (k := i + 1) hn (by omega)
              unfold lotsN at h3
              omega
            exact Nat.lt_of_le_of_lt z (by decide)
          · rw [range_snoc n, ← List.append_assoc]
            refine ((la.mono e4).upd (e4 D _ hacc)).snoc (sqt_upd (e4 D _ hacc) ?_)
            rw [vN_snoc]
            have ez : ((nextOf (lotsN n i)[j] : Nat) + (m : Int)) = ((nextOf (lotsN n i)[j] + m : Nat) : Int) := by omega
            rw [ez] at hb
            exact hb
        case last =>
          rintro H3 ⟨x3, _, acc, l, hl, hacc, la⟩
          obtain rfl : (lotsN n i)[j] = l := by rw [List.getElem?_eq_getElem hj] at hl; exact Option.some.inj hl
          refine ⟨x3, hD, acc, hacc, ?_⟩
          rw [flatMap_take (List.getElem?_eq_getElem hj)]
          have e : ((n : Int) - (nextOf (lotsN n i)[j] : Nat)).toNat = n - nextOf (lotsN n i)[j] := by omega
          rw [e] at la
          exact la
      case out =>
        rintro D H2 ⟨x2, hD, acc, hacc, la⟩
        refine ⟨D, acc, _, rfl, x.trans x2, hacc, fresh_back x hD, ?_⟩
        rw [lots.1, List.take_length] at la
        exact la
    case fin =>
      rintro σ' H' ⟨p, rs, v3, rfl, x, hp, p0, lots⟩
      have e : ((k : Int)).toNat = k := by omega
      rw [e] at lots
      exact ⟨_, rfl, h p H' rs p0 x hp lots⟩
end
end K3
namespace K3
open PySem PySem.Spec PyProof.Rows L2 Evl Nd
local macro_rules | `(tactic| walk_at "ev") => `(tactic| first
  | exact ev_var rfl
  | exact ev_c
  | (apply ev_op; (walk_at "ev"); (walk_at "ev"); (walk_at "rv"))
  | (apply ev_un; (walk_at "ev"); (walk_at "rv"))
  | (apply ev_lenS; (walk_at "ev"); (walk_at "sq"))
  | (apply ev_andV; (walk_at "ev"); (intro _; walk_at "ev"))
  | (apply ev_orV; (walk_at "ev"); (intro _; walk_at "ev"))
  | (apply ev_notV; (walk_at "ev")))
local macro_rules | `(tactic| walk_at "rv") => `(tactic| first
  | exact rv_I0
  | exact ru_neg
  | exact rv_eq rfl
  | exact rv_ne rfl
  | exact rv_I (by decide)
  | exact rv_I (by first | omega | exact .inl (by omega) | exact .inr (by omega) | (constructor <;> omega)))
local macro_rules | `(tactic| walk_at "sq") => `(tactic| first
  | assumption
  | exact SqS.lst (by assumption)
  | exact SqS.tup (by assumption)
  | exact Or.inl (by assumption)
  | exact Or.inr (by assumption)
  | (refine SqS.mono (by assumption) ?_; walk_at "sq"))
local macro_rules | `(tactic| walk_at "et") => `(tactic| first
  | (apply et_or; (walk_at "et"); (intro _; walk_at "et"))
  | (apply et_and; (walk_at "et"); (intro _; walk_at "et"))
  | (apply et_not; (walk_at "et"))
  | (apply et_test; (walk_at "ev"))
  | (apply et_B; (walk_at "ev")))
local macro_rules | `(tactic| walk_at "ea") => `(tactic| first
  | exact ea_nil
  | (apply ea_cons; (walk_at "ev"); (walk_at "ea")))
section
variable {P : Program} {w : World} {K : PySem.W.Frag} {mg : Str → Option Value} {base : Heap} {CO CS CN CT : Addr}
/-! ### lots -/
def spLotOf (K : PySem.W.Frag) (c : Cs) : Sp := fun vs H Q E => ∃ (a : Addr) (ns : List Int) (n : Int), vs = [.int n, .ref a] ∧ SqS K H a (ns.map V.int) ∧ Res c (lotOf n ns) (fun l => RetU (l.map V.int) H Q) H E
def spAllLots (K : PySem.W.Frag) (c : Cs) : Sp := fun vs H Q E => ∃ n : Int, vs = [.int n] ∧ Res c (lookThings n) (fun _ => ∀ p H2 rs, H p = none → Ex H H2 → H2 p = some (.lst rs) → LotsAt K H2 rs (allN n.toNat) → Q (.ref p) H2) H E
def spTwo (K : PySem.W.Frag) (c : Cs) : Sp := fun vs H Q E => ∃ (a b : Addr) (xs ys : List Int) (n : Int), vs = [.int n, .ref a, .ref b] ∧ SqS K H a (xs.map V.int) ∧ SqS K H b (ys.map V.int) ∧
  Res c (lookTwo n xs ys) (fun r => ∀ p q t H2, Ex H H2 → H2 p = some (.tup (r.1.map V.int)) → H2 q = some (.tup (r.2.map V.int)) → H2 t = some (.tup [.ref p, .ref q]) → Q (.ref t) H2) H E
def spOnTwo (f : Int → List Int → List Int → R (List Int)) (K : PySem.W.Frag) (c : Cs) : Sp := fun vs H Q E => ∃ (a b : Addr) (xs ys : List Int) (n : Int), vs = [.int n, .ref a, .ref b] ∧ SqS K H a (xs.map V.int) ∧ SqS K H b (ys.map V.int) ∧
  Res c (f n xs ys) (fun l => RetU (l.map V.int) H Q) H E
def spCosts (K : PySem.W.Frag) : Sp := fun vs H Q E => ∃ (a b : Addr) (cs l : List Int), vs = [.ref a, .ref b] ∧ SqS K H a (cs.map V.int) ∧ SqS K H b (l.map V.int) ∧ (∀ k ∈ l, 0 ≤ k ∧ k < cs.length) ∧ l.length ≤ 100 ∧ RetV (.int (costSum cs l)) H Q
def spCostOf (K : PySem.W.Frag) (c : Cs) : Sp := fun vs H Q E => ∃ (a b : Addr) (cs l : List Int) (n : Int), vs = [.int n, .ref a, .ref b] ∧ SqS K H a (cs.map V.int) ∧ SqS K H b (l.map V.int) ∧ Res c (costOf n cs l) (fun z => RetV (.int z) H Q) H E
theorem has_lot_of (T : Tx P w K mg base CO CS CN CT) (h_look_lot : Has P w K mg base 4 "look_lot" ["things", "entries"] (spLookLot K ⟨CS, CN, CT⟩)) (h_look_things : Has P w K mg base 4 "look_things" ["things"] (spLookThings ⟨CS, CN, CT⟩)) (D : DefAt K mg "lot_of" s_lot_of ["things", "entries"]) : Has P w K mg base 5 "lot_of" ["things", "entries"] (spLotOf K ⟨CS, CN, CT⟩) := by
  refine D.has sc_lot_of (fun vs H Q E h => ?len) (fun f cdv A outer s H vs Q E hr h => ?body)
  case len =>
    obtain ⟨_, _, _, rfl, _, _⟩ := h
    rfl
  case body =>
    have tk : Takes (cxOf (L2.CX P w) P w K mg base ["things", "entries"] "lot_of" (defScope s_lot_of) f cdv A outer s H E) (fun cls d _ H => E cls d H) := takes_of rfl rfl rfl rfl
    obtain ⟨a, ns, n, rfl, hS, h⟩ := h
    refine ⟨_, (pss_cons (ps_expr (pe_hasR h_look_things (hr.mono (by decide)) tk (pa_cons (pv 0) pa_nil)))
      (pss_one (ps_ret (pe_hasR h_look_lot (hr.mono (by decide)) tk (pa_cons (pv 0) (pa_cons (pv 1) pa_nil)))))), ?_⟩
    refine ⟨_, rfl, n, rfl, Res.of (fun r e1 => Res.err (by unfold lotOf; rw [e1]) h) fun u e1 => ?_⟩
    have hn := (lookThings_ok e1).2
    refine fun H1 x1 => ⟨_, rfl, _, rfl, a, ns, n, rfl, hS.mono x1, hn, Res.of (fun r e2 => Er.mono x1 (Res.err (by unfold lotOf; rw [e1]; exact e2) h)) fun l e2 => ?_⟩
    exact RetU.mono (Res.fine (r := lotOf n ns) (by unfold lotOf; rw [e1]; exact e2) h) x1
theorem has_all_lots (T : Tx P w K mg base CO CS CN CT) (h_look_things : Has P w K mg base 4 "look_things" ["things"] (spLookThings ⟨CS, CN, CT⟩)) (h_lots_of_size : Has P w K mg base 2 "lots_of_size" ["things", "size"] (spLotsOf K)) (D : DefAt K mg "all_lots" s_all_lots ["things"]) : Has P w K mg base 5 "all_lots" ["things"] (spAllLots K ⟨CS, CN, CT⟩) := by
  refine D.has sc_all_lots (fun vs H Q E h => ?len) (fun f cdv A outer s H vs Q E hr h => ?body)
  case len =>
    obtain ⟨_, rfl, _⟩ := h
    rfl
  case body =>
    have tk : Takes (cxOf (L2.CX P w) P w K mg base ["things", "size", "lot"] "all_lots" (defScope s_all_lots) f cdv A outer s H E) (fun cls d _ H => E cls d H) := takes_of rfl rfl rfl rfl
    obtain ⟨n, rfl, h⟩ := h
    refine ⟨_, (pss_cons (ps_expr (pe_hasR h_look_things (hr.mono (by decide)) tk (pa_cons (pv 0) pa_nil)))
      (pss_one (ps_ret (pe_lc2 (own := [("size", 1), ("lot", 2)]) (vs1 := [2]) rfl sc_all_lots.nd (pi_range1 rfl T.z_range (pa_cons (pe_op op_add (pv 0) pe_int) pa_nil)) (blkOk_by (own := [("size", 1), ("lot", 2)]) (N := ["things", "size", "lot"]) (sc := defScope s_all_lots) (by decide +kernel)) (by decide) (fun _ _ _ _ _ => (pg_name (i := 1) sc_all_lots.nd rfl (.inl rfl))) (fun _ _ _ _ _ => pts_nil) (fun _ _ _ _ _ => (pi_listK K (pe_hasN h_lots_of_size (hr.mono (by decide)) (pa_cons (pv 0) (pa_cons (pv 1) pa_nil))))) (fun _ _ _ _ _ => (pg_name (i := 2) sc_all_lots.nd rfl (.inl rfl))) (fun _ _ _ _ _ => pts_nil) (fun _ _ _ _ _ => (pv 2)))))), ?_⟩
    refine ⟨_, rfl, n, rfl, Res.of (fun r e1 => Res.err e1 h) fun u e1 => ?_⟩
    obtain ⟨n0, n10⟩ := lookThings_ok e1
    have good := Res.fine e1 h
    obtain ⟨m, rfl⟩ := Int.eq_ofNat_of_zero_le n0
    rw [Int.toNat_natCast] at good
    intro H1 x1
    refine lc2_rl (n := (m : Int) + 1) (H := H1)
      (fun D i H2 => Ex H1 H2 ∧ H1 D = none ∧ ∃ acc, H2 D = some (.lst acc) ∧ LotsAt K H2 acc ((List.range i).flatMap (lotsN m)))
      (fun D i a ys j H2 => Ex H1 H2 ∧ H1 D = none ∧ i ≤ m ∧ SqL K H2 a ys ∧ LotsAt K H2 ys (lotsN m i) ∧ a ≠ D ∧ ∃ acc, H2 D = some (.lst acc) ∧ LotsAt K H2 acc ((List.range i).flatMap (lotsN m) ++ (lotsN m i).take j))
      (ea_cons (ev_op (ev_var rfl) ev_c rv_I0) ea_nil) (by omega) (fun D H2 e hD => ⟨e.trans (Ex.new hD), fresh_back e hD, [], upd_same, LotsAt.nil⟩) (fun v => rfl) (fun v u => rfl) ?inn ?step (fun D i a ys j H2 q => q.2.2.2.1) ?out ?fin
    case inn =>
      rintro D i H2 hi ⟨x2, hD, acc, hacc, la⟩ Q' q
      refine ⟨_, rfl, _, rfl, m, i, rfl, by omega, by omega, fun p H3 rs hp x3 h3 lots => q p rs H3 (sq_of h3) ⟨x2.trans x3, hD, by omega, sq_of h3, lots, ?_, acc, x3 D _ hacc, by simpa using la.mono x3⟩⟩
      exact fun e => by rw [e, hacc] at hp; cases hp
    case step =>
      rintro D i a ys j y H2 ⟨x2, hD, hi, hsq, lots, hne, acc, hacc, la⟩ hy
      have hj : j < (lotsN m i).length := by rw [← lots.1]; exact (List.getElem?_eq_some_iff.mp hy).1
      obtain ⟨b, hb, hT⟩ := lots.2 j _ (List.getElem?_eq_getElem hj)
      obtain rfl : y = .ref b := by rw [hy] at hb; exact Option.some.inj hb
      refine ⟨_, rfl, acc, hacc, ?_, x2.mut hD, hD, hi, ?_, lots.upd hacc, hne, acc ++ [.ref b], upd_same, ?_⟩
      · rw [la.1]
        exact Nat.lt_of_le_of_lt (part_few (by omega) hi) (by decide)
      · exact sql_upd hne hsq
      · rw [List.take_add_one, List.getElem?_eq_getElem hj, ← List.append_assoc]
        exact (la.upd hacc).snoc (sqt_upd hacc hT)
    case out =>
      rintro D i a ys H2 ⟨x2, hD, hi, hsq, lots, hne, acc, hacc, la⟩
      refine ⟨x2, hD, acc, hacc, ?_⟩
      rw [lots.1, List.take_length] at la
      rw [List.range_succ, List.flatMap_append]
      simpa using la
    case fin =>
      rintro D H2 ⟨x2, hD, acc, hacc, la⟩
      have e : ((m : Int) + 1).toNat = m + 1 := by omega
      rw [e] at la
      exact good D H2 acc (fresh_back x1 hD) (x1.trans x2) hacc la
theorem has__look_two (T : Tx P w K mg base CO CS CN CT) (h_look_lot : Has P w K mg base 4 "look_lot" ["things", "entries"] (spLookLot K ⟨CS, CN, CT⟩)) (h_look_things : Has P w K mg base 4 "look_things" ["things"] (spLookThings ⟨CS, CN, CT⟩)) (D : DefAt K mg "_look_two" s__look_two ["things", "first", "second"]) : Has P w K mg base 5 "_look_two" ["things", "first", "second"] (spTwo K ⟨CS, CN, CT⟩) := by
  refine D.has sc__look_two (fun vs H Q E h => ?len) (fun f cdv A outer s H vs Q E hr h => ?body)
  case len =>
    obtain ⟨_, _, _, _, _, rfl, _, _, _⟩ := h
    rfl
  case body =>
    have tk : Takes (cxOf (L2.CX P w) P w K mg base ["things", "first", "second"] "_look_two" (defScope s__look_two) f cdv A outer s H E) (fun cls d _ H => E cls d H) := takes_of rfl rfl rfl rfl
    obtain ⟨a, b, xs, ys, n, rfl, hA, hB, h⟩ := h
    refine ⟨_, (pss_cons (ps_expr (pe_hasR h_look_things (hr.mono (by decide)) tk (pa_cons (pv 0) pa_nil)))
      (pss_one (ps_ret (pe_tup (pa_cons (pe_hasR h_look_lot (hr.mono (by decide)) tk (pa_cons (pv 0) (pa_cons (pv 1) pa_nil))) (pa_cons (pe_hasR h_look_lot (hr.mono (by decide)) tk (pa_cons (pv 0) (pa_cons (pv 2) pa_nil))) pa_nil)))))), ?_⟩
    refine ⟨_, rfl, n, rfl, Res.of (fun r e1 => Res.err (by unfold lookTwo; rw [e1]) h) fun u e1 => ?_⟩
    have hn := (lookThings_ok e1).2
    refine fun H1 x1 => ⟨_, rfl, _, rfl, a, xs, n, rfl, hA.mono x1, hn, Res.of (fun r e2 => Er.mono x1 (Res.err (by unfold lookTwo; rw [e1]; simp only; rw [e2]) h)) fun l e2 => ?_⟩
    refine fun p H2 hp x2 h2 => ⟨_, rfl, _, rfl, b, ys, n, rfl, hB.mono (x1.trans x2), hn, Res.of (fun r e3 => Er.mono (x1.trans x2) (Res.err (by unfold lookTwo; rw [e1]; simp only; rw [e2]; simp only; rw [e3]) h)) fun m e3 => ?_⟩
    refine fun q H3 hq x3 h3 => ⟨by show 2 ≤ sizeLine; decide, fun t ht => ?_⟩
    have x4 := Ex.new (o := .tup [.ref p, .ref q]) ht
    exact Res.fine (r := lookTwo n xs ys) (a := (l, m)) (by unfold lookTwo; rw [e1]; simp only; rw [e2]; simp only; rw [e3]) h p q t _ (((x1.trans x2).trans x3).trans x4) (x4 p _ (x3 p _ h2)) (x4 q _ h3) upd_same
theorem has_joined (T : Tx P w K mg base CO CS CN CT) (h__look_two : Has P w K mg base 5 "_look_two" ["things", "first", "second"] (spTwo K ⟨CS, CN, CT⟩)) (D : DefAt K mg "joined" s_joined ["things", "first", "second"]) : Has P w K mg base 6 "joined" ["things", "first", "second"] (spOnTwo joined K ⟨CS, CN, CT⟩) := by
  refine D.has sc_joined (fun vs H Q E h => ?len) (fun f cdv A outer s H vs Q E hr h => ?body)
  case len =>
    obtain ⟨_, _, _, _, _, rfl, _, _, _⟩ := h
    rfl
  case body =>
    have tk : Takes (cxOf (L2.CX P w) P w K mg base ["things", "first", "second", "one", "two"] "joined" (defScope s_joined) f cdv A outer s H E) (fun cls d _ H => E cls d H) := takes_of rfl rfl rfl rfl
    obtain ⟨a, b, xs, ys, n, rfl, hA, hB, h⟩ := h
    refine ⟨_, (pss_cons (ps_asg (pe_hasR h__look_two (hr.mono (by decide)) tk (pa_cons (pv 0) (pa_cons (pv 1) (pa_cons (pv 2) pa_nil)))) (pg_tup (by rfl) (pgs_cons (pg_name (i := 3) sc_joined.nd rfl (.inl rfl)) (pgs_cons (pg_name (i := 4) sc_joined.nd rfl (.inl rfl)) pgs_nil))))
      (pss_one (ps_ret (pe_callTy call_tuple_of (by rfl) T.z_tuple (by decide +kernel) (pa_cons (pe_callB (cr_sortedSet rfl) (by rfl) T.z_sorted (by decide +kernel) (pa_cons (pe_callTy (cr_setL rfl) (by rfl) T.z_set (by decide +kernel) (pa_cons (pe_op op_catA (pv 3) (pv 4)) pa_nil)) pa_nil)) pa_nil))))), ?_⟩
    refine ⟨_, rfl, _, rfl, _, rfl, a, b, xs, ys, n, rfl, hA, hB, Res.of (fun r e1 => Res.err (by unfold joined onTwo; rw [e1]) h) fun r e1 => ?_⟩
    obtain ⟨l, m⟩ := r
    obtain ⟨hn, rfl, rfl, bl, bm⟩ := lookTwo_ok e1
    intro p q t H1 x1 hp hq ht
    refine ⟨t, _, rfl, st_of ht, rfl, _, _, rfl, _, _, rfl, rfl, ?_⟩
    dsimp only
    have good : RetU ((lotL n (lotL n xs ++ lotL n ys)).map V.int) H Q := Res.fine (r := joined n xs ys) (a := lotL n (lotL n xs ++ lotL n ys)) (by unfold joined onTwo; rw [e1]) h
    have w1 := lotL_len n xs
    have w2 := lotL_len n ys
    refine s_retU (D := { nx := fun _ H' => Q .non H', rt := Q }) (eu_tupleL (el_sortedSet (ns := lotL n xs ++ lotL n ys) (ms := lotL n (lotL n xs ++ lotL n ys)) ?ev (by rw [List.length_append]; omega) (lotL_sorted _ _) (fun k => ?mem) fun zs hz hm => lotL_is ?inn hz hm)) fun r H2 hr e2 h2 => good r H2 (fresh_back x1 hr) (x1.trans e2) h2
    case ev =>
      rw [List.map_append]
      exact es_e2 (e2_cat (e2_ev (ev_var rfl) (st_of hp)) (e2_ev (ev_var rfl) (st_of hq)) (by simp only [List.length_map]; omega))
    case mem =>
      rw [mem_lotL]
      refine ⟨fun h => h.2, fun h => ⟨?_, h⟩⟩
      rcases List.mem_append.mp h with z | z
      · exact (mem_lotL.mp z).1
      · exact (mem_lotL.mp z).1
    case inn =>
      intro k z
      rcases List.mem_append.mp z with z | z
      · exact (mem_lotL.mp z).1
      · exact (mem_lotL.mp z).1
theorem has_common (T : Tx P w K mg base CO CS CN CT) (h__look_two : Has P w K mg base 5 "_look_two" ["things", "first", "second"] (spTwo K ⟨CS, CN, CT⟩)) (D : DefAt K mg "common" s_common ["things", "first", "second"]) : Has P w K mg base 6 "common" ["things", "first", "second"] (spOnTwo common K ⟨CS, CN, CT⟩) := by
  refine D.has sc_common (fun vs H Q E h => ?len) (fun f cdv A outer s H vs Q E hr h => ?body)
  case len =>
    obtain ⟨_, _, _, _, _, rfl, _, _, _⟩ := h
    rfl
  case body =>
    have tk : Takes (cxOf (L2.CX P w) P w K mg base ["things", "first", "second", "one", "two", "thing"] "common" (defScope s_common) f cdv A outer s H E) (fun cls d _ H => E cls d H) := takes_of rfl rfl rfl rfl
    obtain ⟨a, b, xs, ys, n, rfl, hA, hB, h⟩ := h
    refine ⟨_, (pss_cons (ps_asg (pe_hasR h__look_two (hr.mono (by decide)) tk (pa_cons (pv 0) (pa_cons (pv 1) (pa_cons (pv 2) pa_nil)))) (pg_tup (by rfl) (pgs_cons (pg_name (i := 3) sc_common.nd rfl (.inl rfl)) (pgs_cons (pg_name (i := 4) sc_common.nd rfl (.inr rfl)) pgs_nil))))
      (pss_one (ps_ret (pe_callTy call_tuple_of (by rfl) T.z_tuple (by decide +kernel) (pa_cons (pe_lc (own := [("thing", 5)]) rfl sc_common.nd (pi_seq (pv 3)) (blkOk_by (own := [("thing", 5)]) (N := ["things", "first", "second", "one", "two", "thing"]) (sc := defScope s_common) (by decide +kernel)) (fun _ _ _ _ _ => (pg_name (i := 5) sc_common.nd rfl (.inl rfl))) (fun _ _ _ _ _ => pts_one (pt_cmpR (op_in_seqK K) (pv 5) (pv 4) (by rfl))) (fun _ _ _ _ _ => (pv 5))) pa_nil))))), ?_⟩
    refine ⟨_, rfl, _, rfl, _, rfl, a, b, xs, ys, n, rfl, hA, hB, Res.of (fun r e1 => Res.err (by unfold common onTwo; rw [e1]) h) fun r e1 => ?_⟩
    obtain ⟨l, m⟩ := r
    obtain ⟨hn, rfl, rfl, bl, bm⟩ := lookTwo_ok e1
    intro p q t H1 x1 hp hq ht
    refine ⟨t, _, rfl, st_of ht, rfl, _, _, rfl, _, _, rfl, rfl, ?_⟩
    dsimp only
    have good : RetU (((lotL n xs).filter fun k => decide (k ∈ lotL n ys)).map V.int) H Q := Res.fine (r := common n xs ys) (a := (lotL n xs).filter fun k => decide (k ∈ lotL n ys)) (by unfold common onTwo; rw [e1]) h
    have w1 := lotL_len n xs
    rw [← given_filter] at good
    have hP := SqS.tup (K := K) hp
    have hQ := SqS.tup (K := K) hq
    have hl : ((lotL n xs).map V.int).length = (lotL n xs).length := List.length_map ..
    have lc := el_lcS (K := K) (H := H1) (σ := [some (.int n), some (.ref a), some (.ref b), some (.ref p), some (.ref q), none]) (tl := tVar 3) (te := tVar 5) (t := tTest (tOp (rIn K false) (tVar 5) (tVar 4))) (j := 5) (vs := [5]) (fun i => decide ((lotL n xs).getD i 0 ∈ lotL n ys)) (fun i => V.int ((lotL n xs).getD i 0)) (ev_var rfl) hP (by rw [hl]; omega) (fun x => rfl)
      (fun i x H2 e2 hx => by obtain ⟨rfl, hi⟩ := at_ints hx; exact et_in (neg := false) (ev_var rfl) (ev_var rfl) (hQ.mono e2)) (fun i x H2 e2 hx _ => by obtain ⟨rfl, hi⟩ := at_ints hx; exact ev_var rfl)
    rw [hl] at lc
    exact s_retU (D := { nx := fun _ H' => Q .non H', rt := Q }) (eu_tupleL lc) fun r H2 hr e2 h2 => good r H2 (fresh_back x1 hr) (x1.trans e2) h2
theorem has_without (T : Tx P w K mg base CO CS CN CT) (h__look_two : Has P w K mg base 5 "_look_two" ["things", "first", "second"] (spTwo K ⟨CS, CN, CT⟩)) (D : DefAt K mg "without" s_without ["things", "first", "second"]) : Has P w K mg base 6 "without" ["things", "first", "second"] (spOnTwo without K ⟨CS, CN, CT⟩) := by
  refine D.has sc_without (fun vs H Q E h => ?len) (fun f cdv A outer s H vs Q E hr h => ?body)
  case len =>
    obtain ⟨_, _, _, _, _, rfl, _, _, _⟩ := h
    rfl
  case body =>
    have tk : Takes (cxOf (L2.CX P w) P w K mg base ["things", "first", "second", "one", "two", "thing"] "without" (defScope s_without) f cdv A outer s H E) (fun cls d _ H => E cls d H) := takes_of rfl rfl rfl rfl
    obtain ⟨a, b, xs, ys, n, rfl, hA, hB, h⟩ := h
    refine ⟨_, (pss_cons (ps_asg (pe_hasR h__look_two (hr.mono (by decide)) tk (pa_cons (pv 0) (pa_cons (pv 1) (pa_cons (pv 2) pa_nil)))) (pg_tup (by rfl) (pgs_cons (pg_name (i := 3) sc_without.nd rfl (.inl rfl)) (pgs_cons (pg_name (i := 4) sc_without.nd rfl (.inr rfl)) pgs_nil))))
      (pss_one (ps_ret (pe_callTy call_tuple_of (by rfl) T.z_tuple (by decide +kernel) (pa_cons (pe_lc (own := [("thing", 5)]) rfl sc_without.nd (pi_seq (pv 3)) (blkOk_by (own := [("thing", 5)]) (N := ["things", "first", "second", "one", "two", "thing"]) (sc := defScope s_without) (by decide +kernel)) (fun _ _ _ _ _ => (pg_name (i := 5) sc_without.nd rfl (.inl rfl))) (fun _ _ _ _ _ => pts_one (pt_cmpR (op_notIn_seqK K) (pv 5) (pv 4) (by rfl))) (fun _ _ _ _ _ => (pv 5))) pa_nil))))), ?_⟩
    refine ⟨_, rfl, _, rfl, _, rfl, a, b, xs, ys, n, rfl, hA, hB, Res.of (fun r e1 => Res.err (by unfold without onTwo; rw [e1]) h) fun r e1 => ?_⟩
    obtain ⟨l, m⟩ := r
    obtain ⟨hn, rfl, rfl, bl, bm⟩ := lookTwo_ok e1
    intro p q t H1 x1 hp hq ht
    refine ⟨t, _, rfl, st_of ht, rfl, _, _, rfl, _, _, rfl, rfl, ?_⟩
    dsimp only
    have good : RetU (((lotL n xs).filter fun k => !decide (k ∈ lotL n ys)).map V.int) H Q := Res.fine (r := without n xs ys) (a := (lotL n xs).filter fun k => !decide (k ∈ lotL n ys)) (by unfold without onTwo; rw [e1]) h
    have w1 := lotL_len n xs
    rw [← given_filter] at good
    have hP := SqS.tup (K := K) hp
    have hQ := SqS.tup (K := K) hq
    have hl : ((lotL n xs).map V.int).length = (lotL n xs).length := List.length_map ..
    have lc := el_lcS (K := K) (H := H1) (σ := [some (.int n), some (.ref a), some (.ref b), some (.ref p), some (.ref q), none]) (tl := tVar 3) (te := tVar 5) (t := tTest (tOp (rIn K true) (tVar 5) (tVar 4))) (j := 5) (vs := [5]) (fun i => !decide ((lotL n xs).getD i 0 ∈ lotL n ys)) (fun i => V.int ((lotL n xs).getD i 0)) (ev_var rfl) hP (by rw [hl]; omega) (fun x => rfl)
      (fun i x H2 e2 hx => by obtain ⟨rfl, hi⟩ := at_ints hx; exact et_in (neg := true) (ev_var rfl) (ev_var rfl) (hQ.mono e2)) (fun i x H2 e2 hx _ => by obtain ⟨rfl, hi⟩ := at_ints hx; exact ev_var rfl)
    rw [hl] at lc
    exact s_retU (D := { nx := fun _ H' => Q .non H', rt := Q }) (eu_tupleL lc) fun r H2 hr e2 h2 => good r H2 (fresh_back x1 hr) (x1.trans e2) h2
theorem has_sum_of_costs (T : Tx P w K mg base CO CS CN CT) (D : DefAt K mg "sum_of_costs" s_sum_of_costs ["costs", "lot"]) : Has P w K mg base 1 "sum_of_costs" ["costs", "lot"] (spCosts K) := by
  refine D.has sc_sum_of_costs (fun vs H Q E h => ?len) (fun f cdv A outer s H vs Q E hr h => ?body)
  case len =>
    obtain ⟨_, _, _, _, rfl, _, _, _, _, _⟩ := h
    rfl
  case body =>
    have tk : Takes (cxOf (L2.CX P w) P w K mg base ["costs", "lot", "thing"] "sum_of_costs" (defScope s_sum_of_costs) f cdv A outer s H E) (fun cls d _ H => E cls d H) := takes_of rfl rfl rfl rfl
    obtain ⟨a, b, cs, l, rfl, hA, hB, hin, hlen, h⟩ := h
    refine ⟨_, (pss_one (ps_ret (pe_callB (cr_sum rfl) (by rfl) T.z_sum (by decide +kernel) (pa_cons (pe_lc (own := [("thing", 2)]) rfl sc_sum_of_costs.nd (pi_seq (pv 1)) (blkOk_by (own := [("thing", 2)]) (N := ["costs", "lot", "thing"]) (sc := defScope s_sum_of_costs) (by decide +kernel)) (fun _ _ _ _ _ => (pg_name (i := 2) sc_sum_of_costs.nd rfl (.inl rfl))) (fun _ _ _ _ _ => pts_nil) (fun _ _ _ _ _ => (pe_ix (ix_seqK K) (pv 0) (pv 2) (fun _ _ => rfl)))) pa_nil)))), ?_⟩
    have hl : (l.map V.int).length = l.length := List.length_map ..
    have lc := el_lcS (K := K) (H := H) (σ := [some (.ref a), some (.ref b), none]) (tl := tVar 1) (te := tOp (rIx K) (tVar 0) (tVar 2)) (t := tYes) (j := 2) (vs := [2]) (fun i => true) (fun i => V.int (cs.getD (l.getD i 0).toNat 0)) (ev_var rfl) hB (by rw [hl]; omega) (fun x => rfl)
      (fun i x H2 e2 hx => fun H3 e3 Q' q => q H3 (Ex.refl H3)) (fun i x H2 e2 hx _ => by
        obtain ⟨rfl, hi⟩ := at_ints hx
        have hk : 0 ≤ l.getD i 0 ∧ l.getD i 0 < cs.length := hin _ (by rw [List.getD_eq_getElem?_getD, List.getElem?_eq_getElem hi]; exact List.getElem_mem hi)
        refine ev_op (ev_var rfl) (ev_var rfl) (rv_ixS' (hA.mono e2) (at_of (j := (l.getD i 0).toNat) (by omega) ?_))
        have hj : (l.getD i 0).toNat < cs.length := by omega
        rw [List.getElem?_map, List.getElem?_eq_getElem hj, List.getD_eq_getElem?_getD (l := cs), List.getElem?_eq_getElem hj]
        rfl)
    rw [hl, given_map l (fun k => cs.getD k.toNat 0)] at lc
    exact s_ret (ev_sumL lc) h
theorem has_cost_of (T : Tx P w K mg base CO CS CN CT) (h_look_costs : Has P w K mg base 5 "look_costs" ["things", "costs"] (spLookCosts K ⟨CS, CN, CT⟩)) (h_look_lot : Has P w K mg base 4 "look_lot" ["things", "entries"] (spLookLot K ⟨CS, CN, CT⟩)) (h_look_things : Has P w K mg base 4 "look_things" ["things"] (spLookThings ⟨CS, CN, CT⟩)) (h_sum_of_costs : Has P w K mg base 1 "sum_of_costs" ["costs", "lot"] (spCosts K)) (D : DefAt K mg "cost_of" s_cost_of ["things", "costs", "lot"]) : Has P w K mg base 6 "cost_of" ["things", "costs", "lot"] (spCostOf K ⟨CS, CN, CT⟩) := by
  refine D.has sc_cost_of (fun vs H Q E h => ?len) (fun f cdv A outer s H vs Q E hr h => ?body)
  case len =>
    obtain ⟨_, _, _, _, _, rfl, _, _, _⟩ := h
    rfl
  case body =>
    have tk : Takes (cxOf (L2.CX P w) P w K mg base ["things", "costs", "lot"] "cost_of" (defScope s_cost_of) f cdv A outer s H E) (fun cls d _ H => E cls d H) := takes_of rfl rfl rfl rfl
    obtain ⟨a, b, cs, l, n, rfl, hA, hB, h⟩ := h
    refine ⟨_, (pss_cons (ps_expr (pe_hasR h_look_things (hr.mono (by decide)) tk (pa_cons (pv 0) pa_nil)))
      (pss_cons (ps_expr (pe_hasR h_look_costs (hr.mono (by decide)) tk (pa_cons (pv 0) (pa_cons (pv 1) pa_nil))))
      (pss_one (ps_ret (pe_hasN h_sum_of_costs (hr.mono (by decide)) (pa_cons (pv 1) (pa_cons (pe_hasR h_look_lot (hr.mono (by decide)) tk (pa_cons (pv 0) (pa_cons (pv 2) pa_nil))) pa_nil))))))), ?_⟩
    refine ⟨_, rfl, n, rfl, Res.of (fun r e1 => Res.err (by unfold costOf; rw [e1]) h) fun u e1 => ?_⟩
    obtain ⟨n0, n10⟩ := lookThings_ok e1
    refine fun H1 x1 => ⟨_, rfl, _, rfl, a, cs, n, rfl, hA.mono x1, Res.of (fun r e2 => Er.mono x1 (Res.err (by unfold costOf; rw [e1]; simp only; rw [e2]) h)) fun u2 e2 => ?_⟩
    refine fun H2 x2 => ⟨_, rfl, _, rfl, _, rfl, b, l, n, rfl, hB.mono (x1.trans x2), n10, Res.of (fun r e3 => Er.mono (x1.trans x2) (Res.err (by unfold costOf; rw [e1]; simp only; rw [e2]; simp only; rw [e3]) h)) fun m e3 => ?_⟩
    obtain ⟨rfl, hin⟩ := lookLot_ok e3
    have hlen := lookCosts_ok e2
    have w1 := lotL_len n l
    refine fun p H3 hp x3 h3 => ⟨a, p, cs, lotL n l, rfl, hA.mono ((x1.trans x2).trans x3), .tup h3, fun k hk => ?_, by omega, ?_⟩
    · have := (mem_lotL.mp hk).1
      omega
    · exact RetV.mono (Res.fine (r := costOf n cs l) (a := costSum cs (lotL n l)) (by unfold costOf; rw [e1]; simp only; rw [e2]; simp only; rw [e3]) h) ((x1.trans x2).trans x3)
end
end K3
namespace K3
open PySem PySem.Spec PyProof.Rows L2 Evl Nd
local macro_rules | `(tactic| walk_at "ev") => `(tactic| first
  | exact ev_var rfl
  | exact ev_c
  | (apply ev_op; (walk_at "ev"); (walk_at "ev"); (walk_at "rv"))
  | (apply ev_un; (walk_at "ev"); (walk_at "rv"))
  | (apply ev_lenS; (walk_at "ev"); (walk_at "sq"))
  | (apply ev_andV; (walk_at "ev"); (intro _; walk_at "ev"))
  | (apply ev_orV; (walk_at "ev"); (intro _; walk_at "ev"))
  | (apply ev_notV; (walk_at "ev")))
local macro_rules | `(tactic| walk_at "rv") => `(tactic| first
  | exact rv_I0
  | exact ru_neg
  | exact rv_eq rfl
  | exact rv_ne rfl
  | exact rv_I (by decide)
  | exact rv_I (by first | omega | exact .inl (by omega) | exact .inr (by omega) | (constructor <;> omega)))
local macro_rules | `(tactic| walk_at "sq") => `(tactic| first
  | assumption
  | exact SqS.lst (by assumption)
  | exact SqS.tup (by assumption)
  | exact Or.inl (by assumption)
  | exact Or.inr (by assumption)
  | (refine SqS.mono (by assumption) ?_; walk_at "sq"))
local macro_rules | `(tactic| walk_at "et") => `(tactic| first
  | (apply et_or; (walk_at "et"); (intro _; walk_at "et"))
  | (apply et_and; (walk_at "et"); (intro _; walk_at "et"))
  | (apply et_not; (walk_at "et"))
  | (apply et_test; (walk_at "ev"))
  | (apply et_B; (walk_at "ev")))
local macro_rules | `(tactic| walk_at "ea") => `(tactic| first
  | exact ea_nil
  | (apply ea_cons; (walk_at "ev"); (walk_at "ea")))
section
variable {P : Program} {w : World} {K : PySem.W.Frag} {mg : Str → Option Value} {base : Heap} {CO CS CN CT : Addr}
/-! ### the law's drawing -/
def spTake : Sp := fun vs H Q E => ∃ (p : Addr) (many salt : Int), vs = [.ref p, .int many, .int salt] ∧ 0 < many ∧ Tape H p ∧ ∀ r H2, 0 ≤ r → r < many → But p H H2 → Tape H2 p → Q (.int r) H2
def spTape (K : PySem.W.Frag) : Sp := fun vs H Q E => ∃ (a : Addr) (ns : List Int), vs = [.ref a] ∧ SqL K H a (ns.map V.int) ∧ ∀ p H2, H p = none → Ex H H2 → Tape H2 p → Q (.ref p) H2
def spInt : Sp := fun vs H Q E => ∃ z : Int, vs = [.int z] ∧ RetV (.bl true) H Q
def spEntries : Sp := fun vs H Q E => ∃ (p : Addr) (n salt : Int), vs = [.ref p, .int n, .int salt] ∧ 0 ≤ n ∧ Tape H p ∧
  ∀ q ns H2, H q = none → q ≠ p → But p H H2 → Tape H2 p → H2 q = some (.lst (List.map V.int ns)) → (∀ k ∈ ns, 0 ≤ k ∧ k < n) → ns.length ≤ 60 → Q (.ref q) H2
def spNoThing : Sp := fun vs H Q E => ∃ (p : Addr) (n salt : Int), vs = [.ref p, .int n, .int salt] ∧ 0 ≤ n ∧ n ≤ 10 ∧ Tape H p ∧ ∀ z H2, (z < 0 ∨ n ≤ z) → But p H H2 → Tape H2 p → Q (.int z) H2
theorem go_take {ta : TA} {σ : L2.St} {H : Hp} {Q : VK} {E : L2.St → XK} {p : Addr} {many salt : Int} (h : EvA ta σ H [.ref p, .int many, .int salt]) (hm : 0 < many) (ht : Tape H p) (k : ∀ r H2, 0 ≤ r → r < many → But p H H2 → Tape H2 p → Q (.int r) H2) :
    tCallS spTake E ta σ H Q := h H (Ex.refl H) _ fun H1 e1 => ⟨p, many, salt, rfl, hm, ht.mono e1, fun r H2 a b c d => k r H2 a b ((But.of e1).trans c) d⟩
theorem q_take {ta : TA} {σ : L2.St} {H : Hp} {D : Ends} {tz : TS} {E : L2.St → XK} {p : Addr} {many salt : Int} {i : Nat} (h : EvA ta σ H [.ref p, .int many, .int salt]) (hm : 0 < many) (ht : Tape H p) (k : ∀ r H2, 0 ≤ r → r < many → But p H H2 → Tape H2 p → tz D (σ.set i (some (.int r))) H2) :
    tSeq (tAsg (tCallS spTake E ta) (gName i)) tz D σ H := go_take h hm ht k
theorem q_takeEq {ta : TA} {σ : L2.St} {H : Hp} {D : Ends} {tu tw tz : TS} {E : L2.St → XK} {p : Addr} {many salt c : Int} (h : EvA ta σ H [.ref p, .int many, .int salt]) (hm : 0 < many) (ht : Tape H p)
    (k : ∀ r H2, 0 ≤ r → r < many → But p H H2 → Tape H2 p → (r = c → tu { D with nx := tz D } σ H2) ∧ (¬ r = c → tw { D with nx := tz D } σ H2)) :
    tSeq (tIfS (tTest (tOp rEq (tCallS spTake E ta) (tC (.int c)))) tu tw) tz D σ H := go_take h hm ht fun r H2 a b c' d => ⟨rfl, _, rfl, ite2 (fun e => (k r H2 a b c' d).1 (V.int.inj (of_decide_eq_true e))) (fun e => (k r H2 a b c' d).2 fun z => e (decide_eq_true (congrArg V.int z)))⟩
theorem has__law_take (T : Tx P w K mg base CO CS CN CT) (D : DefAt K mg "_law_take" s__law_take ["tape", "many", "salt"]) : Has P w K mg base 1 "_law_take" ["tape", "many", "salt"] (spTake) := by
  refine D.has sc__law_take (fun vs H Q E h => ?len) (fun f cdv A outer s H vs Q E hr h => ?body)
  case len =>
    obtain ⟨_, _, _, rfl, _, ⟨_, _⟩, _⟩ := h
    rfl
  case body =>
    have tk : Takes (cxOf (L2.CX P w) P w K mg base ["tape", "many", "salt", "digit"] "_law_take" (defScope s__law_take) f cdv A outer s H E) (fun cls d _ H => E cls d H) := takes_of rfl rfl rfl rfl
    obtain ⟨p, many, salt, rfl, hm, ⟨ds, hp⟩, h⟩ := h
    refine ⟨_, (pss_cons (ps_set (i := 3) sc__law_take.nd rfl (.inl rfl) pe_int)
      (pss_cons (ps_if (pt_cmpR op_gt (pe_callB call_len_seq (by rfl) T.z_len (by decide +kernel) (pa_cons (pv 0) pa_nil)) pe_int (nomark _)) (pss_one (ps_set (i := 3) sc__law_take.nd rfl (.inl rfl) (pe_bm0 PySem.F.plainAttrs_list PySem.F.slot_list_pop PySem.F.type_list_pop mt_pop (pv 0)))) pss_nil)
      (pss_one (ps_ret (pe_op op_modN (pe_callTy call_int1 (by rfl) T.z_int (by decide +kernel) (pa_cons (pe_op op_add (pv 3) (pv 2)) pa_nil)) (pv 1)))))), ?_⟩
    refine q_asg ev_c fun H1 e1 => ?_
    have hp1 := e1 p _ hp
    have fin : ∀ d : Int, 0 ≤ (d + salt).fmod many ∧ (d + salt).fmod many < many := fun d => ⟨Int.fmod_nonneg_of_pos _ hm, Int.fmod_lt_of_pos _ hm⟩
    refine q_when (et_test (ev_op (ev_lenS (ev_var rfl) (.lst hp1)) ev_c rv_I0)) (fun hb H2 e2 => ?a) (fun hb H2 e2 => ?b)
    case b =>
      refine s_ret (ev_op (ev_int1 (ev_op (ev_var rfl) (ev_var rfl) rv_I0)) (ev_var rfl) (rv_I (by omega))) fun H3 e3 => ?_
      exact h _ H3 (fin 0).1 (fin 0).2 (But.of ((e1.trans e2).trans e3)) ⟨ds, ((e1.trans e2).trans e3) p _ hp⟩
    case a =>
      rcases List.eq_nil_or_concat ds with rfl | ⟨d0, z, e0⟩
      · simp at hb
      obtain rfl : ds = d0 ++ [z] := by simpa using e0
      have hp2 := e2 p _ hp1
      refine ⟨.ref p, rfl, .inl ⟨rfl, _, sq_of hp2⟩, p, _, .int z, rfl, rfl, hp2, by rw [List.map_append, List.length_append, List.getElem?_append_right (by simp)]; simp, ?_⟩
      rw [List.map_append, List.map_cons, List.map_nil, List.dropLast_concat]
      refine s_ret (ev_op (ev_int1 (ev_op (ev_var rfl) (ev_var rfl) rv_I0)) (ev_var rfl) (rv_I (by omega))) fun H3 e3 => ?_
      exact h _ H3 (fin z).1 (fin z).2 ((But.of (e1.trans e2)).upd.trans (But.of e3)) ⟨d0, e3 p _ upd_same⟩
theorem has__law_tape (T : Tx P w K mg base CO CS CN CT) (D : DefAt K mg "_law_tape" s__law_tape ["script"]) : Has P w K mg base 1 "_law_tape" ["script"] (spTape K) := by
  refine D.has sc__law_tape (fun vs H Q E h => ?len) (fun f cdv A outer s H vs Q E hr h => ?body)
  case len =>
    obtain ⟨_, _, rfl, _, _⟩ := h
    rfl
  case body =>
    have tk : Takes (cxOf (L2.CX P w) P w K mg base ["script", "digits", "cell", "rest", "k"] "_law_tape" (defScope s__law_tape) f cdv A outer s H E) (fun cls d _ H => E cls d H) := takes_of rfl rfl rfl rfl
    obtain ⟨a, ns, rfl, hS, h⟩ := h
    refine ⟨_, (pss_cons (ps_set (i := 1) sc__law_tape.nd rfl (.inl rfl) (pe_lst pa_nil))
      (pss_cons (ps_for (passes_of rfl) rfl (pi_list (pe_slice sl_list (pv 0) po_none (po_some pe_int))) (pg_name (i := 2) sc__law_tape.nd rfl (.inl rfl)) (pss_cons (ps_set (i := 3) sc__law_tape.nd rfl (.inl rfl) (pe_callB call_abs (by rfl) T.z_abs (by decide +kernel) (pa_cons (pv 2) pa_nil)))
      (pss_one (ps_for (passes_of rfl) rfl (pi_range1 rfl T.z_range (pa_cons pe_int pa_nil)) (pg_name (i := 4) sc__law_tape.nd rfl (.inl rfl)) (pss_one (ps_if (pt_cmpR op_gt (pv 3) pe_int (nomark _)) (pss_cons (ps_expr (pe_bm PySem.F.plainAttrs_list PySem.F.slot_list_append PySem.F.type_list_append mt_append (pv 1) (pa_cons (pe_op op_mod (pe_callTy call_int1 (by rfl) T.z_int (by decide +kernel) (pa_cons (pv 3) pa_nil)) pe_int) pa_nil)))
      (pss_one (ps_set (i := 3) sc__law_tape.nd rfl (.inl rfl) (pe_op op_fdiv (pv 3) pe_int)))) pss_nil))))))
      (pss_one (ps_ret (pe_revL (pv 1)))))), ?_⟩
    refine q_asgL (el_lst ea_nil (by decide)) fun p H1 hp e1 g1 => ?_
    refine q_forNL (el_to 63 (ev_var rfl) ev_c (ex_l e1 hS)) (fun q i σ' H' => ∃ v2 v3 v4, σ' = [some (.ref a), some (.ref p), v2, v3, v4] ∧ Ex H H' ∧ SqL K H' q ((ns.take 63).map V.int) ∧ q ≠ p ∧ ∃ ds : List Int, H' p = some (.lst (ds.map V.int)) ∧ ds.length ≤ 14 * i)
      (fun q H2 hq e2 g2 => ⟨none, none, none, rfl, e1.trans e2, sq_of g2, (fun e => by rw [e, g1] at hq; cases hq), [], e2 p _ g1, by simp⟩) (fun q i σ' H' _ w => by obtain ⟨_, _, _, _, _, g, _⟩ := w; exact g) ?turn ?fin
    case turn =>
      rintro q i x σ' H' hx ⟨v2, v3, v4, rfl, x1, hq, hne, ds, hp', hl⟩
      obtain ⟨rfl, hi⟩ := at_ints hx
      have hi63 : i < 63 := by rw [List.length_take] at hi; omega
      refine q_asg (ev_abs (ev_var rfl)) fun H2 e2 => ?_
      refine s_forR1 (n := 14) (ea_cons ev_c ea_nil) (by omega) (fun j σ' H' => ∃ v2 z v4, σ' = [some (.ref a), some (.ref p), v2, some (.int z), v4] ∧ 0 ≤ z ∧ Ex H H' ∧ SqL K H' q ((ns.take 63).map V.int) ∧ ∃ ds : List Int, H' p = some (.lst (ds.map V.int)) ∧ ds.length ≤ 14 * i + j)
        (fun H3 e3 => ⟨_, _, v4, rfl, by split <;> omega, (x1.trans e2).trans e3, ex_l (e2.trans e3) hq, ds, (e2.trans e3) p _ hp', by omega⟩) ?turn2 ?fin2
      case turn2 =>
        rintro j σ' H3 hj ⟨v2, z, v4, rfl, z0, x3, hq3, ds, hp3, hl3⟩
        refine s_when (et_test (ev_op (ev_var rfl) ev_c rv_I0)) (fun hb H4 e4 => ?a) (fun hb H4 e4 => ?b)
        case b => exact ⟨_, z, _, rfl, z0, x3.trans e4, ex_l e4 hq3, ds, e4 p _ hp3, by omega⟩
        case a =>
          refine q_app (e4 p _ hp3) (ev_var rfl) (ev_op (ev_int1 (ev_var rfl)) ev_c (rv_mod (by decide))) (by rw [List.length_map]; omega) fun H5 e5 => ?_
          refine s_asg (ev_op (ev_var rfl) ev_c (rv_I (show CDiv z 12 from ⟨by decide, by decide⟩))) fun H6 e6 => ?_
          refine ⟨_, z / 12, _, rfl, by omega, ((x3.trans (e4.trans e5)).mut hp).trans e6, ex_l e6 (sql_upd hne (ex_l (e4.trans e5) hq3)), ds ++ [z % 12], e6 p _ (by rw [upd_same, List.map_append]; rfl), by rw [List.length_append, List.length_cons, List.length_nil]; omega⟩
      case fin2 =>
        rintro σ' H3 ⟨v2, z, v4, rfl, z0, x3, hq3, ds, hp3, hl3⟩
        exact ⟨_, _, _, rfl, x3, hq3, hne, ds, hp3, by have e : ((14 : Int)).toNat = 14 := rfl; omega⟩
    case fin =>
      rintro q σ' H' ⟨v2, v3, v4, rfl, x1, hq, hne, ds, hp', hl⟩
      refine s_retL (el_rev (ev_var rfl) (sq_of hp')) fun r H2 hr e2 g2 => ?_
      exact h r H2 (fresh_back x1 hr) (x1.trans e2) ⟨ds.reverse, by rw [g2, List.map_reverse]⟩
theorem has__law_int (T : Tx P w K mg base CO CS CN CT) (D : DefAt K mg "_law_int" s__law_int ["told"]) : HasA P w K mg base 1 "_law_int" ["told"] (spInt) := by
  refine D.hasA sc__law_int (fun vs H Q E h => ?len) (fun f cdv A outer s H vs Q E hr h => ?body)
  case len =>
    obtain ⟨_, rfl, _⟩ := h
    rfl
  case body =>
    obtain ⟨z, rfl, h⟩ := h
    refine ⟨_, (pss_one (ps_ret (pe_and (pe_callB call_isi (by rfl) T.z_isinstance (by decide +kernel) (pa_cons (pv 0) (pa_cons (pe_bltn (v := .ty "int") rfl T.z_int (by decide +kernel) rfl) pa_nil))) (pe_one (pe_not (pe_callB call_isi (by rfl) T.z_isinstance (by decide +kernel) (pa_cons (pv 0) (pa_cons (pe_bltn (v := .ty "bool") rfl T.z_bool (by decide +kernel) rfl) pa_nil)))))))), ?_⟩
    refine s_ret (ev_andV (a := true) (b := true) (ev_isi (ea_cons (ev_var rfl) (ea_cons ev_c ea_nil)) (.ty "int") (fun H1 e1 => .base (.int z)) (kit_ty (by decide +kernel))) fun _ => ev_notV (a := false) (ev_isi (ea_cons (ev_var rfl) (ea_cons ev_c ea_nil)) (.ty "bool") (fun H1 e1 => .base (.int z)) (kit_ty (by decide +kernel)))) fun H1 e1 => h H1 e1
theorem has__law_no_thing (T : Tx P w K mg base CO CS CN CT) (h__law_take : Has P w K mg base 1 "_law_take" ["tape", "many", "salt"] (spTake)) (D : DefAt K mg "_law_no_thing" s__law_no_thing ["tape", "things", "salt"]) : Has P w K mg base 2 "_law_no_thing" ["tape", "things", "salt"] (spNoThing) := by
  refine D.has sc__law_no_thing (fun vs H Q E h => ?len) (fun f cdv A outer s H vs Q E hr h => ?body)
  case len =>
    obtain ⟨_, _, _, rfl, _, _, _, _⟩ := h
    rfl
  case body =>
    have tk : Takes (cxOf (L2.CX P w) P w K mg base ["tape", "things", "salt", "kind", "step"] "_law_no_thing" (defScope s__law_no_thing) f cdv A outer s H E) (fun cls d _ H => E cls d H) := takes_of rfl rfl rfl rfl
    obtain ⟨p, n, salt, rfl, n0, n10, ht, h⟩ := h
    refine ⟨_, (pss_cons (ps_set (i := 3) sc__law_no_thing.nd rfl (.inl rfl) (pe_hasN h__law_take (hr.mono (by decide)) (pa_cons (pv 0) (pa_cons pe_int (pa_cons (pv 2) pa_nil)))))
      (pss_cons (ps_set (i := 4) sc__law_no_thing.nd rfl (.inl rfl) (pe_hasN h__law_take (hr.mono (by decide)) (pa_cons (pv 0) (pa_cons pe_int (pa_cons (pv 2) pa_nil)))))
      (pss_one (ps_ret (pe_ix ix_list (pe_lst (pa_cons (pe_op op_add (pv 1) (pv 4)) (pa_cons (pe_op op_sub (pe_un un_neg pe_int) (pv 4)) (pa_cons (pe_op op_add (pe_op op_pow pe_int pe_int) (pv 4)) pa_nil)))) (pv 3) (fun _ _ => rfl)))))), ?_⟩
    refine q_take (many := 3) (salt := salt) (ea_cons (ev_var rfl) (ea_cons ev_c (ea_cons (ev_var rfl) ea_nil))) (by decide) ht fun r H1 r0 r1 b1 t1 => ?_
    refine q_take (many := 12) (salt := salt) (ea_cons (ev_var rfl) (ea_cons ev_c (ea_cons (ev_var rfl) ea_nil))) (by decide) t1 fun s H2 s0 s1 b2 t2 => ?_
    have hten : (10:Int) ^ (20:Int).toNat = 100000000000000000000 := by decide +kernel
    have hbig : n ≤ (10:Int) ^ (20:Int).toNat + s := by omega
    have go : ∀ z : Int, (z < 0 ∨ n ≤ z) → atI [V.int (n + s), V.int (-1 - s), V.int ((10:Int) ^ (20:Int).toNat + s)] r = some (.int z) → _ := fun z hz hat =>
      s_ret (D := { nx := fun _ H' => Q .non H', rt := Q }) (ev_ixN (K := K) (H := H2) (σ := [some (.ref p), some (.int n), some (.int salt), some (.int r), some (.int s)]) (el_lst (ea_cons (ev_add (ev_var (i := 1) rfl) (ev_var (i := 4) rfl)) (ea_cons (ev_sub (ev_neg ev_c) (ev_var (i := 4) rfl)) (ea_cons (ev_add (ev_pow ev_c ev_c ⟨by decide, by decide, by decide⟩) (ev_var (i := 4) rfl)) ea_nil))) (by show 3 ≤ 100000; decide)) (fun H1 e1 => ev_var (i := 3) rfl) hat) fun H3 e3 => h z H3 hz ((b1.trans b2).trans (But.of e3)) (t2.mono e3)
    rcases (show r = 0 ∨ r = 1 ∨ r = 2 by omega) with rfl | rfl | rfl
    · exact go _ (.inr (by omega)) rfl
    · exact go _ (.inl (by omega)) rfl
    · exact go _ (.inr hbig) rfl
theorem has__law_entries (T : Tx P w K mg base CO CS CN CT) (h__law_take : Has P w K mg base 1 "_law_take" ["tape", "many", "salt"] (spTake)) (D : DefAt K mg "_law_entries" s__law_entries ["tape", "things", "salt"]) : Has P w K mg base 2 "_law_entries" ["tape", "things", "salt"] (spEntries) := by
  refine D.has sc__law_entries (fun vs H Q E h => ?len) (fun f cdv A outer s H vs Q E hr h => ?body)
  case len =>
    obtain ⟨_, _, _, rfl, _, _, _⟩ := h
    rfl
  case body =>
    have tk : Takes (cxOf (L2.CX P w) P w K mg base ["tape", "things", "salt", "many", "entries", "k"] "_law_entries" (defScope s__law_entries) f cdv A outer s H E) (fun cls d _ H => E cls d H) := takes_of rfl rfl rfl rfl
    obtain ⟨p, n, salt, rfl, n0, ht, h⟩ := h
    refine ⟨_, (pss_cons (ps_set (i := 3) sc__law_entries.nd rfl (.inl rfl) (pe_hasN h__law_take (hr.mono (by decide)) (pa_cons (pv 0) (pa_cons pe_int (pa_cons (pv 2) pa_nil)))))
      (pss_cons (ps_if (pt_cmpR op_eq (pv 1) pe_int (nomark _)) (pss_one (ps_ret (pe_lst pa_nil))) pss_nil)
      (pss_cons (ps_set (i := 4) sc__law_entries.nd rfl (.inl rfl) (pe_lst pa_nil))
      (pss_cons (ps_for (passes_of rfl) rfl (pi_range1 rfl T.z_range (pa_cons (pe_callB (call_min2 rfl) (by rfl) T.z_min (by decide +kernel) (pa_cons (pv 3) (pa_cons pe_int pa_nil))) pa_nil)) (pg_name (i := 5) sc__law_entries.nd rfl (.inl rfl)) (pss_one (ps_expr (pe_bm PySem.F.plainAttrs_list PySem.F.slot_list_append PySem.F.type_list_append mt_append (pv 4) (pa_cons (pe_hasN h__law_take (hr.mono (by decide)) (pa_cons (pv 0) (pa_cons (pv 1) (pa_cons (pe_op op_add (pv 2) (pe_op op_mul pe_int (pv 5))) pa_nil)))) pa_nil)))))
      (pss_cons (ps_if (pt_cmpR op_eq (pe_hasN h__law_take (hr.mono (by decide)) (pa_cons (pv 0) (pa_cons pe_int (pa_cons pe_int pa_nil)))) pe_int (nomark _)) (pss_one (ps_set (i := 4) sc__law_entries.nd rfl (.inl rfl) (pe_op op_cat (pv 4) (pe_slice sl_list (pv 4) po_none (po_some pe_int))))) pss_nil)
      (pss_cons (ps_if (pt_cmpR op_eq (pv 3) pe_int (nomark _)) (pss_one (ps_ret (pe_slice sl_list (pe_op op_rep (pv 4) pe_int) po_none (po_some pe_int)))) pss_nil)
      (pss_one (ps_ret (pv 4))))))))), ?_⟩
    refine q_take (many := 10) (salt := salt) (ea_cons (ev_var rfl) (ea_cons ev_c (ea_cons (ev_var rfl) ea_nil))) (by decide) ht fun m H1 m0 m1 b1 t1 => ?_
    refine q_when (et_test (ev_op (ev_var rfl) ev_c (rv_eq rfl))) (fun hb H2 e2 => ?none) (fun hb H2 e2 => ?some)
    case none =>
      refine s_retL (el_lst ea_nil (by decide)) fun q H3 hq e3 g3 => ?_
      obtain ⟨hq0, hne⟩ := (b1.trans (But.of e2)).fresh (t1.mono e2) hq
      exact h q [] H3 hq0 hne ((b1.trans (But.of e2)).trans (But.of e3)) ((t1.mono e2).mono e3) g3 (fun k hk => by simp at hk) (by simp)
    have hn : 0 < n := by
      have : ¬ (V.int n = V.int 0) := of_decide_eq_false hb
      have : n ≠ 0 := fun e => this (by rw [e])
      omega
    -- entries = []
    refine q_asgL (el_lst ea_nil (by decide)) fun q H3 hq e3 g3 => ?_
    obtain ⟨hq0, hne⟩ := (b1.trans (But.of e2)).fresh (t1.mono e2) hq
    have b3 : But p H H3 := (b1.trans (But.of e2)).trans (But.of e3)
    have t3 : Tape H3 p := (t1.mono e2).mono e3
    refine q_forR1 (n := if (8 : Int) < m then 8 else m) (ea_cons (ev_min2 (ev_var rfl) ev_c) ea_nil) (by split <;> omega) (fun i σ' H' => ∃ v5 ns, σ' = [some (.ref p), some (.int n), some (.int salt), some (.int m), some (.ref q), v5] ∧ But p H H' ∧ Tape H' p ∧ H' q = some (.lst (List.map V.int ns)) ∧ (∀ k ∈ ns, 0 ≤ k ∧ k < n) ∧ ns.length ≤ i)
      (fun H4 e4 => ⟨none, [], rfl, b3.trans (But.of e4), t3.mono e4, e4 q _ g3, fun k hk => by simp at hk, by simp⟩) ?turn ?fin
    case turn =>
      rintro i σ' H4 hi ⟨v5, ns, rfl, b4, t4, g4, hin, hl⟩
      have hi8 : i < 8 := by split at hi <;> omega
      refine ⟨.ref q, rfl, .inl ⟨rfl, _, sq_of g4⟩, ?_⟩
      refine go_take (many := n) (salt := salt + 5 * (i : Int)) (ea_cons (ev_var rfl) (ea_cons (ev_var rfl) (ea_cons (ev_op (ev_var rfl) (ev_op ev_c (ev_var rfl) (rv_I (.inl (by omega)))) rv_I0) ea_nil))) hn t4 fun r H5 r0 r1 b5 t5 => ?_
      have g5 := b5 q _ hne g4
      refine ⟨q, _, .int r, rfl, rfl, g5, sz_lt (by rw [List.length_map]; omega), ?_⟩
      refine ⟨_, ns ++ [r], rfl, (b4.trans b5).new hq0, ?_, by rw [upd_same, List.map_append]; rfl, fun k hk => ?_, by rw [List.length_append, List.length_cons, List.length_nil]; omega⟩
      · obtain ⟨ds, hd⟩ := t5
        exact ⟨ds, by rw [upd_ne (fun e => hne e.symm)]; exact hd⟩
      · rcases List.mem_append.mp hk with z | z
        · exact hin k z
        · obtain rfl : k = r := by simpa using z
          exact ⟨r0, r1⟩
    case fin =>
      rintro σ' H4 ⟨v5, ns, rfl, b4, t4, g4, hin, hl⟩
      have hl8 : ns.length ≤ 8 := by
        have : (if (8 : Int) < m then 8 else m).toNat ≤ 8 := by split <;> omega
        omega
      -- the end: from any list
      have last : ∀ (q' : Addr) (ms : List Int) (H5 : Hp), H q' = none → q' ≠ p → But p H H5 → Tape H5 p → H5 q' = some (.lst (ms.map V.int)) → (∀ k ∈ ms, 0 ≤ k ∧ k < n) → ms.length ≤ 9 →
          tSeq (tIfS (tTest (tOp rEq (tVar 3) (tC (.int 9)))) (tRet (tSl (rSlL K) (tOp rRep (tVar 4) (tC (.int 60))) tNoPart (tPart (tC (.int 60))))) tNext) (tRet (tVar 4)) { nx := fun _ H' => Q .non H', rt := Q } [some (.ref p), some (.int n), some (.int salt), some (.int m), some (.ref q'), v5] H5 := by
        intro q' ms H5 hq' hn' b5 t5 g5 hin5 hl5
        refine q_when (et_test (ev_op (ev_var rfl) ev_c (rv_eq rfl))) (fun hb H6 e6 => ?a) (fun hb H6 e6 => ?b)
        case b => exact s_ret (ev_var rfl) fun H7 e7 => h q' ms H7 hq' hn' (b5.trans (But.of (e6.trans e7))) (t5.mono (e6.trans e7)) ((e6.trans e7) q' _ g5) hin5 (by omega)
        case a =>
          have e : (List.replicate (60 : Int).toNat (ms.map V.int)).flatten = (List.replicate 60 ms).flatten.map V.int := by
            rw [List.map_flatten, List.map_replicate]
            rfl
          have r1 := el_rep (ta := tVar 4) (tb := tC (.int 60)) (σ := [some (.ref p), some (.int n), some (.int salt), some (.int m), some (.ref q'), v5]) (em_ev (ev_var rfl) (e6 q' _ g5)) ev_c (k := 60) (by omega) (by rw [List.length_map, show (60 : Int).toNat = 60 from rfl]; omega)
          rw [e] at r1
          refine s_retL (el_toN 60 r1 ev_c) fun z H7 hz e7 g7 => ?_
          have b6 := b5.trans (But.of e6)
          obtain ⟨hz0, hzn⟩ := b6.fresh (t5.mono e6) hz
          refine h z _ H7 hz0 hzn (b6.trans (But.of e7)) ((t5.mono e6).mono e7) g7 (fun k hk => ?_) (by rw [List.length_take]; omega)
          obtain ⟨l, hl', hk'⟩ := List.mem_flatten.mp (List.mem_of_mem_take hk)
          rw [List.eq_of_mem_replicate hl'] at hk'
          exact hin5 k hk'
      refine q_takeEq (many := 2) (salt := 0) (ea_cons (ev_var rfl) (ea_cons ev_c (ea_cons ev_c ea_nil))) (by decide) t4 fun r H5 r0 r1 b5 t5 => ?_
      have g5 := b5 q _ hne g4
      refine ⟨fun hb => ?a, fun hb => ?b⟩
      case b => exact last q ns H5 hq0 hne (b4.trans b5) t5 g5 hin (by omega)
      case a =>
        refine s_asgL (el_cat (em_ev (ev_var rfl) g5) (em_el (el_to 1 (ev_var rfl) ev_c (sq_of g5))) (by rw [List.length_map, List.length_map, List.length_take]; omega)) fun z H6 hz e6 g6 => ?_
        obtain ⟨hz0, hzn⟩ := (b4.trans b5).fresh t5 hz
        rw [← List.map_append] at g6
        refine last z (ns ++ ns.take 1) H6 hz0 hzn ((b4.trans b5).trans (But.of e6)) (t5.mono e6) g6 (fun k hk => ?_) (by rw [List.length_append, List.length_take]; omega)
        rcases List.mem_append.mp hk with y | y
        · exact hin k y
        · exact hin k (List.mem_of_mem_take y)
end
end K3
namespace K3
open PySem PySem.Spec PyProof.Rows L2 Evl Nd
local macro_rules | `(tactic| walk_at "ev") => `(tactic| first
  | exact ev_var rfl
  | exact ev_c
  | (apply ev_op; (walk_at "ev"); (walk_at "ev"); (walk_at "rv"))
  | (apply ev_un; (walk_at "ev"); (walk_at "rv"))
  | (apply ev_lenS; (walk_at "ev"); (walk_at "sq"))
  | (apply ev_andV; (walk_at "ev"); (intro _; walk_at "ev"))
  | (apply ev_orV; (walk_at "ev"); (intro _; walk_at "ev"))
  | (apply ev_notV; (walk_at "ev")))
local macro_rules | `(tactic| walk_at "rv") => `(tactic| first
  | exact rv_I0
  | exact ru_neg
  | exact rv_eq rfl
  | exact rv_ne rfl
  | exact rv_I (by decide)
  | exact rv_I (by first | omega | exact .inl (by omega) | exact .inr (by omega) | (constructor <;> omega)))
local macro_rules | `(tactic| walk_at "sq") => `(tactic| first
  | assumption
  | exact SqS.lst (by assumption)
  | exact SqS.tup (by assumption)
  | exact Or.inl (by assumption)
  | exact Or.inr (by assumption)
  | (refine SqS.mono (by assumption) ?_; walk_at "sq"))
local macro_rules | `(tactic| walk_at "et") => `(tactic| first
  | (apply et_or; (walk_at "et"); (intro _; walk_at "et"))
  | (apply et_and; (walk_at "et"); (intro _; walk_at "et"))
  | (apply et_not; (walk_at "et"))
  | (apply et_test; (walk_at "ev"))
  | (apply et_B; (walk_at "ev")))
local macro_rules | `(tactic| walk_at "ea") => `(tactic| first
  | exact ea_nil
  | (apply ea_cons; (walk_at "ev"); (walk_at "ea")))
section
variable {P : Program} {w : World} {K : PySem.W.Frag} {mg : Str → Option Value} {base : Heap} {CO CS CN CT : Addr}
/-! ### the law's looks at lots -/
def spIsLot (K : PySem.W.Frag) : Sp := fun vs H Q E => ∃ (a b : Addr) (ns : List Int), vs = [.ref a, .ref b] ∧ SqT K H a (ns.map V.int) ∧ SqL K H b (ns.map V.int) ∧ ns.length ≤ 100 ∧ RetV (.bl true) H Q
def spAsc (K : PySem.W.Frag) : Sp := fun vs H Q E => ∃ (a : Addr) (n : Nat) (l : List Nat), vs = [.ref a, .int (n : Int)] ∧ SqT K H a (vN l) ∧ ascB n 0 l = true ∧ RetV (.bl true) H Q
def spAllLaw : Sp := fun vs H Q E => ∃ n : Int, vs = [.int n] ∧ 0 ≤ n ∧ n ≤ 10 ∧ RetV (.bl true) H Q
theorem go_int {ts : TA} {σ : L2.St} {H : Hp} {E : L2.St → XK} {z : Int} (h : EvA ts σ H [.int z]) : Ev (tCallS spInt E ts) σ H (.bl true) := ev_callS h fun H1 e1 Q E' q => ⟨z, rfl, q⟩
theorem has__law_is_lot (T : Tx P w K mg base CO CS CN CT) (h__law_int : HasA P w K mg base 1 "_law_int" ["told"] (spInt)) (D : DefAt K mg "_law_is_lot" s__law_is_lot ["told", "due"]) : Has P w K mg base 2 "_law_is_lot" ["told", "due"] (spIsLot K) := by
  refine D.has sc__law_is_lot (fun vs H Q E h => ?len) (fun f cdv A outer s H vs Q E hr h => ?body)
  case len =>
    obtain ⟨_, _, _, rfl, _, _, _, _⟩ := h
    rfl
  case body =>
    have tk : Takes (cxOf (L2.CX P w) P w K mg base ["told", "due", "k"] "_law_is_lot" (defScope s__law_is_lot) f cdv A outer s H E) (fun cls d _ H => E cls d H) := takes_of rfl rfl rfl rfl
    obtain ⟨a, b, ns, rfl, hA, hB, hl, h⟩ := h
    refine ⟨_, (pss_cons (ps_if (PW.pt (pw_or (pt_not (pt_val (pe_callB call_isi (by rfl) T.z_isinstance (by decide +kernel) (pa_cons (pv 0) (pa_cons (pe_bltn (v := .ty "tuple") rfl T.z_tuple (by decide +kernel) rfl) pa_nil))))) (pw_or1 (pt_cmpR op_ne (pe_callB call_len_seq (by rfl) T.z_len (by decide +kernel) (pa_cons (pv 0) pa_nil)) (pe_callB call_len_seq (by rfl) T.z_len (by decide +kernel) (pa_cons (pv 1) pa_nil)) (nomark _))))) (pss_one (ps_ret pe_bl)) pss_nil)
      (pss_cons (ps_for (passes_of rfl) rfl (pi_range1 rfl T.z_range (pa_cons (pe_callB call_len_seq (by rfl) T.z_len (by decide +kernel) (pa_cons (pv 1) pa_nil)) pa_nil)) (pg_name (i := 2) sc__law_is_lot.nd rfl (.inl rfl)) (pss_one (ps_if (PW.pt (pw_or (pt_not (pt_val (pe_hasN h__law_int.has (hr.mono (by decide)) (pa_cons (pe_ix ix_tup (pv 0) (pv 2) (fun _ _ => rfl)) pa_nil)))) (pw_or1 (pt_cmpR op_ne (pe_ix ix_tup (pv 0) (pv 2) (fun _ _ => rfl)) (pe_ix ix_list (pv 1) (pv 2) (fun _ _ => rfl)) (nomark _))))) (pss_one (ps_ret pe_bl)) pss_nil)))
      (pss_one (ps_ret pe_bl)))), ?_⟩
    have hlen : (ns.map V.int).length = ns.length := List.length_map ..
    refine q_when (b := false) (et_is (et_or (et_not (et_test (ev_isi (b := true) (ea_cons (ev_var rfl) (ea_cons ev_c ea_nil)) (.ty "tuple") (fun H1 e1 => tyx_t (ex_t e1 hA)) (kit_ty (by decide +kernel))))) fun _ => et_test (ev_op (ev_lenS (ev_var rfl) (.inr hA)) (ev_lenS (ev_var rfl) (.inl hB)) (rv_ne rfl))) (by simp)) (fun hb => Bool.noConfusion hb) fun _ H1 e1 => ?_
    refine q_forR1 (n := (ns.length : Int)) (by rw [← hlen]; exact ea_cons (ev_lenS (ev_var rfl) (.inl (ex_l e1 hB))) ea_nil) (by omega) (fun i σ' H' => (∃ v, σ' = [some (.ref a), some (.ref b), v]) ∧ Ex H H') (fun H2 e2 => ⟨⟨none, rfl⟩, e1.trans e2⟩) ?turn ?fin
    case turn =>
      rintro i σ' H2 hi ⟨⟨v, rfl⟩, x2⟩
      have hat : atI (ns.map V.int) (i : Int) = some (.int (ns.getD i 0)) := atI_nat (by rw [List.getElem?_map, List.getElem?_eq_getElem (show i < ns.length by omega), List.getD_eq_getElem?_getD, List.getElem?_eq_getElem (show i < ns.length by omega)]; rfl)
      refine s_when (b := false) (et_is (et_or (et_not (et_test (go_int (ea_cons (ev_op (ev_var rfl) (ev_var rfl) (rv_ixT (ex_t x2 hA) hat)) ea_nil)))) fun _ => et_test (ev_op (ev_op (ev_var rfl) (ev_var rfl) (rv_ixT (ex_t x2 hA) hat)) (ev_op (ev_var rfl) (ev_var rfl) (rv_ixL (ex_l x2 hB) hat)) (rv_ne rfl))) (by simp)) (fun hb => Bool.noConfusion hb) fun _ H3 e3 => ?_
      exact ⟨⟨_, rfl⟩, x2.trans e3⟩
    case fin =>
      rintro σ' H2 ⟨_, x2⟩
      exact h H2 x2
theorem has__law_ascending (T : Tx P w K mg base CO CS CN CT) (h__law_int : HasA P w K mg base 1 "_law_int" ["told"] (spInt)) (D : DefAt K mg "_law_ascending" s__law_ascending ["told", "things"]) : Has P w K mg base 2 "_law_ascending" ["told", "things"] (spAsc K) := by
  refine D.has sc__law_ascending (fun vs H Q E h => ?len) (fun f cdv A outer s H vs Q E hr h => ?body)
  case len =>
    obtain ⟨_, _, _, rfl, _, _, _⟩ := h
    rfl
  case body =>
    have tk : Takes (cxOf (L2.CX P w) P w K mg base ["told", "things", "least", "thing"] "_law_ascending" (defScope s__law_ascending) f cdv A outer s H E) (fun cls d _ H => E cls d H) := takes_of rfl rfl rfl rfl
    obtain ⟨a, n, l, rfl, hA, hasc, h⟩ := h
    refine ⟨_, (pss_cons (ps_if (pt_not (pt_val (pe_callB call_isi (by rfl) T.z_isinstance (by decide +kernel) (pa_cons (pv 0) (pa_cons (pe_bltn (v := .ty "tuple") rfl T.z_tuple (by decide +kernel) rfl) pa_nil))))) (pss_one (ps_ret pe_bl)) pss_nil)
      (pss_cons (ps_set (i := 2) sc__law_ascending.nd rfl (.inl rfl) pe_int)
      (pss_cons (ps_for (passes_of rfl) rfl (pi_seq (pv 0)) (pg_name (i := 3) sc__law_ascending.nd rfl (.inl rfl)) (pss_cons (ps_if (PW.pt (pw_or (pt_not (pt_val (pe_hasN h__law_int.has (hr.mono (by decide)) (pa_cons (pv 3) pa_nil)))) (pw_or1 (pt_not (pt_chain op_le op_lt (pv 2) (pv 3) (pv 1)))))) (pss_one (ps_ret pe_bl)) pss_nil)
      (pss_one (ps_set (i := 2) sc__law_ascending.nd rfl (.inl rfl) (pe_op op_add (pv 3) pe_int)))))
      (pss_one (ps_ret pe_bl))))), ?_⟩
    refine q_when (b := false) (et_is (et_not (et_test (ev_isi (b := true) (ea_cons (ev_var rfl) (ea_cons ev_c ea_nil)) (.ty "tuple") (fun H1 e1 => tyx_t (ex_t e1 hA)) (kit_ty (by decide +kernel))))) rfl) (fun hb => Bool.noConfusion hb) fun _ H1 e1 => ?_
    refine q_asg ev_c fun H2 e2 => ?_
    refine q_forS (a := a) (H := H2) (ev_var rfl) (.inr (ex_t (e1.trans e2) hA)) (fun i σ' H' => ∃ (m : Nat) (v : Option V), σ' = [some (.ref a), some (.int (n : Int)), some (.int (m : Int)), v] ∧ ascB n m (l.drop i) = true ∧ Ex H2 H') (fun H3 e3 => ⟨0, none, rfl, hasc, e3⟩) (fun i σ' H' _ p => by obtain ⟨_, _, _, _, x⟩ := p; exact x) ?turn ?fin
    case turn =>
      rintro i x σ' H' hx ⟨m, v, rfl, hm, x2⟩
      unfold vN at hx
      rw [List.getElem?_map] at hx
      cases ez : l[i]? with
      | none => rw [ez] at hx; cases hx
      | some z =>
        rw [ez] at hx
        obtain rfl := Option.some.inj hx
        obtain ⟨hi, ez'⟩ := List.getElem?_eq_some_iff.mp ez
        rw [List.drop_eq_getElem_cons hi, ez'] at hm
        obtain ⟨h1, h2⟩ := Bool.and_eq_true_iff.mp hm
        obtain ⟨h3, h4⟩ := Bool.and_eq_true_iff.mp h1
        have h3 := of_decide_eq_true h3
        have h4 := of_decide_eq_true h4
        refine q_when (b := false) (et_is (et_or (et_not (et_test (go_int (ea_cons (ev_var rfl) ea_nil)))) fun _ => et_not (et_chain (ev_chain (zr := .non) (a := true) (b := true) (ev_var rfl) (ev_var rfl) ?c1 (fun _ => ev_var rfl) fun _ => ?c2))) rfl) (fun hb => Bool.noConfusion hb) fun _ H3 e3 => ?_
        case c1 =>
          have := rv_I0 (H := H') (g := fun i j => V.bl (decide (i ≤ j))) (i := (m : Int)) (j := (z : Int))
          rw [show decide ((m : Int) ≤ (z : Int)) = true from decide_eq_true (by omega)] at this
          exact this
        case c2 =>
          have := rv_I0 (H := H') (g := fun i j => V.bl (decide (i < j))) (i := (z : Int)) (j := (n : Int))
          rw [show decide ((z : Int) < (n : Int)) = true from decide_eq_true (by omega)] at this
          exact this
        refine s_asg (ev_add (ev_var rfl) ev_c) fun H4 e4 => ?_
        exact ⟨z + 1, _, rfl, h2, (x2.trans e3).trans e4⟩
    case fin =>
      rintro σ' H3 ⟨m, v, rfl, _, x2⟩
      exact h H3 ((e1.trans e2).trans x2)
theorem has__law_all_lots (T : Tx P w K mg base CO CS CN CT) (h__law_ascending : Has P w K mg base 2 "_law_ascending" ["told", "things"] (spAsc K)) (h_all_lots : Has P w K mg base 5 "all_lots" ["things"] (spAllLots K ⟨CS, CN, CT⟩)) (D : DefAt K mg "_law_all_lots" s__law_all_lots ["things"]) : Has P w K mg base 6 "_law_all_lots" ["things"] (spAllLaw) := by
  refine D.has sc__law_all_lots (fun vs H Q E h => ?len) (fun f cdv A outer s H vs Q E hr h => ?body)
  case len =>
    obtain ⟨_, rfl, _, _, _⟩ := h
    rfl
  case body =>
    have tk : Takes (cxOf (L2.CX P w) P w K mg base ["things", "turn", "told", "before", "k", "lot"] "_law_all_lots" (defScope s__law_all_lots) f cdv A outer s H E) (fun cls d _ H => E cls d H) := takes_of rfl rfl rfl rfl
    obtain ⟨n, rfl, n0, n10, h⟩ := h
    refine ⟨_, (pss_cons (ps_for (passes_of rfl) rfl (pi_range1 rfl T.z_range (pa_cons pe_int pa_nil)) (pg_name (i := 1) sc__law_all_lots.nd rfl (.inl rfl)) (pss_cons (ps_set (i := 2) sc__law_all_lots.nd rfl (.inl rfl) (pe_hasR h_all_lots (hr.mono (by decide)) tk (pa_cons (pv 0) pa_nil)))
      (pss_cons (ps_if (PW.pt (pw_or (pt_not (pt_val (pe_callB call_isi (by rfl) T.z_isinstance (by decide +kernel) (pa_cons (pv 2) (pa_cons (pe_bltn (v := .ty "list") rfl T.z_list (by decide +kernel) rfl) pa_nil))))) (pw_or1 (pt_cmpR op_ne (pe_callB call_len_seq (by rfl) T.z_len (by decide +kernel) (pa_cons (pv 2) pa_nil)) (pe_op op_shl pe_int (pv 0)) (nomark _))))) (pss_one (ps_ret pe_bl)) pss_nil)
      (pss_cons (ps_set (i := 3) sc__law_all_lots.nd rfl (.inl rfl) (pe_tup (pa_cons (pe_un un_neg pe_int) (pa_cons (pe_tup pa_nil) pa_nil))))
      (pss_cons (ps_for (passes_of rfl) rfl (pi_range1 rfl T.z_range (pa_cons (pe_callB call_len_seq (by rfl) T.z_len (by decide +kernel) (pa_cons (pv 2) pa_nil)) pa_nil)) (pg_name (i := 4) sc__law_all_lots.nd rfl (.inl rfl)) (pss_cons (ps_if (pt_not (pt_val (pe_hasN h__law_ascending (hr.mono (by decide)) (pa_cons (pe_ix ix_list (pv 2) (pv 4) (fun _ _ => rfl)) (pa_cons (pv 0) pa_nil))))) (pss_one (ps_ret pe_bl)) pss_nil)
      (pss_cons (ps_set (i := 5) sc__law_all_lots.nd rfl (.inl rfl) (pe_tup (pa_cons (pe_callB call_len_seq (by rfl) T.z_len (by decide +kernel) (pa_cons (pe_ix ix_list (pv 2) (pv 4) (fun _ _ => rfl)) pa_nil)) (pa_cons (pe_ix ix_list (pv 2) (pv 4) (fun _ _ => rfl)) pa_nil))))
      (pss_cons (ps_if (pt_cmpR (op_leP hr.u100) (pv 5) (pv 3) (nomark _)) (pss_one (ps_ret pe_bl)) pss_nil)
      (pss_one (ps_set (i := 3) sc__law_all_lots.nd rfl (.inl rfl) (pv 5)))))))
      (pss_cons (ps_expr (pe_bm0 PySem.F.plainAttrs_list PySem.F.slot_list_reverse PySem.F.type_list_reverse mt_reverse (pv 2)))
      (pss_one (ps_expr (pe_bm0 PySem.F.plainAttrs_list PySem.F.slot_list_pop PySem.F.type_list_pop mt_pop (pv 2))))))))))
      (pss_one (ps_ret pe_bl))), ?_⟩
    obtain ⟨N, rfl⟩ := Int.eq_ofNat_of_zero_le n0
    have hN : N ≤ 10 := by omega
    refine q_forR1 (n := 2) (ea_cons ev_c ea_nil) (by omega) (fun i σ' H' => ∃ v1 v2 v3 v4 v5, σ' = [some (.int (N : Int)), v1, v2, v3, v4, v5] ∧ Ex H H') (fun H1 e1 => ⟨none, none, none, none, none, rfl, e1⟩) ?turn ?fin
    case fin =>
      rintro σ' H1 ⟨v1, v2, v3, v4, v5, rfl, x1⟩
      exact h H1 x1
    case turn =>
      rintro i σ' H1 _ ⟨v1, v2, v3, v4, v5, rfl, x1⟩
      -- told = all_lots(things)
      refine ⟨_, rfl, (N : Int), rfl, ?_⟩
      unfold Res
      rw [lookThings_go n0 n10]
      intro p H2 rs hp x2 g2 lots
      have hp0 : H p = none := fresh_back x1 hp
      rw [Int.toNat_natCast] at lots
      have hmany : rs.length = 2 ^ N := by rw [lots.1, allN_many hN]
      have hpos : 0 < rs.length := by rw [hmany]; exact Nat.pos_of_ne_zero (by simp)
      have hfew : rs.length ≤ 1024 := by rw [lots.1]; exact allN_few hN
      refine q_when (b := false) (et_is (et_or (et_not (et_test (ev_isi (b := true) (ea_cons (ev_var rfl) (ea_cons ev_c ea_nil)) (.ty "list") (fun H3 e3 => .base (.lst (e3 p _ g2))) (kit_ty (by decide +kernel))))) fun _ => et_test (ev_op (ev_lenS (ev_var rfl) (.lst g2)) (ev_op ev_c (ev_var rfl) (rv_I (show CPow 1 (N : Int) from ⟨by omega, by omega, by decide⟩))) (rv_ne rfl))) (by rw [hmany, Int.toNat_natCast]; simp)) (fun hb => Bool.noConfusion hb) fun _ H3 e3 => ?_
      -- before = (-1, ())
      refine ⟨1, rfl, by show 0 ≤ sizeLine; decide, fun q0 hq0 => ⟨by show 2 ≤ sizeLine; decide, fun b0 hb0 => ?_⟩⟩
      have x4 : Ex H3 (upd H3 q0 (.tup [])) := Ex.new hq0
      have x5 : Ex (upd H3 q0 (.tup [])) (upd (upd H3 q0 (.tup [])) b0 (.tup [.int (-1), .ref q0])) := Ex.new hb0
      have x35 := x4.trans x5
      -- the walk
      refine q_forR1 (n := (rs.length : Int)) (ea_cons (ev_lenS (ev_var rfl) (.lst (x35 p _ (e3 p _ g2)))) ea_nil) (by omega)
        (fun k σ' H' => ∃ v1 v4 v5 b q j ms, σ' = [some (.int (N : Int)), v1, some (.ref p), some (.ref b), v4, v5] ∧ Ex H2 H' ∧ SqT K H' b [.int j, .ref q] ∧ SqT K H' q (ms.map V.int) ∧ (k = 0 → j = -1) ∧ (∀ k', k = k' + 1 → ∃ l, (allN N)[k']? = some l ∧ j = (l.length : Int) ∧ ms = iN l))
        (fun H4 e4 => ⟨_, v4, v5, b0, q0, -1, [], rfl, (e3.trans x35).trans e4, ex_t e4 (st_of upd_same), ex_t e4 (st_of (x5 q0 _ upd_same)), fun _ => rfl, fun k' hk => by omega⟩) ?walk ?done
      case walk =>
        rintro k σ' H4 hk ⟨v1, v4, v5, b, q, j, ms, rfl, x4, hb, hq, hz, hs⟩
        have hk' : k < (allN N).length := by rw [← lots.1]; omega
        obtain ⟨a, ha, hT⟩ := lots.2 k _ (List.getElem?_eq_getElem hk')
        have hat : atI rs (k : Int) = some (.ref a) := atI_nat ha
        have hT4 := ex_t x4 hT
        have hP := x4 p _ g2
        have hasc := allN_asc hN (List.getElem_mem hk')
        refine q_when (b := false) (et_is (et_not (et_test (ev_callS (sp := spAsc K) (z := .bl true) (ea_cons (ev_op (ev_var rfl) (ev_var rfl) (rv_ixL (sq_of hP) hat)) (ea_cons (ev_var rfl) ea_nil)) fun H5 e5 Q' E' q' => ⟨a, N, _, rfl, ex_t e5 hT4, hasc, q'⟩))) rfl) (fun hb => Bool.noConfusion hb) fun _ H5 e5 => ?_
        have hT5 := ex_t e5 hT4
        have hP5 := e5 p _ hP
        have hlen : (vN (allN N)[k]).length = ((allN N)[k]).length := by simp [vN]
        refine q_asgU (eu_tup (ea_cons (ev_lenS (ev_op (ev_var rfl) (ev_var rfl) (rv_ixL (sq_of hP5) hat)) (.inr hT5)) (ea_cons (ev_op (ev_var rfl) (ev_var rfl) (rv_ixL (sq_of hP5) hat)) ea_nil)) (by show 2 ≤ 100000; decide)) fun b2 H6 hb2 e6 g6 => ?_
        rw [hlen] at g6
        have hT6 : SqT K H6 a ((iN (allN N)[k]).map V.int) := by rw [← vN_is]; exact ex_t e6 hT5
        have hno : (if (((allN N)[k]).length : Int) = j then lexLe (iN (allN N)[k]) ms else decide ((((allN N)[k]).length : Int) ≤ j)) = false := by
          cases k with
          | zero =>
            rw [hz rfl, if_neg (by omega)]
            exact decide_eq_false (by omega)
          | succ k' =>
            obtain ⟨l, hl, rfl, rfl⟩ := hs k' rfl
            exact allN_next hN hl (List.getElem?_eq_getElem hk')
        have cmp := rv_leP (K := K) (H := H6) (st_of g6) (ex_t (e5.trans e6) hb) hT6 (ex_t (e5.trans e6) hq)
        rw [hno] at cmp
        refine q_when (b := false) (et_test (ev_op (ev_var rfl) (ev_var rfl) cmp)) (fun hb => Bool.noConfusion hb) fun _ H7 e7 => ?_
        refine s_asg (ev_var rfl) fun H8 e8 => ?_
        have x68 := e7.trans e8
        exact ⟨_, _, _, b2, a, _, _, rfl, ((x4.trans e5).trans e6).trans x68, ex_t x68 (st_of g6), ex_t x68 hT6, fun h0 => by omega, fun k' hk' => ⟨_, by rw [← Nat.succ.inj hk']; exact List.getElem?_eq_getElem _, rfl, rfl⟩⟩
      case done =>
        rintro σ' H4 ⟨v1, v4, v5, b, q, j, ms, rfl, x4, hb, hq, hz, hs⟩
        have hP := x4 p _ g2
        refine ⟨.ref p, rfl, .inl ⟨rfl, _, sq_of hP⟩, p, rs, rfl, rfl, hP, ?_⟩
        have hrev : rs.reverse[rs.reverse.length - 1]? = some (rs.reverse[rs.reverse.length - 1]'(by rw [List.length_reverse]; omega)) := List.getElem?_eq_getElem _
        refine ⟨.ref p, rfl, .inl ⟨rfl, _, sq_of upd_same⟩, p, _, _, rfl, rfl, upd_same, hrev, ?_⟩
        exact ⟨_, _, _, _, _, rfl, (((x1.trans x2).trans x4).mut hp0).mut hp0⟩
end
end K3
namespace K3
open PySem PySem.Spec PyProof.Rows L2 Evl Nd
local macro_rules | `(tactic| walk_at "ev") => `(tactic| first
  | exact ev_var rfl
  | exact ev_c
  | (apply ev_op; (walk_at "ev"); (walk_at "ev"); (walk_at "rv"))
  | (apply ev_un; (walk_at "ev"); (walk_at "rv"))
  | (apply ev_lenS; (walk_at "ev"); (walk_at "sq"))
  | (apply ev_andV; (walk_at "ev"); (intro _; walk_at "ev"))
  | (apply ev_orV; (walk_at "ev"); (intro _; walk_at "ev"))
  | (apply ev_notV; (walk_at "ev")))
local macro_rules | `(tactic| walk_at "rv") => `(tactic| first
  | exact rv_I0
  | exact ru_neg
  | exact rv_eq rfl
  | exact rv_ne rfl
  | exact rv_I (by decide)
  | exact rv_I (by first | omega | exact .inl (by omega) | exact .inr (by omega) | (constructor <;> omega)))
local macro_rules | `(tactic| walk_at "sq") => `(tactic| first
  | assumption
  | exact SqS.lst (by assumption)
  | exact SqS.tup (by assumption)
  | exact Or.inl (by assumption)
  | exact Or.inr (by assumption)
  | (refine SqS.mono (by assumption) ?_; walk_at "sq"))
local macro_rules | `(tactic| walk_at "et") => `(tactic| first
  | (apply et_or; (walk_at "et"); (intro _; walk_at "et"))
  | (apply et_and; (walk_at "et"); (intro _; walk_at "et"))
  | (apply et_not; (walk_at "et"))
  | (apply et_test; (walk_at "ev"))
  | (apply et_B; (walk_at "ev")))
local macro_rules | `(tactic| walk_at "ea") => `(tactic| first
  | exact ea_nil
  | (apply ea_cons; (walk_at "ev"); (walk_at "ea")))
section
variable {P : Program} {w : World} {K : PySem.W.Frag} {mg : Str → Option Value} {base : Heap} {CO CS CN CT : Addr}
/-! ### what is told of good lots -/
def spLots (K : PySem.W.Frag) : Sp := fun vs H Q E => ∃ (a b : Addr) (xs ys : List Int) (n : Int), vs = [.int n, .ref a, .ref b] ∧ SqS K H a (xs.map V.int) ∧ SqS K H b (ys.map V.int) ∧ 0 ≤ n ∧ n ≤ 10 ∧ Fit n xs ∧ Fit n ys ∧ RetV (.bl true) H Q
def spCost (K : PySem.W.Frag) : Sp := fun vs H Q E => ∃ (a b : Addr) (cs xs : List Int) (n : Int), vs = [.int n, .ref a, .ref b] ∧ SqS K H a (cs.map V.int) ∧ SqS K H b (xs.map V.int) ∧ 0 ≤ n ∧ n ≤ 10 ∧ Cost n cs ∧ Fit n xs ∧ RetV (.bl true) H Q
def spGood (K : PySem.W.Frag) : Sp := fun vs H Q E => ∃ (c a b : Addr) (cs xs ys : List Int) (n : Int), vs = [.int n, .ref c, .ref a, .ref b] ∧ SqL K H c (cs.map V.int) ∧ SqL K H a (xs.map V.int) ∧ SqL K H b (ys.map V.int) ∧
  0 ≤ n ∧ n ≤ 10 ∧ Cost n cs ∧ Fit n xs ∧ Fit n ys ∧ RetV (.bl true) H Q
section
variable {σ : L2.St} {H : Hp} {ta tb tc tu tv : TE} {D : Ends} {tz : TS} {E : L2.St → XK}
theorem ev_isLot {b : Addr} {ms : List Int} (hu : EvU tu σ H (ms.map V.int)) (hv : Ev tv σ H (.ref b)) (hb : SqL K H b (ms.map V.int)) (hl : ms.length ≤ 100) : Ev (tCallS (spIsLot K) E (tCons tu (tCons tv tNil))) σ H (.bl true) := fun H1 e Q q =>
  hu H1 e _ fun p H2 hp e2 g => hv H2 (e.trans e2) _ fun H3 e3 => ⟨p, b, ms, rfl, st_of (e3 p _ g), ex_l ((e.trans e2).trans e3) hb, hl, fun H4 e4 => q H4 ((e2.trans e3).trans e4)⟩
theorem q_kept3 {i : Nat} {xs ys zs : List V} (ha : EvL ta σ H xs) (hb : EvL tb σ H ys) (hc : EvL tc σ H zs)
    (k : ∀ p q r t H1, Ex H H1 → H1 p = some (.lst xs) → H1 q = some (.lst ys) → H1 r = some (.lst zs) → H1 t = some (.tup [.ref p, .ref q, .ref r]) → tz D (σ.set i (some (.ref t))) H1) :
    tSeq (tAsg (tTup (tCons ta (tCons tb (tCons tc tNil)))) (gName i)) tz D σ H :=
  ha H (Ex.refl H) _ fun p H1 hp e1 g1 => hb H1 e1 _ fun q H2 hq e2 g2 => hc H2 (e1.trans e2) _ fun r H3 hr e3 g3 => ⟨by show 3 ≤ sizeLine; decide, fun t ht => by
    have e4 : Ex H3 (upd H3 t (.tup [.ref p, .ref q, .ref r])) := Ex.new ht
    exact k p q r t _ (((e1.trans e2).trans e3).trans e4) (e4 p _ (e3 p _ (e2 p _ g1))) (e4 q _ (e3 q _ g2)) (e4 r _ g3) upd_same⟩
/-- f(v, t, u) with two new tuples -/
theorem ev_call2U {sp : Sp} {x z : V} {xs ys : List V} (hv : Ev tv σ H x) (ha : EvU ta σ H xs) (hb : EvU tb σ H ys) (hs : ∀ p q H1, Ex H H1 → H1 p = some (.tup xs) → H1 q = some (.tup ys) → ∀ (Q : VK) (E' : XK), RetV z H1 Q → sp [x, .ref p, .ref q] H1 Q E') :
    Ev (tCallS sp E (tCons tv (tCons ta (tCons tb tNil)))) σ H z := fun H0 e Q k => hv H0 e _ fun H1 e1 => ha H1 (e.trans e1) _ fun p H2 hp e2 g2 => hb H2 ((e.trans e1).trans e2) _ fun q H3 hq e3 g3 =>
  hs p q H3 (((e.trans e1).trans e2).trans e3) (e3 p _ g2) g3 Q (E σ) fun H4 e4 => k H4 (((e1.trans e2).trans e3).trans e4)
end
theorem has__law_lots (T : Tx P w K mg base CO CS CN CT) (h__law_is_lot : Has P w K mg base 2 "_law_is_lot" ["told", "due"] (spIsLot K)) (h_common : Has P w K mg base 6 "common" ["things", "first", "second"] (spOnTwo common K ⟨CS, CN, CT⟩)) (h_joined : Has P w K mg base 6 "joined" ["things", "first", "second"] (spOnTwo joined K ⟨CS, CN, CT⟩)) (h_lot_of : Has P w K mg base 5 "lot_of" ["things", "entries"] (spLotOf K ⟨CS, CN, CT⟩)) (h_without : Has P w K mg base 6 "without" ["things", "first", "second"] (spOnTwo without K ⟨CS, CN, CT⟩)) (D : DefAt K mg "_law_lots" s__law_lots ["things", "one", "other"]) : Has P w K mg base 7 "_law_lots" ["things", "one", "other"] (spLots K) := by
  refine D.has sc__law_lots (fun vs H Q E h => ?len) (fun f cdv A outer s H vs Q E hr h => ?body)
  case len =>
    obtain ⟨_, _, _, _, _, rfl, _, _, _, _, _, _, _⟩ := h
    rfl
  case body =>
    have tk : Takes (cxOf (L2.CX P w) P w K mg base ["things", "one", "other", "first", "due", "k"] "_law_lots" (defScope s__law_lots) f cdv A outer s H E) (fun cls d _ H => E cls d H) := takes_of rfl rfl rfl rfl
    obtain ⟨a, b, xs, ys, n, rfl, hA, hB, n0, n10, fx, fy, h⟩ := h
    refine ⟨_, (pss_cons (ps_setLc (i := 3) (own := [("k", 5)]) rfl sc__law_lots.nd rfl rfl (sw_true rfl rfl rfl (by decide +kernel)) (pi_range1 rfl T.z_range (pa_cons (pv 0) pa_nil)) (blkOk_by (own := [("k", 5)]) (N := ["things", "one", "other", "first", "due", "k"]) (sc := defScope s__law_lots) (by decide +kernel)) (fun _ _ _ _ _ => (pg_name (i := 5) sc__law_lots.nd rfl (.inl rfl))) (fun _ _ _ _ _ => pts_one (pt_cmpR (op_in_seqK K) (pv 5) (pv 1) (by rfl))) (fun _ _ _ _ _ => (pv 5)))
      (pss_cons (ps_if (pt_not (pt_val (pe_hasN h__law_is_lot (hr.mono (by decide)) (pa_cons (pe_hasR h_lot_of (hr.mono (by decide)) tk (pa_cons (pv 0) (pa_cons (pv 1) pa_nil))) (pa_cons (pv 3) pa_nil))))) (pss_one (ps_ret pe_bl)) pss_nil)
      (pss_cons (ps_setLc (i := 4) (own := [("k", 5)]) rfl sc__law_lots.nd rfl rfl (sw_true rfl rfl rfl (by decide +kernel)) (pi_range1 rfl T.z_range (pa_cons (pv 0) pa_nil)) (blkOk_by (own := [("k", 5)]) (N := ["things", "one", "other", "first", "due", "k"]) (sc := defScope s__law_lots) (by decide +kernel)) (fun _ _ _ _ _ => (pg_name (i := 5) sc__law_lots.nd rfl (.inl rfl))) (fun _ _ _ _ _ => pts_one (PW.pt (pw_or (pt_cmpR (op_in_seqK K) (pv 5) (pv 1) (by rfl)) (pw_or1 (pt_cmpR (op_in_seqK K) (pv 5) (pv 2) (by rfl)))))) (fun _ _ _ _ _ => (pv 5)))
      (pss_cons (ps_if (pt_not (pt_val (pe_hasN h__law_is_lot (hr.mono (by decide)) (pa_cons (pe_hasR h_joined (hr.mono (by decide)) tk (pa_cons (pv 0) (pa_cons (pv 1) (pa_cons (pv 2) pa_nil)))) (pa_cons (pv 4) pa_nil))))) (pss_one (ps_ret pe_bl)) pss_nil)
      (pss_cons (ps_setLc (i := 4) (own := [("k", 5)]) rfl sc__law_lots.nd rfl rfl (sw_true rfl rfl rfl (by decide +kernel)) (pi_list (pv 3)) (blkOk_by (own := [("k", 5)]) (N := ["things", "one", "other", "first", "due", "k"]) (sc := defScope s__law_lots) (by decide +kernel)) (fun _ _ _ _ _ => (pg_name (i := 5) sc__law_lots.nd rfl (.inl rfl))) (fun _ _ _ _ _ => pts_one (pt_cmpR (op_in_seqK K) (pv 5) (pv 2) (by rfl))) (fun _ _ _ _ _ => (pv 5)))
      (pss_cons (ps_if (pt_not (pt_val (pe_hasN h__law_is_lot (hr.mono (by decide)) (pa_cons (pe_hasR h_common (hr.mono (by decide)) tk (pa_cons (pv 0) (pa_cons (pv 1) (pa_cons (pv 2) pa_nil)))) (pa_cons (pv 4) pa_nil))))) (pss_one (ps_ret pe_bl)) pss_nil)
      (pss_cons (ps_setLc (i := 4) (own := [("k", 5)]) rfl sc__law_lots.nd rfl rfl (sw_true rfl rfl rfl (by decide +kernel)) (pi_list (pv 3)) (blkOk_by (own := [("k", 5)]) (N := ["things", "one", "other", "first", "due", "k"]) (sc := defScope s__law_lots) (by decide +kernel)) (fun _ _ _ _ _ => (pg_name (i := 5) sc__law_lots.nd rfl (.inl rfl))) (fun _ _ _ _ _ => pts_one (pt_cmpR (op_notIn_seqK K) (pv 5) (pv 2) (by rfl))) (fun _ _ _ _ _ => (pv 5)))
      (pss_one (ps_ret (pe_hasN h__law_is_lot (hr.mono (by decide)) (pa_cons (pe_hasR h_without (hr.mono (by decide)) tk (pa_cons (pv 0) (pa_cons (pv 1) (pa_cons (pv 2) pa_nil)))) (pa_cons (pv 4) pa_nil)))))))))))), ?_⟩
    have lx := lotL_len n xs
    -- first
    have l1 := el_lcR1 (H := H) (σ := [some (.int n), some (.ref a), some (.ref b), none, none, none]) (te := tVar 5) (t := tTest (tOp (rIn K false) (tVar 5) (tVar 1))) (j := 5) (vs := [5]) (n := n) (fun i => decide ((i : Int) ∈ xs)) (fun i => V.int (i : Int)) (ea_cons (ev_var (i := 0) rfl) ea_nil) (by omega) (fun x => rfl)
      (fun i H1 e1 hi => et_in (neg := false) (ev_var rfl) (ev_var rfl) (hA.mono e1)) (fun i H1 e1 hi _ => ev_var rfl)
    rw [given_nums n (fun k => decide (k ∈ xs))] at l1
    refine q_asgL l1 fun p H1 hp e1 g1 => ?_
    refine q_when (b := false) (et_is (et_not (et_test (ev_isLot (ms := lotL n xs) (eu_callS (ea_cons (ev_var rfl) (ea_cons (ev_var rfl) ea_nil)) fun H2 e2 Q' E' q' => ⟨a, xs, n, rfl, hA.mono (e1.trans e2), by rw [lotOf_go n0 n10 fx]; exact q'⟩) (ev_var rfl) (sq_of g1) (by omega)))) rfl) (fun hb => Bool.noConfusion hb) fun _ H2 e2 => ?_
    -- joined
    have l2 := el_lcR1 (H := H2) (σ := [some (.int n), some (.ref a), some (.ref b), some (.ref p), none, none]) (te := tVar 5) (t := tOr (tTest (tOp (rIn K false) (tVar 5) (tVar 1))) (tTest (tOp (rIn K false) (tVar 5) (tVar 2)))) (j := 5) (vs := [5]) (n := n) (fun i => decide ((i : Int) ∈ xs) || decide ((i : Int) ∈ ys)) (fun i => V.int (i : Int)) (ea_cons (ev_var (i := 0) rfl) ea_nil) (by omega) (fun x => rfl)
      (fun i H3 e3 hi => et_or (et_in (neg := false) (ev_var rfl) (ev_var rfl) (hA.mono ((e1.trans e2).trans e3))) fun _ => et_in (neg := false) (ev_var rfl) (ev_var rfl) (hB.mono ((e1.trans e2).trans e3))) (fun i H1 e1 hi _ => ev_var rfl)
    rw [given_nums n (fun k => decide (k ∈ xs) || decide (k ∈ ys))] at l2
    have len2 : ((nums n).filter fun k => decide (k ∈ xs) || decide (k ∈ ys)).length ≤ 100 := by
      have := List.length_filter_le (fun k => decide (k ∈ xs) || decide (k ∈ ys)) (nums n)
      have := nums_len n
      omega
    refine q_asgL l2 fun p2 H3 hp2 e3 g2 => ?_
    have x3 := (e1.trans e2).trans e3
    refine q_when (b := false) (et_is (et_not (et_test (ev_isLot (ms := (nums n).filter fun k => decide (k ∈ xs) || decide (k ∈ ys)) (eu_callS (ea_cons (ev_var rfl) (ea_cons (ev_var rfl) (ea_cons (ev_var rfl) ea_nil))) fun H4 e4 Q' E' q' => ⟨a, b, xs, ys, n, rfl, hA.mono (x3.trans e4), hB.mono (x3.trans e4), by rw [joined_go n0 n10 fx fy]; exact q'⟩) (ev_var rfl) (sq_of g2) len2))) rfl) (fun hb => Bool.noConfusion hb) fun _ H4 e4 => ?_
    -- common
    have hl : ((lotL n xs).map V.int).length = (lotL n xs).length := List.length_map ..
    have gF : SqL K H4 p ((lotL n xs).map V.int) := sq_of ((e2.trans (e3.trans e4)) p _ g1)
    have l3 := el_lcL (K := K) (H := H4) (σ := [some (.int n), some (.ref a), some (.ref b), some (.ref p), some (.ref p2), none]) (tl := tVar 3) (te := tVar 5) (t := tTest (tOp (rIn K false) (tVar 5) (tVar 2))) (j := 5) (vs := [5]) (fun i => decide ((lotL n xs).getD i 0 ∈ ys)) (fun i => V.int ((lotL n xs).getD i 0)) (ev_var rfl) gF (by rw [hl]; omega) (fun x => rfl)
      (fun i x H5 e5 hx => by obtain ⟨rfl, hi⟩ := at_ints hx; exact et_in (neg := false) (ev_var rfl) (ev_var rfl) (hB.mono ((x3.trans e4).trans e5))) (fun i x H5 e5 hx _ => by obtain ⟨rfl, hi⟩ := at_ints hx; exact ev_var rfl)
    rw [hl, given_filter (lotL n xs) (fun k => decide (k ∈ ys))] at l3
    have len3 : ((lotL n xs).filter fun k => decide (k ∈ ys)).length ≤ 100 := by
      have := List.length_filter_le (fun k => decide (k ∈ ys)) (lotL n xs)
      omega
    refine q_asgL l3 fun p3 H5 hp3 e5 g3 => ?_
    have x5 := (x3.trans e4).trans e5
    refine q_when (b := false) (et_is (et_not (et_test (ev_isLot (ms := (lotL n xs).filter fun k => decide (k ∈ ys)) (eu_callS (ea_cons (ev_var rfl) (ea_cons (ev_var rfl) (ea_cons (ev_var rfl) ea_nil))) fun H6 e6 Q' E' q' => ⟨a, b, xs, ys, n, rfl, hA.mono (x5.trans e6), hB.mono (x5.trans e6), by rw [common_go n0 n10 fx fy]; exact q'⟩) (ev_var rfl) (sq_of g3) len3))) rfl) (fun hb => Bool.noConfusion hb) fun _ H6 e6 => ?_
    -- without
    have gG : SqL K H6 p ((lotL n xs).map V.int) := ex_l (e5.trans e6) gF
    have l4 := el_lcL (K := K) (H := H6) (σ := [some (.int n), some (.ref a), some (.ref b), some (.ref p), some (.ref p3), none]) (tl := tVar 3) (te := tVar 5) (t := tTest (tOp (rIn K true) (tVar 5) (tVar 2))) (j := 5) (vs := [5]) (fun i => !decide ((lotL n xs).getD i 0 ∈ ys)) (fun i => V.int ((lotL n xs).getD i 0)) (ev_var rfl) gG (by rw [hl]; omega) (fun x => rfl)
      (fun i x H7 e7 hx => by obtain ⟨rfl, hi⟩ := at_ints hx; exact et_in (neg := true) (ev_var rfl) (ev_var rfl) (hB.mono ((x5.trans e6).trans e7))) (fun i x H5 e5 hx _ => by obtain ⟨rfl, hi⟩ := at_ints hx; exact ev_var rfl)
    rw [hl, given_filter (lotL n xs) (fun k => !decide (k ∈ ys))] at l4
    have len4 : ((lotL n xs).filter fun k => !decide (k ∈ ys)).length ≤ 100 := by
      have := List.length_filter_le (fun k => !decide (k ∈ ys)) (lotL n xs)
      omega
    refine q_asgL l4 fun p4 H7 hp4 e7 g4 => ?_
    have x7 := (x5.trans e6).trans e7
    exact s_ret (ev_isLot (ms := (lotL n xs).filter fun k => !decide (k ∈ ys)) (eu_callS (ea_cons (ev_var rfl) (ea_cons (ev_var rfl) (ea_cons (ev_var rfl) ea_nil))) fun H8 e8 Q' E' q' => ⟨a, b, xs, ys, n, rfl, hA.mono (x7.trans e8), hB.mono (x7.trans e8), by rw [without_go n0 n10 fx fy]; exact q'⟩) (ev_var rfl) (sq_of g4) len4) fun H8 e8 => h H8 (x7.trans e8)
theorem has__law_cost (T : Tx P w K mg base CO CS CN CT) (h__law_int : HasA P w K mg base 1 "_law_int" ["told"] (spInt)) (h_cost_of : Has P w K mg base 6 "cost_of" ["things", "costs", "lot"] (spCostOf K ⟨CS, CN, CT⟩)) (D : DefAt K mg "_law_cost" s__law_cost ["things", "costs", "one"]) : Has P w K mg base 7 "_law_cost" ["things", "costs", "one"] (spCost K) := by
  refine D.has sc__law_cost (fun vs H Q E h => ?len) (fun f cdv A outer s H vs Q E hr h => ?body)
  case len =>
    obtain ⟨_, _, _, _, _, rfl, _, _, _, _, _, _, _⟩ := h
    rfl
  case body =>
    have tk : Takes (cxOf (L2.CX P w) P w K mg base ["things", "costs", "one", "due", "thing", "told"] "_law_cost" (defScope s__law_cost) f cdv A outer s H E) (fun cls d _ H => E cls d H) := takes_of rfl rfl rfl rfl
    obtain ⟨a, b, cs, xs, n, rfl, hA, hB, n0, n10, hc, fx, h⟩ := h
    refine ⟨_, (pss_cons (ps_set (i := 3) sc__law_cost.nd rfl (.inl rfl) pe_int)
      (pss_cons (ps_for (passes_of rfl) rfl (pi_range1 rfl T.z_range (pa_cons (pv 0) pa_nil)) (pg_name (i := 4) sc__law_cost.nd rfl (.inl rfl)) (pss_one (ps_if (pt_cmpR op_in_seq (pv 4) (pv 2) (by rfl)) (pss_one (ps_set (i := 3) sc__law_cost.nd rfl (.inl rfl) (pe_op op_add (pv 3) (pe_ix ix_seq (pv 1) (pv 4) (fun _ _ => rfl))))) pss_nil)))
      (pss_cons (ps_set (i := 5) sc__law_cost.nd rfl (.inl rfl) (pe_hasR h_cost_of (hr.mono (by decide)) tk (pa_cons (pv 0) (pa_cons (pv 1) (pa_cons (pv 2) pa_nil)))))
      (pss_one (ps_ret (pe_and (pe_hasN h__law_int.has (hr.mono (by decide)) (pa_cons (pv 5) pa_nil)) (pe_one (pe_cmpR op_eq (pv 5) (pv 3) (nomark _))))))))), ?_⟩
    refine q_asg ev_c fun H1 e1 => ?_
    refine q_forR1 (n := n) (ea_cons (ev_var rfl) ea_nil) (by omega) (fun i σ' H' => ∃ v, σ' = [some (.int n), some (.ref a), some (.ref b), some (.int (dueTo cs xs i)), v, none] ∧ Ex H H') (fun H2 e2 => ⟨none, rfl, e1.trans e2⟩) ?turn ?fin
    case turn =>
      rintro i σ' H2 hi ⟨v, rfl, x2⟩
      have hic : i < cs.length := by have := hc.1; omega
      have hat : atI (cs.map V.int) (i : Int) = some (.int (cs.getD i 0)) := atI_nat (by rw [List.getElem?_map, List.getElem?_eq_getElem hic, List.getD_eq_getElem?_getD, List.getElem?_eq_getElem hic]; rfl)
      refine s_when (et_in (neg := false) (z := (i : Int)) (ns := xs) (ev_var rfl) (ev_var rfl) (hB.mono x2)) (fun hb H3 e3 => ?a) (fun hb H3 e3 => ?b)
      case a =>
        have hm : (i : Int) ∈ xs := of_decide_eq_true hb
        refine s_asg (ev_add (ev_var rfl) (ev_op (ev_var rfl) (ev_var rfl) (rv_ixS' (hA.mono (x2.trans e3)) hat))) fun H4 e4 => ?_
        refine ⟨some (.int (i : Int)), ?_, (x2.trans e3).trans e4⟩
        rw [dueTo_succ, if_pos hm]
        rfl
      case b =>
        have hm : ¬ (i : Int) ∈ xs := of_decide_eq_false hb
        refine ⟨some (.int (i : Int)), ?_, x2.trans e3⟩
        rw [dueTo_succ, if_neg hm, Int.add_zero]
        rfl
    case fin =>
      rintro σ' H2 ⟨v, rfl, x2⟩
      rw [dueTo_all]
      refine q_asg (v := .int (costSum cs (lotL n xs))) (ev_callS (ea_cons (ev_var rfl) (ea_cons (ev_var rfl) (ea_cons (ev_var rfl) ea_nil))) fun H3 e3 Q' E' q' => ⟨a, b, cs, xs, n, rfl, hA.mono (x2.trans e3), hB.mono (x2.trans e3), by rw [costOf_go n0 n10 hc fx]; exact q'⟩) fun H3 e3 => ?_
      refine s_ret (ev_andV (a := true) (b := true) (go_int (ea_cons (ev_var rfl) ea_nil)) fun _ => ev_is (ev_op (ev_var rfl) (ev_var rfl) (rv_eq rfl)) (by simp)) fun H4 e4 => h H4 ((x2.trans e3).trans e4)
theorem has__law_good (T : Tx P w K mg base CO CS CN CT) (h__law_cost : Has P w K mg base 7 "_law_cost" ["things", "costs", "one"] (spCost K)) (h__law_lots : Has P w K mg base 7 "_law_lots" ["things", "one", "other"] (spLots K)) (D : DefAt K mg "_law_good" s__law_good ["things", "costs", "one", "other"]) : Has P w K mg base 8 "_law_good" ["things", "costs", "one", "other"] (spGood K) := by
  refine D.has sc__law_good (fun vs H Q E h => ?len) (fun f cdv A outer s H vs Q E hr h => ?body)
  case len =>
    obtain ⟨_, _, _, _, _, _, _, rfl, _, _, _, _, _, _, _, _, _⟩ := h
    rfl
  case body =>
    have tk : Takes (cxOf (L2.CX P w) P w K mg base ["things", "costs", "one", "other", "kept"] "_law_good" (defScope s__law_good) f cdv A outer s H E) (fun cls d _ H => E cls d H) := takes_of rfl rfl rfl rfl
    obtain ⟨c, a, b, cs, xs, ys, n, rfl, hC, hA, hB, n0, n10, hc, fx, fy, h⟩ := h
    refine ⟨_, (pss_cons (ps_set (i := 4) sc__law_good.nd rfl (.inl rfl) (pe_tup (pa_cons (pe_callTy call_list_of (by rfl) T.z_list (by decide +kernel) (pa_cons (pv 1) pa_nil)) (pa_cons (pe_callTy call_list_of (by rfl) T.z_list (by decide +kernel) (pa_cons (pv 2) pa_nil)) (pa_cons (pe_callTy call_list_of (by rfl) T.z_list (by decide +kernel) (pa_cons (pv 3) pa_nil)) pa_nil)))))
      (pss_cons (ps_if (pt_not (pt_val (pe_hasR h__law_lots (hr.mono (by decide)) tk (pa_cons (pv 0) (pa_cons (pv 2) (pa_cons (pv 3) pa_nil)))))) (pss_one (ps_ret pe_bl)) pss_nil)
      (pss_cons (ps_if (PW.pt (pw_or (pt_not (pt_val (pe_hasR h__law_lots (hr.mono (by decide)) tk (pa_cons (pv 0) (pa_cons (pv 3) (pa_cons (pv 2) pa_nil)))))) (pw_or1 (pt_not (pt_val (pe_hasR h__law_lots (hr.mono (by decide)) tk (pa_cons (pv 0) (pa_cons (pv 2) (pa_cons (pv 2) pa_nil))))))))) (pss_one (ps_ret pe_bl)) pss_nil)
      (pss_cons (ps_if (pt_not (pt_val (pe_hasR h__law_lots (hr.mono (by decide)) tk (pa_cons (pv 0) (pa_cons (pe_callTy call_tuple_of (by rfl) T.z_tuple (by decide +kernel) (pa_cons (pv 2) pa_nil)) (pa_cons (pe_callTy call_tuple_of (by rfl) T.z_tuple (by decide +kernel) (pa_cons (pv 3) pa_nil)) pa_nil)))))) (pss_one (ps_ret pe_bl)) pss_nil)
      (pss_cons (ps_if (pt_not (pt_val (pe_hasR h__law_cost (hr.mono (by decide)) tk (pa_cons (pv 0) (pa_cons (pv 1) (pa_cons (pv 2) pa_nil)))))) (pss_one (ps_ret pe_bl)) pss_nil)
      (pss_cons (ps_if (pt_not (pt_val (pe_hasR h__law_cost (hr.mono (by decide)) tk (pa_cons (pv 0) (pa_cons (pe_callTy call_tuple_of (by rfl) T.z_tuple (by decide +kernel) (pa_cons (pv 1) pa_nil)) (pa_cons (pe_callTy call_tuple_of (by rfl) T.z_tuple (by decide +kernel) (pa_cons (pv 3) pa_nil)) pa_nil)))))) (pss_one (ps_ret pe_bl)) pss_nil)
      (pss_one (ps_ret (pe_cmpR (op_eqD hr.units) (pe_tup (pa_cons (pv 1) (pa_cons (pv 2) (pa_cons (pv 3) pa_nil)))) (pv 4) (nomark _)))))))))), ?_⟩
    refine q_kept3 (el_list (ev_var rfl) hC) (el_list (ev_var rfl) hA) (el_list (ev_var rfl) hB) fun p q r t H1 e1 g1 g2 g3 g4 => ?_
    have SC := SqS.mono e1 (.inl hC)
    have SA := SqS.mono e1 (.inl hA)
    have SB := SqS.mono e1 (.inl hB)
    have LC := ex_l e1 hC
    have LA := ex_l e1 hA
    have LB := ex_l e1 hB
    refine q_when (b := false) (et_is (et_not (et_test (ev_callS (sp := spLots K) (z := .bl true) (ea_cons (ev_var rfl) (ea_cons (ev_var rfl) (ea_cons (ev_var rfl) ea_nil))) fun H2 e2 Q' E' q' => ⟨a, b, xs, ys, n, rfl, SA.mono e2, SB.mono e2, n0, n10, fx, fy, q'⟩))) rfl) (fun hb => Bool.noConfusion hb) fun _ H2 e2 => ?_
    refine q_when (b := false) (et_is (et_or (et_not (et_test (ev_callS (sp := spLots K) (z := .bl true) (ea_cons (ev_var rfl) (ea_cons (ev_var rfl) (ea_cons (ev_var rfl) ea_nil))) fun H3 e3 Q' E' q' => ⟨b, a, ys, xs, n, rfl, SB.mono (e2.trans e3), SA.mono (e2.trans e3), n0, n10, fy, fx, q'⟩))) fun _ => et_not (et_test (ev_callS (sp := spLots K) (z := .bl true) (ea_cons (ev_var rfl) (ea_cons (ev_var rfl) (ea_cons (ev_var rfl) ea_nil))) fun H3 e3 Q' E' q' => ⟨a, a, xs, xs, n, rfl, SA.mono (e2.trans e3), SA.mono (e2.trans e3), n0, n10, fx, fx, q'⟩))) rfl) (fun hb => Bool.noConfusion hb) fun _ H3 e3 => ?_
    refine q_when (b := false) (et_is (et_not (et_test (ev_call2U (sp := spLots K) (z := .bl true) (ev_var rfl) (eu_tuple (ev_var rfl) (ex_l (e2.trans e3) LA)) (eu_tuple (ev_var rfl) (ex_l (e2.trans e3) LB)) fun p' q' H4 e4 g5 g6 Q' E' k => ⟨p', q', xs, ys, n, rfl, .tup g5, .tup g6, n0, n10, fx, fy, k⟩))) rfl) (fun hb => Bool.noConfusion hb) fun _ H4 e4 => ?_
    have x4 := (e2.trans e3).trans e4
    refine q_when (b := false) (et_is (et_not (et_test (ev_callS (sp := spCost K) (z := .bl true) (ea_cons (ev_var rfl) (ea_cons (ev_var rfl) (ea_cons (ev_var rfl) ea_nil))) fun H5 e5 Q' E' q' => ⟨c, a, cs, xs, n, rfl, SC.mono (x4.trans e5), SA.mono (x4.trans e5), n0, n10, hc, fx, q'⟩))) rfl) (fun hb => Bool.noConfusion hb) fun _ H5 e5 => ?_
    refine q_when (b := false) (et_is (et_not (et_test (ev_call2U (sp := spCost K) (z := .bl true) (ev_var rfl) (eu_tuple (ev_var rfl) (ex_l (x4.trans e5) LC)) (eu_tuple (ev_var rfl) (ex_l (x4.trans e5) LB)) fun p' q' H6 e6 g5 g6 Q' E' k => ⟨p', q', cs, ys, n, rfl, .tup g5, .tup g6, n0, n10, hc, fy, k⟩))) rfl) (fun hb => Bool.noConfusion hb) fun _ H6 e6 => ?_
    have x6 := (x4.trans e5).trans e6
    have eq3 := eqv3 cs xs ys
    refine s_ret (ev_opUV (eu_tup (ea_cons (ev_var rfl) (ea_cons (ev_var rfl) (ea_cons (ev_var rfl) ea_nil))) (by show 3 ≤ 100000; decide)) (ev_var rfl) fun u H7 g7 e7 => ?_) fun H8 e8 => h H8 ((e1.trans x6).trans e8)
    refine rv_eqD (.tup (st_of g7) (.cons (.lst (ex_l (x6.trans e7) LC) (dp_ints cs)) (.cons (.lst (ex_l (x6.trans e7) LA) (dp_ints xs)) (.cons (.lst (ex_l (x6.trans e7) LB) (dp_ints ys)) .nil))))
      (.tup (st_of ((x6.trans e7) t _ g4)) (.cons (.lst (sq_of ((x6.trans e7) p _ g1)) (dp_ints cs)) (.cons (.lst (sq_of ((x6.trans e7) q _ g2)) (dp_ints xs)) (.cons (.lst (sq_of ((x6.trans e7) r _ g3)) (dp_ints ys)) .nil)))) (shaped3 cs xs ys) (shaped3 cs xs ys) eq3
end
end K3
namespace K3
open PySem PySem.Spec PyProof.Rows L2 Evl Nd
local macro_rules | `(tactic| walk_at "ev") => `(tactic| first
  | exact ev_var rfl
  | exact ev_c
  | (apply ev_op; (walk_at "ev"); (walk_at "ev"); (walk_at "rv"))
  | (apply ev_un; (walk_at "ev"); (walk_at "rv"))
  | (apply ev_lenS; (walk_at "ev"); (walk_at "sq"))
  | (apply ev_andV; (walk_at "ev"); (intro _; walk_at "ev"))
  | (apply ev_orV; (walk_at "ev"); (intro _; walk_at "ev"))
  | (apply ev_notV; (walk_at "ev")))
local macro_rules | `(tactic| walk_at "rv") => `(tactic| first
  | exact rv_I0
  | exact ru_neg
  | exact rv_eq rfl
  | exact rv_ne rfl
  | exact rv_I (by decide)
  | exact rv_I (by first | omega | exact .inl (by omega) | exact .inr (by omega) | (constructor <;> omega)))
local macro_rules | `(tactic| walk_at "sq") => `(tactic| first
  | assumption
  | exact SqS.lst (by assumption)
  | exact SqS.tup (by assumption)
  | exact Or.inl (by assumption)
  | exact Or.inr (by assumption)
  | (refine SqS.mono (by assumption) ?_; walk_at "sq"))
local macro_rules | `(tactic| walk_at "et") => `(tactic| first
  | (apply et_or; (walk_at "et"); (intro _; walk_at "et"))
  | (apply et_and; (walk_at "et"); (intro _; walk_at "et"))
  | (apply et_not; (walk_at "et"))
  | (apply et_test; (walk_at "ev"))
  | (apply et_B; (walk_at "ev")))
local macro_rules | `(tactic| walk_at "ea") => `(tactic| first
  | exact ea_nil
  | (apply ea_cons; (walk_at "ev"); (walk_at "ea")))
section
variable {P : Program} {w : World} {K : PySem.W.Frag} {mg : Str → Option Value} {base : Heap} {CO CS CN CT : Addr}
/-! ### refusals -/
def Er.kind : Er → Str
  | .size _ => "size"
  | .num _ => "number"
  | .thing _ => "thing"
def Er.val : Er → Int
  | .size z => z
  | .num z => z
  | .thing z => z
/-- a list or tuple of these ints, not the one at l -/
def IsSeq (K : PySem.W.Frag) (l : Addr) (ns : List Int) (x : V) (H : Hp) : Prop := ∃ a, x = .ref a ∧ a ≠ l ∧ SqS K H a (List.map V.int ns)
/-- this call is refused so -/
def Bad (K : PySem.W.Frag) (l : Addr) (H : Hp) (name : Str) (n : Int) (one other : V) (r : Er) : Prop :=
  (name = "lot_of" ∧ ∃ ns, IsSeq K l ns one H ∧ lotOf n ns = .error r) ∨
  (name = "all_lots" ∧ lookThings n = .error r) ∨
  (name = "joined" ∧ ∃ xs ys, IsSeq K l xs one H ∧ IsSeq K l ys other H ∧ joined n xs ys = .error r) ∨
  (name = "common" ∧ ∃ xs ys, IsSeq K l xs one H ∧ IsSeq K l ys other H ∧ common n xs ys = .error r) ∨
  (name = "without" ∧ ∃ xs ys, IsSeq K l xs one H ∧ IsSeq K l ys other H ∧ without n xs ys = .error r) ∨
  (name = "cost_of" ∧ ∃ cs xs, IsSeq K l cs one H ∧ IsSeq K l xs other H ∧ costOf n cs xs = .error r)
theorem IsSeq.mono {l : Addr} {ns : List Int} {x : V} {H H' : Hp} (e : Ex H H') : IsSeq K l ns x H → IsSeq K l ns x H' := fun ⟨a, h1, h2, h3⟩ => ⟨a, h1, h2, h3.mono e⟩
theorem IsSeq.upd {l : Addr} {ns : List Int} {x : V} {H : Hp} {acc : List V} {o : HO} (hl : H l = some (.lst acc)) : IsSeq K l ns x H → IsSeq K l ns x (upd H l o) := fun ⟨a, h1, h2, h3⟩ => ⟨a, h1, h2, h3.elim (fun h => .inl (sql_upd h2 h)) (fun h => .inr (sqt_upd hl h))⟩
theorem Bad.map {l : Addr} {H H' : Hp} {name : Str} {n : Int} {one other : V} {r : Er} (e : ∀ {ns x}, IsSeq K l ns x H → IsSeq K l ns x H') : Bad K l H name n one other r → Bad K l H' name n one other r := by
  rintro (⟨h0, ns, h1, h2⟩ | ⟨h0, h1⟩ | ⟨h0, xs, ys, h1, h2, h3⟩ | ⟨h0, xs, ys, h1, h2, h3⟩ | ⟨h0, xs, ys, h1, h2, h3⟩ | ⟨h0, xs, ys, h1, h2, h3⟩)
  · exact .inl ⟨h0, ns, e h1, h2⟩
  · exact .inr (.inl ⟨h0, h1⟩)
  · exact .inr (.inr (.inl ⟨h0, xs, ys, e h1, e h2, h3⟩))
  · exact .inr (.inr (.inr (.inl ⟨h0, xs, ys, e h1, e h2, h3⟩)))
  · exact .inr (.inr (.inr (.inr (.inl ⟨h0, xs, ys, e h1, e h2, h3⟩))))
  · exact .inr (.inr (.inr (.inr (.inr ⟨h0, xs, ys, e h1, e h2, h3⟩))))
def spTold (K : PySem.W.Frag) : Sp := fun vs H Q E => ∃ (l : Addr) (name : Str) (n : Int) (one other : V) (r : Er), vs = [.str name, .int n, one, other] ∧ Bad K l H name n one other r ∧ RetU [.str r.kind, .int r.val, .bl true] H Q
theorem Res.bad {α : Type} {c : Cs} {r : R α} {ok : α → Prop} {H : Hp} {E : XK} {e : Er} (h : r = .error e) (k : e.is c H E) : Res c r ok H E := by rw [h]; exact k
theorem has__law_told (T : Tx P w K mg base CO CS CN CT) (h__law_int : HasA P w K mg base 1 "_law_int" ["told"] (spInt)) (h_all_lots : Has P w K mg base 5 "all_lots" ["things"] (spAllLots K ⟨CS, CN, CT⟩)) (h_common : Has P w K mg base 6 "common" ["things", "first", "second"] (spOnTwo common K ⟨CS, CN, CT⟩)) (h_cost_of : Has P w K mg base 6 "cost_of" ["things", "costs", "lot"] (spCostOf K ⟨CS, CN, CT⟩)) (h_joined : Has P w K mg base 6 "joined" ["things", "first", "second"] (spOnTwo joined K ⟨CS, CN, CT⟩)) (h_lot_of : Has P w K mg base 5 "lot_of" ["things", "entries"] (spLotOf K ⟨CS, CN, CT⟩)) (h_without : Has P w K mg base 6 "without" ["things", "first", "second"] (spOnTwo without K ⟨CS, CN, CT⟩)) (D : DefAt K mg "_law_told" s__law_told ["name", "things", "one", "other"]) : Has P w K mg base 7 "_law_told" ["name", "things", "one", "other"] (spTold K) := by
  refine D.has sc__law_told (fun vs H Q E h => ?len) (fun f cdv A outer s H vs Q E hr h => ?body)
  case len =>
    obtain ⟨_, _, _, _, _, _, rfl, _, _⟩ := h
    rfl
  case body =>
    have tk : Takes (cxOf (L2.CX P w) P w K mg base ["name", "things", "one", "other", "told", "e", "f", "g"] "_law_told" (defScope s__law_told) f cdv A outer s H E) (fun cls d _ H => E cls d H) := takes_of rfl rfl rfl rfl
    obtain ⟨l, name, n, one, other, r, rfl, hbad, h⟩ := h
    refine ⟨_, (pss_cons (ps_try_ms rfl rfl sc__law_told.nd takes0 (fun W pn xe tk po => (pss_one (ps_if (pt_cmpR op_eq (pv 0) pe_str (nomark _)) (pss_one (ps_set (i := 4) sc__law_told.nd rfl (.inl rfl) (pe_hasR h_lot_of (hr.mono (by decide)) tk (pa_cons (pv 1) (pa_cons (pv 2) pa_nil))))) (pss_one (ps_if (pt_cmpR op_eq (pv 0) pe_str (nomark _)) (pss_one (ps_set (i := 4) sc__law_told.nd rfl (.inl rfl) (pe_hasR h_all_lots (hr.mono (by decide)) tk (pa_cons (pv 1) pa_nil)))) (pss_one (ps_if (pt_cmpR op_eq (pv 0) pe_str (nomark _)) (pss_one (ps_set (i := 4) sc__law_told.nd rfl (.inl rfl) (pe_hasR h_joined (hr.mono (by decide)) tk (pa_cons (pv 1) (pa_cons (pv 2) (pa_cons (pv 3) pa_nil)))))) (pss_one (ps_if (pt_cmpR op_eq (pv 0) pe_str (nomark _)) (pss_one (ps_set (i := 4) sc__law_told.nd rfl (.inl rfl) (pe_hasR h_common (hr.mono (by decide)) tk (pa_cons (pv 1) (pa_cons (pv 2) (pa_cons (pv 3) pa_nil)))))) (pss_one (ps_if (pt_cmpR op_eq (pv 0) pe_str (nomark _)) (pss_one (ps_set (i := 4) sc__law_told.nd rfl (.inl rfl) (pe_hasR h_without (hr.mono (by decide)) tk (pa_cons (pv 1) (pa_cons (pv 2) (pa_cons (pv 3) pa_nil)))))) (pss_one (ps_set (i := 4) sc__law_told.nd rfl (.inl rfl) (pe_hasR h_cost_of (hr.mono (by decide)) tk (pa_cons (pv 1) (pa_cons (pv 2) (pa_cons (pv 3) pa_nil))))))))))))))))) (HdAs.cons (i := 5) (c := .ref CS) rfl rfl ⟨rfl, by decide, .inl T.e_SizeError.g⟩ (fun a oe cls d pn hz hf => (pss_cons (ps_if (PW.pt (pw_or (pt_not (pt_val (pe_callB (call_isX hz hf) (by rfl) T.z_isinstance (by decide +kernel) (pa_cons (pv 5) (pa_cons (pe_glob (v := .ref CO) rfl T.e_NodearerError.g rfl) pa_nil))))) (pw_or1 (pt_val (pe_callB (call_isX hz hf) (by rfl) T.z_isinstance (by decide +kernel) (pa_cons (pv 5) (pa_cons (pe_tup (pa_cons (pe_glob (v := .ref CN) rfl T.e_NumberError.g rfl) (pa_cons (pe_glob (v := .ref CT) rfl T.e_ThingError.g rfl) pa_nil))) pa_nil))))))) (pss_one (ps_ret (pe_tup (pa_cons pe_str pa_nil)))) pss_nil)
      (pss_one (ps_ret (pe_tup (pa_cons pe_str (pa_cons (pe_xf T.e_SizeError.xf T.e_SizeError.no hz hf (pv 5)) (pa_cons (pe_hasA h__law_int (RoomA.suite (hr.mono (by decide)) _) (pa_cons (pe_xf T.e_SizeError.xf T.e_SizeError.no hz hf (pv 5)) pa_nil)) pa_nil)))))))) (HdAs.cons (i := 6) (c := .ref CT) rfl rfl ⟨rfl, by decide, .inl T.e_ThingError.g⟩ (fun a oe cls d pn hz hf => (pss_cons (ps_if (PW.pt (pw_or (pt_not (pt_val (pe_callB (call_isX hz hf) (by rfl) T.z_isinstance (by decide +kernel) (pa_cons (pv 6) (pa_cons (pe_glob (v := .ref CO) rfl T.e_NodearerError.g rfl) pa_nil))))) (pw_or1 (pt_val (pe_callB (call_isX hz hf) (by rfl) T.z_isinstance (by decide +kernel) (pa_cons (pv 6) (pa_cons (pe_glob (v := .ref CN) rfl T.e_NumberError.g rfl) pa_nil))))))) (pss_one (ps_ret (pe_tup (pa_cons pe_str pa_nil)))) pss_nil)
      (pss_one (ps_ret (pe_tup (pa_cons pe_str (pa_cons (pe_xf T.e_ThingError.xf T.e_ThingError.no hz hf (pv 6)) (pa_cons (pe_hasA h__law_int (RoomA.suite (hr.mono (by decide)) _) (pa_cons (pe_xf T.e_ThingError.xf T.e_ThingError.no hz hf (pv 6)) pa_nil)) pa_nil)))))))) (HdAs.cons (i := 7) (c := .ref CN) rfl rfl ⟨rfl, by decide, .inl T.e_NumberError.g⟩ (fun a oe cls d pn hz hf => (pss_cons (ps_if (PW.pt (pw_or (pt_not (pt_val (pe_callB (call_isX hz hf) (by rfl) T.z_isinstance (by decide +kernel) (pa_cons (pv 7) (pa_cons (pe_glob (v := .ref CO) rfl T.e_NodearerError.g rfl) pa_nil))))) (pw_or1 (pt_not (pt_val (pe_callB (call_isX hz hf) (by rfl) T.z_isinstance (by decide +kernel) (pa_cons (pv 7) (pa_cons (pe_bltn (v := .ty "ValueError") rfl T.z_ValueError (by decide +kernel) rfl) pa_nil)))))))) (pss_one (ps_ret (pe_tup (pa_cons pe_str pa_nil)))) pss_nil)
      (pss_one (ps_ret (pe_tup (pa_cons pe_str (pa_cons (pe_xf T.e_NumberError.xf T.e_NumberError.no hz hf (pv 7)) (pa_cons (pe_hasA h__law_int (RoomA.suite (hr.mono (by decide)) _) (pa_cons (pe_xf T.e_NumberError.xf T.e_NumberError.no hz hf (pv 7)) pa_nil)) pa_nil)))))))) HdAs.nil))))
      (pss_one (ps_ret (pe_tup (pa_cons pe_str (pa_cons (pv 4) pa_nil)))))), ?_⟩
    rcases hbad with ⟨rfl, ns, ⟨a, rfl, _, hA⟩, hr1⟩ | ⟨rfl, hr1⟩ | ⟨rfl, xs, ys, ⟨a, rfl, _, hA⟩, ⟨b, rfl, _, hB⟩, hr1⟩ | ⟨rfl, xs, ys, ⟨a, rfl, _, hA⟩, ⟨b, rfl, _, hB⟩, hr1⟩ | ⟨rfl, xs, ys, ⟨a, rfl, _, hA⟩, ⟨b, rfl, _, hB⟩, hr1⟩ | ⟨rfl, xs, ys, ⟨a, rfl, _, hA⟩, ⟨b, rfl, _, hB⟩, hr1⟩
    case' inl =>
      refine s_if (b := true) (et_is (et_test (ev_op (ev_var rfl) ev_c (rv_eq rfl))) (by decide +kernel)) (fun _ H1 e1 => ?_) (fun hb => Bool.noConfusion hb)
      refine ⟨_, rfl, _, rfl, a, ns, n, rfl, hA.mono e1, Res.bad hr1 (Er.mono e1 ?_)⟩
    case' inr.inl =>
      refine s_if (b := false) (et_is (et_test (ev_op (ev_var rfl) ev_c (rv_eq rfl))) (by decide +kernel)) (fun hb => Bool.noConfusion hb) (fun _ H1 e1 => ?_)
      refine s_if (b := true) (et_is (et_test (ev_op (ev_var rfl) ev_c (rv_eq rfl))) (by decide +kernel)) (fun _ H2 e2 => ?_) (fun hb => Bool.noConfusion hb)
      refine ⟨_, rfl, n, rfl, Res.bad hr1 (Er.mono (e1.trans e2) ?_)⟩
    case' inr.inr.inl =>
      refine s_if (b := false) (et_is (et_test (ev_op (ev_var rfl) ev_c (rv_eq rfl))) (by decide +kernel)) (fun hb => Bool.noConfusion hb) (fun _ H1 e1 => ?_)
      refine s_if (b := false) (et_is (et_test (ev_op (ev_var rfl) ev_c (rv_eq rfl))) (by decide +kernel)) (fun hb => Bool.noConfusion hb) (fun _ H2 e2 => ?_)
      refine s_if (b := true) (et_is (et_test (ev_op (ev_var rfl) ev_c (rv_eq rfl))) (by decide +kernel)) (fun _ H3 e3 => ?_) (fun hb => Bool.noConfusion hb)
      have x := (e1.trans e2).trans e3
      refine ⟨_, rfl, _, rfl, _, rfl, a, b, xs, ys, n, rfl, hA.mono x, hB.mono x, Res.bad hr1 (Er.mono x ?_)⟩
    case' inr.inr.inr.inl =>
      refine s_if (b := false) (et_is (et_test (ev_op (ev_var rfl) ev_c (rv_eq rfl))) (by decide +kernel)) (fun hb => Bool.noConfusion hb) (fun _ H1 e1 => ?_)
      refine s_if (b := false) (et_is (et_test (ev_op (ev_var rfl) ev_c (rv_eq rfl))) (by decide +kernel)) (fun hb => Bool.noConfusion hb) (fun _ H2 e2 => ?_)
      refine s_if (b := false) (et_is (et_test (ev_op (ev_var rfl) ev_c (rv_eq rfl))) (by decide +kernel)) (fun hb => Bool.noConfusion hb) (fun _ H3 e3 => ?_)
      refine s_if (b := true) (et_is (et_test (ev_op (ev_var rfl) ev_c (rv_eq rfl))) (by decide +kernel)) (fun _ H4 e4 => ?_) (fun hb => Bool.noConfusion hb)
      have x := ((e1.trans e2).trans e3).trans e4
      refine ⟨_, rfl, _, rfl, _, rfl, a, b, xs, ys, n, rfl, hA.mono x, hB.mono x, Res.bad hr1 (Er.mono x ?_)⟩
    case' inr.inr.inr.inr.inl =>
      refine s_if (b := false) (et_is (et_test (ev_op (ev_var rfl) ev_c (rv_eq rfl))) (by decide +kernel)) (fun hb => Bool.noConfusion hb) (fun _ H1 e1 => ?_)
      refine s_if (b := false) (et_is (et_test (ev_op (ev_var rfl) ev_c (rv_eq rfl))) (by decide +kernel)) (fun hb => Bool.noConfusion hb) (fun _ H2 e2 => ?_)
      refine s_if (b := false) (et_is (et_test (ev_op (ev_var rfl) ev_c (rv_eq rfl))) (by decide +kernel)) (fun hb => Bool.noConfusion hb) (fun _ H3 e3 => ?_)
      refine s_if (b := false) (et_is (et_test (ev_op (ev_var rfl) ev_c (rv_eq rfl))) (by decide +kernel)) (fun hb => Bool.noConfusion hb) (fun _ H4 e4 => ?_)
      refine s_if (b := true) (et_is (et_test (ev_op (ev_var rfl) ev_c (rv_eq rfl))) (by decide +kernel)) (fun _ H5 e5 => ?_) (fun hb => Bool.noConfusion hb)
      have x := (((e1.trans e2).trans e3).trans e4).trans e5
      refine ⟨_, rfl, _, rfl, _, rfl, a, b, xs, ys, n, rfl, hA.mono x, hB.mono x, Res.bad hr1 (Er.mono x ?_)⟩
    case' inr.inr.inr.inr.inr =>
      refine s_if (b := false) (et_is (et_test (ev_op (ev_var rfl) ev_c (rv_eq rfl))) (by decide +kernel)) (fun hb => Bool.noConfusion hb) (fun _ H1 e1 => ?_)
      refine s_if (b := false) (et_is (et_test (ev_op (ev_var rfl) ev_c (rv_eq rfl))) (by decide +kernel)) (fun hb => Bool.noConfusion hb) (fun _ H2 e2 => ?_)
      refine s_if (b := false) (et_is (et_test (ev_op (ev_var rfl) ev_c (rv_eq rfl))) (by decide +kernel)) (fun hb => Bool.noConfusion hb) (fun _ H3 e3 => ?_)
      refine s_if (b := false) (et_is (et_test (ev_op (ev_var rfl) ev_c (rv_eq rfl))) (by decide +kernel)) (fun hb => Bool.noConfusion hb) (fun _ H4 e4 => ?_)
      refine s_if (b := false) (et_is (et_test (ev_op (ev_var rfl) ev_c (rv_eq rfl))) (by decide +kernel)) (fun hb => Bool.noConfusion hb) (fun _ H5 e5 => ?_)
      have x := (((e1.trans e2).trans e3).trans e4).trans e5
      refine ⟨_, rfl, _, rfl, _, rfl, a, b, xs, ys, n, rfl, hA.mono x, hB.mono x, Res.bad hr1 (Er.mono x ?_)⟩
    all_goals
      clear hr1
      cases r with
      | size z =>
        intro d H' e' hd
        refine ⟨true, T.xSS, fun _ q na => ?_, fun hb => Bool.noConfusion hb⟩
        refine q_when (b := false) (et_is (et_or (et_not (et_test (ev_isX1 (b := true) (ea_cons (ev_var rfl) (ea_cons ev_c ea_nil)) (.own CO) T.e_SizeError.is hd T.kSO))) fun _ => et_test (ev_isXT (b := false) (ev_var rfl) (eu_tup (ea_cons ev_c (ea_cons ev_c ea_nil)) (by show 2 ≤ 100000; decide)) (.cons (.own CN) (.cons (.own CT) .nil)) T.e_SizeError.is hd (kitAny2 T.kSN T.kST))) rfl) (fun hb => Bool.noConfusion hb) fun _ H2 e2 => ?_
        exact s_retU (eu_tup (ea_cons ev_c (ea_cons (ev_xf (ev_var rfl) (e2 d _ hd) rfl) (ea_cons (go_int (ea_cons (ev_xf (ev_var rfl) (e2 d _ hd) rfl) ea_nil)) ea_nil))) (by show 3 ≤ 100000; decide)) fun p H3 hp e3 g3 => h p H3 (fresh_back (e'.trans e2) hp) ((e'.trans e2).trans e3) g3
      | thing z =>
        intro d H' e' hd
        refine ⟨false, T.xTS, fun hb => Bool.noConfusion hb, fun _ => ⟨true, T.xTT, fun _ q na => ?_, fun hb => Bool.noConfusion hb⟩⟩
        refine q_when (b := false) (et_is (et_or (et_not (et_test (ev_isX1 (b := true) (ea_cons (ev_var rfl) (ea_cons ev_c ea_nil)) (.own CO) T.e_ThingError.is hd T.kTO))) fun _ => et_test (ev_isX1 (b := false) (ea_cons (ev_var rfl) (ea_cons ev_c ea_nil)) (.own CN) T.e_ThingError.is hd T.kTN)) rfl) (fun hb => Bool.noConfusion hb) fun _ H2 e2 => ?_
        exact s_retU (eu_tup (ea_cons ev_c (ea_cons (ev_xf (ev_var rfl) (e2 d _ hd) rfl) (ea_cons (go_int (ea_cons (ev_xf (ev_var rfl) (e2 d _ hd) rfl) ea_nil)) ea_nil))) (by show 3 ≤ 100000; decide)) fun p H3 hp e3 g3 => h p H3 (fresh_back (e'.trans e2) hp) ((e'.trans e2).trans e3) g3
      | num z =>
        intro d H' e' hd
        refine ⟨false, T.xNS, fun hb => Bool.noConfusion hb, fun _ => ⟨false, T.xNT, fun hb => Bool.noConfusion hb, fun _ => ⟨true, T.xNN, fun _ q na => ?_, fun hb => Bool.noConfusion hb⟩⟩⟩
        refine q_when (b := false) (et_is (et_or (et_not (et_test (ev_isX1 (b := true) (ea_cons (ev_var rfl) (ea_cons ev_c ea_nil)) (.own CO) T.e_NumberError.is hd T.kNO))) fun _ => et_not (et_test (ev_isX1 (b := true) (ea_cons (ev_var rfl) (ea_cons ev_c ea_nil)) (.ty "ValueError") T.e_NumberError.is hd T.kNV))) rfl) (fun hb => Bool.noConfusion hb) fun _ H2 e2 => ?_
        exact s_retU (eu_tup (ea_cons ev_c (ea_cons (ev_xf (ev_var rfl) (e2 d _ hd) rfl) (ea_cons (go_int (ea_cons (ev_xf (ev_var rfl) (e2 d _ hd) rfl) ea_nil)) ea_nil))) (by show 3 ≤ 100000; decide)) fun p H3 hp e3 g3 => h p H3 (fresh_back (e'.trans e2) hp) ((e'.trans e2).trans e3) g3
/-! ### lists of cases -/
def CaseAt (K : PySem.W.Frag) (l : Addr) (H : Hp) (v : V) : Prop := ∃ (t du : Addr) (name : Str) (n : Int) (one other : V) (r : Er), v = .ref t ∧ H t = some (.tup [.str name, .int n, one, other, .ref du]) ∧ H du = some (.tup [.str r.kind, .int r.val]) ∧ Bad K l H name n one other r
theorem CaseAt.mono {l : Addr} {H H' : Hp} {v : V} (e : Ex H H') : CaseAt K l H v → CaseAt K l H' v := fun ⟨t, du, name, n, one, other, r, h1, h2, h3, h4⟩ => ⟨t, du, name, n, one, other, r, h1, e t _ h2, e du _ h3, h4.map (IsSeq.mono e)⟩
theorem CaseAt.upd {l : Addr} {H : Hp} {v : V} {acc : List V} {o : HO} (hl : H l = some (.lst acc)) : CaseAt K l H v → CaseAt K l (upd H l o) v := fun ⟨t, du, name, n, one, other, r, h1, h2, h3, h4⟩ =>
  ⟨t, du, name, n, one, other, r, h1, by rw [upd_ne (fun e => by rw [e, hl] at h2; cases h2)]; exact h2, by rw [upd_ne (fun e => by rw [e, hl] at h3; cases h3)]; exact h3, h4.map (IsSeq.upd hl)⟩
def spAllRef (K : PySem.W.Frag) : Sp := fun vs H Q E => ∃ (p : Addr) (acc : List V), vs = [.ref p] ∧ SqL K H p acc ∧ (∀ v ∈ acc, CaseAt K p H v) ∧ RetV (.bl true) H Q
def dRef (r : Er) : PyData := .tuple [.str r.kind, .int r.val, .bool true]
theorem shapedR (r : Er) : SeqAt.shaped (dRef r) = true := by
  cases r <;> (simp [dRef, Er.kind, SeqAt.shaped, PyData.canLay0, PyData.canLayAll0, PyData.depth, PyData.depthAll]; decide +kernel)
theorem eqvR (r : Er) : PyData.eqv (dRef r) (dRef r) = true := by
  simp [dRef, PyData.eqv, PyData.eqvAll]
theorem has__law_all_refused (T : Tx P w K mg base CO CS CN CT) (h__law_told : Has P w K mg base 7 "_law_told" ["name", "things", "one", "other"] (spTold K)) (D : DefAt K mg "_law_all_refused" s__law_all_refused ["cases"]) : Has P w K mg base 8 "_law_all_refused" ["cases"] (spAllRef K) := by
  refine D.has sc__law_all_refused (fun vs H Q E h => ?len) (fun f cdv A outer s H vs Q E hr h => ?body)
  case len =>
    obtain ⟨_, _, rfl, _, _, _⟩ := h
    rfl
  case body =>
    have tk : Takes (cxOf (L2.CX P w) P w K mg base ["cases", "name", "things", "one", "other", "due", "told"] "_law_all_refused" (defScope s__law_all_refused) f cdv A outer s H E) (fun cls d _ H => E cls d H) := takes_of rfl rfl rfl rfl
    obtain ⟨p, acc, rfl, hP, hC, h⟩ := h
    refine ⟨_, (pss_cons (ps_for (passes_of rfl) rfl (pi_list (pv 0)) (pg_tup (by rfl) (pgs_cons (pg_name (i := 1) sc__law_all_refused.nd rfl (.inl rfl)) (pgs_cons (pg_name (i := 2) sc__law_all_refused.nd rfl (.inl rfl)) (pgs_cons (pg_name (i := 3) sc__law_all_refused.nd rfl (.inl rfl)) (pgs_cons (pg_name (i := 4) sc__law_all_refused.nd rfl (.inl rfl)) (pgs_cons (pg_name (i := 5) sc__law_all_refused.nd rfl (.inl rfl)) pgs_nil)))))) (pss_cons (ps_set (i := 6) sc__law_all_refused.nd rfl (.inl rfl) (pe_hasN h__law_told (hr.mono (by decide)) (pa_cons (pv 1) (pa_cons (pv 2) (pa_cons (pv 3) (pa_cons (pv 4) pa_nil))))))
      (pss_one (ps_if (pt_cmpR (op_neD hr.units) (pv 6) (pe_tup (pa_cons (pe_ix ix_tup (pv 5) pe_int (fun _ _ => rfl)) (pa_cons (pe_ix ix_tup (pv 5) pe_int (fun _ _ => rfl)) (pa_cons pe_bl pa_nil)))) (nomark _)) (pss_one (ps_ret pe_bl)) pss_nil))))
      (pss_one (ps_ret pe_bl))), ?_⟩
    refine q_forL (a := p) (ev_var rfl) hP (fun i σ' H' => ∃ v1 v2 v3 v4 v5 v6, σ' = [some (.ref p), v1, v2, v3, v4, v5, v6] ∧ Ex H H') (fun H1 e1 => ⟨none, none, none, none, none, none, rfl, e1⟩) (fun i σ' H' _ q => by obtain ⟨_, _, _, _, _, _, _, x⟩ := q; exact ex_l x hP) ?turn ?fin
    case fin =>
      rintro σ' H1 ⟨v1, v2, v3, v4, v5, v6, rfl, x1⟩
      exact h H1 x1
    case turn =>
      rintro i x σ' H1 hx ⟨v1, v2, v3, v4, v5, v6, rfl, x1⟩
      obtain ⟨t, du, name, n, one, other, r, rfl, ht, hdu, hbad⟩ := (hC x (List.mem_of_getElem? hx)).mono x1
      refine ⟨t, _, rfl, st_of ht, rfl, _, _, rfl, _, _, rfl, _, _, rfl, _, _, rfl, _, _, rfl, rfl, ?_⟩
      refine q_asgU (xs := [.str r.kind, .int r.val, .bl true]) (eu_callS (ea_cons (ev_var rfl) (ea_cons (ev_var rfl) (ea_cons (ev_var rfl) (ea_cons (ev_var rfl) ea_nil)))) fun H2 e2 Q' E' q' => ⟨p, name, n, one, other, r, rfl, hbad.map (IsSeq.mono e2), q'⟩) fun q H2 hq e2 g2 => ?_
      have hdu2 := e2 du _ hdu
      have dd : DpAll K H2 [.str r.kind, .int r.val, .bl true] [.str r.kind, .int r.val, .bool true] := .cons (.str _) (.cons (.int _) (.cons (.bl _) .nil))
      refine s_when (b := false) (et_is (et_test (ev_opV (ev_var rfl) (eu_tup (vs := [.str r.kind, .int r.val, .bl true]) (ea_cons (ev_op (ev_var rfl) ev_c (rv_ixT (st_of hdu2) (atI_nat (j := 0) rfl))) (ea_cons (ev_op (ev_var rfl) ev_c (rv_ixT (st_of hdu2) (atI_nat (j := 1) rfl))) (ea_cons ev_c ea_nil))) (by show 3 ≤ 100000; decide)) fun u H3 g3 e3 => rv_neD (d := dRef r) (f := dRef r) (b := true) (.tup (st_of (e3 q _ g2)) (dpa_mono e3 _ dd)) (.tup (st_of g3) (dpa_mono e3 _ dd)) (shapedR r) (shapedR r) (eqvR r))) rfl) (fun hb => Bool.noConfusion hb) fun _ H3 e3 => ?_
      exact ⟨_, _, _, _, _, _, rfl, (x1.trans e2).trans e3⟩
end
end K3
namespace K3
open PySem PySem.Spec PyProof.Rows L2 Evl Nd
/-! ### a case is laid -/
section
variable {K : PySem.W.Frag} {σ : L2.St} {H : Hp} {te ta tb tl tn tm to tw tk tz : TE} {ts : TA} {D : Ends} {tq : TS} {l : Addr} {E : L2.St → XK} {p : Addr}
/-- evaluates to some value of which P holds -/
def EvG (te : TE) (σ : L2.St) (H : Hp) (P : V → Hp → Prop) : Prop := ∀ H1, Ex H H1 → ∀ Q : VK, (∀ x H2, Ex H1 H2 → P x H2 → Q x H2) → te σ H1 Q
def Any (_ : V) (_ : Hp) : Prop := True
def IsLst (ns : List Int) (x : V) (H : Hp) : Prop := ∃ a, x = .ref a ∧ (H a = some (.lst (List.map V.int ns)) ∨ H a = some (.tup (List.map V.int ns)))
theorem eg_any {v : V} (h : Ev te σ H v) : EvG te σ H Any := fun H1 e Q q => h H1 e _ fun H2 e2 => q v H2 e2 trivial
theorem eg_var {a : Addr} {ns : List Int} (h : Ev te σ H (.ref a)) (g : H a = some (.lst (List.map V.int ns))) : EvG te σ H (IsLst ns) := fun H1 e Q q => h H1 e _ fun H2 e2 => q (.ref a) H2 e2 ⟨a, rfl, .inl ((e.trans e2) a _ g)⟩
theorem eg_l {ns : List Int} (h : EvL te σ H (List.map V.int ns)) : EvG te σ H (IsLst ns) := fun H1 e Q q => h H1 e _ fun a H2 _ e2 g => q (.ref a) H2 e2 ⟨a, rfl, .inl g⟩
theorem eg_u {ns : List Int} (h : EvU te σ H (List.map V.int ns)) : EvG te σ H (IsLst ns) := fun H1 e Q q => h H1 e _ fun a H2 _ e2 g => q (.ref a) H2 e2 ⟨a, rfl, .inr g⟩
theorem IsLst.mono {ns : List Int} {x : V} {H H' : Hp} (e : Ex H H') : IsLst ns x H → IsLst ns x H' := fun ⟨a, h, g⟩ => ⟨a, h, g.elim (fun g => .inl (e a _ g)) (fun g => .inr (e a _ g))⟩
/-- where the list of cases is not yet, or has something else in it -/
theorem IsLst.seq {ns : List Int} {x : V} (h : IsLst ns x H) (hl : H l = none ∨ ∃ u r, H l = some (.lst (.ref u :: r))) : IsSeq K l ns x H := by
  obtain ⟨a, h, g⟩ := h
  refine ⟨a, h, fun e => ?_, g.elim (fun g => .lst g) (fun g => .tup g)⟩
  subst e
  rcases hl with hl | ⟨u, r, hl⟩
  · rcases g with g | g <;> (rw [hl] at g; cases g)
  · rcases g with g | g
    · rw [hl] at g
      cases ns with
      | nil => cases g
      | cons z t => cases g
    · rw [hl] at g
      cases g
/-- what is said of the list's place -/
def Spot (l : Addr) (H : Hp) : Prop := H l = none ∨ ∃ u r, H l = some (.lst (.ref u :: r))
theorem ec_tup {name : Str} {n : Int} {r : Er} {P1 P2 : V → Hp → Prop} (h0 : Ev tn σ H (.str name)) (hn : Ev tm σ H (.int n)) (h1 : EvG to σ H P1) (h2 : EvG tw σ H P2) (hk : Ev tk σ H (.str r.kind)) (hz : Ev tz σ H (.int r.val))
    (m1 : ∀ {x H1 H2}, Ex H1 H2 → P1 x H1 → P1 x H2) (m2 : ∀ {x H1 H2}, Ex H1 H2 → P2 x H1 → P2 x H2) (hb : ∀ l x y H', Spot l H' → P1 x H' → P2 y H' → Bad K l H' name n x y r) :
    EvG (tTup (tCons tn (tCons tm (tCons to (tCons tw (tCons (tTup (tCons tk (tCons tz tNil))) tNil)))))) σ H (fun x H' => ∀ l, Spot l H' → CaseAt K l H' x) := fun H1 e Q q =>
  h0 H1 e _ fun H2 e2 => hn H2 (e.trans e2) _ fun H3 e3 => h1 H3 ((e.trans e2).trans e3) _ fun x H4 e4 p1 => h2 H4 (((e.trans e2).trans e3).trans e4) _ fun y H5 e5 p2 =>
  hk H5 ((((e.trans e2).trans e3).trans e4).trans e5) _ fun H6 e6 => hz H6 (((((e.trans e2).trans e3).trans e4).trans e5).trans e6) _ fun H7 e7 => ⟨by show 2 ≤ sizeLine; decide, fun du hdu => ⟨by show 5 ≤ sizeLine; decide, fun t ht => by
    have x1 : Ex H7 (upd H7 du (.tup [.str r.kind, .int r.val])) := Ex.new hdu
    have x2 : Ex (upd H7 du (.tup [.str r.kind, .int r.val])) (upd (upd H7 du (.tup [.str r.kind, .int r.val])) t (.tup [.str name, .int n, x, y, .ref du])) := Ex.new ht
    have x7 := (e6.trans e7).trans (x1.trans x2)
    exact q (.ref t) _ (((((e2.trans e3).trans e4).trans e5).trans e6).trans e7 |>.trans (x1.trans x2)) fun l hl => ⟨t, du, name, n, x, y, r, rfl, upd_same, x2 du _ upd_same, hb l x y _ hl (m1 (e5.trans x7) p1) (m2 x7 p2)⟩⟩⟩
/-- cases = [case] -/
theorem q_case1 {i : Nat} (hc : EvG te σ H (fun x H' => ∀ l, Spot l H' → CaseAt K l H' x)) (k : ∀ l t H1, H l = none → Ex H H1 → H1 l = some (.lst [.ref t]) → CaseAt K l H1 (.ref t) → tq D (σ.set i (some (.ref l))) H1) :
    tSeq (tAsg (tLst (tCons te tNil)) (gName i)) tq D σ H := hc H (Ex.refl H) _ fun x H1 e1 c => ⟨by show 1 ≤ sizeLine; decide, fun l hl => by
  have cl := c l (.inl hl)
  obtain ⟨t, du, name, n, one, other, r, rfl, h⟩ := id cl
  exact k l t _ (fresh_back e1 hl) (e1.trans (Ex.new hl)) upd_same (cl.mono (Ex.new hl))⟩
/-- m cases are in the list at l; all else is as it was -/
structure BL (K : PySem.W.Frag) (l : Addr) (Hc H : Hp) (m : Nat) : Prop where
  but : But l Hc H
  acc : ∃ t r, H l = some (.lst (.ref t :: r)) ∧ (V.ref t :: r).length ≤ m ∧ ∀ v ∈ V.ref t :: r, CaseAt K l H v
theorem BL.mono {Hc H' : Hp} {m : Nat} (b : BL K l Hc H m) (e : Ex H H') : BL K l Hc H' m := by
  obtain ⟨t, r, h1, h2, h3⟩ := b.acc
  exact ⟨b.but.trans (But.of e), t, r, e l _ h1, h2, fun v hv => (h3 v hv).mono e⟩
theorem BL.spot {Hc : Hp} {m : Nat} (b : BL K l Hc H m) : Spot l H := by
  obtain ⟨t, r, h1, _⟩ := b.acc
  exact .inr ⟨t, r, h1⟩
theorem go_case {Hc : Hp} {m : Nat} {Q : VK} (b : BL K l Hc H m) (ha : Ev ta σ H (.ref l)) (hc : EvG te σ H (fun x H' => ∀ l, Spot l H' → CaseAt K l H' x)) (hm : m < 1000) (k : ∀ H1, BL K l Hc H1 (m + 1) → Q .non H1) :
    tBM K "list" rAppend ta (tCons te tNil) σ H Q := ha H (Ex.refl H) _ fun H1 e1 => by
  have b1 := b.mono e1
  obtain ⟨t, r, h1, h2, h3⟩ := b1.acc
  refine ⟨Or.inl ⟨rfl, _, sq_of h1⟩, hc H1 e1 _ fun x H2 e2 c => ⟨l, _, x, rfl, rfl, e2 l _ h1, sz_lt (by omega), k _ ?_⟩⟩
  have b2 := b1.mono e2
  refine ⟨b2.but.upd, t, r ++ [x], upd_same, ?_, fun v hv => ?_⟩
  · rw [List.length_cons, List.length_append, List.length_cons, List.length_nil]
    rw [List.length_cons] at h2
    omega
  · have hv' : v ∈ (V.ref t :: r) ++ [x] := by simpa using hv
    rcases List.mem_append.mp hv' with z | z
    · exact ((h3 v z).mono e2).upd (e2 l _ h1)
    · obtain rfl : v = x := by simpa using z
      exact (c l b2.spot).upd (e2 l _ h1)
theorem q_case {Hc : Hp} {m : Nat} (b : BL K l Hc H m) (ha : Ev ta σ H (.ref l)) (hc : EvG te σ H (fun x H' => ∀ l, Spot l H' → CaseAt K l H' x)) (hm : m < 1000) (k : ∀ H1, BL K l Hc H1 (m + 1) → tq D σ H1) :
    tSeq (tDrop (tBM K "list" rAppend ta (tCons te tNil))) tq D σ H := go_case b ha hc hm k
theorem s_case {Hc : Hp} {m : Nat} (b : BL K l Hc H m) (ha : Ev ta σ H (.ref l)) (hc : EvG te σ H (fun x H' => ∀ l, Spot l H' → CaseAt K l H' x)) (hm : m < 1000) (k : ∀ H1, BL K l Hc H1 (m + 1) → D.nx σ H1) :
    tDrop (tBM K "list" rAppend ta (tCons te tNil)) D σ H := go_case b ha hc hm k
/-- the refusals, by name -/
theorem bad_two {name : Str} {n : Int} {xs ys : List Int} {x y : V} {r : Er} (hn : name = "joined" ∨ name = "common" ∨ name = "without") (h : ∀ f : List Int → List Int → List Int, onTwo f n xs ys = .error r) (hx : IsSeq K l xs x H) (hy : IsSeq K l ys y H) : Bad K l H name n x y r := by
  rcases hn with rfl | rfl | rfl
  · exact .inr (.inr (.inl ⟨rfl, xs, ys, hx, hy, h _⟩))
  · exact .inr (.inr (.inr (.inl ⟨rfl, xs, ys, hx, hy, h _⟩)))
  · exact .inr (.inr (.inr (.inr (.inl ⟨rfl, xs, ys, hx, hy, h _⟩))))
theorem bad_cost {n : Int} {xs ys : List Int} {x y : V} {r : Er} (h : costOf n xs ys = .error r) (hx : IsSeq K l xs x H) (hy : IsSeq K l ys y H) : Bad K l H "cost_of" n x y r := .inr (.inr (.inr (.inr (.inr ⟨rfl, xs, ys, hx, hy, h⟩))))
/-- drawn within a list's index -/
theorem q_ixTake {xs : List V} {many salt : Int} {i : Nat} (hl : EvL tl σ H xs) (h : EvA ts σ H [.ref p, .int many, .int salt]) (hm : 0 < many) (ht : Tape H p) (hall : ∀ r, 0 ≤ r → r < many → ∃ v, atI xs r = some v)
    (k : ∀ r H2 v, 0 ≤ r → r < many → atI xs r = some v → But p H H2 → Tape H2 p → tq D (σ.set i (some v)) H2) : tSeq (tAsg (tOp (rIxL K) tl (tCallS spTake E ts)) (gName i)) tq D σ H :=
  hl H (Ex.refl H) _ fun f H1 hf e1 g1 => h H1 e1 _ fun H2 e2 => ⟨p, many, salt, rfl, hm, ht.mono (e1.trans e2), fun r H3 r0 r1 b3 t3 => by
    obtain ⟨v, hv⟩ := hall r r0 r1
    have hne : f ≠ p := fun e => by
      obtain ⟨ds, hd⟩ := ht
      rw [e, hd] at hf
      cases hf
    exact ⟨f, xs, r, v, rfl, rfl, sq_of (b3 f _ hne (e2 f _ g1)), hv, k r H3 v r0 r1 hv ((But.of (e1.trans e2)).trans b3) t3⟩⟩
theorem go_noThing {n salt : Int} {Q : VK} (h : EvA ts σ H [.ref p, .int n, .int salt]) (n0 : 0 ≤ n) (n10 : n ≤ 10) (ht : Tape H p) (k : ∀ z H2, (z < 0 ∨ n ≤ z) → But p H H2 → Tape H2 p → Q (.int z) H2) : tCallS spNoThing E ts σ H Q :=
  h H (Ex.refl H) _ fun H1 e1 => ⟨p, n, salt, rfl, n0, n10, ht.mono e1, fun z H2 a b c => k z H2 a ((But.of e1).trans b) c⟩
theorem q_noThing {n salt : Int} {i : Nat} (h : EvA ts σ H [.ref p, .int n, .int salt]) (n0 : 0 ≤ n) (n10 : n ≤ 10) (ht : Tape H p) (k : ∀ z H2, (z < 0 ∨ n ≤ z) → But p H H2 → Tape H2 p → tq D (σ.set i (some (.int z))) H2) :
    tSeq (tAsg (tCallS spNoThing E ts) (gName i)) tq D σ H := go_noThing h n0 n10 ht k
theorem BL.first {t : Addr} (h : H l = some (.lst [.ref t])) (c : CaseAt K l H (.ref t)) : BL K l H H 1 := ⟨But.refl _ _, t, [], h, by simp, fun v hv => by rw [show v = V.ref t by simpa using hv]; exact c⟩
theorem BL.base {Hc : Hp} {m : Nat} (b : BL K l Hc H m) : BL K l H H m := ⟨But.refl _ _, b.acc⟩
theorem BL.join {Hc H' : Hp} {m m' : Nat} (b : BL K l Hc H m) (b2 : BL K l H H' m') : BL K l Hc H' m' := ⟨b.but.trans b2.but, b2.acc⟩
theorem BL.out {H0 Hc : Hp} {m : Nat} (b : BL K l Hc H m) (bp : But p H0 Hc) (hl : H0 l = none) : But p H0 H := fun a o n h => b.but a o (fun e => by rw [e, hl] at h; cases h) (bp a o n h)
theorem BL.tape {Hc : Hp} {m : Nat} (b : BL K l Hc H m) (t : Tape Hc p) (hne : p ≠ l) : Tape H p := let ⟨ds, h⟩ := t; ⟨ds, b.but p _ hne h⟩
theorem BL.calls {Hc : Hp} {m : Nat} (b : BL K l Hc H m) (h : EvA ts σ H [.ref l]) : Ev (tCallS (spAllRef K) E ts) σ H (.bl true) := ev_callS h fun H1 e1 Q E' q => by
  obtain ⟨t, r, h1, h2, h3⟩ := (b.mono e1).acc
  exact ⟨l, _, rfl, sq_of h1, h3, q⟩
/-- drawn of a list of ints -/
theorem go_ixTakeI {ns : List Int} {many salt : Int} {Q : VK} (hl : EvL tl σ H (List.map V.int ns)) (hlen : (ns.length : Int) = many) (h : EvA ts σ H [.ref p, .int many, .int salt]) (hm : 0 < many) (ht : Tape H p)
    (k : ∀ H2 z, z ∈ ns → But p H H2 → Tape H2 p → Q (.int z) H2) : tOp (rIxL K) tl (tCallS spTake E ts) σ H Q :=
  hl H (Ex.refl H) _ fun f H1 hf e1 g1 => h H1 e1 _ fun H2 e2 => ⟨p, many, salt, rfl, hm, ht.mono (e1.trans e2), fun r H3 r0 r1 b3 t3 => by
    obtain ⟨j, rfl⟩ := Int.eq_ofNat_of_zero_le r0
    have hj : j < ns.length := by omega
    have hne : f ≠ p := fun e => by
      obtain ⟨ds, hd⟩ := ht
      rw [e, hd] at hf
      cases hf
    exact ⟨f, _, (j : Int), .int ns[j], rfl, rfl, sq_of (b3 f _ hne (e2 f _ g1)), atI_nat (by rw [List.getElem?_map, List.getElem?_eq_getElem hj]; rfl), k H3 _ (List.getElem_mem hj) ((But.of (e1.trans e2)).trans b3) t3⟩⟩
theorem q_ixTakeI {ns : List Int} {many salt : Int} {i : Nat} (hl : EvL tl σ H (List.map V.int ns)) (hlen : (ns.length : Int) = many) (h : EvA ts σ H [.ref p, .int many, .int salt]) (hm : 0 < many) (ht : Tape H p)
    (k : ∀ H2 z, z ∈ ns → But p H H2 → Tape H2 p → tq D (σ.set i (some (.int z))) H2) : tSeq (tAsg (tOp (rIxL K) tl (tCallS spTake E ts)) (gName i)) tq D σ H := go_ixTakeI hl hlen h hm ht k
/-- [odd] * 61 -/
theorem rep61 (z : Int) : (List.replicate (61 : Int).toNat [V.int z]).flatten = List.map V.int (List.replicate 61 z) := rfl
theorem el_rep61 {z : Int} (h : Ev tz σ H (.int z)) : EvL (tOp rRep (tLst (tCons tz tNil)) (tC (.int 61))) σ H (List.map V.int (List.replicate 61 z)) := by
  rw [← rep61]
  exact el_rep (em_el (el_lst (ea_cons h ea_nil) (by show 1 ≤ 100000; decide))) ev_c (by omega) (by show 1 * 61 ≤ 100000; decide)
theorem el_one {z : Int} (h : Ev tz σ H (.int z)) : EvL (tLst (tCons tz tNil)) σ H (List.map V.int [z]) := el_lst (ea_cons h ea_nil) (by show 1 ≤ 100000; decide)
theorem el_cati {xs ys : List Int} (h1 : EvM ta σ H (List.map V.int xs)) (h2 : EvM tz σ H (List.map V.int ys)) (hz : xs.length + ys.length ≤ 100000) : EvL (tOp rCat ta tz) σ H (List.map V.int (xs ++ ys)) := by
  rw [List.map_append]
  exact el_cat h1 h2 (by rw [List.length_map, List.length_map]; exact hz)
theorem eqvL (ns : List Int) : PyData.eqv (.list (ns.map PyData.int)) (.list (ns.map PyData.int)) = true := by simp [PyData.eqv, eqv_ints]
theorem rv_eqLs {a b : Addr} {ns : List Int} (ha : SqL K H a (List.map V.int ns)) (hb : SqL K H b (List.map V.int ns)) : RV (rEqD K) (.ref a) (.ref b) H (.bl true) :=
  rv_eqD (.lst ha (dp_ints ns)) (.lst hb (dp_ints ns)) (shaped_l ns) (shaped_l ns) (eqvL ns)
end
end K3
namespace K3
open PySem PySem.Spec PyProof.Rows L2 Evl Nd
local macro_rules | `(tactic| walk_at "ev") => `(tactic| first
  | exact ev_var rfl
  | exact ev_c
  | (apply ev_op; (walk_at "ev"); (walk_at "ev"); (walk_at "rv"))
  | (apply ev_un; (walk_at "ev"); (walk_at "rv"))
  | (apply ev_lenS; (walk_at "ev"); (walk_at "sq"))
  | (apply ev_andV; (walk_at "ev"); (intro _; walk_at "ev"))
  | (apply ev_orV; (walk_at "ev"); (intro _; walk_at "ev"))
  | (apply ev_notV; (walk_at "ev")))
local macro_rules | `(tactic| walk_at "rv") => `(tactic| first
  | exact rv_I0
  | exact ru_neg
  | exact rv_eq rfl
  | exact rv_ne rfl
  | exact rv_I (by decide)
  | exact rv_I (by first | omega | exact .inl (by omega) | exact .inr (by omega) | (constructor <;> omega)))
local macro_rules | `(tactic| walk_at "sq") => `(tactic| first
  | assumption
  | exact SqS.lst (by assumption)
  | exact SqS.tup (by assumption)
  | exact Or.inl (by assumption)
  | exact Or.inr (by assumption)
  | (refine SqS.mono (by assumption) ?_; walk_at "sq"))
local macro_rules | `(tactic| walk_at "et") => `(tactic| first
  | (apply et_or; (walk_at "et"); (intro _; walk_at "et"))
  | (apply et_and; (walk_at "et"); (intro _; walk_at "et"))
  | (apply et_not; (walk_at "et"))
  | (apply et_test; (walk_at "ev"))
  | (apply et_B; (walk_at "ev")))
local macro_rules | `(tactic| walk_at "ea") => `(tactic| first
  | exact ea_nil
  | (apply ea_cons; (walk_at "ev"); (walk_at "ea")))
section
variable {P : Program} {w : World} {K : PySem.W.Frag} {mg : Str → Option Value} {base : Heap} {CO CS CN CT : Addr}
def spBadLots : Sp := fun vs H Q E => ∃ (p a : Addr) (n : Int) (xs : List Int), vs = [.ref p, .int n, .ref a] ∧ 0 ≤ n ∧ n ≤ 10 ∧ Tape H p ∧ a ≠ p ∧ H a = some (.lst (List.map V.int xs)) ∧ Fit n xs ∧ ∀ H2, But p H H2 → Tape H2 p → Q (.bl true) H2
theorem has__law_bad_lots (T : Tx P w K mg base CO CS CN CT) (h__law_all_refused : Has P w K mg base 8 "_law_all_refused" ["cases"] (spAllRef K)) (h__law_no_thing : Has P w K mg base 2 "_law_no_thing" ["tape", "things", "salt"] (spNoThing)) (h__law_take : Has P w K mg base 1 "_law_take" ["tape", "many", "salt"] (spTake)) (D : DefAt K mg "_law_bad_lots" s__law_bad_lots ["tape", "things", "one"]) : Has P w K mg base 9 "_law_bad_lots" ["tape", "things", "one"] (spBadLots) := by
  refine D.has sc__law_bad_lots (fun vs H Q E h => ?len) (fun f cdv A outer s H vs Q E hr h => ?body)
  case len =>
    obtain ⟨_, _, _, _, rfl, _, _, _, _, _, _, _⟩ := h
    rfl
  case body =>
    have tk : Takes (cxOf (L2.CX P w) P w K mg base ["tape", "things", "one", "odd", "at", "wrong", "many", "step", "far", "cases", "name", "kept"] "_law_bad_lots" (defScope s__law_bad_lots) f cdv A outer s H E) (fun cls d _ H => E cls d H) := takes_of rfl rfl rfl rfl
    obtain ⟨p, a, n, xs, rfl, n0, n10, ht, hap, hA, fx, h⟩ := h
    refine ⟨_, (pss_cons (ps_set (i := 3) sc__law_bad_lots.nd rfl (.inl rfl) (pe_hasN h__law_no_thing (hr.mono (by decide)) (pa_cons (pv 0) (pa_cons (pv 1) (pa_cons pe_int pa_nil)))))
      (pss_cons (ps_set (i := 4) sc__law_bad_lots.nd rfl (.inl rfl) (pe_hasN h__law_take (hr.mono (by decide)) (pa_cons (pv 0) (pa_cons pe_int (pa_cons pe_int pa_nil)))))
      (pss_cons (ps_set (i := 5) sc__law_bad_lots.nd rfl (.inl rfl) (pe_op op_cat (pe_op op_cat (pe_slice sl_list (pe_slice sl_list (pv 2) po_none (po_some pe_int)) po_none (po_some (pv 4))) (pe_lst (pa_cons (pv 3) pa_nil))) (pe_slice sl_list (pe_slice sl_list (pv 2) po_none (po_some pe_int)) (po_some (pv 4)) po_none)))
      (pss_cons (ps_expr (pe_bm PySem.F.plainAttrs_list PySem.F.slot_list_append PySem.F.type_list_append mt_append (pv 5) (pa_cons (pe_hasN h__law_no_thing (hr.mono (by decide)) (pa_cons (pv 0) (pa_cons (pv 1) (pa_cons pe_int pa_nil)))) pa_nil)))
      (pss_cons (ps_set (i := 6) sc__law_bad_lots.nd rfl (.inl rfl) (pe_op op_rep (pe_lst (pa_cons (pv 3) pa_nil)) pe_int))
      (pss_cons (ps_set (i := 7) sc__law_bad_lots.nd rfl (.inl rfl) (pe_hasN h__law_take (hr.mono (by decide)) (pa_cons (pv 0) (pa_cons pe_int (pa_cons pe_int pa_nil)))))
      (pss_cons (ps_set (i := 8) sc__law_bad_lots.nd rfl (.inl rfl) (pe_ix ix_list (pe_lst (pa_cons (pe_op op_add pe_int (pv 7)) (pa_cons (pe_op op_sub (pe_un un_neg pe_int) (pv 7)) pa_nil))) (pe_hasN h__law_take (hr.mono (by decide)) (pa_cons (pv 0) (pa_cons pe_int (pa_cons pe_int pa_nil)))) (fun _ _ => rfl)))
      (pss_cons (ps_set (i := 9) sc__law_bad_lots.nd rfl (.inl rfl) (pe_lst (pa_cons (pe_tup (pa_cons pe_str (pa_cons (pv 8) (pa_cons (pv 6) (pa_cons pe_non (pa_cons (pe_tup (pa_cons pe_str (pa_cons (pv 8) pa_nil))) pa_nil)))))) pa_nil)))
      (pss_cons (ps_expr (pe_bm PySem.F.plainAttrs_list PySem.F.slot_list_append PySem.F.type_list_append mt_append (pv 9) (pa_cons (pe_tup (pa_cons pe_str (pa_cons (pv 8) (pa_cons pe_non (pa_cons pe_non (pa_cons (pe_tup (pa_cons pe_str (pa_cons (pv 8) pa_nil))) pa_nil)))))) pa_nil)))
      (pss_cons (ps_expr (pe_bm PySem.F.plainAttrs_list PySem.F.slot_list_append PySem.F.type_list_append mt_append (pv 9) (pa_cons (pe_tup (pa_cons pe_str (pa_cons (pv 1) (pa_cons (pv 6) (pa_cons pe_non (pa_cons (pe_tup (pa_cons pe_str (pa_cons pe_int pa_nil))) pa_nil)))))) pa_nil)))
      (pss_cons (ps_expr (pe_bm PySem.F.plainAttrs_list PySem.F.slot_list_append PySem.F.type_list_append mt_append (pv 9) (pa_cons (pe_tup (pa_cons pe_str (pa_cons (pv 1) (pa_cons (pv 5) (pa_cons pe_non (pa_cons (pe_tup (pa_cons pe_str (pa_cons (pv 3) pa_nil))) pa_nil)))))) pa_nil)))
      (pss_cons (ps_for (passes_of rfl) rfl (pi_list (pe_lst (pa_cons pe_str (pa_cons pe_str (pa_cons pe_str pa_nil))))) (pg_name (i := 10) sc__law_bad_lots.nd rfl (.inl rfl)) (pss_cons (ps_expr (pe_bm PySem.F.plainAttrs_list PySem.F.slot_list_append PySem.F.type_list_append mt_append (pv 9) (pa_cons (pe_tup (pa_cons (pv 10) (pa_cons (pv 8) (pa_cons (pv 5) (pa_cons (pv 6) (pa_cons (pe_tup (pa_cons pe_str (pa_cons (pv 8) pa_nil))) pa_nil)))))) pa_nil)))
      (pss_cons (ps_expr (pe_bm PySem.F.plainAttrs_list PySem.F.slot_list_append PySem.F.type_list_append mt_append (pv 9) (pa_cons (pe_tup (pa_cons (pv 10) (pa_cons (pv 1) (pa_cons (pv 5) (pa_cons (pv 6) (pa_cons (pe_tup (pa_cons pe_str (pa_cons (pv 3) pa_nil))) pa_nil)))))) pa_nil)))
      (pss_cons (ps_expr (pe_bm PySem.F.plainAttrs_list PySem.F.slot_list_append PySem.F.type_list_append mt_append (pv 9) (pa_cons (pe_tup (pa_cons (pv 10) (pa_cons (pv 1) (pa_cons (pv 6) (pa_cons (pv 5) (pa_cons (pe_tup (pa_cons pe_str (pa_cons pe_int pa_nil))) pa_nil)))))) pa_nil)))
      (pss_cons (ps_expr (pe_bm PySem.F.plainAttrs_list PySem.F.slot_list_append PySem.F.type_list_append mt_append (pv 9) (pa_cons (pe_tup (pa_cons (pv 10) (pa_cons (pv 1) (pa_cons (pv 2) (pa_cons (pv 5) (pa_cons (pe_tup (pa_cons pe_str (pa_cons (pv 3) pa_nil))) pa_nil)))))) pa_nil)))
      (pss_one (ps_expr (pe_bm PySem.F.plainAttrs_list PySem.F.slot_list_append PySem.F.type_list_append mt_append (pv 9) (pa_cons (pe_tup (pa_cons (pv 10) (pa_cons (pv 1) (pa_cons (pv 2) (pa_cons (pe_callTy call_tuple_of (by rfl) T.z_tuple (by decide +kernel) (pa_cons (pv 6) pa_nil)) (pa_cons (pe_tup (pa_cons pe_str (pa_cons pe_int pa_nil))) pa_nil)))))) pa_nil)))))))))
      (pss_cons (ps_set (i := 11) sc__law_bad_lots.nd rfl (.inl rfl) (pe_callTy call_list_of (by rfl) T.z_list (by decide +kernel) (pa_cons (pv 5) pa_nil)))
      (pss_one (ps_ret (pe_and (pe_hasN h__law_all_refused (hr.mono (by decide)) (pa_cons (pv 9) pa_nil)) (pe_and (pe_cmpR (op_eqD hr.units) (pv 5) (pv 11) (nomark _)) (pe_one (pe_cmpR (op_eqD hr.units) (pv 6) (pe_op op_rep (pe_lst (pa_cons (pv 3) pa_nil)) pe_int) (nomark _)))))))))))))))))))), ?_⟩
    refine q_noThing (salt := 1) (ea_cons (ev_var rfl) (ea_cons (ev_var rfl) (ea_cons ev_c ea_nil))) n0 n10 ht fun odd H1 hodd b1 t1 => ?_
    refine q_take (many := 6) (salt := 2) (ea_cons (ev_var rfl) (ea_cons ev_c (ea_cons ev_c ea_nil))) (by decide) t1 fun r H2 r0 r1 b2 t2 => ?_
    obtain ⟨k, rfl⟩ := Int.eq_ofNat_of_zero_le r0
    have b02 := b1.trans b2
    have g2 := b02 a _ hap hA
    -- wrong
    refine q_asgL (el_cati (xs := (xs.take 5).take k ++ [odd]) (ys := (xs.take 5).drop k) (em_el (el_cati (em_el (el_toN k (el_to 5 (ev_var rfl) ev_c (sq_of g2)) (ev_var rfl))) (em_el (el_one (ev_var rfl))) ?z1)) (em_el (el_fromN k (el_to 5 (ev_var rfl) ev_c (sq_of g2)) (ev_var rfl))) ?z2) fun wq H3 hwq e3 g3 => ?_
    case z1 =>
      rw [List.length_take, List.length_take, List.length_cons, List.length_nil]
      omega
    case z2 =>
      rw [List.length_append, List.length_take, List.length_take, List.length_drop, List.length_take, List.length_cons, List.length_nil]
      omega
    obtain ⟨hw0, hwp⟩ := b02.fresh t2 hwq
    refine ⟨.ref wq, rfl, .inl ⟨rfl, _, sq_of g3⟩, ?_⟩
    refine go_noThing (salt := 0) (ea_cons (ev_var rfl) (ea_cons (ev_var rfl) (ea_cons ev_c ea_nil))) n0 n10 (t2.mono e3) fun odd2 H4 _ b4 t4 => ?_
    refine ⟨wq, _, .int odd2, rfl, rfl, b4 wq _ hwp g3, sz_lt ?z3, ?_⟩
    case z3 =>
      rw [List.length_map, List.length_append, List.length_append, List.length_take, List.length_take, List.length_drop, List.length_take, List.length_cons, List.length_nil]
      omega
    have b5 := ((b02.trans (But.of e3)).trans b4).new (o := .lst (List.map V.int ((xs.take 5).take k ++ [odd] ++ (xs.take 5).drop k) ++ [.int odd2])) hw0
    have t5 : Tape (upd H4 wq (.lst (List.map V.int ((xs.take 5).take k ++ [odd] ++ (xs.take 5).drop k) ++ [.int odd2]))) p := by
      obtain ⟨ds, hd⟩ := t4
      exact ⟨ds, by rw [upd_ne hwp.symm]; exact hd⟩
    -- what is wrong
    obtain ⟨ws, hws, ews⟩ : ∃ ws : List Int, ws = (xs.take 5).take k ++ odd :: ((xs.take 5).drop k ++ [odd2]) ∧ List.map V.int ((xs.take 5).take k ++ [odd] ++ (xs.take 5).drop k) ++ [V.int odd2] = List.map V.int ws := ⟨_, rfl, by simp⟩
    rw [ews] at b5 t5 ⊢
    have hwl : ws.length ≤ 7 := by
      rw [hws, List.length_append, List.length_cons, List.length_append, List.length_take, List.length_drop, List.length_take, List.length_cons, List.length_nil]
      omega
    have lw : lookLot n ws = .error (.thing odd) := by
      rw [hws]
      refine lookLot_thing hodd (fun z hz => fx.1 z (List.mem_of_mem_take (List.mem_of_mem_take hz))) ?_
      rw [← hws]
      omega
    have g5 : (upd H4 wq (.lst (List.map V.int ws))) wq = some (.lst (List.map V.int ws)) := upd_same
    generalize upd H4 wq (.lst (List.map V.int ws)) = H5 at b5 t5 g5 ⊢
    -- many
    refine q_asgL (el_rep61 (ev_var rfl)) fun mq H6 hmq e6 g6 => ?_
    obtain ⟨hm0, hmp⟩ := b5.fresh t5 hmq
    obtain ⟨ms, hms⟩ : ∃ ms : List Int, ms = List.replicate 61 odd := ⟨_, rfl⟩
    rw [← hms] at g6
    have lm : lookLot n ms = .error (.size 61) := by
      have := lookLot_size (n := n) (ns := ms) (by rw [hms, List.length_replicate]; omega)
      rw [this, hms, List.length_replicate]
      rfl
    -- far
    refine q_take (many := 12) (salt := 0) (ea_cons (ev_var rfl) (ea_cons ev_c (ea_cons ev_c ea_nil))) (by decide) (t5.mono e6) fun s H7 s0 s1 b7 t7 => ?_
    refine q_ixTakeI (ns := [11 + s, -1 - s]) (many := 2) (salt := 0) (el_lst (ea_cons (ev_add ev_c (ev_var rfl)) (ea_cons (ev_sub (ev_neg ev_c) (ev_var rfl)) ea_nil)) (by show 2 ≤ 100000; decide)) rfl (ea_cons (ev_var rfl) (ea_cons ev_c (ea_cons ev_c ea_nil))) (by decide) t7 fun H8 far hfar b8 t8 => ?_
    have hfar : far < 0 ∨ 10 < far := by
      rcases List.mem_cons.mp hfar with e | e
      · exact .inr (by omega)
      · rcases List.mem_cons.mp e with e | e
        · exact .inl (by omega)
        · simp at e
    have b68 := b7.trans b8
    have b08 := (b5.trans (But.of e6)).trans b68
    have gw8 := b68 wq _ hwp (e6 wq _ g5)
    have gm8 := b68 mq _ hmp g6
    have ga8 := b08 a _ hap hA
    -- cases
    refine q_case1 (K := K) (ec_tup (name := "lot_of") (n := far) (r := .num far) (P1 := IsLst ms) (P2 := Any) ev_c (ev_var rfl) (eg_var (ev_var rfl) gm8) (eg_any ev_c) ev_c (ev_var rfl) IsLst.mono (fun _ _ => trivial) fun l x y H' hl p1 p2 => .inl ⟨rfl, ms, p1.seq hl, lotOf_things hfar⟩) fun cq t0 Hc hcq ec gc c0 => ?_
    have bl : BL K cq Hc Hc 1 := BL.first gc c0
    have nw : wq ≠ cq := fun e => by rw [← e, gw8] at hcq; cases hcq
    have nm : mq ≠ cq := fun e => by rw [← e, gm8] at hcq; cases hcq
    have na : a ≠ cq := fun e => by rw [← e, ga8] at hcq; cases hcq
    have np : p ≠ cq := fun e => by
      obtain ⟨ds, hd⟩ := t8
      rw [← e, hd] at hcq
      cases hcq
    have gw := ec wq _ gw8
    have gm := ec mq _ gm8
    have ga := ec a _ ga8
    have tc := t8.mono ec
    have bc := b08.trans (But.of ec)
    have hc0 := (b08.fresh t8 hcq).1
    refine q_case bl (ev_var rfl) (ec_tup (name := "all_lots") (n := far) (r := .num far) (P1 := Any) (P2 := Any) ev_c (ev_var rfl) (eg_any ev_c) (eg_any ev_c) ev_c (ev_var rfl) (fun _ _ => trivial) (fun _ _ => trivial) fun l x y H' hl p1 p2 => .inr (.inl ⟨rfl, lookThings_bad hfar⟩)) (by decide) fun H9 b9 => ?_
    refine q_case b9 (ev_var rfl) (ec_tup (name := "lot_of") (n := n) (r := .size 61) (P1 := IsLst ms) (P2 := Any) ev_c (ev_var rfl) (eg_var (ev_var rfl) (b9.but mq _ nm gm)) (eg_any ev_c) ev_c ev_c IsLst.mono (fun _ _ => trivial) fun l x y H' hl p1 p2 => .inl ⟨rfl, ms, p1.seq hl, lotOf_bad n0 n10 lm⟩) (by decide) fun H10 b10 => ?_
    refine q_case b10 (ev_var rfl) (ec_tup (name := "lot_of") (n := n) (r := .thing odd) (P1 := IsLst ws) (P2 := Any) ev_c (ev_var rfl) (eg_var (ev_var rfl) (b10.but wq _ nw gw)) (eg_any ev_c) ev_c (ev_var rfl) IsLst.mono (fun _ _ => trivial) fun l x y H' hl p1 p2 => .inl ⟨rfl, ws, p1.seq hl, lotOf_bad n0 n10 lw⟩) (by decide) fun H11 b11 => ?_
    -- the three names
    refine q_forNL (xs := [.str "joined", .str "common", .str "without"]) (el_lst (ea_cons ev_c (ea_cons ev_c (ea_cons ev_c ea_nil))) (by show 3 ≤ 100000; decide))
      (fun q i σ' H' => ∃ v10, σ' = [some (.ref p), some (.int n), some (.ref a), some (.int odd), some (.int (k : Int)), some (.ref wq), some (.ref mq), some (.int s), some (.int far), some (.ref cq), v10, none] ∧ BL K cq Hc H' (4 + 5 * i) ∧ q ≠ cq ∧ H' q = some (.lst [.str "joined", .str "common", .str "without"]))
      (fun q H12 hq e12 g12 => ⟨none, rfl, b11.mono e12, fun e => ?nq, g12⟩) (fun q i σ' H' _ z => by obtain ⟨_, _, _, _, g⟩ := z; exact sq_of g) ?turn ?fin
    case nq =>
      obtain ⟨t, r, h1, _⟩ := b11.acc
      rw [e, h1] at hq
      cases hq
    case turn =>
      rintro q i x σ' H12 hx ⟨v10, rfl, b12, nq, gq⟩
      obtain ⟨name, rfl, hname, hi⟩ : ∃ name : Str, x = .str name ∧ (name = "joined" ∨ name = "common" ∨ name = "without") ∧ i < 3 := by
        match i, hx with
        | 0, hx => exact ⟨_, (Option.some.inj hx).symm, .inl rfl, by omega⟩
        | 1, hx => exact ⟨_, (Option.some.inj hx).symm, .inr (.inl rfl), by omega⟩
        | 2, hx => exact ⟨_, (Option.some.inj hx).symm, .inr (.inr rfl), by omega⟩
      have c0 := b12.base
      have w12 := b12.but wq _ nw gw
      have m12 := b12.but mq _ nm gm
      have a12 := b12.but a _ na ga
      refine q_case c0 (ev_var rfl) (ec_tup (name := name) (n := far) (r := .num far) (P1 := IsLst ws) (P2 := IsLst ms) (ev_var rfl) (ev_var rfl) (eg_var (ev_var rfl) w12) (eg_var (ev_var rfl) m12) ev_c (ev_var rfl) IsLst.mono IsLst.mono fun l x y H' hl p1 p2 => bad_two hname (fun f => onTwo_things hfar) (p1.seq hl) (p2.seq hl)) (by omega) fun H13 c1 => ?_
      refine q_case c1 (ev_var rfl) (ec_tup (name := name) (n := n) (r := .thing odd) (P1 := IsLst ws) (P2 := IsLst ms) (ev_var rfl) (ev_var rfl) (eg_var (ev_var rfl) (c1.but wq _ nw w12)) (eg_var (ev_var rfl) (c1.but mq _ nm m12)) ev_c (ev_var rfl) IsLst.mono IsLst.mono fun l x y H' hl p1 p2 => bad_two hname (fun f => onTwo_first n0 n10 lw) (p1.seq hl) (p2.seq hl)) (by omega) fun H14 c2 => ?_
      refine q_case c2 (ev_var rfl) (ec_tup (name := name) (n := n) (r := .size 61) (P1 := IsLst ms) (P2 := IsLst ws) (ev_var rfl) (ev_var rfl) (eg_var (ev_var rfl) (c2.but mq _ nm m12)) (eg_var (ev_var rfl) (c2.but wq _ nw w12)) ev_c ev_c IsLst.mono IsLst.mono fun l x y H' hl p1 p2 => bad_two hname (fun f => onTwo_first n0 n10 lm) (p1.seq hl) (p2.seq hl)) (by omega) fun H15 c3 => ?_
      refine q_case c3 (ev_var rfl) (ec_tup (name := name) (n := n) (r := .thing odd) (P1 := IsLst xs) (P2 := IsLst ws) (ev_var rfl) (ev_var rfl) (eg_var (ev_var rfl) (c3.but a _ na a12)) (eg_var (ev_var rfl) (c3.but wq _ nw w12)) ev_c (ev_var rfl) IsLst.mono IsLst.mono fun l x y H' hl p1 p2 => bad_two hname (fun f => onTwo_second n0 n10 fx lw) (p1.seq hl) (p2.seq hl)) (by omega) fun H16 c4 => ?_
      refine s_case c4 (ev_var rfl) (ec_tup (name := name) (n := n) (r := .size 61) (P1 := IsLst xs) (P2 := IsLst ms) (ev_var rfl) (ev_var rfl) (eg_var (ev_var rfl) (c4.but a _ na a12)) (eg_u (eu_tuple (ev_var rfl) (sq_of (c4.but mq _ nm m12)))) ev_c ev_c IsLst.mono IsLst.mono fun l x y H' hl p1 p2 => bad_two hname (fun f => onTwo_second n0 n10 fx lm) (p1.seq hl) (p2.seq hl)) (by omega) fun H17 c5 => ?_
      refine ⟨_, rfl, ?_, nq, c5.but q _ nq gq⟩
      have z := b12.join c5
      have e : 4 + 5 * i + 1 + 1 + 1 + 1 + 1 = 4 + 5 * (i + 1) := by omega
      rw [e] at z
      exact z
    case fin =>
      rintro q σ' H12 ⟨v10, rfl, b12, _, _⟩
      refine q_asgL (el_list (ev_var rfl) (sq_of (b12.but wq _ nw gw))) fun kq H13 hkq e13 g13 => ?_
      have b13 := b12.mono e13
      refine s_ret (ev_andV (a := true) (b := true) (b13.calls (ea_cons (ev_var rfl) ea_nil)) fun _ => ev_andV (a := true) (b := true) (ev_op (ev_var rfl) (ev_var rfl) (rv_eqLs (K := K) (sq_of (b13.but wq _ nw gw)) (sq_of g13))) fun _ => ev_opL (ev_var rfl) (el_rep61 (ev_var rfl)) fun f H14 g14 e14 => ?_) fun H14 e14 => h H14 ((b13.out bc hc0).trans (But.of e14)) ((b13.tape tc np).mono e14)
      rw [← hms] at g14
      exact rv_eqLs (K := K) (sq_of (e14 mq _ (b13.but mq _ nm gm))) (sq_of g14)
end
end K3
namespace K3
open PySem PySem.Spec PyProof.Rows L2 Evl Nd
local macro_rules | `(tactic| walk_at "ev") => `(tactic| first
  | exact ev_var rfl
  | exact ev_c
  | (apply ev_op; (walk_at "ev"); (walk_at "ev"); (walk_at "rv"))
  | (apply ev_un; (walk_at "ev"); (walk_at "rv"))
  | (apply ev_lenS; (walk_at "ev"); (walk_at "sq"))
  | (apply ev_andV; (walk_at "ev"); (intro _; walk_at "ev"))
  | (apply ev_orV; (walk_at "ev"); (intro _; walk_at "ev"))
  | (apply ev_notV; (walk_at "ev")))
local macro_rules | `(tactic| walk_at "rv") => `(tactic| first
  | exact rv_I0
  | exact ru_neg
  | exact rv_eq rfl
  | exact rv_ne rfl
  | exact rv_I (by decide)
  | exact rv_I (by first | omega | exact .inl (by omega) | exact .inr (by omega) | (constructor <;> omega)))
local macro_rules | `(tactic| walk_at "sq") => `(tactic| first
  | assumption
  | exact SqS.lst (by assumption)
  | exact SqS.tup (by assumption)
  | exact Or.inl (by assumption)
  | exact Or.inr (by assumption)
  | (refine SqS.mono (by assumption) ?_; walk_at "sq"))
local macro_rules | `(tactic| walk_at "et") => `(tactic| first
  | (apply et_or; (walk_at "et"); (intro _; walk_at "et"))
  | (apply et_and; (walk_at "et"); (intro _; walk_at "et"))
  | (apply et_not; (walk_at "et"))
  | (apply et_test; (walk_at "ev"))
  | (apply et_B; (walk_at "ev")))
local macro_rules | `(tactic| walk_at "ea") => `(tactic| first
  | exact ea_nil
  | (apply ea_cons; (walk_at "ev"); (walk_at "ea")))
theorem given_const (n : Nat) (z : Int) : given n (fun _ => true) (fun _ => V.int z) = List.map V.int (List.replicate n z) := by
  unfold given
  rw [List.filter_eq_self.mpr (fun _ _ => rfl), List.map_replicate]
  apply List.ext_getElem
  · simp
  · intro i h1 h2
    simp
theorem set_drop {l : List Int} {k : Nat} {x : Int} (h : k < l.length) : (l.set k x).drop k = x :: l.drop (k + 1) := by
  have h2 : k < (l.set k x).length := by rw [List.length_set]; exact h
  rw [List.drop_eq_getElem_cons h2, List.getElem_set_self, List.drop_set_of_lt (by omega)]
section
variable {P : Program} {w : World} {K : PySem.W.Frag} {mg : Str → Option Value} {base : Heap} {CO CS CN CT : Addr}
def spBadCosts : Sp := fun vs H Q E => ∃ (p c a : Addr) (n : Int) (cs xs : List Int), vs = [.ref p, .int n, .ref c, .ref a] ∧ 0 ≤ n ∧ n ≤ 10 ∧ Tape H p ∧ c ≠ p ∧ a ≠ p ∧ H c = some (.lst (List.map V.int cs)) ∧ H a = some (.lst (List.map V.int xs)) ∧ Cost n cs ∧ Fit n xs ∧
  ∀ H2, But p H H2 → Tape H2 p → Q (.bl true) H2
theorem has__law_bad_costs (T : Tx P w K mg base CO CS CN CT) (h__law_all_refused : Has P w K mg base 8 "_law_all_refused" ["cases"] (spAllRef K)) (h__law_no_thing : Has P w K mg base 2 "_law_no_thing" ["tape", "things", "salt"] (spNoThing)) (h__law_take : Has P w K mg base 1 "_law_take" ["tape", "many", "salt"] (spTake)) (D : DefAt K mg "_law_bad_costs" s__law_bad_costs ["tape", "things", "costs", "one"]) : Has P w K mg base 9 "_law_bad_costs" ["tape", "things", "costs", "one"] (spBadCosts) := by
  refine D.has sc__law_bad_costs (fun vs H Q E h => ?len) (fun f cdv A outer s H vs Q E hr h => ?body)
  case len =>
    obtain ⟨_, _, _, _, _, _, rfl, _, _, _, _, _, _, _, _, _, _⟩ := h
    rfl
  case body =>
    have tk : Takes (cxOf (L2.CX P w) P w K mg base ["tape", "things", "costs", "one", "odd", "step", "far", "at", "more", "cases", "less", "wrong", "kept", "cost"] "_law_bad_costs" (defScope s__law_bad_costs) f cdv A outer s H E) (fun cls d _ H => E cls d H) := takes_of rfl rfl rfl rfl
    obtain ⟨p, c, a, n, cs, xs, rfl, n0, n10, ht, hcp, hap, hC, hA, fc, fx, h⟩ := h
    refine ⟨_, (pss_cons (ps_set (i := 4) sc__law_bad_costs.nd rfl (.inl rfl) (pe_hasN h__law_no_thing (hr.mono (by decide)) (pa_cons (pv 0) (pa_cons (pv 1) (pa_cons pe_int pa_nil)))))
      (pss_cons (ps_set (i := 5) sc__law_bad_costs.nd rfl (.inl rfl) (pe_hasN h__law_take (hr.mono (by decide)) (pa_cons (pv 0) (pa_cons pe_int (pa_cons pe_int pa_nil)))))
      (pss_cons (ps_set (i := 6) sc__law_bad_costs.nd rfl (.inr rfl) (pe_ix ix_list (pe_lst (pa_cons (pe_op op_add (pe_op op_add (pe_op op_pow pe_int pe_int) pe_int) (pv 5)) (pa_cons (pe_op op_sub (pe_op op_sub (pe_un un_neg pe_int) (pe_op op_pow pe_int pe_int)) (pv 5)) pa_nil))) (pe_hasN h__law_take (hr.mono (by decide)) (pa_cons (pv 0) (pa_cons pe_int (pa_cons pe_int pa_nil)))) (fun _ _ => rfl)))
      (pss_cons (ps_set (i := 7) sc__law_bad_costs.nd rfl (.inl rfl) (pe_hasN h__law_take (hr.mono (by decide)) (pa_cons (pv 0) (pa_cons (pe_callB (call_max2 rfl) (by rfl) T.z_max (by decide +kernel) (pa_cons pe_int (pa_cons (pv 1) pa_nil))) (pa_cons pe_int pa_nil)))))
      (pss_cons (ps_set (i := 8) sc__law_bad_costs.nd rfl (.inl rfl) (pe_op op_cat (pv 2) (pe_lst (pa_cons (pv 6) pa_nil))))
      (pss_cons (ps_set (i := 9) sc__law_bad_costs.nd rfl (.inl rfl) (pe_lst (pa_cons (pe_tup (pa_cons pe_str (pa_cons (pe_op op_add pe_int (pv 5)) (pa_cons (pe_lst (pa_cons (pv 6) pa_nil)) (pa_cons (pe_lst (pa_cons (pv 4) pa_nil)) (pa_cons (pe_tup (pa_cons pe_str (pa_cons (pe_op op_add pe_int (pv 5)) pa_nil))) pa_nil)))))) pa_nil)))
      (pss_cons (ps_expr (pe_bm PySem.F.plainAttrs_list PySem.F.slot_list_append PySem.F.type_list_append mt_append (pv 9) (pa_cons (pe_tup (pa_cons pe_str (pa_cons (pe_op op_sub (pe_un un_neg pe_int) (pv 5)) (pa_cons (pe_lst (pa_cons (pv 6) pa_nil)) (pa_cons (pe_lst (pa_cons (pv 4) pa_nil)) (pa_cons (pe_tup (pa_cons pe_str (pa_cons (pe_op op_sub (pe_un un_neg pe_int) (pv 5)) pa_nil))) pa_nil)))))) pa_nil)))
      (pss_cons (ps_expr (pe_bm PySem.F.plainAttrs_list PySem.F.slot_list_append PySem.F.type_list_append mt_append (pv 9) (pa_cons (pe_tup (pa_cons pe_str (pa_cons (pv 1) (pa_cons (pv 8) (pa_cons (pe_lst (pa_cons (pv 4) pa_nil)) (pa_cons (pe_tup (pa_cons pe_str (pa_cons (pe_op op_add (pv 1) pe_int) pa_nil))) pa_nil)))))) pa_nil)))
      (pss_cons (ps_expr (pe_bm PySem.F.plainAttrs_list PySem.F.slot_list_append PySem.F.type_list_append mt_append (pv 9) (pa_cons (pe_tup (pa_cons pe_str (pa_cons (pv 1) (pa_cons (pv 2) (pa_cons (pe_op op_cat (pe_slice sl_list (pv 3) po_none (po_some pe_int)) (pe_lst (pa_cons (pv 4) pa_nil))) (pa_cons (pe_tup (pa_cons pe_str (pa_cons (pv 4) pa_nil))) pa_nil)))))) pa_nil)))
      (pss_cons (ps_expr (pe_bm PySem.F.plainAttrs_list PySem.F.slot_list_append PySem.F.type_list_append mt_append (pv 9) (pa_cons (pe_tup (pa_cons pe_str (pa_cons (pv 1) (pa_cons (pv 2) (pa_cons (pe_op op_rep (pe_lst (pa_cons (pv 4) pa_nil)) pe_int) (pa_cons (pe_tup (pa_cons pe_str (pa_cons pe_int pa_nil))) pa_nil)))))) pa_nil)))
      (pss_cut (ps_if (pt_cmpR op_gt (pv 1) pe_int (nomark _)) (pss_cons (ps_set (i := 10) sc__law_bad_costs.nd rfl (.inl rfl) (pe_slice sl_list (pv 2) (po_some pe_int) po_none))
      (pss_cons (ps_setLc (i := 11) (own := [("cost", 13)]) rfl sc__law_bad_costs.nd rfl rfl (sw_true rfl rfl rfl (by decide +kernel)) (pi_list (pv 2)) (blkOk_by (own := [("cost", 13)]) (N := ["tape", "things", "costs", "one", "odd", "step", "far", "at", "more", "cases", "less", "wrong", "kept", "cost"]) (sc := defScope s__law_bad_costs) (by decide +kernel)) (fun _ _ _ _ _ => (pg_name (i := 13) sc__law_bad_costs.nd rfl (.inl rfl))) (fun _ _ _ _ _ => pts_nil) (fun _ _ _ _ _ => (pe_op op_mul (pe_un un_neg pe_int) (pv 6))))
      (pss_cons (ps_asg (pv 6) (pg_sub (pv 11) (pv 7) set_list))
      (pss_cons (ps_asg (pe_slice sl_list (pv 2) po_none (po_some (pv 7))) (pg_sl0 (pv 11) (pv 7)))
      (pss_cons (ps_expr (pe_bm PySem.F.plainAttrs_list PySem.F.slot_list_append PySem.F.type_list_append mt_append (pv 9) (pa_cons (pe_tup (pa_cons pe_str (pa_cons (pv 1) (pa_cons (pv 10) (pa_cons (pe_lst (pa_cons (pv 4) pa_nil)) (pa_cons (pe_tup (pa_cons pe_str (pa_cons (pe_op op_sub (pv 1) pe_int) pa_nil))) pa_nil)))))) pa_nil)))
      (pss_cons (ps_expr (pe_bm PySem.F.plainAttrs_list PySem.F.slot_list_append PySem.F.type_list_append mt_append (pv 9) (pa_cons (pe_tup (pa_cons pe_str (pa_cons (pv 1) (pa_cons (pv 11) (pa_cons (pe_lst (pa_cons (pv 4) pa_nil)) (pa_cons (pe_tup (pa_cons pe_str (pa_cons (pv 6) pa_nil))) pa_nil)))))) pa_nil)))
      (pss_one (ps_expr (pe_bm PySem.F.plainAttrs_list PySem.F.slot_list_append PySem.F.type_list_append mt_append (pv 9) (pa_cons (pe_tup (pa_cons pe_str (pa_cons (pv 1) (pa_cons (pe_callTy call_tuple_of (by rfl) T.z_tuple (by decide +kernel) (pa_cons (pv 11) pa_nil)) (pa_cons (pe_lst pa_nil) (pa_cons (pe_tup (pa_cons pe_str (pa_cons (pv 6) pa_nil))) pa_nil)))))) pa_nil)))))))))) pss_nil)
      (pss_cons (ps_set (i := 12) sc__law_bad_costs.nd rfl (.inl rfl) (pe_callTy call_list_of (by rfl) T.z_list (by decide +kernel) (pa_cons (pv 2) pa_nil)))
      (pss_one (ps_ret (pe_and (pe_hasN h__law_all_refused (hr.mono (by decide)) (pa_cons (pv 9) pa_nil)) (pe_one (pe_cmpR (op_eqD hr.units) (pv 2) (pv 12) (nomark _)))))))))))))))))), ?_⟩
    have flen := fc.1
    refine q_noThing (salt := 2) (ea_cons (ev_var rfl) (ea_cons (ev_var rfl) (ea_cons ev_c ea_nil))) n0 n10 ht fun odd H1 hodd b1 t1 => ?_
    refine q_take (many := 12) (salt := 0) (ea_cons (ev_var rfl) (ea_cons ev_c (ea_cons ev_c ea_nil))) (by decide) t1 fun s H2 s0 s1 b2 t2 => ?_
    have p6 : (10 : Int) ^ (6 : Int).toNat = 1000000 := by decide +kernel
    refine q_ixTakeI (ns := [(10 : Int) ^ (6 : Int).toNat + 1 + s, -1 - (10 : Int) ^ (6 : Int).toNat - s]) (many := 2) (salt := 1) (el_lst (ea_cons (ev_add (ev_add (ev_pow ev_c ev_c ⟨by decide, by decide, by decide⟩) ev_c) (ev_var rfl)) (ea_cons (ev_sub (ev_sub (ev_neg ev_c) (ev_pow ev_c ev_c ⟨by decide, by decide, by decide⟩)) (ev_var rfl)) ea_nil)) (by show 2 ≤ 100000; decide)) rfl
      (ea_cons (ev_var rfl) (ea_cons ev_c (ea_cons ev_c ea_nil))) (by decide) t2 fun H3 far hfar b3 t3 => ?_
    have hfar : far < -1000000 ∨ 1000000 < far := by
      rcases List.mem_cons.mp hfar with e | e
      · exact .inr (by omega)
      · rcases List.mem_cons.mp e with e | e
        · exact .inl (by omega)
        · simp at e
    refine q_take (many := if n > 1 then n else 1) (salt := 1) (ea_cons (ev_var rfl) (ea_cons (ev_max2 ev_c (ev_var rfl)) (ea_cons ev_c ea_nil))) (by split <;> omega) t3 fun r H4 r0 r1 b4 t4 => ?_
    obtain ⟨k, rfl⟩ := Int.eq_ofNat_of_zero_le r0
    have b04 := ((b1.trans b2).trans b3).trans b4
    have gc4 := b04 c _ hcp hC
    have ga4 := b04 a _ hap hA
    refine q_asgL (el_cati (xs := cs) (ys := [far]) (em_ev (ev_var rfl) gc4) (em_el (el_one (ev_var rfl))) (by show cs.length + 1 ≤ 100000; omega)) fun mq H5 hmq e5 g5 => ?_
    have lodd : lookLot n [odd] = .error (.thing odd) := lookLot_thing (pre := []) (post := []) hodd (fun z hz => by simp at hz) (by simp)
    have lmore : lookCosts n (cs ++ [far]) = .error (.size (n + 1)) := by
      have hh : ((cs ++ [far]).length : Int) = n + 1 := by rw [List.length_append, List.length_cons, List.length_nil]; omega
      have := lookCosts_size (n := n) (cs := cs ++ [far]) (by omega)
      rw [hh] at this
      exact this
    -- cases
    refine q_case1 (K := K) (ec_tup (name := "cost_of") (n := 11 + s) (r := .num (11 + s)) (P1 := IsLst [far]) (P2 := IsLst [odd]) ev_c (ev_add ev_c (ev_var rfl)) (eg_l (el_one (ev_var rfl))) (eg_l (el_one (ev_var rfl))) ev_c (ev_add ev_c (ev_var rfl)) IsLst.mono IsLst.mono fun l x y H' hl p1 p2 => bad_cost (costOf_things (by omega)) (p1.seq hl) (p2.seq hl)) fun cq t0 Hc hcq ec gc c0 => ?_
    have bl : BL K cq Hc Hc 1 := BL.first gc c0
    have gC5 := e5 c _ gc4
    have gA5 := e5 a _ ga4
    have t5 := t4.mono e5
    have nm : mq ≠ cq := fun e => by rw [← e, g5] at hcq; cases hcq
    have nc : c ≠ cq := fun e => by rw [← e, gC5] at hcq; cases hcq
    have na : a ≠ cq := fun e => by rw [← e, gA5] at hcq; cases hcq
    have np : p ≠ cq := fun e => by
      obtain ⟨ds, hd⟩ := t5
      rw [← e, hd] at hcq
      cases hcq
    have gm := ec mq _ g5
    have gC := ec c _ gC5
    have gA := ec a _ gA5
    have tc := t5.mono ec
    have b05 := b04.trans (But.of e5)
    have bc := b05.trans (But.of ec)
    have hc0 := (b05.fresh t5 hcq).1
    refine q_case bl (ev_var rfl) (ec_tup (name := "cost_of") (n := -1 - s) (r := .num (-1 - s)) (P1 := IsLst [far]) (P2 := IsLst [odd]) ev_c (ev_sub (ev_neg ev_c) (ev_var rfl)) (eg_l (el_one (ev_var rfl))) (eg_l (el_one (ev_var rfl))) ev_c (ev_sub (ev_neg ev_c) (ev_var rfl)) IsLst.mono IsLst.mono fun l x y H' hl p1 p2 => bad_cost (costOf_things (by omega)) (p1.seq hl) (p2.seq hl)) (by decide) fun H6 b6 => ?_
    refine q_case b6 (ev_var rfl) (ec_tup (name := "cost_of") (n := n) (r := .size (n + 1)) (P1 := IsLst (cs ++ [far])) (P2 := IsLst [odd]) ev_c (ev_var rfl) (eg_var (ev_var rfl) (b6.but mq _ nm gm)) (eg_l (el_one (ev_var rfl))) ev_c (ev_add (ev_var rfl) ev_c) IsLst.mono IsLst.mono fun l x y H' hl p1 p2 => bad_cost (costOf_costs n0 n10 lmore) (p1.seq hl) (p2.seq hl)) (by decide) fun H7 b7 => ?_
    refine q_case b7 (ev_var rfl) (ec_tup (name := "cost_of") (n := n) (r := .thing odd) (P1 := IsLst cs) (P2 := IsLst (xs.take 3 ++ [odd])) ev_c (ev_var rfl) (eg_var (ev_var rfl) (b7.but c _ nc gC)) (eg_l (el_cati (em_el (el_to 3 (ev_var rfl) ev_c (sq_of (b7.but a _ na gA)))) (em_el (el_one (ev_var rfl))) ?z1)) ev_c (ev_var rfl) IsLst.mono IsLst.mono fun l x y H' hl p1 p2 => bad_cost (costOf_lot n0 n10 fc (lookLot_thing (post := []) hodd (fun z hz => fx.1 z (List.mem_of_mem_take hz)) ?z2)) (p1.seq hl) (p2.seq hl)) (by decide) fun H8 b8 => ?_
    case z1 =>
      rw [List.length_take, List.length_cons, List.length_nil]
      omega
    case z2 =>
      rw [List.length_append, List.length_take, List.length_cons, List.length_nil]
      omega
    refine q_case b8 (ev_var rfl) (ec_tup (name := "cost_of") (n := n) (r := .size 61) (P1 := IsLst cs) (P2 := IsLst (List.replicate 61 odd)) ev_c (ev_var rfl) (eg_var (ev_var rfl) (b8.but c _ nc gC)) (eg_l (el_rep61 (ev_var rfl))) ev_c ev_c IsLst.mono IsLst.mono fun l x y H' hl p1 p2 => bad_cost (costOf_lot n0 n10 fc (by have := lookLot_size (n := n) (ns := List.replicate 61 odd) (by rw [List.length_replicate]; omega); rw [this, List.length_replicate]; rfl)) (p1.seq hl) (p2.seq hl)) (by decide) fun H9 b9 => ?_
    refine q_cut (M := fun σ' H' => ∃ v10 v11, σ' = [some (.ref p), some (.int n), some (.ref c), some (.ref a), some (.int odd), some (.int s), some (.int far), some (.int (k : Int)), some (.ref mq), some (.ref cq), v10, v11, none, none] ∧ ∃ m, BL K cq Hc H' m) ?more ?rest
    case rest =>
      rintro σ' H10 ⟨v10, v11, rfl, m, b10⟩
      refine q_asgL (el_list (ev_var rfl) (sq_of (b10.but c _ nc gC))) fun kq H11 hkq e11 g11 => ?_
      have b11 := b10.mono e11
      exact s_ret (ev_andV (a := true) (b := true) (b11.calls (ea_cons (ev_var rfl) ea_nil)) fun _ => ev_op (ev_var rfl) (ev_var rfl) (rv_eqLs (K := K) (sq_of (b11.but c _ nc gC)) (sq_of g11))) fun H12 e12 => h H12 ((b11.out bc hc0).trans (But.of e12)) ((b11.tape tc np).mono e12)
    case more =>
      refine s_when (et_test (ev_op (ev_var rfl) ev_c rv_I0)) (fun hb H10 e10 => ?yes) (fun hb H10 e10 => ⟨none, none, rfl, _, b9.mono e10⟩)
      have hn : 0 < n := of_decide_eq_true hb
      have hk : k < cs.length := by
        have : (k : Int) < n := by
          split at r1 <;> omega
        omega
      have b10 := b9.mono e10
      have gC10 := b10.but c _ nc gC
      refine q_asgL (el_from 1 (ev_var rfl) ev_c (sq_of gC10)) fun lq H11 hlq e11 g11 => ?_
      have hlen : (cs.map V.int).length = cs.length := List.length_map ..
      have lc := el_lcL (K := K) (H := H11) (σ := [some (.ref p), some (.int n), some (.ref c), some (.ref a), some (.int odd), some (.int s), some (.int far), some (.int (k : Int)), some (.ref mq), some (.ref cq), some (.ref lq), none, none, none]) (tl := tVar 2) (te := tOp (rI CMul fun i j => .int (i * j)) (tUn (rU fun i => .int (-i)) (tC (.int 7))) (tVar 6)) (t := tYes) (j := 13) (vs := [13]) (fun _ => true) (fun _ => V.int (-7 * far)) (ev_var rfl) (sq_of (e11 c _ gC10)) (by rw [hlen]; omega) (fun x => rfl)
        (fun i x H2 e2 hx => fun H3 e3 Q' q => q H3 (Ex.refl H3)) (fun i x H2 e2 hx _ => ev_op (ev_neg ev_c) (ev_var rfl) (rv_I (.inl (by decide))))
      rw [hlen, given_const] at lc
      refine q_asgL lc fun wq H12 hwq e12 g12 => ?_
      have b12 := (b10.mono e11).mono e12
      have nw : wq ≠ cq := fun e => by
        obtain ⟨t, r, h1, _⟩ := (b10.mono e11).acc
        rw [e, h1] at hwq
        cases hwq
      refine q_setL (j := k) g12 (ev_var rfl) (ev_var rfl) (ev_var rfl) (by rw [List.length_map, List.length_replicate]; exact hk) fun H13 e13 => ?_
      rw [← List.map_set]
      have x13 : Ex H11 (upd H13 wq (.lst (List.map V.int ((List.replicate cs.length (-7 * far)).set k far)))) := (e12.trans e13).mut hwq
      refine q_sl0 (ys := List.map V.int (cs.take k)) k upd_same (el_to k (ev_var rfl) (ev_var rfl) (sq_of (x13 c _ (e11 c _ gC10)))) (ev_var rfl) (ev_var rfl) (by rw [List.length_map, List.length_set, List.length_replicate]; omega) (by rw [List.length_map, List.length_set, List.length_replicate, List.length_map, List.length_take]; omega) fun H14 e14 => ?_
      rw [← List.map_drop, ← List.map_append, set_drop (by rw [List.length_replicate]; exact hk)]
      have x14 : Ex H11 (upd H14 wq (.lst (List.map V.int (cs.take k ++ far :: (List.replicate cs.length (-7 * far)).drop (k + 1))))) := (x13.trans e14).mut hwq
      obtain ⟨ws, hws⟩ : ∃ ws : List Int, ws = cs.take k ++ far :: (List.replicate cs.length (-7 * far)).drop (k + 1) := ⟨_, rfl⟩
      rw [← hws] at x14 ⊢
      have lws : lookCosts n ws = .error (.num far) := by
        rw [hws]
        refine lookCosts_number ?_ hfar fun z hz => fc.2 z (List.mem_of_mem_take hz)
        rw [List.length_append, List.length_take, List.length_cons, List.length_drop, List.length_replicate]
        omega
      have lless : lookCosts n (cs.drop 1) = .error (.size (n - 1)) := by
        have hh : ((cs.drop 1).length : Int) = n - 1 := by rw [List.length_drop]; omega
        have := lookCosts_size (n := n) (cs := cs.drop 1) (by omega)
        rw [hh] at this
        exact this
      have b14 := (b10.mono e11).mono x14
      have g14 : (upd H14 wq (.lst (List.map V.int ws))) wq = some (.lst (List.map V.int ws)) := upd_same
      have l14 := x14 lq _ g11
      generalize upd H14 wq (.lst (List.map V.int ws)) = H15 at b14 g14 l14 ⊢
      have c0 := b14.base
      have nl : lq ≠ cq := fun e => by
        obtain ⟨t, r, h1, _⟩ := b10.acc
        rw [e, h1] at hlq
        cases hlq
      refine q_case c0 (ev_var rfl) (ec_tup (name := "cost_of") (n := n) (r := .size (n - 1)) (P1 := IsLst (cs.drop 1)) (P2 := IsLst [odd]) ev_c (ev_var rfl) (eg_var (ev_var rfl) l14) (eg_l (el_one (ev_var rfl))) ev_c (ev_sub (ev_var rfl) ev_c) IsLst.mono IsLst.mono fun l x y H' hl p1 p2 => bad_cost (costOf_costs n0 n10 lless) (p1.seq hl) (p2.seq hl)) (by decide) fun H16 c1 => ?_
      refine q_case c1 (ev_var rfl) (ec_tup (name := "cost_of") (n := n) (r := .num far) (P1 := IsLst ws) (P2 := IsLst [odd]) ev_c (ev_var rfl) (eg_var (ev_var rfl) (c1.but wq _ nw g14)) (eg_l (el_one (ev_var rfl))) ev_c (ev_var rfl) IsLst.mono IsLst.mono fun l x y H' hl p1 p2 => bad_cost (costOf_costs n0 n10 lws) (p1.seq hl) (p2.seq hl)) (by decide) fun H17 c2 => ?_
      refine s_case c2 (ev_var rfl) (ec_tup (name := "cost_of") (n := n) (r := .num far) (P1 := IsLst ws) (P2 := IsLst []) ev_c (ev_var rfl) (eg_u (eu_tuple (ev_var rfl) (sq_of (c2.but wq _ nw g14)))) (eg_l (el_lst ea_nil (by show 0 ≤ 100000; decide))) ev_c (ev_var rfl) IsLst.mono IsLst.mono fun l x y H' hl p1 p2 => bad_cost (costOf_costs n0 n10 lws) (p1.seq hl) (p2.seq hl)) (by decide) fun H18 c3 => ?_
      exact ⟨_, _, rfl, _, b14.join c3⟩
end
end K3
namespace K3
open PySem PySem.Spec PyProof.Rows L2 Evl Nd
local macro_rules | `(tactic| walk_at "ev") => `(tactic| first
  | exact ev_var rfl
  | exact ev_c
  | (apply ev_op; (walk_at "ev"); (walk_at "ev"); (walk_at "rv"))
  | (apply ev_un; (walk_at "ev"); (walk_at "rv"))
  | (apply ev_lenS; (walk_at "ev"); (walk_at "sq"))
  | (apply ev_andV; (walk_at "ev"); (intro _; walk_at "ev"))
  | (apply ev_orV; (walk_at "ev"); (intro _; walk_at "ev"))
  | (apply ev_notV; (walk_at "ev")))
local macro_rules | `(tactic| walk_at "rv") => `(tactic| first
  | exact rv_I0
  | exact ru_neg
  | exact rv_eq rfl
  | exact rv_ne rfl
  | exact rv_I (by decide)
  | exact rv_I (by first | omega | exact .inl (by omega) | exact .inr (by omega) | (constructor <;> omega)))
local macro_rules | `(tactic| walk_at "sq") => `(tactic| first
  | assumption
  | exact SqS.lst (by assumption)
  | exact SqS.tup (by assumption)
  | exact Or.inl (by assumption)
  | exact Or.inr (by assumption)
  | (refine SqS.mono (by assumption) ?_; walk_at "sq"))
local macro_rules | `(tactic| walk_at "et") => `(tactic| first
  | (apply et_or; (walk_at "et"); (intro _; walk_at "et"))
  | (apply et_and; (walk_at "et"); (intro _; walk_at "et"))
  | (apply et_not; (walk_at "et"))
  | (apply et_test; (walk_at "ev"))
  | (apply et_B; (walk_at "ev")))
local macro_rules | `(tactic| walk_at "ea") => `(tactic| first
  | exact ea_nil
  | (apply ea_cons; (walk_at "ev"); (walk_at "ea")))
section
variable {K : PySem.W.Frag} {σ : L2.St} {H : Hp} {ts : TA} {D : Ends} {tq : TS} {E : L2.St → XK} {p : Addr}
theorem q_entries {n salt : Int} {i : Nat} (h : EvA ts σ H [.ref p, .int n, .int salt]) (n0 : 0 ≤ n) (ht : Tape H p)
    (k : ∀ q ns H2, H q = none → q ≠ p → But p H H2 → Tape H2 p → H2 q = some (.lst (List.map V.int ns)) → Fit n ns → tq D (σ.set i (some (.ref q))) H2) : tSeq (tAsg (tCallS spEntries E ts) (gName i)) tq D σ H :=
  h H (Ex.refl H) _ fun H1 e1 => ⟨p, n, salt, rfl, n0, ht.mono e1, fun q ns H2 hq hne b t g h1 h2 => k q ns H2 (fresh_back e1 hq) hne ((But.of e1).trans b) t g ⟨h1, h2⟩⟩
/-- the costs: one drawn for each thing -/
theorem q_costs {n : Int} {i j : Nat} {vs : List Nat} {ta : TA} {te : TE} (h : EvA ta σ H [.int n]) (n0 : 0 ≤ n) (n10 : n ≤ 10) (ht : Tape H p) (hw : ∀ x, wipe ((wipe σ vs).set j (some x)) vs = wipe σ vs)
    (he : ∀ (m : Nat) H1 (Q : VK), Tape H1 p → (∀ r H2, -4 ≤ r → r ≤ 7 → But p H1 H2 → Tape H2 p → Q (.int r) H2) → te ((wipe σ vs).set j (some (.int (m : Int)))) H1 Q)
    (k : ∀ q cs H2, H q = none → q ≠ p → But p H H2 → Tape H2 p → H2 q = some (.lst (List.map V.int cs)) → Cost n cs → tq D (σ.set i (some (.ref q))) H2) :
    tSeq (tAsg (tLc (iRng1 ta) (gName j) tYes te vs) (gName i)) tq D σ H := h H (Ex.refl H) _ fun H1 e1 => ⟨n, rfl, by omega, by omega, fun Dl hD => by
  have t1 := ht.mono e1
  have hne : Dl ≠ p := fun e => by
    obtain ⟨ds, hd⟩ := t1
    rw [e, hd] at hD
    cases hD
  refine lc_range (lo := 0) (n := n.toNat) (fun m H' => But p H1 H' ∧ Tape H' p ∧ ∃ cs : List Int, H' Dl = some (.lst (List.map V.int cs)) ∧ cs.length = m ∧ ∀ z ∈ cs, -1000000 ≤ z ∧ z ≤ 1000000) ⟨But.of (Ex.new hD), t1.mono (Ex.new hD), [], upd_same, rfl, fun z hz => by simp at hz⟩ ?_ ?_
  · rintro m H' hm ⟨b, t, cs, g, hl, hb⟩
    refine ⟨hw _, yes_go ?_⟩
    rw [if_pos rfl, Int.zero_add]
    refine he m H' _ t fun r H2 r0 r1 b2 t2 => ⟨_, b2 Dl _ hne g, sz_lt (by rw [List.length_map]; omega), (b.trans b2).new hD, ?_, cs ++ [r], by rw [upd_same, List.map_append]; rfl, by rw [List.length_append, hl]; rfl, fun z hz => ?_⟩
    · obtain ⟨ds, hd⟩ := t2
      exact ⟨ds, by rw [upd_ne hne.symm]; exact hd⟩
    · rcases List.mem_append.mp hz with y | y
      · exact hb z y
      · obtain rfl : z = r := by simpa using y
        omega
  · rintro H' ⟨b, t, cs, g, hl, hb⟩
    exact k Dl cs H' (fresh_back e1 hD) hne ((But.of e1).trans b) t g ⟨by omega, hb⟩⟩
end
section
variable {P : Program} {w : World} {K : PySem.W.Frag} {mg : Str → Option Value} {base : Heap} {CO CS CN CT : Addr}
def spLaw (K : PySem.W.Frag) : Sp := fun vs H Q E => ∃ (a : Addr) (ns : List Int), vs = [.ref a] ∧ SqL K H a (ns.map V.int) ∧ ∀ H2, Q (.bl true) H2
theorem ok_law (T : Tx P w K mg base CO CS CN CT) (h__law_all_lots : Has P w K mg base 6 "_law_all_lots" ["things"] (spAllLaw)) (h__law_bad_costs : Has P w K mg base 9 "_law_bad_costs" ["tape", "things", "costs", "one"] (spBadCosts)) (h__law_bad_lots : Has P w K mg base 9 "_law_bad_lots" ["tape", "things", "one"] (spBadLots)) (h__law_entries : Has P w K mg base 2 "_law_entries" ["tape", "things", "salt"] (spEntries)) (h__law_good : Has P w K mg base 8 "_law_good" ["things", "costs", "one", "other"] (spGood K)) (h__law_take : Has P w K mg base 1 "_law_take" ["tape", "many", "salt"] (spTake)) (h__law_tape : Has P w K mg base 1 "_law_tape" ["script"] (spTape K)) {fL : Addr} {fdL : FuncData} (FL : Fun K "law" "law" s_law fL fdL) : FnOk P w K mg base (L2.CX P w) 10 fL fdL ["script"] (spLaw K) := by
  refine FL.okX sc_law (fun vs H Q E h => ?len) (fun cdv A outer s H vs Q E hr h => ?body)
  case len =>
    obtain ⟨_, _, rfl, _, _⟩ := h
    rfl
  case body =>
    have tk : Takes (cxOf (L2.CX P w) P w K mg base ["script", "tape", "things", "one", "other", "costs", "extreme", "k"] "law" (defScope s_law) fL cdv A outer s H E) (fun cls d _ H => E cls d H) := takes_of rfl rfl rfl rfl
    obtain ⟨a, ns, rfl, hS, h⟩ := h
    refine ⟨_, (pss_cons (ps_set (i := 1) sc_law.nd rfl (.inr rfl) (pe_hasN h__law_tape (hr.mono (by decide)) (pa_cons (pv 0) pa_nil)))
      (pss_cons (ps_set (i := 2) sc_law.nd rfl (.inl rfl) (pe_ix ix_list (pe_lst (pa_cons pe_int (pa_cons pe_int (pa_cons pe_int (pa_cons pe_int (pa_cons pe_int (pa_cons pe_int (pa_cons pe_int (pa_cons pe_int (pa_cons pe_int (pa_cons pe_int (pa_cons pe_int (pa_cons pe_int pa_nil))))))))))))) (pe_hasN h__law_take (hr.mono (by decide)) (pa_cons (pv 1) (pa_cons pe_int (pa_cons pe_int pa_nil)))) (fun _ _ => rfl)))
      (pss_cons (ps_set (i := 3) sc_law.nd rfl (.inl rfl) (pe_hasN h__law_entries (hr.mono (by decide)) (pa_cons (pv 1) (pa_cons (pv 2) (pa_cons pe_int pa_nil)))))
      (pss_cons (ps_set (i := 4) sc_law.nd rfl (.inl rfl) (pe_hasN h__law_entries (hr.mono (by decide)) (pa_cons (pv 1) (pa_cons (pv 2) (pa_cons pe_int pa_nil)))))
      (pss_cons (ps_setLc (i := 5) (own := [("k", 7)]) rfl sc_law.nd rfl rfl (sw_true rfl rfl rfl (by decide +kernel)) (pi_range1 rfl T.z_range (pa_cons (pv 2) pa_nil)) (blkOk_by (own := [("k", 7)]) (N := ["script", "tape", "things", "one", "other", "costs", "extreme", "k"]) (sc := defScope s_law) (by decide +kernel)) (fun _ _ _ _ _ => (pg_name (i := 7) sc_law.nd rfl (.inl rfl))) (fun _ _ _ _ _ => pts_nil) (fun _ _ _ _ _ => (pe_op op_sub (pe_hasN h__law_take (hr.mono (by decide)) (pa_cons (pv 1) (pa_cons pe_int (pa_cons (pe_op op_add (pe_op op_mul pe_int (pv 7)) pe_int) pa_nil)))) pe_int)))
      (pss_cons (ps_set (i := 6) sc_law.nd rfl (.inl rfl) (pe_hasN h__law_take (hr.mono (by decide)) (pa_cons (pv 1) (pa_cons pe_int (pa_cons pe_int pa_nil)))))
      (pss_cut (ps_if (pt_cmpR op_lt (pv 6) (pv 2) (nomark _)) (pss_one (ps_asg (pe_ix ix_list (pe_lst (pa_cons (pe_un un_neg (pe_op op_pow pe_int pe_int)) (pa_cons (pe_op op_pow pe_int pe_int) pa_nil))) (pe_hasN h__law_take (hr.mono (by decide)) (pa_cons (pv 1) (pa_cons pe_int (pa_cons pe_int pa_nil)))) (fun _ _ => rfl)) (pg_sub (pv 5) (pv 6) set_list))) pss_nil)
      (pss_cons (ps_if (PW.pt (pw_or (pt_not (pt_val (pe_hasR h__law_all_lots (hr.mono (by decide)) tk (pa_cons (pv 2) pa_nil)))) (pw_or1 (pt_not (pt_val (pe_hasR h__law_good (hr.mono (by decide)) tk (pa_cons (pv 2) (pa_cons (pv 5) (pa_cons (pv 3) (pa_cons (pv 4) pa_nil)))))))))) (pss_one (ps_ret pe_bl)) pss_nil)
      (pss_cons (ps_if (pt_not (pt_val (pe_hasN h__law_bad_lots (hr.mono (by decide)) (pa_cons (pv 1) (pa_cons (pv 2) (pa_cons (pv 3) pa_nil)))))) (pss_one (ps_ret pe_bl)) pss_nil)
      (pss_cons (ps_if (pt_not (pt_val (pe_hasN h__law_bad_costs (hr.mono (by decide)) (pa_cons (pv 1) (pa_cons (pv 2) (pa_cons (pv 5) (pa_cons (pv 4) pa_nil))))))) (pss_one (ps_ret pe_bl)) pss_nil)
      (pss_one (ps_ret (pe_hasR h__law_good (hr.mono (by decide)) tk (pa_cons (pv 2) (pa_cons (pv 5) (pa_cons (pv 3) (pa_cons (pv 4) pa_nil))))))))))))))))), ?_⟩
    refine ⟨_, rfl, a, ns, rfl, hS, fun p H1 hp e1 t1 => ?_⟩
    refine q_ixTakeI (ns := [4, 0, 1, 2, 3, 5, 6, 6, 10, 3, 4, 5]) (many := 12) (salt := 0) (el_lst (ea_cons ev_c (ea_cons ev_c (ea_cons ev_c (ea_cons ev_c (ea_cons ev_c (ea_cons ev_c (ea_cons ev_c (ea_cons ev_c (ea_cons ev_c (ea_cons ev_c (ea_cons ev_c (ea_cons ev_c ea_nil)))))))))))) (by show 12 ≤ 100000; decide)) rfl (ea_cons (ev_var rfl) (ea_cons ev_c (ea_cons ev_c ea_nil))) (by decide) t1 fun H2 n hn b2 t2 => ?_
    have hn2 : 0 ≤ n ∧ n ≤ 10 := (show ∀ z ∈ ([4, 0, 1, 2, 3, 5, 6, 6, 10, 3, 4, 5] : List Int), 0 ≤ z ∧ z ≤ 10 by decide) n hn
    obtain ⟨n0, n10⟩ := hn2
    refine q_entries (salt := 2) (ea_cons (ev_var rfl) (ea_cons (ev_var rfl) (ea_cons ev_c ea_nil))) n0 t2 fun o xs H3 ho hop b3 t3 go fx => ?_
    refine q_entries (salt := 3) (ea_cons (ev_var rfl) (ea_cons (ev_var rfl) (ea_cons ev_c ea_nil))) n0 t3 fun u ys H4 hu hup b4 t4 gu fy => ?_
    have go4 := b4 o _ hop go
    refine q_costs (n := n) (ea_cons (ev_var rfl) ea_nil) n0 n10 t4 (fun x => rfl) (fun m H' Q' t' k => ?el) fun c cs H5 hc hcp b5 t5 gc fc => ?_
    case el =>
      refine go_take (many := 12) (salt := 5 * (m : Int) + 2) (ea_cons (ev_var rfl) (ea_cons ev_c (ea_cons (ev_add (ev_op ev_c (ev_var rfl) (rv_I (.inl (by decide)))) ev_c) ea_nil))) (by decide) t' fun r H2 r0 r1 b2 t2 => ?_
      exact ⟨r, 4, rfl, rfl, k (r - 4) H2 (by omega) (by omega) b2 t2⟩
    have go5 := b5 o _ hop go4
    have gu5 := b5 u _ hup gu
    refine q_take (many := 12) (salt := 1) (ea_cons (ev_var rfl) (ea_cons ev_c (ea_cons ev_c ea_nil))) (by decide) t5 fun x H6 x0 x1 b6 t6 => ?_
    have go6 := b6 o _ hop go5
    have gu6 := b6 u _ hup gu5
    have gc6 := b6 c _ hcp gc
    have hco : c ≠ o := fun e => by rw [e, go4] at hc; cases hc
    have hcu : c ≠ u := fun e => by rw [e, gu] at hc; cases hc
    refine q_cut (M := fun σ' H' => ∃ cs, σ' = [some (.ref a), some (.ref p), some (.int n), some (.ref o), some (.ref u), some (.ref c), some (.int x), none] ∧ Tape H' p ∧ H' o = some (.lst (List.map V.int xs)) ∧ H' u = some (.lst (List.map V.int ys)) ∧ H' c = some (.lst (List.map V.int cs)) ∧ Cost n cs) ?more ?rest
    case more =>
      refine s_when (et_test (ev_op (ev_var rfl) (ev_var rfl) rv_I0)) (fun hb H7 e7 => ?yes) (fun hb H7 e7 => ⟨cs, rfl, t6.mono e7, e7 o _ go6, e7 u _ gu6, e7 c _ gc6, fc⟩)
      have hx : x < n := of_decide_eq_true hb
      obtain ⟨k, rfl⟩ := Int.eq_ofNat_of_zero_le x0
      have hk : k < cs.length := by have := fc.1; omega
      have p6 : (10 : Int) ^ (6 : Int).toNat = 1000000 := by decide +kernel
      refine go_ixTakeI (ns := [-((10 : Int) ^ (6 : Int).toNat), (10 : Int) ^ (6 : Int).toNat]) (many := 2) (salt := 0) (el_lst (ea_cons (ev_neg (ev_pow ev_c ev_c ⟨by decide, by decide, by decide⟩)) (ea_cons (ev_pow ev_c ev_c ⟨by decide, by decide, by decide⟩) ea_nil)) (by show 2 ≤ 100000; decide)) rfl (ea_cons (ev_var rfl) (ea_cons ev_c (ea_cons ev_c ea_nil))) (by decide) (t6.mono e7) fun H8 z hz b8 t8 => ?_
      have hz2 : -1000000 ≤ z ∧ z ≤ 1000000 := by
        rcases List.mem_cons.mp hz with e | e
        · omega
        · rcases List.mem_cons.mp e with e | e
          · omega
          · simp at e
      have g8 := b8 c _ hcp (e7 c _ gc6)
      refine ⟨_, rfl, _, rfl, c, _, (k : Int), k, rfl, rfl, g8, ixN_nat (by rw [List.length_map]; exact hk), ?_⟩
      rw [← List.map_set]
      refine ⟨cs.set k z, rfl, ?_, ?_, ?_, upd_same, ?_⟩
      · obtain ⟨ds, hd⟩ := t8
        exact ⟨ds, by rw [upd_ne hcp.symm]; exact hd⟩
      · rw [upd_ne hco.symm]
        exact b8 o _ hop (e7 o _ go6)
      · rw [upd_ne hcu.symm]
        exact b8 u _ hup (e7 u _ gu6)
      · refine ⟨by rw [List.length_set]; exact fc.1, fun y hy => ?_⟩
        rcases List.mem_or_eq_of_mem_set hy with q | q
        · exact fc.2 y q
        · rw [q]
          exact hz2
    case rest =>
      rintro σ' H7 ⟨cs, rfl, t7, g1, g2, g3, fc⟩
      refine q_when (b := false) (et_is (et_or (et_not (et_test (ev_callS (sp := spAllLaw) (z := .bl true) (ea_cons (ev_var rfl) ea_nil) fun H8 e8 Q' E' q' => ⟨n, rfl, n0, n10, q'⟩))) fun _ => et_not (et_test (ev_callS (sp := spGood K) (z := .bl true) (ea_cons (ev_var rfl) (ea_cons (ev_var rfl) (ea_cons (ev_var rfl) (ea_cons (ev_var rfl) ea_nil)))) fun H8 e8 Q' E' q' => ⟨c, o, u, cs, xs, ys, n, rfl, sq_of (e8 c _ g3), sq_of (e8 o _ g1), sq_of (e8 u _ g2), n0, n10, fc, fx, fy, q'⟩))) rfl) (fun hb => Bool.noConfusion hb) fun _ H8 e8 => ?_
      refine ⟨_, rfl, _, rfl, _, rfl, p, o, n, xs, rfl, n0, n10, t7.mono e8, hop, e8 o _ g1, fx, fun H9 b9 t9 => ⟨true, rfl, iteF ?_⟩⟩
      have h1 := b9 o _ hop (e8 o _ g1)
      have h2 := b9 u _ hup (e8 u _ g2)
      have h3 := b9 c _ hcp (e8 c _ g3)
      refine ⟨_, rfl, _, rfl, _, rfl, _, rfl, p, c, u, n, cs, ys, rfl, n0, n10, t9, hcp, hup, h3, h2, fc, fy, fun H10 b10 t10 => ⟨true, rfl, iteF ?_⟩⟩
      have k1 := b10 o _ hop h1
      have k2 := b10 u _ hup h2
      have k3 := b10 c _ hcp h3
      exact s_ret (ev_callS (sp := spGood K) (z := .bl true) (ea_cons (ev_var rfl) (ea_cons (ev_var rfl) (ea_cons (ev_var rfl) (ea_cons (ev_var rfl) ea_nil)))) fun H8 e8 Q' E' q' => ⟨c, o, u, cs, xs, ys, n, rfl, sq_of (e8 c _ k3), sq_of (e8 o _ k1), sq_of (e8 u _ k2), n0, n10, fc, fx, fy, q'⟩) fun H11 e11 => h H11
end
end K3
namespace K3
open PySem PySem.Spec PyProof.Rows L2 Evl Nd
/-! ### the own errors -/
def inClass (s : Stmt) (j : Nat) : Stmt := match s with
  | .ClassDef (body := b) .. => b.getD j (.Pass ⟨0, 0, 0, 0⟩)
  | s => s
section
variable {P : Program} {w : World} {K : PySem.W.Frag} {mg : Str → Option Value} {base : Heap}
abbrev i_SizeError : Stmt := inClass (topS 5) 0
theorem is_SizeError : SupScope ["self", "count"] ["self", "count"] (defScope i_SizeError) := ⟨rfl, rfl, rfl, by decide, rfl, by decide +kernel, by decide +kernel, by decide +kernel, rfl, rfl⟩
theorem ini_SizeError {C fI cda cc : Addr} {oc kV doc pm ct : Value} {od an : Option Addr} {osl : Array (Option Value)} (S : SupC P K C cda cc) (no : PySem.W.findIn K (.ref C) "count" = some none)
    (lk : K.lookup fI = some ⟨oc, od, .func (PySem.W.ksFn "__init__" "SizeError.__init__" (defArgs i_SizeError) (defBody i_SizeError) (defScope i_SizeError) .none kV doc pm an (.ref cda) ct cc), osl⟩) (c1 : PySem.W.codeIn K (.ref cda) "SizeError.__init__" = true) (hms : mg "super" = none) :
    FnOk P w K mg base CX0 1 fI (PySem.W.ksFn "__init__" "SizeError.__init__" (defArgs i_SizeError) (defBody i_SizeError) (defScope i_SizeError) .none kV doc pm an (.ref cda) ct cc) ["self", "count"] (spIni C (fs1 "count")) := by
  refine fn_sup (k := 0) (pl := (do return (some false : Option Bool).getD true)) (ps := ["self", "count"]) is_SizeError S lk c1 rfl rfl hms (fun vs H Q E h => ?len) (fun vs H Q E h => ?self) (fun env h => ?he) (fun env h => ?hi) (fun env h => ?hs) (fun A outer s H vs Q E hr h => ?body)
  case len =>
    obtain ⟨x, ws, fv, rfl, hf, _⟩ := h
    match ws, hf with
    | [_], _ => rfl
  case self =>
    obtain ⟨x, ws, fv, rfl, hf, hx, _⟩ := h
    exact ⟨x, ws, rfl, hx⟩
  case he => rfl
  case hi => first | rfl | (unfold PySem.interactive; rw [h]; rfl)
  case hs => rfl
  case body =>
    obtain ⟨x, ws, fv, rfl, hf, hx, q⟩ := h
    match ws, hf with
    | [v], hf =>
      obtain rfl := Option.some.inj hf
      exact ⟨_, pss_one (ps_ost (pv 0) (pv 1)), _, rfl, _, rfl, x, C, rfl, S.ox, no, .inl ⟨hx, fun dx h1 h2 => q dx h1 h2⟩⟩
abbrev i_NumberError : Stmt := inClass (topS 6) 0
theorem is_NumberError : SupScope ["self", "number"] ["self", "number"] (defScope i_NumberError) := ⟨rfl, rfl, rfl, by decide, rfl, by decide +kernel, by decide +kernel, by decide +kernel, rfl, rfl⟩
theorem ini_NumberError {C fI cda cc : Addr} {oc kV doc pm ct : Value} {od an : Option Addr} {osl : Array (Option Value)} (S : SupC P K C cda cc) (no : PySem.W.findIn K (.ref C) "number" = some none)
    (lk : K.lookup fI = some ⟨oc, od, .func (PySem.W.ksFn "__init__" "NumberError.__init__" (defArgs i_NumberError) (defBody i_NumberError) (defScope i_NumberError) .none kV doc pm an (.ref cda) ct cc), osl⟩) (c1 : PySem.W.codeIn K (.ref cda) "NumberError.__init__" = true) (hms : mg "super" = none) :
    FnOk P w K mg base CX0 1 fI (PySem.W.ksFn "__init__" "NumberError.__init__" (defArgs i_NumberError) (defBody i_NumberError) (defScope i_NumberError) .none kV doc pm an (.ref cda) ct cc) ["self", "number"] (spIni C (fs1 "number")) := by
  refine fn_sup (k := 0) (pl := (do return (some false : Option Bool).getD true)) (ps := ["self", "number"]) is_NumberError S lk c1 rfl rfl hms (fun vs H Q E h => ?len) (fun vs H Q E h => ?self) (fun env h => ?he) (fun env h => ?hi) (fun env h => ?hs) (fun A outer s H vs Q E hr h => ?body)
  case len =>
    obtain ⟨x, ws, fv, rfl, hf, _⟩ := h
    match ws, hf with
    | [_], _ => rfl
  case self =>
    obtain ⟨x, ws, fv, rfl, hf, hx, _⟩ := h
    exact ⟨x, ws, rfl, hx⟩
  case he => rfl
  case hi => first | rfl | (unfold PySem.interactive; rw [h]; rfl)
  case hs => rfl
  case body =>
    obtain ⟨x, ws, fv, rfl, hf, hx, q⟩ := h
    match ws, hf with
    | [v], hf =>
      obtain rfl := Option.some.inj hf
      exact ⟨_, pss_one (ps_ost (pv 0) (pv 1)), _, rfl, _, rfl, x, C, rfl, S.ox, no, .inl ⟨hx, fun dx h1 h2 => q dx h1 h2⟩⟩
abbrev i_ThingError : Stmt := inClass (topS 7) 0
theorem is_ThingError : SupScope ["self", "thing"] ["self", "thing"] (defScope i_ThingError) := ⟨rfl, rfl, rfl, by decide, rfl, by decide +kernel, by decide +kernel, by decide +kernel, rfl, rfl⟩
theorem ini_ThingError {C fI cda cc : Addr} {oc kV doc pm ct : Value} {od an : Option Addr} {osl : Array (Option Value)} (S : SupC P K C cda cc) (no : PySem.W.findIn K (.ref C) "thing" = some none)
    (lk : K.lookup fI = some ⟨oc, od, .func (PySem.W.ksFn "__init__" "ThingError.__init__" (defArgs i_ThingError) (defBody i_ThingError) (defScope i_ThingError) .none kV doc pm an (.ref cda) ct cc), osl⟩) (c1 : PySem.W.codeIn K (.ref cda) "ThingError.__init__" = true) (hms : mg "super" = none) :
    FnOk P w K mg base CX0 1 fI (PySem.W.ksFn "__init__" "ThingError.__init__" (defArgs i_ThingError) (defBody i_ThingError) (defScope i_ThingError) .none kV doc pm an (.ref cda) ct cc) ["self", "thing"] (spIni C (fs1 "thing")) := by
  refine fn_sup (k := 0) (pl := (do return (some false : Option Bool).getD true)) (ps := ["self", "thing"]) is_ThingError S lk c1 rfl rfl hms (fun vs H Q E h => ?len) (fun vs H Q E h => ?self) (fun env h => ?he) (fun env h => ?hi) (fun env h => ?hs) (fun A outer s H vs Q E hr h => ?body)
  case len =>
    obtain ⟨x, ws, fv, rfl, hf, _⟩ := h
    match ws, hf with
    | [_], _ => rfl
  case self =>
    obtain ⟨x, ws, fv, rfl, hf, hx, _⟩ := h
    exact ⟨x, ws, rfl, hx⟩
  case he => rfl
  case hi => first | rfl | (unfold PySem.interactive; rw [h]; rfl)
  case hs => rfl
  case body =>
    obtain ⟨x, ws, fv, rfl, hf, hx, q⟩ := h
    match ws, hf with
    | [v], hf =>
      obtain rfl := Option.some.inj hf
      exact ⟨_, pss_one (ps_ost (pv 0) (pv 1)), _, rfl, _, rfl, x, C, rfl, S.ox, no, .inl ⟨hx, fun dx h1 h2 => q dx h1 h2⟩⟩
end
end K3
namespace K3
open PySem PySem.Spec PyProof.Rows L2 Evl Nd
/-! ### what the top has left, and the chain of promises -/
structure ErrS (P : Program) (K : PySem.W.Frag) (mg : Str → Option Value) (x f : Str) (C : Addr) (st : Stmt) (qual : Str) : Prop where
  g : mg x = some (.ref C)
  is : IsC K C
  xf : XfC K C
  no : PySem.W.findIn K (.ref C) f = some none
  ini : ∃ (fI cda cc : Addr) (oc kV doc pm ct : Value) (od an : Option Addr) (osl : Array (Option Value)), SupC P K C cda cc ∧ K.lookup fI = some ⟨oc, od, .func (PySem.W.ksFn "__init__" qual (defArgs st) (defBody st) (defScope st) .none kV doc pm an (.ref cda) ct cc), osl⟩ ∧
    PySem.W.codeIn K (.ref cda) qual = true ∧ PySem.W.findIn K (.ref C) "__init__" = some (some (.ref fI)) ∧ PySem.W.typeIn K (.ref fI) = some (.type "function")
section
variable {P : Program} {w : World} {K : PySem.W.Frag} {mg : Str → Option Value} {base : Heap}
theorem errT_SizeError {C : Addr} (E : ErrS P K mg "SizeError" "count" C i_SizeError "SizeError.__init__") (hms : mg "super" = none) : ErrT P w K mg base "SizeError" "count" C := by
  obtain ⟨fI, cda, cc, oc, kV, doc, pm, ct, od, an, osl, S, lk, c1, iC, tI⟩ := E.ini
  exact ⟨⟨fI, _, ⟨S.ox, iC, tI, ini_SizeError S E.no lk c1 hms, .all (fun us hl => match us, hl with | [_, _], _ => rfl), E.g⟩⟩, E.is, E.xf, E.no, E.g⟩
theorem errT_NumberError {C : Addr} (E : ErrS P K mg "NumberError" "number" C i_NumberError "NumberError.__init__") (hms : mg "super" = none) : ErrT P w K mg base "NumberError" "number" C := by
  obtain ⟨fI, cda, cc, oc, kV, doc, pm, ct, od, an, osl, S, lk, c1, iC, tI⟩ := E.ini
  exact ⟨⟨fI, _, ⟨S.ox, iC, tI, ini_NumberError S E.no lk c1 hms, .all (fun us hl => match us, hl with | [_, _], _ => rfl), E.g⟩⟩, E.is, E.xf, E.no, E.g⟩
theorem errT_ThingError {C : Addr} (E : ErrS P K mg "ThingError" "thing" C i_ThingError "ThingError.__init__") (hms : mg "super" = none) : ErrT P w K mg base "ThingError" "thing" C := by
  obtain ⟨fI, cda, cc, oc, kV, doc, pm, ct, od, an, osl, S, lk, c1, iC, tI⟩ := E.ini
  exact ⟨⟨fI, _, ⟨S.ox, iC, tI, ini_ThingError S E.no lk c1 hms, .all (fun us hl => match us, hl with | [_, _], _ => rfl), E.g⟩⟩, E.is, E.xf, E.no, E.g⟩
structure Facts (P : Program) (K : PySem.W.Frag) (mg : Str → Option Value) (CO CS CN CT : Addr) : Prop where
  d_lots_of_size : DefAt K mg "lots_of_size" s_lots_of_size ["things", "size"]
  d__least_next : DefAt K mg "_least_next" s__least_next ["lot"]
  d_look_size : DefAt K mg "look_size" s_look_size ["count", "least", "most"]
  d_look_number : DefAt K mg "look_number" s_look_number ["number", "least", "most"]
  d_look_numbers : DefAt K mg "look_numbers" s_look_numbers ["numbers", "least", "most"]
  d_look_things : DefAt K mg "look_things" s_look_things ["things"]
  d_look_thing : DefAt K mg "look_thing" s_look_thing ["things", "thing"]
  d_look_lot : DefAt K mg "look_lot" s_look_lot ["things", "entries"]
  d_look_costs : DefAt K mg "look_costs" s_look_costs ["things", "costs"]
  d_lot_of : DefAt K mg "lot_of" s_lot_of ["things", "entries"]
  d_all_lots : DefAt K mg "all_lots" s_all_lots ["things"]
  d_joined : DefAt K mg "joined" s_joined ["things", "first", "second"]
  d_common : DefAt K mg "common" s_common ["things", "first", "second"]
  d_without : DefAt K mg "without" s_without ["things", "first", "second"]
  d_cost_of : DefAt K mg "cost_of" s_cost_of ["things", "costs", "lot"]
  d_sum_of_costs : DefAt K mg "sum_of_costs" s_sum_of_costs ["costs", "lot"]
  d__look_two : DefAt K mg "_look_two" s__look_two ["things", "first", "second"]
  d__law_tape : DefAt K mg "_law_tape" s__law_tape ["script"]
  d__law_take : DefAt K mg "_law_take" s__law_take ["tape", "many", "salt"]
  d__law_int : DefAt K mg "_law_int" s__law_int ["told"]
  d__law_entries : DefAt K mg "_law_entries" s__law_entries ["tape", "things", "salt"]
  d__law_no_thing : DefAt K mg "_law_no_thing" s__law_no_thing ["tape", "things", "salt"]
  d__law_told : DefAt K mg "_law_told" s__law_told ["name", "things", "one", "other"]
  d__law_is_lot : DefAt K mg "_law_is_lot" s__law_is_lot ["told", "due"]
  d__law_ascending : DefAt K mg "_law_ascending" s__law_ascending ["told", "things"]
  d__law_all_lots : DefAt K mg "_law_all_lots" s__law_all_lots ["things"]
  d__law_lots : DefAt K mg "_law_lots" s__law_lots ["things", "one", "other"]
  d__law_cost : DefAt K mg "_law_cost" s__law_cost ["things", "costs", "one"]
  d__law_good : DefAt K mg "_law_good" s__law_good ["things", "costs", "one", "other"]
  d__law_all_refused : DefAt K mg "_law_all_refused" s__law_all_refused ["cases"]
  d__law_bad_lots : DefAt K mg "_law_bad_lots" s__law_bad_lots ["tape", "things", "one"]
  d__law_bad_costs : DefAt K mg "_law_bad_costs" s__law_bad_costs ["tape", "things", "costs", "one"]
  z_len : mg "len" = none
  z_sum : mg "sum" = none
  z_min : mg "min" = none
  z_max : mg "max" = none
  z_abs : mg "abs" = none
  z_isinstance : mg "isinstance" = none
  z_sorted : mg "sorted" = none
  z_tuple : mg "tuple" = none
  z_list : mg "list" = none
  z_set : mg "set" = none
  z_int : mg "int" = none
  z_bool : mg "bool" = none
  z_range : mg "range" = none
  z_ValueError : mg "ValueError" = none
  zsuper : mg "super" = none
  c__MOST_THINGS : ∃ u, mg "_MOST_THINGS" = some u ∧ RelV (.int 10) u
  c__MOST_ENTRIES : ∃ u, mg "_MOST_ENTRIES" = some u ∧ RelV (.int 60) u
  c_MOST_COST : ∃ u, mg "MOST_COST" = some u ∧ RelV (.int 1000000) u
  gO : mg "NodearerError" = some (.ref CO)
  s_SizeError : ErrS P K mg "SizeError" "count" CS i_SizeError "SizeError.__init__"
  s_NumberError : ErrS P K mg "NumberError" "number" CN i_NumberError "NumberError.__init__"
  s_ThingError : ErrS P K mg "ThingError" "thing" CT i_ThingError "ThingError.__init__"
  xSS : PySem.W.exmOne K (.ref CS) (.ref CS) = some true
  xTS : PySem.W.exmOne K (.ref CT) (.ref CS) = some false
  xTT : PySem.W.exmOne K (.ref CT) (.ref CT) = some true
  xNS : PySem.W.exmOne K (.ref CN) (.ref CS) = some false
  xNT : PySem.W.exmOne K (.ref CN) (.ref CT) = some false
  xNN : PySem.W.exmOne K (.ref CN) (.ref CN) = some true
  kSO : PySem.W.kitOne K (.ref CS) (.ref CO) = some true
  kTO : PySem.W.kitOne K (.ref CT) (.ref CO) = some true
  kNO : PySem.W.kitOne K (.ref CN) (.ref CO) = some true
  kSN : PySem.W.kitOne K (.ref CS) (.ref CN) = some false
  kST : PySem.W.kitOne K (.ref CS) (.ref CT) = some false
  kTN : PySem.W.kitOne K (.ref CT) (.ref CN) = some false
  kNV : PySem.W.kitOne K (.ref CN) (.type "ValueError") = some true
theorem Facts.tx {CO CS CN CT : Addr} (F : Facts P K mg CO CS CN CT) : Tx P w K mg base CO CS CN CT where
  z_len := F.z_len
  z_sum := F.z_sum
  z_min := F.z_min
  z_max := F.z_max
  z_abs := F.z_abs
  z_isinstance := F.z_isinstance
  z_sorted := F.z_sorted
  z_tuple := F.z_tuple
  z_list := F.z_list
  z_set := F.z_set
  z_int := F.z_int
  z_bool := F.z_bool
  z_range := F.z_range
  z_ValueError := F.z_ValueError
  c__MOST_THINGS := F.c__MOST_THINGS
  c__MOST_ENTRIES := F.c__MOST_ENTRIES
  c_MOST_COST := F.c_MOST_COST
  e_NodearerError := ⟨F.gO⟩
  e_SizeError := errT_SizeError F.s_SizeError F.zsuper
  e_NumberError := errT_NumberError F.s_NumberError F.zsuper
  e_ThingError := errT_ThingError F.s_ThingError F.zsuper
  xSS := F.xSS
  xTS := F.xTS
  xTT := F.xTT
  xNS := F.xNS
  xNT := F.xNT
  xNN := F.xNN
  kSO := F.kSO
  kTO := F.kTO
  kNO := F.kNO
  kSN := F.kSN
  kST := F.kST
  kTN := F.kTN
  kNV := F.kNV
theorem law_fn {CO CS CN CT : Addr} (F : Facts P K mg CO CS CN CT) {fL : Addr} {fdL : FuncData} (FL : Fun K "law" "law" s_law fL fdL) : FnOk P w K mg base (L2.CX P w) 10 fL fdL ["script"] (spLaw K) := by
  have T : Tx P w K mg base CO CS CN CT := F.tx
  have H__law_int := has__law_int T  F.d__law_int
  have H__law_ascending := has__law_ascending T H__law_int F.d__law_ascending
  have H_look_number := has_look_number T  F.d_look_number
  have H_look_things := has_look_things T H_look_number F.d_look_things
  have H__least_next := has__least_next T  F.d__least_next
  have H_lots_of_size := has_lots_of_size T H__least_next F.d_lots_of_size
  have H_all_lots := has_all_lots T H_look_things H_lots_of_size F.d_all_lots
  have H__law_all_lots := has__law_all_lots T H__law_ascending H_all_lots F.d__law_all_lots
  have H_look_size := has_look_size T  F.d_look_size
  have H_look_thing := has_look_thing T  F.d_look_thing
  have H_look_lot := has_look_lot T H_look_size H_look_thing F.d_look_lot
  have H__look_two := has__look_two T H_look_lot H_look_things F.d__look_two
  have H_common := has_common T H__look_two F.d_common
  have H_look_numbers := has_look_numbers T H_look_number F.d_look_numbers
  have H_look_costs := has_look_costs T H_look_numbers H_look_size F.d_look_costs
  have H_sum_of_costs := has_sum_of_costs T  F.d_sum_of_costs
  have H_cost_of := has_cost_of T H_look_costs H_look_lot H_look_things H_sum_of_costs F.d_cost_of
  have H_joined := has_joined T H__look_two F.d_joined
  have H_lot_of := has_lot_of T H_look_lot H_look_things F.d_lot_of
  have H_without := has_without T H__look_two F.d_without
  have H__law_told := has__law_told T H__law_int H_all_lots H_common H_cost_of H_joined H_lot_of H_without F.d__law_told
  have H__law_all_refused := has__law_all_refused T H__law_told F.d__law_all_refused
  have H__law_take := has__law_take T  F.d__law_take
  have H__law_no_thing := has__law_no_thing T H__law_take F.d__law_no_thing
  have H__law_bad_costs := has__law_bad_costs T H__law_all_refused H__law_no_thing H__law_take F.d__law_bad_costs
  have H__law_bad_lots := has__law_bad_lots T H__law_all_refused H__law_no_thing H__law_take F.d__law_bad_lots
  have H__law_entries := has__law_entries T H__law_take F.d__law_entries
  have H__law_cost := has__law_cost T H__law_int H_cost_of F.d__law_cost
  have H__law_is_lot := has__law_is_lot T H__law_int F.d__law_is_lot
  have H__law_lots := has__law_lots T H__law_is_lot H_common H_joined H_lot_of H_without F.d__law_lots
  have H__law_good := has__law_good T H__law_cost H__law_lots F.d__law_good
  have H__law_tape := has__law_tape T  F.d__law_tape
  exact ok_law T H__law_all_lots H__law_bad_costs H__law_bad_lots H__law_entries H__law_good H__law_take H__law_tape FL
end
end K3
namespace K3
open PySem PySem.Spec PyProof.Rows L2 Evl Nd
/-- as the layer's end, with what the top says of its loose names -/
theorem walk_x {l : PySem.W.OpenLaw} {n k : Nat} {q : Program} {loose : List Str} {XP : (Str → Option Value) → Heap → Prop} {YP : World → Heap → Prop} {d : DefRec} {K : Params → PySem.W.Frag} {CX : World → CXT} {sp : PySem.W.Frag → Sp} {x : Str}
    (h1 : l.most = some n) (h2 : n ≤ sizeLine) (h3 : d.params.defaults = []) (h4 : Room k callerA) (hY : ∀ (w : World) (h : Heap), YP w h → (K w.params).In h)
    (F : ∀ (w : World) (mg : Str → Option Value) (fa : Addr) (h : Heap), XP mg h → (K w.params).In h → h.Ns mainGlobals mg → mg d.name = some (.ref fa) →
      ∃ fd : FuncData, (∀ (s : Shared) (u : Value), BindsTo s fd ⟨[u], []⟩ [(x, u)]) ∧ ∀ base : Heap, (K w.params).In base → base.Ns mainGlobals mg → FnOk l.prog w (K w.params) mg base (CX w) k fa fd [x] (sp (K w.params)))
    (hs : ∀ (w : World) (H : Hp) (a : Addr) (ns : List Int), ns.length ≤ n → Only H → SqL (K w.params) H a (ns.map V.int) → sp (K w.params) [.ref a] H (fun v _ => v = .bl true) fun _ _ _ => False)
    (hC : ∀ (w : World) (H : Hp) (s : Shared) (e : Value) (s' : Shared), CX w [] H s (fun _ _ _ => False) e s' → False) : PySem.W.WalkO q loose XP YP l.row.toRowW d [] (fun f vs => PySem.call f vs) :=
  Att.attach_call h1 h3 fun w _ s1 mg _ fa _ _ _ _ a _ ns G Y _ _ _ hm ho hi hl hg => by
    have KX := hY w _ Y
    obtain ⟨_, hb, hF⟩ := F w mg fa _ G.X KX G.T.g hm
    exact law_call KX G.T.g G.T.b G.T.builtins G.T.nolimit hg ho hi (Nat.le_trans hl h2) h4 hF hb (fun H hO hS => hs w H a ns hl hO hS) fun H e s' => hC w H s1 e s'
theorem cx_no {P : Program} {w : World} {H : Hp} {s : Shared} {e : Value} {s' : Shared} : L2.CX P w [] H s (fun _ _ _ => False) e s' → False := fun ⟨_, _, _, _, _, _, _, _, _, _, _, _, h⟩ => h
theorem most_cost {p : Program} {mg : Str → Option Value} {h : Heap} (x : PySem.W.XL p [("MOST_COST", PySem.W.WData.int 1000000)] mg h) : ∃ u, mg "MOST_COST" = some u ∧ RelV (.int 1000000) u := by
  obtain ⟨v, hm, hr⟩ := x.2.val _ (List.mem_singleton.mpr rfl)
  cases hr
  exact ⟨_, hm, ⟨_, rfl⟩⟩
section
variable {P : Program} {K : PySem.W.Frag} {mg : Str → Option Value} {h : Heap}
theorem def_at {x : Str} {st : Stmt} {ps : List Str} {f : Addr} {oc : Value} {od an : Option Addr} {osl : Array (Option Value)} {kV doc pm cdv ct : Value} (X : K.In h) (G : h.Ns mainGlobals mg) (a : PySem.W.nsIn K mainGlobals x = some (some (.ref f)))
    (l : K.lookup f = some ⟨oc, od, .func (PySem.W.fnOf x x (defArgs st) (defBody st) (defScope st) .none kV doc pm an cdv ct), osl⟩) (c : PySem.W.codeIn K cdv x = true) (k : PySem.W.keepIn K (.ref f) = true)
    (b : ∀ (kV doc pm : Value) (an : Option Addr) (cdv ct : Value) (us : List Value), us.length = ps.length → bindArgs (PySem.W.fnOf x x (defArgs st) (defBody st) (defScope st) .none kV doc pm an cdv ct) ⟨us, []⟩ = pure (ps.zip us)) : DefAt K mg x st ps :=
  ⟨f, _, fun_mk l c k, PySem.W.mg_of X G a, (fun_mk (st := st) l c k).binds b⟩
theorem kit_own {a b : Addr} {r : Bool} (hn : (Value.ref a == Value.ref b) = false) (hc : PySem.W.isClsIn K b = true) (ht : PySem.W.typeIn K (.ref b) = some (.type "type")) (hs : PySem.W.subIn K (.ref a) (.ref b) = some r) : PySem.W.kitOne K (.ref a) (.ref b) = some r := by
  have e2 : ((PySem.W.clsIn K b).isSome && PySem.W.typeIn K (.ref b) == some (.type "type")) = true := by
    have hc' : (PySem.W.clsIn K b).isSome = true := hc
    rw [hc', ht] <;> rfl
  unfold PySem.W.kitOne
  rw [hn]
  show (if ((PySem.W.clsIn K b).isSome && PySem.W.typeIn K (.ref b) == some (.type "type")) = true then PySem.W.subIn K (.ref a) (.ref b) else none) = some r
  rw [if_pos e2]
  exact hs
theorem kit_tyv {a : Addr} {t : String} {r : Bool} (hm : PySem.W.kitMeta t = true) (hs : PySem.W.subIn K (.ref a) (.type t) = some r) : PySem.W.kitOne K (.ref a) (.type t) = some r := by
  unfold PySem.W.kitOne
  rw [show (Value.ref a == Value.type t) = false from rfl]
  show (if PySem.W.kitMeta t = true then PySem.W.subIn K (.ref a) (.type t) else none) = some r
  rw [if_pos hm]
  exact hs
theorem errS_mk {x f qual : Str} {st : Stmt} {C fI cda cc : Addr} {nm q : Str} {N : Addr} {bs bm : List Value} {sn : List Str} {sub : List Value} {ab : Bool} {col : Option Bool} {dd : Option Addr} {m0 m1 m2 m3 m5 : Option Value}
    {oc kV doc pm ct : Value} {od an : Option Addr} {osl : Array (Option Value)} {ccl cl : Value} {cdd cld : Option Addr} {vs : Array Value} {ccs csl : Array (Option Value)} {file : Str} {tf : Tok} (X : K.In h) (G : h.Ns mainGlobals mg)
    (g : PySem.W.nsIn K mainGlobals x = some (some (.ref C)))
    (xL : K.lookup C = some (excClassObj nm q C N bs bm true sn sub ab col dd m0 m1 m2 m3 m5 "ValueError.__new__")) (rv : PySem.HandSPX.refsVE bm = true)
    (ic : PySem.W.isClsIn K C = true) (sa : PySem.W.findIn K (.ref C) "__setattr__" = some (some (.builtin "object.__setattr__"))) (ga : PySem.W.findIn K (.ref C) "__getattribute__" = some (some (.builtin "BaseException.__getattribute__")))
    (gg : PySem.W.findIn K (.ref C) "__getattr__" = some none) (no : PySem.W.findIn K (.ref C) f = some none) (sb : PySem.W.subIn K (.ref C) (.type "BaseException") = some true) (ca : PySem.W.findIn K (.ref C) "__class__" = some (some (.builtin "object.__class__")))
    (cg : PySem.W.specialIn K (.builtin "object.__class__") "__get__" = some (some (.builtin "getset_descriptor.__get__"))) (ctk : PySem.W.takesIn K (.builtin "object.__class__") = some true) (mo : PySem.W.mroIn K C (.type "object") = some true)
    (tC : PySem.W.typeIn K (.ref C) = some (.type "type")) (kC : PySem.W.keepIn K (.ref C) = true) (hd : PySem.W.hasDictIn K C = true) (mr : PySem.W.mroIn K C (.ref C) = some true)
    (a1 : PySem.W.findIn K (.ref C) "__init__" = some (some (.ref fI))) (t1 : PySem.W.typeIn K (.ref fI) = some (.type "function"))
    (l1 : K.lookup fI = some ⟨oc, od, .func (PySem.W.ksFn "__init__" qual (defArgs st) (defBody st) (defScope st) .none kV doc pm an (.ref cda) ct cc), osl⟩) (c1 : PySem.W.codeIn K (.ref cda) qual = true)
    (cL : K.lookup cda = some ⟨ccl, cdd, .fields vs, ccs⟩) (cv : vs[2]? = some (.str file tf)) (cf : ((P.main.file : Str) == file) = true) (eL : K.lookup cc = some ⟨cl, cld, .cell (some (.ref C)), csl⟩)
    (su : PySem.W.ks_superIn K C C "__init__" = some (some (.builtin "ValueError.__init__"))) (ve : PySem.W.subIn K (.ref C) (.type "ValueError") = some true) (tp : PySem.W.nsIn K cStatics "thirdparty.any" = some none) (top : (P.main.scope.names.lookup ("super" : Str)).isSome = false) :
    ErrS P K mg x f C st qual :=
  ⟨PySem.W.mg_of X G g, ⟨ic, ga, gg, sb, ca, cg, ctk, mo⟩, ⟨ga, gg, sb, hd⟩, no, fI, cda, cc, oc, kV, doc, pm, ct, od, an, osl, ⟨⟨⟨nm, q, N, bs, bm, sn, sub, ab, col, dd, m0, m1, m2, m3, m5, xL, rv⟩, sa, sb, tC, kC⟩, ⟨ccl, cdd, vs, ccs, file, tf, cL, cv, cf⟩, ⟨cl, cld, csl, eL⟩, mr, su, ve, tp, top⟩, l1, c1, a1, t1⟩
theorem fin_mk {w : World} {CO CS CN CT fa fL : Addr} {oc kV doc pm cdv ct : Value} {od an : Option Addr} {osl : Array (Option Value)} {tT tE : Tok} (X : K.In h) (G : h.Ns mainGlobals mg) (hfa : mg "law" = some (.ref fa)) (hc : ∃ u, mg "MOST_COST" = some u ∧ RelV (.int 1000000) u)
    (aL : PySem.W.nsIn K mainGlobals "law" = some (some (.ref fL))) (lL : K.lookup fL = some ⟨oc, od, .func (PySem.W.fnOf "law" "law" (defArgs s_law) (defBody s_law) (defScope s_law) .none kV doc pm an cdv ct), osl⟩) (cL : PySem.W.codeIn K cdv "law" = true) (kL : PySem.W.keepIn K (.ref fL) = true)
    (d_lots_of_size : DefAt K mg "lots_of_size" s_lots_of_size ["things", "size"])
    (d__least_next : DefAt K mg "_least_next" s__least_next ["lot"])
    (d_look_size : DefAt K mg "look_size" s_look_size ["count", "least", "most"])
    (d_look_number : DefAt K mg "look_number" s_look_number ["number", "least", "most"])
    (d_look_numbers : DefAt K mg "look_numbers" s_look_numbers ["numbers", "least", "most"])
    (d_look_things : DefAt K mg "look_things" s_look_things ["things"])
    (d_look_thing : DefAt K mg "look_thing" s_look_thing ["things", "thing"])
    (d_look_lot : DefAt K mg "look_lot" s_look_lot ["things", "entries"])
    (d_look_costs : DefAt K mg "look_costs" s_look_costs ["things", "costs"])
    (d_lot_of : DefAt K mg "lot_of" s_lot_of ["things", "entries"])
    (d_all_lots : DefAt K mg "all_lots" s_all_lots ["things"])
    (d_joined : DefAt K mg "joined" s_joined ["things", "first", "second"])
    (d_common : DefAt K mg "common" s_common ["things", "first", "second"])
    (d_without : DefAt K mg "without" s_without ["things", "first", "second"])
    (d_cost_of : DefAt K mg "cost_of" s_cost_of ["things", "costs", "lot"])
    (d_sum_of_costs : DefAt K mg "sum_of_costs" s_sum_of_costs ["costs", "lot"])
    (d__look_two : DefAt K mg "_look_two" s__look_two ["things", "first", "second"])
    (d__law_tape : DefAt K mg "_law_tape" s__law_tape ["script"])
    (d__law_take : DefAt K mg "_law_take" s__law_take ["tape", "many", "salt"])
    (d__law_int : DefAt K mg "_law_int" s__law_int ["told"])
    (d__law_entries : DefAt K mg "_law_entries" s__law_entries ["tape", "things", "salt"])
    (d__law_no_thing : DefAt K mg "_law_no_thing" s__law_no_thing ["tape", "things", "salt"])
    (d__law_told : DefAt K mg "_law_told" s__law_told ["name", "things", "one", "other"])
    (d__law_is_lot : DefAt K mg "_law_is_lot" s__law_is_lot ["told", "due"])
    (d__law_ascending : DefAt K mg "_law_ascending" s__law_ascending ["told", "things"])
    (d__law_all_lots : DefAt K mg "_law_all_lots" s__law_all_lots ["things"])
    (d__law_lots : DefAt K mg "_law_lots" s__law_lots ["things", "one", "other"])
    (d__law_cost : DefAt K mg "_law_cost" s__law_cost ["things", "costs", "one"])
    (d__law_good : DefAt K mg "_law_good" s__law_good ["things", "costs", "one", "other"])
    (d__law_all_refused : DefAt K mg "_law_all_refused" s__law_all_refused ["cases"])
    (d__law_bad_lots : DefAt K mg "_law_bad_lots" s__law_bad_lots ["tape", "things", "one"])
    (d__law_bad_costs : DefAt K mg "_law_bad_costs" s__law_bad_costs ["tape", "things", "costs", "one"])
    (z_len : PySem.W.nsIn K mainGlobals "len" = some none)
    (z_sum : PySem.W.nsIn K mainGlobals "sum" = some none)
    (z_min : PySem.W.nsIn K mainGlobals "min" = some none)
    (z_max : PySem.W.nsIn K mainGlobals "max" = some none)
    (z_abs : PySem.W.nsIn K mainGlobals "abs" = some none)
    (z_isinstance : PySem.W.nsIn K mainGlobals "isinstance" = some none)
    (z_sorted : PySem.W.nsIn K mainGlobals "sorted" = some none)
    (z_tuple : PySem.W.nsIn K mainGlobals "tuple" = some none)
    (z_list : PySem.W.nsIn K mainGlobals "list" = some none)
    (z_set : PySem.W.nsIn K mainGlobals "set" = some none)
    (z_int : PySem.W.nsIn K mainGlobals "int" = some none)
    (z_bool : PySem.W.nsIn K mainGlobals "bool" = some none)
    (z_range : PySem.W.nsIn K mainGlobals "range" = some none)
    (z_ValueError : PySem.W.nsIn K mainGlobals "ValueError" = some none)
    (zsuper : PySem.W.nsIn K mainGlobals "super" = some none)
    (nT : PySem.W.nsIn K mainGlobals "_MOST_THINGS" = some (some (.int 10 tT))) (nE : PySem.W.nsIn K mainGlobals "_MOST_ENTRIES" = some (some (.int 60 tE)))
    (gO : PySem.W.nsIn K mainGlobals "NodearerError" = some (some (.ref CO)))
    (s_SizeError : ErrS P K mg "SizeError" "count" CS i_SizeError "SizeError.__init__")
    (s_NumberError : ErrS P K mg "NumberError" "number" CN i_NumberError "NumberError.__init__")
    (s_ThingError : ErrS P K mg "ThingError" "thing" CT i_ThingError "ThingError.__init__")
    (xSS : PySem.W.exmOne K (.ref CS) (.ref CS) = some true)
    (xTS : PySem.W.exmOne K (.ref CT) (.ref CS) = some false)
    (xTT : PySem.W.exmOne K (.ref CT) (.ref CT) = some true)
    (xNS : PySem.W.exmOne K (.ref CN) (.ref CS) = some false)
    (xNT : PySem.W.exmOne K (.ref CN) (.ref CT) = some false)
    (xNN : PySem.W.exmOne K (.ref CN) (.ref CN) = some true)
    (kSO : PySem.W.kitOne K (.ref CS) (.ref CO) = some true)
    (kTO : PySem.W.kitOne K (.ref CT) (.ref CO) = some true)
    (kNO : PySem.W.kitOne K (.ref CN) (.ref CO) = some true)
    (kSN : PySem.W.kitOne K (.ref CS) (.ref CN) = some false)
    (kST : PySem.W.kitOne K (.ref CS) (.ref CT) = some false)
    (kTN : PySem.W.kitOne K (.ref CT) (.ref CN) = some false)
    (kNV : PySem.W.kitOne K (.ref CN) (.type "ValueError") = some true) :
    ∃ fd : FuncData, (∀ (s : Shared) (u : Value), BindsTo s fd ⟨[u], []⟩ [("script", u)]) ∧ ∀ base : Heap, K.In base → base.Ns mainGlobals mg → FnOk P w K mg base (L2.CX P w) 10 fa fd ["script"] (spLaw K) := by
  have e := hfa.symm.trans (PySem.W.mg_of X G aL)
  cases e
  have F : Facts P K mg CO CS CN CT := { d_lots_of_size := d_lots_of_size, d__least_next := d__least_next, d_look_size := d_look_size, d_look_number := d_look_number, d_look_numbers := d_look_numbers, d_look_things := d_look_things, d_look_thing := d_look_thing, d_look_lot := d_look_lot, d_look_costs := d_look_costs, d_lot_of := d_lot_of, d_all_lots := d_all_lots, d_joined := d_joined, d_common := d_common, d_without := d_without, d_cost_of := d_cost_of, d_sum_of_costs := d_sum_of_costs, d__look_two := d__look_two, d__law_tape := d__law_tape, d__law_take := d__law_take, d__law_int := d__law_int, d__law_entries := d__law_entries, d__law_no_thing := d__law_no_thing, d__law_told := d__law_told, d__law_is_lot := d__law_is_lot, d__law_ascending := d__law_ascending, d__law_all_lots := d__law_all_lots, d__law_lots := d__law_lots, d__law_cost := d__law_cost, d__law_good := d__law_good, d__law_all_refused := d__law_all_refused, d__law_bad_lots := d__law_bad_lots, d__law_bad_costs := d__law_bad_costs, z_len := PySem.W.mg_none_of X G z_len, z_sum := PySem.W.mg_none_of X G z_sum, z_min := PySem.W.mg_none_of X G z_min, z_max := PySem.W.mg_none_of X G z_max, z_abs := PySem.W.mg_none_of X G z_abs, z_isinstance := PySem.W.mg_none_of X G z_isinstance, z_sorted := PySem.W.mg_none_of X G z_sorted, z_tuple := PySem.W.mg_none_of X G z_tuple, z_list := PySem.W.mg_none_of X G z_list, z_set := PySem.W.mg_none_of X G z_set, z_int := PySem.W.mg_none_of X G z_int, z_bool := PySem.W.mg_none_of X G z_bool, z_range := PySem.W.mg_none_of X G z_range, z_ValueError := PySem.W.mg_none_of X G z_ValueError, zsuper := PySem.W.mg_none_of X G zsuper, c__MOST_THINGS := ⟨_, PySem.W.mg_of X G nT, ⟨_, rfl⟩⟩, c__MOST_ENTRIES := ⟨_, PySem.W.mg_of X G nE, ⟨_, rfl⟩⟩, c_MOST_COST := hc, gO := PySem.W.mg_of X G gO, s_SizeError := s_SizeError, s_NumberError := s_NumberError, s_ThingError := s_ThingError, xSS := xSS, xTS := xTS, xTT := xTT, xNS := xNS, xNT := xNT, xNN := xNN, kSO := kSO, kTO := kTO, kNO := kNO, kSN := kSN, kST := kST, kTN := kTN, kNV := kNV }
  exact ⟨_, fun s u => .of_eq rfl, fun base _ _ => law_fn F (fun_mk (st := s_law) lL cL kL)⟩
end
end K3
open PySem PySem.W PyProof.Rows
set_option maxRecDepth 100000 in
set_option maxHeartbeats 0 in
theorem PySem.Challenge.cw_nodearer_k03_lots_holds : PySem.Challenge.rw_nodearer_k03_lots.Holds := by
  w_on; o_law; k_head; (case hw => w_witness2)
  k_fill
  refine K3.walk_x (l := PySem.Challenge.rw_nodearer_k03_lots) (n := 63) (k := 10) (x := "script") (CX := fun w => L2.CX PySem.Challenge.rw_nodearer_k03_lots.prog w) (sp := K3.spLaw) rfl (by decide) rfl ⟨rfl, by decide, by decide⟩ (fun w h Y => PySem.W.kIn_of Y) ?F (fun _ _ a ns hl _ hS => ⟨a, ns, rfl, hS, fun _ => rfl⟩) (fun _ _ _ _ _ => K3.cx_no)
  case F =>
    intro w mg fa h XX KX G hmg
    refine' K3.fin_mk KX G hmg (K3.most_cost XX) ?aL ?lL ?cL ?kL ?d_lots_of_size ?d__least_next ?d_look_size ?d_look_number ?d_look_numbers ?d_look_things ?d_look_thing ?d_look_lot ?d_look_costs ?d_lot_of ?d_all_lots ?d_joined ?d_common ?d_without ?d_cost_of ?d_sum_of_costs ?d__look_two ?d__law_tape ?d__law_take ?d__law_int ?d__law_entries ?d__law_no_thing ?d__law_told ?d__law_is_lot ?d__law_ascending ?d__law_all_lots ?d__law_lots ?d__law_cost ?d__law_good ?d__law_all_refused ?d__law_bad_lots ?d__law_bad_costs ?z_len ?z_sum ?z_min ?z_max ?z_abs ?z_isinstance ?z_sorted ?z_tuple ?z_list ?z_set ?z_int ?z_bool ?z_range ?z_ValueError ?zsuper ?nT ?nE ?gO ?s_SizeError ?s_NumberError ?s_ThingError ?xSS ?xTS ?xTT ?xNS ?xNT ?xNN ?kSO ?kTO ?kNO ?kSN ?kST ?kTN ?kNV
    (case aL => k_is)
    (case lL => k_is)
    (case cL => k_is)
    (case kL => k_is)
    case d_lots_of_size =>
      refine' K3.def_at KX G ?a ?l ?c ?k (fun _ _ _ _ _ _ us hl => match us, hl with | [_, _], _ => rfl)
      (case a => k_is); (case l => k_is); (case c => k_is); (case k => k_is)
    case d__least_next =>
      refine' K3.def_at KX G ?a ?l ?c ?k (fun _ _ _ _ _ _ us hl => match us, hl with | [_], _ => rfl)
      (case a => k_is); (case l => k_is); (case c => k_is); (case k => k_is)
    case d_look_size =>
      refine' K3.def_at KX G ?a ?l ?c ?k (fun _ _ _ _ _ _ us hl => match us, hl with | [_, _, _], _ => rfl)
      (case a => k_is); (case l => k_is); (case c => k_is); (case k => k_is)
    case d_look_number =>
      refine' K3.def_at KX G ?a ?l ?c ?k (fun _ _ _ _ _ _ us hl => match us, hl with | [_, _, _], _ => rfl)
      (case a => k_is); (case l => k_is); (case c => k_is); (case k => k_is)
    case d_look_numbers =>
      refine' K3.def_at KX G ?a ?l ?c ?k (fun _ _ _ _ _ _ us hl => match us, hl with | [_, _, _], _ => rfl)
      (case a => k_is); (case l => k_is); (case c => k_is); (case k => k_is)
    case d_look_things =>
      refine' K3.def_at KX G ?a ?l ?c ?k (fun _ _ _ _ _ _ us hl => match us, hl with | [_], _ => rfl)
      (case a => k_is); (case l => k_is); (case c => k_is); (case k => k_is)
    case d_look_thing =>
      refine' K3.def_at KX G ?a ?l ?c ?k (fun _ _ _ _ _ _ us hl => match us, hl with | [_, _], _ => rfl)
      (case a => k_is); (case l => k_is); (case c => k_is); (case k => k_is)
    case d_look_lot =>
      refine' K3.def_at KX G ?a ?l ?c ?k (fun _ _ _ _ _ _ us hl => match us, hl with | [_, _], _ => rfl)
      (case a => k_is); (case l => k_is); (case c => k_is); (case k => k_is)
    case d_look_costs =>
      refine' K3.def_at KX G ?a ?l ?c ?k (fun _ _ _ _ _ _ us hl => match us, hl with | [_, _], _ => rfl)
      (case a => k_is); (case l => k_is); (case c => k_is); (case k => k_is)
    case d_lot_of =>
      refine' K3.def_at KX G ?a ?l ?c ?k (fun _ _ _ _ _ _ us hl => match us, hl with | [_, _], _ => rfl)
      (case a => k_is); (case l => k_is); (case c => k_is); (case k => k_is)
    case d_all_lots =>
      refine' K3.def_at KX G ?a ?l ?c ?k (fun _ _ _ _ _ _ us hl => match us, hl with | [_], _ => rfl)
      (case a => k_is); (case l => k_is); (case c => k_is); (case k => k_is)
    case d_joined =>
      refine' K3.def_at KX G ?a ?l ?c ?k (fun _ _ _ _ _ _ us hl => match us, hl with | [_, _, _], _ => rfl)
      (case a => k_is); (case l => k_is); (case c => k_is); (case k => k_is)
    case d_common =>
      refine' K3.def_at KX G ?a ?l ?c ?k (fun _ _ _ _ _ _ us hl => match us, hl with | [_, _, _], _ => rfl)
      (case a => k_is); (case l => k_is); (case c => k_is); (case k => k_is)
    case d_without =>
      refine' K3.def_at KX G ?a ?l ?c ?k (fun _ _ _ _ _ _ us hl => match us, hl with | [_, _, _], _ => rfl)
      (case a => k_is); (case l => k_is); (case c => k_is); (case k => k_is)
    case d_cost_of =>
      refine' K3.def_at KX G ?a ?l ?c ?k (fun _ _ _ _ _ _ us hl => match us, hl with | [_, _, _], _ => rfl)
      (case a => k_is); (case l => k_is); (case c => k_is); (case k => k_is)
    case d_sum_of_costs =>
      refine' K3.def_at KX G ?a ?l ?c ?k (fun _ _ _ _ _ _ us hl => match us, hl with | [_, _], _ => rfl)
      (case a => k_is); (case l => k_is); (case c => k_is); (case k => k_is)
    case d__look_two =>
      refine' K3.def_at KX G ?a ?l ?c ?k (fun _ _ _ _ _ _ us hl => match us, hl with | [_, _, _], _ => rfl)
      (case a => k_is); (case l => k_is); (case c => k_is); (case k => k_is)
    case d__law_tape =>
      refine' K3.def_at KX G ?a ?l ?c ?k (fun _ _ _ _ _ _ us hl => match us, hl with | [_], _ => rfl)
      (case a => k_is); (case l => k_is); (case c => k_is); (case k => k_is)
    case d__law_take =>
      refine' K3.def_at KX G ?a ?l ?c ?k (fun _ _ _ _ _ _ us hl => match us, hl with | [_, _, _], _ => rfl)
      (case a => k_is); (case l => k_is); (case c => k_is); (case k => k_is)
    case d__law_int =>
      refine' K3.def_at KX G ?a ?l ?c ?k (fun _ _ _ _ _ _ us hl => match us, hl with | [_], _ => rfl)
      (case a => k_is); (case l => k_is); (case c => k_is); (case k => k_is)
    case d__law_entries =>
      refine' K3.def_at KX G ?a ?l ?c ?k (fun _ _ _ _ _ _ us hl => match us, hl with | [_, _, _], _ => rfl)
      (case a => k_is); (case l => k_is); (case c => k_is); (case k => k_is)
    case d__law_no_thing =>
      refine' K3.def_at KX G ?a ?l ?c ?k (fun _ _ _ _ _ _ us hl => match us, hl with | [_, _, _], _ => rfl)
      (case a => k_is); (case l => k_is); (case c => k_is); (case k => k_is)
    case d__law_told =>
      refine' K3.def_at KX G ?a ?l ?c ?k (fun _ _ _ _ _ _ us hl => match us, hl with | [_, _, _, _], _ => rfl)
      (case a => k_is); (case l => k_is); (case c => k_is); (case k => k_is)
    case d__law_is_lot =>
      refine' K3.def_at KX G ?a ?l ?c ?k (fun _ _ _ _ _ _ us hl => match us, hl with | [_, _], _ => rfl)
      (case a => k_is); (case l => k_is); (case c => k_is); (case k => k_is)
    case d__law_ascending =>
      refine' K3.def_at KX G ?a ?l ?c ?k (fun _ _ _ _ _ _ us hl => match us, hl with | [_, _], _ => rfl)
      (case a => k_is); (case l => k_is); (case c => k_is); (case k => k_is)
    case d__law_all_lots =>
      refine' K3.def_at KX G ?a ?l ?c ?k (fun _ _ _ _ _ _ us hl => match us, hl with | [_], _ => rfl)
      (case a => k_is); (case l => k_is); (case c => k_is); (case k => k_is)
    case d__law_lots =>
      refine' K3.def_at KX G ?a ?l ?c ?k (fun _ _ _ _ _ _ us hl => match us, hl with | [_, _, _], _ => rfl)
      (case a => k_is); (case l => k_is); (case c => k_is); (case k => k_is)
    case d__law_cost =>
      refine' K3.def_at KX G ?a ?l ?c ?k (fun _ _ _ _ _ _ us hl => match us, hl with | [_, _, _], _ => rfl)
      (case a => k_is); (case l => k_is); (case c => k_is); (case k => k_is)
    case d__law_good =>
      refine' K3.def_at KX G ?a ?l ?c ?k (fun _ _ _ _ _ _ us hl => match us, hl with | [_, _, _, _], _ => rfl)
      (case a => k_is); (case l => k_is); (case c => k_is); (case k => k_is)
    case d__law_all_refused =>
      refine' K3.def_at KX G ?a ?l ?c ?k (fun _ _ _ _ _ _ us hl => match us, hl with | [_], _ => rfl)
      (case a => k_is); (case l => k_is); (case c => k_is); (case k => k_is)
    case d__law_bad_lots =>
      refine' K3.def_at KX G ?a ?l ?c ?k (fun _ _ _ _ _ _ us hl => match us, hl with | [_, _, _], _ => rfl)
      (case a => k_is); (case l => k_is); (case c => k_is); (case k => k_is)
    case d__law_bad_costs =>
      refine' K3.def_at KX G ?a ?l ?c ?k (fun _ _ _ _ _ _ us hl => match us, hl with | [_, _, _, _], _ => rfl)
      (case a => k_is); (case l => k_is); (case c => k_is); (case k => k_is)
    (case z_len => k_is)
    (case z_sum => k_is)
    (case z_min => k_is)
    (case z_max => k_is)
    (case z_abs => k_is)
    (case z_isinstance => k_is)
    (case z_sorted => k_is)
    (case z_tuple => k_is)
    (case z_list => k_is)
    (case z_set => k_is)
    (case z_int => k_is)
    (case z_bool => k_is)
    (case z_range => k_is)
    (case z_ValueError => k_is)
    (case zsuper => k_is); (case nT => k_is); (case nE => k_is); (case gO => k_is)
    case s_SizeError =>
      refine' K3.errS_mk KX G ?g ?xL ?rv ?ic ?sa ?ga ?gg ?no ?sb ?ca ?cg ?ctk ?mo ?tC ?kC ?hd ?mr ?a1 ?t1 ?l1 ?c1 ?cL ?cv ?cf ?eL ?su ?ve ?tp ?top
      (case g => k_is); (case xL => k_is); (case rv => decide +kernel); (case ic => k_is); (case sa => k_is); (case ga => k_is); (case gg => k_is); (case no => k_is); (case sb => k_is); (case ca => k_is); (case cg => k_is); (case ctk => k_is); (case mo => k_is); (case tC => k_is); (case kC => k_is); (case hd => k_is); (case mr => k_is); (case a1 => k_is); (case t1 => k_is); (case l1 => k_is); (case c1 => k_is); (case cL => k_is); (case cv => rfl); (case cf => decide +kernel); (case eL => k_is); (case su => kernel_rfl); (case ve => k_is); (case tp => k_is); (case top => decide +kernel)
    case s_NumberError =>
      refine' K3.errS_mk KX G ?g ?xL ?rv ?ic ?sa ?ga ?gg ?no ?sb ?ca ?cg ?ctk ?mo ?tC ?kC ?hd ?mr ?a1 ?t1 ?l1 ?c1 ?cL ?cv ?cf ?eL ?su ?ve ?tp ?top
      (case g => k_is); (case xL => k_is); (case rv => decide +kernel); (case ic => k_is); (case sa => k_is); (case ga => k_is); (case gg => k_is); (case no => k_is); (case sb => k_is); (case ca => k_is); (case cg => k_is); (case ctk => k_is); (case mo => k_is); (case tC => k_is); (case kC => k_is); (case hd => k_is); (case mr => k_is); (case a1 => k_is); (case t1 => k_is); (case l1 => k_is); (case c1 => k_is); (case cL => k_is); (case cv => rfl); (case cf => decide +kernel); (case eL => k_is); (case su => kernel_rfl); (case ve => k_is); (case tp => k_is); (case top => decide +kernel)
    case s_ThingError =>
      refine' K3.errS_mk KX G ?g ?xL ?rv ?ic ?sa ?ga ?gg ?no ?sb ?ca ?cg ?ctk ?mo ?tC ?kC ?hd ?mr ?a1 ?t1 ?l1 ?c1 ?cL ?cv ?cf ?eL ?su ?ve ?tp ?top
      (case g => k_is); (case xL => k_is); (case rv => decide +kernel); (case ic => k_is); (case sa => k_is); (case ga => k_is); (case gg => k_is); (case no => k_is); (case sb => k_is); (case ca => k_is); (case cg => k_is); (case ctk => k_is); (case mo => k_is); (case tC => k_is); (case kC => k_is); (case hd => k_is); (case mr => k_is); (case a1 => k_is); (case t1 => k_is); (case l1 => k_is); (case c1 => k_is); (case cL => k_is); (case cv => rfl); (case cf => decide +kernel); (case eL => k_is); (case su => kernel_rfl); (case ve => k_is); (case tp => k_is); (case top => decide +kernel)
    case xSS =>
      refine' PySem.W.exm_ref ?a ?b ?c ?d
      (case a => k_is); (case b => k_is); (case c => k_is); (case d => k_is)
    case xTS =>
      refine' PySem.W.exm_ref ?a ?b ?c ?d
      (case a => k_is); (case b => k_is); (case c => k_is); (case d => k_is)
    case xTT =>
      refine' PySem.W.exm_ref ?a ?b ?c ?d
      (case a => k_is); (case b => k_is); (case c => k_is); (case d => k_is)
    case xNS =>
      refine' PySem.W.exm_ref ?a ?b ?c ?d
      (case a => k_is); (case b => k_is); (case c => k_is); (case d => k_is)
    case xNT =>
      refine' PySem.W.exm_ref ?a ?b ?c ?d
      (case a => k_is); (case b => k_is); (case c => k_is); (case d => k_is)
    case xNN =>
      refine' PySem.W.exm_ref ?a ?b ?c ?d
      (case a => k_is); (case b => k_is); (case c => k_is); (case d => k_is)
    case kSO =>
      refine' K3.kit_own ?a ?b ?c ?d
      (case a => decide); (case b => k_is); (case c => k_is); (case d => k_is)
    case kTO =>
      refine' K3.kit_own ?a ?b ?c ?d
      (case a => decide); (case b => k_is); (case c => k_is); (case d => k_is)
    case kNO =>
      refine' K3.kit_own ?a ?b ?c ?d
      (case a => decide); (case b => k_is); (case c => k_is); (case d => k_is)
    case kSN =>
      refine' K3.kit_own ?a ?b ?c ?d
      (case a => decide); (case b => k_is); (case c => k_is); (case d => k_is)
    case kST =>
      refine' K3.kit_own ?a ?b ?c ?d
      (case a => decide); (case b => k_is); (case c => k_is); (case d => k_is)
    case kTN =>
      refine' K3.kit_own ?a ?b ?c ?d
      (case a => decide); (case b => k_is); (case c => k_is); (case d => k_is)
    case kNV =>
      refine' K3.kit_tyv ?a ?b
      (case a => decide +kernel); (case b => k_is)
