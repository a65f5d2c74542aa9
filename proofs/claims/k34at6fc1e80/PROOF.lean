import PyProof.Rows.All
import Wide.All
import OpenK.AllK
import Wide.FinOn
import KE.KExcSuper
import HandS.ForMost
import HandS.ForExc
import HandS.Evl
import HandS.Exc
import HandS.ExcOwn
import HandS.ExcInit
import HandS.ExcIs
import HandS.ExcField
import HandS.TryMany
import KE.KExcIs
import HandS.IsInst
import HandS.Style
import HandS.Strs
import HandS.SetFor
import HandS.TupLe
import HandS.TupAny
import OpenK.KMeth
import KE.KOpsOwn
import HandS.Gcd
import HandS.Wide
import HandS.ClsMeth
import KE.KMathG
import HandS.Defaults
import KE.GoesEnum
import KE.GoesMore
import HandS.Call
import PyProof.ListNew
import HandS.RevTup
import HandS.Rev
import HandS.OwnEq
import HandS.MakeKwOnly
import HandS.Conv
import HandS.WideBits
import PySem.Challenge.RW_nodearer_k34_depth_and_slack
set_option Elab.async false
set_option linter.all false
set_option maxRecDepth 100000
set_option maxHeartbeats 4000000
/-! An own error whose __init__ begins with super().__init__(text): its promise by the rest of its body. -/
namespace Nd
open PySem PySem.Spec PyProof.Rows L2

/-- a built-in base's __init__, bound, called on an exception without a dict -/
theorem bound_init {prog : Program} {w : World} {A : Around} {E : Value → Shared → Prop} {s : Shared} {B newId i : String} {bmB : List Value} {nm q : Str} {C N u x t0 : Addr} {bs bm : List Value} {hdct : Bool} {sn : List Str} {sub : List Value} {ab : Bool}
    {col : Option Bool} {dd : Option Addr} {k0 k1 k2 k3 k5 : Option Value} {rest : List Value} {Q : Value → Shared → Prop} (FB : ExcBaseFacts B newId i bmB)
    (hC : s.heap.get? C = some (excClassObj nm q C N bs bm hdct sn sub ab col dd k0 k1 k2 k3 k5 newId)) (hu : s.heap.get? u = some (PySem.W.kxs_mw i x)) (hx : s.heap.get? x = some (HandSPX.excO C t0)) (hz : rest.length ≤ sizeLine)
    (hq : ∀ h' t1, (∀ b o, b ≠ x → s.heap.get? b = some o → h'.get? b = some o) → h'.get? x = some (HandSPX.excO C t1) → Q .none { s with heap := h' }) :
    wpAny (model prog w) A (call (.ref u) rest) Q E s := by
  obtain ⟨hh, g, d, tk, os⟩ := s
  refine wpAny_call (codeAny_of_tree ?_)
  show wpAny _ A.in1 (callAny (.ref u) ⟨rest, []⟩) _ _ _
  simp only [callAny]
  refine wpAny_bind (wpAny_load hu ?_)
  have m1 : (Value.type "method-wrapper" == Value.type "method" || Value.type "method-wrapper" == Value.type "builtin_function_or_method" || Value.type "method-wrapper" == Value.type "method-wrapper") = true := by decide
  simp only [PySem.W.kxs_mw, m1, if_true]
  refine PySem.W.KFB.if_so (by decide) ?_
  refine wpAny_bind (PySem.W.check_bound_init FB.toExcCallFacts hC hx rfl ?_)
  refine wpAny_bind (wpAny_pure (wpAny_pure ?_))
  refine ⟨plainId_quiet FB.init.plain _, codeAny_builtin FB.initEntry ?_⟩
  exact PySem.W.exc_init_tree (cls := .ref C) (t0 := t0) (dv := none) (c2 := .none) (c3 := .none) (b4 := .bool false) hx hz fun h' k e' _ => hq h' _ k e'

/-- what the written part says of an error class at C whose own __init__ (at fI, its code at cda, its cell __class__ at cc) begins with super().__init__(text) -/
structure SupC (P : Program) (K : PySem.W.Frag) (C cda cc : Addr) : Prop where
  ox : OexC K C
  code : ∃ ccl cdd vs ccs file tf, K.lookup cda = some ⟨ccl, cdd, .fields vs, ccs⟩ ∧ vs[2]? = some (.str file tf) ∧ ((P.main.file : Str) == file) = true
  cell : ∃ cl cld csl, K.lookup cc = some ⟨cl, cld, .cell (some (.ref C)), csl⟩
  mro : PySem.W.mroIn K C (.ref C) = some true
  sup : PySem.W.ks_superIn K C C "__init__" = some (some (.builtin "ValueError.__init__"))
  ve : PySem.W.subIn K (.ref C) (.type "ValueError") = some true
  tp : PySem.W.nsIn K cStatics "thirdparty.any" = some none
  top : (P.main.scope.names.lookup ("super" : Str)).isSome = false

/-- the context of such an __init__ -/
def cxSup (CX : CXT) (P : Program) (w : World) (K : PySem.W.Frag) (mg : Str → Option Value) (base : Heap) (N : List Str) (qual : Str) (scope : Scope) (f cda cc : Addr) (A : Around) (outer : List Env) (s : Shared) (H : Hp) (E : XK) : Cx where
  prog := P
  w := w
  K := K
  mg := mg
  base := base
  A := A.deeper (PySem.W.ksEnv qual scope s.heap.objs.size f (.ref cda) cc)
  N := N
  s_0 := s
  H_0 := H
  env := PySem.W.ksEnv qual scope s.heap.objs.size f (.ref cda) cc
  outer := outer
  stack := PySem.W.ksEnv qual scope s.heap.objs.size f (.ref cda) cc :: outer
  ex := []
  calm := true
  fn := fun _ => false
  pn := []
  xe := fun e s' => wpAny (model P w) (A.deeper (PySem.W.ksEnv qual scope s.heap.objs.size f (.ref cda) cc)) (leaving (PySem.W.ksEnv qual scope s.heap.objs.size f (.ref cda) cc) e) (fun _ s'' => CX outer H s E e s'') (fun e' s'' => CX outer H s E e' s'') s'

theorem lookup_zip_rev {α : Type} : ∀ {ps : List Str} {us : List α} {i : Nat} {x : Str} {u : α}, ps.Nodup → ps[i]? = some x → us[i]? = some u → (ps.zip us).reverse.lookup x = some u
  | [], _, i, _, _, _, h, _ => by simp at h
  | _ :: _, [], i, _, _, _, _, h => by simp at h
  | p :: ps, v :: us, 0, x, u, nd, h1, h2 => by
    simp at h1 h2
    subst h1; subst h2
    rw [List.zip_cons_cons, List.reverse_cons]
    have nn : ((ps.zip us).reverse).lookup p = none := by
      rw [List.lookup_eq_none_iff]
      intro q hq
      have hq' := List.mem_reverse.mp hq
      have : q.1 ∈ ps := (List.of_mem_zip (a := q.1) (b := q.2) hq').1
      have np : p ∉ ps := (List.nodup_cons.mp nd).1
      simp only [beq_eq_false_iff_ne, ne_eq, bne_iff_ne]
      intro e
      exact np (e ▸ this)
    rw [List.lookup_append, nn]
    simp [List.lookup]
  | p :: ps, v :: us, i + 1, x, u, nd, h1, h2 => by
    have ih := lookup_zip_rev (ps := ps) (us := us) (i := i) (x := x) (u := u) (List.nodup_cons.mp nd).2 (by simpa using h1) (by simpa using h2)
    rw [List.zip_cons_cons, List.reverse_cons, List.lookup_append, ih]
    rfl

/-- the scope of such an __init__: parameters P, names N (parameters first), beside __class__ all local or global -/
structure SupScope (N P : List Str) (sc : Scope) : Prop where
  kind : sc.kind = .function
  co : sc.isCoroutine = false
  gen : sc.isGenerator = false
  nd : N.Nodup
  pre : N.take P.length = P
  par : ∀ x ∈ P, sc.names.lookup x = some .local
  nocell : ∀ y ∈ sc.names, y.2 ≠ .cell
  onlycls : ∀ y ∈ sc.names, y.2 = .free → y.1 = "__class__"
  sup : sc.names.lookup ("super" : Str) = some .globalImplicit
  cls : sc.names.lookup ("__class__" : Str) = some .free

section
variable {CX : CXT} {P : Program} {w : World} {K : PySem.W.Frag} {mg : Str → Option Value} {base : Heap} {N ps : List Str} {qual : Str} {scope : Scope} {f cda cc C : Addr} {A : Around} {outer : List Env} {s : Shared} {H : Hp} {E : XK}

theorem inv_sup {us : List Value} {vs : List V} {h1 : Heap} {tk : Nat} (S : SupScope N ps scope) (T : SupC P K C cda cc) (hd : A.handled = none) (e0 : Env0 P w K mg base A outer s H) (hl : vs.length = ps.length) (r : Vals vs us)
    (hn : h1.Ns s.heap.objs.size (fun x => (ps.zip us).reverse.lookup x)) (hk : ∀ b o, s.heap.get? b = some o → h1.get? b = some o) :
    Inv (cxSup CX P w K mg base N qual scope f cda cc A outer s H E) [] (L2.start N vs) H { s with heap := h1, toks := tk } := by
  have hpl : ps.length ≤ N.length := by have := congrArg List.length S.pre; rw [List.length_take] at this; omega
  have noA : ∀ b : Addr, b ∉ (cxSup CX P w K mg base N qual scope f cda cc A outer s H E).ex := fun b z => absurd (show b ∈ ([] : List Addr) from z) (by simp)
  obtain ⟨cl, cld, csl, hcell⟩ := T.cell
  have bcell : base.get? cc = some ⟨cl, cld, .cell (some (.ref C)), csl⟩ := e0.mod.kin _ _ hcell
  have look1 : ∀ {x : Str} {c : Addr}, ([("__class__", cc)] : List (Str × Addr)).lookup x = some c → x = "__class__" ∧ c = cc := fun {x c} h => by
    by_cases hx : x = "__class__"
    · subst hx
      simp [List.lookup] at h
      exact ⟨rfl, h.symm⟩
    · have : (x == ("__class__" : Str)) = false := by simpa using hx
      simp [List.lookup, this] at h
  refine ⟨⟨e0.mod, S.kind, rfl, rfl, Nat.le_refl _, fun y z c h1 h2 => ?_, fun y hy => ?_, fun y c z _ => absurd z (by simp [cxSup]), fun _ => hd, Around.frames_deeper e0.frames, .inr ⟨rfl, rfl⟩, fun b z => absurd z (noA b), e0.bs, e0.bsz, fun b _ _ => noA b, fun b z => absurd z (noA b), e0.funs, e0.frf⟩,
    rfl, e0.bare, Un.kept hk, ⟨_, hn, fun i y v h1 h2 h3 => ?_⟩, fun y c h => ?_, e0.hok.fresh (Nat.le_refl _), fun y c h => ?_, fun p hp => absurd (show p ∈ ([] : List (Addr × Obj)) from hp) (by simp), e0.hok.kept hk, ?_⟩
  · exact (look1 h1).1.trans (look1 h2).1.symm
  · have hy : scope.names.lookup y = some .cell ∨ scope.names.lookup y = some .free := hy
    rcases hy with hy | hy
    · exact absurd rfl (S.nocell _ (PySem.mem_of_lookup hy))
    · have e := S.onlycls _ (PySem.mem_of_lookup hy) rfl
      have e' : y = "__class__" := e
      subst e'
      exact ⟨cc, by simp [cxSup, List.lookup]⟩
  · have hi : i < vs.length := by
      unfold L2.start at h2
      by_cases hi : i < vs.length
      · exact hi
      · rw [List.getElem?_append_right (by simpa using hi)] at h2
        rw [List.getElem?_replicate] at h2
        split at h2 <;> cases h2
    have ha : vs[i]? = some v := by
      unfold L2.start at h2
      rw [List.getElem?_append_left (by simpa using hi), List.getElem?_map] at h2
      cases e : vs[i]? with
      | none => rw [e] at h2; cases h2
      | some a => rw [e] at h2; cases h2; rfl
    obtain ⟨u, hu, rv⟩ := r.get ha
    have hp : ps[i]? = some y := by
      rw [← S.pre, List.getElem?_take_of_lt (by omega)]; exact h1
    have ndP : ps.Nodup := by rw [← S.pre]; exact S.nd.sublist (List.take_sublist _ _)
    exact ⟨u, rv, .inl ⟨S.par y (List.mem_of_getElem? hp), lookup_zip_rev ndP hp hu⟩⟩
  · obtain ⟨_, rfl⟩ := look1 h
    exact ⟨_, _, hk _ _ (e0.bs _ _ bcell).1, rfl⟩
  · obtain ⟨_, rfl⟩ := look1 h
    exact (e0.bs _ _ bcell).2
  · unfold L2.start
    show _ = N.length
    rw [List.length_append, List.length_map, List.length_replicate]
    omega

/-- super().__init__(text), the first statement -/
theorem sup_stmt {us : List Value} {vs : List V} {body : List Stmt} {p0 p1 p2 p3 pos pos2 : Pos} {j : _} {txt : Str} {fd : FuncData} {oc : Value} {od : Option Addr} {osl : Array (Option Value)} {ar : Arg} {x : Addr} {h1 : Heap} {tk : Nat} {Q : Flow → Shared → Prop} {E' : Value → Shared → Prop}
    (S : SupScope N ps scope) (T : SupC P K C cda cc) (lk : K.lookup f = some ⟨oc, od, .func fd, osl⟩) (hp : (fd.params.posonlyargs ++ fd.params.args).head? = some ar) (hps : ps.head? = some ar.arg) (hus : us.head? = some (.ref x))
    (hms : mg "super" = none) (e0 : Env0 P w K mg base A outer s H) (hd : A.handled = none) (hl : vs.length = ps.length) (r : Vals vs us) (hx : H x = some (exo x C none))
    (hn : h1.Ns s.heap.objs.size (fun x => (ps.zip us).reverse.lookup x)) (hk : ∀ b o, s.heap.get? b = some o → h1.get? b = some o)
    (hq : ∀ s', Inv (cxSup CX P w K mg base N qual scope f cda cc A outer s H E) [] (L2.start N vs) H s' → Q .next s') {pl : Sem Bool}
    (he : ∀ env : Env, env.scope = scope → eval (.Call (.Attribute (.Call (.Name "super" p0) [] [] p1) "__init__" p2) [.Constant (.str txt) j p3] [] pos) env = (do
      let ov ← attributeBase (.Call (.Name "super" p0) [] [] p1) "__init__" env (eval (.Call (.Name "super" p0) [] [] p1) env)
      standAt p2.atName
      let (g, first) ← holding [ov] (getMethod ov "__init__" pl)
      callWith pos g first (backTo pos (starEach [.Constant (.str txt) j p3] env)) []))
    (hi : ∀ env : Env, env.scope = scope → interactive env = false)
    (hs : ∀ env : Env, env.scope = scope → swapsWith (.Call (.Attribute (.Call (.Name "super" p0) [] [] p1) "__init__" p2) [.Constant (.str txt) j p3] [] pos) none pos2.line env = pure false) :
    PySem.wpAt (model P w) (A.deeper (PySem.W.ksEnv qual scope s.heap.objs.size f (.ref cda) cc)) (.func body (PySem.W.ksEnv qual scope s.heap.objs.size f (.ref cda) cc))
      (exec (.Expr (.Call (.Attribute (.Call (.Name "super" p0) [] [] p1) "__init__" p2) [.Constant (.str txt) j p3] [] pos) pos2) (PySem.W.ksEnv qual scope s.heap.objs.size f (.ref cda) cc)) Q E' { s with heap := h1, toks := tk } := by
  have I : Inv (cxSup CX P w K mg base N qual scope f cda cc A outer s H E) [] (L2.start N vs) H { s with heap := h1, toks := tk } := inv_sup S T hd e0 hl r hn hk
  obtain ⟨nm, q, NN, bs, bm, sn, sub, ab, col, dd, k0, k1, k2, k3, k5, hC, hbm⟩ := T.ox.cls
  obtain ⟨ccl, cdd, cvs, ccs, file, tf, hcode, hvs, hfile⟩ := T.code
  obtain ⟨cl, cld, csl, hcell⟩ := T.cell
  obtain ⟨t1, ho⟩ := exo_at I.hok hx
  have kin : K.In h1 := I.kIn
  obtain ⟨mb, hb1, hb2⟩ := e0.mod.blt
  have bk : ∀ b o, base.get? b = some o → h1.get? b = some o := I.bk
  have xps : ps.Nodup := by rw [← S.pre]; exact S.nd.sublist (List.take_sublist _ _)
  have lself : (ps.zip us).reverse.lookup ar.arg = some (.ref x) := by
    refine lookup_zip_rev (i := 0) xps ?_ ?_
    · rw [← List.head?_eq_getElem?]; exact hps
    · rw [← List.head?_eq_getElem?]; exact hus
  have hself : scope.names.lookup ar.arg = some .local := S.par _ (List.mem_of_head? hps)
  refine ks_wpAt_Expr_any (ks_wpAt_MethodCall ?_ (he _ rfl)) (hi _ rfl) (hs _ rfl)
  obtain ⟨hp0, g, d, t, os⟩ := s
  dsimp only at *
  refine ks_wpAt_super_base (env := PySem.W.ksEnv qual scope hp0.objs.size f (.ref cda) cc) S.sup S.cls (by decide) rfl (kin _ _ lk) rfl hp rfl (kin _ _ hcode) rfl hvs hfile T.top ?_
  refine PySem.W.ks_loadName_global S.kind S.sup (Calls.loadGlobal_builtin (env := PySem.W.ksEnv qual scope hp0.objs.size f (.ref cda) cc) (e0.mod.glob.keeps bk) hms (hb1.keeps bk) ((hb2 _ (by decide +kernel)).trans (by first | boot_by_name | rfl | kernel_rfl)) ⟨rfl, ?_⟩)
  refine wpAny_loadName_free S.kind S.cls rfl ⟨_, kin _ _ hcell, rfl⟩ ?_
  refine wpAny_loadName_local S.kind hself hn lself ?_
  refine ks_wpAny_isType_cls (kin _ _ hC) rfl ⟨rfl, ?_⟩
  refine ks_wpAny_call_super (kin _ _ hC) rfl ho rfl (fun c e => by cases e) (PySem.W.looks_mroIn kin T.mro) (fun h2 e2 k2' => ?_)
  have I2 : Inv (cxSup CX P w K mg base N qual scope f cda cc A outer ⟨hp0, g, d, t, os⟩ H E) [] (L2.start N vs) H ⟨h2, g, d, tk, os⟩ := I.kept (t' := tk) k2'
  have kin2 : K.In h2 := I2.kIn
  obtain ⟨t2, ho2⟩ := exo_at I2.hok hx
  have clsC : PySem.W.clsIn K C = some { name := nm, bases := bs, mro := .ref C :: bm, ns := NN, qualname := q, hasDict := true, slotNames := sn, subclasses := sub, abstract := ab, collection := col, hasDel := false } := by unfold PySem.W.clsIn; rw [hC] <;> rfl
  have hal : PySem.W.alongIn K "__init__" bm = some (some (.builtin "ValueError.__init__")) := by
    have e := T.sup
    unfold PySem.W.ks_superIn at e
    rw [clsC, Option.bind_some] at e
    have e3 : ((Value.ref C :: bm).dropWhile (· != .ref C)).drop 1 = bm := by simp [List.dropWhile_cons]
    rw [show (((Value.ref C :: bm).dropWhile fun x => x != Value.ref C).drop 1) = bm from e3] at e
    exact e
  have IA : PySem.W.InstAt h2 x (HandSPX.excO C t2) C none := ⟨ho2, rfl, rfl, trivial⟩
  have hInst : PySem.W.Looks (model P w) h2 (isInstance (.ref x) (.type "ValueError")) true := IA.type.andThen (PySem.W.looks_subIn kin2 T.ve)
  refine PySem.W.kxs_getMethod PySem.W.kxs_ValueError (D := C) (x := x) (C := C) (l₀ := .ref C :: bm) (l := bm) e2 (PySem.W.looks_opaque kin2 T.tp) (fun A Q E s k q => wpAny_bind ((PySem.W.looks_clsIn kin2 clsC) A _ E s k (wpAny_pure q))) (by simp [List.dropWhile_cons]) kin2 hal hInst (PySem.W.ks_ne kin2 IA clsC) (by decide) ?_
  have I3 : Inv (cxSup CX P w K mg base N qual scope f cda cc A outer ⟨hp0, g, d, t, os⟩ H E) [] (L2.start N vs) H ⟨h2.push (PySem.W.kxs_mw "ValueError.__init__" x), g, d, tk + 1, os⟩ := I2.kept (t' := tk + 1) fun b o e => Heap.get?_push_of_some _ e
  have hu : (h2.push (PySem.W.kxs_mw "ValueError.__init__" x)).get? h2.objs.size = some (PySem.W.kxs_mw "ValueError.__init__" x) := Heap.get?_push_at rfl rfl
  obtain ⟨t3, ho3⟩ := exo_at I3.hok hx
  have kin3 : K.In (h2.push (PySem.W.kxs_mw "ValueError.__init__" x)) := I3.kIn
  show wpAny _ _ (callWith pos (.ref h2.objs.size) [] _ []) _ _ _
  refine PySem.W.kxs_callWith (i := "ValueError.__init__") (x := x) rfl ?_
  have hst : backTo pos (starEach [Expr.Constant (.str txt) j p3] (PySem.W.ksEnv qual scope hp0.objs.size f (.ref cda) cc)) = [(false, eval (.Constant (.str txt) j p3) (PySem.W.ksEnv qual scope hp0.objs.size f (.ref cda) cc))] := by rfl
  rw [hst]
  refine Calls.evalArgs_plain (Calls.spliced_cons (Calls.Constant_str (Calls.spliced_nil ?_)))
  refine ⟨hu, ?_⟩
  show wpAny _ _ (call (.ref h2.objs.size) [_]) _ _ _
  refine bound_init PySem.F.excBase_ValueError (kin3 _ _ hC) hu ho3 (by show 1 ≤ sizeLine; rw [sizeLine_eq]; decide) fun h4 t4 k4 e4 => hq _ ?_
  have J := I3.write (t' := tk + 1 + 1) (x := x) (e := x) (o := exo x C none) (by rw [hx]; exact True.intro) (.inl rfl) k4 ⟨_, e4⟩ (exo_ok e4)
  have eu : upd H x (exo x C none) = H := by
    funext b
    by_cases hb : b = x
    · rw [hb, upd_same, hx]
    · rw [upd_ne hb]
  rw [eu] at J
  exact J

/-- THE RULE: an __init__ whose body is super().__init__(text), then rest -/
theorem fn_sup {k : Nat} {params : Arguments} {rest : List Stmt} {p0 p1 p2 p3 pos pos2 : Pos} {j : _} {txt : Str} {dV kV doc pm ct oc : Value} {an od : Option Addr} {osl : Array (Option Value)} {ar : Arg} {sp : Sp}
    (S : SupScope N ps scope) (T : SupC P K C cda cc)
    (lk : K.lookup f = some ⟨oc, od, .func (PySem.W.ksFn "__init__" qual params (.Expr (.Call (.Attribute (.Call (.Name "super" p0) [] [] p1) "__init__" p2) [.Constant (.str txt) j p3] [] pos) pos2 :: rest) scope dV kV doc pm an (.ref cda) ct cc), osl⟩)
    (hcd : PySem.W.codeIn K (.ref cda) qual = true) (hp : (params.posonlyargs ++ params.args).head? = some ar) (hps : ps.head? = some ar.arg) (hms : mg "super" = none)
    (len : ∀ vs H Q E, sp vs H Q E → vs.length = ps.length)
    (hself : ∀ vs H Q E, sp vs H Q E → ∃ x ws, vs = .ref x :: ws ∧ H x = some (exo x C none)) {pl : Sem Bool}
    (he : ∀ env : Env, env.scope = scope → eval (.Call (.Attribute (.Call (.Name "super" p0) [] [] p1) "__init__" p2) [.Constant (.str txt) j p3] [] pos) env = (do
      let ov ← attributeBase (.Call (.Name "super" p0) [] [] p1) "__init__" env (eval (.Call (.Name "super" p0) [] [] p1) env)
      standAt p2.atName
      let (g, first) ← holding [ov] (getMethod ov "__init__" pl)
      callWith pos g first (backTo pos (starEach [.Constant (.str txt) j p3] env)) []))
    (hi : ∀ env : Env, env.scope = scope → interactive env = false)
    (hs : ∀ env : Env, env.scope = scope → swapsWith (.Call (.Attribute (.Call (.Name "super" p0) [] [] p1) "__init__" p2) [.Constant (.str txt) j p3] [] pos) none pos2.line env = pure false)
    (hbody : ∀ (A : Around) (outer : List Env) (s : Shared) (H : Hp) (vs : List V) (Q : VK) (E : XK), Room k (A.deeper (PySem.W.ksEnv qual scope s.heap.objs.size f (.ref cda) cc)) → sp vs H Q E →
      ∃ t, PSs (cxSup CX P w K mg base N qual scope f cda cc A outer s H E) rest t ∧ t { nx := fun _ H' => Q .non H', rt := Q } (L2.start N vs) H) :
    FnOk P w K mg base CX (k + 1) f (PySem.W.ksFn "__init__" qual params (.Expr (.Call (.Attribute (.Call (.Name "super" p0) [] [] p1) "__init__" p2) [.Constant (.str txt) j p3] [] pos) pos2 :: rest) scope dV kV doc pm an (.ref cda) ct cc) ps sp := by
  refine ⟨len, fun A outer s H args us vs Q E hr e0 hb r hsp => ?_⟩
  have hl := len _ _ _ _ hsp
  obtain ⟨x, ws, evs, hx⟩ := hself _ _ _ _ hsp
  have KX : K.In s.heap := e0.mod.kin.keeps fun b o e => (e0.bs b o e).1
  have lim : s.heap.NoLimit := e0.mod.nolimit.keeps fun b o e => (e0.bs b o e).1
  have hus : us.head? = some (.ref x) := by
    subst evs
    cases r with
    | cons rv _ =>
      obtain rfl := rv
      rfl
  refine ks_codeAny_call_defAt hr.depth (KX _ _ lk) rfl lim (PySem.W.codeRec_of KX hcd) rfl hb S.nocell (fun y hy => S.par _ (List.of_mem_zip hy).1) (fun h1 hn hk => ?_) S.co S.gen S.kind
  refine ks_wpAt_execs_cons ?_
  refine sup_stmt (CX := CX) (E := E) (vs := vs) (us := us) (mg := mg) (base := base) (H := H) S T lk hp hps hus hms e0 hr.hd hl r hx hn hk (fun s1 I => ?_) he hi hs
  obtain ⟨t, ht, hq⟩ := hbody A outer s H vs Q E (hr.deeper _) hsp
  refine wpAt_of_wpAny (wpAny_mono (ht.run [] s1 (L2.start N vs) H _ I hq) (fun fl s' hs => ?_) fun e s' hs => hs)
  have fin : ∀ {σ' : L2.St} {H' : Hp} {v : V} {u : Value}, Inv (cxSup CX P w K mg base N qual scope f cda cc A outer s H E) [] σ' H' s' → RelV v u → Q v H' → CE outer P w H s Q u s' :=
    fun {σ' H' v u} J rv q => ⟨v, H', J.os, J.bare, J.base, J.hok, rv, q⟩
  cases fl with
  | ret u =>
    obtain ⟨v, σ', H', J, rv, q⟩ := hs
    exact fin J rv q
  | next =>
    obtain ⟨σ', H', J, q⟩ := hs
    exact fin (v := V.non) (u := Value.none) J rfl q
  | brk =>
    obtain ⟨_, _, _, q⟩ := hs
    exact False.elim q
  | cont =>
    obtain ⟨_, _, _, q⟩ := hs
    exact False.elim q
end
end Nd
/-! Raising an own error with a clean reading; several clauses «except X as e»; isinstance of the caught error. -/
namespace Nd
open PySem PySem.Spec PyProof.Rows L2

/-! ### a reading closed upwards -/
def cloA (ta : TA) : TA := fun σ H Q => ∃ R : List V → Hp → Prop, ta σ H R ∧ ∀ vs H1, R vs H1 → Q vs H1
theorem pa_clo {X : Cx} {es : List Expr} {ta : TA} (h : PA X es ta) : PA X es (cloA ta) := ⟨fun pos pins s σ H Q I ⟨R, hr, hq⟩ =>
  thn (h.run pos pins s σ H R I hr) fun us s1 ⟨vs, H1, I1, r, q⟩ => ⟨vs, H1, I1, r, hq vs H1 q⟩⟩

/-! ### the heap behind C(..) -/
theorem heap_made {H : Hp} {a d : Addr} {C : Addr} {o1 o2 o3 o4 : HO} (ha : H a = none) : upd (del (upd (upd (upd H a o1) d o2) a o3) a) d o4 = upd H d o4 := by
  funext b
  by_cases hb : b = d
  · rw [hb, upd_same, upd_same]
  · rw [upd_ne hb, upd_ne hb]
    by_cases hba : b = a
    · rw [hba, del_same, ha]
    · rw [del_ne hba, upd_ne hba, upd_ne hb, upd_ne hba]

/-- the promise of an __init__ that stores its parameters, each in a field: fs vs says which -/
def spIni (C : Addr) (fs : List V → Option (List (Str × V))) : Sp := fun vs H Q _ => ∃ (x : Addr) (ws : List V) (fv : List (Str × V)), vs = .ref x :: ws ∧ fs ws = some fv ∧ H x = some (exo x C none) ∧
  ∀ d, H d = none → d ≠ x → Q .non (upd (upd H d (exd d fv)) x (exo x C (some d)))

/-- C(e, ..): the class, a new dict that holds the fields -/
def tMk (C : Addr) (fs : List V → Option (List (Str × V))) (ta : TA) : L2.St → Hp → XK → Prop := fun σ H Q => ta σ H fun vs H1 => vs.length ≤ 1000 ∧ ∃ fv, fs vs = some fv ∧ ∀ d, H1 d = none → Q (.ref C) (some d) (upd H1 d (.xd fv))

/-- what the text must say of an error class named x, at C, its __init__ at fI keeping spIni -/
structure ErrC (P : Program) (w : World) (K : PySem.W.Frag) (mg : Str → Option Value) (base : Heap) (k : Nat) (C fI : Addr) (fdI : FuncData) (psI : List Str) (fs : List V → Option (List (Str × V))) (x : Str) : Prop where
  ox : OexC K C
  iC : PySem.W.findIn K (.ref C) "__init__" = some (some (.ref fI))
  tI : PySem.W.typeIn K (.ref fI) = some (.type "function")
  fn : FnOk P w K mg base CX0 k fI fdI psI (spIni C fs)
  b : Binds K fdI psI []
  g : mg x = some (.ref C)

theorem pmk_err {X : Cx} {k : Nat} {C fI : Addr} {fdI : FuncData} {psI : List Str} {fs : List V → Option (List (Str × V))} {x : Str} {p pos : Pos} {e : Expr} {es : List Expr} {ta : TA} (T : ErrC X.prog X.w X.K X.mg X.base k C fI fdI psI fs x) (hr : Room (k + 1) X.A) (ha : PA X (e :: es) ta) (hg : Gl X x := by rfl)
    (hdb : (x == ("__debug__" : Str)) = false := by decide) (he : starEach (e :: es) X.env = (false, eval e X.env) :: starEach es X.env := by rfl) (hpl : (backTo pos (starEach es X.env)).any (·.1) = false := by rfl) :
    PMk X (.Call (.Name x p) (e :: es) [] pos) (tMk C fs ta) := by
  intro pins s σ H Q I h
  refine pmk_oex (dvs := []) (ds := []) T.ox T.iC T.tI T.fn hr T.b .nil pass0 hg T.g (pa_clo ha) hdb he hpl pins s σ H Q I ?_
  refine ⟨_, h, fun vs H1 q => ?_⟩
  obtain ⟨hl, fv, hf, q⟩ := q
  refine ⟨hl, fun a na => ⟨a, vs, fv, by rw [List.append_nil], hf, upd_same, fun d nd hda => ?_⟩⟩
  have nd1 : H1 d = none := by rw [upd_ne hda] at nd; exact nd
  refine ⟨rfl, d, fv, upd_same, ?_, nd1, ?_⟩
  · rw [upd_ne hda, upd_same]
  · rw [heap_made (C := C) na]
    exact q d nd1
/-- raise C(e, ..) -/
def tRais (C : Addr) (fs : List V → Option (List (Str × V))) (W : WX) (ta : TA) : TS := fun _ σ H => tMk C fs ta σ H fun cls d H' => W cls d σ H'
theorem ps_err {X : Cx} {k : Nat} {C fI : Addr} {fdI : FuncData} {psI : List Str} {fs : List V → Option (List (Str × V))} {x : Str} {p pos pos2 : Pos} {e : Expr} {es : List Expr} {ta : TA} {W : WX} (hc : X.calm = true) (T : ErrC X.prog X.w X.K X.mg X.base k C fI fdI psI fs x) (hr : Room (k + 1) X.A) (tk : Takes X W) (ha : PA X (e :: es) ta) (hg : Gl X x := by rfl)
    (hdb : (x == ("__debug__" : Str)) = false := by decide) (he : starEach (e :: es) X.env = (false, eval e X.env) :: starEach es X.env := by rfl) (hpl : (backTo pos (starEach es X.env)).any (·.1) = false := by rfl) :
    PS X (.Raise (some (.Call (.Name x p) (e :: es) [] pos)) none pos2) (tRais C fs W ta) := ps_raise hc tk (pmk_err T hr ha hg hdb he hpl)

/-! ### isinstance(e, ..), e the caught error -/
structure IsC (K : PySem.W.Frag) (C : Addr) : Prop where
  cl : (PySem.W.clsIn K C).isSome = true
  ga : PySem.W.findIn K (.ref C) "__getattribute__" = some (some (.builtin "BaseException.__getattribute__"))
  gt : PySem.W.findIn K (.ref C) "__getattr__" = some none
  sb : PySem.W.subIn K (.ref C) (.type "BaseException") = some true
  ca : PySem.W.findIn K (.ref C) "__class__" = some (some (.builtin "object.__class__"))
  cg : PySem.W.specialIn K (.builtin "object.__class__") "__get__" = some (some (.builtin "getset_descriptor.__get__"))
  ct : PySem.W.takesIn K (.builtin "object.__class__") = some true
  mo : PySem.W.mroIn K C (.type "object") = some true
/-- isinstance(e, c); e lies at a, its class cls, its dict d -/
def rIsX (K : PySem.W.Frag) (a : Addr) (cls : Value) (d : Option Addr) : List V → Hp → VK → Prop := fun xs H Q => ∃ (D : Addr) (dd : Addr) (fv : List (Str × V)) (c : V), xs = [.ref a, c] ∧ cls = .ref D ∧ IsC K D ∧ d = some dd ∧ H dd = some (.xd fv) ∧
  ((∃ (u : Value) (b : Bool), ClsV c u ∧ PySem.W.kitOne K (.ref D) u = some b ∧ Q (.bl b) H) ∨ (∃ (tp : Addr) (cs : List V) (us : List Value) (b : Bool), c = .ref tp ∧ H tp = some (.tup cs) ∧ Paired ClsV cs us ∧ PySem.W.kitAny K (.ref D) us = some b ∧ Q (.bl b) H))
theorem call_isX {X : Cx} {a : Addr} {cls : Value} {d : Option Addr} {oe : Obj} {pn : List (Addr × Obj)} (hz : Zc cls d oe) (hf : ∃ vs, oe.data = .fields vs) : CallR (X.suite a ((a, oe) :: pn)) (.builtin "isinstance") (rIsX X.K a cls d) := by
  intro pins s σ H xs us Q I r h
  obtain ⟨D, dd, fv, c, rfl, rfl, C, rfl, hd, q⟩ := h
  obtain ⟨u1, u2, rfl, r1, r2⟩ := vals2 r
  obtain rfl : u1 = Value.ref a := r1
  obtain ⟨hget, _⟩ := I.pin (a, oe) (List.mem_append.mpr (.inl List.mem_cons_self))
  obtain ⟨vs, hv⟩ := hf
  obtain ⟨mA, hns, _⟩ := (show ObjOk X.prog X.w H s.heap dd (.xd fv) from I.hok dd _ hd)
  obtain ⟨od, ho, _⟩ := lookIn_ns hns
  have J : PySem.W.InstAt s.heap a oe D (some od) := ⟨hget, hz.1, by unfold PySem.W.notCls; rw [hv] <;> rfl, by rw [hz.2]; exact ho⟩
  have Z := PySem.W.kitx_exc (x := a) (ox := oe) (od := some od) C.cl C.ga C.gt C.sb C.ca C.cg C.ct C.mo
  rcases q with ⟨u, b, k, e, q⟩ | ⟨tp, cs, ws, b, rfl, hT, k, e, q⟩
  · have e2 := k.eq r2
    subst e2
    exact PySem.W.kia_one Z I.kIn J e (fun z => nomatch z) fun tk => ⟨.bl b, H, I.tok tk, rfl, q⟩
  · cases (show u2 = Value.ref tp from r2)
    obtain ⟨_, its, rv, o, h1, h2, n, h3⟩ := (show ObjOk X.prog X.w H s.heap tp (.tup cs) from I.hok tp _ hT)
    have e3 := ClsV.all k rv
    subst e3
    obtain ⟨oc, od', dt, sl⟩ := o
    simp only at h2 h3
    subst h2 h3
    exact PySem.W.kia_tup Z I.kIn J h1 e (fun z => nomatch z) fun tk => ⟨.bl b, H, I.tok tk, rfl, q⟩
end Nd
/-! try: body, then several clauses «except X as n: suite». -/
namespace Nd
open PySem PySem.Spec PyProof.Rows L2

abbrev Cl := Nat × Value × (Addr → Value → Option Addr → TS)
/-- behind a suite the clause's slot is empty -/
abbrev Ends.gone (D : Ends) (i : Nat) : Ends := { nx := fun σ' H' => D.nx (σ'.set i none) H', rt := D.rt, bk := fun σ' H' => D.bk (σ'.set i none) H', ct := fun σ' H' => D.ct (σ'.set i none) H' }
/-- what the clauses wish of an error of the body, one after the other -/
def wMs (K : PySem.W.Frag) (Wout : WX) (D : Ends) : List Cl → WX
  | [] => Wout
  | (i, c, ts) :: r => fun cls d σ H => ∃ b, PySem.W.exmOne K cls c = some b ∧ (b = true → ∀ a, H a = none → ts a cls d (Ends.gone D i) (σ.set i (some (.ref a))) H) ∧ (b = false → wMs K Wout D r cls d σ H)
inductive HdAs (X : Cx) : List ExceptHandler → List Cl → Prop
  | nil : HdAs X [] []
  | cons {x n : Str} {i : Nat} {c : Value} {ts : Addr → Value → Option Addr → TS} {b₀ : Stmt} {suite : List Stmt} {np pos' : Pos} {hds : List ExceptHandler} {l : List Cl} (hi : X.N[i]? = some n) (hln : X.env.kindOf n = some .local) (hc : Names X x c)
      (hsu : ∀ (a : Addr) (oe : Obj) (cls : Value) (d : Option Addr) (pn : List (Addr × Obj)), Zc cls d oe → (∃ vs, oe.data = .fields vs) → PSs (X.suite a ((a, oe) :: pn)) (b₀ :: suite) (ts a cls d)) (r : HdAs X hds l) :
      HdAs X (.ExceptHandler (some (.Name x np)) (some n) (b₀ :: suite) pos' :: hds) ((i, c, ts) :: l)

section
variable {X : Cx} {body : List Stmt} {h₀ : ExceptHandler} {hds : List ExceptHandler} {l : List Cl} {pos : Pos} {tb : WX → TS} {Wout : WX}

/-- an error at a that flies in h3; the state without it is sI -/
structure Caught (X : Cx) (pins : List (Addr × Obj)) (σ : L2.St) (H : Hp) (sI s' : Shared) (B h3 : Heap) (a : Addr) (cls : Value) (d : Option Addr) : Prop where
  J : Inv X pins σ H sI
  nb : ∀ b o, sI.heap.get? b = some o → b ∉ frs X.stack → B.get? b = some o
  up : sI.heap.UpToSlots s'.heap
  up3 : s'.heap.UpToSlots h3
  fl : HandSPX.FlyingZ B (X.env :: X.outer) a (Zc cls d) h3
  na : H a = none
  os : s'.os = sI.os
  ag : AllBare s'.gens
section
variable {pins : List (Addr × Obj)} {σ : L2.St} {H : Hp} {sI s' : Shared} {B h3 : Heap} {a : Addr} {cls : Value} {d : Option Addr} {D : Ends}
theorem Caught.inv (c : Caught X pins σ H sI s' B h3 a cls d) {h4 : Heap} (fl : HandSPX.FlyingZ B (X.env :: X.outer) a (Zc cls d) h4) (up : s'.heap.UpToSlots h4) : Inv X pins σ H { s' with heap := h4 } := c.J.landed c.nb fl.1 (c.up.trans up) c.os c.ag
theorem Caught.apart (c : Caught X pins σ H sI s' B h3 a cls d) (hf : X.env.frame = some X.env.locals) : a ≠ X.env.locals ∧ a ∉ X.fs := by
  obtain ⟨oe, vs, he, _, hd⟩ := c.fl.there
  have out : a ∉ frs (X.env :: X.outer) := fun hm => by
    obtain ⟨_, o, e, nf⟩ := c.fl.2.2.1.mem hm
    rw [he] at e
    cases e
    exact nf _ hd
  refine ⟨fun z => out (List.mem_filterMap.mpr ⟨X.env, List.mem_cons_self, by rw [hf, z]⟩), fun hm => ?_⟩
  obtain ⟨e, he', q⟩ := List.mem_filterMap.mp hm
  exact out (List.mem_filterMap.mpr ⟨e, List.mem_cons_of_mem _ he', q⟩)
/-- the clauses, asked one after the other -/
theorem clauses_run (ok : X.Ok) (hs : X.stack = X.env :: X.outer) (hf : X.env.frame = some X.env.locals) (hN : X.N.Nodup) (tk : Takes X Wout) (c : Caught X pins σ H sI s' B h3 a cls d) {hds : List ExceptHandler} {l : List Cl} (hh : HdAs X hds l) :
    wMs X.K Wout D l cls d σ H → wpAny (model X.prog X.w) X.A (handleBy (.ref a) X.env hds) (SP X pins D) X.xe { s' with heap := h3 } := by
  have J3 := c.inv c.fl c.up3
  obtain ⟨nL, nF⟩ := c.apart hf
  induction hh with
  | nil =>
    intro w
    obtain ⟨f1, f2, f3, oe, vs, T, oT, ts', he, hz, hd, h1, hr⟩ := id c.fl
    refine wpAny_handleBy_nil ?_
    unfold PySem.passOn
    refine wpAny_bind (wpAny_field he hd h1 ?_)
    rw [if_neg (show ¬ ((Value.ref T == Value.none) = true) from by simp)]
    have flown : wpAny (model X.prog X.w) X.A (setFlight (.ref a) X.env.frame) (fun _ s4 => wpAny (model X.prog X.w) X.A (throw (.ref a) : Sem Flow) (SP X pins D) X.xe s4) X.xe { s' with heap := h3 } := by
      rw [hf]
      exact HandSPX.setFlight_upZ c.fl fun h4 hh4 up4 => wpAny_throw (tk _ _ ⟨a, B, sI, pins, σ, H, cls, d, rfl, c.J, c.nb, (c.up.trans c.up3).trans up4, .inr (.inr (by rw [hs]; exact hh4)), c.na, c.os, c.ag, w⟩)
    first
      | exact wpAny_bind (wpAny_pure (wpAny_bind flown))
      | exact wpAny_bind flown
  | @cons x n i k ts b₀ suite np pos' hds2 l2 hi hln hc hsu r ih =>
    intro w
    obtain ⟨b, hb1, yes, no⟩ := w
    obtain ⟨oe3, vs3, he3, hz3, hd3⟩ := c.fl.there
    have S3 := J3.suite he3 hd3 c.na nL nF
    refine wpAny_handleBy_cons (codeAny_handlers_test ?_) (by intro q; cases q)
    have LT : PySem.W.Looks (model X.prog X.w) h3 (typeOf (.ref a)) cls := fun A Q E s k q => wpAny_typeOf_ref (k _ _ he3) (by rw [hz3.1]; exact q)
    have LM := PySem.W.exm_one (M := model X.prog X.w) (J3.kIn) LT hb1
    have name : ∀ {Q : Value → Shared → Prop} {E : Value → Shared → Prop}, Q k { s' with heap := h3 } → wpAny (model X.prog X.w) (X.A.mark (some (.ref a))) (eval (.Name x np) X.env) Q E { s' with heap := h3 } := fun {Q E} q => by
      obtain ⟨hg, hdbg, hm | ⟨hm, hv, hnn⟩⟩ := hc
      · exact ld_glob (X := X.suite a ((a, oe3) :: (X.pn ++ pins))) S3 hg hm q hdbg
      · exact ld_blt (X := X.suite a ((a, oe3) :: (X.pn ++ pins))) S3 hg hm hv q hnn hdbg
    refine name (LM.here ?_)
    cases b with
    | false =>
      show wpAny _ X.A (handleBy (.ref a) X.env hds2) _ _ _
      exact ih (no rfl)
    | true =>
      refine codeAny_handlers_suite_as ?_
      refine HandSPX.lands_againZ c.fl fun h4 fl4 up4 => ?_
      have J4 := c.inv fl4 (c.up3.trans up4)
      obtain ⟨oe4, vs4, he4, hz4, hd4⟩ := fl4.there
      have S4 := J4.suite he4 hd4 c.na nL nF
      refine store_ok (X := X.suite a ((a, oe4) :: (X.pn ++ pins))) (v := .ref a) S4 hN hi (.inl hln) rfl (fun s5 S5 => ?_) (.inr hln)
      refine wpAny_mono ((hsu a oe4 cls d (X.pn ++ pins) hz4 ⟨_, hd4⟩).run [] s5 _ H _ S5 (yes rfl a c.na)) (fun f s6 hsp => ?_) (fun _ _ z => False.elim z)
      have goes : ∀ {σ6 : L2.St} {H6 : Hp} {Q : Shared → Prop}, Inv (X.suite a ((a, oe4) :: (X.pn ++ pins))) [] σ6 H6 s6 → (∀ s7, Inv X pins (σ6.set i none) H6 s7 → Q s7) →
          wpAny (model X.prog X.w) X.A (do bindName X.env n .none; unbindBehindTheSuite X.env n pos') (fun _ s7 => Q s7) X.xe s6 := fun {σ6 H6 Q} S6 hq => gone_ok (S6.unsuite ok) hN hi hln hq
      cases f with
      | next => obtain ⟨σ6, H6, S6, q6⟩ := hsp; exact goes S6 fun s7 J7 => ⟨_, _, J7, q6⟩
      | brk => obtain ⟨σ6, H6, S6, q6⟩ := hsp; exact goes S6 fun s7 J7 => ⟨_, _, J7, q6⟩
      | cont => obtain ⟨σ6, H6, S6, q6⟩ := hsp; exact goes S6 fun s7 J7 => ⟨_, _, J7, q6⟩
      | ret u => obtain ⟨v6, σ6, H6, S6, r6, q6⟩ := hsp; exact goes S6 fun s7 J7 => ⟨_, _, _, J7, r6, q6⟩
end
theorem ps_try_ms (hs : X.stack = X.env :: X.outer) (hf : X.env.frame = some X.env.locals) (hN : X.N.Nodup) (tk : Takes X Wout)
    (hb : ∀ (W : WX) (pn : List (Addr × Obj)) (xe : Value → Shared → Prop), Takes (X.tr pn xe) W → PassesOwn (model X.prog X.w) X.A X.env xe → PSs (X.tr pn xe) body (tb W))
    (hh : HdAs X (h₀ :: hds) l) : PS X (.Try body (h₀ :: hds) [] [] pos) (fun D σ H => tb (wMs X.K Wout D l) D σ H) := by
  refine ⟨fun pins s σ H D I h => ?_⟩
  have ok := I.ok
  refine wpAny_Try_except ?_
  refine wpAny_mono ((hb (wMs X.K Wout D l) (X.pn ++ pins) (fun e s₁ => wpAny (model X.prog X.w) X.A (noteFrame e X.env) (fun _ s₂ => wpAny (model X.prog X.w) X.A (setFlight e none) (fun _ s₃ =>
    wpAny (model X.prog X.w) X.A (handleBy e X.env (h₀ :: hds)) (SP X pins D) X.xe s₃) X.xe s₂) X.xe s₁) (fun u s' xx => ?_) PassesOwn.looking).run [] s σ H D (I.toTry _) h) (fun f s1 hsp => ?_) (fun e s1 he => he)
  · obtain ⟨a, B, sI, pins', σ', H', cls, d, rfl, J', nb, up, sky, na, os, ag, w⟩ := xx
    have sky' : Sky B (X.env :: X.outer) a (Zc cls d) X.env.locals s'.heap := by rw [← hs]; exact sky
    show wpAny (model X.prog X.w) X.A (noteFrame (.ref a) X.env) _ _ _
    refine Sky.land Zc.steady (by rw [ok.frames, hs]) hf sky' fun h3 fl3 up3 => ?_
    exact clauses_run ok hs hf hN tk ⟨J'.ofTry ok, nb, up, up3, fl3, na, os, ag⟩ hh w
  · cases f with
    | next => obtain ⟨σ', H', J', q⟩ := hsp; exact wpAny_execs_nil ⟨σ', H', J'.ofTry ok, q⟩
    | brk => obtain ⟨σ', H', J', q⟩ := hsp; exact ⟨σ', H', J'.ofTry ok, q⟩
    | cont => obtain ⟨σ', H', J', q⟩ := hsp; exact ⟨σ', H', J'.ofTry ok, q⟩
    | ret u => obtain ⟨v, σ', H', J', r, q⟩ := hsp; exact ⟨v, σ', H', J'.ofTry ok, r, q⟩
end
end Nd
/-! Defs by name; defs that may be called anywhere (within an except suite too); lists or tuples walked. -/
namespace Nd
open PySem PySem.Spec PyProof.Rows L2

section
variable {P : Program} {w : World} {K : PySem.W.Frag} {mg : Str → Option Value} {base : Heap}

/-- the def x stands at the module's top with this body -/
structure DefAt (K : PySem.W.Frag) (mg : Str → Option Value) (x : Str) (st : Stmt) (ps : List Str) : Prop where
  ex : ∃ f fd, Fun K x x st f fd ∧ mg x = some (.ref f) ∧ Binds K fd ps []
/-- the def x keeps a promise -/
structure Has (P : Program) (w : World) (K : PySem.W.Frag) (mg : Str → Option Value) (base : Heap) (k : Nat) (x : Str) (ps : List Str) (sp : Sp) : Prop where
  ex : ∃ f fd, FnOk P w K mg base (L2.CX P w) k f fd ps sp ∧ mg x = some (.ref f) ∧ PySem.W.keepIn K (.ref f) = true ∧ Binds K fd ps []
theorem Has.imp {k : Nat} {x : Str} {ps : List Str} {sp sp' : Sp} (h : Has P w K mg base k x ps sp) (i : ∀ vs H Q E, sp' vs H Q E → sp vs H Q E) : Has P w K mg base k x ps sp' := by
  obtain ⟨f, fd, F, a, b, c⟩ := h.ex
  exact ⟨f, fd, F.imp i, a, b, c⟩
/-- by its body -/
theorem DefAt.has {x : Str} {st : Stmt} {N ps : List Str} {k : Nat} {sp : Sp} (D : DefAt K mg x st ps) (S : FnScope N ps (defScope st)) (len : ∀ vs H Q E, sp vs H Q E → vs.length = ps.length)
    (hbody : ∀ (f : Addr) (cdv : Value) (A : Around) (outer : List Env) (s : Shared) (H : Hp) (vs : List V) (Q : VK) (E : XK), Room k (A.deeper (envOfC x (defScope st) s.heap.objs.size f cdv)) → sp vs H Q E →
      ∃ t, PSs (cxOf (L2.CX P w) P w K mg base N x (defScope st) f cdv A outer s H E) (defBody st) t ∧ t { nx := fun _ H' => Q .non H', rt := Q } (L2.start N vs) H) : Has P w K mg base (k + 1) x ps sp := by
  obtain ⟨f, fd, F, hm, hb⟩ := D.ex
  exact ⟨f, fd, F.okX S len fun cdv A outer s H vs Q E hr h => hbody f cdv A outer s H vs Q E hr h, hm, F.kp, hb⟩

/-! ### room without a word on what is handled -/
structure RoomA (k : Nat) (A : Around) : Prop where
  dp : A.depth + 3 * k + 5 < recursionLimit
  un : A.units + 16 * k + 200 < cLine
theorem RoomA.of {k : Nat} {A : Around} (r : Room k A) : RoomA k A := ⟨r.dp, r.un⟩
theorem RoomA.mono {j k : Nat} {A : Around} (r : RoomA k A) (h : j ≤ k) : RoomA j A := ⟨by have := r.dp; omega, by have := r.un; omega⟩
theorem RoomA.deeper {k : Nat} {A : Around} (r : RoomA (k + 1) A) (env : Env) : RoomA k (A.deeper env) :=
  ⟨by have := r.dp; show A.depth + 1 + 3 * k + 5 < _; omega, by have := r.un; show A.units + 3 + 16 * k + 200 < _; omega⟩
theorem RoomA.depth {k : Nat} {A : Around} (r : RoomA k A) : A.depth < recursionLimit := by have := r.dp; omega
theorem RoomA.units {k : Nat} {A : Around} (r : RoomA k A) : A.units + 64 < cLine := by have := r.un; omega
/-- in an except suite there is the same room -/
theorem RoomA.suite {k : Nat} {A : Around} (r : Room k A) (v : Option Value) : RoomA k (A.mark v) := ⟨r.dp, r.un⟩

/-- a def that raises nothing, called anywhere -/
structure FnA (P : Program) (w : World) (K : PySem.W.Frag) (mg : Str → Option Value) (base : Heap) (k : Nat) (f : Addr) (fd : FuncData) (ps : List Str) (sp : Sp) : Prop where
  len : ∀ vs H Q E, sp vs H Q E → vs.length = ps.length
  run : ∀ (A : Around) (outer : List Env) (s : Shared) (H : Hp) (args : Args) (us : List Value) (vs : List V) (Q : VK) (E : XK), RoomA k A → Env0 P w K mg base A outer s H → BindsTo s fd args (ps.zip us) → Vals vs us → sp vs H Q E →
    codeAny (model P w) A (.call (.ref f) args) (CR CX0 outer P w H s Q E) s
structure HasA (P : Program) (w : World) (K : PySem.W.Frag) (mg : Str → Option Value) (base : Heap) (k : Nat) (x : Str) (ps : List Str) (sp : Sp) : Prop where
  ex : ∃ f fd, FnA P w K mg base k f fd ps sp ∧ mg x = some (.ref f) ∧ PySem.W.keepIn K (.ref f) = true ∧ Binds K fd ps []
theorem HasA.has {k : Nat} {x : Str} {ps : List Str} {sp : Sp} (h : HasA P w K mg base k x ps sp) : Has P w K mg base k x ps sp := by
  obtain ⟨f, fd, F, a, b, c⟩ := h.ex
  refine ⟨f, fd, ⟨F.len, fun A outer s H args us vs Q E hr he hb hv hs => codeAny_mono (F.run A outer s H args us vs Q E (.of hr) he hb hv hs) fun r s' q => ?_⟩, a, b, c⟩
  cases r with
  | error e => exact False.elim q
  | ok fl => cases fl <;> exact q
/-- the context of its body -/
def cxA (P : Program) (w : World) (K : PySem.W.Frag) (mg : Str → Option Value) (base : Heap) (N : List Str) (qual : Str) (scope : Scope) (f : Addr) (cd : Value) (A : Around) (outer : List Env) (s : Shared) (H : Hp) : Cx :=
  { cxOf CX0 P w K mg base N qual scope f cd A outer s H (fun _ _ _ => False) with calm := false, xe := fun _ _ => False }
theorem inv_A {N ps : List Str} {qual : Str} {scope : Scope} {f : Addr} {cd : Value} {A : Around} {outer : List Env} {s s1 : Shared} {H : Hp} {us : List Value} {vs : List V}
    (S : FnScope N ps scope) (e0 : Env0 P w K mg base A outer s H) (hl : vs.length = ps.length) (r : Vals vs us)
    (x : InCallC s s.heap.objs.size (bindL (envOfC qual scope s.heap.objs.size f cd).kindOf (ps.zip us) fun _ => none) (cellsFrom (s.heap.objs.size + 1) scope.names []) (bindC (envOfC qual scope s.heap.objs.size f cd).kindOf (ps.zip us) fun _ => none) s1) :
    Inv (cxA P w K mg base N qual scope f cd A outer s H) [] (L2.start N vs) H s1 := by
  have e1 : Env0 P w K mg base { A with handled := none } outer s H := ⟨e0.frames, e0.mod, e0.bs, e0.bsz, e0.funs, e0.frf, e0.hok, e0.bare⟩
  have I := inv_start (CX := CX0) (E := fun _ _ _ => False) (f := f) (cd := cd) (qual := qual) (A := { A with handled := none }) S rfl e1 hl r x
  have ok := I.ok
  exact ⟨⟨ok.mod, ok.kind, ok.glob, ok.blt, ok.above, ok.inj, ok.has, ok.cab, (fun z => Bool.noConfusion (show false = true from z)), Around.frames_deeper e0.frames, ok.stk, ok.exf, ok.bs, ok.bsz, ok.noex, ok.exfs, ok.funs, ok.frf⟩,
    I.os, I.bare, I.base, I.loc, I.cell, I.free, I.freeC, I.pin, I.hok, I.len⟩
theorem DefAt.hasA {x : Str} {st : Stmt} {N ps : List Str} {k : Nat} {sp : Sp} (D : DefAt K mg x st ps) (S : FnScope N ps (defScope st)) (len : ∀ vs H Q E, sp vs H Q E → vs.length = ps.length)
    (hbody : ∀ (f : Addr) (cdv : Value) (A : Around) (outer : List Env) (s : Shared) (H : Hp) (vs : List V) (Q : VK) (E : XK), RoomA k (A.deeper (envOfC x (defScope st) s.heap.objs.size f cdv)) → sp vs H Q E →
      ∃ t, PSs (cxA P w K mg base N x (defScope st) f cdv A outer s H) (defBody st) t ∧ t { nx := fun _ H' => Q .non H', rt := Q } (L2.start N vs) H) : HasA P w K mg base (k + 1) x ps sp := by
  obtain ⟨f, fd, F, hm, hb⟩ := D.ex
  obtain ⟨oc, od, kV, doc, pm, an, cdv, ct, osl, rfl, lk, hcd⟩ := F.ex
  refine ⟨f, _, ⟨len, fun A outer s H args us vs Q E hr e0 hb r hsp => ?_⟩, hm, F.kp, hb⟩
  have hl := len _ _ _ _ hsp
  have KX : K.In s.heap := e0.mod.kin.keeps fun b o e => (e0.bs b o e).1
  have lim : s.heap.NoLimit := e0.mod.nolimit.keeps fun b o e => (e0.bs b o e).1
  have hkind : ∀ y ∈ ps.zip us, (defScope st).names.lookup y.1 = some .local ∨ ((defScope st).names.lookup y.1 = some .cell ∧ ((cellsFrom (s.heap.objs.size + 1) (defScope st).names []).lookup y.1).isSome = true) := fun ⟨n, v⟩ hy => by
    rcases S.par n (List.of_mem_zip hy).1 with q | q
    · exact .inl q
    · exact .inr ⟨q, PySem.W.cellsFrom_some _ _ _ (.inl q)⟩
  refine codeAny_call_function hr.depth (KX _ _ lk) rfl S.co S.gen rfl (PySem.W.codeRec_of KX hcd) (hb _ _ _ _ ?_)
  refine wpAny_newFunctionEnv_cells S.kind hkind fun env he s1 y => ?_
  subst he
  refine ⟨lim.keeps y.toInCall.keep, codeAny_func ?_⟩
  obtain ⟨t, ht, hq⟩ := hbody f cdv A outer s H vs Q E (hr.deeper _) hsp
  refine wpAny_mono (ht.run [] s1 (L2.start N vs) H _ (inv_A S e0 hl r y) hq) (fun fl s' hs => ?_) fun e s' hs => False.elim hs
  have fin : ∀ {σ' : L2.St} {H' : Hp} {v : V} {u : Value}, Inv (cxA P w K mg base N x (defScope st) f cdv A outer s H) [] σ' H' s' → RelV v u → Q v H' → CE outer P w H s Q u s' :=
    fun {σ' H' v u} J rv q => ⟨v, H', J.os, J.bare, J.base, J.hok, rv, q⟩
  cases fl with
  | ret u => obtain ⟨v, σ', H', J, rv, q⟩ := hs; exact fin J rv q
  | next => obtain ⟨σ', H', J, q⟩ := hs; exact fin (v := V.non) (u := Value.none) J rfl q
  | brk => obtain ⟨_, _, _, q⟩ := hs; exact False.elim q
  | cont => obtain ⟨_, _, _, q⟩ := hs; exact False.elim q
end

/-! ### calls -/
section
variable {X : Cx} {k : Nat} {ps : List Str} {sp : Sp} {W : WX} {x : Str} {p pos : Pos} {e : Expr} {es : List Expr} {ta : TA}
theorem pe_hasR (G : Has X.prog X.w X.K X.mg X.base k x ps sp) (hr : Room k X.A) (tk : Takes X W) (ha : PA X (e :: es) ta) (hg : Gl X x := by rfl) (hdb : (x == ("__debug__" : Str)) = false := by decide)
    (he : starEach (e :: es) X.env = (false, eval e X.env) :: starEach es X.env := by rfl) (hpl : (backTo pos (starEach es X.env)).any (·.1) = false := by rfl) : PE X (.Call (.Name x p) (e :: es) [] pos) (tCallS sp (WE W) ta) := by
  obtain ⟨f, fd, F, hm, hk, hb⟩ := G.ex
  exact pe_callS F hr hg hm hk hb (fun σ => passAt tk σ) ha hdb he hpl
theorem pe_hasN (G : Has X.prog X.w X.K X.mg X.base k x ps sp) (hr : Room k X.A) (ha : PA X (e :: es) ta) (hg : Gl X x := by rfl) (hdb : (x == ("__debug__" : Str)) = false := by decide)
    (he : starEach (e :: es) X.env = (false, eval e X.env) :: starEach es X.env := by rfl) (hpl : (backTo pos (starEach es X.env)).any (·.1) = false := by rfl) : PE X (.Call (.Name x p) (e :: es) [] pos) (tCallS sp (fun _ => E0) ta) := by
  obtain ⟨f, fd, F, hm, hk, hb⟩ := G.ex
  exact pe_callS F hr hg hm hk hb (fun σ pins H s e' s' I c => passL pins σ H s e' s' I c) ha hdb he hpl
theorem pe_hasA (G : HasA X.prog X.w X.K X.mg X.base k x ps sp) (hr : RoomA k X.A) (ha : PA X (e :: es) ta) (hg : Gl X x := by rfl) (hdb : (x == ("__debug__" : Str)) = false := by decide)
    (he : starEach (e :: es) X.env = (false, eval e X.env) :: starEach es X.env := by rfl) (hpl : (backTo pos (starEach es X.env)).any (·.1) = false := by rfl) : PE X (.Call (.Name x p) (e :: es) [] pos) (tCallS sp (fun _ => E0) ta) := by
  obtain ⟨f, fd, F, hm, hk, hb⟩ := G.ex
  refine ⟨fun pins s σ H Q I h => ?_⟩
  refine wpAny_Call_Name_kw (ld_glob I hg hm ?_ hdb)
  refine PySem.W.callWith_K (h₀ := X.base) I.ok.mod.kin hk (thn (ha.run pos pins s σ H _ I h) fun us s1 ⟨vs, H1, I1, r, q⟩ => ⟨I1.kIn, ?_⟩) he hpl
  have hl : us.length = ps.length := by rw [← r.length]; exact F.len _ _ _ _ q
  have b := hb s1 us I1.kIn (by rw [List.append_nil]; exact hl)
  rw [List.append_nil] at b
  refine wpAny_call (codeAny_mono (F.run X.A X.stack s1 H1 ⟨us, []⟩ us vs Q E0 hr I1.env0 b r q) fun r s' hq => ?_)
  cases r with
  | error e => exact False.elim hq
  | ok fl =>
    cases fl with
    | ret u => exact I1.after hq
    | next => exact False.elim hq
    | brk => exact False.elim hq
    | cont => exact False.elim hq
end

/-! ### a list or a tuple, walked -/
def SqS (K : PySem.W.Frag) (H : Hp) (a : Addr) (xs : List V) : Prop := SqL K H a xs ∨ SqT K H a xs
def iSeq (K : PySem.W.Frag) (tl : TE) : TI := fun σ H R => tl σ H fun x H1 => ∃ a xs, x = .ref a ∧ ((SqL K H1 a xs ∧ R (Itl K a) H1) ∨ (SqT K H1 a xs ∧ R (Itt K a) H1))
theorem pi_seq {X : Cx} {tg l : Expr} {tl : TE} (hl : PE X l tl) : PI X tg l (iSeq X.K tl) := by
  refine ⟨fun pins s σ H R I h => ?_⟩
  refine thn (hl.run pins s σ H _ I h) fun v s1 ⟨x, H1, I1, r1, a, xs, ex, q⟩ => ?_
  subst ex
  cases r1
  have new : ∀ {b : Addr}, b ∈ [s1.heap.objs.size] → b = s1.heap.objs.size := fun {b} hb => by simpa using hb
  have fp : ∀ b ∈ [s1.heap.objs.size], FpOk X pins H1 b := fun b hb => by
    rw [new hb]
    exact I1.fpOk (Nat.le_refl _) (I1.hok.fresh (Nat.le_refl _))
  have kept : ∀ o, Inv X pins σ H1 { s1 with heap := s1.heap.push o } := fun o => I1.kept (t' := s1.toks) fun b u e => Heap.get?_push_of_some _ e
  rcases q with ⟨hq, q⟩ | ⟨hq, q⟩
  · obtain ⟨its, rv, p, hz⟩ := I1.list hq
    exact wpAny_pyIter_list p.isList ⟨_, _, _, _, H1, rfl, kept _, turn_list a _, ⟨_, Heap.get?_push_size _ rfl, rfl, rfl⟩, fp, q⟩
  · obtain ⟨its, rv, p, hz⟩ := I1.tuple hq
    exact wpAny_pyIter_tuple (show s1.heap.IsTuple a its.toArray from p) ⟨_, _, _, _, H1, rfl, kept _, turn_tuple a _, ⟨_, Heap.get?_push_size _ rfl, rfl, rfl⟩, fp, q⟩
end Nd
namespace Nd
open PySem PySem.Spec PyProof.Rows L2
/-! ### set(xs) of a list of ints, told exactly -/
section
variable {P : Program} {w : World} {A : Around} {E : Value → Shared → Prop} {s : Shared}
abbrev freshSet (w : World) : Obj := { cls := .type "set", dict := none, data := .set #[] 0 (.fresh 0 0 (!w.params.followText "set-order")) }
theorem call_set_lstI {l : Addr} {items : Array Value} (ns : List Int) {Q : Value → Shared → Prop} (hh : A.handled = none) (hl : s.heap.IsList l items) (hit : IntsAre items.toList ns) (hb : ns.length + 1 < scanBound)
    (h : ∀ (h' : Heap) (tk c : Nat), SetR w h' s.heap.objs.size (fun j => decide (j ∈ ns)) c → c ≤ ns.length → (∀ b o, s.heap.get? b = some o → h'.get? b = some o) → Q (.ref s.heap.objs.size) { s with heap := h', toks := tk }) :
    wpAny (model P w) A (call (.type "set") [.ref l]) Q E s := by
  have size : items.size = ns.length := by
    have q := IntsAre.length hit
    rwa [Array.length_toList] at q
  obtain ⟨c, tl, hmro⟩ := F.called_set.mro
  have c1 := F.called_set.made
  have c2 := F.called_set.sub
  have c3 := F.called_set.notType
  have c4 := F.called_set.canCreate
  have c5 := F.typeCall_set_1 (.ref l)
  refine wpAny_call (codeAny_of_tree ?_)
  show wpAny _ _ (callAny (.type "set") _) _ _ _
  refine wpAny_pure ⟨Code.quiet_builtin _ (by decide +kernel), codeAny_builtin F.entry_type_call ?_⟩
  rw [Around.under_plain (weight_type_call_type "set" [.ref l] []) rfl]
  repeat (any_goals (first | assumption | wp_step))
  -- the empty set, made
  refine codeAny_mono (code_set_led1 (.ref l) (E := E) (Q₁ := fun obj s₁ => obj = .ref s.heap.objs.size ∧ s₁ = { s with heap := s.heap.push (freshSet w) }) ⟨rfl, rfl⟩) fun r s₁ hr => ?_
  rcases r with e | fl
  · exact hr
  cases fl with
  | ret obj =>
    obtain ⟨rfl, rfl⟩ := hr
    have hS : (s.heap.push (freshSet w)).get? s.heap.objs.size = some (freshSet w) := Heap.get?_push_size _ rfl
    have hT : Shared.TypeIs { s with heap := s.heap.push (freshSet w) } (.ref s.heap.objs.size) "set" := ⟨_, hS, rfl⟩
    have i1 := F.called_set.init.lookup
    have i2 := F.called_set.init.bind (.ref s.heap.objs.size)
    repeat (any_goals (first | assumption | wp_step))
    -- filled
    refine codeAny_mono (codeAny_call_builtin (R := wants (fun r s₂ => r = .none ∧ ∃ h' tk c, s₂ = { s with heap := h', toks := tk } ∧ SetR w h' s.heap.objs.size (fun j => decide (j ∈ ns)) c ∧ c ≤ ns.length ∧
        (∀ b o, s.heap.get? b = some o → h'.get? b = some o)) E) F.called_set.init.plain F.entry_set_init (check_set_init_1 hT ?_)) fun r₂ s₂ hr₂ => ?_
    · obtain ⟨⟨lc, ld, lt, ls⟩, hol, hcl, nl, hdl⟩ := hl
      simp only at hcl hdl
      subst hcl; subst hdl
      have hol' : (s.heap.push (freshSet w)).get? l = some { cls := .type "list", dict := ld, data := .seq items nl, slots := ls } := Heap.get?_push_of_some _ hol
      have b1 := F.sub_list_set
      have b2 := F.sub_list_frozenset
      have b3 : (Value.type "list" == Value.type "dict") = false := by decide
      have lst : (s.heap.push (freshSet w)).IsList l items := ⟨_, hol', rfl, nl, rfl⟩
      unfold Builtin.«set.__init__» noKeywords Builtin.Frozenset.updateFrom
      generalize hPI : pyIter = PI
      wp_walk
      subst hPI
      refine wpAny_pyIter_list lst ?_
      refine wpAny_bind (wpAny_runValue ?_)
      have lt : l < s.heap.objs.size := Heap.lt_size hol
      have zs : (s.heap.push (freshSet w)).objs.size = s.heap.objs.size + 1 := Heap.size_push ..
      have cool : A.in1.in1.in1.handled = none := by simp [hh]
      have apart : l ≠ (s.heap.push (freshSet w)).objs.size := by
        rw [zs]
        exact Nat.ne_of_lt (Nat.lt_succ_of_lt lt)
      have out : s.heap.objs.size ∉ [(s.heap.push (freshSet w)).objs.size, l] := by
        rw [zs]; simp only [List.mem_cons, List.not_mem_nil, or_false, not_or]
        exact ⟨Nat.ne_of_lt (Nat.lt_succ_self _), Nat.ne_of_gt lt⟩
      have vals : ∀ (i : Nat) (v : Value), items[i]? = some v → ∃ k t, ns[i]? = some k ∧ v = .int k t := fun i v hv => by
        have hi : i < ns.length := by rw [← size]; exact (Array.getElem?_eq_some_iff.mp hv).1
        obtain ⟨t, e⟩ := PyProof.Rows.IntsAre.int_at hit i v (by rw [Array.getElem?_toList]; exact hv)
        refine ⟨ns[i], t, List.getElem?_eq_getElem hi, ?_⟩
        rw [e, List.getD_eq_getElem?_getD, List.getElem?_eq_getElem hi] <;> rfl
      refine set_update_ints ((Walks.list cool _ l apart items).toS) s.heap.objs.size out ns size hb vals (items.size - 0) 0 _ (by omega) (Nat.zero_le _) ⟨⟨_, Heap.get?_push_size _ rfl, rfl, rfl⟩, (lst.push _)⟩ ?S0 ?SR
      case S0 => exact ⟨0, Nat.le_refl 0, setR_new_at (Heap.get?_push_of_some _ hS)⟩
      case SR =>
        intro s' c' hm hc' hS'
        obtain ⟨h', g2, d', tk', os'⟩ := s'
        have eg : g2 = s.gens := hm.gens
        have ed : d' = s.drawn := hm.drawn
        have eo : os' = s.os := hm.os
        subst eg; subst ed; subst eo
        show wpAny _ _ _ _ _ _
        refine wpAny_pure ?_
        show wpAny _ _ (ret Value.none) _ _ _
        rw [size] at hc'
        refine wpAny_pure ⟨rfl, h', tk', c', rfl, hS', hc', fun b o e => ?_⟩
        have b0 : b < s.heap.objs.size := Heap.lt_size e
        refine hm.heap b o ?_ (Heap.get?_push_of_some _ (Heap.get?_push_of_some _ e))
        rw [zs]
        simp only [List.mem_cons, List.not_mem_nil, or_false, not_or]
        exact ⟨Nat.ne_of_lt b0, Nat.ne_of_lt (Nat.lt_succ_of_lt b0)⟩
    · rcases r₂ with e | fl₂
      · exact hr₂
      cases fl₂ with
      | ret r =>
        obtain ⟨rfl, h', tk, c', rfl, hS', hc', hk'⟩ := hr₂
        repeat (any_goals (first | assumption | wp_step))
        exact h _ _ _ hS' hc' hk'
      | _ => exact hr₂.elim
  | _ => exact hr.elim
end
end Nd
namespace Nd
open PySem PySem.Spec PyProof.Rows L2
/-! ### set(xs), xs a list or tuple of ints -/
def rSetI (K : PySem.W.Frag) (w : World) : List V → Hp → VK → Prop := fun xs H Q => ∃ (a : Addr) (ns : List Int), xs = [.ref a] ∧ SqS K H a (ns.map V.int) ∧ ns.length + 1 < scanBound ∧
  ∀ p c, H p = none → c ≤ ns.length → Q (.ref p) (upd H p (SetO w p (fun j => decide (j ∈ ns)) c))
theorem cr_setL {X : Cx} (hc : X.calm = true) : CallR X (.type "set") (rSetI X.K X.w) := by
  intro pins s σ H xs us Q I r h
  obtain ⟨a, ns, rfl, hq, hb, q⟩ := h
  rw [Vals.ref1 r]
  have fin : ∀ (h' : Heap) (tk c : Nat), SetR X.w h' s.heap.objs.size (fun j => decide (j ∈ ns)) c → c ≤ ns.length → (∀ b o, s.heap.get? b = some o → h'.get? b = some o) → EP X pins σ Q (.ref s.heap.objs.size) { s with heap := h', toks := tk } := fun h' tk c R hle k =>
    ⟨.ref s.heap.objs.size, upd H s.heap.objs.size (SetO X.w s.heap.objs.size (fun j => decide (j ∈ ns)) c), I.laid k (Nat.le_refl _) (setO_new R), rfl, q _ c (I.hok.fresh (Nat.le_refl _)) hle⟩
  rcases hq with hq | hq
  · obtain ⟨its, rv, p, hz⟩ := I.list hq
    exact call_set_lstI ns (I.ok.hd hc) p.isList (by simpa using Vals.ints rv) hb fin
  · obtain ⟨its, rv, p, hz⟩ := I.tuple hq
    exact call_set_tupI ns (I.ok.hd hc) (show s.heap.IsTuple a its.toArray from p) (by simpa using Vals.ints rv) hb fin

/-! ### (i, ns) <= (j, ms), ns and ms tuples of ints -/
def lexLe : List Int → List Int → Bool
  | [], _ => true
  | _ :: _, [] => false
  | x :: xs, y :: ys => if x = y then lexLe xs ys else decide (x ≤ y)
theorem lexAt_is : ∀ (ns ms : List Int) (pre : Nat) (e r : Nat → Bool), (∀ j, e (pre + j) = decide (ns.getD j 0 = ms.getD j 0)) → (∀ j, r (pre + j) = decide (ns.getD j 0 ≤ ms.getD j 0)) →
    Ob.lexAt e r (decide (ns.length ≤ ms.length)) pre (min ns.length ms.length) = lexLe ns ms
  | [], ms, pre, e, r, _, _ => by
    rw [show min ([] : List Int).length ms.length = 0 by simp, Ob.lexAt_zero]
    simp [lexLe]
  | _ :: _, [], pre, e, r, _, _ => by
    rw [show ∀ (x : Int) l, min (x :: l).length ([] : List Int).length = 0 by simp, Ob.lexAt_zero]
    simp [lexLe]
  | x :: xs, y :: ys, pre, e, r, he, hr => by
    rw [show min (x :: xs).length (y :: ys).length = min xs.length ys.length + 1 by simp only [List.length_cons]; omega, Ob.lexAt_succ]
    have e0 := he 0
    have r0 := hr 0
    simp only [Nat.add_zero, List.getD_cons_zero] at e0 r0
    have ih := lexAt_is xs ys (pre + 1) e r (fun j => by rw [show pre + 1 + j = pre + (j + 1) by omega, he (j + 1)]; simp) (fun j => by rw [show pre + 1 + j = pre + (j + 1) by omega, hr (j + 1)]; simp)
    rw [show decide ((x :: xs).length ≤ (y :: ys).length) = decide (xs.length ≤ ys.length) by simp, ih, e0, r0]
    by_cases h : x = y
    · simp [lexLe, h]
    · simp [lexLe, h]
theorem rc_le_ints {X : Cx} {pins : List (Addr × Obj)} {σ : L2.St} {H : Hp} {s : Shared} {A : Around} (I : Inv X pins σ H s) {a b : Addr} {ns ms : List Int} (ha : SqT X.K H a (ns.map V.int)) (hb : SqT X.K H b (ms.map V.int)) (hu : A.units < cLine) :
    Ob.RcOp .LtE A s (.ref a) (.ref b) (lexLe ns ms) := by
  obtain ⟨its, r1, p1, _⟩ := I.tuple ha
  obtain ⟨its2, r2, p2, _⟩ := I.tuple hb
  have i1 : IntsAre its ns := Vals.ints r1
  have i2 : IntsAre its2 ms := Vals.ints r2
  have e1 : its.toArray.size = ns.length := by rw [List.size_toArray]; exact i1.length
  have e2 : its2.toArray.size = ms.length := by rw [List.size_toArray]; exact i2.length
  have at1 : ∀ j (h1 : j < its.toArray.size), ∃ t, its.toArray[j] = .int (ns.getD j 0) t := fun j h1 => PyProof.Rows.IntsAre.int_at i1 _ _ (by simp at h1; simp [h1])
  have at2 : ∀ j (h1 : j < its2.toArray.size), ∃ t, its2.toArray[j] = .int (ms.getD j 0) t := fun j h1 => PyProof.Rows.IntsAre.int_at i2 _ _ (by simp at h1; simp [h1])
  have R := Ob.RcOp.tuples_le (A := A) (s := s) (e := fun j => decide (ns.getD j 0 = ms.getD j 0)) (r := fun j => decide (ns.getD j 0 ≤ ms.getD j 0)) p1 p2 hu (fun j h1 h2 => by
    obtain ⟨t, et⟩ := at1 j h1
    obtain ⟨t', et'⟩ := at2 j h2
    rw [et, et']
    rw [show decide (ns.getD j 0 = ms.getD j 0) = (ns.getD j 0 == ms.getD j 0) by rfl]
    exact SeqAt.EqAt.int_int _ _ _ _) (fun j h1 h2 _ => by
    obtain ⟨t, et⟩ := at1 j h1
    obtain ⟨t', et'⟩ := at2 j h2
    rw [et, et']
    exact Ob.RcOp.le_int _ _ _ _)
  rw [e1, e2, lexAt_is ns ms 0 _ _ (fun j => by rw [Nat.zero_add]) (fun j => by rw [Nat.zero_add])] at R
  exact R
def rLeP (K : PySem.W.Frag) : R2 := fun x y H Q => ∃ (a b p q : Addr) (i j : Int) (ns ms : List Int), x = .ref a ∧ y = .ref b ∧ SqT K H a [.int i, .ref p] ∧ SqT K H b [.int j, .ref q] ∧ SqT K H p (ns.map V.int) ∧ SqT K H q (ms.map V.int) ∧
  SeqAt.shaped (.tuple (ns.map PyData.int)) = true ∧ SeqAt.shaped (.tuple (ms.map PyData.int)) = true ∧ Q (.bl (if i = j then lexLe ns ms else decide (i ≤ j))) H
theorem dp_ints {K : PySem.W.Frag} {H : Hp} : ∀ ns : List Int, DpAll K H (ns.map V.int) (ns.map PyData.int)
  | [] => .nil
  | n :: ns => .cons (.int n) (dp_ints ns)
theorem eqv_ints : ∀ ns ms : List Int, PyData.eqvAll (ns.map PyData.int) (ms.map PyData.int) = decide (ns = ms)
  | [], [] => by simp [PyData.eqvAll]
  | [], _ :: _ => by simp [PyData.eqvAll]
  | _ :: _, [] => by simp [PyData.eqvAll]
  | x :: xs, y :: ys => by
    rw [List.map_cons, List.map_cons]
    show (PyData.eqv (.int x) (.int y) && PyData.eqvAll (xs.map PyData.int) (ys.map PyData.int)) = _
    rw [eqv_ints xs ys]
    show ((x == y) && decide (xs = ys)) = _
    by_cases h : x = y <;> by_cases h2 : xs = ys <;> simp [h, h2]
theorem lexLe_refl : ∀ ns : List Int, lexLe ns ns = true
  | [] => rfl
  | x :: xs => by simp [lexLe, lexLe_refl xs]
theorem _root_.L2.Room.u100 {k : Nat} {A : Around} (r : Room k A) : A.units + 100 < cLine := by have := r.un; omega
theorem op_leP {X : Cx} (hu : X.A.units + 100 < cLine) : OpR X (compareOp .LtE) (rLeP X.K) := by
  intro pins s σ H x y v u Q I rx ry h
  obtain ⟨a, b, p, q, i, j, ns, ms, rfl, rfl, ha, hb, hp, hq, sn, sm, q0⟩ := h
  cases rx
  cases ry
  obtain ⟨its, r1, p1, _⟩ := I.tuple ha
  obtain ⟨its2, r2, p2, _⟩ := I.tuple hb
  obtain ⟨_, _, rfl, ⟨t1, rfl⟩, hv1⟩ := vals2 r1
  obtain ⟨_, _, rfl, ⟨t2, rfl⟩, hv2⟩ := vals2 r2
  cases hv1
  cases hv2
  obtain ⟨as, ra⟩ := Dp.reads I (.tuple (ns.map PyData.int)) (.ref p) (.ref p) (.tup hp (dp_ints ns)) rfl
  obtain ⟨bs, rb⟩ := Dp.reads I (.tuple (ms.map PyData.int)) (.ref q) (.ref q) (.tup hq (dp_ints ms)) rfl
  have un : X.A.in1.units = X.A.units + 1 ∨ X.A.in1.units = X.A.units := by
    first
      | exact .inl rfl
      | exact .inr rfl
  have lt1 : X.A.in1.units < cLine := by omega
  have eqn : SeqAt.EqAt X.A.in1 s (.ref p) (.ref q) (decide (ns = ms)) := by
    have e := SeqAt.eqAt_reads _ _ X.A.in1 s _ _ as bs ra rb (SeqAt.canLay_of_shaped sn) (SeqAt.canLay_of_shaped sm) (by
      have h1 := SeqAt.depth_of_shaped sn
      have h2 : min (PyData.tuple (ns.map PyData.int)).depth (PyData.tuple (ms.map PyData.int)).depth ≤ (PyData.tuple (ns.map PyData.int)).depth := Nat.min_le_left _ _
      omega)
    rw [show PyData.eqv (.tuple (ns.map PyData.int)) (.tuple (ms.map PyData.int)) = PyData.eqvAll (ns.map PyData.int) (ms.map PyData.int) by rw [PyData.eqv], eqv_ints] at e
    exact e
  have R := Ob.RcOp.tuples_le (A := X.A) (s := s) (e := fun k => if k = 0 then decide (i = j) else decide (ns = ms)) (r := fun k => if k = 0 then decide (i ≤ j) else lexLe ns ms) p1 p2 (by omega) (fun k h1 h2 => by
    match k, h1, h2 with
    | 0, _, _ =>
      show SeqAt.EqAt _ _ (.int i t1) (.int j t2) (decide (i = j))
      exact SeqAt.EqAt.int_int _ _ _ _
    | 1, _, _ => exact eqn) (fun k h1 h2 _ => by
    match k, h1, h2 with
    | 0, _, _ =>
      show Ob.RcOp _ _ _ (.int i t1) (.int j t2) (decide (i ≤ j))
      exact Ob.RcOp.le_int _ _ _ _
    | 1, _, _ => exact rc_le_ints I hp hq lt1)
  have ev : Ob.lexAt (fun k => if k = 0 then decide (i = j) else decide (ns = ms)) (fun k => if k = 0 then decide (i ≤ j) else lexLe ns ms) (decide (2 ≤ 2)) 0 2 = (if i = j then lexLe ns ms else decide (i ≤ j)) := by
    rw [Ob.lexAt_succ, Ob.lexAt_succ, Ob.lexAt_zero]
    by_cases h : i = j
    · by_cases h2 : ns = ms
      · simp [h, h2, lexLe_refl]
      · simp [h, h2]
    · simp [h]
  have z : wpAny (model X.prog X.w) X.A (compareOp .LtE (.ref a) (.ref b)) (EP X pins σ Q) X.xe s := R X.prog X.w X.xe (EP X pins σ Q) ⟨.bl _, H, I, by show Value.bool _ = Value.bool _; exact congrArg _ ev, q0⟩
  exact z
end Nd
namespace Nd
open PySem PySem.Spec PyProof.Rows L2 Evl

/-! ### words of promises -/
/-- an error of the class at C whose field f holds v, whatever was made beside -/
def Err (C : Addr) (f : Str) (v : V) (H : Hp) (E : XK) : Prop := ∀ d H', Ex H H' → H' d = some (.xd [(f, v)]) → E (.ref C) (some d) H'
theorem Err.mono {C : Addr} {f : Str} {v : V} {H H' : Hp} {E : XK} (h : Err C f v H E) (e : Ex H H') : Err C f v H' E := fun d H2 e2 hd => h d H2 (e.trans e2) hd
theorem RetV.mono {v : V} {H H' : Hp} {Q : VK} (h : RetV v H Q) (e : Ex H H') : RetV v H' Q := fun H2 e2 => h H2 (e.trans e2)
/-- a new tuple -/
def RetU (xs : List V) (H : Hp) (Q : VK) : Prop := ∀ p H2, H p = none → Ex H H2 → H2 p = some (.tup xs) → Q (.ref p) H2
theorem RetL.mono {xs : List V} {H H' : Hp} {Q : VK} (h : RetL xs H Q) (e : Ex H H') : RetL xs H' Q := fun p H2 hp e2 h2 => h p H2 (fresh_back e hp) (e.trans e2) h2
theorem RetU.mono {xs : List V} {H H' : Hp} {Q : VK} (h : RetU xs H Q) (e : Ex H H') : RetU xs H' Q := fun p H2 hp e2 h2 => h p H2 (fresh_back e hp) (e.trans e2) h2
def fs1 (f : Str) : List V → Option (List (Str × V)) := fun ws => match ws with
  | [v] => some [(f, v)]
  | _ => none

/-- a module's constant -/
theorem pe_cst {X : Cx} {x : Str} {v : V} {pos : Pos} (h : ∃ u, X.mg x = some u ∧ RelV v u) (hg : Gl X x := by rfl) (hd : (x == ("__debug__" : Str)) = false := by decide) : PE X (.Name x pos) (tC v) := by
  obtain ⟨u, hm, r⟩ := h
  exact pe_glob hg hm r hd

/-- what the text says of an error class of one field -/
structure ErrT (P : Program) (w : World) (K : PySem.W.Frag) (mg : Str → Option Value) (base : Heap) (x f : Str) (C : Addr) : Prop where
  made : ∃ fI fdI, ErrC P w K mg base 1 C fI fdI ["self", f] (fs1 f) x
  is : IsC K C
  xf : XfC K C
  no : PySem.W.findIn K (.ref C) f = some none
  g : mg x = some (.ref C)
/-- raise C(e) -/
def tRais1 (C : Addr) (f : Str) (W : WX) (ta : TA) : TS := fun _ σ H => ta σ H fun vs H1 => ∃ v, vs = [v] ∧ Err C f v H1 (WE W σ)
theorem ps_err1 {X : Cx} {C : Addr} {f x : Str} {p pos pos2 : Pos} {e : Expr} {es : List Expr} {ta : TA} {W : WX} (hc : X.calm = true) (T : ErrT X.prog X.w X.K X.mg X.base x f C) (hr : Room 2 X.A) (tk : Takes X W) (ha : PA X (e :: es) ta) (hg : Gl X x := by rfl)
    (hdb : (x == ("__debug__" : Str)) = false := by decide) (he : starEach (e :: es) X.env = (false, eval e X.env) :: starEach es X.env := by rfl) (hpl : (backTo pos (starEach es X.env)).any (·.1) = false := by rfl) :
    PS X (.Raise (some (.Call (.Name x p) (e :: es) [] pos)) none pos2) (tRais1 C f W ta) := by
  obtain ⟨fI, fdI, M⟩ := T.made
  refine ⟨fun pins s σ H D I h => (ps_err hc M hr tk (pa_clo ha) hg hdb he hpl).run pins s σ H D I ?_⟩
  refine ⟨_, h, fun vs H1 q => ?_⟩
  obtain ⟨v, rfl, q⟩ := q
  exact ⟨(by decide : 1 ≤ 1000), _, rfl, fun d hd => q d _ (Ex.new hd) upd_same⟩

section
variable {K : PySem.W.Frag} {a : Addr} {xs : List V} {H H' : Hp}
theorem SqS.mono (e : Ex H H') (h : SqS K H a xs) : SqS K H' a xs := h.elim (fun h => .inl (ex_l e h)) (fun h => .inr (ex_t e h))
theorem SqS.lst (h : H a = some (.lst xs)) : SqS K H a xs := .inl (sq_of h)
theorem SqS.tup (h : H a = some (.tup xs)) : SqS K H a xs := .inr (st_of h)
end

/-! ### what is evaluated: lists or tuples -/
section
variable {K : PySem.W.Frag} {σ : L2.St} {H H' : Hp} {ta tb te tx : TE} {t u : TT} {x y z v : V} {D : Ends} {tu tw tz : TS} {g : TG} {r : R2}
theorem ev_lenS {a : Addr} {xs : List V} (ha : Ev ta σ H (.ref a)) (h : SqS K H a xs) : Ev (tCB (fun vs H Q => ∃ p ys, vs = [.ref p] ∧ (SqL K H p ys ∨ SqT K H p ys) ∧ Q (.int ys.length) H) (tCons ta tNil)) σ H (.int (xs.length : Int)) := fun H1 e Q q =>
  ha H1 e _ fun H2 e2 => ⟨a, xs, rfl, h.mono (e.trans e2), q H2 e2⟩
theorem rv_ixS' {p : Addr} {xs : List V} {i : Int} (h : SqS K H p xs) (ha : atI xs i = some v) : RV (rIx K) (.ref p) (.int i) H v := fun H1 e _ q =>
  h.elim (fun h => .inl ⟨p, xs, i, v, rfl, rfl, ex_l e h, ha, q H1 (Ex.refl H1)⟩) (fun h => .inr (.inl ⟨p, xs, i, v, rfl, rfl, ex_t e h, ha, q H1 (Ex.refl H1)⟩))
theorem rv_in {neg : Bool} {p : Addr} {xs : List V} (h : SqS K H p xs) (hx : flatV x = true) (ha : xs.all flatV = true) : RV (rIn K neg) x (.ref p) H (.bl (if neg then !inV x xs else inV x xs)) := h.elim (fun h => rv_inL h hx ha) (fun h => rv_inT h hx ha)
/-- tuple(xs) -/
theorem eu_tuple {a : Addr} {xs : List V} (ha : Ev ta σ H (.ref a)) (h : SqL K H a xs) : EvU (tCB (fun vs H Q => ∃ p ys, vs = [.ref p] ∧ ((SqL K H p ys ∧ ∀ l, H l = none → Q (.ref l) (upd H l (.tup ys))) ∨ (SqT K H p ys ∧ Q (.ref p) H))) (tCons ta tNil)) σ H xs := fun H1 e Q q =>
  ha H1 e _ fun H2 e2 => ⟨a, xs, rfl, .inl ⟨ex_l (e.trans e2) h, fun l hl => q l _ (fresh_back e2 hl) (e2.trans (Ex.new hl)) upd_same⟩⟩
/-- tuple of a new list -/
theorem eu_tupleL {xs : List V} (ha : EvL ta σ H xs) : EvU (tCB (fun vs H Q => ∃ p ys, vs = [.ref p] ∧ ((SqL K H p ys ∧ ∀ l, H l = none → Q (.ref l) (upd H l (.tup ys))) ∨ (SqT K H p ys ∧ Q (.ref p) H))) (tCons ta tNil)) σ H xs := fun H1 e Q q =>
  ha H1 e _ fun p H2 hp e2 h2 => ⟨p, xs, rfl, .inl ⟨sq_of h2, fun l hl => q l _ (fresh_back e2 hl) (e2.trans (Ex.new hl)) upd_same⟩⟩
/-- a loop over a list or a tuple -/
theorem s_forS {a : Addr} {xs : List V} {tl : TE} (h : Ev tl σ H (.ref a)) (hx : SqS K H a xs) (Pv : Nat → L2.St → Hp → Prop) (h0 : ∀ H1, Ex H H1 → Pv 0 σ H1) (hl : ∀ i σ' H', i ≤ xs.length → Pv i σ' H' → Ex H H')
    (hs : ∀ i x σ' H', xs[i]? = some x → Pv i σ' H' → g x σ' H' fun σ2 H2 => tu { D with nx := Pv (i + 1), ct := Pv (i + 1), bk := D.nx } σ2 H2) (hd : ∀ σ' H', Pv xs.length σ' H' → D.nx σ' H') : tFor (iSeq K tl) g tu D σ H :=
  h H (Ex.refl H) _ fun H1 e => ⟨a, xs, rfl, hx.elim (fun q => .inl ⟨ex_l e q, for_list Pv (h0 H1 e) (fun i σ' H' hi p => ex_l (hl i σ' H' hi p) q) hs hd⟩) (fun q => .inr ⟨ex_t e q, for_tup Pv (h0 H1 e) (fun i σ' H' hi p => ex_t (hl i σ' H' hi p) q) hs hd⟩)⟩
theorem q_forS {a : Addr} {xs : List V} {tl : TE} (h : Ev tl σ H (.ref a)) (hx : SqS K H a xs) (Pv : Nat → L2.St → Hp → Prop) (h0 : ∀ H1, Ex H H1 → Pv 0 σ H1) (hl : ∀ i σ' H', i ≤ xs.length → Pv i σ' H' → Ex H H')
    (hs : ∀ i x σ' H', xs[i]? = some x → Pv i σ' H' → g x σ' H' fun σ2 H2 => tu { D with nx := Pv (i + 1), ct := Pv (i + 1), bk := tz D } σ2 H2) (hd : ∀ σ' H', Pv xs.length σ' H' → tz D σ' H') : tSeq (tFor (iSeq K tl) g tu) tz D σ H :=
  s_forS (D := { D with nx := tz D }) h hx Pv h0 hl hs hd
/-- a comprehension over a list or a tuple -/
theorem el_lcS {a : Addr} {xs : List V} {tl : TE} {j : Nat} {vs : List Nat} (f : Nat → Bool) (v : Nat → V) (h : Ev tl σ H (.ref a)) (hx : SqS K H a xs) (hz : xs.length ≤ 40000) (hw : ∀ x, wipe ((wipe σ vs).set j (some x)) vs = wipe σ vs)
    (ht : ∀ (i : Nat) (x : V) H1, Ex H H1 → xs[i]? = some x → EvT t ((wipe σ vs).set j (some x)) H1 (f i)) (he : ∀ (i : Nat) (x : V) H1, Ex H H1 → xs[i]? = some x → f i = true → Ev te ((wipe σ vs).set j (some x)) H1 (v i)) :
    EvL (tLc (iSeq K tl) (gName j) t te vs) σ H (given xs.length f v) := fun H0 e Q q => h H0 e _ fun H1 e1 => ⟨a, xs, rfl, hx.elim
  (fun hq => .inl ⟨ex_l (e.trans e1) hq, fun Dl hD => lc_list (xs := xs) (Cw H1 f v Dl) ⟨hD, Ex.new hD, upd_same⟩ (fun i H' _ p => ex_l ((e.trans e1).trans p.2.1) hq)
      (fun i x H' hi p => ⟨hw x, cw_turn p (by have := (List.getElem?_eq_some_iff.mp hi).1; omega) (ht i x H1 (e.trans e1) hi) (fun hf => he i x H1 (e.trans e1) hi hf)⟩) (fun H' p => q Dl H' (fresh_back e1 p.1) (e1.trans p.2.1) p.2.2)⟩)
  (fun hq => .inr ⟨ex_t (e.trans e1) hq, fun Dl hD => lc_tup (xs := xs) (Cw H1 f v Dl) ⟨hD, Ex.new hD, upd_same⟩ (fun i H' _ p => ex_t ((e.trans e1).trans p.2.1) hq)
      (fun i x H' hi p => ⟨hw x, cw_turn p (by have := (List.getElem?_eq_some_iff.mp hi).1; omega) (ht i x H1 (e.trans e1) hi) (fun hf => he i x H1 (e.trans e1) hi hf)⟩) (fun H' p => q Dl H' (fresh_back e1 p.1) (e1.trans p.2.1) p.2.2)⟩)⟩
end
end Nd
namespace Nd
open PySem PySem.Spec PyProof.Rows L2 Evl
section
variable {K : PySem.W.Frag} {σ : L2.St} {H H' : Hp} {ta tb tc te tx : TE} {t u : TT} {x y z v : V} {D : Ends} {tu tw tz : TS} {g : TG} {r r' : R2}
/-- a comparison of three -/
theorem ev_chain {a b : Bool} {zr : V} (ha : Ev ta σ H x) (hb : Ev tb σ H y) (hr : RV r x y H (.bl a)) (hc : a = true → Ev tc σ H z) (hr' : a = true → RV r' y z H (.bl b)) : Ev (tChain r r' ta tb tc) σ H (.bl (a && b)) := by
  intro H1 e Q q
  refine ha H1 e _ fun H2 e2 => hb H2 (e.trans e2) _ fun H3 e3 => hr H3 ((e.trans e2).trans e3) _ fun H4 e4 => ⟨a, rfl, ?_⟩
  cases a with
  | false => exact q H4 ((e2.trans e3).trans e4)
  | true => exact hc rfl H4 (((e.trans e2).trans e3).trans e4) _ fun H5 e5 => hr' rfl H5 ((((e.trans e2).trans e3).trans e4).trans e5) _ fun H6 e6 => q H6 ((((e2.trans e3).trans e4).trans e5).trans e6)
theorem et_chain {a : Bool} (h : Ev (tChain r r' ta tb tc) σ H (.bl a)) : EvT (fun σ H Q => tChain r r' ta tb tc σ H fun x H1 => ∃ c, x = .bl c ∧ Q c H1) σ H a := fun H1 e _ q => h H1 e _ fun H2 e2 => ⟨a, rfl, q H2 e2⟩
theorem rv_mod {i j : Int} (h : 0 < j) : RV (rI (fun _ b => 0 < b) fun i j => .int (i % j)) (.int i) (.int j) H (.int (i % j)) := rv_I (C := fun _ b => 0 < b) (g := fun i j => .int (i % j)) h
/-- evaluates to some list or tuple of xs -/
def EvSq (K : PySem.W.Frag) (te : TE) (σ : L2.St) (H : Hp) (xs : List V) : Prop := ∀ H1, Ex H H1 → ∀ Q : VK, (∀ p H2, Ex H1 H2 → SqS K H2 p xs → Q (.ref p) H2) → te σ H1 Q
theorem es_ev {a : Addr} {xs : List V} (h : Ev te σ H (.ref a)) (hs : SqS K H a xs) : EvSq K te σ H xs := fun H1 e Q q => h H1 e _ fun H2 e2 => q a H2 e2 (hs.mono (e.trans e2))
theorem es_el {xs : List V} (h : EvL te σ H xs) : EvSq K te σ H xs := fun H1 e Q q => h H1 e _ fun p H2 _ e2 h2 => q p H2 e2 (.lst h2)
theorem es_eu {xs : List V} (h : EvU te σ H xs) : EvSq K te σ H xs := fun H1 e Q q => h H1 e _ fun p H2 _ e2 h2 => q p H2 e2 (.tup h2)
/-- sorted(set(xs)), fewer than 64 members -/
theorem el_sortedSet {w : World} {ns ms : List Int} (h : EvSq K te σ H (ns.map V.int)) (h64 : ns.length < 64) (hs : ms.Pairwise (· < ·)) (hm : ∀ k, k ∈ ms ↔ k ∈ ns) (uniq : ∀ xs : List Int, xs.Pairwise (· < ·) → (∀ k, k ∈ xs ↔ k ∈ ns) → xs = ms) :
    EvL (tCB (rSortedSet w) (tCons (tCB (rSetI K w) (tCons te tNil)) tNil)) σ H (ms.map V.int) := fun H1 e Q q =>
  h H1 e _ fun a H2 e2 h2 => ⟨a, ns, rfl, h2, by unfold scanBound; omega, fun p c hp hc => ⟨p, _, c, rfl, upd_same, by omega, fun xs l hx hmem _ hl => by
    have ex : xs = ms := uniq xs hx fun k => by rw [hmem]; simp
    subst ex
    have e3 : Ex H2 (upd H2 p (SetO w p (fun j => decide (j ∈ ns)) c)) := Ex.new hp
    exact q l _ (fresh_back (e2.trans e3) hl) ((e2.trans e3).trans (Ex.new hl)) upd_same⟩⟩
/-- t + u of tuples -/
def EvT2 (K : PySem.W.Frag) (te : TE) (σ : L2.St) (H : Hp) (xs : List V) : Prop := ∀ H1, Ex H H1 → ∀ Q : VK, (∀ p H2, Ex H1 H2 → SqT K H2 p xs → Q (.ref p) H2) → te σ H1 Q
theorem e2_ev {a : Addr} {xs : List V} (h : Ev te σ H (.ref a)) (hs : SqT K H a xs) : EvT2 K te σ H xs := fun H1 e Q q => h H1 e _ fun H2 e2 => q a H2 e2 (ex_t (e.trans e2) hs)
theorem e2_eu {xs : List V} (h : EvU te σ H xs) : EvT2 K te σ H xs := fun H1 e Q q => h H1 e _ fun p H2 _ e2 h2 => q p H2 e2 (st_of h2)
theorem e2_cat {xs ys : List V} (h1 : EvT2 K ta σ H xs) (h2 : EvT2 K tb σ H ys) (hz : xs.length + ys.length ≤ 100000) : EvT2 K (tOp (rCatA K) ta tb) σ H (xs ++ ys) := fun H1 e Q q =>
  h1 H1 e _ fun a H2 e2 t2 => h2 H2 (e.trans e2) _ fun b H3 e3 t3 => by
    have t2' := ex_t e3 t2
    have e13 := e2.trans e3
    refine ⟨a, b, xs, ys, rfl, rfl, t2', t3, sz_of hz, fun h0 => ?_, fun _ h0 => ?_, fun _ _ p hp => q p _ (e13.trans (Ex.new hp)) (st_of upd_same)⟩
    · subst h0
      exact q b H3 e13 t3
    · subst h0
      rw [List.append_nil] at q
      exact q a H3 e13 t2'
theorem es_e2 {xs : List V} (h : EvT2 K te σ H xs) : EvSq K te σ H xs := fun H1 e Q q => h H1 e _ fun p H2 e2 h2 => q p H2 e2 (.inr h2)
end
end Nd
namespace Nd
open PySem PySem.Spec PyProof.Rows L2 Evl
section
variable {K : PySem.W.Frag} {σ : L2.St} {H : Hp} {ta : TA} {tl te tx : TE} {Q : VK}
theorem yes_go {G : Bool → Hp → Prop} (h : G true H) : tYes σ H G := h
/-- [e for x in xs for y in range(lo, hi)] -/
theorem lc2_lr {a : Addr} {xs : List V} {j k : Nat} {vs vs1 : List Nat} (Out : Addr → Nat → Hp → Prop) (In : Addr → Nat → Nat → Hp → Prop) (h : Ev tl σ H (.ref a)) (hx : SqL K H a xs)
    (h0 : ∀ D H1, Ex H H1 → H1 D = none → Out D 0 (upd H1 D (.lst []))) (hO : ∀ D i H', Out D i H' → Ex H H')
    (hw : ∀ x, wipe ((wipe σ vs).set j (some x)) vs = wipe σ vs) (hw1 : ∀ x y, wipe ((wipe ((wipe σ vs).set j (some x)) vs1).set k (some y)) vs1 = wipe ((wipe σ vs).set j (some x)) vs1)
    (hin : ∀ D i x H', xs[i]? = some x → Out D i H' → ∃ lo hi : Int, (-100000 ≤ lo ∧ lo ≤ 100000 ∧ -100000 ≤ hi ∧ hi ≤ 100000) ∧ EvA ta ((wipe σ vs).set j (some x)) H' [.int lo, .int hi] ∧ (∀ H'', Ex H' H'' → In D i 0 H'') ∧
      (∀ m H'', In D i m H'' → lo + (m : Int) < hi → te ((wipe ((wipe σ vs).set j (some x)) vs1).set k (some (.int (lo + (m : Int))))) H'' fun y H4 => ∃ acc, H4 D = some (.lst acc) ∧ acc.length < sizeLine ∧ In D i (m + 1) (upd H4 D (.lst (acc ++ [y])))) ∧
      (∀ H'', In D i (hi - lo).toNat H'' → Out D (i + 1) H''))
    (hend : ∀ D H', Out D xs.length H' → Q (.ref D) H') : tLc2 (iList K tl) (gName j) tYes (iRng2 ta) (gName k) tYes te vs vs1 σ H Q := by
  refine h H (Ex.refl H) _ fun H1 e1 => ⟨a, rfl, ⟨xs, ex_l e1 hx⟩, fun D hD => ⟨fun i m H' => m = xs.length - i ∧ i ≤ xs.length ∧ Out D i H', ⟨_, rfl, Nat.zero_le _, h0 D H1 e1 hD⟩, ?_⟩⟩
  rintro i m H' ⟨rfl, hi, p⟩
  have q := ex_l (hO D i H' p) hx
  by_cases hlt : i < xs.length
  · refine .inr ⟨⟨xs, xs[i], q, by simp [hlt]⟩, Out D (i + 1), fun H2 p2 => ⟨xs.length - (i + 1), by omega, rfl, hlt, p2⟩, fun x H2 y => ?_⟩
    obtain ⟨rfl, y⟩ := y
    have hxi := y xs q
    obtain ⟨lo, hi', hb, hev, c0, c1, c2⟩ := hin D i x H2 hxi p
    refine ⟨hw x, ?_⟩
    refine yes_go ?_
    rw [if_pos rfl]
    refine hev H2 (Ex.refl H2) _ fun H3 e3 => ⟨lo, hi', rfl, ⟨by omega, by omega, by omega, by omega⟩, fun m n H' => n = (hi' - lo).toNat - m ∧ m ≤ (hi' - lo).toNat ∧ In D i m H', ⟨_, rfl, Nat.zero_le _, c0 H3 e3⟩, ?_⟩
    rintro m' n' H4 ⟨rfl, hm, p4⟩
    by_cases hl2 : m' < (hi' - lo).toNat
    · refine .inr ⟨hl2, fun H' => In D i (m' + 1) H', fun H5 p5 => ⟨(hi' - lo).toNat - (m' + 1), by omega, rfl, hl2, p5⟩, fun z H5 y5 => ?_⟩
      obtain ⟨rfl, rfl⟩ := y5
      refine ⟨hw1 x _, ?_⟩
      refine yes_go ?_
      rw [if_pos rfl]
      exact c1 m' _ p4 (by omega)
    · have em : m' = (hi' - lo).toNat := by omega
      subst em
      exact .inl ⟨Nat.le_refl _, c2 H4 p4⟩
  · have e : i = xs.length := by omega
    subst e
    exact .inl ⟨⟨xs, q, Nat.le_refl _⟩, hend D H' p⟩
/-- [e for x in range(n) for y in ys(x)] -/
theorem lc2_rl {n : Int} {j k : Nat} {vs vs1 : List Nat} (Out : Addr → Nat → Hp → Prop) (In : Addr → Nat → Addr → List V → Nat → Hp → Prop) (h : EvA ta σ H [.int n]) (hn : 0 ≤ n ∧ n ≤ 100000)
    (h0 : ∀ D H1, Ex H H1 → H1 D = none → Out D 0 (upd H1 D (.lst [])))
    (hw : ∀ x, wipe ((wipe σ vs).set j (some x)) vs = wipe σ vs) (hw1 : ∀ x y, wipe ((wipe ((wipe σ vs).set j (some x)) vs1).set k (some y)) vs1 = wipe ((wipe σ vs).set j (some x)) vs1)
    (hin : ∀ D (i : Nat) H', (i : Int) < n → Out D i H' → ∀ Q' : VK, (∀ a ys H'', SqL K H'' a ys → In D i a ys 0 H'' → Q' (.ref a) H'') → tl ((wipe σ vs).set j (some (.int (i : Int)))) H' Q')
    (hstep : ∀ D (i : Nat) a ys m y H', In D i a ys m H' → ys[m]? = some y → te ((wipe ((wipe σ vs).set j (some (.int (i : Int)))) vs1).set k (some y)) H' fun z H4 => ∃ acc, H4 D = some (.lst acc) ∧ acc.length < sizeLine ∧ In D i a ys (m + 1) (upd H4 D (.lst (acc ++ [z]))))
    (hseq : ∀ D i a ys m H', In D i a ys m H' → SqL K H' a ys) (hout : ∀ D i a ys H', In D i a ys ys.length H' → Out D (i + 1) H')
    (hend : ∀ D H', Out D n.toNat H' → Q (.ref D) H') : tLc2 (iRng1 ta) (gName j) tYes (iList K tl) (gName k) tYes te vs vs1 σ H Q := by
  refine h H (Ex.refl H) _ fun H1 e1 => ⟨n, rfl, by omega, by omega, fun D hD => ⟨fun i m H' => m = n.toNat - i ∧ i ≤ n.toNat ∧ Out D i H', ⟨_, rfl, Nat.zero_le _, h0 D H1 e1 hD⟩, ?_⟩⟩
  rintro i m H' ⟨rfl, hi, p⟩
  by_cases hlt : i < n.toNat
  · refine .inr ⟨hlt, Out D (i + 1), fun H2 p2 => ⟨n.toNat - (i + 1), by omega, rfl, hlt, p2⟩, fun x H2 y => ?_⟩
    obtain ⟨rfl, rfl⟩ := y
    have e0 : (0 : Int) + (i : Int) = (i : Int) := Int.zero_add _
    rw [e0]
    refine ⟨hw _, ?_⟩
    refine yes_go ?_
    rw [if_pos rfl]
    refine hin D i _ (by omega) p _ fun a ys H3 hs p3 => ⟨a, rfl, ⟨ys, hs⟩, fun m n H' => n = ys.length - m ∧ m ≤ ys.length ∧ In D i a ys m H', ⟨_, rfl, Nat.zero_le _, p3⟩, ?_⟩
    rintro m' n' H4 ⟨rfl, hm, p4⟩
    have q := hseq D i a ys m' H4 p4
    by_cases hl2 : m' < ys.length
    · refine .inr ⟨⟨ys, ys[m'], q, by simp [hl2]⟩, fun H' => In D i a ys (m' + 1) H', fun H5 p5 => ⟨ys.length - (m' + 1), by omega, rfl, hl2, p5⟩, fun z H5 y5 => ?_⟩
      obtain ⟨rfl, y5⟩ := y5
      refine ⟨hw1 _ _, ?_⟩
      refine yes_go ?_
      rw [if_pos rfl]
      exact hstep D i a ys m' z _ p4 (y5 ys q)
    · have em : m' = ys.length := by omega
      subst em
      exact .inl ⟨⟨ys, q, Nat.le_refl _⟩, hout D i a ys H4 p4⟩
  · have e : i = n.toNat := by omega
    subst e
    exact .inl ⟨Nat.le_refl _, hend D H' p⟩
/-! ### lists of ints, filtered and mapped -/
theorem ints_range (ns : List Int) : (List.range ns.length).map (fun i => ns.getD i 0) = ns := by
  apply List.ext_getElem
  · simp
  · intro i h1 h2
    have h3 : i < ns.length := by simpa using h1
    simp [h3]
theorem given_filter (ns : List Int) (p : Int → Bool) : given ns.length (fun i => p (ns.getD i 0)) (fun i => V.int (ns.getD i 0)) = (ns.filter p).map V.int := by
  have h : ns.filter p = ((List.range ns.length).filter (fun i => p (ns.getD i 0))).map (fun i => ns.getD i 0) := by
    have e := congrArg (List.filter p) (ints_range ns)
    rw [List.filter_map] at e
    exact e.symm
  rw [h, List.map_map]
  rfl
theorem given_map (ns : List Int) (g : Int → Int) : given ns.length (fun _ => true) (fun i => V.int (g (ns.getD i 0))) = (ns.map g).map V.int := by
  have h : ns.map g = (List.range ns.length).map (fun i => g (ns.getD i 0)) := by
    have e := congrArg (List.map g) (ints_range ns)
    rw [List.map_map] at e
    exact e.symm
  rw [h, List.map_map]
  unfold given
  rw [List.filter_eq_self.mpr (fun _ _ => rfl)]
  rfl
theorem inV_ints (z : Int) (ns : List Int) : inV (.int z) (ns.map V.int) = decide (z ∈ ns) := by
  unfold inV
  rw [List.any_map]
  induction ns with
  | nil => simp
  | cons n r ih =>
    rw [List.any_cons, ih]
    by_cases h : n = z
    · subst h
      simp [eqV]
    · have h2 : ¬ z = n := fun e => h e.symm
      simp [eqV, h, h2]
theorem all_flat (ns : List Int) : (ns.map V.int).all flatV = true := by
  rw [List.all_eq_true]
  intro x hx
  obtain ⟨n, _, rfl⟩ := List.mem_map.mp hx
  rfl
theorem at_ints {ns : List Int} {i : Nat} {x : V} (h : (ns.map V.int)[i]? = some x) : x = .int (ns.getD i 0) ∧ i < ns.length := by
  rw [List.getElem?_map] at h
  cases e : ns[i]? with
  | none => rw [e] at h; cases h
  | some z =>
    rw [e] at h
    obtain ⟨hi, ez⟩ := List.getElem?_eq_some_iff.mp e
    refine ⟨?_, hi⟩
    have h2 := Option.some.inj h
    rw [← h2, List.getD_eq_getElem?_getD, e]
    rfl
theorem ev_sumL {ns : List Int} (h : EvL te σ H (ns.map V.int)) : Ev (tCB (rSum K) (tCons te tNil)) σ H (.int ns.sum) := fun H1 e Q q =>
  h H1 e _ fun p H2 _ e2 h2 => ⟨p, ns, rfl, sq_of h2, q H2 e2⟩
theorem et_in {a : Addr} {z : Int} {ns : List Int} {neg : Bool} (hx : Ev tx σ H (.int z)) (ha : Ev tl σ H (.ref a)) (h : SqS K H a (ns.map V.int)) : EvT (tTest (tOp (rIn K neg) tx tl)) σ H (if neg then !decide (z ∈ ns) else decide (z ∈ ns)) := by
  refine et_test (ev_op hx ha ?_)
  have := rv_in (K := K) (neg := neg) (x := .int z) h rfl (all_flat ns)
  rw [inV_ints] at this
  exact this
end
/-! ### the rules that name the written part, it given (for a comprehension's block) -/
section
variable {X : Cx} (K : PySem.W.Frag)
theorem op_catAK (h : X.K = K := by rfl) : OpR X (binaryOp .Add) (rCatA K) := by subst h; exact op_catA
theorem op_in_seqK (h : X.K = K := by rfl) : OpR X (compareOp .In) (rIn K false) := by subst h; exact op_in_seq
theorem op_notIn_seqK (h : X.K = K := by rfl) : OpR X (compareOp .NotIn) (rIn K true) := by subst h; exact op_notIn_seq
theorem ix_listK (h : X.K = K := by rfl) : IxR X (rIxL K) := by subst h; exact ix_list
theorem ix_tupK (h : X.K = K := by rfl) : IxR X (rIxT K) := by subst h; exact ix_tup
theorem ix_seqK (h : X.K = K := by rfl) : IxR X (rIx K) := by subst h; exact ix_seq
theorem pi_listK {tg l : Expr} {tl : TE} (hl : PE X l tl) (h : X.K = K := by rfl) : PI X tg l (iList K tl) := by subst h; exact pi_list hl
theorem pi_tupK {tg l : Expr} {tl : TE} (hl : PE X l tl) (h : X.K = K := by rfl) : PI X tg l (iTup K tl) := by subst h; exact pi_tup hl
theorem pi_seqK {tg l : Expr} {tl : TE} (hl : PE X l tl) (h : X.K = K := by rfl) : PI X tg l (iSeq K tl) := by subst h; exact pi_seq hl
end
end Nd
/-! One list changes (a drawn tape), all else stays. Slices of lists of ints. isinstance. -/
namespace Nd
open PySem PySem.Spec PyProof.Rows L2 Evl
/-- all but what stands at p stays -/
def But (p : Addr) (H H' : Hp) : Prop := ∀ a o, a ≠ p → H a = some o → H' a = some o
section
variable {p q a : Addr} {H H' H2 : Hp} {o : HO} {xs : List V} {K : PySem.W.Frag}
theorem But.refl (p : Addr) (H : Hp) : But p H H := fun _ _ _ h => h
theorem But.trans (b : But p H H') (c : But p H' H2) : But p H H2 := fun a o n h => c a o n (b a o n h)
theorem But.of (e : Ex H H') : But p H H' := fun a o _ h => e a o h
theorem But.upd (b : But p H H') : But p H (upd H' p o) := fun a u n h => by rw [upd_ne n]; exact b a u n h
theorem But.new (b : But p H H') (hq : H q = none) : But p H (L2.upd H' q o) := fun a u n h => by
  rw [upd_ne (fun e => by rw [e, hq] at h; cases h)]
  exact b a u n h
theorem But.ex (b : But p H H') (e : Ex H2 H) (hp : H2 p = none) : Ex H2 H' := fun a u h => b a u (fun n => by rw [n, hp] at h; cases h) (e a u h)
theorem But.l (b : But p H H') (n : a ≠ p) (h : SqL K H a xs) : SqL K H' a xs := by
  rcases h with (h | ⟨u, h⟩) | h
  · exact .inl (.inl (b a _ n h))
  · exact .inl (.inr ⟨u, b a _ n h⟩)
  · exact .inr h
theorem But.t (b : But p H H') (n : a ≠ p) (h : SqT K H a xs) : SqT K H' a xs := by
  rcases h with (h | ⟨u, h⟩) | h
  · exact .inl (.inl (b a _ n h))
  · exact .inl (.inr ⟨u, b a _ n h⟩)
  · exact .inr h
/-- a list of ints stands at p -/
def Tape (H : Hp) (p : Addr) : Prop := ∃ ds : List Int, H p = some (.lst (ds.map V.int))
theorem Tape.mono (t : Tape H p) (e : Ex H H') : Tape H' p := let ⟨ds, h⟩ := t; ⟨ds, e p _ h⟩
theorem But.fresh (b : But p H H') (t : Tape H' p) (h : H' q = none) : H q = none ∧ q ≠ p := by
  obtain ⟨ds, hp⟩ := t
  have n : q ≠ p := fun e => by rw [e, hp] at h; cases h
  refine ⟨?_, n⟩
  cases e : H q with
  | none => rfl
  | some u => rw [b q u n e] at h; cases h
end
/-! ### slices -/
theorem cut_to {α : Type} (xs : List V) (k : Nat) : cutV xs none (some (k : Int)) = xs.take k := by
  unfold cutV
  rw [HT.sIx_none, HT.sIx_nat, List.drop_zero, Nat.sub_zero]
  rcases Nat.le_total k xs.length with h | h
  · rw [Nat.min_eq_left h]
  · rw [Nat.min_eq_right h, List.take_of_length_le (Nat.le_refl _), List.take_of_length_le h]
theorem cut_from (xs : List V) (k : Nat) : cutV xs (some (k : Int)) none = xs.drop k := by
  unfold cutV
  rw [HT.sIx_none, HT.sIx_nat]
  rcases Nat.le_total k xs.length with h | h
  · rw [Nat.min_eq_left h, List.take_of_length_le (by rw [List.length_drop]; omega)]
  · rw [Nat.min_eq_right h, Nat.sub_self, List.take_zero, List.drop_of_length_le h]
section
variable {K : PySem.W.Frag} {σ : L2.St} {H : Hp} {te ta tb : TE} {ts : TA}
/-- xs[:k] of a list of ints -/
theorem el_to {a : Addr} {ns : List Int} {th : TE} (k : Nat) (h : Ev te σ H (.ref a)) (hk : Ev th σ H (.int (k : Int))) (hs : SqL K H a (ns.map V.int)) : EvL (tSl (rSlL K) te tNoPart (tPart th)) σ H ((ns.take k).map V.int) := by
  have := el_sl (K := K) h eo_none (eo_some hk) hs
  rw [cut_to (α := Int), ← List.map_take] at this
  exact this
theorem el_from {a : Addr} {ns : List Int} {th : TE} (k : Nat) (h : Ev te σ H (.ref a)) (hk : Ev th σ H (.int (k : Int))) (hs : SqL K H a (ns.map V.int)) : EvL (tSl (rSlL K) te (tPart th) tNoPart) σ H ((ns.drop k).map V.int) := by
  have := el_sl (K := K) h (eo_some hk) eo_none hs
  rw [cut_from, ← List.map_drop] at this
  exact this
/-- .. of a new list -/
theorem el_slN {tl th : TO} {xs : List V} {lo hi : Option Int} (h : EvL te σ H xs) (h1 : EvO tl σ H lo) (h2 : EvO th σ H hi) : EvL (tSl (rSlL K) te tl th) σ H (cutV xs lo hi) := fun H1 e Q q =>
  h H1 e _ fun p H2 hp e2 hl => h1 H2 (e.trans e2) _ fun H3 e3 => h2 H3 ((e.trans e2).trans e3) _ fun H4 e4 => ⟨p, xs, rfl, sq_of (e4 p _ (e3 p _ hl)), fun r hr => q r _ (fresh_back ((e2.trans e3).trans e4) hr) (((e2.trans e3).trans e4).trans (Ex.new hr)) upd_same⟩
theorem el_toN {ns : List Int} {th : TE} (k : Nat) (h : EvL te σ H (ns.map V.int)) (hk : Ev th σ H (.int (k : Int))) : EvL (tSl (rSlL K) te tNoPart (tPart th)) σ H ((ns.take k).map V.int) := by
  have := el_slN (K := K) h eo_none (eo_some hk)
  rw [cut_to (α := Int), ← List.map_take] at this
  exact this
theorem el_fromN {ns : List Int} {th : TE} (k : Nat) (h : EvL te σ H (ns.map V.int)) (hk : Ev th σ H (.int (k : Int))) : EvL (tSl (rSlL K) te (tPart th) tNoPart) σ H ((ns.drop k).map V.int) := by
  have := el_slN (K := K) h (eo_some hk) eo_none
  rw [cut_from, ← List.map_drop] at this
  exact this
/-- a + b of lists of ints, where each is evaluated to a tracked list -/
def EvM (te : TE) (σ : L2.St) (H : Hp) (xs : List V) : Prop := ∀ H1, Ex H H1 → ∀ Q : VK, (∀ p H2, Ex H1 H2 → H2 p = some (.lst xs) → Q (.ref p) H2) → te σ H1 Q
theorem em_ev {a : Addr} {xs : List V} (h : Ev te σ H (.ref a)) (hs : H a = some (.lst xs)) : EvM te σ H xs := fun H1 e Q q => h H1 e _ fun H2 e2 => q a H2 e2 ((e.trans e2) a _ hs)
theorem em_el {xs : List V} (h : EvL te σ H xs) : EvM te σ H xs := fun H1 e Q q => h H1 e _ fun p H2 _ e2 h2 => q p H2 e2 h2
theorem el_cat {xs ys : List V} (h1 : EvM ta σ H xs) (h2 : EvM tb σ H ys) (hz : xs.length + ys.length ≤ 100000) : EvL (tOp rCat ta tb) σ H (xs ++ ys) := fun H1 e Q q =>
  h1 H1 e _ fun a H2 e2 g => h2 H2 (e.trans e2) _ fun b H3 e3 g3 => ⟨a, b, xs, ys, rfl, rfl, e3 a _ g, g3, sz_of hz, fun p hp => q p _ (fresh_back (e2.trans e3) hp) ((e2.trans e3).trans (Ex.new hp)) upd_same⟩
theorem el_rep {xs : List V} {k : Int} (h1 : EvM ta σ H xs) (h2 : Ev tb σ H (.int k)) (hk : 0 ≤ k ∧ k ≤ 100000) (hz : xs.length * k.toNat ≤ 100000) : EvL (tOp rRep ta tb) σ H (List.replicate k.toNat xs).flatten := fun H1 e Q q =>
  h1 H1 e _ fun a H2 e2 g => h2 H2 (e.trans e2) _ fun H3 e3 => ⟨a, k, xs, rfl, rfl, e3 a _ g, by omega, by omega, sz_of hz, fun p hp => q p _ (fresh_back (e2.trans e3) hp) ((e2.trans e3).trans (Ex.new hp)) upd_same⟩
/-- xs[::-1] -/
theorem el_rev {a : Addr} {xs : List V} (h : Ev te σ H (.ref a)) (hs : SqL K H a xs) : EvL (tRevL K te) σ H xs.reverse := fun H1 e Q q =>
  h H1 e _ fun H2 e2 => ⟨a, xs, rfl, ex_l (e.trans e2) hs, fun p hp => q p _ (fresh_back e2 hp) (e2.trans (Ex.new hp)) upd_same⟩
/-- isinstance(x, C) -/
theorem ev_isi {x c : V} {t u : Value} {b : Bool} (h : EvA ts σ H [x, c]) (k : ClsV c u) (ty : ∀ H1, Ex H H1 → TyX K H1 x t) (e : PySem.W.kitOne K t u = some b) : Ev (tCB (rIsi K) ts) σ H (.bl b) := fun H1 e1 Q q =>
  h H1 e1 _ fun H2 e2 => ⟨x, c, t, u, b, rfl, k, ty H2 (e1.trans e2), e, q H2 e2⟩
theorem tyx_t {a : Addr} {xs : List V} (h : SqT K H a xs) : TyX K H (.ref a) (.type "tuple") := by
  rcases h with (h | ⟨u, h⟩) | h
  · exact .base (.tup h)
  · exact .fTuple h
  · obtain ⟨o, _, _, h1, h2, _⟩ := h
    exact .kTuple h1 h2
theorem ev_add {i j : Int} (h1 : Ev ta σ H (.int i)) (h2 : Ev tb σ H (.int j)) : Ev (tOp (rI0 fun i j => .int (i + j)) ta tb) σ H (.int (i + j)) := ev_op h1 h2 rv_I0
theorem ev_sub {i j : Int} (h1 : Ev ta σ H (.int i)) (h2 : Ev tb σ H (.int j)) : Ev (tOp (rI0 fun i j => .int (i - j)) ta tb) σ H (.int (i - j)) := ev_op h1 h2 rv_I0
theorem ev_neg {i : Int} (h1 : Ev ta σ H (.int i)) : Ev (tUn (rU fun i => .int (-i)) ta) σ H (.int (-i)) := ev_un h1 ru_neg
theorem ev_pow {i j : Int} (h1 : Ev ta σ H (.int i)) (h2 : Ev tb σ H (.int j)) (hc : CPow i j) : Ev (tOp (rI CPow fun i j => .int (i ^ j.toNat)) ta tb) σ H (.int (i ^ j.toNat)) := ev_op h1 h2 (rv_I hc)
/-- xs[i] of a new list -/
theorem ev_ixN {xs : List V} {i : Int} {v : V} (h : EvL ta σ H xs) (hi : ∀ H1, Ex H H1 → Ev tb σ H1 (.int i)) (hat : atI xs i = some v) : Ev (tOp (rIxL K) ta tb) σ H v := ev_opL1 h hi fun p H1 g e => rv_ixL (sq_of g) hat
/-- int(e) -/
theorem ev_int1 {i : Int} (h : Ev te σ H (.int i)) : Ev (tCB (fun xs H Q => (∃ i, xs = [.int i] ∧ Q (.int i) H) ∨ ∃ k, xs = [.bl k] ∧ Q (.int (if k then 1 else 0)) H) (tCons te tNil)) σ H (.int i) := fun H1 e Q q =>
  h H1 e _ fun H2 e2 => .inl ⟨i, rfl, q H2 e2⟩
/-- abs(e) -/
theorem ev_abs {i : Int} (h : Ev te σ H (.int i)) : Ev (tCB (fun xs H Q => ∃ i, xs = [.int i] ∧ Q (.int (if i < 0 then -i else i)) H) (tCons te tNil)) σ H (.int (if i < 0 then -i else i)) := fun H1 e Q q =>
  h H1 e _ fun H2 e2 => ⟨i, rfl, q H2 e2⟩
theorem ev_min2 {i j : Int} (ha : Ev ta σ H (.int i)) (hb : Ev tb σ H (.int j)) : Ev (tCB (fun xs H Q => ∃ i j, xs = [.int i, .int j] ∧ Q (.int (if j < i then j else i)) H) (tCons ta (tCons tb tNil))) σ H (.int (if j < i then j else i)) := fun H1 e Q q =>
  ha H1 e _ fun H2 e2 => hb H2 (e.trans e2) _ fun H3 e3 => ⟨i, j, rfl, q H3 (e2.trans e3)⟩
end
end Nd
/-! Calls within expressions; order of pairs; deep equality of lists of ints. -/
namespace Nd
open PySem PySem.Spec PyProof.Rows L2 Evl
theorem lay_ints : ∀ ns : List Int, PyData.canLayAll0 (ns.map PyData.int) = true
  | [] => rfl
  | _ :: r => by simp [PyData.canLayAll0, PyData.canLay0, lay_ints r]
theorem dep_ints : ∀ ns : List Int, PyData.depthAll (ns.map PyData.int) = 0
  | [] => rfl
  | _ :: r => by simp [PyData.depthAll, PyData.depth, dep_ints r]
theorem shaped_l (ns : List Int) : SeqAt.shaped (.list (ns.map PyData.int)) = true := by
  simp [SeqAt.shaped, PyData.canLay0, PyData.depth, lay_ints, dep_ints]
theorem shaped_t (ns : List Int) : SeqAt.shaped (.tuple (ns.map PyData.int)) = true := by
  simp [SeqAt.shaped, PyData.canLay0, PyData.depth, lay_ints, dep_ints]
section
variable {K : PySem.W.Frag} {σ : L2.St} {H : Hp} {te ta tb : TE} {ts : TA} {D : Ends} {tu tw tz : TS}
/-- f(..) within an expression: f only makes -/
theorem ev_callS {sp : Sp} {E : L2.St → XK} {vs : List V} {z : V} (h : EvA ts σ H vs) (hs : ∀ H1, Ex H H1 → ∀ (Q : VK) (E' : XK), RetV z H1 Q → sp vs H1 Q E') : Ev (tCallS sp E ts) σ H z := fun H1 e Q q =>
  h H1 e _ fun H2 e2 => hs H2 (e.trans e2) Q (E σ) fun H3 e3 => q H3 (e2.trans e3)
theorem eu_callS {sp : Sp} {E : L2.St → XK} {vs xs : List V} (h : EvA ts σ H vs) (hs : ∀ H1, Ex H H1 → ∀ (Q : VK) (E' : XK), RetU xs H1 Q → sp vs H1 Q E') : EvU (tCallS sp E ts) σ H xs := fun H1 e Q q =>
  h H1 e _ fun H2 e2 => hs H2 (e.trans e2) Q (E σ) fun p H3 hp e3 g => q p H3 (fresh_back e2 hp) (e2.trans e3) g
theorem rv_leP {a b p q : Addr} {i j : Int} {ns ms : List Int} (ha : SqT K H a [.int i, .ref p]) (hb : SqT K H b [.int j, .ref q]) (hp : SqT K H p (ns.map V.int)) (hq : SqT K H q (ms.map V.int)) :
    RV (rLeP K) (.ref a) (.ref b) H (.bl (if i = j then lexLe ns ms else decide (i ≤ j))) := fun H1 e _ k =>
  ⟨a, b, p, q, i, j, ns, ms, rfl, rfl, ex_t e ha, ex_t e hb, ex_t e hp, ex_t e hq, shaped_t ns, shaped_t ms, k H1 (Ex.refl H1)⟩
end
end Nd
namespace Nd
open PySem PySem.Spec PyProof.Rows L2 Evl
section
variable {K : PySem.W.Frag} {σ : L2.St} {H H' : Hp} {te ta tb : TE}
mutual
theorem dp_mono (e : Ex H H') : ∀ {v : V} (d : PyData), Dp K H v d → Dp K H' v d
  | _, .none, h => by cases h; exact .non
  | _, .bool b, h => by cases h; exact .bl b
  | _, .int i, h => by cases h; exact .int i
  | _, .str x, h => by cases h; exact .str x
  | _, .list ds, h => by cases h with | lst s a => exact .lst (ex_l e s) (dpa_mono e ds a)
  | _, .tuple ds, h => by cases h with | tup s a => exact .tup (ex_t e s) (dpa_mono e ds a)
  | _, .dict _, h => by cases h
theorem dpa_mono (e : Ex H H') : ∀ {vs : List V} (ds : List PyData), DpAll K H vs ds → DpAll K H' vs ds
  | _, [], h => by cases h; exact .nil
  | _, d :: ds, h => by cases h with | cons a b => exact .cons (dp_mono e d a) (dpa_mono e ds b)
end
theorem rv_eqD {x y : V} {d f : PyData} {b : Bool} (hx : Dp K H x d) (hy : Dp K H y f) (sd : SeqAt.shaped d = true) (sf : SeqAt.shaped f = true) (hb : PyData.eqv d f = b) : RV (rEqD K) x y H (.bl b) := fun H1 e _ q =>
  ⟨d, f, dp_mono e d hx, dp_mono e f hy, sd, sf, by rw [hb]; exact q H1 (Ex.refl H1)⟩
theorem rv_neD {x y : V} {d f : PyData} {b : Bool} (hx : Dp K H x d) (hy : Dp K H y f) (sd : SeqAt.shaped d = true) (sf : SeqAt.shaped f = true) (hb : PyData.eqv d f = b) : RV (rNeD K) x y H (.bl (!b)) := fun H1 e _ q =>
  ⟨d, f, dp_mono e d hx, dp_mono e f hy, sd, sf, by rw [hb]; exact q H1 (Ex.refl H1)⟩
/-- a new tuple, then a value -/
theorem ev_opUV {r : R2} {xs : List V} {y z : V} (ha : EvU ta σ H xs) (hb : Ev tb σ H y) (hr : ∀ p H1, H1 p = some (.tup xs) → Ex H H1 → RV r (.ref p) y H1 z) : Ev (tOp r ta tb) σ H z := fun H1 e Q q =>
  ha H1 e _ fun p H2 hp e2 g => hb H2 (e.trans e2) _ fun H3 e3 => hr p H3 (e3 p _ g) ((e.trans e2).trans e3) H3 (Ex.refl H3) Q fun H4 e4 => q H4 ((e2.trans e3).trans e4)
end
end Nd
/-! In an except suite: isinstance(e, ..), e.f; a loop over a list of tuples. -/
namespace Nd
open PySem PySem.Spec PyProof.Rows L2 Evl
section
variable {K : PySem.W.Frag} {σ : L2.St} {H H' : Hp} {te ta tb tu : TE} {ts : TA}
theorem ev_isX1 {a D dd : Addr} {fv : List (Str × V)} {c : V} {u : Value} {b : Bool} (h : EvA ts σ H [.ref a, c]) (k : ClsV c u) (C : IsC K D) (hd : H dd = some (.xd fv)) (e : PySem.W.kitOne K (.ref D) u = some b) : Ev (tCB (rIsX K a (.ref D) (some dd)) ts) σ H (.bl b) := fun H1 e1 Q q =>
  h H1 e1 _ fun H2 e2 => ⟨D, dd, fv, c, rfl, rfl, C, rfl, (e1.trans e2) dd _ hd, .inl ⟨u, b, k, e, q H2 e2⟩⟩
theorem ev_isXT {a D dd : Addr} {fv : List (Str × V)} {cs : List V} {us : List Value} {b : Bool} (h : Ev te σ H (.ref a)) (hu : EvU tu σ H cs) (k : Paired ClsV cs us) (C : IsC K D) (hd : H dd = some (.xd fv)) (e : PySem.W.kitAny K (.ref D) us = some b) :
    Ev (tCB (rIsX K a (.ref D) (some dd)) (tCons te (tCons tu tNil))) σ H (.bl b) := fun H1 e1 Q q =>
  h H1 e1 _ fun H2 e2 => hu H2 (e1.trans e2) _ fun p H3 hp e3 g => ⟨D, dd, fv, .ref p, rfl, rfl, C, rfl, ((e1.trans e2).trans e3) dd _ hd, .inr ⟨p, cs, us, b, rfl, g, k, e, q H3 (e2.trans e3)⟩⟩
theorem kitAny2 {t c c2 : Value} (h1 : PySem.W.kitOne K t c = some false) (h2 : PySem.W.kitOne K t c2 = some false) : PySem.W.kitAny K t [c, c2] = some false := by
  simp only [PySem.W.kitAny, h1, h2]
theorem ev_xf {a C dd : Addr} {f : Str} {fs : List (Str × V)} {v : V} (h : Ev te σ H (.ref a)) (hd : H dd = some (.xd fs)) (hl : fs.lookup f = some v) : Ev (tXf a (.ref C) (some dd) C f te) σ H v := fun H1 e1 Q q =>
  h H1 e1 _ fun H2 e2 => ⟨rfl, rfl, dd, fs, v, rfl, (e1.trans e2) dd _ hd, hl, q H2 e2⟩
end
end Nd
/-! xs[:c] = ys, the lower bound left out. -/
namespace Nd
open PySem PySem.Spec PyProof.Rows L2 Evl PySem.Calls
theorem low_bounds {c n : Nat} (h : c ≤ n) : sliceBounds none (some (c : Int)) none n = (0, (c : Int), 1) := by
  have k1 : ¬ ((c : Int) < 0) := by omega
  have k2 : max 0 (min (c : Int) (n : Int)) = c := by omega
  simp [sliceBounds, k1, k2]
theorem head_splice (old new : List Value) (c : Nat) : old.toArray.extract 0 0 ++ new.toArray ++ old.toArray.extract c old.toArray.size = (new ++ old.drop c).toArray := by
  have z := splice_eq old new 0 c
  rw [List.take_zero, List.nil_append] at z
  exact z
section
variable {prog : Program} {w : World} {A : Around} {E : Value → Shared → Prop} {s : Shared} {l b k : Addr} {old new : List Value} {n m c : Nat} {top : Value} {Q : Unit → Shared → Prop}
/-- list.__setitem__ with the slice object at k, its parts (None, c, None) -/
theorem set_low (g1 : s.heap.get? l = some { cls := .type "list", data := .seq old.toArray n }) (g2 : s.heap.get? b = some { cls := .type "list", data := .seq new.toArray m }) (apart : l ≠ b)
    (so : s.heap.IsSliceOf k .none top .none) (pt : IsPart top (some (c : Int))) (hc : c ≤ old.length) (sz : old.length + new.length ≤ sizeLine)
    (go : Q () { s with heap := s.heap.update l (Obj.mapSeq fun xs => xs.extract 0 0 ++ new.toArray ++ xs.extract c xs.size) }) :
    wpAny (model prog w) A (setItem (.ref l) (.ref k) (.ref b)) Q E s := by
  have L1 := PySem.IsL.isList g1
  have L2 := PySem.IsL.isList g2
  obtain ⟨ob, gk, ck, dk⟩ := id so
  have tyk : s.TypeIs (.ref k) "slice" := ⟨ob, gk, ck⟩
  have nz : ¬ ((rawPart none == rawInt 0) = true) := Bool.false_ne_true
  have other : Builtin.List.listSameRef (.ref l) (.ref b) = false := by
    unfold Builtin.List.listSameRef
    exact beq_eq_false_iff_ne.mpr apart
  have sz2 : old.toArray.size + new.toArray.size ≤ sizeLine := by rw [List.size_toArray, List.size_toArray]; exact sz
  have mx : (max (0 : Int) (c : Int)).toNat = c := by omega
  have fits : ((fun xs : Array Value => xs.extract 0 0 ++ new.toArray ++ xs.extract c xs.size) old.toArray).size ≤ sizeLine + 1 := by
    simp only [Array.size_append, Array.size_extract]
    omega
  unfold setItem
  try with_reducible refine wpAny_holding ?_
  first | refine wpAny_bind (wpAny_pure ?_) | skip
  refine wpAny_bind (wpAny_sequenceKey (L1.typeIs) (by decide) ?_)
  refine wpAny_bind (wpAny_callSpecial?_slot (name := Str.ofString "__setitem__") (L1.typeIs) slot_list_setitem (wpAny_call_entry slot_list_setitem (L1.typeIs) entry_list_setitem ?_ (args_list_setitem _ _ _)))
  show wpAny _ _ (Builtin.List.listSubscript? (.ref k) >>= _) _ _ s
  refine wpAny_bind ?_
  unfold Builtin.List.listSubscript?
  refine wpAny_bind (wpAny_specialOf tyk slice_no_index ?_)
  simp only [Option.isNone_none, if_true]
  refine wpAny_pure ?_
  show wpAny _ _ (typeOf (.ref k) >>= _) _ _ s
  refine wpAny_bind (wpAny_typeOf tyk ?_)
  first | rw [if_neg (by decide)] | refine PySem.W.KFB.if_not (by decide) ?_
  rw [listSliceParts_eq]
  refine wpAny_bind (wpAny_bind (wpAny_field gk dk (x := .none) rfl (wpAny_bind (wpAny_listPart (.none) ?_))))
  rw [if_neg nz]
  refine wpAny_bind (wpAny_field gk dk (x := .none) rfl (wpAny_bind (wpAny_listPart (.none) ?_)))
  refine wpAny_bind (wpAny_field gk dk (x := top) rfl (wpAny_bind (wpAny_listPart pt (wpAny_pure ?_))))
  first | simp only [other, Bool.false_eq_true, if_false] | refine PySem.W.KFB.if_not other ?_ | (dsimp only; rw [if_neg (by rw [other]; exact Bool.false_ne_true)])
  refine wpAny_bind (m := Builtin.List.listAllItems (.ref b) ("must assign iterable to extended slice")) ?_
  unfold Builtin.List.listAllItems
  refine wpAny_bind (wpAny_typeOf (L2.typeIs) ?_)
  first | refine PySem.W.KFB.if_so (by decide) ?_ | rw [if_pos (by decide)] | simp only [beq_self_eq_true, Bool.true_or, if_true]
  unfold Builtin.List.listItems
  refine wpAny_bind (wpAny_seqItems g2 rfl (wpAny_pure ?_))
  refine wpAny_bind (wpAny_bind (wpAny_seqItems g1 rfl (wpAny_pure ?_)))
  have hb : sliceBounds none (some (c : Int)) none old.toArray.size = (0, (c : Int), 1) := low_bounds (by rw [List.size_toArray]; exact hc)
  refine wpAny_bind (wpAny_of_eq ((sliceIndices_raw none (some (c : Int)) none old.toArray.size (by simp)).trans (congrArg (pure : Int × Int × Int → Sem (Int × Int × Int)) hb)) ?_)
  show wpAny _ _ (if ((1 : Int) == 1) = true then _ else _) _ _ s
  rw [if_pos (by decide)]
  refine wpAny_bind (wpAny_rule ?_)
  first | simp only [notLongL sz2, Bool.false_eq_true, if_false] | refine PySem.W.KFB.if_not (notLongL sz2) ?_
  first | refine wpAny_bind (wpAny_pure ?_) | skip
  show wpAny _ _ (updateSeq l (fun xs => xs.extract 0 ((0 : Int)).toNat ++ new.toArray ++ xs.extract (max (0 : Int) (c : Int)).toNat xs.size) >>= _) _ _ s
  rw [mx]
  refine wpAny_bind (wpAny_updateSeq (hz := Nat.le_trans (Nat.le_add_right _ _) sz2) (_hz' := fits) g1 rfl ?_)
  refine wpAny_bind (wpAny_letGo ?_)
  first
    | exact wpAny_bind (wpAny_pure (wpAny_pure ⟨.none, rfl, wpAny_pure go⟩))
    | exact wpAny_pure ⟨.none, rfl, wpAny_pure go⟩
end
/-- o[:u] = .. of another list -/
def gSl0 (to tu : TE) : TG := fun v σ H Q => to σ H fun x H1 => tu σ H1 fun y H2 => ∃ (l b : Addr) (xs ys : List V) (c : Nat), x = .ref l ∧ v = .ref b ∧ y = .int (c : Int) ∧ H2 l = some (.lst xs) ∧ H2 b = some (.lst ys) ∧ l ≠ b ∧ c ≤ xs.length ∧ xs.length + ys.length ≤ sizeLine ∧
  Q σ (upd H2 l (.lst (ys ++ xs.drop c)))
theorem pg_sl0 {X : Cx} {o u : Expr} {to tu : TE} {p2 pos : Pos} (ho : PE X o to) (hu : PE X u tu) : PG X (.Subscript o (.Slice none (some u) none p2) pos) (gSl0 to tu) := by
  refine ⟨fun pins s σ H v vv Q I r h => ?_⟩
  rw [assign_Subscript]
  refine wpAny_bind (wpAny_holding (thn (ho.run pins s σ H _ I h) fun ov s1 ⟨x, H1, I1, r1, q1⟩ => ?_))
  refine wpAny_bind (wpAny_holding ?_)
  refine wpAny_Slice (thn (po_none.run pins s1 σ H1 (fun z H2 => z = none ∧ H2 = H1) I1 ⟨rfl, rfl⟩) fun vl s2 ⟨z, H2, I2, pl, ez, eH⟩ => ?_)
  subst ez eH
  cases pl
  refine thn (hu.run pins s2 σ H2 _ I2 q1) fun uv s3 ⟨y, H3, I3, r3, q3⟩ => ?_
  rw [evalPart_none]
  refine wpAny_pure ?_
  obtain ⟨l, b, xs, ys, c, rfl, rfl, rfl, gl, gb, ne, hc, sz, q⟩ := q3
  have I4 : Inv X pins σ H3 { s3 with heap := s3.heap.push { cls := .type "slice", data := .fields #[.none, uv, .none] } } := I3.kept (t' := s3.toks) fun _ _ q => Heap.get?_push_of_some _ q
  cases r1
  cases r
  obtain ⟨t, rfl⟩ := r3
  obtain ⟨z1, its, n1, v1, len1, e1⟩ := I4.lstM gl
  obtain ⟨z2, its2, n2, v2, len2, e2⟩ := I4.lstM gb
  refine wpAny_bind (wpAny_standAt (wpAny_bind (wpAny_holding ?_)))
  refine set_low e1 e2 ne (Heap.IsSliceOf.new ..) (.int _ _) (by rw [← len1]; exact hc) (by rw [← len1, ← len2]; exact sz) ?_
  refine wpAny_release ⟨σ, _, I4.lset (its' := its2 ++ its.drop c) (t' := s3.toks) gl e1 (head_splice its its2 c) (Vals.append v2 (v1.drop _)) ?_, q⟩
  rw [List.length_append, List.length_drop]
  omega
section
variable {K : PySem.W.Frag} {σ : L2.St} {H : Hp} {te to tu : TE} {D : Ends} {tz : TS}
/-- xs[:c] = ys[..], ys new -/
theorem q_sl0 {l : Addr} {xs ys : List V} (c : Nat) (hl : H l = some (.lst xs)) (h : EvL te σ H ys) (ho : Ev to σ H (.ref l)) (hu : Ev tu σ H (.int (c : Int))) (hc : c ≤ xs.length) (sz : xs.length + ys.length ≤ 100000)
    (k : ∀ H1, Ex H H1 → tz D σ (upd H1 l (.lst (ys ++ xs.drop c)))) : tSeq (tAsg te (gSl0 to tu)) tz D σ H := h H (Ex.refl H) _ fun b H1 hb e1 g1 => ho H1 e1 _ fun H2 e2 => hu H2 (e1.trans e2) _ fun H3 e3 =>
  ⟨l, b, xs, ys, c, rfl, rfl, rfl, (e2.trans e3) l _ (e1 l _ hl), (e2.trans e3) b _ g1, (fun e => by rw [e, hb] at hl; cases hl), hc, sz_of sz, k H3 ((e1.trans e2).trans e3)⟩
end
end Nd
/-! Own classes: operators by own methods, instances made by an __init__ that may raise. -/
namespace Nd
open PySem PySem.Spec PyProof.Rows L2 Evl
section
variable {X : Cx} {pins : List (Addr × Obj)} {σ : L2.St} {H : Hp} {s : Shared} {a C dx f : Addr} {fs : List (Str × V)}
theorem fr_of (I : Inv X pins σ H s) : ∃ m, Fr X.base X.env.locals s.heap m := by
  obtain ⟨m, n, _⟩ := I.loc
  exact ⟨m, n, I.bk, Nat.le_trans I.ok.bsz I.ok.above⟩
theorem inst_of (I : Inv X pins σ H s) (e : H a = some (.ins C dx fs)) : ∃ ox od, PySem.W.InstAt s.heap a ox C od := by
  obtain ⟨mA, O, _⟩ := ins_get I.hok e
  obtain ⟨od, J, _⟩ := O.look
  exact ⟨_, _, J⟩
theorem no_back {v : V} : ¬ RelV v .notImplemented := by
  intro h
  cases v <;> first | (cases h; done) | (obtain ⟨_, e⟩ := h; cases e) | exact h.elim
theorem back_of {Q : VK} {u : Value} {s' : Shared} (h : EP X pins σ Q u s') : PySem.W.CmpBack (EP X pins σ Q) u s' := by
  cases u with
  | notImplemented =>
    obtain ⟨v, H', J, rv, q⟩ := h
    exact (no_back rv).elim
  | _ => exact h
end
/-- what the text says of an own operator method -/
structure OwnOp (K : PySem.W.Frag) (C f : Addr) (op : Operator) : Prop where
  at_ : PySem.W.findIn K (.ref C) (PySem.dunder op.info.2) = some (some (.ref f))
  fn : PySem.W.isFn K (.ref f) = true
  sf : PySem.W.selfFirst K C = true
/-- .. where the right one may be an int -/
structure OwnInt (K : PySem.W.Frag) (C : Addr) (op : Operator) : Prop where
  hr : PySem.W.findIn K (.ref C) (PySem.dunderR op.info.2) = some none
  h1 : ∃ fo, PySem.W.findIn K (.type "int") (PySem.dunder op.info.2) = some fo
  h2 : ∃ ro, PySem.W.findIn K (.type "int") (PySem.dunderR op.info.2) = some ro
  sub : PySem.W.subIn K (.type "int") (.ref C) = some false
def tOpOwn (C : Addr) (sp : Sp) (E : L2.St → XK) (tl tr : TE) : TE := fun σ H Q => tl σ H fun x H1 => tr σ H1 fun y H2 =>
  (∃ a dx fs, x = .ref a ∧ H2 a = some (.ins C dx fs)) ∧ ((∃ b dy gs, y = .ref b ∧ H2 b = some (.ins C dy gs)) ∨ ∃ z : Int, y = .int z) ∧ sp [x, y] H2 Q (E σ)
def tUnOwn (C : Addr) (sp : Sp) (E : L2.St → XK) (te : TE) : TE := fun σ H Q => te σ H fun x H1 => (∃ a dx fs, x = .ref a ∧ H1 a = some (.ins C dx fs)) ∧ sp [x] H1 Q (E σ)
section
variable {X : Cx} {C f : Addr} {fd : FuncData} {ps : List Str} {sp : Sp} {k : Nat} {W : WX} {l r e : Expr} {tl tr te : TE} {pos : Pos}
theorem pe_opOwn {op : Operator} (M : OwnOp X.K C f op) (N : OwnInt X.K C op) (F : FnOk X.prog X.w X.K X.mg X.base (L2.CX X.prog X.w) k f fd ps sp) (hr : Room k X.A) (hb : Binds X.K fd ps []) (tk : Takes X W) (h1 : PE X l tl) (h2 : PE X r tr) :
    PE X (.BinOp l op r pos) (tOpOwn C sp (WE W) tl tr) := by
  refine ⟨fun pins s σ H Q I h => ?_⟩
  refine wpAny_BinOp (binT h1 h2 I h fun v u s2 x y H2 I2 rx ry q => ?_)
  obtain ⟨⟨a, dx, fs, rfl, ea⟩, hy, q⟩ := q
  obtain rfl : v = .ref a := rx
  obtain ⟨ox, od, IA⟩ := inst_of I2 ea
  obtain ⟨m, Fm⟩ := fr_of I2
  have run := run_fnS (us := [.ref a, u]) (vs := [.ref a, y]) F hr hb (passAt tk σ) I2 (.cons rfl (.cons ry .nil)) q
  have run2 := wpAny_mono run (fun u' s' hq => back_of hq) fun _ _ z => z
  rcases hy with ⟨b, dy, gs, rfl, eb⟩ | ⟨z, rfl⟩
  · obtain rfl : u = .ref b := ry
    obtain ⟨ob, od2, IB⟩ := inst_of I2 eb
    exact PySem.W.binop_K Fm I2.mod.kin IA IB.type M.sf M.at_ M.fn run2
  · obtain ⟨t, rfl⟩ := ry
    obtain ⟨fo, h1⟩ := N.h1
    obtain ⟨ro, h2⟩ := N.h2
    exact PySem.W.ksp_binT Fm I2.mod.kin IA rfl M.sf M.at_ M.fn N.hr (.inl rfl) h1 h2 N.sub run2
theorem pe_negOwn (hm : PySem.W.findIn X.K (.ref C) "__neg__" = some (some (.ref f))) (hf : PySem.W.isFn X.K (.ref f) = true) (F : FnOk X.prog X.w X.K X.mg X.base (L2.CX X.prog X.w) k f fd ps sp) (hr : Room k X.A) (hb : Binds X.K fd ps []) (tk : Takes X W) (h1 : PE X e te) :
    PE X (.UnaryOp .USub e pos) (tUnOwn C sp (WE W) te) := by
  refine ⟨fun pins s σ H Q I h => ?_⟩
  refine UnaryOp_ (thn (h1.run pins s σ H _ I h) fun v s2 ⟨x, H2, I2, rx, q⟩ => ?_)
  obtain ⟨⟨a, dx, fs, rfl, ea⟩, q⟩ := q
  obtain rfl : v = .ref a := rx
  obtain ⟨ox, od, IA⟩ := inst_of I2 ea
  obtain ⟨m, Fm⟩ := fr_of I2
  exact PySem.W.ksp_neg Fm I2.mod.kin IA hm hf (run_fnS (us := [.ref a]) (vs := [.ref a]) F hr hb (passAt tk σ) I2 (.cons rfl .nil) q)
end
end Nd
namespace Nd
open PySem PySem.Spec PyProof.Rows L2 Evl
/-- x == y by the class's own __eq__, which raises nothing -/
def rEqOwn (C : Addr) (sp : Sp) : R2 := fun x y H Q => (∃ a dx fs, x = .ref a ∧ H a = some (.ins C dx fs)) ∧ ((∃ b dy gs, y = .ref b ∧ H b = some (.ins C dy gs)) ∨ ∃ z : Int, y = .int z) ∧ sp [x, y] H Q E0
section
variable {X : Cx} {C f : Addr} {fd : FuncData} {ps : List Str} {sp : Sp} {k : Nat}
theorem op_eqOwn (hm : PySem.W.findIn X.K (.ref C) "__eq__" = some (some (.ref f))) (hf : PySem.W.isFn X.K (.ref f) = true) (hs : PySem.W.notFirst X.K C (.type "int") = true) (F : FnOk X.prog X.w X.K X.mg X.base CX0 k f fd ps sp) (hr : Room k X.A) (hb : Binds X.K fd ps []) :
    OpR X (compareOp .Eq) (rEqOwn C sp) := by
  intro pins s σ H x y v u Q I rx ry q
  obtain ⟨⟨a, dx, fs, rfl, ea⟩, hy, q⟩ := q
  obtain rfl : v = .ref a := rx
  obtain ⟨ox, od, IA⟩ := inst_of I ea
  obtain ⟨m, Fm⟩ := fr_of I
  have run := run_fn (us := [.ref a, u]) (vs := [.ref a, y]) (dvs := []) (ds := []) F hr hb .nil pass0 I (.cons rfl (.cons ry .nil)) q
  have run2 := wpAny_mono run (fun u' s' hq => back_of hq) fun _ _ z => z
  have hu : X.A.units < cLine := by have := hr.units; omega
  show wpAny _ _ (richCompare .Eq (.ref a) u) _ _ _
  rcases hy with ⟨b, dy, gs, rfl, eb⟩ | ⟨z, rfl⟩
  · obtain rfl : u = .ref b := ry
    obtain ⟨ob, od2, IB⟩ := inst_of I eb
    exact PySem.W.cmp_K (op := .Eq) hu Fm I.mod.kin IA IB.type (by simp [PySem.W.notFirst]) hm hf run2
  · obtain ⟨t, rfl⟩ := ry
    exact PySem.W.cmp_K (op := .Eq) hu Fm I.mod.kin IA (PySem.W.Looks.of_pure rfl) hs hm hf run2
end
end Nd
namespace Nd
open PySem PySem.Spec PyProof.Rows L2 Evl
section
variable {prog : Program} {w : World}
theorem in_bool_own (x : Addr) : MeetsIn prog w (Builtin.«bool.__new__» ⟨[.type "bool", .ref x], []⟩) (fun A R s => wpAny (model prog w) A.in1 (truthy (.ref x)) (fun b s' => R (.ok (.ret (.bool b))) s') (fun e s' => R (.error e) s') s) :=
  .of_wp fun A R s h => by
    have f1 := F.conv_sub_bool
    obtain ⟨hp, g, d, tk, os⟩ := s
    repeat (any_goals (first | assumption | (with_reducible refine wpAny_mono h (fun b s' hb => ?_) (fun e s' he => he)) | wp_step))
    all_goals exact ⟨_, rfl, hb⟩
end
section
variable {X : Cx} {C f : Addr} {fd : FuncData} {ps : List Str} {sp : Sp} {k : Nat}
/-- the callee runs somewhere below the body -/
theorem run_below {pins : List (Addr × Obj)} {σ : L2.St} {H : Hp} {s : Shared} {Q : VK} {us : List Value} {vs : List V} {A : Around} {CX : CXT} {E : XK} (F : FnOk X.prog X.w X.K X.mg X.base CX k f fd ps sp) (hr : Room k A) (e0 : Env0 X.prog X.w X.K X.mg X.base A X.stack s H) (hb : Binds X.K fd ps [])
    (hx : ∀ e s', CX X.stack H s E e s' → X.xe e s') (I : Inv X pins σ H s) (r : Vals vs us) (h : sp vs H Q E) : wpAny (model X.prog X.w) A (call (.ref f) us) (EP X pins σ Q) X.xe s := by
  have hl : us.length = ps.length := by rw [← r.length]; exact F.len _ _ _ _ h
  have b := hb s us I.kIn (by rw [List.append_nil]; exact hl)
  rw [List.append_nil] at b
  refine wpAny_call (codeAny_mono (F.run A X.stack s H ⟨us, []⟩ us vs Q E hr e0 b r h) fun r s' hq => ?_)
  cases r with
  | error e => exact hx e s' hq
  | ok fl =>
    cases fl with
    | ret u => exact I.after hq
    | next => exact False.elim hq
    | brk => exact False.elim hq
    | cont => exact False.elim hq
def rBoolOwn (C : Addr) (sp : Sp) : List V → Hp → VK → Prop := fun xs H Q => ∃ a dx fs, xs = [.ref a] ∧ H a = some (.ins C dx fs) ∧ sp [.ref a] H (fun v H' => ∃ b, v = .bl b ∧ Q v H') E0
/-- bool(x) by the class's own __bool__, which raises nothing and gives a bool -/
theorem call_boolOwn (hm : PySem.W.findIn X.K (.ref C) "__bool__" = some (some (.ref f))) (hf : PySem.W.isFn X.K (.ref f) = true) (F : FnOk X.prog X.w X.K X.mg X.base CX0 k f fd ps sp) (hr : Room (k + 2) X.A) (hb : Binds X.K fd ps []) : CallR X (.type "bool") (rBoolOwn C sp) := by
  intro pins s σ H xs us Q I r h
  obtain ⟨a, dx, fs, rfl, ea, q⟩ := h
  obtain ⟨u, rfl, r1⟩ := vals1 r
  obtain rfl : u = .ref a := r1
  obtain ⟨ox, od, IA⟩ := inst_of I ea
  obtain ⟨m, Fm⟩ := fr_of I
  refine callType_newIn PySem.F.called_bool PySem.F.newNe_bool (PySem.F.typeCall_bool_1 _) (PySem.F.newCall_bool_1 _) (fun obj => PySem.F.args_object_init_2 obj _) PySem.F.entry_bool_new (in_bool_own a) ?_
  refine PySem.W.truthy_K Fm I.mod.kin IA hm hf ?_
  refine wpAny_mono (run_below (A := X.A.in1.in1) (us := [.ref a]) (vs := [.ref a]) F hr.in1.in1 I.env0.in1.in1 hb (fun _ _ z => z.elim) I (.cons rfl .nil) q) (fun v s' hv => ?_) fun _ _ z => z
  obtain ⟨v', H', J, rv, b, rfl, q'⟩ := hv
  obtain rfl := rv
  exact ⟨(rfl : _), .bl b, H', J, rfl, q'⟩
end
end Nd
namespace Nd
open PySem PySem.Spec PyProof.Rows L2 Evl PySem.Calls PySem.F
section
variable {X : Cx} {C f : Addr} {fd : FuncData} {ps : List Str} {sp : Sp} {k : Nat}
/-- a call's error leaves from below the body too -/
theorem pass_below {W : WX} (tk : Takes X W) {pins : List (Addr × Obj)} {σ : L2.St} {H : Hp} {s : Shared} (I : Inv X pins σ H s) : ∀ e s', L2.CX X.prog X.w X.stack H s (WE W σ) e s' → X.xe e s' := fun e s' c => passAt tk σ pins H s e s' I c
end
end Nd
namespace Nd
open PySem PySem.Spec PyProof.Rows L2 Evl PySem.Calls PySem.F
theorem cx_E0 {P : Program} {w : World} {outer : List Env} {H : Hp} {s : Shared} {e : Value} {s' : Shared} : L2.CX P w outer H s E0 e s' → False := fun ⟨_, _, _, _, _, _, _, _, _, _, _, _, h⟩ => h
section
variable {X : Cx} {C f : Addr} {fd : FuncData} {ps : List Str} {sp : Sp} {k : Nat} {W : WX}
def rOwn1 (C : Addr) (sp : Sp) : List V → Hp → VK → Prop := fun xs H Q => ∃ a dx fs, xs = [.ref a] ∧ H a = some (.ins C dx fs) ∧ sp [.ref a] H Q E0
/-- abs(x) by the class's own __abs__ that is not refused here -/
theorem call_absOwn (hm : PySem.W.findIn X.K (.ref C) "__abs__" = some (some (.ref f))) (hf : PySem.W.isFn X.K (.ref f) = true) (Fn : FnOk X.prog X.w X.K X.mg X.base (L2.CX X.prog X.w) k f fd ps sp) (hr : Room (k + 1) X.A) (hb : Binds X.K fd ps []) : CallR X (.builtin "abs") (rOwn1 C sp) := by
  intro pins s σ H xs us Q I r h
  obtain ⟨a, dx, fs, rfl, ea, q⟩ := h
  obtain ⟨u, rfl, r1⟩ := vals1 r
  obtain rfl : u = .ref a := r1
  obtain ⟨ox, od, IA⟩ := inst_of I ea
  refine call_function_entry kind_abs plain_abs entry_abs (args_abs _) ?_
  unfold Builtin.«abs»
  refine wpAny_bind (m := oneArg "abs" _) (wpAny_pure ?_)
  refine wpAny_bind (m := callSpecial? (.ref a) (Str.ofString "__abs__")) (PySem.W.special_fn I.kIn IA hm (beq_iff_eq.mp hf) ?_)
  refine wpAny_mono (run_below (A := X.A.in1) (us := [.ref a]) (vs := [.ref a]) Fn hr.in1 I.env0.in1 hb (fun _ _ z => (cx_E0 z).elim) I (.cons rfl .nil) q) (fun v s' hv => ?_) fun _ _ z => z
  exact wpAny_pure ⟨_, rfl, hv⟩
/-- C(..): the class's __init__ may raise -/
theorem run_makeS {pins : List (Addr × Obj)} {σ : L2.St} {H : Hp} {s : Shared} {Q : VK} {us ds : List Value} {vs dvs : List V} (M : Mk X.K C f) (Fn : FnOk X.prog X.w X.K X.mg X.base (L2.CX X.prog X.w) k f fd ps sp) (hr : Room (k + 1) X.A) (hb : Binds X.K fd ps ds) (hd : Vals dvs ds) (tk : Takes X W)
    (I : Inv X pins σ H s) (r : Vals vs us) (h : ∀ x dx, H x = none → H dx = none → dx ≠ x → sp (.ref x :: (vs ++ dvs)) (upd (upd H dx (.own x)) x (.ins C dx [])) (fun v H2 => v = .non ∧ Q (.ref x) H2) (WE W σ)) :
    wpAny (model X.prog X.w) X.A (call (.ref C) us) (EP X pins σ Q) X.xe s := by
  have go := h (s.heap.objs.size + 1) s.heap.objs.size (I.hok.fresh (Nat.le_succ _)) (I.hok.fresh (Nat.le_refl _)) (Nat.ne_of_lt (Nat.lt_succ_self _))
  have J := Inv.made (C := C) I
  have rr : Vals (V.ref (s.heap.objs.size + 1) :: (vs ++ dvs)) (Value.ref (s.heap.objs.size + 1) :: (us ++ ds)) := .cons rfl (r.append hd)
  have len : (Value.ref (s.heap.objs.size + 1) :: us ++ ds).length = ps.length := (rr.length.symm.trans (Fn.len _ _ _ _ go))
  have run := Fn.run _ X.stack _ _ ⟨Value.ref (s.heap.objs.size + 1) :: us, []⟩ (Value.ref (s.heap.objs.size + 1) :: (us ++ ds)) _ _ _ (hr.make C us []) (J.env0.make C us []) (hb _ (Value.ref (s.heap.objs.size + 1) :: us) J.kIn len) rr go
  refine wpAny_call (make_map (f := f) I.kIn M.makes M.init (beq_iff_eq.mp M.fn) (codeAny_mono run fun res s' hq => ?_))
  cases res with
  | error e => exact pass_below tk J e s' hq
  | ok fl =>
    cases fl with
    | ret u =>
      obtain ⟨v, H', J2, rv, ev, q3⟩ := J.after hq
      subst ev
      exact ⟨rv, ⟨V.ref (s.heap.objs.size + 1), H', J2, rfl, q3⟩⟩
    | next => exact hq.elim
    | brk => exact hq.elim
    | cont => exact hq.elim
end
end Nd
/-! Methods by name; instances made; static methods; lcm of great numbers. -/
namespace Nd
open PySem PySem.Spec PyProof.Rows L2 Evl
section
variable {P : Program} {w : World} {K : PySem.W.Frag} {mg : Str → Option Value} {base : Heap}
/-- the method m of the class at C has this body -/
structure MethAt (K : PySem.W.Frag) (C : Addr) (m qual : Str) (st : Stmt) (ps : List Str) : Prop where
  ex : ∃ f fd, Fun K m qual st f fd ∧ Meth K C m f ∧ Binds K fd ps []
/-- .. keeps a promise -/
structure HasM (P : Program) (w : World) (K : PySem.W.Frag) (mg : Str → Option Value) (base : Heap) (k : Nat) (C : Addr) (m : Str) (ps : List Str) (sp : Sp) : Prop where
  ex : ∃ f fd, FnOk P w K mg base (L2.CX P w) k f fd ps sp ∧ Meth K C m f ∧ Binds K fd ps []
theorem MethAt.has {C : Addr} {m qual : Str} {st : Stmt} {N ps : List Str} {k : Nat} {sp : Sp} (D : MethAt K C m qual st ps) (S : FnScope N ps (defScope st)) (len : ∀ vs H Q E, sp vs H Q E → vs.length = ps.length)
    (hbody : ∀ (f : Addr) (cdv : Value) (A : Around) (outer : List Env) (s : Shared) (H : Hp) (vs : List V) (Q : VK) (E : XK), Room k (A.deeper (envOfC qual (defScope st) s.heap.objs.size f cdv)) → sp vs H Q E →
      ∃ t, PSs (cxOf (L2.CX P w) P w K mg base N qual (defScope st) f cdv A outer s H E) (defBody st) t ∧ t { nx := fun _ H' => Q .non H', rt := Q } (L2.start N vs) H) : HasM P w K mg base (k + 1) C m ps sp := by
  obtain ⟨f, fd, Fn, hm, hb⟩ := D.ex
  exact ⟨f, fd, Fn.okX S len fun cdv A outer s H vs Q E hr h => hbody f cdv A outer s H vs Q E hr h, hm, hb⟩
end
/-- o.m(..): the instance, the arguments, the method's promise -/
def tMetS (C : Addr) (m : Str) (sp : Sp) (E : L2.St → XK) (ta : TE) (t : TA) : TE := fun σ H Q => ta σ H fun x H1 => ∃ a dx fs, x = .ref a ∧ H1 a = some (.ins C dx fs) ∧ fs.lookup m = none ∧ t σ H1 fun vs H2 => sp (x :: vs) H2 Q (E σ)
/-- C(..) -/
def tMakS (C : Addr) (sp : Sp) (dvs : List V) (E : L2.St → XK) (t : TA) : TE := fun σ H Q => t σ H fun vs H1 => ∀ x dx, H1 x = none → H1 dx = none → dx ≠ x → sp (.ref x :: (vs ++ dvs)) (upd (upd H1 dx (.own x)) x (.ins C dx [])) (fun v H2 => v = .non ∧ Q (.ref x) H2) (E σ)
section
variable {X : Cx} {C : Addr} {m x : Str} {ps : List Str} {sp : Sp} {k : Nat} {W : WX} {o e : Expr} {es : List Expr} {ta : TE} {t : TA} {p pos apos : Pos} {pl : Sem Bool}
theorem pe_metR (he : PE X o ta) (c : Cls X.K C) (G : HasM X.prog X.w X.K X.mg X.base k C m ps sp) (hr : Room k X.A) (tk : Takes X W) (ha : PA X (e :: es) t)
    (hst : starEach (e :: es) X.env = (false, eval e X.env) :: starEach es X.env := by rfl) (hpl : (backTo pos (starEach es X.env)).any (·.1) = false := by rfl)
    (ht : eval (.Call (.Attribute o m apos) (e :: es) [] pos) X.env = (do
      let ov ← eval o X.env
      standAt apos.atName
      let (f, first) ← holding [ov] (getMethod ov m pl)
      callWith pos f first (backTo pos (starEach (e :: es) X.env)) (backToKw pos (keywordEach [] X.env))) := by rfl) :
    PE X (.Call (.Attribute o m apos) (e :: es) [] pos) (tMetS C m sp (WE W) ta t) := by
  obtain ⟨f, fd, Fn, hm, hb⟩ := G.ex
  refine ⟨fun pins s σ H Q I h => PySem.W.methodCall_KW (pl := pl) (thn (he.run pins s σ H _ I h) fun u s1 ⟨y, H1, I1, rx, a, dx, fs, ex, ea, l, q⟩ => ?_) ht⟩
  subst ex
  obtain rfl : u = Value.ref a := rx
  refine getmeth_ok I1 ea c hm l (PySem.W.callWith_K (first := [.ref a]) (h₀ := X.base) I.ok.mod.kin hm.kp (thn (ha.run pos pins s1 σ H1 _ I1 q) fun us s2 ⟨vs, H2, I2, r, q2⟩ => ⟨I2.kIn, ?_⟩) hst hpl)
  exact run_fnS (us := .ref a :: us) (vs := .ref a :: vs) Fn hr hb (passAt tk σ) I2 (.cons rfl r) q2
theorem pe_metR0 (he : PE X o ta) (c : Cls X.K C) (G : HasM X.prog X.w X.K X.mg X.base k C m ps sp) (hr : Room k X.A) (tk : Takes X W)
    (ht : eval (.Call (.Attribute o m apos) [] [] pos) X.env = (do
      let ov ← eval o X.env
      standAt apos.atName
      let (f, first) ← holding [ov] (getMethod ov m pl)
      callWith pos f first (backTo pos (starEach [] X.env)) (backToKw pos (keywordEach [] X.env))) := by rfl) :
    PE X (.Call (.Attribute o m apos) [] [] pos) (tMetS C m sp (WE W) ta tNil) := by
  obtain ⟨f, fd, Fn, hm, hb⟩ := G.ex
  refine ⟨fun pins s σ H Q I h => PySem.W.methodCall_KW (pl := pl) (thn (he.run pins s σ H _ I h) fun u s1 ⟨y, H1, I1, rx, a, dx, fs, ex, ea, l, q⟩ => ?_) ht⟩
  subst ex
  obtain rfl : u = Value.ref a := rx
  exact getmeth_ok I1 ea c hm l (PySem.W.callWith_K0 (first := [.ref a]) I1.kIn hm.kp (run_fnS (us := [.ref a]) (vs := [.ref a]) Fn hr hb (passAt tk σ) I1 (.cons rfl .nil) q))
/-- what the text says of a class that is made by C(..), its __init__ keeping sp -/
structure MakC (P : Program) (w : World) (K : PySem.W.Frag) (mg : Str → Option Value) (base : Heap) (k : Nat) (C : Addr) (x : Str) (ps : List Str) (sp : Sp) : Prop where
  ex : ∃ f fd, FnOk P w K mg base (L2.CX P w) k f fd ps sp ∧ Mk K C f ∧ Binds K fd ps []
  g : mg x = some (.ref C)
theorem pe_makR (M : MakC X.prog X.w X.K X.mg X.base k C x ps sp) (hr : Room (k + 1) X.A) (tk : Takes X W) (ha : PA X (e :: es) t) (hg : Gl X x := by rfl) (hdb : (x == ("__debug__" : Str)) = false := by decide)
    (hst : starEach (e :: es) X.env = (false, eval e X.env) :: starEach es X.env := by rfl) (hpl : (backTo pos (starEach es X.env)).any (·.1) = false := by rfl) : PE X (.Call (.Name x p) (e :: es) [] pos) (tMakS C sp [] (WE W) t) := by
  obtain ⟨f, fd, Fn, M1, hb⟩ := M.ex
  refine ⟨fun pins s σ H Q I h => wpAny_Call_Name_kw (ld_glob I hg M.g ?_ hdb)⟩
  refine PySem.W.callWith_K (h₀ := X.base) I.ok.mod.kin M1.kp (thn (ha.run pos pins s σ H _ I h) fun us s1 ⟨vs, H1, I1, r, q⟩ => ⟨I1.kIn, ?_⟩) hst hpl
  exact run_makeS M1 Fn hr hb .nil tk I1 r q
/-- .. with the last parameter left to its default, an int -/
structure MakD (P : Program) (w : World) (K : PySem.W.Frag) (mg : Str → Option Value) (base : Heap) (k : Nat) (C : Addr) (x : Str) (ps : List Str) (sp : Sp) (d : Int) : Prop where
  ex : ∃ f fd t, FnOk P w K mg base (L2.CX P w) k f fd ps sp ∧ Mk K C f ∧ Binds K fd ps [.int d t]
  g : mg x = some (.ref C)
theorem pe_makD {d : Int} (M : MakD X.prog X.w X.K X.mg X.base k C x ps sp d) (hr : Room (k + 1) X.A) (tk : Takes X W) (ha : PA X (e :: es) t) (hg : Gl X x := by rfl) (hdb : (x == ("__debug__" : Str)) = false := by decide)
    (hst : starEach (e :: es) X.env = (false, eval e X.env) :: starEach es X.env := by rfl) (hpl : (backTo pos (starEach es X.env)).any (·.1) = false := by rfl) : PE X (.Call (.Name x p) (e :: es) [] pos) (tMakS C sp [.int d] (WE W) t) := by
  obtain ⟨f, fd, td, Fn, M1, hb⟩ := M.ex
  refine ⟨fun pins s σ H Q I h => wpAny_Call_Name_kw (ld_glob I hg M.g ?_ hdb)⟩
  refine PySem.W.callWith_K (h₀ := X.base) I.ok.mod.kin M1.kp (thn (ha.run pos pins s σ H _ I h) fun us s1 ⟨vs, H1, I1, r, q⟩ => ⟨I1.kIn, ?_⟩) hst hpl
  exact run_makeS (dvs := [.int d]) M1 Fn hr hb (.cons (show RelV (.int d) _ from ⟨td, rfl⟩) .nil) tk I1 r q
/-- C.m is a staticmethod: its record at q, its def at g -/
structure StaM (K : PySem.W.Frag) (C : Addr) (mc : Value) (m : Str) (q g : Addr) : Prop where
  rd : ClX.CRead K C mc
  at_ : PySem.W.findCls K (.ref C) mc m = some (.get (.builtin "staticmethod.__get__") (.ref q) .none (.ref C))
  rc : ∃ rest, PySem.W.recIn K q "staticmethod" = some (.ref g :: rest)
  kp : PySem.W.keepIn K (.ref g) = true
structure HasS (P : Program) (w : World) (K : PySem.W.Frag) (mg : Str → Option Value) (base : Heap) (k : Nat) (C : Addr) (m : Str) (ps : List Str) (sp : Sp) : Prop where
  ex : ∃ f fd mc q, FnOk P w K mg base (L2.CX P w) k f fd ps sp ∧ StaM K C mc m q f ∧ Binds K fd ps []
def tStaS (C : Addr) (sp : Sp) (E : L2.St → XK) (ta : TE) (t : TA) : TE := fun σ H Q => ta σ H fun x H1 => x = .ref C ∧ t σ H1 fun vs H2 => sp vs H2 Q (E σ)
theorem pe_staR (he : PE X o ta) (G : HasS X.prog X.w X.K X.mg X.base k C m ps sp) (hr : Room k X.A) (tk : Takes X W) (ha : PA X (e :: es) t)
    (hst : starEach (e :: es) X.env = (false, eval e X.env) :: starEach es X.env := by rfl) (hpl : (backTo pos (starEach es X.env)).any (·.1) = false := by rfl)
    (ht : eval (.Call (.Attribute o m apos) (e :: es) [] pos) X.env = (do
      let ov ← eval o X.env
      standAt apos.atName
      let (f, first) ← holding [ov] (getMethod ov m pl)
      callWith pos f first (backTo pos (starEach (e :: es) X.env)) (backToKw pos (keywordEach [] X.env))) := by rfl) :
    PE X (.Call (.Attribute o m apos) (e :: es) [] pos) (tStaS C sp (WE W) ta t) := by
  obtain ⟨f, fd, mc, q, Fn, S, hb⟩ := G.ex
  refine ⟨fun pins s σ H Q I h => PySem.W.methodCall_KW (pl := pl) (thn (he.run pins s σ H _ I h) fun u s1 ⟨y, H1, I1, rx, ex, g⟩ => ?_) ht⟩
  subst ex
  obtain rfl : u = Value.ref C := rx
  obtain ⟨rest, hrc⟩ := S.rc
  refine PySem.W.method_cls I1.kIn S.rd.ga (PySem.W.cls_bind I1.kIn S.rd.rd S.at_ (wpAny_call (PySem.W.sm_get (s := { s1 with toks := s1.toks + 1 }) I1.kIn hrc (PySem.W.handed_on rfl ?_))))
  have I2 := I1.tok (s1.toks + 1)
  refine PySem.W.callWith_K (first := []) (h₀ := X.base) I.ok.mod.kin S.kp (thn (ha.run pos pins _ σ H1 _ I2 g) fun us s2 ⟨vs, H2, I3, r, q2⟩ => ⟨I3.kIn, ?_⟩) hst hpl
  exact run_fnS (us := us) (vs := vs) Fn hr hb (passAt tk σ) I3 r q2
/-- math.lcm of numbers below 450 digits of thirty bits -/
theorem cr_lcmW : CallR X (.builtin "math.lcm") (fun vs H Q => ∃ a b : Int, vs = [.int a, .int b] ∧ a.natAbs < 2 ^ 13500 ∧ b.natAbs < 2 ^ 13500 ∧ Q (.int ((Nat.lcm a.natAbs b.natAbs : Nat) : Int)) H) := by
  intro pins s σ H vs us Q I r h
  obtain ⟨a, b, rfl, ha, hb, q⟩ := h
  obtain ⟨t, u, rfl⟩ := Vals.int2 r
  have l1 : (max 1 a.natAbs).log2 ≤ 13499 := PySem.W.mg_log (by show max 1 a.natAbs < 2 ^ 13500; exact Nat.max_lt.mpr ⟨Nat.one_lt_two_pow (by decide), ha⟩)
  have l2 : (max a.natAbs b.natAbs).log2 ≤ 13499 := PySem.W.mg_log (by show max a.natAbs b.natAbs < 2 ^ 13500; exact Nat.max_lt.mpr ⟨ha, hb⟩)
  have e : Nat.lcm 1 a.natAbs = a.natAbs := by simp [Nat.lcm]
  have sz : ((((Nat.lcm 1 a.natAbs).lcm b.natAbs : Nat) : Int)).natAbs.log2 < bitsLine := by
    rw [e, Int.natAbs_natCast]
    have le : a.natAbs.lcm b.natAbs ≤ a.natAbs * b.natAbs := Nat.div_le_self _ _
    have lt : a.natAbs * b.natAbs < 2 ^ 27000 := by
      have : a.natAbs * b.natAbs < 2 ^ 13500 * 2 ^ 13500 := Nat.mul_lt_mul'' ha hb
      rwa [← Nat.pow_add] at this
    exact Nat.lt_of_le_of_lt (PySem.W.mg_log (k := 26999) (Nat.lt_of_le_of_lt le lt)) (by decide)
  refine PySem.call_function_meets PySem.W.MGF.kind_lcm PySem.W.MGF.plain_lcm PySem.W.MGF.entry_lcm (PySem.W.MGF.args_lcm _ _) (PySem.W.mg_run_lcm a t b u (by omega) (by omega) sz).meets ?_
  rw [e]
  exact ⟨.int _, H, I.tok _, ⟨_, rfl⟩, q⟩
end
end Nd
/-! Great numbers divided; bundles for own operators; instances as results; comprehensions that make objects. -/
namespace Nd
open PySem PySem.Spec PyProof.Rows L2 Evl
/-- // of a number below 450 digits of thirty bits -/
def CDivV (i j : Int) : Prop := 0 < j ∧ i.natAbs < 2 ^ 13500
theorem noPylongV {x y : Int} (h : x.natAbs < 2 ^ 13500) : Builtin.divisionGoesByPylong x y = false := by
  have hx : (if x == 0 then 0 else x.natAbs.log2 / 30 + 1) ≤ 450 := by
    by_cases h0 : (x == 0) = true
    · rw [if_pos h0]; exact Nat.zero_le _
    · rw [if_neg h0]
      have : x.natAbs.log2 ≤ 13499 := PySem.W.mg_log h
      omega
  show (decide ((if y == 0 then 0 else y.natAbs.log2 / 30 + 1) > 300) && decide ((if x == 0 then 0 else x.natAbs.log2 / 30 + 1) > (if y == 0 then 0 else y.natAbs.log2 / 30 + 1) + 150)) = false
  generalize (if x == 0 then 0 else x.natAbs.log2 / 30 + 1) = a at *
  generalize (if y == 0 then 0 else y.natAbs.log2 / 30 + 1) = b
  by_cases hb : b > 300
  · rw [decide_eq_false (show ¬ a > b + 150 by omega), Bool.and_false]
  · rw [decide_eq_false hb, Bool.false_and]
def CPowW (i j : Int) : Prop := 0 ≤ j ∧ (Builtin.Int.intBits i : Int) * j ≤ 2 ^ 27
def rNotB : R2 := fun x y H Q => ∃ a b, x = .bl a ∧ y = .bl b ∧ Q (.bl (a != b)) H
section
variable {X : Cx}
theorem op_fdivV : OpR X (binaryOp .FloorDiv) (rI CDivV fun i j => .int (i / j)) := opI fun i j _ _ _ _ _ hc q => by
  have h1 : (0 : Int) < j := hc.1
  exact floordiv_int (by omega) (by rw [Int.fdiv_eq_ediv_of_nonneg i (by omega)]; exact q) (.inl (noPylongV hc.2))
theorem op_powW : OpR X (binaryOp .Pow) (rI CPowW fun i j => .int (i ^ j.toNat)) := opI fun _ _ _ _ _ _ _ hc q => pow_int hc.1 hc.2 q
theorem op_isnotB : OpR X (compareOp .IsNot) rNotB := by
  intro pins s σ H x y v u Q I rx ry h
  obtain ⟨a, b, rfl, rfl, q⟩ := h
  cases rx
  cases ry
  refine wpAny_isNot_plain rfl (fin_bl I q ?_)
  cases a <;> cases b <;> rfl
end
theorem cMulW {i j : Int} {a b : Nat} (ha : i.natAbs < 2 ^ a) (hb : j.natAbs < 2 ^ b) (h0 : 0 < a := by decide) (h1 : 0 < b := by decide) (h : a + b ≤ 1000000 := by decide) : CMulW i j := wide_mul ha hb h0 h1 h
/-! ### bundles -/
structure HasO (P : Program) (w : World) (K : PySem.W.Frag) (mg : Str → Option Value) (base : Heap) (k : Nat) (C : Addr) (op : Operator) (ps : List Str) (sp : Sp) : Prop where
  ex : ∃ f fd, FnOk P w K mg base (L2.CX P w) k f fd ps sp ∧ OwnOp K C f op ∧ Binds K fd ps []
  int : OwnInt K C op
structure HasF (P : Program) (w : World) (K : PySem.W.Frag) (mg : Str → Option Value) (base : Heap) (k : Nat) (C : Addr) (m : Str) (ps : List Str) (sp : Sp) : Prop where
  ex : ∃ f fd, FnOk P w K mg base (L2.CX P w) k f fd ps sp ∧ (PySem.W.findIn K (.ref C) m = some (some (.ref f)) ∧ PySem.W.isFn K (.ref f) = true) ∧ Binds K fd ps []
theorem HasM.f {P : Program} {w : World} {K : PySem.W.Frag} {mg : Str → Option Value} {base : Heap} {k : Nat} {C : Addr} {m : Str} {ps : List Str} {sp : Sp} (G : HasM P w K mg base k C m ps sp) : HasF P w K mg base k C m ps sp := by
  obtain ⟨f, fd, F, M, b⟩ := G.ex
  exact ⟨f, fd, F, ⟨M.at_, M.fn⟩, b⟩
theorem HasM.o {P : Program} {w : World} {K : PySem.W.Frag} {mg : Str → Option Value} {base : Heap} {k : Nat} {C : Addr} {m : Str} {ps : List Str} {sp : Sp} {op : Operator} (G : HasM P w K mg base k C m ps sp) (e : PySem.dunder op.info.2 = m) (sf : PySem.W.selfFirst K C = true) (N : OwnInt K C op) : HasO P w K mg base k C op ps sp := by
  obtain ⟨f, fd, F, M, b⟩ := G.ex
  exact ⟨⟨f, fd, F, ⟨by rw [e]; exact M.at_, M.fn, sf⟩, b⟩, N⟩
theorem FnOk_calm {P : Program} {w : World} {K : PySem.W.Frag} {mg : Str → Option Value} {base : Heap} {k : Nat} {f : Addr} {fd : FuncData} {ps : List Str} {sp : Sp} (F : FnOk P w K mg base (L2.CX P w) k f fd ps sp) : FnOk P w K mg base CX0 k f fd ps (fun vs H Q _ => sp vs H Q E0) :=
  ⟨fun vs H Q E q => F.len vs H Q E0 q, fun A outer s H args us vs Q E hr he hb hv hs => codeAny_mono (F.run A outer s H args us vs Q E0 hr he hb hv hs) fun r s' q => by
    cases r with
    | error e => exact (cx_E0 q).elim
    | ok fl => cases fl <;> exact q⟩
section
variable {X : Cx} {C : Addr} {m x : Str} {ps : List Str} {sp : Sp} {k : Nat} {W : WX} {o e l r : Expr} {es : List Expr} {te tl tr ta : TE} {t : TA} {p pos apos : Pos} {pl : Sem Bool}
theorem pe_opR {op : Operator} (G : HasO X.prog X.w X.K X.mg X.base k C op ps sp) (hr : Room k X.A) (tk : Takes X W) (h1 : PE X l tl) (h2 : PE X r tr) : PE X (.BinOp l op r pos) (tOpOwn C sp (WE W) tl tr) := by
  obtain ⟨f, fd, F, M, b⟩ := G.ex
  exact pe_opOwn M G.int F hr b tk h1 h2
theorem pe_negR (G : HasF X.prog X.w X.K X.mg X.base k C "__neg__" ps sp) (hr : Room k X.A) (tk : Takes X W) (h1 : PE X e te) : PE X (.UnaryOp .USub e pos) (tUnOwn C sp (WE W) te) := by
  obtain ⟨f, fd, F, M, b⟩ := G.ex
  exact pe_negOwn M.1 M.2 F hr b tk h1
theorem op_eqR (G : HasF X.prog X.w X.K X.mg X.base k C "__eq__" ps sp) (hs : PySem.W.notFirst X.K C (.type "int") = true) (hr : Room k X.A) : OpR X (compareOp .Eq) (rEqOwn C sp) := by
  obtain ⟨f, fd, F, M, b⟩ := G.ex
  have h := op_eqOwn (sp := fun vs H Q _ => sp vs H Q E0) M.1 M.2 hs (FnOk_calm F) hr b
  exact h
theorem call_boolR (G : HasF X.prog X.w X.K X.mg X.base k C "__bool__" ps sp) (hr : Room (k + 2) X.A) : CallR X (.type "bool") (rBoolOwn C sp) := by
  obtain ⟨f, fd, F, M, b⟩ := G.ex
  have h := call_boolOwn (sp := fun vs H Q _ => sp vs H Q E0) M.1 M.2 (FnOk_calm F) hr b
  exact h
theorem call_absR (G : HasF X.prog X.w X.K X.mg X.base k C "__abs__" ps sp) (hr : Room (k + 1) X.A) : CallR X (.builtin "abs") (rOwn1 C sp) := by
  obtain ⟨f, fd, F, M, b⟩ := G.ex
  exact call_absOwn M.1 M.2 F hr b
/-- the same call of the class where nothing is raised (in a comprehension's block) -/
theorem run_makeN {pins : List (Addr × Obj)} {σ : L2.St} {H : Hp} {s : Shared} {Q : VK} {us ds : List Value} {vs dvs : List V} {f : Addr} {fd : FuncData} (M : Mk X.K C f) (Fn : FnOk X.prog X.w X.K X.mg X.base (L2.CX X.prog X.w) k f fd ps sp) (hr : Room (k + 1) X.A) (hb : Binds X.K fd ps ds) (hd : Vals dvs ds)
    (I : Inv X pins σ H s) (r : Vals vs us) (h : ∀ x dx, H x = none → H dx = none → dx ≠ x → sp (.ref x :: (vs ++ dvs)) (upd (upd H dx (.own x)) x (.ins C dx [])) (fun v H2 => v = .non ∧ Q (.ref x) H2) E0) :
    wpAny (model X.prog X.w) X.A (call (.ref C) us) (EP X pins σ Q) X.xe s := run_make M Fn hr hb hd (fun pins σ H s e s' I c => (cx_E0 c).elim) I r h
theorem pe_makN (M : MakC X.prog X.w X.K X.mg X.base k C x ps sp) (hr : Room (k + 1) X.A) (ha : PA X (e :: es) t) (hg : Gl X x := by rfl) (hdb : (x == ("__debug__" : Str)) = false := by decide)
    (hst : starEach (e :: es) X.env = (false, eval e X.env) :: starEach es X.env := by rfl) (hpl : (backTo pos (starEach es X.env)).any (·.1) = false := by rfl) : PE X (.Call (.Name x p) (e :: es) [] pos) (tMakS C sp [] (fun _ => E0) t) := by
  obtain ⟨f, fd, Fn, M1, hb⟩ := M.ex
  refine ⟨fun pins s σ H Q I h => wpAny_Call_Name_kw (ld_glob I hg M.g ?_ hdb)⟩
  refine PySem.W.callWith_K (h₀ := X.base) I.ok.mod.kin M1.kp (thn (ha.run pos pins s σ H _ I h) fun us s1 ⟨vs, H1, I1, r, q⟩ => ⟨I1.kIn, ?_⟩) hst hpl
  exact run_makeN M1 Fn hr hb .nil I1 r q
end
theorem pe_fldK {X : Cx} (K : PySem.W.Frag) {e : Expr} {f : Str} {pos : Pos} {ta : TE} (he : PE X e ta) (hb : attributeBase e f X.env (eval e X.env) = eval e X.env := by rfl) (h : X.K = K := by rfl) : PE X (.Attribute e f pos) (tFld K ta f) := by subst h; exact pe_fld he hb
/-! ### readings -/
/-- a new instance of the class at C with these fields -/
def RetI (C : Addr) (fs : List (Str × V)) (H : Hp) (Q : VK) : Prop := ∀ a dx H2, H a = none → Ex H H2 → H2 a = some (.ins C dx fs) → Q (.ref a) H2
theorem RetI.mono {C : Addr} {fs : List (Str × V)} {H H' : Hp} {Q : VK} (h : RetI C fs H Q) (e : Ex H H') : RetI C fs H' Q := fun a dx H2 ha e2 g => h a dx H2 (fresh_back e ha) (e.trans e2) g
def EvI (C : Addr) (te : TE) (σ : L2.St) (H : Hp) (fs : List (Str × V)) : Prop := ∀ H1, Ex H H1 → ∀ Q : VK, RetI C fs H1 Q → te σ H1 Q
section
variable {K : PySem.W.Frag} {σ : L2.St} {H H' : Hp} {te ta tb tl : TE} {ts : TA} {tz : TS} {D : Ends} {C a dx : Addr} {fs : List (Str × V)} {f : Str} {u v : V}
theorem ev_fld (h : Ev te σ H (.ref a)) (g : H a = some (.ins C dx fs)) (c : Cls K C) (n : NoAttr K C f) (l : fs.lookup f = some v) : Ev (tFld K te f) σ H v := fun H1 e Q q =>
  h H1 e _ fun H2 e2 => ⟨a, C, dx, fs, v, rfl, (e.trans e2) a _ g, c, n, l, q H2 e2⟩
/-- o.f = e, then the rest -/
theorem q_fldset (hv : Ev te σ H v) (ho : Ev ta σ H (.ref a)) (g : H a = some (.ins C dx fs)) (c : Cls K C) (n : NoAttr K C f) (l : fs.length < 1000) (k : ∀ H1, Ex H H1 → tz D σ (upd H1 a (.ins C dx (putF f v fs)))) : tSeq (sFld K ta te f) tz D σ H :=
  hv H (Ex.refl H) _ fun H1 e1 => ho H1 e1 _ fun H2 e2 => ⟨a, C, dx, fs, rfl, (e1.trans e2) a _ g, c, n, l, k H2 (e1.trans e2)⟩
theorem s_fldset (hv : Ev te σ H v) (ho : Ev ta σ H (.ref a)) (g : H a = some (.ins C dx fs)) (c : Cls K C) (n : NoAttr K C f) (l : fs.length < 1000) (k : ∀ H1, Ex H H1 → D.nx σ (upd H1 a (.ins C dx (putF f v fs)))) : sFld K ta te f D σ H :=
  hv H (Ex.refl H) _ fun H1 e1 => ho H1 e1 _ fun H2 e2 => ⟨a, C, dx, fs, rfl, (e1.trans e2) a _ g, c, n, l, k H2 (e1.trans e2)⟩
theorem ev_gcd {x y : Int} (h : EvA ts σ H [.int x, .int y]) : Ev (tCB rGcd ts) σ H (.int ((Nat.gcd x.natAbs y.natAbs : Nat) : Int)) := fun H1 e Q q => h H1 e _ fun H2 e2 => ⟨x, y, rfl, q H2 e2⟩
theorem q_asgI {i : Nat} (h : EvI C te σ H fs) (k : ∀ a dx H1, H a = none → Ex H H1 → H1 a = some (.ins C dx fs) → tz D (σ.set i (some (.ref a))) H1) : tSeq (tAsg te (gName i)) tz D σ H := h H (Ex.refl H) _ k
theorem s_retI (h : EvI C te σ H fs) (k : RetI C fs H D.rt) : tRet te D σ H := h H (Ex.refl H) _ k
/-- x, y = a tuple -/
theorem q_unp2 {i j : Nat} {p : Addr} (h : Ev te σ H (.ref p)) (g : SqT K H p [u, v]) (k : ∀ H1, Ex H H1 → tz D ((σ.set i (some u)).set j (some v)) H1) : tSeq (tAsg te (gTup K 2 (gCons (gName i) (gCons (gName j) gNil)))) tz D σ H :=
  h H (Ex.refl H) _ fun H1 e1 => ⟨p, [u, v], rfl, ex_t e1 g, rfl, u, [v], rfl, v, [], rfl, rfl, k H1 e1⟩
theorem q_unp2U {i j : Nat} (h : EvU te σ H [u, v]) (k : ∀ H1, Ex H H1 → tz D ((σ.set i (some u)).set j (some v)) H1) : tSeq (tAsg te (gTup K 2 (gCons (gName i) (gCons (gName j) gNil)))) tz D σ H :=
  h H (Ex.refl H) _ fun p H1 _ e1 g => ⟨p, [u, v], rfl, st_of g, rfl, u, [v], rfl, v, [], rfl, rfl, k H1 e1⟩
theorem ev_powW {i j : Int} (h1 : Ev ta σ H (.int i)) (h2 : Ev tb σ H (.int j)) (hc : CPowW i j) : Ev (tOp (rI CPowW fun i j => .int (i ^ j.toNat)) ta tb) σ H (.int (i ^ j.toNat)) := ev_op h1 h2 (rv_I hc)
theorem ev_mulW {i j : Int} (h1 : Ev ta σ H (.int i)) (h2 : Ev tb σ H (.int j)) (hc : CMulW i j) : Ev (tOp (rI CMulW fun i j => .int (i * j)) ta tb) σ H (.int (i * j)) := ev_op h1 h2 (rv_I hc)
theorem ev_divV {i j : Int} (h1 : Ev ta σ H (.int i)) (h2 : Ev tb σ H (.int j)) (hc : CDivV i j) : Ev (tOp (rI CDivV fun i j => .int (i / j)) ta tb) σ H (.int (i / j)) := ev_op h1 h2 (rv_I hc)
theorem ev_notB {x y : Bool} (h1 : Ev ta σ H (.bl x)) (h2 : Ev tb σ H (.bl y)) : Ev (tOp rNotB ta tb) σ H (.bl (x != y)) := ev_op h1 h2 fun H1 _ Q q => ⟨x, y, rfl, rfl, q H1 (Ex.refl H1)⟩
/-- int(b) -/
theorem ev_intB {b : Bool} (h : Ev te σ H (.bl b)) : Ev (tCB (fun xs H Q => (∃ i, xs = [.int i] ∧ Q (.int i) H) ∨ ∃ k, xs = [.bl k] ∧ Q (.int (if k then 1 else 0)) H) (tCons te tNil)) σ H (.int (if b then 1 else 0)) := fun H1 e Q q =>
  h H1 e _ fun H2 e2 => .inr ⟨b, rfl, q H2 e2⟩
theorem ev_bool1 {b : Bool} (h : Ev te σ H (.bl b)) : Ev (tCB (fun xs H Q => (∃ i, xs = [.int i] ∧ Q (.bl (i != 0)) H) ∨ ∃ k, xs = [.bl k] ∧ Q (.bl k) H) (tCons te tNil)) σ H (.bl b) := fun H1 e Q q =>
  h H1 e _ fun H2 e2 => .inr ⟨b, rfl, q H2 e2⟩
/-- evaluates to some value of which P holds -/
def EvG (te : TE) (σ : L2.St) (H : Hp) (P : V → Hp → Prop) : Prop := ∀ H1, Ex H H1 → ∀ Q : VK, (∀ x H2, Ex H1 H2 → P x H2 → Q x H2) → te σ H1 Q
/-- a word that stays where things are made and where a list changes -/
structure Solid (P : V → Hp → Prop) : Prop where
  ex : ∀ {x : V} {H H' : Hp}, Ex H H' → P x H → P x H'
  upd : ∀ {x : V} {H : Hp} {l : Addr} {ys zs : List V}, H l = some (.lst ys) → P x H → P x (L2.upd H l (.lst zs))
/-- evaluates to a new list, of each place of which P holds -/
def EvLG (te : TE) (σ : L2.St) (H : Hp) (n : Nat) (P : Nat → V → Hp → Prop) : Prop := ∀ H1, Ex H H1 → ∀ Q : VK, (∀ p ys H2, H1 p = none → Ex H1 H2 → H2 p = some (.lst ys) → ys.length = n → (∀ i y, ys[i]? = some y → P i y H2) → Q (.ref p) H2) → te σ H1 Q
theorem lg_turn {P : Nat → V → Hp → Prop} (hP : ∀ i, Solid (P i)) {Hb : Hp} {Dl : Addr} {i : Nat} {σ2 : L2.St} (hD : Hb Dl = none) (hi : i < 50000) (he : EvG te σ2 Hb (P i)) {H' : Hp} (p : Ex Hb H' ∧ ∃ ys, H' Dl = some (.lst ys) ∧ ys.length = i ∧ ∀ j y, ys[j]? = some y → P j y H') :
    te σ2 H' fun y H4 => ∃ acc, H4 Dl = some (.lst acc) ∧ acc.length < sizeLine ∧ (Ex Hb (upd H4 Dl (.lst (acc ++ [y]))) ∧ ∃ ys, upd H4 Dl (.lst (acc ++ [y])) Dl = some (.lst ys) ∧ ys.length = i + 1 ∧ ∀ j z, ys[j]? = some z → P j z (upd H4 Dl (.lst (acc ++ [y])))) := by
  obtain ⟨x, ys, g, hl, hp⟩ := p
  refine he H' x _ fun y H4 e4 py => ⟨ys, e4 Dl _ g, sz_lt (by omega), Ex.mut (x.trans e4) hD, ys ++ [y], upd_same, by rw [List.length_append, hl]; rfl, fun j z hz => ?_⟩
  by_cases hj : j < ys.length
  · rw [List.getElem?_append_left hj] at hz
    exact (hP j).upd (e4 Dl _ g) ((hP j).ex e4 (hp j z hz))
  · rw [List.getElem?_append_right (by omega)] at hz
    have hj2 : j - ys.length = 0 := by
      have := (List.getElem?_eq_some_iff.mp hz).1
      simp at this
      omega
    rw [hj2] at hz
    obtain rfl : y = z := by simpa using hz
    have : j = i := by omega
    subst this
    exact (hP j).upd (e4 Dl _ g) py
theorem lg_lcL {xs : List V} {j : Nat} {vs : List Nat} {p : Addr} (P : Nat → V → Hp → Prop) (hP : ∀ i, Solid (P i)) (h : Ev tl σ H (.ref p)) (hx : SqL K H p xs) (hz : xs.length ≤ 40000) (hw : ∀ x, wipe ((wipe σ vs).set j (some x)) vs = wipe σ vs)
    (he : ∀ (i : Nat) (x : V) H1, Ex H H1 → xs[i]? = some x → EvG te ((wipe σ vs).set j (some x)) H1 (P i)) : EvLG (tLc (iList K tl) (gName j) tYes te vs) σ H xs.length P := fun H0 e Q q => h H0 e _ fun H1 e1 => ⟨p, rfl, ⟨xs, ex_l (e.trans e1) hx⟩, fun Dl hD =>
  lc_list (xs := xs) (fun i H' => Ex H1 H' ∧ ∃ ys, H' Dl = some (.lst ys) ∧ ys.length = i ∧ ∀ j y, ys[j]? = some y → P j y H') ⟨Ex.new hD, [], upd_same, rfl, fun j y hy => by simp at hy⟩ (fun i H' _ w => ex_l ((e.trans e1).trans w.1) hx)
    (fun i x H' hi w => ⟨hw x, lg_turn hP hD (by have := (List.getElem?_eq_some_iff.mp hi).1; omega) (he i x H1 (e.trans e1) hi) w⟩)
    (fun H' ⟨x, ys, g, hl, hp⟩ => q Dl ys H' (fresh_back e1 hD) (e1.trans x) g hl hp)⟩
theorem lg_lcS {xs : List V} {j : Nat} {vs : List Nat} {p : Addr} (P : Nat → V → Hp → Prop) (hP : ∀ i, Solid (P i)) (h : Ev tl σ H (.ref p)) (hx : SqS K H p xs) (hz : xs.length ≤ 40000) (hw : ∀ x, wipe ((wipe σ vs).set j (some x)) vs = wipe σ vs)
    (he : ∀ (i : Nat) (x : V) H1, Ex H H1 → xs[i]? = some x → EvG te ((wipe σ vs).set j (some x)) H1 (P i)) : EvLG (tLc (iSeq K tl) (gName j) tYes te vs) σ H xs.length P := fun H0 e Q q => h H0 e _ fun H1 e1 => by
  rcases hx with hx | hx
  · refine ⟨p, xs, rfl, .inl ⟨ex_l (e.trans e1) hx, fun Dl hD => ?_⟩⟩
    exact lc_list (xs := xs) (fun i H' => Ex H1 H' ∧ ∃ ys, H' Dl = some (.lst ys) ∧ ys.length = i ∧ ∀ j y, ys[j]? = some y → P j y H') ⟨Ex.new hD, [], upd_same, rfl, fun j y hy => by simp at hy⟩ (fun i H' _ w => ex_l ((e.trans e1).trans w.1) hx)
      (fun i x H' hi w => ⟨hw x, lg_turn hP hD (by have := (List.getElem?_eq_some_iff.mp hi).1; omega) (he i x H1 (e.trans e1) hi) w⟩)
      (fun H' ⟨x, ys, g, hl, hp⟩ => q Dl ys H' (fresh_back e1 hD) (e1.trans x) g hl hp)
  · refine ⟨p, xs, rfl, .inr ⟨ex_t (e.trans e1) hx, fun Dl hD => ?_⟩⟩
    exact lc_tup (xs := xs) (fun i H' => Ex H1 H' ∧ ∃ ys, H' Dl = some (.lst ys) ∧ ys.length = i ∧ ∀ j y, ys[j]? = some y → P j y H') ⟨Ex.new hD, [], upd_same, rfl, fun j y hy => by simp at hy⟩ (fun i H' _ w => ex_t ((e.trans e1).trans w.1) hx)
      (fun i x H' hi w => ⟨hw x, lg_turn hP hD (by have := (List.getElem?_eq_some_iff.mp hi).1; omega) (he i x H1 (e.trans e1) hi) w⟩)
      (fun H' ⟨x, ys, g, hl, hp⟩ => q Dl ys H' (fresh_back e1 hD) (e1.trans x) g hl hp)
theorem q_asgLG {i n : Nat} {P : Nat → V → Hp → Prop} (h : EvLG te σ H n P) (k : ∀ p ys H1, H p = none → Ex H H1 → H1 p = some (.lst ys) → ys.length = n → (∀ j y, ys[j]? = some y → P j y H1) → tz D (σ.set i (some (.ref p))) H1) : tSeq (tAsg te (gName i)) tz D σ H := h H (Ex.refl H) _ k
end
end Nd
/-! Arguments of which something holds; the drawn tape beside tuples and instances; deep equality of lists. -/
namespace Nd
open PySem PySem.Spec PyProof.Rows L2 Evl
/-- arguments of which P holds -/
def EvAP (ts : TA) (σ : L2.St) (H : Hp) (P : List V → Hp → Prop) : Prop := ∀ H1, Ex H H1 → ∀ Q : List V → Hp → Prop, (∀ vs H2, Ex H1 H2 → P vs H2 → Q vs H2) → ts σ H1 Q
section
variable {K : PySem.W.Frag} {σ : L2.St} {H H2 : Hp} {te : TE} {ts : TA} {tz tu : TS} {D : Ends} {P : List V → Hp → Prop} {E : L2.St → XK} {sp : Sp} {p a : Addr}
theorem ap_nil : EvAP tNil σ H (fun vs _ => vs = []) := fun H1 _ Q q => q [] H1 (Ex.refl H1) rfl
theorem ap_cons {x : V} (h : Ev te σ H x) (hr : EvAP ts σ H P) : EvAP (tCons te ts) σ H (fun vs H2 => ∃ r, vs = x :: r ∧ P r H2) := fun H1 e Q q => h H1 e _ fun H2 e2 => hr H2 (e.trans e2) _ fun r H3 e3 hp => q _ H3 (e2.trans e3) ⟨r, rfl, hp⟩
theorem ap_consU {xs : List V} (h : EvU te σ H xs) (hr : EvAP ts σ H P) : EvAP (tCons te ts) σ H (fun vs H2 => ∃ p r, vs = .ref p :: r ∧ H2 p = some (.tup xs) ∧ P r H2) := fun H1 e Q q =>
  h H1 e _ fun p H2 _ e2 g => hr H2 (e.trans e2) _ fun r H3 e3 hp => q _ H3 (e2.trans e3) ⟨p, r, rfl, e3 p _ g, hp⟩
theorem ap_consL {xs : List V} (h : EvL te σ H xs) (hr : EvAP ts σ H P) : EvAP (tCons te ts) σ H (fun vs H2 => ∃ p r, vs = .ref p :: r ∧ H2 p = some (.lst xs) ∧ P r H2) := fun H1 e Q q =>
  h H1 e _ fun p H2 _ e2 g => hr H2 (e.trans e2) _ fun r H3 e3 hp => q _ H3 (e2.trans e3) ⟨p, r, rfl, e3 p _ g, hp⟩
theorem ev_callP {z : V} (h : EvAP ts σ H P) (hs : ∀ vs H1, Ex H H1 → P vs H1 → ∀ (Q : VK) (E' : XK), RetV z H1 Q → sp vs H1 Q E') : Ev (tCallS sp E ts) σ H z := fun H1 e Q q => h H1 e _ fun vs H2 e2 hp => hs vs H2 (e.trans e2) hp Q _ fun H3 e3 => q H3 (e2.trans e3)
theorem eu_callP {xs : List V} (h : EvAP ts σ H P) (hs : ∀ vs H1, Ex H H1 → P vs H1 → ∀ (Q : VK) (E' : XK), RetU xs H1 Q → sp vs H1 Q E') : EvU (tCallS sp E ts) σ H xs := fun H1 e Q q => h H1 e _ fun vs H2 e2 hp => hs vs H2 (e.trans e2) hp Q _ fun p H3 hp e3 g => q p H3 (fresh_back e2 hp) (e2.trans e3) g
/-- a new list of such arguments, given a name -/
theorem q_asgLP {i : Nat} (h : EvAP ts σ H P) (k : ∀ l vs H1 H2, Ex H H1 → P vs H1 → H1 l = none → H2 = upd H1 l (.lst vs) → tz D (σ.set i (some (.ref l))) H2) (hz : ∀ vs H1, P vs H1 → vs.length ≤ 100000) : tSeq (tAsg (tLst ts) (gName i)) tz D σ H :=
  h H (Ex.refl H) _ fun vs H1 e1 hp => ⟨sz_of (hz vs H1 hp), fun l hl => k l vs H1 _ e1 hp hl rfl⟩
/-- if not f(..): .. where f gives True and may change something -/
theorem q_callNot {vs : List V} (R : Hp → Prop) (h : EvA ts σ H vs) (hs : ∀ H1, Ex H H1 → ∀ (Q' : VK) (E' : XK), (∀ H2, R H2 → Q' (.bl true) H2) → sp vs H1 Q' E') (k : ∀ H2, R H2 → tz D σ H2) : tSeq (tIfS (tNot (tTest (tCallS sp E ts))) tu tNext) tz D σ H :=
  h H (Ex.refl H) _ fun H1 e1 => hs H1 e1 _ _ fun H2 r => ⟨true, rfl, k H2 r⟩
end
theorem But.tup {p a : Addr} {H H2 : Hp} {xs : List V} (b : But p H H2) (t : Tape H p) (g : H a = some (.tup xs)) : H2 a = some (.tup xs) := b a _ (fun e => by
  subst e
  obtain ⟨ds, h⟩ := t
  rw [h] at g
  cases g) g
theorem But.ins {p a C dx : Addr} {H H2 : Hp} {fs : List (Str × V)} (b : But p H H2) (t : Tape H p) (g : H a = some (.ins C dx fs)) : H2 a = some (.ins C dx fs) := b a _ (fun e => by
  subst e
  obtain ⟨ds, h⟩ := t
  rw [h] at g
  cases g) g
theorem Tape.ne {p l : Addr} {H : Hp} (t : Tape H p) (h : H l = none) : l ≠ p := fun e => by
  subst e
  obtain ⟨ds, g⟩ := t
  rw [h] at g
  cases g
theorem dpAll_of {K : PySem.W.Frag} {H : Hp} : ∀ (ys : List V) (ds : List PyData), ys.length = ds.length → (∀ (i : Nat) (y : V), ys[i]? = some y → ∃ d, ds[i]? = some d ∧ Dp K H y d) → DpAll K H ys ds
  | [], [], _, _ => .nil
  | [], _ :: _, h, _ => by simp at h
  | _ :: _, [], h, _ => by simp at h
  | y :: ys, d :: ds, h, k => by
    obtain ⟨d', h1, h2⟩ := k 0 y rfl
    obtain rfl : d = d' := by simpa using h1
    exact .cons h2 (dpAll_of ys ds (by simpa using h) fun i z hz => k (i + 1) z hz)
theorem given_mapV (ks : List Int) (g : Int → V) : given ks.length (fun _ => true) (fun i => g (ks.getD i 0)) = ks.map g := by
  unfold given
  rw [List.filter_eq_self.mpr (fun _ _ => rfl)]
  conv => rhs; rw [← ints_range ks]
  rw [List.map_map]
  rfl
end Nd
/-! The end: a law's row by its promise; defs, classes and own errors read off the written part. -/
namespace Nd
open PySem PySem.Spec PyProof.Rows L2 Evl
def clsBody (s : Stmt) (j : Nat) : Stmt := match s with
  | .ClassDef (body := b) .. => b.getD j (.Pass ⟨0, 0, 0, 0⟩)
  | s => s
structure ErrS (P : Program) (K : PySem.W.Frag) (mg : Str → Option Value) (x f : Str) (C : Addr) (st : Stmt) (qual : Str) : Prop where
  g : mg x = some (.ref C)
  is : IsC K C
  xf : XfC K C
  no : PySem.W.findIn K (.ref C) f = some none
  ini : ∃ (fI cda cc : Addr) (oc kV doc pm ct : Value) (od an : Option Addr) (osl : Array (Option Value)), SupC P K C cda cc ∧ K.lookup fI = some ⟨oc, od, .func (PySem.W.ksFn "__init__" qual (defArgs st) (defBody st) (defScope st) .none kV doc pm an (.ref cda) ct cc), osl⟩ ∧
    PySem.W.codeIn K (.ref cda) qual = true ∧ PySem.W.findIn K (.ref C) "__init__" = some (some (.ref fI)) ∧ PySem.W.typeIn K (.ref fI) = some (.type "function")
/-- as the layer's end, with what the top says of its loose names -/
theorem walk_x {l : PySem.W.OpenLaw} {n k : Nat} {q : Program} {loose : List Str} {XP : (Str → Option Value) → Heap → Prop} {YP : World → Heap → Prop} {d : DefRec} {K : Params → PySem.W.Frag} {CX : World → CXT} {sp : PySem.W.Frag → Sp} {x : Str}
    (h1 : l.most = some n) (h2 : n ≤ sizeLine) (h3 : d.params.defaults = []) (h4 : Room k callerA) (hY : ∀ (w : World) (h : Heap), YP w h → (K w.params).In h)
    (F : ∀ (w : World) (mg : Str → Option Value) (fa : Addr) (h : Heap), XP mg h → (K w.params).In h → h.Ns mainGlobals mg → mg d.name = some (.ref fa) →
      ∃ fd : FuncData, (∀ (s : Shared) (u : Value), BindsTo s fd ⟨[u], []⟩ [(x, u)]) ∧ ∀ base : Heap, (K w.params).In base → base.Ns mainGlobals mg → FnOk l.prog w (K w.params) mg base (CX w) k fa fd [x] (sp (K w.params)))
    (hs : ∀ (w : World) (H : Hp) (a : Addr) (ns : List Int), ns.length ≤ n → Only H → SqL (K w.params) H a (ns.map V.int) → sp (K w.params) [.ref a] H (fun v _ => v = .bl true) fun _ _ _ => False)
    (hC : ∀ (w : World) (H : Hp) (s : Shared) (e : Value) (s' : Shared), CX w [] H s (fun _ _ _ => False) e s' → False) : PySem.W.WalkO q loose XP YP l.row.toRowW d [] (fun f vs => PySem.call f vs) :=
  Att.attach_call h1 h3 fun w _ s1 mg _ fa _ _ _ _ a _ ns G Y _ _ _ hm ho hi hl hg => by
    have KX := hY w _ Y
    obtain ⟨_, hb, hF⟩ := F w mg fa _ G.X KX G.T.g hm
    exact law_call KX G.T.g G.T.b G.T.builtins G.T.nolimit hg ho hi (Nat.le_trans hl h2) h4 hF hb (fun H hO hS => hs w H a ns hl hO hS) fun H e s' => hC w H s1 e s'
theorem cx_no {P : Program} {w : World} {H : Hp} {s : Shared} {e : Value} {s' : Shared} : L2.CX P w [] H s (fun _ _ _ => False) e s' → False := fun ⟨_, _, _, _, _, _, _, _, _, _, _, _, h⟩ => h
section
variable {P : Program} {K : PySem.W.Frag} {mg : Str → Option Value} {h : Heap}
theorem def_at {x : Str} {st : Stmt} {ps : List Str} {f : Addr} {oc : Value} {od an : Option Addr} {osl : Array (Option Value)} {kV doc pm cdv ct : Value} (X : K.In h) (G : h.Ns mainGlobals mg) (a : PySem.W.nsIn K mainGlobals x = some (some (.ref f)))
    (l : K.lookup f = some ⟨oc, od, .func (PySem.W.fnOf x x (defArgs st) (defBody st) (defScope st) .none kV doc pm an cdv ct), osl⟩) (c : PySem.W.codeIn K cdv x = true) (k : PySem.W.keepIn K (.ref f) = true)
    (b : ∀ (kV doc pm : Value) (an : Option Addr) (cdv ct : Value) (us : List Value), us.length = ps.length → bindArgs (PySem.W.fnOf x x (defArgs st) (defBody st) (defScope st) .none kV doc pm an cdv ct) ⟨us, []⟩ = pure (ps.zip us)) : DefAt K mg x st ps :=
  ⟨f, _, fun_mk l c k, PySem.W.mg_of X G a, (fun_mk (st := st) l c k).binds b⟩
theorem kit_own {a b : Addr} {r : Bool} (hn : (Value.ref a == Value.ref b) = false) (hc : PySem.W.isClsIn K b = true) (ht : PySem.W.typeIn K (.ref b) = some (.type "type")) (hs : PySem.W.subIn K (.ref a) (.ref b) = some r) : PySem.W.kitOne K (.ref a) (.ref b) = some r := by
  have e2 : ((PySem.W.clsIn K b).isSome && PySem.W.typeIn K (.ref b) == some (.type "type")) = true := by
    have hc' : (PySem.W.clsIn K b).isSome = true := hc
    rw [hc', ht] <;> rfl
  unfold PySem.W.kitOne
  rw [hn]
  show (if ((PySem.W.clsIn K b).isSome && PySem.W.typeIn K (.ref b) == some (.type "type")) = true then PySem.W.subIn K (.ref a) (.ref b) else none) = some r
  rw [if_pos e2]
  exact hs
theorem kit_tyv {a : Addr} {t : String} {r : Bool} (hm : PySem.W.kitMeta t = true) (hs : PySem.W.subIn K (.ref a) (.type t) = some r) : PySem.W.kitOne K (.ref a) (.type t) = some r := by
  unfold PySem.W.kitOne
  rw [show (Value.ref a == Value.type t) = false from rfl]
  show (if PySem.W.kitMeta t = true then PySem.W.subIn K (.ref a) (.type t) else none) = some r
  rw [if_pos hm]
  exact hs
theorem errS_mk {x f qual : Str} {st : Stmt} {C fI cda cc : Addr} {nm q : Str} {N : Addr} {bs bm : List Value} {sn : List Str} {sub : List Value} {ab : Bool} {col : Option Bool} {dd : Option Addr} {m0 m1 m2 m3 m5 : Option Value}
    {oc kV doc pm ct : Value} {od an : Option Addr} {osl : Array (Option Value)} {ccl cl : Value} {cdd cld : Option Addr} {vs : Array Value} {ccs csl : Array (Option Value)} {file : Str} {tf : Tok} (X : K.In h) (G : h.Ns mainGlobals mg)
    (g : PySem.W.nsIn K mainGlobals x = some (some (.ref C)))
    (xL : K.lookup C = some (excClassObj nm q C N bs bm true sn sub ab col dd m0 m1 m2 m3 m5 "ValueError.__new__")) (rv : PySem.HandSPX.refsVE bm = true)
    (ic : PySem.W.isClsIn K C = true) (sa : PySem.W.findIn K (.ref C) "__setattr__" = some (some (.builtin "object.__setattr__"))) (ga : PySem.W.findIn K (.ref C) "__getattribute__" = some (some (.builtin "BaseException.__getattribute__")))
    (gg : PySem.W.findIn K (.ref C) "__getattr__" = some none) (no : PySem.W.findIn K (.ref C) f = some none) (sb : PySem.W.subIn K (.ref C) (.type "BaseException") = some true) (ca : PySem.W.findIn K (.ref C) "__class__" = some (some (.builtin "object.__class__")))
    (cg : PySem.W.specialIn K (.builtin "object.__class__") "__get__" = some (some (.builtin "getset_descriptor.__get__"))) (ctk : PySem.W.takesIn K (.builtin "object.__class__") = some true) (mo : PySem.W.mroIn K C (.type "object") = some true)
    (tC : PySem.W.typeIn K (.ref C) = some (.type "type")) (kC : PySem.W.keepIn K (.ref C) = true) (hd : PySem.W.hasDictIn K C = true) (mr : PySem.W.mroIn K C (.ref C) = some true)
    (a1 : PySem.W.findIn K (.ref C) "__init__" = some (some (.ref fI))) (t1 : PySem.W.typeIn K (.ref fI) = some (.type "function"))
    (l1 : K.lookup fI = some ⟨oc, od, .func (PySem.W.ksFn "__init__" qual (defArgs st) (defBody st) (defScope st) .none kV doc pm an (.ref cda) ct cc), osl⟩) (c1 : PySem.W.codeIn K (.ref cda) qual = true)
    (cL : K.lookup cda = some ⟨ccl, cdd, .fields vs, ccs⟩) (cv : vs[2]? = some (.str file tf)) (cf : ((P.main.file : Str) == file) = true) (eL : K.lookup cc = some ⟨cl, cld, .cell (some (.ref C)), csl⟩)
    (su : PySem.W.ks_superIn K C C "__init__" = some (some (.builtin "ValueError.__init__"))) (ve : PySem.W.subIn K (.ref C) (.type "ValueError") = some true) (tp : PySem.W.nsIn K cStatics "thirdparty.any" = some none) (top : (P.main.scope.names.lookup ("super" : Str)).isSome = false) :
    ErrS P K mg x f C st qual :=
  ⟨PySem.W.mg_of X G g, ⟨ic, ga, gg, sb, ca, cg, ctk, mo⟩, ⟨ga, gg, sb, hd⟩, no, fI, cda, cc, oc, kV, doc, pm, ct, od, an, osl, ⟨⟨⟨nm, q, N, bs, bm, sn, sub, ab, col, dd, m0, m1, m2, m3, m5, xL, rv⟩, sa, sb, tC, kC⟩, ⟨ccl, cdd, vs, ccs, file, tf, cL, cv, cf⟩, ⟨cl, cld, csl, eL⟩, mr, su, ve, tp, top⟩, l1, c1, a1, t1⟩
end
end Nd
/-! enumerate of a list or a tuple. -/
namespace Nd
open PySem PySem.Spec PyProof.Rows L2 Evl
theorem meets_enumerate_newT (l : Addr) (items : Array Value) (n : Nat) (dct : Option Addr) (sl : Array (Option Value)) :
    Meets (Builtin.«enumerate.__new__» ⟨[.type "enumerate", .ref l], []⟩) (fun _ R s => s.heap.get? l = some { cls := .type "tuple", dict := dct, data := .seq items n, slots := sl } ∧
      R (.ok (.ret (.ref (s.heap.push { cls := .type "tuple_iterator", data := .fields #[.ref l, .int 0 0] }).objs.size)))
        { s with heap := (s.heap.push { cls := .type "tuple_iterator", data := .fields #[.ref l, .int 0 0] }).push { cls := .type "enumerate", data := .fields #[.none, .bool false, .ref s.heap.objs.size, rawInt 0, .none, .none] } }) :=
  .of_wp fun prog w A R s h => by
    obtain ⟨hp, g, d, tk, os⟩ := s; obtain ⟨hl, h⟩ := h
    have hsub := sub_enumerate
    have hL : Heap.IsTuple (Shared.heap ⟨hp, g, d, tk, os⟩) l items := ⟨_, hl, rfl, n, rfl⟩
    wp_walk using AutoSeq1.wpAny_loadPart' hl
    refine wpAny_stack_any fun st => wpAny_pure ?_
    split
    · rename_i c _ _ _ _ _
      cases (c == Value.type "enumerate")
      · wp_walk using AutoSeq1.wpAny_loadPart' hl, wpAny_pyIter_tuple hL
        exact ⟨_, rfl, h⟩
      · wp_walk using AutoSeq1.wpAny_loadPart' hl, wpAny_pyIter_tuple hL
        exact ⟨_, rfl, h⟩
    · wp_walk using AutoSeq1.wpAny_loadPart' hl, wpAny_pyIter_tuple hL
      exact ⟨_, rfl, h⟩
section
variable {prog : Program} {w : World} {A : Around} {E : Value → Shared → Prop} {s : Shared}
theorem call_enumerate_tuple {l : Addr} {items : Array Value} {Q : Value → Shared → Prop} (hL : s.heap.IsTuple l items)
    (h : ∀ h', IsEnum h' (s.heap.objs.size + 1) s.heap.objs.size 0 .none → h'.IsTupleIter s.heap.objs.size l 0 → h'.objs.size = s.heap.objs.size + 2 →
      (∀ b o, s.heap.get? b = some o → h'.get? b = some o) → Q (.ref (s.heap.objs.size + 1)) { s with heap := h' }) :
    wpAny (model prog w) A (call (.type "enumerate") [.ref l]) Q E s := by
  obtain ⟨⟨c, dct, dt, sl⟩, hl, hc, n, hd⟩ := hL
  replace hc : c = .type "tuple" := hc
  replace hd : dt = .seq items n := hd
  subst hc hd
  refine callType_new F.called_enumerate (by decide) (F.typeCall_enumerate_1 _) (F.newCall_enumerate_1 _) (fun obj => F.args_object_init_2 obj _) F.entry_enumerate_new
    (meets_enumerate_newT l items n dct sl) ⟨hl, ?_⟩
  have hz : (s.heap.push { cls := .type "tuple_iterator", data := .fields #[.ref l, .int 0 0] }).objs.size = s.heap.objs.size + 1 := Heap.size_push ..
  show _ ∧ _
  rw [hz]
  have he : IsEnum ((s.heap.push { cls := .type "tuple_iterator", data := .fields #[.ref l, .int 0 0] }).push
      { cls := .type "enumerate", data := .fields #[.none, .bool false, .ref s.heap.objs.size, rawInt 0, .none, .none] }) (s.heap.objs.size + 1) s.heap.objs.size 0 .none := by
    have := Heap.get?_push_size (s.heap.push { cls := .type "tuple_iterator", data := .fields #[.ref l, .int 0 0] })
      (o := { cls := .type "enumerate", data := .fields #[.none, .bool false, .ref s.heap.objs.size, rawInt 0, .none, .none] }) rfl
    rw [hz] at this; exact this
  refine ⟨⟨_, he, rfl⟩, h _ he ⟨_, Heap.get?_push_of_some _ (Heap.get?_push_size _ rfl), rfl, rfl⟩ (by rw [Heap.size_push, hz]) fun b o x => Heap.get?_push_of_some _ (Heap.get?_push_of_some _ x)⟩
end
section
variable {prog : Program} {w : World} {A : Around} {E : Value → Shared → Prop} {s : Shared}
theorem wpAny_pyNext_enum_end_tup {e it l : Addr} {i : Nat} {items : Array Value} {old : Value} {Q : Option Value → Shared → Prop} (hh : A.handled = none)
    (he : IsEnum s.heap e it i old) (hit : s.heap.IsTupleIter it l i) (hl : s.heap.IsTuple l items) (hx : items[i]? = none)
    (hQ : ∀ h', Heap.ExtBut it s.heap h' → Q none { s with heap := h' }) : wpAny (model prog w) A (pyNext (.ref e)) Q E s := by
  have hT : s.TypeIs (.ref e) "enumerate" := ⟨_, he, rfl⟩
  unfold pyNext
  refine wpAny_bind (wpAny_attempt (wpAny_callSpecial?_slot (name := Str.ofString "__next__") hT F.slot_enumerate_next
    (wpAny_call_entry F.slot_enumerate_next hT F.entry_enumerate_next ?_ (F.args_enumerate_next_1 _))))
  show wpAny _ _ (field (.ref e) 2 >>= _) _ _ _
  refine wpAny_bind (wpAny_field he rfl (x := .ref it) rfl ?_)
  refine wpAny_bind (wpAny_nextOf_tuple_end hh hit hl hx fun h' x he' hx' => ?_)
  obtain ⟨o, ho, hc⟩ := hx'
  refine wpAny_bind (wpAny_isInstance (T := "StopIteration") (b := true) ⟨o, ho, hc⟩ isSubtype_stop ?_)
  exact wpAny_pure (hQ _ he')
end
/-- the tuple at a, each item in a new pair -/
def IteT (K : PySem.W.Frag) (a : Addr) : It :=
  ⟨fun i H => ∃ (xs : List V) (x : V), SqT K H a xs ∧ xs[i]? = some x, fun i H v H' => ∃ T x, v = .ref T ∧ H T = none ∧ H' = upd H T (.tup [.int (i : Nat), x]) ∧ ∀ xs, SqT K H a xs → xs[i]? = some x, fun i H => ∃ xs : List V, SqT K H a xs ∧ xs.length ≤ i⟩
theorem turn_enumT {P : Program} {w : World} {K : PySem.W.Frag} {elts : List Expr} {kk : Nat} {tpos : Pos} (a e it : Addr) :
    Turn P w K (.Tuple elts kk tpos) (IteT K a) [e, it] e (fun i h => (∃ old, IsEnum h e it ((i : Nat) : Int) old) ∧ h.IsTupleIter it a i ∧ e ≠ it ∧ a ≠ it ∧ a ≠ e) where
  mem := by simp
  obj := fun i h st b hb => by
    obtain ⟨⟨old, he⟩, ⟨o, ho, hc, hd⟩, _⟩ := st
    have e' : b = e ∨ b = it := by simpa using hb
    rcases e' with z | z
    · rw [z]; exact ⟨_, he, fun v q => nomatch q⟩
    · rw [z]; exact ⟨o, ho, fun v q => by rw [hd] at q; cases q⟩
  keep := fun i h h' st k => let ⟨⟨old, he⟩, hi, hne⟩ := st; ⟨⟨old, k e (by simp) _ he⟩, hi.at fun o q => k it (by simp) o q, hne⟩
  item := by
    intro X hP hw hK hc i pins s σ H E I hf st hg
    subst hP hw hK
    obtain ⟨⟨old, he⟩, hit, hne, hai, hae⟩ := st
    obtain ⟨xs, x, hq, hx⟩ := hg
    obtain ⟨its, rv, p, hz⟩ := I.tuple hq
    obtain ⟨u, hu, ru⟩ := rv.get hx
    have hel : e < s.heap.objs.size := Heap.lt_size he
    have hil : it < s.heap.objs.size := by obtain ⟨_, q, _⟩ := hit; exact Heap.lt_size q
    have pt : s.heap.IsTuple a its.toArray := p
    have hlt : i < its.toArray.size := by
      have := (List.getElem?_eq_some_iff.mp hu).1
      simpa using this
    refine wpAny_pyNext_enum_itemD (Draws.tuple (A := X.A.in1) (I.ok.hd hc) it a hai its.toArray) he ⟨hit, pt⟩ hlt hne (by simp; exact ⟨hne, fun z => hae z.symm⟩) fun y h' tk hy ho hst' hT hsz hk => ?_
    have ey : y = u := by
      have e1 : its[i]? = some y := by simpa using hy
      rw [hu] at e1
      exact (Option.some.inj e1).symm
    subst ey
    refine ⟨_, rfl, wpAny_letOwnedTupleGo_enum (s := { s with heap := h', toks := tk + 1 }) ho fun h'' he' sb => ?_⟩
    have hT2 : h''.get? s.heap.objs.size = some { cls := .type "tuple", data := .seq #[.int i tk, y] } := (sb.2 _ (Nat.ne_of_gt hel)).trans hT
    have new : ObjOk X.prog X.w (upd H s.heap.objs.size (.tup [.int (i : Nat), x])) h'' s.heap.objs.size (.tup [.int (i : Nat), x]) :=
      ⟨by show 2 ≤ sizeLine; decide, [.int i tk, y], .cons ⟨_, rfl⟩ (.cons ru .nil), ⟨_, hT2, rfl, _, rfl⟩⟩
    have I1 : Inv X pins σ (upd H s.heap.objs.size (.tup [.int (i : Nat), x])) { s with heap := h'', toks := tk + 1 } :=
      I.turnedNew (ch := [e, it]) (fun b ob hb q => (sb.2 b (fun z => hb (by simp [z]))).trans (hk b ob (fun z => hb (by simp [z])) (fun z => hb (by simp [z])) q)) hf (Nat.le_refl _) new
    refine ⟨.ref s.heap.objs.size, _, I1, rfl, ⟨_, x, rfl, I.hok.fresh (Nat.le_refl _), rfl, fun ys hy => by rw [I.tuple_inj hy hq]; exact hx⟩, ⟨⟨y, ?_⟩, hst'.1.at fun o q => (sb.2 it (Ne.symm hne)).trans q, hne, hai, hae⟩, fun b hb => ?_⟩
    · have e1 : ((i + 1 : Nat) : Int) = (i : Int) + 1 := by omega
      rw [e1]; exact he'
    · have hb' : b < s.heap.objs.size := by
        have e' : b = e ∨ b = it := by simpa using hb
        rcases e' with z | z
        · rw [z]; exact hel
        · rw [z]; exact hil
      rw [upd_ne (Nat.ne_of_lt hb')]
      exact (hf b hb).1
  done := by
    intro X hP hw hK hc i pins s σ H E I hf st hg
    subst hP hw hK
    obtain ⟨⟨old, he⟩, hit, hne, hai, hae⟩ := st
    obtain ⟨xs, hq, hx⟩ := hg
    obtain ⟨its, rv, p, hz⟩ := I.tuple hq
    obtain ⟨f0, f1, f2, f3, f4, f5⟩ := hf it (by simp)
    have hl := rv.length
    have pt : s.heap.IsTuple a its.toArray := p
    exact wpAny_pyNext_enum_end_tup (I.ok.hd hc) he hit pt (by simp; omega) fun h' eb => ⟨rfl, I.turned (t' := s.toks) (fun b o hb q => eb b o hb q) f0 f1 f3 f4 f5⟩
  self := fun A i s Q E st h => let ⟨⟨_, he⟩, _⟩ := st; wpAny_pyIter_enum he h
def iEnumS (K : PySem.W.Frag) (ta : TA) : TI := fun σ H R => ta σ H fun vs H1 => ∃ a xs, vs = [.ref a] ∧ ((SqL K H1 a xs ∧ R (Ite K a) H1) ∨ (SqT K H1 a xs ∧ R (IteT K a) H1))
theorem pi_enumS {X : Cx} {e : Expr} {ta : TA} {p pos tpos : Pos} {elts : List Expr} {kk : Nat} (hg : Gl X "enumerate") (hm : X.mg "enumerate" = none) (ha : PA X [e] ta) (hs : starEach [e] X.env = [(false, eval e X.env)] := by rfl) :
    PI X (.Tuple elts kk tpos) (.Call (.Name "enumerate" p) [e] [] pos) (iEnumS X.K ta) := by
  refine ⟨fun pins s σ H R I h => ?_⟩
  refine Call_ (ld_blt I hg hm boot_enumerate (PyProof.Rows.callWith_type1 (thn (ha.run pos pins s σ H _ I h) fun us s1 ⟨vs, H1, I1, r1, q1⟩ => ?_) hs rfl))
  obtain ⟨a, xs, ex, hqq⟩ := q1
  subst ex
  cases r1 with
  | cons r rr =>
    cases rr
    cases r
    rcases hqq with ⟨hq, q⟩ | ⟨hq, q⟩
    · obtain ⟨its, rv, p', hz⟩ := I1.list hq
      refine call_enumerate_list p'.isList fun h' he hit hsz hk => wpAny_pyIter_enum he ?_
      have I2 : Inv X pins σ H1 { s1 with heap := h' } := I1.kept (t' := s1.toks) hk
      refine ⟨s1.heap.objs.size + 1, [s1.heap.objs.size + 1, s1.heap.objs.size], _, _, H1, rfl, I2, turn_enum a (s1.heap.objs.size + 1) s1.heap.objs.size, ⟨⟨.none, he⟩, hit, Nat.succ_ne_self _⟩, fun b hb => ?_, q⟩
      have e' : b = s1.heap.objs.size + 1 ∨ b = s1.heap.objs.size := by simpa using hb
      have hle : s1.heap.objs.size ≤ b := by
        rcases e' with z | z
        · rw [z]; exact Nat.le_add_right _ _
        · rw [z]; exact Nat.le_refl _
      exact I1.fpOk hle (I1.hok.fresh hle)
    · obtain ⟨its, rv, p', hz⟩ := I1.tuple hq
      have pt : s1.heap.IsTuple a its.toArray := p'
      have al : a < s1.heap.objs.size := by obtain ⟨_, q, _⟩ := pt; exact Heap.lt_size q
      refine call_enumerate_tuple pt fun h' he hit hsz hk => wpAny_pyIter_enum he ?_
      have I2 : Inv X pins σ H1 { s1 with heap := h' } := I1.kept (t' := s1.toks) hk
      refine ⟨s1.heap.objs.size + 1, [s1.heap.objs.size + 1, s1.heap.objs.size], _, _, H1, rfl, I2, turn_enumT a (s1.heap.objs.size + 1) s1.heap.objs.size, ⟨⟨.none, he⟩, hit, Nat.succ_ne_self _, Nat.ne_of_lt al, Nat.ne_of_lt (Nat.lt_succ_of_lt al)⟩, fun b hb => ?_, q⟩
      have e' : b = s1.heap.objs.size + 1 ∨ b = s1.heap.objs.size := by simpa using hb
      have hle : s1.heap.objs.size ≤ b := by
        rcases e' with z | z
        · rw [z]; exact Nat.le_add_right _ _
        · rw [z]; exact Nat.le_refl _
      exact I1.fpOk hle (I1.hok.fresh hle)
theorem pi_enumSK {X : Cx} (K : PySem.W.Frag) {e : Expr} {ta : TA} {p pos tpos : Pos} {elts : List Expr} {kk : Nat} (hg : Gl X "enumerate") (hm : X.mg "enumerate" = none) (ha : PA X [e] ta) (hs : starEach [e] X.env = [(false, eval e X.env)] := by rfl) (h : X.K = K := by rfl) :
    PI X (.Tuple elts kk tpos) (.Call (.Name "enumerate" p) [e] [] pos) (iEnumS K ta) := by subst h; exact pi_enumS hg hm ha hs
section
variable {K : PySem.W.Frag} {σ : L2.St} {H : Hp} {ts : TA} {D : Ends} {tu tw tz : TS} {a : Addr} {xs : List V}
/-- for i, x in enumerate(xs): Pv by the turn; a turn begins with i and x in their slots -/
theorem s_forEn {j k : Nat} (h : EvA ts σ H [.ref a]) (hx : SqS K H a xs) (Pv : Nat → L2.St → Hp → Prop) (h0 : ∀ H1, Ex H H1 → Pv 0 σ H1) (hl : ∀ i σ' H', i ≤ xs.length → Pv i σ' H' → Ex H H') (hup : ∀ i σ' H' H'', Ex H' H'' → Pv i σ' H' → Pv i σ' H'')
    (hs : ∀ i x σ' H', xs[i]? = some x → Pv i σ' H' → tu { D with nx := Pv (i + 1), ct := Pv (i + 1), bk := D.nx } ((σ'.set j (some (.int (i : Nat)))).set k (some x)) H') (hd : ∀ σ' H', Pv xs.length σ' H' → D.nx σ' H') :
    tFor (iEnumS K ts) (gTup K 2 (gCons (gName j) (gCons (gName k) gNil))) tu D σ H := by
  have core : ∀ (J : It), (J = Ite K a ∧ (∀ H', Ex H H' → SqL K H' a xs)) ∨ (J = IteT K a ∧ (∀ H', Ex H H' → SqT K H' a xs)) → ∀ H1, Ex H H1 → ∃ W : Nat → Nat → L2.St → Hp → Prop, (∃ m, W 0 m σ H1) ∧ ∀ i m σ H, W i m σ H →
      (J.stop i H ∧ D.nx σ H) ∨ (J.go i H ∧ ∃ N : L2.St → Hp → Prop, (∀ σ' H', N σ' H' → ∃ m', m' < m ∧ W (i + 1) m' σ' H') ∧ ∀ x H', J.yld i H x H' → (gTup K 2 (gCons (gName j) (gCons (gName k) gNil))) x σ H' fun σ2 H2 => tu { D with nx := N, ct := N, bk := D.nx } σ2 H2) := fun J hJ H1 e1 => by
    refine ⟨fun i m σ H => m = xs.length - i ∧ i ≤ xs.length ∧ Pv i σ H, ⟨xs.length, by simp, Nat.zero_le _, h0 H1 e1⟩, ?_⟩
    rintro i m σ' H' ⟨rfl, hi, p⟩
    have e := hl i σ' H' hi p
    by_cases hlt : i < xs.length
    · have hxi : xs[i]? = some xs[i] := List.getElem?_eq_getElem hlt
      refine .inr ⟨?_, Pv (i + 1), fun σ2 H2 p2 => ⟨xs.length - (i + 1), by omega, rfl, hlt, p2⟩, fun v H2 y => ?_⟩
      · rcases hJ with ⟨rfl, q⟩ | ⟨rfl, q⟩
        · exact ⟨xs, xs[i], q H' e, hxi⟩
        · exact ⟨xs, xs[i], q H' e, hxi⟩
      · have y' : ∃ T x, v = .ref T ∧ H' T = none ∧ H2 = upd H' T (.tup [.int (i : Nat), x]) ∧ xs[i]? = some x := by
          rcases hJ with ⟨rfl, q⟩ | ⟨rfl, q⟩
          · obtain ⟨T, x, e1, e2, e3, e4⟩ := y; exact ⟨T, x, e1, e2, e3, e4 xs (q H' e)⟩
          · obtain ⟨T, x, e1, e2, e3, e4⟩ := y; exact ⟨T, x, e1, e2, e3, e4 xs (q H' e)⟩
        obtain ⟨T, x, rfl, hT, rfl, hx2⟩ := y'
        exact ⟨T, [.int (i : Nat), x], rfl, st_of upd_same, rfl, .int (i : Nat), [x], rfl, x, [], rfl, rfl, hs i x σ' _ hx2 (hup i σ' H' _ (Ex.new hT) p)⟩
    · have ee : i = xs.length := by omega
      subst ee
      refine .inl ⟨?_, hd σ' H' p⟩
      rcases hJ with ⟨rfl, q⟩ | ⟨rfl, q⟩
      · exact ⟨xs, q H' e, Nat.le_refl _⟩
      · exact ⟨xs, q H' e, Nat.le_refl _⟩
  refine h H (Ex.refl H) _ fun H1 e1 => ⟨a, xs, rfl, ?_⟩
  rcases hx with hx | hx
  · exact .inl ⟨ex_l e1 hx, core _ (.inl ⟨rfl, fun H' e => ex_l e hx⟩) H1 e1⟩
  · exact .inr ⟨ex_t e1 hx, core _ (.inr ⟨rfl, fun H' e => ex_t e hx⟩) H1 e1⟩
theorem q_forEn {j k : Nat} (h : EvA ts σ H [.ref a]) (hx : SqS K H a xs) (Pv : Nat → L2.St → Hp → Prop) (h0 : ∀ H1, Ex H H1 → Pv 0 σ H1) (hl : ∀ i σ' H', i ≤ xs.length → Pv i σ' H' → Ex H H') (hup : ∀ i σ' H' H'', Ex H' H'' → Pv i σ' H' → Pv i σ' H'')
    (hs : ∀ i x σ' H', xs[i]? = some x → Pv i σ' H' → tu { D with nx := Pv (i + 1), ct := Pv (i + 1), bk := tz D } ((σ'.set j (some (.int (i : Nat)))).set k (some x)) H') (hd : ∀ σ' H', Pv xs.length σ' H' → tz D σ' H') :
    tSeq (tFor (iEnumS K ts) (gTup K 2 (gCons (gName j) (gCons (gName k) gNil))) tu) tz D σ H :=
  s_forEn (D := { D with nx := tz D }) h hx Pv h0 hl hup hs hd
end
end Nd
/-! Comprehensions over enumerate(..), over pairs. -/
namespace Nd
open PySem PySem.Spec PyProof.Rows L2 Evl
theorem Cw.ex {H H' H'' : Hp} {f : Nat → Bool} {v : Nat → V} {Dl : Addr} {i : Nat} (p : Cw H f v Dl i H') (e : Ex H' H'') : Cw H f v Dl i H'' := ⟨p.1, p.2.1.trans e, e _ _ p.2.2⟩
section
variable {K : PySem.W.Frag} {σ : L2.St} {H : Hp} {ts : TA} {te tl : TE} {t : TT} {a : Addr} {xs : List V} {j k : Nat} {vs : List Nat}
/-- the turns of a comprehension over enumerate(xs) -/
theorem lc_en {H1 : Hp} {Dl : Addr} {Qd : Hp → Prop} (J : It) (hJ : (J = Ite K a ∧ (∀ H', Ex H H' → SqL K H' a xs)) ∨ (J = IteT K a ∧ (∀ H', Ex H H' → SqT K H' a xs))) (Pv : Nat → Hp → Prop) (h0 : Pv 0 (upd H1 Dl (.lst []))) (hl : ∀ i H', i ≤ xs.length → Pv i H' → Ex H H')
    (hup : ∀ i H' H'', Ex H' H'' → Pv i H' → Pv i H'') (hw : ∀ (i : Nat) x, wipe (((wipe σ vs).set j (some (.int (i : Nat)))).set k (some x)) vs = wipe σ vs)
    (hs : ∀ i x H', xs[i]? = some x → Pv i H' → t (((wipe σ vs).set j (some (.int (i : Nat)))).set k (some x)) H' fun b H3 =>
      if b = true then te (((wipe σ vs).set j (some (.int (i : Nat)))).set k (some x)) H3 fun y H4 => ∃ acc, H4 Dl = some (.lst acc) ∧ acc.length < sizeLine ∧ Pv (i + 1) (upd H4 Dl (.lst (acc ++ [y]))) else Pv (i + 1) H3) (hd : ∀ H', Pv xs.length H' → Qd H') :
    ∃ W : Nat → Nat → Hp → Prop, (∃ m, W 0 m (upd H1 Dl (.lst []))) ∧ ∀ i m H', W i m H' →
      (J.stop i H' ∧ Qd H') ∨ (J.go i H' ∧ ∃ Nx : Hp → Prop, (∀ H', Nx H' → ∃ m', m' < m ∧ W (i + 1) m' H') ∧ ∀ x H'', J.yld i H' x H'' → (gTup K 2 (gCons (gName j) (gCons (gName k) gNil))) x (wipe σ vs) H'' fun σ2 H2 => wipe σ2 vs = wipe σ vs ∧ t σ2 H2 fun b H3 =>
        if b = true then te σ2 H3 fun y H4 => ∃ acc, H4 Dl = some (.lst acc) ∧ acc.length < sizeLine ∧ Nx (upd H4 Dl (.lst (acc ++ [y]))) else Nx H3) := by
  refine ⟨fun i m H' => m = xs.length - i ∧ i ≤ xs.length ∧ Pv i H', ⟨xs.length, by simp, Nat.zero_le _, h0⟩, ?_⟩
  rintro i m H' ⟨rfl, hi, p⟩
  have e := hl i H' hi p
  by_cases hlt : i < xs.length
  · have hxi : xs[i]? = some xs[i] := List.getElem?_eq_getElem hlt
    refine .inr ⟨?_, Pv (i + 1), fun H2 p2 => ⟨xs.length - (i + 1), by omega, rfl, hlt, p2⟩, fun v H2 y => ?_⟩
    · rcases hJ with ⟨rfl, q⟩ | ⟨rfl, q⟩
      · exact ⟨xs, xs[i], q H' e, hxi⟩
      · exact ⟨xs, xs[i], q H' e, hxi⟩
    · have y' : ∃ T x, v = .ref T ∧ H' T = none ∧ H2 = upd H' T (.tup [.int (i : Nat), x]) ∧ xs[i]? = some x := by
        rcases hJ with ⟨rfl, q⟩ | ⟨rfl, q⟩
        · obtain ⟨T, x, e1, e2, e3, e4⟩ := y; exact ⟨T, x, e1, e2, e3, e4 xs (q H' e)⟩
        · obtain ⟨T, x, e1, e2, e3, e4⟩ := y; exact ⟨T, x, e1, e2, e3, e4 xs (q H' e)⟩
      obtain ⟨T, x, rfl, hT, rfl, hx2⟩ := y'
      exact ⟨T, [.int (i : Nat), x], rfl, st_of upd_same, rfl, .int (i : Nat), [x], rfl, x, [], rfl, rfl, hw i x, hs i x _ hx2 (hup i H' _ (Ex.new hT) p)⟩
  · have ee : i = xs.length := by omega
    subst ee
    refine .inl ⟨?_, hd H' p⟩
    rcases hJ with ⟨rfl, q⟩ | ⟨rfl, q⟩
    · exact ⟨xs, q H' e, Nat.le_refl _⟩
    · exact ⟨xs, q H' e, Nat.le_refl _⟩
/-- [e for i, x in enumerate(xs) if t] -/
theorem el_lcEn (f : Nat → Bool) (v : Nat → V) (h : EvA ts σ H [.ref a]) (hx : SqS K H a xs) (hz : xs.length ≤ 40000) (hw : ∀ (i : Nat) x, wipe (((wipe σ vs).set j (some (.int (i : Nat)))).set k (some x)) vs = wipe σ vs)
    (ht : ∀ (i : Nat) (x : V) H1, Ex H H1 → xs[i]? = some x → EvT t (((wipe σ vs).set j (some (.int (i : Nat)))).set k (some x)) H1 (f i))
    (he : ∀ (i : Nat) (x : V) H1, Ex H H1 → xs[i]? = some x → f i = true → Ev te (((wipe σ vs).set j (some (.int (i : Nat)))).set k (some x)) H1 (v i)) :
    EvL (tLc (iEnumS K ts) (gTup K 2 (gCons (gName j) (gCons (gName k) gNil))) t te vs) σ H (given xs.length f v) := fun H0 e Q q => h H0 e _ fun H1 e1 =>
  ⟨a, xs, rfl, hx.elim (fun hx => .inl ⟨ex_l (e.trans e1) hx, fun Dl hD => lc_en (Ite K a) (.inl ⟨rfl, fun H' e => ex_l e hx⟩) (Cw H1 f v Dl) ⟨hD, Ex.new hD, upd_same⟩ (fun i H' _ p => (e.trans e1).trans p.2.1) (fun i H' H'' x p => Cw.ex p x) hw
    (fun i x H' hi p => cw_turn p (by have := (List.getElem?_eq_some_iff.mp hi).1; omega) (ht i x H1 (e.trans e1) hi) (fun hf => he i x H1 (e.trans e1) hi hf))
    (fun H' p => q Dl H' (fresh_back e1 p.1) (e1.trans p.2.1) p.2.2)⟩) (fun hx => .inr ⟨ex_t (e.trans e1) hx, fun Dl hD => lc_en (IteT K a) (.inr ⟨rfl, fun H' e => ex_t e hx⟩) (Cw H1 f v Dl) ⟨hD, Ex.new hD, upd_same⟩ (fun i H' _ p => (e.trans e1).trans p.2.1) (fun i H' H'' x p => Cw.ex p x) hw
    (fun i x H' hi p => cw_turn p (by have := (List.getElem?_eq_some_iff.mp hi).1; omega) (ht i x H1 (e.trans e1) hi) (fun hf => he i x H1 (e.trans e1) hi hf))
    (fun H' p => q Dl H' (fresh_back e1 p.1) (e1.trans p.2.1) p.2.2)⟩)⟩
/-- .. that makes something at each turn -/
theorem lg_lcEn (P : Nat → V → Hp → Prop) (hP : ∀ i, Solid (P i)) (h : EvA ts σ H [.ref a]) (hx : SqS K H a xs) (hz : xs.length ≤ 40000) (hw : ∀ (i : Nat) x, wipe (((wipe σ vs).set j (some (.int (i : Nat)))).set k (some x)) vs = wipe σ vs)
    (he : ∀ (i : Nat) (x : V) H1, Ex H H1 → xs[i]? = some x → EvG te (((wipe σ vs).set j (some (.int (i : Nat)))).set k (some x)) H1 (P i)) :
    EvLG (tLc (iEnumS K ts) (gTup K 2 (gCons (gName j) (gCons (gName k) gNil))) tYes te vs) σ H xs.length P := fun H0 e Q q => h H0 e _ fun H1 e1 =>
  ⟨a, xs, rfl, hx.elim (fun hx => .inl ⟨ex_l (e.trans e1) hx, fun Dl hD => lc_en (Ite K a) (.inl ⟨rfl, fun H' e => ex_l e hx⟩) (fun i H' => Ex H1 H' ∧ ∃ ys, H' Dl = some (.lst ys) ∧ ys.length = i ∧ ∀ j y, ys[j]? = some y → P j y H') ⟨Ex.new hD, [], upd_same, rfl, fun j y hy => by simp at hy⟩ (fun i H' _ p => (e.trans e1).trans p.1)
    (fun i H' H'' x p => ⟨p.1.trans x, by obtain ⟨_, ys, g, l, q⟩ := p; exact ⟨ys, x _ _ g, l, fun j y hy => (hP j).ex x (q j y hy)⟩⟩) hw
    (fun i x H' hi p => lg_turn hP hD (by have := (List.getElem?_eq_some_iff.mp hi).1; omega) (he i x H1 (e.trans e1) hi) p)
    (fun H' p => by obtain ⟨x, ys, g, l, r⟩ := p; exact q Dl ys H' (fresh_back e1 hD) (e1.trans x) g l r)⟩) (fun hx => .inr ⟨ex_t (e.trans e1) hx, fun Dl hD => lc_en (IteT K a) (.inr ⟨rfl, fun H' e => ex_t e hx⟩) (fun i H' => Ex H1 H' ∧ ∃ ys, H' Dl = some (.lst ys) ∧ ys.length = i ∧ ∀ j y, ys[j]? = some y → P j y H') ⟨Ex.new hD, [], upd_same, rfl, fun j y hy => by simp at hy⟩ (fun i H' _ p => (e.trans e1).trans p.1)
    (fun i H' H'' x p => ⟨p.1.trans x, by obtain ⟨_, ys, g, l, q⟩ := p; exact ⟨ys, x _ _ g, l, fun j y hy => (hP j).ex x (q j y hy)⟩⟩) hw
    (fun i x H' hi p => lg_turn hP hD (by have := (List.getElem?_eq_some_iff.mp hi).1; omega) (he i x H1 (e.trans e1) hi) p)
    (fun H' p => by obtain ⟨x, ys, g, l, r⟩ := p; exact q Dl ys H' (fresh_back e1 hD) (e1.trans x) g l r)⟩)⟩
/-- the same over a list, with any target of which is told what it stores -/
theorem lg_lcG {g : TG} (P : Nat → V → Hp → Prop) (hP : ∀ i, Solid (P i)) (τ : Nat → L2.St) (h : Ev tl σ H (.ref a)) (hx : SqL K H a xs) (hz : xs.length ≤ 40000) (hw : ∀ i, wipe (τ i) vs = wipe σ vs)
    (hg : ∀ (i : Nat) (x : V) H1, Ex H H1 → xs[i]? = some x → ∀ R : L2.St → Hp → Prop, R (τ i) H1 → g x (wipe σ vs) H1 R)
    (he : ∀ (i : Nat) (x : V) H1, Ex H H1 → xs[i]? = some x → EvG te (τ i) H1 (P i)) : EvLG (tLc (iList K tl) g tYes te vs) σ H xs.length P := fun H0 e Q q => h H0 e _ fun H1 e1 => ⟨a, rfl, ⟨xs, ex_l (e.trans e1) hx⟩, fun Dl hD =>
  lc_list (xs := xs) (fun i H' => Ex H1 H' ∧ ∃ ys, H' Dl = some (.lst ys) ∧ ys.length = i ∧ ∀ j y, ys[j]? = some y → P j y H') ⟨Ex.new hD, [], upd_same, rfl, fun j y hy => by simp at hy⟩ (fun i H' _ w => ex_l ((e.trans e1).trans w.1) hx)
    (fun i x H' hi w => hg i x H' ((e.trans e1).trans w.1) hi _ ⟨hw i, lg_turn hP hD (by have := (List.getElem?_eq_some_iff.mp hi).1; omega) (he i x H1 (e.trans e1) hi) w⟩)
    (fun H' ⟨x, ys, g, hl, hp⟩ => q Dl ys H' (fresh_back e1 hD) (e1.trans x) g hl hp)⟩
theorem el_lcG {g : TG} (f : Nat → Bool) (v : Nat → V) (τ : Nat → L2.St) (h : Ev tl σ H (.ref a)) (hx : SqL K H a xs) (hz : xs.length ≤ 40000) (hw : ∀ i, wipe (τ i) vs = wipe σ vs)
    (hg : ∀ (i : Nat) (x : V) H1, Ex H H1 → xs[i]? = some x → ∀ R : L2.St → Hp → Prop, R (τ i) H1 → g x (wipe σ vs) H1 R)
    (ht : ∀ (i : Nat) (x : V) H1, Ex H H1 → xs[i]? = some x → EvT t (τ i) H1 (f i)) (he : ∀ (i : Nat) (x : V) H1, Ex H H1 → xs[i]? = some x → f i = true → Ev te (τ i) H1 (v i)) :
    EvL (tLc (iList K tl) g t te vs) σ H (given xs.length f v) := fun H0 e Q q => h H0 e _ fun H1 e1 => ⟨a, rfl, ⟨xs, ex_l (e.trans e1) hx⟩, fun Dl hD => lc_list (xs := xs) (Cw H1 f v Dl) ⟨hD, Ex.new hD, upd_same⟩ (fun i H' _ p => ex_l ((e.trans e1).trans p.2.1) hx)
      (fun i x H' hi p => hg i x H' ((e.trans e1).trans p.2.1) hi _ ⟨hw i, cw_turn p (by have := (List.getElem?_eq_some_iff.mp hi).1; omega) (ht i x H1 (e.trans e1) hi) (fun hf => he i x H1 (e.trans e1) hi hf)⟩) (fun H' p => q Dl H' (fresh_back e1 p.1) (e1.trans p.2.1) p.2.2)⟩
/-- a target of two names takes a pair -/
theorem g_two {b : Addr} {u v : V} {σ2 : L2.St} (g : SqT K H b [u, v]) (R : L2.St → Hp → Prop) (r : R ((σ2.set j (some u)).set k (some v)) H) : gTup K 2 (gCons (gName j) (gCons (gName k) gNil)) (.ref b) σ2 H R := ⟨b, [u, v], rfl, g, rfl, u, [v], rfl, v, [], rfl, rfl, r⟩
/-- [e for x in range(n)], something made at each turn -/
theorem lg_lcR1 {n : Nat} (P : Nat → V → Hp → Prop) (hP : ∀ i, Solid (P i)) (h : EvA ts σ H [.int (n : Int)]) (hn : n ≤ 40000) (hw : ∀ x, wipe ((wipe σ vs).set j (some x)) vs = wipe σ vs)
    (he : ∀ (i : Nat) H1, Ex H H1 → i < n → EvG te ((wipe σ vs).set j (some (.int (i : Nat)))) H1 (P i)) : EvLG (tLc (iRng1 ts) (gName j) tYes te vs) σ H n P := fun H0 e Q q => h H0 e _ fun H1 e1 => by
  refine ⟨(n : Int), rfl, by omega, by omega, fun Dl hD => ?_⟩
  have en : ((n : Int)).toNat = n := by omega
  rw [en]
  exact lc_range (lo := 0) (fun i H' => Ex H1 H' ∧ ∃ ys, H' Dl = some (.lst ys) ∧ ys.length = i ∧ ∀ j y, ys[j]? = some y → P j y H') ⟨Ex.new hD, [], upd_same, rfl, fun j y hy => by simp at hy⟩
    (fun i H' hi w => by
      rw [show (0 : Int) + (i : Nat) = (i : Nat) by omega]
      exact ⟨hw _, lg_turn hP hD (by omega) (he i H1 (e.trans e1) hi) w⟩)
    (fun H' ⟨x, ys, g, hl, hp⟩ => q Dl ys H' (fresh_back e1 hD) (e1.trans x) g hl hp)
end
end Nd
/-! max(xs, default = d) of a list or a tuple of ints. -/
namespace Nd
open PySem PySem.Spec PyProof.Rows L2 Evl
section
variable {prog : Program} {w : World} {A : Around} {R : Result → Shared → Prop} {I : Addr} {fp wr : List Addr} {n : Nat} {P : Nat → Value → Prop} {St : Nat → Heap → Prop}
theorem maxk_name : (toString "max" ++ toString ".loop" : String) = "max.loop" := by decide
/-- the greatest so far is held in the list at S; the keywords kw stand by -/
theorem maxk_loop (W : Walks prog w A.in1 I fp wr n P St) (bt : Nat → Nat → Bool) (hcmp : CmpOf prog w A.in1 .Gt P bt) (S : Addr) (hSf : S ∉ fp) (kw : List (Str × Value)) :
    ∀ (k j : Nat) (s : Shared) (vb : Value) (c : Nat), n - (j + 1) = k → j + 1 ≤ n → St (j + 1) s.heap → P (argBest bt j) vb →
    s.heap.get? S = some { cls := .type "list", dict := none, data := .seq #[vb, vb] c, slots := #[] } →
    (∀ v h' tk, P (argBest bt (n - 1)) v → (∀ b o, b ∉ wr → b ≠ S → s.heap.get? b = some o → h'.get? b = some o) → R (.ok (.ret v)) { s with heap := h', toks := tk }) →
    codeAny (model prog w) A (.builtin "max.loop" ⟨[.ref I, .none, .ref S], kw⟩) R s := by
  have away : S ∉ wr := fun h => hSf (W.sub _ h)
  intro k
  induction k with
  | zero =>
    intro j s vb c hk hj hst hPb hS hR
    have last : j + 1 = n := by omega
    refine codeAny_builtin F.entry_max_loop ?_
    rw [Around.under_plainId F.plain_max_loop _]
    show wpAny _ A.in1 (seqItems? (.ref S) >>= _) _ _ s
    refine wpAny_bind (wpAny_seqItems hS rfl ?_)
    show wpAny _ A.in1 (tryCatch (pyNext (.ref I)) _ >>= _) _ _ s
    refine wpAny_bind (wpAny_tryCatch (W.done s _ _ (last ▸ hst) fun h' tk hk' => ?_))
    have there := hk' S _ away hS
    show wpAny _ A.in1 (updateSeq S (fun _ => #[]) >>= _) _ _ _
    refine wpAny_bind (wpAny_updateSeq there rfl (wpAny_bind (wpAny_letGo (wpAny_pure ?_))))
    exact hR vb _ _ (by rw [← last]; exact hPb) fun b o hbw hbS e => (Heap.get?_update_other _ _ (Ne.symm hbS)).trans (hk' b o hbw e)
  | succ k ih =>
    intro j s vb c hk hj hst hPb hS hR
    have more : j + 1 < n := by omega
    refine codeAny_builtin F.entry_max_loop ?_
    rw [Around.under_plainId F.plain_max_loop _]
    show wpAny _ A.in1 (seqItems? (.ref S) >>= _) _ _ s
    refine wpAny_bind (wpAny_seqItems hS rfl ?_)
    show wpAny _ A.in1 (tryCatch (pyNext (.ref I)) _ >>= _) _ _ s
    refine wpAny_bind (wpAny_tryCatch (W.item (j + 1) s _ _ more hst fun v h' tk hP hst' hk' => ?_))
    have there := hk' S _ away hS
    show wpAny _ A.in1 (tryCatch (holding [v, v] (richCompare .Gt v vb >>= _)) _ >>= _) _ _ _
    refine wpAny_bind (wpAny_tryCatch (wpAny_holding (wpAny_bind (hcmp (j + 1) (argBest bt j) v vb _ _ _ hP hPb ?_))))
    refine wpAny_bind (wpAny_holding (wpAny_truthy_bool (wpAny_bind (wpAny_letGo (wpAny_pure ?_)))))
    by_cases hb : bt (j + 1) (argBest bt j) = true
    · have best : argBest bt (j + 1) = j + 1 := by simp only [argBest, hb, if_true]
      simp only [hb, if_true]
      refine wpAny_bind (wpAny_updateSeq there rfl (wpAny_bind (wpAny_letGo ?_)))
      rw [maxk_name]
      refine wpAny_pure ⟨plainId_quiet F.plain_max_loop _, ih (j + 1) _ v _ (by omega) more (W.frame _ _ _ hst' fun b hbf o e => ?_) (by rw [best]; exact hP) (Heap.get?_update_self _ there rfl) fun v' h'' tk'' hP' hk'' => ?_⟩
      · exact (Heap.get?_update_other _ _ (fun h : S = b => hSf (by rw [h]; exact hbf))).trans e
      · exact hR v' h'' tk'' hP' fun b o hbw hbS e => hk'' b o hbw hbS ((Heap.get?_update_other _ _ (Ne.symm hbS)).trans (hk' b o hbw e))
    · have hb0 : bt (j + 1) (argBest bt j) = false := by simpa using hb
      have best : argBest bt (j + 1) = argBest bt j := by simp only [argBest, hb0, Bool.false_eq_true, if_false]
      simp only [hb0, Bool.false_eq_true, if_false]
      refine wpAny_bind (wpAny_letGo ?_)
      rw [maxk_name]
      refine wpAny_pure ⟨plainId_quiet F.plain_max_loop _, ih (j + 1) _ vb c (by omega) more hst' (by rw [best]; exact hPb) there fun v' h'' tk'' hP' hk'' => ?_⟩
      exact hR v' h'' tk'' hP' fun b o hbw hbS e => hk'' b o hbw hbS (hk' b o hbw e)
theorem maxk_first (W : Walks prog w A.in1 I fp wr n P St) (bt : Nat → Nat → Bool) (hcmp : CmpOf prog w A.in1 .Gt P bt) (S : Addr) (hSf : S ∉ fp) {s : Shared} {c : Nat} {d : Value} {x : Str} (hst : St 0 s.heap)
    (hS : s.heap.get? S = some { cls := .type "list", dict := none, data := .seq #[] c, slots := #[] })
    (h0 : n = 0 → ∀ h' tk, (∀ b o, b ∉ wr → b ≠ S → s.heap.get? b = some o → h'.get? b = some o) → R (.ok (.ret d)) { s with heap := h', toks := tk })
    (hR : 0 < n → ∀ v h' tk, P (argBest bt (n - 1)) v → (∀ b o, b ∉ wr → b ≠ S → s.heap.get? b = some o → h'.get? b = some o) → R (.ok (.ret v)) { s with heap := h', toks := tk }) :
    codeAny (model prog w) A (.builtin "max.loop" ⟨[.ref I, .none, .ref S], [(x, d)]⟩) R s := by
  have away : S ∉ wr := fun h => hSf (W.sub _ h)
  refine codeAny_builtin F.entry_max_loop ?_
  rw [Around.under_plainId F.plain_max_loop _]
  show wpAny _ A.in1 (seqItems? (.ref S) >>= _) _ _ s
  refine wpAny_bind (wpAny_seqItems hS rfl ?_)
  show wpAny _ A.in1 (tryCatch (pyNext (.ref I)) _ >>= _) _ _ s
  by_cases hn : 0 < n
  · refine wpAny_bind (wpAny_tryCatch (W.item 0 s _ _ hn hst fun v h' tk hP hst' hk' => ?_))
    have there := hk' S _ away hS
    show wpAny _ A.in1 (updateSeq S (fun _ => #[v, v]) >>= _) _ _ _
    refine wpAny_bind (wpAny_updateSeq there rfl ?_)
    rw [maxk_name]
    refine wpAny_pure ⟨plainId_quiet F.plain_max_loop _, maxk_loop W bt hcmp S hSf _ _ 0 _ v _ rfl hn (W.frame _ _ _ hst' fun b hbf o e => ?_) hP (Heap.get?_update_self _ there rfl) fun v' h'' tk'' hP' hk'' => ?_⟩
    · exact (Heap.get?_update_other _ _ (fun h : S = b => hSf (by rw [h]; exact hbf))).trans e
    · exact hR hn v' h'' tk'' hP' fun b o hbw hbS e => hk'' b o hbw hbS ((Heap.get?_update_other _ _ (Ne.symm hbS)).trans (hk' b o hbw e))
  · have e0 : n = 0 := by omega
    refine wpAny_bind (wpAny_tryCatch (W.done s _ _ (e0 ▸ hst) fun h' tk hk' => ?_))
    show wpAny _ A.in1 _ _ _ _
    refine wpAny_bind (wpAny_rule (wpAny_pure ?_))
    exact h0 e0 h' tk fun b o hbw _ e => hk' b o hbw e
end
section
variable {prog : Program} {w : World} {A : Around} {E : Value → Shared → Prop} {s : Shared}
theorem maxk_args (a d : Value) : argsOk "max" ⟨[a], [("default", d)]⟩ := by unfold argsOk; kernel_rfl
theorem maxk_call {x d : Value} {Q : Value → Shared → Prop}
    (h : wpAny (model prog w) A.in1 (pyIter x) (fun it s₂ => ∃ I fp wr n P St bt, it = .ref I ∧ Walks prog w A.in1 I fp wr n P St ∧ St 0 s₂.heap ∧ (∀ b ∈ fp, b < s₂.heap.objs.size) ∧ CmpOf prog w A.in1 .Gt P bt ∧
      (n = 0 → ∀ h' tk, (∀ b o, b ∉ wr → s₂.heap.get? b = some o → h'.get? b = some o) → Q d { s₂ with heap := h', toks := tk }) ∧
      (0 < n → ∀ v h' tk, P (argBest bt (n - 1)) v → (∀ b o, b ∉ wr → s₂.heap.get? b = some o → h'.get? b = some o) → Q v { s₂ with heap := h', toks := tk })) E s) :
    wpAny (model prog w) A (call (.builtin "max") [x] [("default", d)]) Q E s := by
  refine wpAny_call (codeAny_call_builtin F.plain_max F.entry_max ?_)
  have ha := maxk_args x d
  simp only [checkBuiltinCall, F.kind_max]
  have body : wpAny (model prog w) A.in1 (Builtin.«max» ⟨[x], [("default", d)]⟩) (fun fin s' => match fin with
      | .done f => (match (Except.ok f : Result) with | .ok (.ret v) => Q v s' | .ok _ => False | .error e => E e s')
      | .again c' => c'.quiet = true ∧ codeAny (model prog w) A c' (fun r s' => match r with | .ok (.ret v) => Q v s' | .ok _ => False | .error e => E e s') s') E s := by
    show wpAny _ A.in1 (Builtin.Builtins.bindParams "max" ["key", "default"] 0 ⟨[], [("default", d)]⟩ >>= _) _ _ s
    refine wpAny_bind (wpAny_of_eq (show Builtin.Builtins.bindParams "max" ["key", "default"] 0 ⟨[], [("default", d)]⟩ = pure [none, some d] from rfl) ?_)
    refine wpAny_bind (wpAny_pure ?_)
    refine wpAny_bind (wpAny_mono h (fun it s₂ h₂ => ?_) fun _ _ e => e)
    obtain ⟨I, fp, wr, n, P, St, bt, rfl, W, hst, hfp, hcmp, hz, hQ⟩ := h₂
    refine wpAny_bind (wpAny_newObj_type ?_)
    have hSf : s₂.heap.objs.size ∉ fp := fun hm => Nat.lt_irrefl _ (hfp _ hm)
    rw [maxk_name]
    refine wpAny_pure ⟨plainId_quiet F.plain_max_loop _, maxk_first W bt hcmp s₂.heap.objs.size hSf (W.frame _ _ _ hst fun b _ o e => Heap.get?_push_of_some _ e) (Heap.get?_push_size _ rfl) (fun e0 h' tk hk => ?_) fun hn v h' tk hP hk => ?_⟩
    · exact hz e0 h' tk fun b o hbw e => hk b o hbw (Nat.ne_of_lt (Heap.lt_size e)) (Heap.get?_push_of_some _ e)
    · exact hQ hn v h' tk hP fun b o hbw e => hk b o hbw (Nat.ne_of_lt (Heap.lt_size e)) (Heap.get?_push_of_some _ e)
  cases hsig : Manifest.signature? "max" with
  | none => exact wpAny_pure body
  | some sig =>
    simp only [argsOk, hsig] at ha
    have h2 : Bind.checkArgs "max" sig ⟨[x], [("default", d)]⟩ = pure () := ha
    show wpAny _ A.in1 (Bind.checkArgs "max" sig ⟨[x], [("default", d)]⟩) _ _ s
    rw [h2]
    exact wpAny_pure body
end
end Nd
namespace Nd
open PySem PySem.Spec PyProof.Rows L2 Evl
section
variable {prog : Program} {w : World} {A : Around} {E : Value → Shared → Prop} {s : Shared}
theorem pushed_old {h' : Heap} {o : Obj} (hk : ∀ b u, b ∉ [s.heap.objs.size] → (s.heap.push o).get? b = some u → h'.get? b = some u) : ∀ b u, s.heap.get? b = some u → h'.get? b = some u := fun b u e =>
  hk b u (fun hm => by
    have := List.mem_singleton.mp hm
    exact absurd (this ▸ Heap.lt_size e) (Nat.lt_irrefl _)) (Heap.get?_push_of_some _ e)
theorem maxd_seq {l : Addr} {its : List Value} {ns : List Int} {d : Value} {Q : Value → Shared → Prop} (hh : A.handled = none) (hi : IntsAre its ns) (hl : s.heap.IsList l its.toArray ∨ s.heap.IsTuple l its.toArray)
    (h0 : ns = [] → ∀ h' tk, (∀ b o, s.heap.get? b = some o → h'.get? b = some o) → Q d { s with heap := h', toks := tk })
    (hQ : ∀ m t h' tk, m ∈ ns → (∀ y ∈ ns, y ≤ m) → (∀ b o, s.heap.get? b = some o → h'.get? b = some o) → Q (.int m t) { s with heap := h', toks := tk }) : wpAny (model prog w) A (call (.builtin "max") [.ref l] [("default", d)]) Q E s := by
  have len : its.length = ns.length := hi.length
  have at1 : ∀ (i : Nat) (v : Value), its.toArray[i]? = some v → ∃ t, v = .int (ns.getD i 0) t := fun i v hv => PyProof.Rows.IntsAre.int_at hi i v (by simpa using hv)
  have cmp : CmpOf prog w A.in1 .Gt (fun i v => its.toArray[i]? = some v) (fun i j => decide (ns.getD i 0 > ns.getD j 0)) := CmpOf.ints_gt (fun i => ns.getD i 0) at1
  have best : 0 < its.toArray.size → ∀ v : Value, its.toArray[argBest (fun i j => decide (ns.getD i 0 > ns.getD j 0)) (its.toArray.size - 1)]? = some v → ∃ m t, v = .int m t ∧ m ∈ ns ∧ ∀ y ∈ ns, y ≤ m := fun hn v hv => by
    obtain ⟨t, rfl⟩ := at1 _ v hv
    obtain ⟨h1, h2⟩ := argBest_gt (fun i => ns.getD i 0) (its.toArray.size - 1)
    have sz : its.toArray.size = ns.length := by simpa using len
    refine ⟨_, t, rfl, PySem.getD_mem (by omega), fun y hy => ?_⟩
    obtain ⟨j, hj, rfl⟩ := mem_getD hy
    exact h2 j (by omega)
  have none0 : its.toArray.size = 0 → ns = [] := fun e => by
    have : ns.length = 0 := by rw [← len]; simpa using e
    exact List.eq_nil_of_length_eq_zero this
  have hh1 : A.in1.handled = none := hh
  refine maxk_call ?_
  rcases hl with hl | hl
  · have lt : l < s.heap.objs.size := by obtain ⟨_, e, _⟩ := hl; exact Heap.lt_size e
    refine wpAny_pyIter_list hl ⟨_, [s.heap.objs.size, l], [s.heap.objs.size], its.toArray.size, _, _, _, rfl, Walks.list (A := A.in1) hh1 _ l (Nat.ne_of_lt lt) its.toArray, ⟨⟨_, Heap.get?_push_size _ rfl, rfl, rfl⟩, hl.push _⟩, fun b hb => ?_, cmp, fun e h' tk hk => h0 (none0 e) h' tk (pushed_old hk), fun hn v h' tk hP hk => ?_⟩
    · show b < (s.heap.push _).objs.size
      rw [Heap.size_push]
      have : b = s.heap.objs.size ∨ b = l := by simpa using hb
      rcases this with e | e
      · rw [e]; exact Nat.lt_succ_self _
      · rw [e]; exact Nat.lt_succ_of_lt lt
    · obtain ⟨m, t, rfl, h1, h2⟩ := best hn v hP
      exact hQ m t h' tk h1 h2 (pushed_old hk)
  · have lt : l < s.heap.objs.size := by obtain ⟨_, e, _⟩ := hl; exact Heap.lt_size e
    refine wpAny_pyIter_tuple hl ⟨_, [s.heap.objs.size, l], [s.heap.objs.size], its.toArray.size, _, _, _, rfl, Walks.tuple (A := A.in1) hh1 _ l (Nat.ne_of_lt lt) its.toArray, ⟨⟨_, Heap.get?_push_size _ rfl, rfl, rfl⟩, hl.push _⟩, fun b hb => ?_, cmp, fun e h' tk hk => h0 (none0 e) h' tk (pushed_old hk), fun hn v h' tk hP hk => ?_⟩
    · show b < (s.heap.push _).objs.size
      rw [Heap.size_push]
      have : b = s.heap.objs.size ∨ b = l := by simpa using hb
      rcases this with e | e
      · rw [e]; exact Nat.lt_succ_self _
      · rw [e]; exact Nat.lt_succ_of_lt lt
    · obtain ⟨m, t, rfl, h1, h2⟩ := best hn v hP
      exact hQ m t h' tk h1 h2 (pushed_old hk)
end
/-- the greatest of ns, d of none -/
def maxD (d : Int) : List Int → Int
  | [] => d
  | n :: r => r.foldl max n
theorem foldl_max : ∀ (r : List Int) (n : Int), (r.foldl max n = n ∨ r.foldl max n ∈ r) ∧ n ≤ r.foldl max n ∧ ∀ y ∈ r, y ≤ r.foldl max n
  | [], n => ⟨.inl rfl, Int.le_refl _, fun _ h => by cases h⟩
  | x :: r, n => by
    obtain ⟨h1, h2, h3⟩ := foldl_max r (max n x)
    refine ⟨?_, ?_, fun y hy => ?_⟩
    · rcases h1 with e | e
      · rcases Int.le_total n x with h | h
        · right; show r.foldl max (max n x) ∈ _; rw [e, Int.max_eq_right h]; exact List.mem_cons_self
        · left; show r.foldl max (max n x) = n; rw [e, Int.max_eq_left h]
      · exact .inr (List.mem_cons_of_mem _ e)
    · exact Int.le_trans (Int.le_max_left n x) h2
    · rcases List.mem_cons.mp hy with rfl | hy
      · exact Int.le_trans (Int.le_max_right n y) h2
      · exact h3 y hy
theorem maxD_uniq {d m : Int} {ns : List Int} (h0 : ns = [] → m = d) (h1 : ns ≠ [] → m ∈ ns ∧ ∀ y ∈ ns, y ≤ m) : maxD d ns = m := by
  cases ns with
  | nil => exact (h0 rfl).symm
  | cons n r =>
    obtain ⟨hm, hg⟩ := h1 (by simp)
    obtain ⟨a, b, c⟩ := foldl_max r n
    show r.foldl max n = m
    have le1 : r.foldl max n ≤ m := by
      rcases a with e | e
      · rw [e]; exact hg n List.mem_cons_self
      · exact hg _ (List.mem_cons_of_mem _ e)
    have le2 : m ≤ r.foldl max n := by
      rcases List.mem_cons.mp hm with e | e
      · rw [e]; exact b
      · exact c m e
    omega
/-- max(e, default = e') -/
def tMaxK (K : PySem.W.Frag) (te : TA) (tk : TA) : TE := fun σ H Q => te σ H fun vs H1 => tk σ H1 fun ds H2 => ∃ (a : Addr) (ns : List Int) (d : Int), vs = [.ref a] ∧ ds = [.int d] ∧ SqS K H2 a (ns.map V.int) ∧ Q (.int (maxD d ns)) H2
section
variable {X : Cx} {p pos kpos : Pos} {e e2 : Expr} {te tk : TA}
theorem pe_maxK (hc : X.calm = true) (hg : Gl X "max") (hm : X.mg "max" = none) (hb : bootBuiltins "max" = some (.builtin "max")) (ha : PA X [e] te) (hk : PK X [⟨some "default", e2, kpos⟩] tk)
    (hall : (backToKw pos (keywordEach [⟨some "default", e2, kpos⟩] X.env)).all (·.1.isSome) = true := by rfl) (hks : (backToKw pos (keywordEach [⟨some "default", e2, kpos⟩] X.env)).filterMap (·.1) = [Str.ofString "default"] := by rfl)
    (hst : starEach [e] X.env = (false, eval e X.env) :: starEach [] X.env := by rfl)
    (hpl : ((backTo pos (starEach [e] X.env)).any (·.1) || (backToKw pos (keywordEach [⟨some "default", e2, kpos⟩] X.env)).any (·.1.isNone)) = false := by rfl) :
    PE X (.Call (.Name "max" p) [e] [⟨some "default", e2, kpos⟩] pos) (tMaxK X.K te tk) := by
  refine ⟨fun pins s σ H Q I h => ?_⟩
  refine wpAny_Call_Name_kw (ld_blt I hg hm hb ?_ (by decide) (by decide))
  refine PySem.W.callWith_of (P := fun _ => True) hpl (fun h _ => ⟨Keeper.machine, .inr (.inl rfl), PySem.W.Looks.of_pure rfl⟩) (PyProof.Rows.evalArgs_kw2 hall (thn (ha.run pos pins s σ H _ I h) fun us s1 ⟨vs, H1, I1, r1, q1⟩ => ?_) hst)
  refine thn (hk.run pos pins s1 σ H1 _ I1 q1) fun ks s2 hx => ⟨trivial, ?_⟩
  obtain ⟨ds, H2, I2, r2, a, ns, d, rfl, rfl, hs, q⟩ := hx
  rw [hks]
  obtain ⟨u, rfl, ru⟩ := vals1 r1
  obtain ⟨k, rfl, rk⟩ := vals1 r2
  obtain rfl : u = .ref a := ru
  show wpAny _ _ (call (.builtin "max") [.ref a] [("default", k)]) _ _ _
  have fin : ∀ (m : Int) (t : Tok) (h' : Heap) (tk : Nat), (ns = [] → m = d) → (ns ≠ [] → m ∈ ns ∧ ∀ y ∈ ns, y ≤ m) → (∀ b o, s2.heap.get? b = some o → h'.get? b = some o) → EP X pins σ Q (.int m t) { s2 with heap := h', toks := tk } := fun m t h' tk e0 e1 hk => by
    have e := maxD_uniq e0 e1
    rw [e] at q
    exact ⟨.int m, H2, I2.kept hk, ⟨t, rfl⟩, q⟩
  have go : ∀ its : List Value, IntsAre its ns → (s2.heap.IsList a its.toArray ∨ s2.heap.IsTuple a its.toArray) → wpAny (model X.prog X.w) X.A (call (.builtin "max") [.ref a] [("default", k)]) (EP X pins σ Q) X.xe s2 := fun its hi hl => by
    refine maxd_seq (I2.ok.hd hc) hi hl (fun e0 h' tk hk => ?_) fun m t h' tk h1 h2 hk => fin m t h' tk (fun e => by rw [e] at h1; cases h1) (fun _ => ⟨h1, h2⟩) hk
    obtain ⟨t, rfl⟩ := rk
    exact fin d t h' tk (fun _ => rfl) (fun n => (n e0).elim) hk
  rcases hs with hs | hs
  · obtain ⟨its, rv, hl, _⟩ := I2.list hs
    exact go its rv.ints (.inl hl.isList)
  · obtain ⟨its, rv, hl, _⟩ := I2.tuple hs
    exact go its rv.ints (.inr hl)
end
section
variable {K : PySem.W.Frag} {σ : L2.St} {H : Hp} {te td : TE}
theorem ev_maxK {ns : List Int} {d : Int} (h : EvSq K te σ H (ns.map V.int)) (hd : ∀ H1, Ex H H1 → Ev td σ H1 (.int d)) : Ev (tMaxK K (tCons te tNil) (tCons td tNil)) σ H (.int (maxD d ns)) := fun H1 e Q q =>
  h H1 e _ fun a H2 e2 hs => hd H2 (e.trans e2) H2 (Ex.refl H2) _ fun H3 e3 => ⟨a, ns, d, rfl, rfl, hs.mono e3, q H3 (e2.trans e3)⟩
end
end Nd
/-! list(reversed(xs)); ts.count(k) of a tuple of ints. -/
namespace Nd
open PySem PySem.Spec PyProof.Rows L2 Evl
section
variable {prog : Program} {w : World} {A : Around} {E : Value → Shared → Prop} {s : Shared}
theorem rev_init {it l : Addr} {items : Array Value} {R : Result → Shared → Prop} (hh : A.handled = none) (hit : s.heap.IsRevIter it l ((items.size : Int) - 1)) (hl : s.heap.IsList l items) (hne : l ≠ it) (hn : items.size ≤ sizeLine) (S : Addr)
    (hS : s.heap.get? S = some { cls := .type "list", data := .seq #[] }) (hSi : S ≠ it) (hSl : S ≠ l)
    (hR : ∀ (h' : Heap) (tk : Nat) (acc : Array Value) (c : Nat), (∀ b o, b ≠ it → b ≠ S → s.heap.get? b = some o → h'.get? b = some o) → h'.get? S = some { cls := .type "list", dict := none, data := .seq acc c, slots := #[] } →
      ItemsOf (fun i v => items[items.size - 1 - i]? = some v) acc items.size → R (.ok (.ret .none)) { s with heap := h', toks := tk }) :
    wpAny (model prog w) A.in1 (Builtin.«list.__init__» ⟨[.ref S, .ref it], []⟩)
      (fun fin s' => match fin with | .done f => R (.ok f) s' | .again c' => c'.quiet = true ∧ codeAny (model prog w) A c' R s') (fun e s' => R (.error e) s') s := by
  have W := (Walks.listRev (prog := prog) (w := w) (A := A.in1) hh it l hne items).toS
  have hSf : S ∉ [it, l] := by simp only [List.mem_cons, List.not_mem_nil, or_false, not_or]; exact ⟨hSi, hSl⟩
  show wpAny _ A.in1 (do let old ← Builtin.List.listItems (.ref S); Builtin.List.listUpdate (.ref S) (fun _ => #[]); letGo old.toList.reverse; Builtin.List.listExtendWith (.ref S) (.ref it) .none) _ _ s
  refine wpAny_bind ?_
  unfold Builtin.List.listItems
  refine wpAny_bind (wpAny_seqItems hS rfl (wpAny_pure ?_))
  show wpAny _ A.in1 (updateSeq S (fun _ => #[]) >>= fun _ => letGo (#[] : Array Value).toList.reverse >>= fun _ => Builtin.List.listExtendWith (.ref S) (.ref it) .none) _ _ s
  refine wpAny_bind (wpAny_updateSeq hS rfl ?_)
  have g2 := Heap.get?_update_self (Obj.mapSeq (fun _ => (#[] : Array Value))) hS rfl
  have oth : ∀ b o, b ≠ S → s.heap.get? b = some o → (s.heap.update S (Obj.mapSeq (fun _ => (#[] : Array Value)))).get? b = some o := fun b o hb e => (Heap.get?_update_other _ _ (Ne.symm hb)).trans e
  have hit2 : (s.heap.update S (Obj.mapSeq (fun _ => (#[] : Array Value)))).IsRevIter it l ((items.size : Int) - 1) := hit.at fun o e => oth it o (Ne.symm hSi) e
  have hl2 : (s.heap.update S (Obj.mapSeq (fun _ => (#[] : Array Value)))).IsList l items := hl.at fun o e => oth l o (Ne.symm hSl) e
  refine wpAny_bind (wpAny_letGo ?_)
  have hT : ({ s with heap := s.heap.update S (Obj.mapSeq (fun _ => (#[] : Array Value))) } : Shared).TypeIs (.ref it) "list_reverseiterator" := Heap.IsRevIter.typeIs (s := { s with heap := s.heap.update S (Obj.mapSeq (fun _ => (#[] : Array Value))) }) hit2
  have h1 : Builtin.List.listSameRef (.ref S) (.ref it) = false := by simp [Builtin.List.listSameRef, hSi]
  unfold Builtin.List.listExtendWith
  refine wpAny_bind (wpAny_typeOf hT ?_)
  rw [if_neg (by rw [h1]; decide)]
  refine wpAny_bind (wpAny_pyIter_revIter (s := { s with heap := s.heap.update S (Obj.mapSeq (fun _ => (#[] : Array Value))) }) hit2 ?_)
  refine wpAny_bind (wpAny_holding ?_)
  unfold Builtin.List.listLengthHint
  refine wpAny_bind (wpAny_specialOf hT RT.nolen_lri ?_)
  show wpAny _ A.in1 (specialOf (Value.ref it) (Str.ofString "__length_hint__") >>= _) _ _ _
  refine wpAny_bind (wpAny_specialOf hT RT.hint_lri ?_)
  generalize hid : ("list_reverseiterator.__length_hint__" : String) = id0
  wp_delta
  rw [show splitId id0 = some ("list_reverseiterator", "__length_hint__") from by subst hid; decide +kernel]
  subst hid
  refine wpAny_bind (wpAny_isInstance (b := true) hT (by rw [isSubtype_type]; kernel_rfl) ?_)
  refine wpAny_pure ?_
  rw [if_neg (by decide)]
  have e0 : ((items.size : Nat) : Int) - 1 - ((0 : Nat) : Int) = (items.size : Int) - 1 := by omega
  refine wpAny_pure ⟨plainId_quiet F.plain_extend_loop _, codeAny_extend_loopS W hn _ hSf _ items.size 0 _ _ _ rfl (Nat.zero_le _) ⟨Nat.zero_le _, by rw [e0]; exact hit2, hl2⟩ g2 (ItemsOf.nil _) fun s' acc' c' hm hS' hacc => ?_⟩
  rw [Moved.eq_with hm]
  refine hR s'.heap s'.toks acc' c' (fun b o hb hbS e => hm.heap b o (fun hmem => ?_) (oth b o hbS e)) hS' hacc
  rcases List.mem_cons.mp hmem with e' | hmem
  · exact hbS e'
  · exact hb (List.mem_singleton.mp hmem)
theorem call_list_rev {it l : Addr} {items : Array Value} {Q : Value → Shared → Prop} (hh : A.handled = none) (hit : s.heap.IsRevIter it l ((items.size : Int) - 1)) (hl : s.heap.IsList l items) (hne : l ≠ it) (hn : items.size ≤ sizeLine)
    (hQ : ∀ (h' : Heap) (tk : Nat) (acc : Array Value) (c : Nat), (∀ b o, b ≠ it → s.heap.get? b = some o → h'.get? b = some o) → h'.get? s.heap.objs.size = some { cls := .type "list", dict := none, data := .seq acc c, slots := #[] } →
      ItemsOf (fun i v => items[items.size - 1 - i]? = some v) acc items.size → Q (.ref s.heap.objs.size) { s with heap := h', toks := tk }) :
    wpAny (model prog w) A (call (.type "list") [.ref it]) Q E s := by
  obtain ⟨oi, hoi, _⟩ := id hit
  obtain ⟨ol, hol, _⟩ := id hl
  have hSi : s.heap.objs.size ≠ it := Nat.ne_of_gt (Heap.lt_size hoi)
  have hSl : s.heap.objs.size ≠ l := Nat.ne_of_gt (Heap.lt_size hol)
  refine callType_codes (Q₁ := fun obj s₁ => obj = .ref s.heap.objs.size ∧ s₁ = { s with heap := s.heap.push { cls := .type "list", data := .seq #[] } }) F.called_list (F.typeCall_list_1 _) F.entry_list_init
    (code_list_new _ ⟨rfl, rfl⟩) fun obj s₁ h₁ => ?_
  obtain ⟨rfl, rfl⟩ := h₁
  have hS : (s.heap.push { cls := .type "list", data := .seq #[] }).get? s.heap.objs.size = some { cls := .type "list", data := .seq #[] } := Heap.get?_push_size _ rfl
  refine ⟨⟨_, hS, rfl⟩, F.args_list_init_2 _ _, rev_init (s := { s with heap := s.heap.push { cls := .type "list", data := .seq #[] } }) (by exact hh) (hit.at fun o e => Heap.get?_push_of_some _ e) (hl.push _) hne hn _ hS hSi hSl fun h' tk acc c hk hS' hacc => ?_⟩
  exact ⟨rfl, hQ h' tk acc c (fun b o hb e => hk b o hb (Nat.ne_of_lt (Heap.lt_size e)) (Heap.get?_push_of_some _ e)) hS' hacc⟩
end
/-- list(reversed(x)), x a list: a new list -/
def tLstRev (K : PySem.W.Frag) (te : TE) : TE := fun σ H Q => te σ H fun v H1 => ∃ (a : Addr) (xs : List V), v = .ref a ∧ SqL K H1 a xs ∧ ∀ q, H1 q = none → Q (.ref q) (upd H1 q (.lst xs.reverse))
section
variable {X : Cx}
theorem pe_lstRev {e : Expr} {te : TE} {p p2 pos pos2 : Pos} (hc : X.calm = true) (hg : Gl X "list") (hm : X.mg "list" = none) (hg2 : Gl X "reversed") (hm2 : X.mg "reversed" = none) (he : PE X e te)
    (hs : starEach [e] X.env = (false, eval e X.env) :: starEach [] X.env := by rfl)
    (hs2 : starEach [.Call (.Name "reversed" p2) [e] [] pos2] X.env = (false, eval (.Call (.Name "reversed" p2) [e] [] pos2) X.env) :: starEach [] X.env := by rfl) :
    PE X (.Call (.Name "list" p) [.Call (.Name "reversed" p2) [e] [] pos2] [] pos) (tLstRev X.K te) := by
  refine ⟨fun pins s σ H Q I h => ?_⟩
  refine Call_ (ld_blt I hg hm (show bootBuiltins "list" = some (.type "list") by decide +kernel) (PyProof.Rows.callWith_type1 (args_cons (Call_ (ld_blt I hg2 hm2 PyProof.Rows.boot_reversed (PyProof.Rows.callWith_type1 (args_cons (thn (he.run pins s σ H _ I h) fun u s1 ⟨v, H1, I1, r1, q1⟩ => args_nil ?_) hs) hs rfl))) hs2) hs2 rfl))
  obtain ⟨a, xs, ev, hq, q⟩ := q1
  subst ev
  obtain rfl : u = Value.ref a := r1
  obtain ⟨its, rv, p', hz⟩ := I1.list hq
  refine call_reversed_list p'.isList (args_nil ?_)
  have k0 : ∀ b o, s1.heap.get? b = some o → (s1.heap.push (revObj a ((its.toArray.size : Int) - 1))).get? b = some o := fun b o e => Heap.get?_push_of_some _ e
  have I2 : Inv X pins σ H1 { s1 with heap := s1.heap.push (revObj a ((its.toArray.size : Int) - 1)) } := I1.kept (t' := s1.toks) k0
  have hl := p'.isList
  have lt : a < s1.heap.objs.size := by obtain ⟨_, z, _⟩ := hl; exact Heap.lt_size z
  have sz : its.toArray.size ≤ sizeLine := by rw [List.size_toArray, ← rv.length]; exact hz
  refine call_list_rev (s := { s1 with heap := s1.heap.push (revObj a ((its.toArray.size : Int) - 1)) }) (I2.ok.hd hc) ⟨_, Heap.get?_push_size _ rfl, rfl, rfl⟩ (hl.push _) (Nat.ne_of_lt lt) sz fun h' tk acc c hk hS' hacc => ?_
  have sz1 : (s1.heap.push (revObj a ((its.toArray.size : Int) - 1))).objs.size = s1.heap.objs.size + 1 := Heap.size_push ..
  have n0 : H1 (s1.heap.objs.size + 1) = none := I1.hok.fresh (Nat.le_succ _)
  refine ⟨.ref (s1.heap.objs.size + 1), _, I1.laid (t' := tk) (fun b o e => hk b o (Nat.ne_of_lt (Heap.lt_size e)) (k0 b o e)) (Nat.le_succ _) (a := s1.heap.objs.size + 1) (o := .lst xs.reverse) ?_, ?_, q _ n0⟩
  · have rr := RT.vals_rev rv hacc
    exact ⟨by show xs.reverse.length ≤ sizeLine; rw [List.length_reverse]; exact hz, acc.toList, c, rr, by
      have z := hS'
      rw [show ({ s1 with heap := s1.heap.push (revObj a ((its.toArray.size : Int) - 1)) } : Shared).heap.objs.size = s1.heap.objs.size + 1 from sz1] at z
      simpa using z⟩
  · show Value.ref (s1.heap.push (revObj a ((its.toArray.size : Int) - 1))).objs.size = Value.ref (s1.heap.objs.size + 1)
    rw [sz1]
end
section
variable {X : Cx}
end
def rCntT (K : PySem.W.Frag) : V → List V → Hp → VK → Prop := fun x xs H Q => ∃ (p : Addr) (ns : List Int) (k : Int), x = .ref p ∧ xs = [.int k] ∧ SqT K H p (ns.map V.int) ∧ Q (.int (ns.count k : Nat)) H
theorem mt_tcount {X : Cx} : MtR X "tuple.count" (rCntT X.K) := by
  intro pins s σ H x xs v us Q I rx rxs h
  obtain ⟨p, ns, k, rfl, rfl, hs, q⟩ := h
  cases rx
  obtain ⟨u, rfl, ru⟩ := rxs.one
  obtain ⟨t, rfl⟩ := ru
  obtain ⟨its, rv, hp, hlen⟩ := I.tuple hs
  obtain ⟨⟨cls, dd, data, sl⟩, ho, hc, n, hd⟩ := (show s.heap.IsTuple p its.toArray from hp)
  simp only at hc hd
  subst hc hd
  have hi := ints_of_vals rv
  refine call_meets PySem.F.slot_tuple_count ⟨_, ho, rfl⟩ PySem.F.entry_tuple_count (PySem.F.args_tuple_count_2 _ _)
    (SeqAt.tuple_countAt p its.toArray n dd sl (.int k t) (eqk k)) ⟨ho, fun y hy => (eqk_gives hi y (by simpa using hy)).at _ _, ?_⟩
  have ec : its.toArray.toList.countP (eqk k) = ns.count k := eqk_count hi
  refine ⟨.int (ns.count k : Nat), H, I.tok _, ⟨s.toks, ?_⟩, q⟩
  show Value.int ((its.toArray.toList.countP (eqk k) : Nat) : Int) s.toks = Value.int ((ns.count k : Nat) : Int) s.toks
  rw [ec]
end Nd
/-! == of tuples of own objects, with either answer; == of lists of the same objects; == with an object of another class. -/
namespace Nd
open PySem PySem.Spec PyProof.Rows L2 Evl
section
open PySem.SeqAt AutoSeq1 MeetsSeq MeetsSeq2 MeetsSeq3 SeqRoads2
variable {prog : Program} {w : World} {A : Around} {R : Result → Shared → Prop}
theorem all_upto {m i : Nat} {e : Nat → Bool} (hi : i < m) (h : e i = false) : (List.range m).all e = false := by
  rw [Bool.eq_false_iff]
  intro z
  have := List.all_eq_true.mp z i (List.mem_range.mpr hi)
  rw [h] at this
  cases this
theorem all_yes {m : Nat} {e : Nat → Bool} (h : ∀ i, i < m → e i = true) : (List.range m).all e = true := List.all_eq_true.mpr fun i hi => h i (List.mem_range.mp hi)
/-- item by item, e telling each answer -/
theorem tup_eqB (l b : Addr) (items items2 : Array Value) (n n2 : Nat) (dd dd2 : Option Addr) (sl sl2 : Array (Option Value)) (e : Nat → Bool) (I : Nat → Shared → Prop)
    (turn : ∀ i (h1 : i < items.size) (h2 : i < items2.size) s, I i s → wpAny (model prog w) A.in1 (eqBool items[i] items2[i]) (fun r s' => r = e i ∧ I (i + 1) s') (fun e s' => R (.error e) s') s)
    (fin : ∀ i s, I i s → R (.ok (.ret (.bool ((List.range (min items.size items2.size)).all e && items.size == items2.size)))) s) {s : Shared}
    (hl1 : s.heap.get? l = some { cls := .type "tuple", dict := dd, data := .seq items n, slots := sl }) (hb1 : s.heap.get? b = some { cls := .type "tuple", dict := dd2, data := .seq items2 n2, slots := sl2 }) (h : I 0 s) :
    wpAny (model prog w) A.in1 (Builtin.«tuple.__eq__» ⟨[.ref l, .ref b], []⟩) (GQ.FinOf prog w A R) (fun e s' => R (.error e) s') s := by
  have f2 := AutoSeq1.sub_tuple_tuple
  have hZ : (items.toList.zip items2.toList).length = min items.size items2.size := by simp
  have h0 := h
  obtain ⟨hp, g, d, tk, os⟩ := s
  wp_walk using wpAny_loadPart' hl1, wpAny_loadPart' hb1, wpAny_forIn_list _ (fun rest b s' => b.1 = none ∧ ∃ i, rest = (items.toList.zip items2.toList).drop i ∧ i ≤ min items.size items2.size ∧ I i s' ∧ ∀ j, j < i → e j = true) _
  case turn =>
    rintro ⟨y, x⟩ rest b s' ⟨hb', i, hz, hi, hI, hy⟩
    have hlt : i < (items.toList.zip items2.toList).length := by
      rcases Nat.lt_or_ge i (items.toList.zip items2.toList).length with h' | h'
      · exact h'
      · rw [List.drop_of_length_le h'] at hz; cases hz
    have hm : i < min items.size items2.size := hZ ▸ hlt
    have h1 : i < items.size := Nat.lt_of_lt_of_le hm (Nat.min_le_left _ _)
    have h2 : i < items2.size := Nat.lt_of_lt_of_le hm (Nat.min_le_right _ _)
    rw [List.drop_eq_getElem_cons hlt] at hz
    injection hz with hyx hrest
    have ey : y = items[i] := by have := congrArg Prod.fst hyx; simpa using this
    have ex : x = items2[i] := by have := congrArg Prod.snd hyx; simpa using this
    subst ey ex
    refine wpAny_bind (wpAny_mono (turn i h1 h2 s' hI) (fun r s2 q2 => ?_) fun _ _ x => x)
    obtain ⟨hr, q2⟩ := q2
    subst hr
    have hF := fin (i + 1) s2 q2
    cases he : e i with
    | true =>
      wp_walk
      refine ⟨rfl, i + 1, hrest, hm, q2, fun j hj => ?_⟩
      rcases Nat.lt_succ_iff_lt_or_eq.mp hj with z | z
      · exact hy j z
      · rw [z]; exact he
    | false =>
      rw [all_upto hm he] at hF
      wp_walk
      simpa using hF
  case fin =>
    rintro ⟨b1, b2⟩ s' ⟨hb', i, hz, hi, hI, hy⟩
    simp only at hb'
    subst hb'
    have hge : min items.size items2.size ≤ i := by
      rcases Nat.lt_or_ge i (items.toList.zip items2.toList).length with h' | h'
      · rw [List.drop_eq_getElem_cons h'] at hz; cases hz
      · exact hZ ▸ h'
    have hF := fin i s' hI
    rw [all_yes fun j hj => hy j (Nat.lt_of_lt_of_le hj hge)] at hF
    wp_walk
    simpa [Builtin.Tuple.tupleCompareSizes] using hF
  case h =>
    exact ⟨rfl, 0, rfl, Nat.zero_le _, h0, fun j hj => by omega⟩
end
section
variable {prog : Program} {w : World} {A : Around} {E : Value → Shared → Prop} {s : Shared}
theorem rc_tupB {l b : Addr} {items items2 : Array Value} {Q : Value → Shared → Prop} (e : Nat → Bool) (hu : A.units < cLine) (I : Nat → Shared → Prop) (hl : s.heap.IsTuple l items) (hb : s.heap.IsTuple b items2)
    (turn : ∀ i (h1 : i < items.size) (h2 : i < items2.size) s, I i s → wpAny (model prog w) A.in1 (eqBool items[i] items2[i]) (fun r s' => r = e i ∧ I (i + 1) s') E s)
    (fin : ∀ i s, I i s → Q (.bool ((List.range (min items.size items2.size)).all e && items.size == items2.size)) s) (h : I 0 s) : wpAny (model prog w) A (richCompare .Eq (.ref l) (.ref b)) Q E s := by
  obtain ⟨⟨cls, dd, data, sl⟩, ho, hc, n, hd⟩ := id hl
  obtain ⟨⟨cls2, dd2, data2, sl2⟩, ho2, hc2, n2, hd2⟩ := id hb
  simp only at hc hd hc2 hd2
  subst hc hd hc2 hd2
  refine wpAny_richCompare_same_room (op := .Eq) ⟨_, ho, rfl⟩ ⟨_, ho2, rfl⟩ F.slot_tuple_eq (GQ.call_here F.slot_tuple_eq ⟨_, ho, rfl⟩ F.entry_tuple_eq (F.args_tuple_eq_2 _ _) ?_) hu
  exact tup_eqB (R := wants (fun v s' => v ≠ .notImplemented ∧ Q v s') E) l b items items2 n n2 dd dd2 sl sl2 e I turn (fun i s' q => ⟨(fun x => nomatch x), fin i s' q⟩) ho ho2 h
end
/-- x == y by the class's own __eq__, y any object of a class of the text, or an int -/
def rEqAny (C : Addr) (TB : Addr → Prop) (sp : Sp) : R2 := fun x y H Q => (∃ a dx fs, x = .ref a ∧ H a = some (.ins C dx fs)) ∧ ((∃ b D dy gs, y = .ref b ∧ H b = some (.ins D dy gs) ∧ TB D) ∨ ∃ z : Int, y = .int z) ∧ sp [x, y] H Q E0
section
variable {X : Cx} {C : Addr} {TB : Addr → Prop} {ps : List Str} {sp : Sp} {k : Nat}
/-- somewhere below the running body -/
theorem run_eqAt {pins : List (Addr × Obj)} {σ : L2.St} {H : Hp} {s : Shared} {A : Around} {a : Addr} {dx : Addr} {fs : List (Str × V)} {y : V} {u : Value} {Q : VK} (G : HasF X.prog X.w X.K X.mg X.base k C "__eq__" ps sp) (ht : ∀ D, TB D → PySem.W.notFirst X.K C (.ref D) = true) (hi : PySem.W.notFirst X.K C (.type "int") = true) (hr : Room k A)
    (fr : A.frames = X.A.frames) (I : Inv X pins σ H s) (ea : H a = some (.ins C dx fs)) (hy : (∃ b D dy gs, y = .ref b ∧ H b = some (.ins D dy gs) ∧ TB D) ∨ ∃ z : Int, y = .int z) (ry : RelV y u) (q : sp [.ref a, y] H Q E0) :
    wpAny (model X.prog X.w) A (richCompare .Eq (.ref a) u) (EP X pins σ Q) X.xe s := by
  obtain ⟨f, fd, Fn, ⟨hm, hf⟩, hb⟩ := G.ex
  obtain ⟨ox, od, IA⟩ := inst_of I ea
  obtain ⟨m, Fm⟩ := fr_of I
  have e0 : Env0 X.prog X.w X.K X.mg X.base A X.stack s H := by
    have e := I.env0
    exact ⟨by rw [fr]; exact e.frames, e.mod, e.bs, e.bsz, e.funs, e.frf, e.hok, e.bare⟩
  have run := run_below (A := A) (us := [.ref a, u]) (vs := [.ref a, y]) Fn hr e0 hb (fun _ _ z => (cx_E0 z).elim) I (.cons rfl (.cons ry .nil)) q
  have run2 := wpAny_mono run (fun u' s' hq => back_of hq) fun _ _ z => z
  rcases hy with ⟨b, D, dy, gs, rfl, eb, tb⟩ | ⟨z, rfl⟩
  · obtain rfl : u = .ref b := ry
    obtain ⟨ob, od2, IB⟩ := inst_of I eb
    exact PySem.W.cmp_K (op := .Eq) hr.units0 Fm I.mod.kin IA IB.type (ht D tb) hm hf run2
  · obtain ⟨t, rfl⟩ := ry
    exact PySem.W.cmp_K (op := .Eq) hr.units0 Fm I.mod.kin IA (PySem.W.Looks.of_pure rfl) hi hm hf run2
theorem op_eqAny (G : HasF X.prog X.w X.K X.mg X.base k C "__eq__" ps sp) (ht : ∀ D, TB D → PySem.W.notFirst X.K C (.ref D) = true) (hi : PySem.W.notFirst X.K C (.type "int") = true) (hr : Room k X.A) : OpR X (compareOp .Eq) (rEqAny C TB sp) := by
  intro pins s σ H x y v u Q I rx ry q
  obtain ⟨⟨a, dx, fs, rfl, ea⟩, hy, q⟩ := q
  obtain rfl : v = .ref a := rx
  exact run_eqAt G ht hi hr rfl I ea hy ry q
/-- tuples of objects of the class at C: what the own == says of each two -/
def rEqTupI (K : PySem.W.Frag) (C : Addr) (sp : Sp) : R2 := fun x y H Q => ∃ (a b : Addr) (xs ys : List V) (e : Nat → Bool), x = .ref a ∧ y = .ref b ∧ SqT K H a xs ∧ SqT K H b ys ∧ (∀ (i : Nat) u v, xs[i]? = some u → ys[i]? = some v → ∃ p q dx dy fs gs, u = .ref p ∧ v = .ref q ∧ H p = some (.ins C dx fs) ∧ H q = some (.ins C dy gs) ∧
    (p = q → e i = true) ∧ ∀ H1, Ex H H1 → ∀ Q' : VK, (∀ H2, Ex H1 H2 → Q' (.bl (e i)) H2) → sp [.ref p, .ref q] H1 Q' E0) ∧ RetV (.bl ((List.range (min xs.length ys.length)).all e && decide (xs.length = ys.length))) H Q
theorem op_eqTupI (G : HasF X.prog X.w X.K X.mg X.base k C "__eq__" ps sp) (hi : PySem.W.notFirst X.K C (.type "int") = true) (hr : Room (k + 1) X.A) : OpR X (compareOp .Eq) (rEqTupI X.K C sp) := by
  intro pins s σ H x y v u Q I rx ry q
  obtain ⟨a, b, xs, ys, e, rfl, rfl, ha, hb, hit, q⟩ := q
  cases rx
  cases ry
  obtain ⟨its, r1, p1, _⟩ := I.tuple ha
  obtain ⟨its2, r2, p2, _⟩ := I.tuple hb
  have l1 := r1.length
  have l2 := r2.length
  refine rc_tupB (Q := EP X pins σ Q) e hr.units0 (fun _ s' => ∃ H', Inv X pins σ H' s' ∧ Ex H H') (show s.heap.IsTuple a its.toArray from p1) (show s.heap.IsTuple b its2.toArray from p2) (fun i h1 h2 s' hI => ?_) (fun i s' hI => ?_) ⟨H, I, Ex.refl H⟩
  · obtain ⟨H1, I1, e1⟩ := hI
    have k1 : i < xs.length := by rw [l1]; simpa using h1
    have k2 : i < ys.length := by rw [l2]; simpa using h2
    obtain ⟨u1, hu1, ru1⟩ := r1.get (List.getElem?_eq_getElem k1)
    obtain ⟨u2, hu2, ru2⟩ := r2.get (List.getElem?_eq_getElem k2)
    have g1 : its.toArray[i] = u1 := by
      have z : its[i]? = some its.toArray[i] := by
        have h1' : i < its.length := by simpa using h1
        rw [List.getElem?_eq_getElem h1'] <;> simp
      rw [z] at hu1
      exact Option.some.inj hu1
    have g2 : its2.toArray[i] = u2 := by
      have z : its2[i]? = some its2.toArray[i] := by
        have h2' : i < its2.length := by simpa using h2
        rw [List.getElem?_eq_getElem h2'] <;> simp
      rw [z] at hu2
      exact Option.some.inj hu2
    obtain ⟨p, q', dx, dy, fs, gs, ep, eq', hp, hq, same, own⟩ := hit i _ _ (List.getElem?_eq_getElem k1) (List.getElem?_eq_getElem k2)
    rw [ep] at ru1
    rw [eq'] at ru2
    obtain rfl : u1 = .ref p := ru1
    obtain rfl : u2 = .ref q' := ru2
    rw [g1, g2]
    by_cases hpq : p = q'
    · subst hpq
      unfold eqBool
      refine wpAny_holding ?_
      refine wpAny_ite_split (fun _ => ?_) fun n => (n (by simp)).elim
      refine wpAny_bind (wpAny_rule (wpAny_pure ?_))
      exact ⟨(same rfl).symm, H1, I1, e1⟩
    · refine GQ.eqBool_refG hpq ?_
      have run := run_eqAt (Q := fun v H2 => v = V.bl (e i) ∧ Ex H1 H2) (TB := fun D => D = C) (A := X.A.in1) G (fun D z => by subst z; simp [PySem.W.notFirst]) hi hr.in1 rfl I1 (e1 p _ hp) (.inl ⟨q', C, dy, gs, rfl, e1 q' _ hq, rfl⟩) (show RelV (.ref q') (.ref q') from rfl) (own H1 e1 (fun v H2 => v = .bl (e i) ∧ Ex H1 H2) fun H2 e2 => ⟨rfl, e2⟩)
      refine wpAny_mono run (fun v s2 hv => ?_) fun _ _ z => z
      obtain ⟨v', H2, I2, rv, rfl, e2⟩ := hv
      obtain rfl : v = .bool (e i) := rv
      exact ⟨e i, rfl, rfl, H2, I2, e1.trans e2⟩
  · obtain ⟨H1, I1, e1⟩ := hI
    refine ⟨_, H1, I1, ?_, q H1 e1⟩
    show Value.bool _ = Value.bool _
    have s1 : its.toArray.size = xs.length := by rw [List.size_toArray]; exact l1.symm
    have s2 : its2.toArray.size = ys.length := by rw [List.size_toArray]; exact l2.symm
    rw [s1, s2]
    rfl
end
end Nd
/-! A def that gets a caught error; C.m(..) of a plain method; != of lists of the same objects. -/
namespace Nd
open PySem PySem.Spec PyProof.Rows L2 Evl
/-! ### a caught error handed to a def -/
section
variable {X : Cx} {a C : Addr} {oe : Obj} {cls : Value} {d : Option Addr} {e : Expr} {te : TE} {pos : Pos} {n : Str}
theorem pe_xfP (hp : (a, oe) ∈ X.pn) (T : XfC X.K C) (hno : PySem.W.findIn X.K (.ref C) n = some none) (hz : Zc cls d oe) (hf : ∃ vs, oe.data = .fields vs) (he : PE X e te) (hb : attributeBase e n X.env (eval e X.env) = eval e X.env := by rfl) :
    PE X (.Attribute e n pos) (tXf a cls d C n te) := by
  refine ⟨fun pins s σ H Q I h => ?_⟩
  refine attr_of hb (thn (he.run pins s σ H _ I h) fun u s1 hh => ?_)
  obtain ⟨x, H1, I1, rx, rfl, rfl, dd, fs, v, rfl, ea, l, q⟩ := hh
  obtain rfl : u = Value.ref a := rx
  obtain ⟨ha, _⟩ := I1.pin (a, oe) (List.mem_append_left _ hp)
  obtain ⟨vs, hd⟩ := hf
  obtain ⟨mA, hns, hr⟩ := (show ObjOk X.prog X.w H1 s1.heap dd (.xd fs) from I1.hok dd _ ea)
  obtain ⟨od, ho, hl⟩ := lookIn_ns hns
  obtain ⟨u, hu, ru⟩ := RelO.some_of (v := v) (o := mA n) (by rw [← l]; exact hr n)
  have J : PySem.W.InstAt s1.heap a oe C (some od) := ⟨ha, hz.1, by unfold PySem.W.notCls; rw [hd] <;> rfl, by rw [hz.2]; exact ho⟩
  exact HandSPX.exc_get I1.kIn J T.ga T.gg T.exC (PySem.W.findObj_own T.hdC hno rfl (by rw [hl, hu])) (handed_of ru) ⟨v, H1, I1.tok _, ru, q⟩
theorem call_isXP (hp : (a, oe) ∈ X.pn) (hz : Zc cls d oe) (hf : ∃ vs, oe.data = .fields vs) : CallR X (.builtin "isinstance") (rIsX X.K a cls d) := by
  intro pins s σ H xs us Q I r h
  obtain ⟨D, dd, fv, c, rfl, rfl, C, rfl, hd, q⟩ := h
  obtain ⟨u1, u2, rfl, r1, r2⟩ := vals2 r
  obtain rfl : u1 = Value.ref a := r1
  obtain ⟨hget, _⟩ := I.pin (a, oe) (List.mem_append_left _ hp)
  obtain ⟨vs, hv⟩ := hf
  obtain ⟨mA, hns, _⟩ := (show ObjOk X.prog X.w H s.heap dd (.xd fv) from I.hok dd _ hd)
  obtain ⟨od, ho, _⟩ := lookIn_ns hns
  have J : PySem.W.InstAt s.heap a oe D (some od) := ⟨hget, hz.1, by unfold PySem.W.notCls; rw [hv] <;> rfl, by rw [hz.2]; exact ho⟩
  have Z := PySem.W.kitx_exc (x := a) (ox := oe) (od := some od) C.cl C.ga C.gt C.sb C.ca C.cg C.ct C.mo
  rcases q with ⟨u, b, k, e, q⟩ | ⟨tp, cs, ws, b, rfl, hT, k, e, q⟩
  · have e2 := k.eq r2
    subst e2
    exact PySem.W.kia_one Z I.kIn J e (fun z => nomatch z) fun tk => ⟨.bl b, H, I.tok tk, rfl, q⟩
  · cases (show u2 = Value.ref tp from r2)
    obtain ⟨_, its, rv, o, h1, h2, n, h3⟩ := (show ObjOk X.prog X.w H s.heap tp (.tup cs) from I.hok tp _ hT)
    have e3 := ClsV.all k rv
    subst e3
    obtain ⟨oc, od', dt, sl⟩ := o
    simp only at h2 h3
    subst h2 h3
    exact PySem.W.kia_tup Z I.kIn J h1 e (fun z => nomatch z) fun tk => ⟨.bl b, H, I.tok tk, rfl, q⟩
end
section
variable {P : Program} {w : World} {K : PySem.W.Frag} {mg : Str → Option Value} {base : Heap}
/-- the caught error at a lies in the heap, out of all that is told of -/
structure XAt (H : Hp) (s : Shared) (outer : List Env) (a : Addr) (oe : Obj) (cls : Value) (d : Option Addr) : Prop where
  here : s.heap.get? a = some oe
  un : H a = none
  nofr : a ∉ frs outer
  z : Zc cls d oe
  f : ∃ vs, oe.data = .fields vs
/-- the def x, which gets a caught error, keeps a promise and raises nothing -/
structure HasX (P : Program) (w : World) (K : PySem.W.Frag) (mg : Str → Option Value) (base : Heap) (k : Nat) (x : Str) (ps : List Str) (sp : Addr → Value → Option Addr → Sp) : Prop where
  ex : ∃ f fd, (∀ a cls d vs H Q E, sp a cls d vs H Q E → vs.length = ps.length) ∧ (∀ (A : Around) (outer : List Env) (s : Shared) (H : Hp) (args : Args) (us : List Value) (vs : List V) (Q : VK) (a : Addr) (oe : Obj) (cls : Value) (d : Option Addr), RoomA k A → Env0 P w K mg base A outer s H → BindsTo s fd args (ps.zip us) → Vals vs us →
    XAt H s outer a oe cls d → sp a cls d vs H Q E0 → codeAny (model P w) A (.call (.ref f) args) (CR CX0 outer P w H s Q E0) s) ∧ mg x = some (.ref f) ∧ PySem.W.keepIn K (.ref f) = true ∧ Binds K fd ps []
def cxX (P : Program) (w : World) (K : PySem.W.Frag) (mg : Str → Option Value) (base : Heap) (N : List Str) (qual : Str) (scope : Scope) (f : Addr) (cd : Value) (A : Around) (outer : List Env) (s : Shared) (H : Hp) (a : Addr) (oe : Obj) : Cx :=
  { cxA P w K mg base N qual scope f cd A outer s H with pn := [(a, oe)] }
theorem DefAt.hasX {x : Str} {st : Stmt} {N ps : List Str} {k : Nat} {sp : Addr → Value → Option Addr → Sp} (D : DefAt K mg x st ps) (S : FnScope N ps (defScope st)) (len : ∀ a cls d vs H Q E, sp a cls d vs H Q E → vs.length = ps.length)
    (hbody : ∀ (f : Addr) (cdv : Value) (A : Around) (outer : List Env) (s : Shared) (H : Hp) (vs : List V) (Q : VK) (a : Addr) (oe : Obj) (cls : Value) (d : Option Addr), RoomA k (A.deeper (envOfC x (defScope st) s.heap.objs.size f cdv)) → Zc cls d oe → (∃ vs, oe.data = .fields vs) → sp a cls d vs H Q E0 →
      ∃ t, PSs (cxX P w K mg base N x (defScope st) f cdv A outer s H a oe) (defBody st) t ∧ t { nx := fun _ H' => Q .non H', rt := Q } (L2.start N vs) H) : HasX P w K mg base (k + 1) x ps sp := by
  obtain ⟨f, fd, F, hm, hb⟩ := D.ex
  obtain ⟨oc, od, kV, doc, pm, an, cdv, ct, osl, rfl, lk, hcd⟩ := F.ex
  refine ⟨f, _, len, fun A outer s H args us vs Q a oe cls d hr e0 hb r xa hsp => ?_, hm, F.kp, hb⟩
  have hl := len _ _ _ _ _ _ _ hsp
  have KX : K.In s.heap := e0.mod.kin.keeps fun b o e => (e0.bs b o e).1
  have lim : s.heap.NoLimit := e0.mod.nolimit.keeps fun b o e => (e0.bs b o e).1
  have hkind : ∀ y ∈ ps.zip us, (defScope st).names.lookup y.1 = some .local ∨ ((defScope st).names.lookup y.1 = some .cell ∧ ((cellsFrom (s.heap.objs.size + 1) (defScope st).names []).lookup y.1).isSome = true) := fun ⟨n, v⟩ hy => by
    rcases S.par n (List.of_mem_zip hy).1 with q | q
    · exact .inl q
    · exact .inr ⟨q, PySem.W.cellsFrom_some _ _ _ (.inl q)⟩
  refine codeAny_call_function hr.depth (KX _ _ lk) rfl S.co S.gen rfl (PySem.W.codeRec_of KX hcd) (hb _ _ _ _ ?_)
  refine wpAny_newFunctionEnv_cells S.kind hkind fun env he s1 y => ?_
  subst he
  refine ⟨lim.keeps y.toInCall.keep, codeAny_func ?_⟩
  obtain ⟨t, ht, hq⟩ := hbody f cdv A outer s H vs Q a oe cls d (hr.deeper _) xa.z xa.f hsp
  have I := inv_A S e0 hl r y
  have ok := I.ok
  have pin : ∀ p ∈ [(a, oe)] ++ ([] : List (Addr × Obj)), s1.heap.get? p.1 = some p.2 ∧ H p.1 = none ∧ p.1 ≠ s.heap.objs.size ∧ p.1 ∉ frs outer ∧ ∀ v, p.2.data ≠ .cell v := fun p hp => by
    have e : p = (a, oe) := by
      have z : p ∈ [(a, oe)] ++ [] := hp
      exact List.mem_singleton.mp (by simpa using z)
    subst e
    refine ⟨y.toInCall.keep _ _ xa.here, xa.un, fun z => ?_, xa.nofr, fun v z => ?_⟩
    · have lt := Heap.lt_size xa.here
      have z' : a = s.heap.objs.size := z
      rw [z'] at lt
      exact absurd lt (Nat.lt_irrefl _)
    · obtain ⟨ws, hw⟩ := xa.f
      have z' : oe.data = .cell v := z
      rw [hw] at z'
      cases z'
  have I2 : Inv (cxX P w K mg base N x (defScope st) f cdv A outer s H a oe) [] (L2.start N vs) H s1 :=
    ⟨⟨ok.mod, ok.kind, ok.glob, ok.blt, ok.above, ok.inj, ok.has, ok.cab, (fun z => Bool.noConfusion (show false = true from z)), ok.frames, ok.stk, ok.exf, ok.bs, ok.bsz, ok.noex, ok.exfs, ok.funs, ok.frf⟩,
      I.os, I.bare, I.base, I.loc, I.cell, I.free, I.freeC, pin, I.hok, I.len⟩
  refine wpAny_mono (ht.run [] s1 (L2.start N vs) H _ I2 hq) (fun fl s' hs => ?_) fun e s' hs => False.elim hs
  have fin : ∀ {σ' : L2.St} {H' : Hp} {v : V} {u : Value}, Inv (cxX P w K mg base N x (defScope st) f cdv A outer s H a oe) [] σ' H' s' → RelV v u → Q v H' → CE outer P w H s Q u s' :=
    fun {σ' H' v u} J rv q => ⟨v, H', J.os, J.bare, J.base, J.hok, rv, q⟩
  cases fl with
  | ret u => obtain ⟨v, σ', H', J, rv, q⟩ := hs; exact fin J rv q
  | next => obtain ⟨σ', H', J, q⟩ := hs; exact fin (v := V.non) (u := Value.none) J rfl q
  | brk => obtain ⟨_, _, _, q⟩ := hs; exact False.elim q
  | cont => obtain ⟨_, _, _, q⟩ := hs; exact False.elim q
end
section
variable {X : Cx} {k : Nat} {ps : List Str} {sp : Addr → Value → Option Addr → Sp} {x : Str} {p pos : Pos} {e : Expr} {es : List Expr} {ta : TA} {a : Addr} {oe : Obj} {cls : Value} {d : Option Addr} {pn : List (Addr × Obj)}
/-- f(e) in the suite of the error e -/
theorem pe_hasX (hs : X.stack = X.env :: X.outer) (hfr : X.env.frame = some X.env.locals) (G : HasX X.prog X.w X.K X.mg X.base k x ps sp) (hr : RoomA k (X.A.mark (some (.ref a)))) (hz : Zc cls d oe) (hf : ∃ vs, oe.data = .fields vs) (ha : PA (X.suite a ((a, oe) :: pn)) (e :: es) ta) (hg : Gl (X.suite a ((a, oe) :: pn)) x := by rfl) (hdb : (x == ("__debug__" : Str)) = false := by decide)
    (he : starEach (e :: es) X.env = (false, eval e X.env) :: starEach es X.env := by rfl) (hpl : (backTo pos (starEach es X.env)).any (·.1) = false := by rfl) : PE (X.suite a ((a, oe) :: pn)) (.Call (.Name x p) (e :: es) [] pos) (tCallS (sp a cls d) (fun _ => E0) ta) := by
  obtain ⟨f, fd, len, run, hm, hk, hb⟩ := G.ex
  refine ⟨fun pins s σ H Q I h => ?_⟩
  refine wpAny_Call_Name_kw (ld_glob (X := X.suite a ((a, oe) :: pn)) I hg hm ?_ hdb)
  refine PySem.W.callWith_K (h₀ := X.base) I.ok.mod.kin hk (thn (ha.run pos pins s σ H _ I h) fun us s1 ⟨vs, H1, I1, r, q⟩ => ⟨I1.kIn, ?_⟩) he hpl
  have hl : us.length = ps.length := by rw [← r.length]; exact len _ _ _ _ _ _ _ q
  have b := hb s1 us I1.kIn (by rw [List.append_nil]; exact hl)
  rw [List.append_nil] at b
  obtain ⟨h1, h2, h3, h4, _⟩ := I1.pin (a, oe) (List.mem_append_left _ List.mem_cons_self)
  have nf : a ∉ frs X.stack := by
    rw [hs]
    intro z
    unfold frs at z
    rw [List.filterMap_cons, hfr] at z
    rcases List.mem_cons.mp z with e | e
    · exact h3 e
    · exact h4 e
  refine wpAny_call (codeAny_mono (run (X.A.mark (some (.ref a))) X.stack s1 H1 ⟨us, []⟩ us vs Q a oe cls d hr I1.env0 b r ⟨h1, h2, nf, hz, hf⟩ q) fun r s' hq => ?_)
  cases r with
  | error e => exact False.elim hq
  | ok fl =>
    cases fl with
    | ret u => exact I1.after hq
    | next => exact False.elim hq
    | brk => exact False.elim hq
    | cont => exact False.elim hq
end
/-! ### C.m(..), m a plain method -/
structure PlnM (K : PySem.W.Frag) (C : Addr) (mc : Value) (m : Str) (f : Addr) : Prop where
  rd : ClX.CRead K C mc
  at_ : PySem.W.findCls K (.ref C) mc m = some (.val (.ref f))
  kp : PySem.W.keepIn K (.ref f) = true
structure HasP (P : Program) (w : World) (K : PySem.W.Frag) (mg : Str → Option Value) (base : Heap) (k : Nat) (C : Addr) (m : Str) (ps : List Str) (sp : Sp) : Prop where
  ex : ∃ f fd mc, FnOk P w K mg base (L2.CX P w) k f fd ps sp ∧ PlnM K C mc m f ∧ Binds K fd ps []
section
variable {X : Cx} {C : Addr} {m : Str} {ps : List Str} {sp : Sp} {k : Nat} {W : WX} {o e : Expr} {es : List Expr} {ta : TE} {t : TA} {pos apos : Pos} {pl : Sem Bool}
theorem pe_plnR (he : PE X o ta) (G : HasP X.prog X.w X.K X.mg X.base k C m ps sp) (hr : Room k X.A) (tk : Takes X W) (ha : PA X (e :: es) t)
    (hst : starEach (e :: es) X.env = (false, eval e X.env) :: starEach es X.env := by rfl) (hpl : (backTo pos (starEach es X.env)).any (·.1) = false := by rfl)
    (ht : eval (.Call (.Attribute o m apos) (e :: es) [] pos) X.env = (do
      let ov ← eval o X.env
      standAt apos.atName
      let (f, first) ← holding [ov] (getMethod ov m pl)
      callWith pos f first (backTo pos (starEach (e :: es) X.env)) (backToKw pos (keywordEach [] X.env))) := by rfl) :
    PE X (.Call (.Attribute o m apos) (e :: es) [] pos) (tStaS C sp (WE W) ta t) := by
  obtain ⟨f, fd, mc, Fn, S, hb⟩ := G.ex
  refine ⟨fun pins s σ H Q I h => PySem.W.methodCall_KW (pl := pl) (thn (he.run pins s σ H _ I h) fun u s1 hh => ?_) ht⟩
  obtain ⟨y, H1, I1, rx, rfl, g⟩ := hh
  obtain rfl : u = Value.ref C := rx
  refine PySem.W.method_cls I1.kIn S.rd.ga (PySem.W.cls_value I1.kIn S.rd.rd S.at_ rfl ?_)
  have I2 := I1.tok (s1.toks + 1)
  refine PySem.W.callWith_K (first := []) (h₀ := X.base) I.ok.mod.kin S.kp (thn (ha.run pos pins _ σ H1 _ I2 g) fun us s2 ⟨vs, H2, I3, r, q2⟩ => ⟨I3.kIn, ?_⟩) hst hpl
  exact run_fnS (us := us) (vs := vs) Fn hr hb (passAt tk σ) I3 r q2
end
/-! ### lists of the same objects -/
/-- xs != ys, the same references -/
def rNeSame (K : PySem.W.Frag) : R2 := fun x y H Q => ∃ (a b : Addr) (ps : List Addr), x = .ref a ∧ y = .ref b ∧ H a = some (.lst (ps.map V.ref)) ∧ H b = some (.lst (ps.map V.ref)) ∧ Q (.bl false) H
theorem eq_same (A : Around) (s : Shared) (p : Addr) : SeqAt.EqAt A s (.ref p) (.ref p) true := fun prog w E Q q => by
  unfold eqBool
  refine wpAny_holding ?_
  refine wpAny_ite_split (fun _ => ?_) fun n => (n (by simp)).elim
  exact wpAny_bind (wpAny_rule (wpAny_pure q))
theorem op_neSame {X : Cx} (hu : X.A.units + 64 < cLine) : OpR X (compareOp .NotEq) (rNeSame X.K) := by
  intro pins s σ H x y v u Q I rx ry q
  obtain ⟨a, b, ps, rfl, rfl, ha, hb, q⟩ := q
  cases rx
  cases ry
  obtain ⟨z1, its, n1, v1, e1⟩ := (show ObjOk X.prog X.w H s.heap a (.lst (ps.map V.ref)) from I.hok a _ ha)
  obtain ⟨z2, its2, n2, v2, e2⟩ := (show ObjOk X.prog X.w H s.heap b (.lst (ps.map V.ref)) from I.hok b _ hb)
  have refs : ∀ {qs : List Addr} {us : List Value}, Vals (qs.map V.ref) us → us = qs.map Value.ref := fun {qs} => by
    induction qs with
    | nil => intro us h; cases h; rfl
    | cons q qs ih =>
      intro us h
      cases h with
      | cons r rr =>
        have : _ = Value.ref q := r
        rw [List.map_cons, ← this, ih rr]
  obtain rfl := refs v1
  obtain rfl := refs v2
  have T1 : s.TypeIs (.ref a) "list" := ⟨_, e1, rfl⟩
  have T2 : s.TypeIs (.ref b) "list" := ⟨_, e2, rfl⟩
  have hall : (List.range (ps.map Value.ref).toArray.size).all (fun _ => true) = true := all_yes fun _ _ => rfl
  refine wpAny_richCompare_same_room (op := .NotEq) T1 T2 F.slot_list_ne (GQ.call_here F.slot_list_ne T1 F.entry_list_ne (F.args_list_ne_2 _ _) ?_) (by omega)
  refine SeqAt.list_neAt a b _ _ n1 n2 none none #[] #[] rfl (fun _ => true) X.prog X.w X.A (wants (fun v s' => v ≠ .notImplemented ∧ EP X pins σ Q v s') X.xe) s ⟨e1, e2, fun j h1 h2 => ?_, ?_⟩
  · have hj : j < ps.length := by simpa using h1
    have e : (ps.map Value.ref).toArray[j] = .ref ps[j] := by simp
    rw [e]
    exact eq_same _ _ _
  · rw [hall]
    exact ⟨(fun z => nomatch z), .bl false, H, I, rfl, q⟩
end Nd
/-! C(e, .., k = v, ..) by a bundle; a heap without some addresses; data out of it. -/
namespace Nd
open PySem PySem.Spec PyProof.Rows L2 Evl
structure MakK (P : Program) (w : World) (K : PySem.W.Frag) (mg : Str → Option Value) (base : Heap) (k : Nat) (C : Addr) (x : Str) (ps : List Str) (n : Nat) (ks : List Str) (gV : List V → List V → List V) (sp : Sp) : Prop where
  ex : ∃ f fd g, FnOk P w K mg base (L2.CX P w) k f fd ps sp ∧ Mk K C f ∧ KBn K fd ps (n + 1) ks g gV
  g : mg x = some (.ref C)
theorem pe_mkK {X : Cx} {k n : Nat} {C : Addr} {ps ks : List Str} {sp : Sp} {x : Str} {p pos : Pos} {e : Expr} {es : List Expr} {kws : List Keyword} {t tk : TA} {gV : List V → List V → List V} (M : MakK X.prog X.w X.K X.mg X.base k C x ps n ks gV sp) (hr : Room (k + 1) X.A) (ha : PA X (e :: es) t) (hkw : PK X kws tk) (hg : Gl X x := by rfl)
    (hall : (backToKw pos (keywordEach kws X.env)).all (·.1.isSome) = true := by rfl) (hks : (backToKw pos (keywordEach kws X.env)).filterMap (·.1) = ks := by rfl) (hdb : (x == ("__debug__" : Str)) = false := by decide)
    (he : starEach (e :: es) X.env = (false, eval e X.env) :: starEach es X.env := by rfl) (hpl : ((backTo pos (starEach (e :: es) X.env)).any (·.1) || (backToKw pos (keywordEach kws X.env)).any (·.1.isNone)) = false := by rfl) :
    PE X (.Call (.Name x p) (e :: es) kws pos) (tMakeK C n ks.length sp gV E0 t tk) := by
  obtain ⟨f, fd, g, Fn, M1, hb⟩ := M.ex
  exact pe_makeK M1 Fn hr hg M.g hb (fun pins σ H s e s' I c => (cx_E0 c).elim) ha hkw hall hks hdb he hpl
/-! ### the heap without the addresses of S -/
def hide (S : List Addr) (H : Hp) : Hp := fun a => if a ∈ S then none else H a
section
variable {K : PySem.W.Frag} {S S' : List Addr} {H H' : Hp} {a p : Addr} {o : HO} {v : V} {d : PyData} {xs : List V}
theorem hide_ex : Ex (hide S H) H := fun a o h => by
  unfold hide at h
  by_cases c : a ∈ S
  · rw [if_pos c] at h; cases h
  · rw [if_neg c] at h; exact h
theorem hide_at (n : a ∉ S) (h : H a = some o) : hide S H a = some o := by unfold hide; rw [if_neg n]; exact h
theorem hide_of (h : hide S H a = some o) : a ∉ S ∧ H a = some o := by
  unfold hide at h
  by_cases c : a ∈ S
  · rw [if_pos c] at h; cases h
  · rw [if_neg c] at h; exact ⟨c, h⟩
theorem hide_map (h : ∀ a o, a ∉ S → H a = some o → H' a = some o) : Ex (hide S H) (hide S H') := fun a o e => by
  obtain ⟨n, e⟩ := hide_of e
  exact hide_at n (h a o n e)
theorem hide_mono (h : Ex H H') : Ex (hide S H) (hide S H') := hide_map fun a o _ e => h a o e
theorem hide_but (h : But p H H') (hp : p ∈ S) : Ex (hide S H) (hide S H') := hide_map fun a o n e => h a o (fun z => n (z ▸ hp)) e
theorem hide_upd (hp : p ∈ S) : Ex (hide S H) (hide S (upd H p o)) := hide_map fun a u n e => by
  rw [upd_ne (show a ≠ p from fun z => n (by rw [z]; exact hp))]
  exact e
theorem hide_less (h : ∀ x ∈ S', x ∈ S) : Ex (hide S H) (hide S' H) := fun a o e => by
  obtain ⟨n, e⟩ := hide_of e
  exact hide_at (fun z => n (h a z)) e
theorem hide_none (hp : H a = none) : hide S H a = none := by unfold hide; rw [hp]; split <;> rfl
/-- a new object lies out of S if S lies in the heap -/
theorem notIn_new (h : ∀ x ∈ S, H x ≠ none) (hp : H p = none) : p ∉ S := fun z => h p z hp
end
/-- the value v is the data d, made anew or not, beside what was -/
def RetD (K : PySem.W.Frag) (S : List Addr) (d : PyData) (H : Hp) (Q : VK) : Prop := ∀ v H2, Ex H H2 → Dp K (hide S H2) v d → Q v H2
theorem RetD.mono {K : PySem.W.Frag} {S : List Addr} {d : PyData} {H H' : Hp} {Q : VK} (h : RetD K S d H Q) (e : Ex H H') : RetD K S d H' Q := fun v H2 e2 hd => h v H2 (e.trans e2) hd
/-- evaluates to some value of the data d -/
def EvD (K : PySem.W.Frag) (te : TE) (σ : L2.St) (H : Hp) (d : PyData) : Prop := ∀ H1, Ex H H1 → ∀ Q : VK, (∀ v H2, Ex H1 H2 → Dp K H2 v d → Q v H2) → te σ H1 Q
section
variable {K : PySem.W.Frag} {σ : L2.St} {H H' : Hp} {te ta tb : TE} {v : V} {d f : PyData} {xs : List V} {ds : List PyData} {tc : TA}
theorem ed_ev (h : Ev te σ H v) (hd : Dp K H v d) : EvD K te σ H d := fun H1 e Q q => h H1 e _ fun H2 e2 => q v H2 e2 (dp_mono (e.trans e2) d hd)
theorem ed_el (h : EvL te σ H xs) (hd : DpAll K H xs ds) : EvD K te σ H (.list ds) := fun H1 e Q q => h H1 e _ fun p H2 _ e2 g => q (.ref p) H2 e2 (.lst (sq_of g) (dpa_mono (e.trans e2) ds hd))
theorem ed_eu (h : EvU te σ H xs) (hd : DpAll K H xs ds) : EvD K te σ H (.tuple ds) := fun H1 e Q q => h H1 e _ fun p H2 _ e2 g => q (.ref p) H2 e2 (.tup (st_of g) (dpa_mono (e.trans e2) ds hd))
theorem ed_int {i : Int} (h : Ev te σ H (.int i)) : EvD K te σ H (.int i) := ed_ev h (.int i)
theorem ed_bl {b : Bool} (h : Ev te σ H (.bl b)) : EvD K te σ H (.bool b) := ed_ev h (.bl b)
theorem ed_str {x : Str} (h : Ev te σ H (.str x)) : EvD K te σ H (.str x) := ed_ev h (.str x)
theorem ed_non (h : Ev te σ H .non) : EvD K te σ H .none := ed_ev h .non
theorem EvD.mono (e : Ex H H') (h : EvD K te σ H d) : EvD K te σ H' d := fun H1 a Q q => h H1 (e.trans a) Q q
/-- x == y of data -/
theorem ev_eqDD {b : Bool} (ha : EvD K ta σ H d) (hb : EvD K tb σ H f) (sd : SeqAt.shaped d = true) (sf : SeqAt.shaped f = true) (hv : PyData.eqv d f = b) : Ev (tOp (rEqD K) ta tb) σ H (.bl b) := fun H1 e Q q =>
  ha H1 e _ fun x H2 e2 hx => hb H2 (e.trans e2) _ fun y H3 e3 hy => rv_eqD (dp_mono e3 d hx) hy sd sf hv H3 (Ex.refl H3) Q fun H4 e4 => q H4 ((e2.trans e3).trans e4)
theorem ev_neDD {b : Bool} (ha : EvD K ta σ H d) (hb : EvD K tb σ H f) (sd : SeqAt.shaped d = true) (sf : SeqAt.shaped f = true) (hv : PyData.eqv d f = b) : Ev (tOp (rNeD K) ta tb) σ H (.bl (!b)) := fun H1 e Q q =>
  ha H1 e _ fun x H2 e2 hx => hb H2 (e.trans e2) _ fun y H3 e3 hy => rv_neD (dp_mono e3 d hx) hy sd sf hv H3 (Ex.refl H3) Q fun H4 e4 => q H4 ((e2.trans e3).trans e4)
/-- arguments that are data, known or made -/
def EvDs (K : PySem.W.Frag) (tc : TA) (σ : L2.St) (H : Hp) (ds : List PyData) : Prop := ∀ H1, Ex H H1 → ∀ Q : List V → Hp → Prop, (∀ vs H2, Ex H1 H2 → DpAll K H2 vs ds → Q vs H2) → tc σ H1 Q
theorem eds_nil : EvDs K tNil σ H [] := fun H1 _ _ q => q [] H1 (Ex.refl H1) .nil
theorem eds_cons (h : EvD K te σ H d) (hr : EvDs K tc σ H ds) : EvDs K (tCons te tc) σ H (d :: ds) := fun H1 e Q q =>
  h H1 e _ fun v H2 e2 hv => hr H2 (e.trans e2) _ fun vs H3 e3 hvs => q (v :: vs) H3 (e2.trans e3) (.cons (dp_mono e3 d hv) hvs)
theorem dpa_len {K : PySem.W.Frag} {H : Hp} : ∀ {vs : List V} {ds : List PyData}, DpAll K H vs ds → vs.length = ds.length
  | _, _, .nil => rfl
  | _, _, .cons _ b => congrArg Nat.succ (dpa_len b)
theorem ed_tup (h : EvDs K tc σ H ds) (hl : ds.length ≤ 100000) : EvD K (tTup tc) σ H (.tuple ds) := fun H1 e Q q => h H1 e _ fun vs H2 e2 hv => by
  have l : vs.length = ds.length := dpa_len hv
  exact ⟨sz_of (by omega), fun p hp => q (.ref p) _ (e2.trans (Ex.new hp)) (.tup (st_of upd_same) (dpa_mono (Ex.new hp) ds hv))⟩
theorem ed_lst (h : EvDs K tc σ H ds) (hl : ds.length ≤ 100000) : EvD K (tLst tc) σ H (.list ds) := fun H1 e Q q => h H1 e _ fun vs H2 e2 hv => by
  have l : vs.length = ds.length := dpa_len hv
  exact ⟨sz_of (by omega), fun p hp => q (.ref p) _ (e2.trans (Ex.new hp)) (.lst (sq_of upd_same) (dpa_mono (Ex.new hp) ds hv))⟩
theorem dpa_get {K : PySem.W.Frag} {H : Hp} : ∀ {vs : List V} {ds : List PyData} {i : Nat} {d : PyData}, DpAll K H vs ds → ds[i]? = some d → ∃ v, vs[i]? = some v ∧ Dp K H v d
  | _, _, i, d, .nil, h => by simp at h
  | _, _, 0, d, .cons a _, h => by simp at h; subst h; exact ⟨_, rfl, a⟩
  | _, _, i + 1, d, .cons _ b, h => by
    have h' := h
    simp at h'
    obtain ⟨v, e, q⟩ := dpa_get b h'
    exact ⟨v, by simpa using e, q⟩
theorem dpa_app {K : PySem.W.Frag} {H : Hp} : ∀ {vs ws : List V} {ds es : List PyData}, DpAll K H vs ds → DpAll K H ws es → DpAll K H (vs ++ ws) (ds ++ es)
  | _, _, _, _, .nil, h => h
  | _, _, _, _, .cons a b, h => .cons a (dpa_app b h)
theorem dpa_rev {K : PySem.W.Frag} {H : Hp} : ∀ {vs : List V} {ds : List PyData}, DpAll K H vs ds → DpAll K H vs.reverse ds.reverse
  | _, _, .nil => .nil
  | _, _, .cons a b => by
    rw [List.reverse_cons, List.reverse_cons]
    exact dpa_app (dpa_rev b) (.cons a .nil)
theorem dpa_ints {K : PySem.W.Frag} {H : Hp} : ∀ {vs : List V} {ns : List Int}, DpAll K H vs (ns.map PyData.int) → vs = ns.map V.int
  | _, [], h => by cases h; rfl
  | _, n :: ns, h => by
    cases h with
    | cons a b =>
      cases a
      rw [dpa_ints b]
      rfl
end
theorem pt_truthK {X : Cx} (K : PySem.W.Frag) {a : Expr} {ta : TE} (ha : PE X a ta) (he : ∀ whole, isTrue a X.env whole = (do let v ← whole; standAt a.pos; holding [v] (truthy v))) (h : X.K = K := by rfl) :
    PT X a (fun σ H Q => ta σ H fun x H' => ∃ k, TruV K x H' k ∧ Q k H') := by
  subst h
  exact pt_truth ha he
theorem cr_allK {X : Cx} (K : PySem.W.Frag) (hc : X.calm = true) (h : X.K = K := by rfl) : CallR X (.builtin "all") (rAll K) := by subst h; exact cr_all hc
theorem cr_sumK {X : Cx} (K : PySem.W.Frag) (hc : X.calm = true) (h : X.K = K := by rfl) : CallR X (.builtin "sum") (rSum K) := by subst h; exact cr_sum hc
theorem cr_maxK {X : Cx} (K : PySem.W.Frag) (hc : X.calm = true) (h : X.K = K := by rfl) : CallR X (.builtin "max") (rMax K) := by subst h; exact cr_max hc
theorem sql_upd {K : PySem.W.Frag} {H : Hp} {a p : Addr} {xs : List V} {o : HO} (n : a ≠ p) (h : SqL K H a xs) : SqL K (upd H p o) a xs := ((But.refl p H).upd).l n h
theorem pg_tupK {X : Cx} (K : PySem.W.Frag) {es : List Expr} {k : Nat} {t : TGs} {n : Nat} {pos : Pos} (hc : X.calm = true) (h : PGs X es t) (hn : (assignEach es X.env).length = n := by rfl) (hst : (assignEach es X.env).findIdx? (·.1) = none := by rfl) (hK : X.K = K := by rfl) :
    PG X (.Tuple es k pos) (gTup K n t) := by subst hK; exact pg_tup hc h hn hst
end Nd
/-! tuple(list) as a frozen object without a dict; the call of a tuple's method. -/
namespace Nd
open PySem PySem.Spec PyProof.Rows L2 Evl
def kTupF (K : PySem.W.Frag) (x : V) (H : Hp) (Q : VK) : Prop :=
  ∃ p xs, x = .ref p ∧ SqL K H p xs ∧ ∀ q o, H q = none → o.dict = none → Q (.ref q) (upd H q (.frz o (.tup xs)))
section
variable {X : Cx}
theorem rl_tupleF (pins : List (Addr × Obj)) (s : Shared) (σ : L2.St) (H : Hp) (x : V) (v : Value) (Q : VK) (I : Inv X pins σ H s) (r : RelV x v) (h : kTupF X.K x H Q) :
    wpAny (model X.prog X.w) X.A (call (.type "tuple") [v]) (EP X pins σ Q) X.xe s := by
  obtain ⟨p, xs, rfl, hs, q⟩ := h
  obtain rfl : v = .ref p := r
  obtain ⟨its, rv, pl, hz⟩ := I.list hs
  refine call_tuple_list pl.isList (fun h' hk => ?_) (by rw [List.size_toArray, ← rv.length]; exact hz)
  have I1 : Inv X pins σ H { s with heap := h' } := I.kept (t' := s.toks) hk
  have I2 : Inv X pins σ (upd H h'.objs.size (.frz { cls := .type "tuple", data := .seq its.toArray } (.tup xs))) { s with heap := h'.push { cls := .type "tuple", data := .seq its.toArray } } :=
    I1.laid (t' := s.toks) (fun b o e => Heap.get?_push_of_some _ e) (Nat.le_refl _) (show ObjOk X.prog X.w _ _ _ (.frz _ (.tup xs)) from ⟨Heap.get?_push_size _ rfl, hz, its, rv, IsTup.new _ _⟩)
  exact ⟨.ref h'.objs.size, _, I2, rfl, q _ _ (I1.hok.fresh (Nat.le_refl _)) rfl⟩
theorem pe_tupleF {a : Expr} {ta : TE} {p pos : Pos} (hg : Gl X "tuple") (hm : X.mg "tuple" = none) (ha : PE X a ta) (na : starEach [a] X.env = (false, eval a X.env) :: starEach [] X.env := by rfl) :
    PE X (.Call (.Name "tuple" p) [a] [] pos) (tThen ta (kTupF X.K)) := by
  refine ⟨fun pins s σ H Q I h => ?_⟩
  exact Call_ (ld_blt I hg hm boot_tuple (PyProof.Rows.callWith_type1 (one_arg ha I h (fun v s2 x H2 I2 r q => rl_tupleF pins s2 σ H2 x v Q I2 r q) na) na))
end
def tBMF (r : V → List V → Hp → VK → Prop) (to : TE) (t : TA) : TE := fun σ H Q => to σ H fun x H1 => (∃ p o xs, x = .ref p ∧ H1 p = some (.frz o (.tup xs)) ∧ o.dict = none) ∧ t σ H1 fun xs H2 => r x xs H2 Q
section
variable {X : Cx} {o e : Expr} {es : List Expr} {to : TE} {t : TA} {name : Str} {apos cpos : Pos} {id : String} {r : V → List V → Hp → VK → Prop}
theorem pe_bmF (pa : PlainAttrs "tuple") (slot : Slot "tuple" name id) (hty : typeOf (.builtin id) = pure (.type "method_descriptor")) (hm : MtR X id r) (ho : PE X o to) (ha : PA X (e :: es) t)
    (hbase : attributeBase o name X.env (eval o X.env) = eval o X.env := by rfl)
    (hfew : ((backTo cpos (starEach (e :: es) X.env)).all (fun x => !x.1) && (backToKw cpos (keywordEach [] X.env)).all (fun x => x.1.isSome)
      && decide ((e :: es).length + ([] : List Keyword).length + (if ([] : List Keyword).isEmpty then 0 else 1) < 30)) = true := by rfl)
    (hline : (apos.endLine == cpos.line) = true := by rfl) (hs : starEach (e :: es) X.env = (false, eval e X.env) :: starEach es X.env := by rfl) (hplain : (backTo cpos (starEach es X.env)).any (·.1) = false := by rfl) :
    PE X (.Call (.Attribute o name apos) (e :: es) [] cpos) (tBMF r to t) := by
  refine ⟨fun pins s σ H Q I h => ?_⟩
  refine wpAny_Call_method_late hbase hfew hline rfl (thn (ho.run pins s σ H _ I h) fun v s1 ⟨x, H1, I1, r1, ty, q1⟩ => ?_)
  obtain ⟨p, ob, xs, rfl, hp, hd⟩ := ty
  obtain rfl : v = .ref p := r1
  obtain ⟨ge, hz, its, rv, it⟩ := (show ObjOk X.prog X.w H1 s1.heap p (.frz ob (.tup xs)) from I1.hok p _ hp)
  obtain ⟨o2, g2, c2, _⟩ := it
  refine ⟨"tuple", id, pa, slot, hty, ⟨o2, g2, c2⟩, fun a e => by cases e; exact ⟨ob, ge, hd⟩, ?_⟩
  have hA := ha.run cpos pins s1 σ H1 _ I1 q1
  rw [hs] at hA ⊢
  refine Calls.callWith_builtin (by show (false || (backTo cpos (starEach es X.env)).any (·.1)) = false; rw [hplain] <;> rfl) (Calls.evalArgs_plain ?_)
  exact thn hA fun us s2 ⟨vs, H2, I2, r2, q2⟩ => hm pins s2 σ H2 (.ref p) vs (.ref p) us Q I2 (show L2.RelV (.ref p) (.ref p) from rfl) r2 q2
end
/-- what a frozen tuple gives -/
def EvF (te : TE) (σ : L2.St) (H : Hp) (xs : List V) : Prop := ∀ H1, Ex H H1 → ∀ Q : VK, (∀ p o H2, H1 p = none → Ex H1 H2 → H2 p = some (.frz o (.tup xs)) → o.dict = none → Q (.ref p) H2) → te σ H1 Q
theorem ef_tuple {K : PySem.W.Frag} {σ : L2.St} {H : Hp} {ta : TE} {a : Addr} {xs : List V} (ha : Ev ta σ H (.ref a)) (h : SqL K H a xs) : EvF (tThen ta (kTupF K)) σ H xs := fun H1 e Q q =>
  ha H1 e _ fun H2 e2 => ⟨a, xs, rfl, ex_l (e.trans e2) h, fun p o hp ho => q p o _ (fresh_back e2 hp) (e2.trans (Ex.new hp)) upd_same ho⟩
theorem sf_of {K : PySem.W.Frag} {H : Hp} {a : Addr} {o : Obj} {xs : List V} (h : H a = some (.frz o (.tup xs))) : SqT K H a xs := .inl (.inr ⟨o, h⟩)
end Nd
namespace K4
open PySem PySem.Spec PyProof.Rows L2 Evl Nd
/-- a wish: its weights and its two numbers -/
structure Row where
  ws : List Int
  top : Option Int
  low : Option Int
deriving DecidableEq
def optV : Option Int → V
  | none => .non
  | some z => .int z
def optD : Option Int → PyData
  | none => .none
  | some z => .int z
def rowD (r : Row) : PyData := .tuple [.list (r.ws.map PyData.int), optD r.top, optD r.low]
def rowsD (rs : List Row) : PyData := .list (rs.map rowD)
structure RowOk (r : Row) : Prop where
  len : r.ws.length ≤ 10
  w0 : ∀ w ∈ r.ws, 0 ≤ w ∧ w ≤ 20
  top : ∀ z, r.top = some z → -1000 ≤ z ∧ z ≤ 1000
  low : ∀ z, r.low = some z → -1000 ≤ z ∧ z ≤ 1000
  one : r.top ≠ none ∨ r.low ≠ none
  flat : r.low ≠ none → ∀ w ∈ r.ws, w ≤ 1
  ord : ∀ t l, r.top = some t → r.low = some l → l ≤ t
/-! ### greatest numbers -/
theorem maxD_nil (d : Int) : maxD d [] = d := rfl
theorem maxD_mem {d : Int} {ns : List Int} (h : ns ≠ []) : maxD d ns ∈ ns ∧ ∀ y ∈ ns, y ≤ maxD d ns := by
  cases ns with
  | nil => exact (h rfl).elim
  | cons n r =>
    obtain ⟨a, b, c⟩ := foldl_max r n
    refine ⟨?_, fun y hy => ?_⟩
    · rcases a with e | e
      · show r.foldl max n ∈ _; rw [e]; exact List.mem_cons_self
      · exact List.mem_cons_of_mem _ e
    · rcases List.mem_cons.mp hy with rfl | hy
      · exact b
      · exact c y hy
theorem maxD_le {d b : Int} {ns : List Int} (hd : d ≤ b) : maxD d ns ≤ b ↔ (ns ≠ [] → ∀ y ∈ ns, y ≤ b) := by
  constructor
  · intro h n y hy
    exact Int.le_trans ((maxD_mem n).2 y hy) h
  · intro h
    cases ns with
    | nil => exact hd
    | cons n r => exact h (by simp) _ (maxD_mem (by simp)).1
theorem maxD_le' {d b : Int} {ns : List Int} (hd : d ≤ b) : maxD d ns ≤ b ↔ ∀ y ∈ ns, y ≤ b := by
  rw [maxD_le hd]
  constructor
  · intro h y hy
    exact h (fun e => by rw [e] at hy; cases hy) y hy
  · intro h _ y hy
    exact h y hy
theorem maxD_snoc {c : Int} (h : 0 ≤ c) : ∀ xs : List Int, maxD 0 (xs ++ [c]) = if c > maxD 0 xs then c else maxD 0 xs
  | [] => by
    show c = if c > 0 then c else 0
    split <;> omega
  | x :: xs => by
    show (xs ++ [c]).foldl max x = if c > xs.foldl max x then c else xs.foldl max x
    rw [List.foldl_append]
    show max (xs.foldl max x) c = _
    split <;> omega
def great (r : Row) : Int := maxD 0 r.ws
def plain (r : Row) : Bool := decide (great r ≤ 1)
theorem plain_iff (r : Row) : plain r = true ↔ ∀ w ∈ r.ws, w ≤ 1 := by
  unfold plain great
  rw [decide_eq_true_iff, maxD_le' (by decide)]
theorem RowOk.plain {r : Row} (h : RowOk r) (hl : r.low ≠ none) : K4.plain r = true := (plain_iff r).mpr (h.flat hl)
theorem great0 {r : Row} (h : RowOk r) : 0 ≤ great r := by
  unfold great
  cases e : r.ws with
  | nil => exact Int.le_refl 0
  | cons n l =>
    have := h.w0 _ (by rw [e]; exact (maxD_mem (d := 0) (ns := n :: l) (by simp)).1)
    exact this.1
theorem great20 {r : Row} (h : RowOk r) : great r ≤ 20 := by
  unfold great
  rw [maxD_le' (by decide)]
  exact fun w hw => (h.w0 w hw).2
theorem max1 {r : Row} (h : RowOk r) : maxD 0 (1 :: r.ws) = if great r > 1 then great r else 1 := by
  refine maxD_uniq (fun e => by cases e) fun _ => ?_
  by_cases hg : great r > 1
  · rw [if_pos hg]
    have hn : r.ws ≠ [] := fun e => by
      have : great r = 0 := by unfold great; rw [e]; rfl
      omega
    obtain ⟨a, b⟩ := maxD_mem (d := 0) hn
    refine ⟨List.mem_cons_of_mem _ a, fun y hy => ?_⟩
    rcases List.mem_cons.mp hy with rfl | hy
    · exact Int.le_of_lt hg
    · exact b y hy
  · rw [if_neg hg]
    refine ⟨List.mem_cons_self, fun y hy => ?_⟩
    rcases List.mem_cons.mp hy with rfl | hy
    · exact Int.le_refl 1
    · have : great r ≤ 1 := by omega
      unfold great at this
      rw [maxD_le' (by decide)] at this
      exact this y hy
/-! ### depth, kind, slack -/
def cnt (rs : List Row) (i : Nat) : Nat := (rs.filter fun r => decide (r.ws.getD i 0 ≠ 0)).length
def deep (t : Nat) (rs : List Row) : Int := maxD 0 ((List.range t).map fun i => (cnt rs i : Int))
theorem deep0 (t : Nat) (rs : List Row) : 0 ≤ deep t rs ∧ deep t rs ≤ rs.length := by
  unfold deep
  refine ⟨?_, ?_⟩
  · cases t with
    | zero => exact Int.le_refl 0
    | succ t =>
      have hn : (List.range (t + 1)).map (fun i => (cnt rs i : Int)) ≠ [] := by simp
      obtain ⟨a, _⟩ := maxD_mem (d := 0) hn
      obtain ⟨i, _, e⟩ := List.mem_map.mp a
      rw [← e]
      omega
  · rw [maxD_le' (by omega)]
    intro y hy
    obtain ⟨i, _, rfl⟩ := List.mem_map.mp hy
    have : cnt rs i ≤ rs.length := List.length_filter_le _ _
    omega
theorem deep_succ (t : Nat) (rs : List Row) : deep (t + 1) rs = if (cnt rs t : Int) > deep t rs then (cnt rs t : Int) else deep t rs := by
  unfold deep
  rw [List.range_succ, List.map_append, List.map_cons, List.map_nil]
  exact maxD_snoc (by omega) _
def kindOf (rs : List Row) : Str := if rs.all plain = false then "weighted" else if rs.all (fun r => r.low.isNone) = true then "most" else if rs.all (fun r => r.top.isNone) = true then "least" else "both"
def heaviest (rs : List Row) : Int := maxD 0 (0 :: rs.map fun r => maxD 0 (0 :: r.ws))
theorem heaviest_iff (rs : List Row) : heaviest rs > 1 ↔ rs.all plain = false := by
  have h : heaviest rs ≤ 1 ↔ rs.all plain = true := by
    unfold heaviest
    rw [maxD_le' (by decide), List.all_eq_true]
    constructor
    · intro h r hr
      have := h _ (List.mem_cons_of_mem _ (List.mem_map_of_mem (f := fun r : Row => maxD 0 (0 :: r.ws)) hr))
      rw [maxD_le' (by decide)] at this
      exact (plain_iff r).mpr fun w hw => this w (List.mem_cons_of_mem _ hw)
    · intro h y hy
      rcases List.mem_cons.mp hy with rfl | hy
      · decide
      · obtain ⟨r, hr, rfl⟩ := List.mem_map.mp hy
        rw [maxD_le' (by decide)]
        intro w hw
        rcases List.mem_cons.mp hw with rfl | hw
        · decide
        · exact (plain_iff r).mp (h r hr) w hw
  constructor
  · intro hg
    cases e : rs.all plain with
    | false => rfl
    | true => have := h.mpr e; omega
  · intro e
    by_cases hg : heaviest rs > 1
    · exact hg
    · have := h.mp (by omega)
      rw [this] at e
      cases e
def slackOf (t : Nat) (rs : List Row) (r : Row) : Int :=
  if kindOf rs = "weighted" then deep t rs * (if great r > 1 then great r else 1) else if kindOf rs = "both" then (if 2 * deep t rs - 2 > 0 then 2 * deep t rs - 2 else 0) else if deep t rs - 1 > 0 then deep t rs - 1 else 0
/-! ### refusals -/
inductive Er where
  | size (z : Int)
  | wish (z : Int)
def Er.dat : Er → PyData
  | .size z => .tuple [.str "size", .int z]
  | .wish z => .tuple [.str "wish", .int z]
def badLen (t : Nat) : List Row → Option Nat
  | [] => none
  | r :: rs => if r.ws.length = t then badLen t rs else some r.ws.length
def firstLow : List Row → Nat → Option Nat
  | [], _ => none
  | r :: rs, i => if r.low.isSome then some i else firstLow rs (i + 1)
def bookErr (t : Nat) (rs : List Row) : Option Er :=
  if 5 < rs.length then some (.size rs.length) else match badLen t rs with
    | some n => some (.size n)
    | none => if rs.all plain = true then none else (firstLow rs 0).map fun i => .wish i
def dueD : Option Er → PyData
  | none => .list []
  | some e => .list [e.dat]
theorem badLen_at {t : Nat} : ∀ {rs : List Row} {i : Nat} {r : Row}, rs[i]? = some r → r.ws.length ≠ t → (∀ j s, j < i → rs[j]? = some s → s.ws.length = t) → badLen t rs = some r.ws.length
  | [], i, r, h, _, _ => by simp at h
  | s :: rs, 0, r, h, hn, _ => by
    simp at h
    subst h
    unfold badLen
    rw [if_neg hn]
  | s :: rs, i + 1, r, h, hn, hb => by
    unfold badLen
    rw [if_pos (hb 0 s (by omega) rfl)]
    exact badLen_at (by simpa using h) hn fun j s' hj hs => hb (j + 1) s' (by omega) (by simpa using hs)
theorem badLen_none {t : Nat} : ∀ {rs : List Row}, badLen t rs = none ↔ ∀ r ∈ rs, r.ws.length = t
  | [] => by simp [badLen]
  | s :: rs => by
    unfold badLen
    by_cases h : s.ws.length = t
    · rw [if_pos h, badLen_none]
      simp [h]
    · rw [if_neg h]
      simp [h]
theorem firstLow_at : ∀ {rs : List Row} {k i : Nat} {r : Row}, rs[i]? = some r → r.low.isSome = true → (∀ j s, j < i → rs[j]? = some s → s.low.isSome = false) → firstLow rs k = some (k + i)
  | [], k, i, r, h, _, _ => by simp at h
  | s :: rs, k, 0, r, h, hn, _ => by
    simp at h
    subst h
    unfold firstLow
    rw [if_pos hn]
    rfl
  | s :: rs, k, i + 1, r, h, hn, hb => by
    unfold firstLow
    rw [if_neg (by rw [hb 0 s (by omega) rfl]; exact Bool.false_ne_true), firstLow_at (k := k + 1) (i := i) (r := r) (by simpa using h) hn fun j s' hj hs => hb (j + 1) s' (by omega) (by simpa using hs)]
    rw [show k + 1 + i = k + (i + 1) by omega]
theorem firstLow_none : ∀ {rs : List Row} {k : Nat}, (∀ r ∈ rs, r.low.isSome = false) → firstLow rs k = none
  | [], _, _ => rfl
  | s :: rs, k, h => by
    unfold firstLow
    rw [if_neg (by rw [h s List.mem_cons_self]; exact Bool.false_ne_true)]
    exact firstLow_none fun r hr => h r (List.mem_cons_of_mem _ hr)
theorem err_ok {t : Nat} {rs : List Row} (h : bookErr t rs = none) : rs.length ≤ 5 ∧ ∀ r ∈ rs, r.ws.length = t := by
  unfold bookErr at h
  by_cases h5 : 5 < rs.length
  · rw [if_pos h5] at h; cases h
  · rw [if_neg h5] at h
    refine ⟨by omega, ?_⟩
    cases e : badLen t rs with
    | some n => rw [e] at h; cases h
    | none => exact badLen_none.mp e
/-! ### ranks of a choice, of one group -/
def sumsM (es : List Int) : List Int := es.foldl (fun acc e => acc ++ acc.map (· + e)) [0]
theorem sumsM_snoc (es : List Int) (e : Int) : sumsM (es ++ [e]) = sumsM es ++ (sumsM es).map (· + e) := by
  unfold sumsM
  rw [List.foldl_append]
  rfl
theorem sumsM_len (es : List Int) : ∀ n, es.length = n → (sumsM es).length = 2 ^ n := by
  intro n
  induction n generalizing es with
  | zero => intro h; rw [List.eq_nil_of_length_eq_zero h]; rfl
  | succ n ih =>
    intro h
    rcases List.eq_nil_or_concat es with rfl | ⟨es', e, rfl⟩
    · cases h
    · have hl : es'.length = n := by simpa using h
      rw [List.concat_eq_append, sumsM_snoc, List.length_append, List.length_map, ih es' hl, Nat.pow_succ]
      omega
def szs (t : Nat) : List Int := sumsM (List.replicate t 1)
theorem szs_len (t : Nat) : (szs t).length = 2 ^ t := sumsM_len _ _ (by simp)
def rkT (t : Nat) (s : Int) : List Int := (szs t).map fun z => if s < z then s else z
theorem rkT_len (t : Nat) (s : Int) : (rkT t s).length = 2 ^ t := by unfold rkT; rw [List.length_map, szs_len]
def parts (m t : Nat) : List Nat := ((List.range t).filter fun i => decide (m / 2 ^ i % 2 ≠ 0)).map fun i => m ^^^ (2 ^ i)
def allB (n : Nat) (p : Nat → Bool) : Bool := (List.range n).all p
theorem allB_get {n : Nat} {p : Nat → Bool} (h : allB n p = true) {i : Nat} (hi : i < n) : p i = true := List.all_eq_true.mp h i (List.mem_range.mpr hi)
theorem rk_step_all : allB 7 (fun t => allB (t + 1) fun s => allB (2 ^ t) fun m => if (szs t).getD m 0 ≤ (s : Int) then decide ((rkT t s).getD m 0 = (szs t).getD m 0) else
    !(parts m t).isEmpty && (parts m t).all (fun p => decide (p < m)) && decide (maxD 0 ((parts m t).map fun p => (rkT t s).getD p 0) = (rkT t s).getD m 0)) = true := by decide +kernel
theorem rk_same_all : allB 7 (fun t => allB (t + 1) fun s => allB (t + 1) fun u => decide (rkT t s = rkT t u) == decide (s = u)) = true := by decide +kernel
theorem rk_last_all : allB 7 (fun t => allB (t + 1) fun s => decide ((rkT t s).getD (2 ^ t - 1) 0 = (s : Int))) = true := by decide +kernel
theorem xor_all : allB 64 (fun m => allB 6 fun i => decide (Builtin.bitXor (m : Int) ((2 : Int) ^ i) = ((m ^^^ (2 ^ i) : Nat) : Int))) = true := by decide +kernel
theorem rk_low {t s m : Nat} (ht : t ≤ 6) (hs : s ≤ t) (hm : m < 2 ^ t) (h : (szs t).getD m 0 ≤ (s : Int)) : (rkT t s).getD m 0 = (szs t).getD m 0 := by
  have := allB_get (allB_get (allB_get rk_step_all (show t < 7 by omega)) (show s < t + 1 by omega)) hm
  rw [if_pos h] at this
  exact of_decide_eq_true this
theorem rk_high {t s m : Nat} (ht : t ≤ 6) (hs : s ≤ t) (hm : m < 2 ^ t) (h : ¬ (szs t).getD m 0 ≤ (s : Int)) : parts m t ≠ [] ∧ (∀ p ∈ parts m t, p < m) ∧ maxD 0 ((parts m t).map fun p => (rkT t s).getD p 0) = (rkT t s).getD m 0 := by
  have := allB_get (allB_get (allB_get rk_step_all (show t < 7 by omega)) (show s < t + 1 by omega)) hm
  rw [if_neg h] at this
  simp only [Bool.and_eq_true, decide_eq_true_eq, List.all_eq_true] at this
  obtain ⟨⟨a, b⟩, c⟩ := this
  refine ⟨fun e => ?_, fun p hp => b p hp, c⟩
  rw [e] at a
  cases a
theorem rk_same {t s u : Nat} (ht : t ≤ 6) (hs : s ≤ t) (hu : u ≤ t) : decide (rkT t s = rkT t u) = decide (s = u) := by
  have := allB_get (allB_get (allB_get rk_same_all (show t < 7 by omega)) (show s < t + 1 by omega)) (show u < t + 1 by omega)
  exact eq_of_beq this
theorem xor_is {m i : Nat} (hm : m < 64) (hi : i < 6) : Builtin.bitXor (m : Int) ((2 : Int) ^ i) = ((m ^^^ (2 ^ i) : Nat) : Int) := of_decide_eq_true (allB_get (allB_get xor_all hm) hi)
/-! ### rows as data -/
theorem eqvD_opt : ∀ a b : Option Int, PyData.eqv (optD a) (optD b) = decide (a = b)
  | none, none => by simp [optD, PyData.eqv]
  | none, some _ => by simp [optD, PyData.eqv]
  | some _, none => by simp [optD, PyData.eqv]
  | some x, some y => by
    show (x == y) = _
    by_cases h : x = y <;> simp [h]
theorem eqv_row (r s : Row) : PyData.eqv (rowD r) (rowD s) = decide (r = s) := by
  show (PyData.eqv (.list (r.ws.map PyData.int)) (.list (s.ws.map PyData.int)) && (PyData.eqv (optD r.top) (optD s.top) && (PyData.eqv (optD r.low) (optD s.low) && true))) = _
  rw [eqvD_opt, eqvD_opt, Bool.and_true, show PyData.eqv (.list (r.ws.map PyData.int)) (.list (s.ws.map PyData.int)) = PyData.eqvAll (r.ws.map PyData.int) (s.ws.map PyData.int) by rw [PyData.eqv], eqv_ints]
  obtain ⟨w, t, l⟩ := r
  obtain ⟨w', t', l'⟩ := s
  by_cases h1 : w = w' <;> by_cases h2 : t = t' <;> by_cases h3 : l = l' <;> simp [h1, h2, h3]
theorem eqv_rows : ∀ rs ss : List Row, PyData.eqvAll (rs.map rowD) (ss.map rowD) = decide (rs = ss)
  | [], [] => by simp [PyData.eqvAll]
  | [], _ :: _ => by simp [PyData.eqvAll]
  | _ :: _, [] => by simp [PyData.eqvAll]
  | r :: rs, s :: ss => by
    rw [List.map_cons, List.map_cons]
    show (PyData.eqv (rowD r) (rowD s) && PyData.eqvAll (rs.map rowD) (ss.map rowD)) = _
    rw [eqv_row, eqv_rows rs ss]
    by_cases h : r = s <;> by_cases h2 : rs = ss <;> simp [h, h2]
theorem lay_opt (o : Option Int) : PyData.canLay0 (optD o) = true := by cases o <;> rfl
theorem dep_opt (o : Option Int) : PyData.depth (optD o) = 0 := by cases o <;> rfl
theorem lay_rows : ∀ rs : List Row, PyData.canLayAll0 (rs.map rowD) = true
  | [] => rfl
  | r :: rs => by simp [rowD, PyData.canLayAll0, PyData.canLay0, lay_ints, lay_opt, lay_rows rs]
theorem dep_rows : ∀ rs : List Row, PyData.depthAll (rs.map rowD) ≤ 2
  | [] => by simp [PyData.depthAll]
  | r :: rs => by
    have := dep_rows rs
    simp [rowD, PyData.depthAll, PyData.depth, dep_ints, dep_opt]
    omega
theorem shaped_rows (rs : List Row) : SeqAt.shaped (rowsD rs) = true := by
  have := dep_rows rs
  simp [rowsD, SeqAt.shaped, PyData.canLay0, PyData.depth, lay_rows]
  omega
theorem eqv_rowsD (rs ss : List Row) : PyData.eqv (rowsD rs) (rowsD ss) = decide (rs = ss) := by
  unfold rowsD
  rw [show PyData.eqv (.list (rs.map rowD)) (.list (ss.map rowD)) = PyData.eqvAll (rs.map rowD) (ss.map rowD) by rw [PyData.eqv]]
  exact eqv_rows rs ss
theorem shaped_due (e : Option Er) : SeqAt.shaped (dueD e) = true := by
  cases e with
  | none => rfl
  | some e => cases e <;> (simp [dueD, Er.dat, SeqAt.shaped, PyData.canLay0, PyData.canLayAll0, PyData.depth, PyData.depthAll]; decide +kernel)
theorem due_nil (e : Option Er) : PyData.eqv (dueD e) (.list []) = e.isNone := by
  cases e with
  | none => rfl
  | some e => cases e <;> rfl
end K4
namespace K4
open PySem PySem.Spec PyProof.Rows L2 Evl Nd
def topS (i : Nat) : Stmt := PySem.Challenge.pw_nodearer_k34_depth_and_slack.main.body.getD i (.Pass ⟨0, 0, 0, 0⟩)
def clsS (i j : Nat) : Stmt := match topS i with
  | .ClassDef _ _ _ body _ _ _ _ _ _ _ => body.getD j (.Pass ⟨0, 0, 0, 0⟩)
  | s => s
abbrev s_look_size : Stmt := topS 10
theorem sc_look_size : FnScope ["count", "least", "most"] ["count", "least", "most"] (defScope s_look_size) := ⟨rfl, rfl, rfl, by decide +kernel, rfl, by decide +kernel, by decide +kernel⟩
abbrev s_look_number : Stmt := topS 11
theorem sc_look_number : FnScope ["number", "least", "most"] ["number", "least", "most"] (defScope s_look_number) := ⟨rfl, rfl, rfl, by decide +kernel, rfl, by decide +kernel, by decide +kernel⟩
abbrev s_look_numbers : Stmt := topS 12
theorem sc_look_numbers : FnScope ["numbers", "least", "most", "number"] ["numbers", "least", "most"] (defScope s_look_numbers) := ⟨rfl, rfl, rfl, by decide +kernel, rfl, by decide +kernel, by decide +kernel⟩
abbrev s_look_things : Stmt := topS 13
theorem sc_look_things : FnScope ["things"] ["things"] (defScope s_look_things) := ⟨rfl, rfl, rfl, by decide +kernel, rfl, by decide +kernel, by decide +kernel⟩
abbrev s_mask_of : Stmt := topS 17
theorem sc_mask_of : FnScope ["lot", "thing"] ["lot"] (defScope s_mask_of) := ⟨rfl, rfl, rfl, by decide +kernel, rfl, by decide +kernel, by decide +kernel⟩
abbrev s_sums_of_masks : Stmt := topS 18
theorem sc_sums_of_masks : FnScope ["entries", "sums", "entry", "total"] ["entries"] (defScope s_sums_of_masks) := ⟨rfl, rfl, rfl, by decide +kernel, rfl, by decide +kernel, by decide +kernel⟩
abbrev s_sizes_of_masks : Stmt := topS 19
theorem sc_sizes_of_masks : FnScope ["things"] ["things"] (defScope s_sizes_of_masks) := ⟨rfl, rfl, rfl, by decide +kernel, rfl, by decide +kernel, by decide +kernel⟩
abbrev s_look_wish : Stmt := topS 25
theorem sc_look_wish : FnScope ["book", "at"] ["book", "at"] (defScope s_look_wish) := ⟨rfl, rfl, rfl, by decide +kernel, rfl, by decide +kernel, by decide +kernel⟩
abbrev s__depth_of : Stmt := topS 26
theorem sc__depth_of : FnScope ["things", "wishes", "thing", "wish"] ["things", "wishes"] (defScope s__depth_of) := ⟨rfl, rfl, rfl, by decide +kernel, rfl, by decide +kernel, by decide +kernel⟩
abbrev s__kind_of : Stmt := topS 27
theorem sc__kind_of : FnScope ["wishes", "wish"] ["wishes"] (defScope s__kind_of) := ⟨rfl, rfl, rfl, by decide +kernel, rfl, by decide +kernel, by decide +kernel⟩
abbrev s_ranks_of_free : Stmt := topS 31
theorem sc_ranks_of_free : FnScope ["things", "free", "sizes", "ranks", "mask", "part"] ["things", "free"] (defScope s_ranks_of_free) := ⟨rfl, rfl, rfl, by decide +kernel, rfl, by decide +kernel, by decide +kernel⟩
abbrev s_ranks_under_rooms : Stmt := topS 32
theorem sc_ranks_under_rooms : FnScope ["things", "rooms", "sizes", "bounds", "free", "lot", "most", "mask", "room"] ["things", "rooms"] (defScope s_ranks_under_rooms) := ⟨rfl, rfl, rfl, by decide +kernel, rfl, by decide +kernel, by decide +kernel⟩
abbrev s__parts_of : Stmt := topS 33
theorem sc__parts_of : FnScope ["mask", "things", "thing"] ["mask", "things"] (defScope s__parts_of) := ⟨rfl, rfl, rfl, by decide +kernel, rfl, by decide +kernel, by decide +kernel⟩
abbrev s__law_digits : Stmt := topS 44
theorem sc__law_digits : FnScope ["script", "tape", "cell", "rest", "turn"] ["script"] (defScope s__law_digits) := ⟨rfl, rfl, rfl, by decide +kernel, rfl, by decide +kernel, by decide +kernel⟩
abbrev s__law_take : Stmt := topS 45
theorem sc__law_take : FnScope ["tape", "many"] ["tape", "many"] (defScope s__law_take) := ⟨rfl, rfl, rfl, by decide +kernel, rfl, by decide +kernel, by decide +kernel⟩
abbrev s__law_two : Stmt := topS 46
theorem sc__law_two : FnScope ["tape", "many", "high"] ["tape", "many"] (defScope s__law_two) := ⟨rfl, rfl, rfl, by decide +kernel, rfl, by decide +kernel, by decide +kernel⟩
abbrev s__law_same : Stmt := topS 47
theorem sc__law_same : FnScope ["actual", "due", "at"] ["actual", "due"] (defScope s__law_same) := ⟨rfl, rfl, rfl, by decide +kernel, rfl, by decide +kernel, by decide +kernel⟩
abbrev s__law_refusals : Stmt := topS 48
theorem sc__law_refusals : FnScope ["error", "kinds"] ["error"] (defScope s__law_refusals) := ⟨rfl, rfl, rfl, by decide +kernel, rfl, by decide +kernel, by decide +kernel⟩
abbrev s__law_make_wish : Stmt := topS 49
theorem sc__law_make_wish : FnScope ["row"] ["row"] (defScope s__law_make_wish) := ⟨rfl, rfl, rfl, by decide +kernel, rfl, by decide +kernel, by decide +kernel⟩
abbrev s__law_depth : Stmt := topS 50
theorem sc__law_depth : FnScope ["things", "rows", "deep", "thing", "row"] ["things", "rows"] (defScope s__law_depth) := ⟨rfl, rfl, rfl, by decide +kernel, rfl, by decide +kernel, by decide +kernel⟩
abbrev s__law_book_kind : Stmt := topS 51
theorem sc__law_book_kind : FnScope ["rows", "row"] ["rows"] (defScope s__law_book_kind) := ⟨rfl, rfl, rfl, by decide +kernel, rfl, by decide +kernel, by decide +kernel⟩
abbrev s__law_slack : Stmt := topS 52
theorem sc__law_slack : FnScope ["things", "rows", "at", "deep", "kind"] ["things", "rows", "at"] (defScope s__law_slack) := ⟨rfl, rfl, rfl, by decide +kernel, rfl, by decide +kernel, by decide +kernel⟩
abbrev s__law_draw_row : Stmt := topS 53
theorem sc__law_draw_row : FnScope ["tape", "size", "at", "mode", "weights", "thing", "top", "low", "form"] ["tape", "size", "at", "mode"] (defScope s__law_draw_row) := ⟨rfl, rfl, rfl, by decide +kernel, rfl, by decide +kernel, by decide +kernel⟩
abbrev s__law_draw_rows : Stmt := topS 54
theorem sc__law_draw_rows : FnScope ["tape", "things", "odd", "mode", "many", "rows", "at", "size"] ["tape", "things", "odd"] (defScope s__law_draw_rows) := ⟨rfl, rfl, rfl, by decide +kernel, rfl, by decide +kernel, by decide +kernel⟩
abbrev s__law_book_due : Stmt := topS 55
theorem sc__law_book_due : FnScope ["things", "rows", "row", "at"] ["things", "rows"] (defScope s__law_book_due) := ⟨rfl, rfl, rfl, by decide +kernel, rfl, by decide +kernel, by decide +kernel⟩
abbrev s__law_make : Stmt := topS 56
theorem sc__law_make : FnScope ["family", "wishes", "e"] ["family", "wishes"] (defScope s__law_make) := ⟨rfl, rfl, rfl, by decide +kernel, rfl, by decide +kernel, by decide +kernel⟩
abbrev s__law_ask : Stmt := topS 57
theorem sc__law_ask : FnScope ["book", "at", "e"] ["book", "at"] (defScope s__law_ask) := ⟨rfl, rfl, rfl, by decide +kernel, rfl, by decide +kernel, by decide +kernel⟩
abbrev s__law_right : Stmt := topS 58
theorem sc__law_right : FnScope ["book", "family", "things", "rows", "great", "at", "told", "row"] ["book", "family", "things", "rows", "great"] (defScope s__law_right) := ⟨rfl, rfl, rfl, by decide +kernel, rfl, by decide +kernel, by decide +kernel⟩
abbrev s_law : Stmt := topS 59
theorem sc_law : FnScope ["script", "tape", "odd", "things", "some", "sizes", "families", "great", "rows", "alike", "books", "at", "wishes", "passed", "told", "due", "dues", "book", "turn", "row", "part"] ["script"] (defScope s_law) := ⟨rfl, rfl, rfl, by decide +kernel, rfl, by decide +kernel, by decide +kernel⟩
abbrev s_Family_init : Stmt := clsS 29 0
theorem sc_Family_init : FnScope ["self", "things", "ranks", "nodes"] ["self", "things", "ranks", "nodes"] (defScope s_Family_init) := ⟨rfl, rfl, rfl, by decide +kernel, rfl, by decide +kernel, by decide +kernel⟩
abbrev s_Family_eq : Stmt := clsS 29 9
theorem sc_Family_eq : FnScope ["self", "other"] ["self", "other"] (defScope s_Family_eq) := ⟨rfl, rfl, rfl, by decide +kernel, rfl, by decide +kernel, by decide +kernel⟩
abbrev s_Choice_init : Stmt := clsS 36 0
theorem sc_Choice_init : FnScope ["self", "things", "take", "size"] ["self", "things", "take"] (defScope s_Choice_init) := ⟨rfl, rfl, rfl, by decide +kernel, rfl, by decide +kernel, by decide +kernel⟩
abbrev s_Groups_init : Stmt := clsS 37 0
theorem sc_Groups_init : FnScope ["self", "groups", "takes", "group", "take", "things"] ["self", "groups", "takes"] (defScope s_Groups_init) := ⟨rfl, rfl, rfl, by decide +kernel, rfl, by decide +kernel, by decide +kernel⟩
abbrev s_Groups_rooms : Stmt := clsS 37 1
theorem sc_Groups_rooms : FnScope ["self", "many", "group", "take", "thing"] ["self"] (defScope s_Groups_rooms) := ⟨rfl, rfl, rfl, by decide +kernel, rfl, by decide +kernel, by decide +kernel⟩
abbrev s_Wish_init : Stmt := clsS 42 0
theorem sc_Wish_init : FnScope ["self", "weights", "most", "least", "number", "thing", "weight"] ["self", "weights", "most", "least"] (defScope s_Wish_init) := ⟨rfl, rfl, rfl, by decide +kernel, rfl, by decide +kernel, by decide +kernel⟩
abbrev s_Wish_eq : Stmt := clsS 42 6
theorem sc_Wish_eq : FnScope ["self", "other"] ["self", "other"] (defScope s_Wish_eq) := ⟨rfl, rfl, rfl, by decide +kernel, rfl, by decide +kernel, by decide +kernel⟩
abbrev s_Book_init : Stmt := clsS 24 0
theorem sc_Book_init : FnScope ["self", "family", "wishes", "wish", "at"] ["self", "family", "wishes"] (defScope s_Book_init) := ⟨rfl, rfl, rfl, by decide +kernel, rfl, by decide +kernel, by decide +kernel⟩
abbrev s_Book_slack : Stmt := clsS 24 1
theorem sc_Book_slack : FnScope ["self", "at"] ["self", "at"] (defScope s_Book_slack) := ⟨rfl, rfl, rfl, by decide +kernel, rfl, by decide +kernel, by decide +kernel⟩
abbrev s_Book_eq : Stmt := clsS 24 6
theorem sc_Book_eq : FnScope ["self", "other"] ["self", "other"] (defScope s_Book_eq) := ⟨rfl, rfl, rfl, by decide +kernel, rfl, by decide +kernel, by decide +kernel⟩
structure GlobC (mg : Str → Option Value) (x : Str) (C : Addr) : Prop where
  g : mg x = some (.ref C)
/-- where the classes stand -/
structure Ad where
  CO : Addr
  CS : Addr
  CN : Addr
  CW : Addr
  KB : Addr
  KF : Addr
  KC : Addr
  KG : Addr
  KW : Addr
/-- what the top has left -/
structure Tx (P : Program) (w : World) (K : PySem.W.Frag) (mg : Str → Option Value) (base : Heap) (c : Ad) : Prop where
  z_len : mg "len" = none
  z_sum : mg "sum" = none
  z_min : mg "min" = none
  z_max : mg "max" = none
  z_abs : mg "abs" = none
  z_isinstance : mg "isinstance" = none
  z_tuple : mg "tuple" = none
  z_list : mg "list" = none
  z_bool : mg "bool" = none
  z_int : mg "int" = none
  z_str : mg "str" = none
  z_range : mg "range" = none
  z_all : mg "all" = none
  z_enumerate : mg "enumerate" = none
  z_reversed : mg "reversed" = none
  c__MOST_THINGS : ∃ u, mg "_MOST_THINGS" = some u ∧ RelV (.int 10) u
  c_MOST_WISHES : ∃ u, mg "MOST_WISHES" = some u ∧ RelV (.int 5) u
  c__MOST : ∃ u, mg "_MOST" = some u ∧ RelV (.int 10) u
  c__MOST_WEIGHTS : ∃ u, mg "_MOST_WEIGHTS" = some u ∧ RelV (.int 10) u
  c__MOST_WEIGHT : ∃ u, mg "_MOST_WEIGHT" = some u ∧ RelV (.int 20) u
  c__MOST_NUMBER : ∃ u, mg "_MOST_NUMBER" = some u ∧ RelV (.int 1000) u
  e_NodearerError : GlobC mg "NodearerError" c.CO
  e_SizeError : ErrT P w K mg base "SizeError" "count" c.CS
  e_NumberError : ErrT P w K mg base "NumberError" "number" c.CN
  e_WishError : ErrT P w K mg base "WishError" "at" c.CW
  e_Book : GlobC mg "Book" c.KB
  e_Family : GlobC mg "Family" c.KF
  e_Choice : GlobC mg "Choice" c.KC
  e_Groups : GlobC mg "Groups" c.KG
  e_Wish : GlobC mg "Wish" c.KW
  cB : Cls K c.KB
  cC : Cls K c.KC
  cG : Cls K c.KG
  cW : Cls K c.KW
  nB : ∀ f ∈ (["family", "wishes", "deep", "kind"] : List Str), NoAttr K c.KB f
  nC : ∀ f ∈ (["take", "things", "ranks", "full", "nodes"] : List Str), NoAttr K c.KC f
  nG : ∀ f ∈ (["groups", "takes", "things", "ranks", "full", "nodes"] : List Str), NoAttr K c.KG f
  nW : ∀ f ∈ (["weights", "most", "least", "greatest", "plain", "lot"] : List Str), NoAttr K c.KW f
  nfF : ∀ C D, (C = c.KC ∨ C = c.KG) → (D = c.KC ∨ D = c.KG) → PySem.W.notFirst K C (.ref D) = true
  nfB : PySem.W.notFirst K c.KB (.ref c.KB) = true
  nfI : ∀ C, (C = c.KC ∨ C = c.KG ∨ C = c.KW ∨ C = c.KB) → PySem.W.notFirst K C (.type "int") = true
  xSO : PySem.W.exmOne K (.ref c.CS) (.ref c.CO) = some true
  xWO : PySem.W.exmOne K (.ref c.CW) (.ref c.CO) = some true
  kSS : PySem.W.kitOne K (.ref c.CS) (.ref c.CS) = some true
  kSW : PySem.W.kitOne K (.ref c.CS) (.ref c.CW) = some false
  kWS : PySem.W.kitOne K (.ref c.CW) (.ref c.CS) = some false
  kEE : PySem.W.kitOne K (.ref c.CW) (.ref c.CW) = some true
  kCF : PySem.W.kitOne K (.ref c.KC) (.ref c.KF) = some true
  kGF : PySem.W.kitOne K (.ref c.KG) (.ref c.KF) = some true
  kWW : PySem.W.kitOne K (.ref c.KW) (.ref c.KW) = some true
  kBB : PySem.W.kitOne K (.ref c.KB) (.ref c.KB) = some true
  kIB : PySem.W.kitOne K (.type "int") (.ref c.KB) = some false
  tyC : ∀ C, (C = c.KC ∨ C = c.KG ∨ C = c.KW ∨ C = c.KB) → PySem.W.findIn K (.ref C) "__class__" = some (some (.builtin "object.__class__"))
  tyG : PySem.W.specialIn K (.builtin "object.__class__") "__get__" = some (some (.builtin "getset_descriptor.__get__"))
  tyT : PySem.W.takesIn K (.builtin "object.__class__") = some true
  tyM : ∀ C, (C = c.KC ∨ C = c.KG ∨ C = c.KW ∨ C = c.KB) → PySem.W.mroIn K C (.type "object") = some true
end K4
namespace K4
open PySem PySem.Spec PyProof.Rows L2 Evl Nd
local macro_rules | `(tactic| walk_at "ev") => `(tactic| first
  | exact ev_var rfl
  | exact ev_c
  | (apply ev_op; (walk_at "ev"); (walk_at "ev"); (walk_at "rv"))
  | (apply ev_un; (walk_at "ev"); (walk_at "rv"))
  | (apply ev_lenS; (walk_at "ev"); (walk_at "sq"))
  | (apply ev_andV; (walk_at "ev"); (intro _; walk_at "ev"))
  | (apply ev_orV; (walk_at "ev"); (intro _; walk_at "ev"))
  | (apply ev_notV; (walk_at "ev")))
local macro_rules | `(tactic| walk_at "rv") => `(tactic| first
  | exact rv_I0
  | exact ru_neg
  | exact rv_eq rfl
  | exact rv_ne rfl
  | exact rv_I (by decide)
  | exact rv_I (by first | omega | exact .inl (by omega) | exact .inr (by omega) | (constructor <;> omega)))
local macro_rules | `(tactic| walk_at "sq") => `(tactic| first
  | assumption
  | exact SqS.lst (by assumption)
  | exact SqS.tup (by assumption)
  | exact Or.inl (by assumption)
  | exact Or.inr (by assumption)
  | (refine SqS.mono (by assumption) ?_; walk_at "sq"))
local macro_rules | `(tactic| walk_at "et") => `(tactic| first
  | (apply et_or; (walk_at "et"); (intro _; walk_at "et"))
  | (apply et_and; (walk_at "et"); (intro _; walk_at "et"))
  | (apply et_not; (walk_at "et"))
  | (apply et_test; (walk_at "ev"))
  | (apply et_B; (walk_at "ev")))
local macro_rules | `(tactic| walk_at "ea") => `(tactic| first
  | exact ea_nil
  | (apply ea_cons; (walk_at "ev"); (walk_at "ea")))
section
variable {P : Program} {w : World} {K : PySem.W.Frag} {mg : Str → Option Value} {base : Heap} {c : Ad}
theorem et_truB {b : Bool} {te : TE} {σ : L2.St} {H : Hp} (h : Ev te σ H (.bl b)) : EvT (fun σ H Q => te σ H fun x H' => ∃ k, TruV K x H' k ∧ Q k H') σ H b := fun H1 e _ q => h H1 e _ fun H2 e2 => ⟨b, rfl, q H2 e2⟩
theorem et_truI {i : Int} {te : TE} {σ : L2.St} {H : Hp} (h : Ev te σ H (.int i)) : EvT (fun σ H Q => te σ H fun x H' => ∃ k, TruV K x H' k ∧ Q k H') σ H (i != 0) := fun H1 e _ q => h H1 e _ fun H2 e2 => ⟨i != 0, rfl, q H2 e2⟩
theorem ev_maxN {te : TE} {σ : L2.St} {H : Hp} {ns : List Int} (h : EvL te σ H (ns.map V.int)) (hn : ns ≠ []) : Ev (tCB (rMax K) (tCons te tNil)) σ H (.int (maxD 0 ns)) := fun H1 e Q q => h H1 e _ fun p H2 _ e2 g => ⟨p, ns, rfl, sq_of g, by cases ns with
  | nil => exact (hn rfl).elim
  | cons => simp, fun m h1 h2 => by
    rw [← maxD_uniq (d := 0) (m := m) (fun z => (hn z).elim) (fun _ => ⟨h1, h2⟩)]
    exact q H2 e2⟩
theorem ev_allN {te : TE} {σ : L2.St} {H : Hp} {bs : List Bool} (h : EvL te σ H (bs.map V.bl)) : Ev (tCB (rAll K) (tCons te tNil)) σ H (.bl (bs.all id)) := fun H1 e Q q => h H1 e _ fun p H2 _ e2 g => ⟨p, bs, rfl, sq_of g, q H2 e2⟩
theorem pow_cast (t : Nat) : (1 : Int) * 2 ^ ((t : Int)).toNat = ((2 ^ t : Nat) : Int) := by
  rw [Int.one_mul, Int.toNat_natCast, Int.natCast_pow]
  rfl
/-! ### looks -/
def spLookSize (c : Ad) : Sp := fun vs H Q E => ∃ z lo hi : Int, vs = [.int z, .int lo, .int hi] ∧ ((z < lo ∨ z > hi) → Err c.CS "count" (.int z) H E) ∧ (¬ (z < lo ∨ z > hi) → RetV .non H Q)
def spLookNumber (c : Ad) : Sp := fun vs H Q E => ∃ z lo hi : Int, vs = [.int z, .int lo, .int hi] ∧ ((z < lo ∨ z > hi) → Err c.CN "number" (.int z) H E) ∧ (¬ (z < lo ∨ z > hi) → RetV .non H Q)
theorem has_look_size (T : Tx P w K mg base c) (D : DefAt K mg "look_size" s_look_size ["count", "least", "most"]) : Has P w K mg base 3 "look_size" ["count", "least", "most"] (spLookSize c) := by
  refine D.has sc_look_size (fun vs H Q E h => ?len) (fun f cdv A outer s H vs Q E hr h => ?body)
  case len =>
    obtain ⟨_, _, _, rfl, _, _⟩ := h
    rfl
  case body =>
    have tk : Takes (cxOf (L2.CX P w) P w K mg base ["count", "least", "most"] "look_size" (defScope s_look_size) f cdv A outer s H E) (fun cls d _ H => E cls d H) := takes_of rfl rfl rfl rfl
    obtain ⟨z, lo, hi, rfl, h1, h2⟩ := h
    refine ⟨_, (pss_one (ps_if (PW.pt (pw_or (pt_cmpR op_lt (pv 0) (pv 1) (nomark _)) (pw_or1 (pt_cmpR op_gt (pv 0) (pv 2) (nomark _))))) (pss_one (ps_err1 rfl T.e_SizeError (hr.mono (by decide)) tk (pa_cons (pv 0) pa_nil))) pss_nil)), ?_⟩
    refine' s_when ?h (fun hb H1 e => ?a) (fun hb H1 e => ?b)
    case h => walk_at "et"
    case a => exact ⟨_, rfl, _, rfl, Err.mono (h1 (by simpa using hb)) e⟩
    case b => exact h2 (by simpa using hb) H1 e
theorem has_look_number (T : Tx P w K mg base c) (D : DefAt K mg "look_number" s_look_number ["number", "least", "most"]) : Has P w K mg base 3 "look_number" ["number", "least", "most"] (spLookNumber c) := by
  refine D.has sc_look_number (fun vs H Q E h => ?len) (fun f cdv A outer s H vs Q E hr h => ?body)
  case len =>
    obtain ⟨_, _, _, rfl, _, _⟩ := h
    rfl
  case body =>
    have tk : Takes (cxOf (L2.CX P w) P w K mg base ["number", "least", "most"] "look_number" (defScope s_look_number) f cdv A outer s H E) (fun cls d _ H => E cls d H) := takes_of rfl rfl rfl rfl
    obtain ⟨z, lo, hi, rfl, h1, h2⟩ := h
    refine ⟨_, (pss_one (ps_if (PW.pt (pw_or (pt_cmpR op_lt (pv 0) (pv 1) (nomark _)) (pw_or1 (pt_cmpR op_gt (pv 0) (pv 2) (nomark _))))) (pss_one (ps_err1 rfl T.e_NumberError (hr.mono (by decide)) tk (pa_cons (pv 0) pa_nil))) pss_nil)), ?_⟩
    refine' s_when ?h (fun hb H1 e => ?a) (fun hb H1 e => ?b)
    case h => walk_at "et"
    case a => exact ⟨_, rfl, _, rfl, Err.mono (h1 (by simpa using hb)) e⟩
    case b => exact h2 (by simpa using hb) H1 e
theorem q_lookN {ta : TA} {σ : L2.St} {H : Hp} {D : Ends} {tz : TS} {E : L2.St → XK} {z lo hi : Int} (h : EvA ta σ H [.int z, .int lo, .int hi]) (ok : lo ≤ z ∧ z ≤ hi) (k : ∀ H1, Ex H H1 → tz D σ H1) :
    tSeq (tDrop (tCallS (spLookNumber c) E ta)) tz D σ H := h H (Ex.refl H) _ fun H1 e1 => ⟨z, lo, hi, rfl, fun b => by omega, fun _ H2 e2 => k H2 (e1.trans e2)⟩
theorem s_lookN {ta : TA} {σ : L2.St} {H : Hp} {D : Ends} {E : L2.St → XK} {z lo hi : Int} (h : EvA ta σ H [.int z, .int lo, .int hi]) (ok : lo ≤ z ∧ z ≤ hi) (k : ∀ H1, Ex H H1 → D.nx σ H1) :
    tDrop (tCallS (spLookNumber c) E ta) D σ H := h H (Ex.refl H) _ fun H1 e1 => ⟨z, lo, hi, rfl, fun b => by omega, fun _ H2 e2 => k H2 (e1.trans e2)⟩
theorem q_lookZ {ta : TA} {σ : L2.St} {H : Hp} {D : Ends} {tz : TS} {E : L2.St → XK} {z lo hi : Int} (h : EvA ta σ H [.int z, .int lo, .int hi]) (ok : lo ≤ z ∧ z ≤ hi) (k : ∀ H1, Ex H H1 → tz D σ H1) :
    tSeq (tDrop (tCallS (spLookSize c) E ta)) tz D σ H := h H (Ex.refl H) _ fun H1 e1 => ⟨z, lo, hi, rfl, fun b => by omega, fun _ H2 e2 => k H2 (e1.trans e2)⟩
def spLookNums (K : PySem.W.Frag) : Sp := fun vs H Q E => ∃ (a : Addr) (ns : List Int) (lo hi : Int), vs = [.ref a, .int lo, .int hi] ∧ SqS K H a (ns.map V.int) ∧ (∀ z ∈ ns, lo ≤ z ∧ z ≤ hi) ∧ RetV .non H Q
theorem has_look_numbers (T : Tx P w K mg base c) (h_look_number : Has P w K mg base 3 "look_number" ["number", "least", "most"] (spLookNumber c)) (D : DefAt K mg "look_numbers" s_look_numbers ["numbers", "least", "most"]) : Has P w K mg base 4 "look_numbers" ["numbers", "least", "most"] (spLookNums K) := by
  refine D.has sc_look_numbers (fun vs H Q E h => ?len) (fun f cdv A outer s H vs Q E hr h => ?body)
  case len =>
    obtain ⟨_, _, _, _, rfl, _, _, _⟩ := h
    rfl
  case body =>
    have tk : Takes (cxOf (L2.CX P w) P w K mg base ["numbers", "least", "most", "number"] "look_numbers" (defScope s_look_numbers) f cdv A outer s H E) (fun cls d _ H => E cls d H) := takes_of rfl rfl rfl rfl
    obtain ⟨a, ns, lo, hi, rfl, hS, hb, h⟩ := h
    refine ⟨_, (pss_one (ps_for (passes_of rfl) rfl (pi_seq (pv 0)) (pg_name (i := 3) sc_look_numbers.nd rfl (.inl rfl)) (pss_one (ps_expr (pe_hasR h_look_number (hr.mono (by decide)) tk (pa_cons (pv 3) (pa_cons (pv 1) (pa_cons (pv 2) pa_nil)))))))), ?_⟩
    refine s_forS (a := a) (ev_var rfl) hS (fun i σ' H' => ∃ v3, σ' = [some (.ref a), some (.int lo), some (.int hi), v3] ∧ Ex H H') (fun H1 e1 => ⟨none, rfl, e1⟩) (fun i σ' H' _ q => by obtain ⟨_, _, x⟩ := q; exact x) ?turn ?fin
    case fin =>
      rintro σ' H1 ⟨v3, rfl, x1⟩
      exact h H1 x1
    case turn =>
      rintro i x σ' H1 hx ⟨v3, rfl, x1⟩
      obtain ⟨rfl, hi'⟩ := at_ints hx
      exact s_lookN (z := ns.getD i 0) (lo := lo) (hi := hi) (ea_cons (ev_var rfl) (ea_cons (ev_var rfl) (ea_cons (ev_var rfl) ea_nil))) (hb _ (PySem.getD_mem hi')) fun H2 e2 => ⟨_, rfl, x1.trans e2⟩
def spLookThings : Sp := fun vs H Q E => ∃ n : Int, vs = [.int n] ∧ 0 ≤ n ∧ n ≤ 10 ∧ RetV .non H Q
theorem has_look_things (T : Tx P w K mg base c) (h_look_number : Has P w K mg base 3 "look_number" ["number", "least", "most"] (spLookNumber c)) (D : DefAt K mg "look_things" s_look_things ["things"]) : Has P w K mg base 4 "look_things" ["things"] (spLookThings) := by
  refine D.has sc_look_things (fun vs H Q E h => ?len) (fun f cdv A outer s H vs Q E hr h => ?body)
  case len =>
    obtain ⟨_, rfl, _, _, _⟩ := h
    rfl
  case body =>
    have tk : Takes (cxOf (L2.CX P w) P w K mg base ["things"] "look_things" (defScope s_look_things) f cdv A outer s H E) (fun cls d _ H => E cls d H) := takes_of rfl rfl rfl rfl
    obtain ⟨n, rfl, n0, n10, h⟩ := h
    refine ⟨_, (pss_one (ps_expr (pe_hasR h_look_number (hr.mono (by decide)) tk (pa_cons (pv 0) (pa_cons pe_int (pa_cons (pe_cst T.c__MOST_THINGS) pa_nil)))))), ?_⟩
    exact s_lookN (z := n) (lo := 0) (hi := 10) (ea_cons (ev_var rfl) (ea_cons ev_c (ea_cons ev_c ea_nil))) ⟨n0, n10⟩ fun H1 e1 => h H1 e1
theorem q_looks {ta : TA} {σ : L2.St} {H : Hp} {D : Ends} {tz : TS} {E : L2.St → XK} {a : Addr} {ns : List Int} {lo hi : Int} (h : EvA ta σ H [.ref a, .int lo, .int hi]) (hS : SqS K H a (ns.map V.int)) (ok : ∀ z ∈ ns, lo ≤ z ∧ z ≤ hi) (k : ∀ H1, Ex H H1 → tz D σ H1) :
    tSeq (tDrop (tCallS (spLookNums K) E ta)) tz D σ H := h H (Ex.refl H) _ fun H1 e1 => ⟨a, ns, lo, hi, rfl, hS.mono e1, ok, fun H2 e2 => k H2 (e1.trans e2)⟩
theorem q_lookT {ta : TA} {σ : L2.St} {H : Hp} {D : Ends} {tz : TS} {E : L2.St → XK} {n : Int} (h : EvA ta σ H [.int n]) (ok : 0 ≤ n ∧ n ≤ 10) (k : ∀ H1, Ex H H1 → tz D σ H1) :
    tSeq (tDrop (tCallS spLookThings E ta)) tz D σ H := h H (Ex.refl H) _ fun H1 e1 => ⟨n, rfl, ok.1, ok.2, fun H2 e2 => k H2 (e1.trans e2)⟩
/-! ### masks -/
def spMaskOf (K : PySem.W.Frag) : Sp := fun vs H Q E => ∃ (a : Addr) (ns : List Nat), vs = [.ref a] ∧ SqL K H a (ns.map fun n => V.int (n : Nat)) ∧ (∀ n ∈ ns, n ≤ 60) ∧ ns.length ≤ 60 ∧ RetV (.int (ns.map fun n => (2 : Int) ^ n).sum) H Q
theorem has_mask_of (T : Tx P w K mg base c) (D : DefAt K mg "mask_of" s_mask_of ["lot"]) : Has P w K mg base 2 "mask_of" ["lot"] (spMaskOf K) := by
  refine D.has sc_mask_of (fun vs H Q E h => ?len) (fun f cdv A outer s H vs Q E hr h => ?body)
  case len =>
    obtain ⟨_, _, rfl, _, _, _, _⟩ := h
    rfl
  case body =>
    have tk : Takes (cxOf (L2.CX P w) P w K mg base ["lot", "thing"] "mask_of" (defScope s_mask_of) f cdv A outer s H E) (fun cls d _ H => E cls d H) := takes_of rfl rfl rfl rfl
    obtain ⟨a, ns, rfl, hS, hb, hl, h⟩ := h
    refine ⟨_, (pss_one (ps_ret (pe_callB (cr_sum rfl) (by rfl) T.z_sum (by decide +kernel) (pa_cons (pe_lc (own := [("thing", 1)]) rfl sc_mask_of.nd (pi_list (pv 0)) (blkOk_by (own := [("thing", 1)]) (N := ["lot", "thing"]) (sc := defScope s_mask_of) (by decide +kernel)) (fun _ _ _ _ _ => (pg_name (i := 1) sc_mask_of.nd rfl (.inl rfl))) (fun _ _ _ _ _ => pts_nil) (fun _ _ _ _ _ => (pe_op op_shl pe_int (pv 1)))) pa_nil)))), ?_⟩
    have hg : ∀ {i : Nat} {x : V}, (ns.map fun n => V.int (n : Nat))[i]? = some x → x = .int ((ns.getD i 0 : Nat) : Int) ∧ i < ns.length := fun {i x} hx => by
      rw [List.getElem?_map] at hx
      cases e : ns[i]? with
      | none => rw [e] at hx; cases hx
      | some z =>
        rw [e] at hx
        obtain ⟨hi, _⟩ := List.getElem?_eq_some_iff.mp e
        refine ⟨?_, hi⟩
        rw [← Option.some.inj hx, List.getD_eq_getElem?_getD, e]
        rfl
    have hcomp : EvL (tLc (iList K (tVar 0)) (gName 1) tYes (tOp (rI CPow fun i j => .int (i * 2 ^ j.toNat)) (tC (.int 1)) (tVar 1)) [1]) (L2.start ["lot", "thing"] [.ref a]) H ((ns.map fun n => (2 : Int) ^ n).map V.int) := by
      have z := el_lcL (K := K) (σ := L2.start ["lot", "thing"] [.ref a]) (H := H) (tl := tVar 0) (j := 1) (vs := [1]) (t := tYes) (te := tOp (rI CPow fun i j => .int (i * 2 ^ j.toNat)) (tC (.int 1)) (tVar 1)) (fun _ => true) (fun i => V.int ((2 : Int) ^ (ns.getD i 0))) (ev_var rfl) hS (by rw [List.length_map]; omega) (by intro x; rfl)
        (fun i x H1 e1 hx => fun H2 e2 Q q => q H2 (Ex.refl H2))
        (fun i x H1 e1 hx _ => by
          obtain ⟨rfl, hi⟩ := hg hx
          have hm : ns.getD i 0 ≤ 60 := hb _ (by rw [List.getD_eq_getElem?_getD, List.getElem?_eq_getElem hi]; exact List.getElem_mem hi)
          refine ev_is (ev_op (ev_c (v := .int 1)) (ev_var rfl) (rv_I (C := CPow) (g := fun i j => .int (i * 2 ^ j.toNat)) ⟨by omega, by omega, by decide⟩)) ?_
          rw [Int.one_mul, Int.toNat_natCast])
      have e : given (ns.map fun n => V.int (n : Nat)).length (fun _ => true) (fun i => V.int ((2 : Int) ^ (ns.getD i 0))) = (ns.map fun n => (2 : Int) ^ n).map V.int := by
        unfold given
        rw [List.filter_eq_self.mpr (fun _ _ => rfl), List.length_map, List.map_map]
        apply List.ext_getElem
        · simp
        · intro i h1 h2
          have hi : i < ns.length := by simpa using h1
          simp [hi]
      rw [e] at z
      exact z
    exact s_ret (ev_sumL hcomp) fun H1 e1 => h H1 e1
def spSums (K : PySem.W.Frag) : Sp := fun vs H Q E => ∃ (a : Addr) (es : List Int), vs = [.ref a] ∧ SqL K H a (es.map V.int) ∧ es.length ≤ 10 ∧ RetL ((sumsM es).map V.int) H Q
theorem sumsM_small {es : List Int} (h : es.length ≤ 10) : (sumsM es).length ≤ 1024 := by
  rw [sumsM_len es _ rfl]
  exact Nat.pow_le_pow_right (by decide) h
theorem has_sums_of_masks (T : Tx P w K mg base c) (D : DefAt K mg "sums_of_masks" s_sums_of_masks ["entries"]) : Has P w K mg base 3 "sums_of_masks" ["entries"] (spSums K) := by
  refine D.has sc_sums_of_masks (fun vs H Q E h => ?len) (fun f cdv A outer s H vs Q E hr h => ?body)
  case len =>
    obtain ⟨_, _, rfl, _, _, _⟩ := h
    rfl
  case body =>
    have tk : Takes (cxOf (L2.CX P w) P w K mg base ["entries", "sums", "entry", "total"] "sums_of_masks" (defScope s_sums_of_masks) f cdv A outer s H E) (fun cls d _ H => E cls d H) := takes_of rfl rfl rfl rfl
    obtain ⟨a, es, rfl, hS, hl, h⟩ := h
    refine ⟨_, (pss_cons (ps_set (i := 1) sc_sums_of_masks.nd rfl (.inl rfl) (pe_lst (pa_cons pe_int pa_nil)))
      (pss_cons (ps_for (passes_of rfl) rfl (pi_list (pv 0)) (pg_name (i := 2) sc_sums_of_masks.nd rfl (.inr rfl)) (pss_one (ps_set (i := 1) sc_sums_of_masks.nd rfl (.inl rfl) (pe_op op_cat (pv 1) (pe_lc (own := [("total", 3)]) rfl sc_sums_of_masks.nd (pi_list (pv 1)) (blkOk_by (own := [("total", 3)]) (N := ["entries", "sums", "entry", "total"]) (sc := defScope s_sums_of_masks) (by decide +kernel)) (fun _ _ _ _ _ => (pg_name (i := 3) sc_sums_of_masks.nd rfl (.inl rfl))) (fun _ _ _ _ _ => pts_nil) (fun _ _ _ _ _ => (pe_op op_add (pv 3) (pv 2))))))))
      (pss_one (ps_ret (pv 1))))), ?_⟩
    refine q_asgL (xs := [.int 0]) (el_lst (ea_cons ev_c ea_nil) (by decide)) fun p0 H1 hp0 e1 g1 => ?_
    refine q_forLn (a := a) (ev_var rfl) (ex_l e1 hS) (fun i σ' H' => ∃ v2 v3 p, σ' = [some (.ref a), some (.ref p), v2, v3] ∧ Ex H H' ∧ H p = none ∧ H' p = some (.lst ((sumsM (es.take i)).map V.int))) (fun H2 e2 => ⟨none, none, p0, rfl, e1.trans e2, hp0, e2 p0 _ g1⟩) (fun i σ' H' _ q => by obtain ⟨_, _, _, _, x, _, _⟩ := q; exact ex_l x hS) ?turn ?fin
    case fin =>
      rintro σ' H2 ⟨v2, v3, p, rfl, x2, hp, g2⟩
      rw [List.length_map, List.take_of_length_le (Nat.le_refl _)] at g2
      exact s_ret (ev_var rfl) fun H3 e3 => h p H3 hp (x2.trans e3) (e3 p _ g2)
    case turn =>
      rintro i x σ' H2 hx ⟨v2, v3, p, rfl, x2, hp, g2⟩
      obtain ⟨rfl, hi⟩ := at_ints hx
      have tk1 : es.take (i + 1) = es.take i ++ [es.getD i 0] := by
        rw [List.take_succ, List.getD_eq_getElem?_getD, List.getElem?_eq_getElem hi]
        rfl
      have sm : (sumsM (es.take i)).length ≤ 1024 := sumsM_small (by rw [List.length_take]; omega)
      have hcomp := el_lcL (K := K) (σ := [some (.ref a), some (.ref p), some (.int (es.getD i 0)), v3]) (H := H2) (tl := tVar 1) (j := 3) (vs := [3]) (t := tYes) (te := tOp (rI0 fun i j => .int (i + j)) (tVar 3) (tVar 2)) (fun _ => true) (fun k => V.int ((sumsM (es.take i)).getD k 0 + es.getD i 0)) (ev_var rfl) (sq_of g2) (by rw [List.length_map]; omega) (by intro x; rfl)
        (fun k x H3 e3 hx => fun H4 e4 Q q => q H4 (Ex.refl H4))
        (fun k x H3 e3 hx _ => by
          obtain ⟨rfl, hk⟩ := at_ints hx
          exact ev_op (ev_var rfl) (ev_var rfl) rv_I0)
      have hgm := given_map (sumsM (es.take i)) (fun z => z + es.getD i 0)
      rw [List.length_map, hgm] at hcomp
      refine s_asgL (el_cat (em_ev (ev_var rfl) g2) (em_el hcomp) (by rw [List.length_map, List.length_map, List.length_map]; omega)) fun q H3 hq e3 g3 => ?_
      refine ⟨_, _, q, rfl, x2.trans e3, fresh_back x2 hq, ?_⟩
      rw [g3, tk1, sumsM_snoc, List.map_append]
def spSizes : Sp := fun vs H Q E => ∃ t : Nat, vs = [.int (t : Nat)] ∧ t ≤ 10 ∧ RetL ((szs t).map V.int) H Q
theorem rep_one : ∀ t : Nat, (List.replicate t [V.int 1]).flatten = (List.replicate t (1 : Int)).map V.int
  | 0 => rfl
  | t + 1 => by
    rw [List.replicate_succ, List.replicate_succ, List.flatten_cons, rep_one t]
    rfl
theorem has_sizes_of_masks (T : Tx P w K mg base c) (h_sums_of_masks : Has P w K mg base 3 "sums_of_masks" ["entries"] (spSums K)) (D : DefAt K mg "sizes_of_masks" s_sizes_of_masks ["things"]) : Has P w K mg base 4 "sizes_of_masks" ["things"] (spSizes) := by
  refine D.has sc_sizes_of_masks (fun vs H Q E h => ?len) (fun f cdv A outer s H vs Q E hr h => ?body)
  case len =>
    obtain ⟨_, rfl, _, _⟩ := h
    rfl
  case body =>
    have tk : Takes (cxOf (L2.CX P w) P w K mg base ["things"] "sizes_of_masks" (defScope s_sizes_of_masks) f cdv A outer s H E) (fun cls d _ H => E cls d H) := takes_of rfl rfl rfl rfl
    obtain ⟨t, rfl, ht, h⟩ := h
    refine ⟨_, (pss_one (ps_ret (pe_hasN h_sums_of_masks (hr.mono (by decide)) (pa_cons (pe_op op_rep (pe_lst (pa_cons pe_int pa_nil)) (pv 0)) pa_nil)))), ?_⟩
    refine (el_rep (k := (t : Int)) (xs := [.int 1]) (em_el (el_lst (ea_cons ev_c ea_nil) (by decide))) (ev_var rfl) ⟨by omega, by omega⟩ (by show 1 * _ ≤ _; omega)) H (Ex.refl H) _ fun p H1 hp e1 g1 => ?_
    have e := rep_one t
    rw [Int.toNat_natCast, e] at g1
    exact ⟨p, List.replicate t 1, rfl, sq_of g1, by rw [List.length_replicate]; omega, RetL.mono h e1⟩
end
end K4
namespace K4
open PySem PySem.Spec PyProof.Rows L2 Evl Nd
local macro_rules | `(tactic| walk_at "ev") => `(tactic| first
  | exact ev_var rfl
  | exact ev_c
  | (apply ev_op; (walk_at "ev"); (walk_at "ev"); (walk_at "rv"))
  | (apply ev_un; (walk_at "ev"); (walk_at "rv"))
  | (apply ev_lenS; (walk_at "ev"); (walk_at "sq"))
  | (apply ev_andV; (walk_at "ev"); (intro _; walk_at "ev"))
  | (apply ev_orV; (walk_at "ev"); (intro _; walk_at "ev"))
  | (apply ev_notV; (walk_at "ev")))
local macro_rules | `(tactic| walk_at "rv") => `(tactic| first
  | exact rv_I0
  | exact ru_neg
  | exact rv_eq rfl
  | exact rv_ne rfl
  | exact rv_I (by decide)
  | exact rv_I (by first | omega | exact .inl (by omega) | exact .inr (by omega) | (constructor <;> omega)))
local macro_rules | `(tactic| walk_at "sq") => `(tactic| first
  | assumption
  | exact SqS.lst (by assumption)
  | exact SqS.tup (by assumption)
  | exact Or.inl (by assumption)
  | exact Or.inr (by assumption)
  | (refine SqS.mono (by assumption) ?_; walk_at "sq"))
local macro_rules | `(tactic| walk_at "et") => `(tactic| first
  | (apply et_or; (walk_at "et"); (intro _; walk_at "et"))
  | (apply et_and; (walk_at "et"); (intro _; walk_at "et"))
  | (apply et_not; (walk_at "et"))
  | (apply et_test; (walk_at "ev"))
  | (apply et_B; (walk_at "ev")))
local macro_rules | `(tactic| walk_at "ea") => `(tactic| first
  | exact ea_nil
  | (apply ea_cons; (walk_at "ev"); (walk_at "ea")))
section
variable {P : Program} {w : World} {K : PySem.W.Frag} {mg : Str → Option Value} {base : Heap} {c : Ad}
theorem el_callS {sp : Sp} {E : L2.St → XK} {ts : TA} {σ : L2.St} {H : Hp} {vs xs : List V} (h : EvA ts σ H vs) (hs : ∀ H1, Ex H H1 → ∀ (Q : VK) (E' : XK), RetL xs H1 Q → sp vs H1 Q E') : EvL (tCallS sp E ts) σ H xs := fun H1 e Q q =>
  h H1 e _ fun H2 e2 => hs H2 (e.trans e2) Q (E σ) fun p H3 hp e3 g => q p H3 (fresh_back e2 hp) (e2.trans e3) g
theorem at_int {ns : List Int} {i : Nat} (h : i < ns.length) : atI (ns.map V.int) (i : Int) = some (.int (ns.getD i 0)) := atI_nat (by
  rw [List.getElem?_map, List.getElem?_eq_getElem h, List.getD_eq_getElem?_getD, List.getElem?_eq_getElem h]
  rfl)
theorem given_all {α : Type} (xs : List α) (n : Nat) (v : Nat → V) (g : α → V) (hl : xs.length = n) (h : ∀ i a, xs[i]? = some a → v i = g a) : given n (fun _ => true) v = xs.map g := by
  unfold given
  rw [List.filter_eq_self.mpr (fun _ _ => rfl)]
  apply List.ext_getElem
  · simp [hl]
  · intro i h1 h2
    have hi : i < xs.length := by simpa using h2
    simp only [List.getElem_map, List.getElem_range]
    exact h i _ (List.getElem?_eq_getElem hi)
theorem shr_cast (m i : Nat) : (m : Int) / 2 ^ ((i : Int)).toNat = ((m / 2 ^ i : Nat) : Int) := by
  rw [Int.toNat_natCast, Int.natCast_ediv, Int.natCast_pow]
  rfl
def spParts : Sp := fun vs H Q E => ∃ m t : Nat, vs = [.int (m : Nat), .int (t : Nat)] ∧ t ≤ 6 ∧ m < 64 ∧ RetL ((parts m t).map fun p => V.int (p : Nat)) H Q
theorem has__parts_of (T : Tx P w K mg base c) (D : DefAt K mg "_parts_of" s__parts_of ["mask", "things"]) : Has P w K mg base 3 "_parts_of" ["mask", "things"] (spParts) := by
  refine D.has sc__parts_of (fun vs H Q E h => ?len) (fun f cdv A outer s H vs Q E hr h => ?body)
  case len =>
    obtain ⟨_, _, rfl, _, _, _⟩ := h
    rfl
  case body =>
    have tk : Takes (cxOf (L2.CX P w) P w K mg base ["mask", "things", "thing"] "_parts_of" (defScope s__parts_of) f cdv A outer s H E) (fun cls d _ H => E cls d H) := takes_of rfl rfl rfl rfl
    obtain ⟨m, t, rfl, ht, hm, h⟩ := h
    refine ⟨_, (pss_one (ps_ret (pe_lc (own := [("thing", 2)]) rfl sc__parts_of.nd (pi_range1 rfl T.z_range (pa_cons (pv 1) pa_nil)) (blkOk_by (own := [("thing", 2)]) (N := ["mask", "things", "thing"]) (sc := defScope s__parts_of) (by decide +kernel)) (fun _ _ _ _ _ => (pg_name (i := 2) sc__parts_of.nd rfl (.inl rfl))) (fun _ _ _ _ _ => pts_one (pt_truthK K (pe_op op_odd (pe_op op_shr (pv 0) (pv 2)) pe_int) (by intro _; rfl))) (fun _ _ _ _ _ => (pe_op op_xor (pv 0) (pe_op op_shl pe_int (pv 2))))))), ?_⟩
    have hcomp := el_lcR1 (σ := L2.start ["mask", "things", "thing"] [.int (m : Nat), .int (t : Nat)]) (H := H) (ta := tCons (tVar 1) tNil) (j := 2) (vs := [2]) (n := (t : Int))
      (t := fun σ H Q => tOp (fun x y H Q => ∃ n : Nat, x = .int (n : Int) ∧ y = .int 1 ∧ Q (.int ((n % 2 : Nat) : Int)) H) (tOp (rI (fun _ j => 0 ≤ j) fun i j => .int (i / 2 ^ j.toNat)) (tVar 0) (tVar 2)) (tC (.int 1)) σ H fun x H' => ∃ k, TruV K x H' k ∧ Q k H')
      (te := tOp (rI0 fun i j => .int (Builtin.bitXor i j)) (tVar 0) (tOp (rI CPow fun i j => .int (i * 2 ^ j.toNat)) (tC (.int 1)) (tVar 2)))
      (fun i => decide (m / 2 ^ i % 2 ≠ 0)) (fun i => V.int ((m ^^^ (2 ^ i) : Nat) : Int)) (ea_cons (ev_var rfl) ea_nil) (by omega) (by intro x; rfl)
      (fun i H1 e1 hi => by
        refine et_is (et_truI (i := ((m / 2 ^ i % 2 : Nat) : Int)) (ev_op (ev_is (ev_op (ev_var rfl) (ev_var rfl) (rv_I (C := fun _ j => 0 ≤ j) (g := fun i j => .int (i / 2 ^ j.toNat)) (i := (m : Int)) (j := (i : Int)) (by omega))) (congrArg V.int (shr_cast m i))) ev_c (fun H2 e2 Q q => ⟨m / 2 ^ i, rfl, rfl, q H2 (Ex.refl H2)⟩))) ?_
        rcases Nat.mod_two_eq_zero_or_one (m / 2 ^ i) with z | z <;> rw [z] <;> rfl)
      (fun i H1 e1 hi _ => by
        have hx := xor_is (m := m) (i := i) hm (by omega)
        refine ev_is (ev_op (z := .int (Builtin.bitXor (m : Int) ((2 : Int) ^ i))) (ev_var rfl) (ev_is (ev_op (ev_c (v := .int 1)) (ev_var rfl) (rv_I (C := CPow) (g := fun i j => .int (i * 2 ^ j.toNat)) (i := 1) (j := (i : Int)) ⟨by omega, by omega, by decide⟩)) (w := .int ((2 : Int) ^ i)) (by rw [Int.one_mul, Int.toNat_natCast])) rv_I0) ?_
        rw [hx])
    rw [Int.toNat_natCast] at hcomp
    refine s_retL hcomp fun p H1 hp e1 g1 => h p H1 hp e1 ?_
    rw [g1]
    unfold given parts
    rw [List.map_map]
    rfl
def spRanks (K : PySem.W.Frag) : Sp := fun vs H Q E => ∃ (a : Addr) (t s : Nat), vs = [.int (t : Nat), .ref a] ∧ t ≤ 6 ∧ s ≤ t ∧ SqL K H a ((List.range (2 ^ t)).map fun m => V.bl (decide ((szs t).getD m 0 ≤ (s : Int)))) ∧ RetL ((rkT t s).map V.int) H Q
theorem pow64 {t : Nat} (h : t ≤ 6) : 2 ^ t ≤ 64 := Nat.le_trans (Nat.pow_le_pow_right (by decide) h) (by decide)
theorem take_snocD {ns : List Int} {i : Nat} (h : i < ns.length) : ns.take (i + 1) = ns.take i ++ [ns.getD i 0] := by
  rw [List.take_succ, List.getD_eq_getElem?_getD, List.getElem?_eq_getElem h]
  rfl
theorem take_getD {ns : List Int} {p i : Nat} (h : p < i) : (ns.take i).getD p 0 = ns.getD p 0 := by
  rw [List.getD_eq_getElem?_getD, List.getD_eq_getElem?_getD, List.getElem?_take_of_lt h]
theorem has_ranks_of_free (T : Tx P w K mg base c) (h__parts_of : Has P w K mg base 3 "_parts_of" ["mask", "things"] (spParts)) (h_sizes_of_masks : Has P w K mg base 4 "sizes_of_masks" ["things"] (spSizes)) (D : DefAt K mg "ranks_of_free" s_ranks_of_free ["things", "free"]) : Has P w K mg base 6 "ranks_of_free" ["things", "free"] (spRanks K) := by
  refine D.has sc_ranks_of_free (fun vs H Q E h => ?len) (fun f cdv A outer s H vs Q E hr h => ?body)
  case len =>
    obtain ⟨_, _, _, rfl, _, _, _, _⟩ := h
    rfl
  case body =>
    have tk : Takes (cxOf (L2.CX P w) P w K mg base ["things", "free", "sizes", "ranks", "mask", "part"] "ranks_of_free" (defScope s_ranks_of_free) f cdv A outer s H E) (fun cls d _ H => E cls d H) := takes_of rfl rfl rfl rfl
    obtain ⟨a, t, s, rfl, ht, hs, hF, h⟩ := h
    refine ⟨_, (pss_cons (ps_set (i := 2) sc_ranks_of_free.nd rfl (.inl rfl) (pe_hasN h_sizes_of_masks (hr.mono (by decide)) (pa_cons (pv 0) pa_nil)))
      (pss_cons (ps_set (i := 3) sc_ranks_of_free.nd rfl (.inr rfl) (pe_lst pa_nil))
      (pss_cons (ps_for (passes_of rfl) rfl (pi_range1 rfl T.z_range (pa_cons (pe_op op_shl pe_int (pv 0)) pa_nil)) (pg_name (i := 4) sc_ranks_of_free.nd rfl (.inl rfl)) (pss_one (ps_if (pt_truth (pe_ix ix_list (pv 1) (pv 4) (fun _ _ => rfl)) (by intro _; rfl)) (pss_one (ps_expr (pe_bm PySem.F.plainAttrs_list PySem.F.slot_list_append PySem.F.type_list_append mt_append (pv 3) (pa_cons (pe_ix ix_list (pv 2) (pv 4) (fun _ _ => rfl)) pa_nil)))) (pss_one (ps_expr (pe_bm PySem.F.plainAttrs_list PySem.F.slot_list_append PySem.F.type_list_append mt_append (pv 3) (pa_cons (pe_callB (cr_max rfl) (by rfl) T.z_max (by decide +kernel) (pa_cons (pe_lc (own := [("part", 5)]) rfl sc_ranks_of_free.nd (pi_list (pe_hasN h__parts_of (hr.mono (by decide)) (pa_cons (pv 4) (pa_cons (pv 0) pa_nil)))) (blkOk_by (own := [("part", 5)]) (N := ["things", "free", "sizes", "ranks", "mask", "part"]) (sc := defScope s_ranks_of_free) (by decide +kernel)) (fun _ _ _ _ _ => (pg_name (i := 5) sc_ranks_of_free.nd rfl (.inl rfl))) (fun _ _ _ _ _ => pts_nil) (fun _ _ _ _ _ => (pe_ix (ix_listK K) (pv 3) (pv 5) (fun _ _ => rfl)))) pa_nil)) pa_nil)))))))
      (pss_one (ps_ret (pv 3)))))), ?_⟩
    refine q_asgL (el_callS (xs := (szs t).map V.int) (ea_cons (ev_var rfl) ea_nil) fun H1 e1 Q' E' q' => ⟨t, rfl, by omega, q'⟩) fun p2 H1 hp2 e1 g2 => ?_
    refine q_asgL (el_lst ea_nil (by decide)) fun p3 H2 hp3 e2 g3 => ?_
    have hn : 2 ^ t ≤ 64 := pow64 ht
    have fr3 : H p3 = none := fresh_back e1 hp3
    refine q_forR1 (n := ((2 ^ t : Nat) : Int)) (ea_cons (ev_is (ev_op (ev_c (v := .int 1)) (ev_var rfl) (rv_I (C := CPow) (g := fun i j => .int (i * 2 ^ j.toNat)) (i := 1) (j := (t : Int)) ⟨by omega, by omega, by decide⟩)) (congrArg V.int (pow_cast t))) ea_nil) ⟨Int.natCast_nonneg _, Int.le_trans (Int.ofNat_le.mpr hn) (by decide)⟩
      (fun i σ' H' => ∃ v4 v5, σ' = [some (.int (t : Nat)), some (.ref a), some (.ref p2), some (.ref p3), v4, v5] ∧ Ex H H' ∧ SqL K H' p2 ((szs t).map V.int) ∧ H' p3 = some (.lst (((rkT t s).take i).map V.int)))
      (fun H3 e3 => ⟨none, none, rfl, (e1.trans e2).trans e3, sq_of ((e2.trans e3) p2 _ g2), e3 p3 _ g3⟩) ?turn ?fin
    case fin =>
      rintro σ' H3 ⟨v4, v5, rfl, x3, _, g⟩
      rw [Int.toNat_natCast, List.take_of_length_le (by rw [rkT_len]; exact Nat.le_refl _)] at g
      exact s_ret (ev_var rfl) fun H4 e4 => h p3 H4 fr3 (x3.trans e4) (e4 p3 _ g)
    case turn =>
      rintro i σ' H3 hi ⟨v4, v5, rfl, x3, hz, g⟩
      have hi' : i < 2 ^ t := Int.ofNat_lt.mp hi
      have hiR : i < (rkT t s).length := by rw [rkT_len]; exact hi'
      have hiS : i < (szs t).length := by rw [szs_len]; exact hi'
      have lenT : (((rkT t s).take i).map V.int).length ≤ 64 := by rw [List.length_map, List.length_take]; omega
      have hfree : atI ((List.range (2 ^ t)).map fun m => V.bl (decide ((szs t).getD m 0 ≤ (s : Int)))) (i : Int) = some (.bl (decide ((szs t).getD i 0 ≤ (s : Int)))) := atI_nat (by simp [hi'])
      have done : ∀ {H4 : Hp} {z : Int}, Ex H3 H4 → z = (rkT t s).getD i 0 → upd H4 p3 (.lst (((rkT t s).take i).map V.int ++ [.int z])) p3 = some (.lst (((rkT t s).take (i + 1)).map V.int)) := fun {H4 z} e ez => by
        rw [upd_same, take_snocD hiR, List.map_append, ez]
        rfl
      have n2 : p2 ≠ p3 := fun e => by rw [e, hp3] at g2; cases g2
      refine s_if (b := decide ((szs t).getD i 0 ≤ (s : Int))) (et_truB (ev_op (ev_var rfl) (ev_var rfl) (rv_ixL (ex_l x3 hF) hfree))) (fun hb H4 e4 => ?low) (fun hb H4 e4 => ?high)
      case low =>
        have hle := of_decide_eq_true hb
        refine s_app (e4 p3 _ g) (ev_var rfl) (ev_op (ev_var rfl) (ev_var rfl) (rv_ixL (ex_l e4 hz) (at_int hiS))) (by omega) fun H5 e5 => ?_
        exact ⟨_, _, rfl, (x3.trans (e4.trans e5)).mut fr3, sql_upd n2 (ex_l (e4.trans e5) hz), done (e4.trans e5) (rk_low ht hs hi' hle).symm⟩
      case high =>
        have hle : ¬ (szs t).getD i 0 ≤ (s : Int) := of_decide_eq_false hb
        obtain ⟨pn, pl, pm⟩ := rk_high ht hs hi' hle
        have g4 := e4 p3 _ g
        have hpl : (parts i t).length ≤ 6 := by
          unfold parts
          rw [List.length_map]
          exact Nat.le_trans (List.length_filter_le _ _) (by rw [List.length_range]; exact ht)
        have hparts : EvL (tCallS spParts (fun _ => E0) (tCons (tVar 4) (tCons (tVar 0) tNil))) [some (.int (t : Nat)), some (.ref a), some (.ref p2), some (.ref p3), some (.int (i : Nat)), v5] H4 ((parts i t).map fun p => V.int (p : Nat)) := el_callS (ea_cons (ev_var rfl) (ea_cons (ev_var rfl) ea_nil)) fun H5 e5 Q' E' q' => ⟨i, t, rfl, ht, by omega, q'⟩
        have hcomp := el_lcNL (K := K) (j := 5) (vs := [5]) (t := tYes) (te := tOp (rIxL K) (tVar 3) (tVar 5)) (fun _ => true) (fun k => V.int (((parts i t).map fun p => (rkT t s).getD p 0).getD k 0)) hparts (by rw [List.length_map]; omega) (by intro x; rfl)
          (fun k x H5 e5 hx => fun H6 e6 Q q => q H6 (Ex.refl H6))
          (fun k x H5 e5 hx _ => by
            rw [List.getElem?_map] at hx
            cases ek : (parts i t)[k]? with
            | none => rw [ek] at hx; cases hx
            | some z =>
              rw [ek] at hx
              obtain rfl := Option.some.inj hx
              have zi := pl z (List.mem_of_getElem? ek)
              refine ev_op (ev_var rfl) (ev_var rfl) (rv_ixL (sq_of (e5 p3 _ g4)) ?_)
              rw [at_int (by rw [List.length_take]; omega), take_getD zi]
              rw [List.getD_eq_getElem?_getD (l := List.map _ _), List.getElem?_map, ek]
              rfl)
        have eg := given_all ((parts i t).map fun p => (rkT t s).getD p 0) ((parts i t).map fun p => V.int (p : Nat)).length (fun k => V.int (((parts i t).map fun p => (rkT t s).getD p 0).getD k 0)) V.int (by rw [List.length_map, List.length_map]) (fun k z hk => by rw [List.getD_eq_getElem?_getD, hk]; rfl)
        rw [eg] at hcomp
        refine s_app g4 (ev_var rfl) (ev_maxN hcomp (fun e => pn (List.map_eq_nil_iff.mp e))) (by omega) fun H5 e5 => ?_
        exact ⟨_, _, rfl, (x3.trans (e4.trans e5)).mut fr3, sql_upd n2 (ex_l (e4.trans e5) hz), done (e4.trans e5) pm⟩
def spUnder (K : PySem.W.Frag) : Sp := fun vs H Q E => ∃ (a b l : Addr) (t s : Nat), vs = [.int (t : Nat), .ref a] ∧ t ≤ 6 ∧ s ≤ t ∧ SqL K H a [.ref b] ∧ SqT K H b [.ref l, .int (s : Nat)] ∧ SqL K H l ((List.range t).map fun i => V.int (i : Nat)) ∧ RetL ((rkT t s).map V.int) H Q
theorem sum_pow : ∀ t : Nat, ((List.range t).map fun n => (2 : Int) ^ n).sum = 2 ^ t - 1
  | 0 => rfl
  | t + 1 => by
    rw [List.range_succ, List.map_append, List.sum_append, sum_pow t]
    simp only [List.map_cons, List.map_nil, List.sum_cons, List.sum_nil]
    rw [Int.pow_succ]
    omega
def IsPair (z : Int) (s : Nat) (v : V) (H : Hp) : Prop := ∃ q, v = .ref q ∧ H q = some (.tup [.int z, .int (s : Nat)])
theorem solidPair (z : Int) (s : Nat) : Solid (IsPair z s) := ⟨fun e ⟨q, h1, h2⟩ => ⟨q, h1, e q _ h2⟩, fun hl ⟨q, h1, h2⟩ => ⟨q, h1, by rw [upd_ne (fun e => by rw [e, hl] at h2; cases h2)]; exact h2⟩⟩
theorem has_ranks_under_rooms (T : Tx P w K mg base c) (h_mask_of : Has P w K mg base 2 "mask_of" ["lot"] (spMaskOf K)) (h_ranks_of_free : Has P w K mg base 6 "ranks_of_free" ["things", "free"] (spRanks K)) (h_sizes_of_masks : Has P w K mg base 4 "sizes_of_masks" ["things"] (spSizes)) (D : DefAt K mg "ranks_under_rooms" s_ranks_under_rooms ["things", "rooms"]) : Has P w K mg base 8 "ranks_under_rooms" ["things", "rooms"] (spUnder K) := by
  refine D.has sc_ranks_under_rooms (fun vs H Q E h => ?len) (fun f cdv A outer s H vs Q E hr h => ?body)
  case len =>
    obtain ⟨_, _, _, _, _, rfl, _, _, _, _, _, _⟩ := h
    rfl
  case body =>
    have tk : Takes (cxOf (L2.CX P w) P w K mg base ["things", "rooms", "sizes", "bounds", "free", "lot", "most", "mask", "room"] "ranks_under_rooms" (defScope s_ranks_under_rooms) f cdv A outer s H E) (fun cls d _ H => E cls d H) := takes_of rfl rfl rfl rfl
    obtain ⟨a, b, l, t, s, rfl, ht, hs, hA, hB, hL, h⟩ := h
    refine ⟨_, (pss_cons (ps_set (i := 2) sc_ranks_under_rooms.nd rfl (.inr rfl) (pe_hasN h_sizes_of_masks (hr.mono (by decide)) (pa_cons (pv 0) pa_nil)))
      (pss_cons (ps_set (i := 3) sc_ranks_under_rooms.nd rfl (.inr rfl) (pe_lc (own := [("lot", 5), ("most", 6)]) rfl sc_ranks_under_rooms.nd (pi_list (pv 1)) (blkOk_by (own := [("lot", 5), ("most", 6)]) (N := ["things", "rooms", "sizes", "bounds", "free", "lot", "most", "mask", "room"]) (sc := defScope s_ranks_under_rooms) (by decide +kernel)) (fun _ _ _ _ _ => (pg_tupK K (n := 2) (by rfl) (pgs_cons (pg_name (i := 5) sc_ranks_under_rooms.nd rfl (.inl rfl)) (pgs_cons (pg_name (i := 6) sc_ranks_under_rooms.nd rfl (.inl rfl)) pgs_nil)))) (fun _ _ _ _ _ => pts_nil) (fun _ _ _ _ _ => (pe_tup (pa_cons (pe_hasN h_mask_of (hr.mono (by decide)) (pa_cons (pv 5) pa_nil)) (pa_cons (pv 6) pa_nil))))))
      (pss_cons (ps_setLc (i := 4) (own := [("mask", 7)]) rfl sc_ranks_under_rooms.nd rfl rfl (sw_true rfl rfl rfl (by decide +kernel)) (pi_range1 rfl T.z_range (pa_cons (pe_op op_shl pe_int (pv 0)) pa_nil)) (blkOk_by (own := [("mask", 7)]) (N := ["things", "rooms", "sizes", "bounds", "free", "lot", "most", "mask", "room"]) (sc := defScope s_ranks_under_rooms) (by decide +kernel)) (fun _ _ _ _ _ => (pg_name (i := 7) sc_ranks_under_rooms.nd rfl (.inr rfl))) (fun _ _ _ _ _ => pts_nil) (fun _ _ _ _ _ => (pe_callB (cr_allK K rfl) (by rfl) T.z_all (by decide +kernel) (pa_cons (pe_lc (own := [("room", 8), ("most", 6)]) rfl sc_ranks_under_rooms.nd (pi_listK K (pv 3)) (blkOk_by (own := [("room", 8), ("most", 6)]) (N := ["things", "rooms", "sizes", "bounds", "free", "lot", "most", "mask", "room"]) (sc := relS _ (defScope s_ranks_under_rooms)) (by decide +kernel)) (fun _ _ _ _ _ => (pg_tupK K (n := 2) (by rfl) (pgs_cons (pg_name (i := 8) sc_ranks_under_rooms.nd rfl (.inl rfl)) (pgs_cons (pg_name (i := 6) sc_ranks_under_rooms.nd rfl (.inl rfl)) pgs_nil)))) (fun _ _ _ _ _ => pts_nil) (fun _ _ _ _ _ => (pe_cmpR op_le (pe_ix (ix_listK K) (pv 2) (pe_op op_andM (pv 7) (pv 8)) (fun _ _ => rfl)) (pv 6) (nomark _)))) pa_nil))))
      (pss_one (ps_ret (pe_hasN h_ranks_of_free (hr.mono (by decide)) (pa_cons (pv 0) (pa_cons (pv 4) pa_nil)))))))), ?_⟩
    have hn : 2 ^ t ≤ 64 := pow64 ht
    refine q_asgL (el_callS (xs := (szs t).map V.int) (ea_cons (ev_var rfl) ea_nil) fun H1 e1 Q' E' q' => ⟨t, rfl, by omega, q'⟩) fun p2 H1 hp2 e1 g2 => ?_
    refine q_asgLG (n := 1) (P := fun _ => IsPair (2 ^ t - 1) s) (lg_lcG (a := a) (xs := [.ref b]) _ (fun _ => solidPair _ _) (fun _ => [some (.int (t : Nat)), some (.ref a), some (.ref p2), none, none, some (.ref l), some (.int (s : Nat)), none, none]) (ev_var rfl) (ex_l e1 hA) (by show 1 ≤ 40000; decide) (fun _ => rfl)
      (fun i x H2 e2 hx R r => by
        have hi : i = 0 := by
          have := (List.getElem?_eq_some_iff.mp hx).1
          simpa using this
        subst hi
        obtain rfl : V.ref b = x := by simpa using hx
        exact g_two (ex_t (e1.trans e2) hB) R r)
      (fun i x H2 e2 hx => fun H3 e3 Q q => ?_)) fun p3 ys H2 hp3 e2 g3 ly hys => ?_
    · refine eu_tup (ea_cons (ev_callS (z := .int (2 ^ t - 1)) (ea_cons (ev_var rfl) ea_nil) fun H4 e4 Q' E' q' => ?_) (ea_cons (ev_var rfl) ea_nil)) (by show 2 ≤ 100000; decide) H3 e3 _ fun q2 H4 _ e4 g4 => q (.ref q2) H4 e4 ⟨q2, rfl, g4⟩
      refine ⟨l, List.range t, rfl, ex_l ((e1.trans e2).trans e4) hL, fun n hn => by have := List.mem_range.mp hn; omega, by rw [List.length_range]; omega, ?_⟩
      rw [sum_pow]
      exact q'
    · obtain ⟨q2, hq2, gq⟩ := hys 0 _ (List.getElem?_eq_getElem (by rw [ly]; decide))
      have hys1 : ys = [.ref q2] := by
        match ys, ly, hq2 with
        | [y], _, h2 => simp at h2; rw [h2]
      rw [hys1] at g3
      have hcomp := el_lcR1 (σ := [some (.int (t : Nat)), some (.ref a), some (.ref p2), some (.ref p3), none, none, none, none, none]) (H := H2) (ta := tCons (tOp (rI CPow fun i j => .int (i * 2 ^ j.toNat)) (tC (.int 1)) (tVar 0)) tNil) (j := 7) (vs := [7]) (n := ((2 ^ t : Nat) : Int)) (t := tYes)
        (te := tCB (rAll K) (tCons (tLc (iList K (tVar 3)) (gTup K 2 (gCons (gName 8) (gCons (gName 6) gNil))) tYes (tOp (rI0 fun i j => .bl (decide (i ≤ j))) (tOp (rIxL K) (tVar 2) (tOp (fun x y H Q => ∃ (i : Int) (k : Nat), x = .int i ∧ y = .int (2 ^ k - 1) ∧ Q (.int (i % 2 ^ k)) H) (tVar 7) (tVar 8))) (tVar 6)) [8, 6]) tNil))
        (fun _ => true) (fun m => V.bl (decide ((szs t).getD m 0 ≤ (s : Int))))
        (ea_cons (ev_is (ev_op (ev_c (v := .int 1)) (ev_var rfl) (rv_I (C := CPow) (g := fun i j => .int (i * 2 ^ j.toNat)) (i := 1) (j := (t : Int)) ⟨by omega, by omega, by decide⟩)) (congrArg V.int (pow_cast t))) ea_nil) ⟨Int.natCast_nonneg _, Int.le_trans (Int.ofNat_le.mpr hn) (by decide)⟩ (by intro x; rfl)
        (fun i H3 e3 hi => fun H4 e4 Q q => q H4 (Ex.refl H4))
        (fun m H3 e3 hm _ => by
          have hm' : m < 2 ^ t := Int.ofNat_lt.mp hm
          have inner := el_lcG (K := K) (a := p3) (xs := [.ref q2]) (σ := [some (.int (t : Nat)), some (.ref a), some (.ref p2), some (.ref p3), none, none, none, some (.int (m : Nat)), none]) (H := H3) (tl := tVar 3) (t := tYes) (vs := [8, 6]) (g := gTup K 2 (gCons (gName 8) (gCons (gName 6) gNil)))
            (te := tOp (rI0 fun i j => .bl (decide (i ≤ j))) (tOp (rIxL K) (tVar 2) (tOp (fun x y H Q => ∃ (i : Int) (k : Nat), x = .int i ∧ y = .int (2 ^ k - 1) ∧ Q (.int (i % 2 ^ k)) H) (tVar 7) (tVar 8))) (tVar 6))
            (fun _ => true) (fun _ => V.bl (decide ((szs t).getD m 0 ≤ (s : Int)))) (fun _ => [some (.int (t : Nat)), some (.ref a), some (.ref p2), some (.ref p3), none, none, some (.int (s : Nat)), some (.int (m : Nat)), some (.int (2 ^ t - 1))]) (ev_var rfl) (sq_of (e3 p3 _ g3)) (by show 1 ≤ 40000; decide) (fun _ => rfl)
            (fun i x H4 e4 hx R r => by
              have hi : i = 0 := by
                have := (List.getElem?_eq_some_iff.mp hx).1
                simpa using this
              subst hi
              obtain rfl : V.ref q2 = x := by simpa using hx
              exact g_two (st_of ((e3.trans e4) q2 _ gq)) R r)
            (fun i x H4 e4 hx => fun H5 e5 Q q => q H5 (Ex.refl H5))
            (fun i x H4 e4 hx _ => by
              have hmod : (m : Int) % 2 ^ t = (m : Int) := by
                refine Int.emod_eq_of_lt (by omega) ?_
                have : ((2 ^ t : Nat) : Int) = (2 : Int) ^ t := by rw [Int.natCast_pow]; rfl
                omega
              refine ev_op (z := .bl (decide ((szs t).getD m 0 ≤ (s : Int)))) (ev_op (ev_var rfl) (ev_is (ev_op (ev_var rfl) (ev_var rfl) (fun H5 e5 Q q => ⟨(m : Int), t, rfl, rfl, q H5 (Ex.refl H5)⟩)) (congrArg V.int hmod)) (rv_ixL (sq_of (((e2.trans e3).trans e4) p2 _ g2)) (at_int (by rw [szs_len]; exact hm')))) (ev_var rfl) rv_I0)
          exact ev_is (ev_allN (bs := [decide ((szs t).getD m 0 ≤ (s : Int))]) inner) (by simp))
      rw [Int.toNat_natCast] at hcomp
      refine q_asgL hcomp fun p4 H3 hp4 e3 g4 => ?_
      have eg : given (2 ^ t) (fun _ => true) (fun m => V.bl (decide ((szs t).getD m 0 ≤ (s : Int)))) = (List.range (2 ^ t)).map fun m => V.bl (decide ((szs t).getD m 0 ≤ (s : Int))) := by
        unfold given
        rw [List.filter_eq_self.mpr (fun _ _ => rfl)]
      rw [eg] at g4
      refine s_retL (el_callS (xs := (rkT t s).map V.int) (ea_cons (ev_var rfl) (ea_cons (ev_var rfl) ea_nil)) fun H4 e4 Q' E' q' => ⟨p4, t, s, rfl, ht, hs, ex_l e4 (sq_of g4), q'⟩) fun p H4 hp e4 g => h p H4 (fresh_back ((e1.trans e2).trans e3) hp) (((e1.trans e2).trans e3).trans e4) g
end
end K4
namespace K4
open PySem PySem.Spec PyProof.Rows L2 Evl Nd
local macro_rules | `(tactic| walk_at "ev") => `(tactic| first
  | exact ev_var rfl
  | exact ev_c
  | (apply ev_op; (walk_at "ev"); (walk_at "ev"); (walk_at "rv"))
  | (apply ev_un; (walk_at "ev"); (walk_at "rv"))
  | (apply ev_lenS; (walk_at "ev"); (walk_at "sq"))
  | (apply ev_andV; (walk_at "ev"); (intro _; walk_at "ev"))
  | (apply ev_orV; (walk_at "ev"); (intro _; walk_at "ev"))
  | (apply ev_notV; (walk_at "ev")))
local macro_rules | `(tactic| walk_at "rv") => `(tactic| first
  | exact rv_I0
  | exact ru_neg
  | exact rv_eq rfl
  | exact rv_ne rfl
  | exact rv_I (by decide)
  | exact rv_I (by first | omega | exact .inl (by omega) | exact .inr (by omega) | (constructor <;> omega)))
local macro_rules | `(tactic| walk_at "sq") => `(tactic| first
  | assumption
  | exact SqS.lst (by assumption)
  | exact SqS.tup (by assumption)
  | exact Or.inl (by assumption)
  | exact Or.inr (by assumption)
  | (refine SqS.mono (by assumption) ?_; walk_at "sq"))
local macro_rules | `(tactic| walk_at "et") => `(tactic| first
  | (apply et_or; (walk_at "et"); (intro _; walk_at "et"))
  | (apply et_and; (walk_at "et"); (intro _; walk_at "et"))
  | (apply et_not; (walk_at "et"))
  | (apply et_test; (walk_at "ev"))
  | (apply et_B; (walk_at "ev")))
local macro_rules | `(tactic| walk_at "ea") => `(tactic| first
  | exact ea_nil
  | (apply ea_cons; (walk_at "ev"); (walk_at "ea")))
section
variable {P : Program} {w : World} {K : PySem.W.Frag} {mg : Str → Option Value} {base : Heap} {c : Ad}
theorem putF_len (f : Str) (v : V) : ∀ fs : List (Str × V), (putF f v fs).length ≤ fs.length + 1
  | [] => Nat.le_refl _
  | (g, x) :: r => by
    unfold putF
    split
    · show r.length + 1 ≤ r.length + 1 + 1; omega
    · have := putF_len f v r
      show (putF f v r).length + 1 ≤ r.length + 1 + 1
      omega
theorem q_fldsetU {σ : L2.St} {H : Hp} {te ta : TE} {tz : TS} {D : Ends} {C a dx : Addr} {fs : List (Str × V)} {f : Str} {xs : List V} (hv : EvU te σ H xs) (ho : Ev ta σ H (.ref a)) (g : H a = some (.ins C dx fs)) (cl : Cls K C) (n : NoAttr K C f) (l : fs.length < 1000)
    (k : ∀ p H1, H p = none → Ex H H1 → H1 p = some (.tup xs) → tz D σ (upd H1 a (.ins C dx (putF f (.ref p) fs)))) : tSeq (sFld K ta te f) tz D σ H :=
  hv H (Ex.refl H) _ fun p H1 hp e1 gp => ho H1 e1 _ fun H2 e2 => ⟨a, C, dx, fs, rfl, (e1.trans e2) a _ g, cl, n, l, k p H2 hp (e1.trans e2) (e2 p _ gp)⟩
theorem eu_tupleS {σ : L2.St} {H : Hp} {ta : TE} {a : Addr} {xs : List V} (ha : Ev ta σ H (.ref a)) (h : SqL K H a xs) : EvU (tCB (fun vs H Q => ∃ p ys, vs = [.ref p] ∧ ((SqL K H p ys ∧ ∀ l, H l = none → Q (.ref l) (upd H l (.tup ys))) ∨ (SqT K H p ys ∧ Q (.ref p) H))) (tCons ta tNil)) σ H xs := eu_tuple ha h
/-- a family: its things and its ranks -/
def FamAt (K : PySem.W.Frag) (c : Ad) (H : Hp) (a : Addr) (t : Int) (rk : List Int) : Prop := ∃ (C dx tr : Addr) (fs : List (Str × V)), (C = c.KC ∨ C = c.KG) ∧ H a = some (.ins C dx fs) ∧ fs.lookup ("things" : Str) = some (.int t) ∧ fs.lookup ("ranks" : Str) = some (.ref tr) ∧ SqT K H tr (rk.map V.int)
theorem FamAt.mono {H H' : Hp} {a : Addr} {t : Int} {rk : List Int} (e : Ex H H') : FamAt K c H a t rk → FamAt K c H' a t rk := fun ⟨C, dx, tr, fs, h1, h2, h3, h4, h5⟩ => ⟨C, dx, tr, fs, h1, e a _ h2, h3, h4, ex_t e h5⟩
theorem nCG (T : Tx P w K mg base c) {C : Addr} (h : C = c.KC ∨ C = c.KG) : Cls K C ∧ (∀ f ∈ (["things", "ranks", "full", "nodes"] : List Str), NoAttr K C f) := by
  rcases h with rfl | rfl
  · exact ⟨T.cC, fun f hf => T.nC f (List.mem_cons_of_mem _ hf)⟩
  · exact ⟨T.cG, fun f hf => T.nG f (List.mem_cons_of_mem _ (List.mem_cons_of_mem _ hf))⟩
theorem tyx_i (T : Tx P w K mg base c) {H : Hp} {a C dx : Addr} {fs : List (Str × V)} (hC : C = c.KC ∨ C = c.KG ∨ C = c.KW ∨ C = c.KB) (h : H a = some (.ins C dx fs)) : TyX K H (.ref a) (.ref C) := by
  have cl : Cls K C := by
    rcases hC with rfl | rfl | rfl | rfl
    · exact T.cC
    · exact T.cG
    · exact T.cW
    · exact T.cB
  exact .base (.ins h cl (T.tyC C hC) T.tyG T.tyT (T.tyM C hC))
theorem lk_put {f g : Str} {v : V} {fs : List (Str × V)} : (putF f v fs).lookup g = if g = f then some v else fs.lookup g := lookup_putF f g v fs
theorem at_last {xs : List V} (h : xs ≠ []) : ∃ z, atI xs (-1) = some z := by
  have hl : 0 < xs.length := List.length_pos_iff.mpr h
  have e : ixN xs.length (-1) = some (xs.length - 1) := by
    unfold ixN
    rw [if_neg (show ¬ (0 ≤ (-1 : Int)) by decide), if_pos (by omega)]
    congr 1
    omega
  refine ⟨xs[xs.length - 1], ?_⟩
  unfold atI
  rw [e]
  exact List.getElem?_eq_getElem (by omega)
def famFs (t : Int) (tr : Addr) (z : V) (n : Int) (fs : List (Str × V)) : List (Str × V) := putF "nodes" (.int n) (putF "full" z (putF "ranks" (.ref tr) (putF "things" (.int t) fs)))
theorem famFs_t {t : Int} {tr : Addr} {z : V} {n : Int} {fs : List (Str × V)} : (famFs t tr z n fs).lookup ("things" : Str) = some (.int t) := by
  unfold famFs
  rw [lk_put, if_neg (by decide), lk_put, if_neg (by decide), lk_put, if_neg (by decide), lk_put, if_pos rfl]
theorem famFs_r {t : Int} {tr : Addr} {z : V} {n : Int} {fs : List (Str × V)} : (famFs t tr z n fs).lookup ("ranks" : Str) = some (.ref tr) := by
  unfold famFs
  rw [lk_put, if_neg (by decide), lk_put, if_neg (by decide), lk_put, if_pos rfl]
def spFamI (K : PySem.W.Frag) (c : Ad) : Sp := fun vs H Q E => ∃ (x C dx r : Addr) (fs : List (Str × V)) (t n : Int) (rk : List Int), vs = [.ref x, .int t, .ref r, .int n] ∧ (C = c.KC ∨ C = c.KG) ∧ H x = some (.ins C dx fs) ∧ fs.length ≤ 10 ∧ r ≠ x ∧ SqL K H r (rk.map V.int) ∧ rk ≠ [] ∧
  ∀ tr z H1, H tr = none → But x H H1 → H1 tr = some (.tup (rk.map V.int)) → H1 x = some (.ins C dx (famFs t tr z n fs)) → Q .non H1
theorem ok_Family_init (T : Tx P w K mg base c) {fL : Addr} {fdL : FuncData} (D : Fun K "__init__" "Family.__init__" s_Family_init fL fdL) : FnOk P w K mg base (L2.CX P w) 3 fL fdL ["self", "things", "ranks", "nodes"] (spFamI K c) := by
  refine D.okX sc_Family_init (fun vs H Q E h => ?len) (fun cdv A outer s H vs Q E hr h => ?body)
  case len =>
    obtain ⟨_, _, _, _, _, _, _, _, rfl, _, _, _, _, _', _, _⟩ := h
    rfl
  case body =>
    have tk : Takes (cxOf (L2.CX P w) P w K mg base ["self", "things", "ranks", "nodes"] "Family.__init__" (defScope s_Family_init) fL cdv A outer s H E) (fun cls d _ H => E cls d H) := takes_of rfl rfl rfl rfl
    obtain ⟨x, C, dx, r, fs, t, n, rk, rfl, hC, hx, hl, nr, hr', hn, h⟩ := h
    refine ⟨_, (pss_cons (ps_fld (pv 0) (pv 1) rfl)
      (pss_cons (ps_fld (pv 0) (pe_callTy call_tuple_of (by rfl) T.z_tuple (by decide +kernel) (pa_cons (pv 2) pa_nil)) rfl)
      (pss_cons (ps_fld (pv 0) (pe_ix ix_tup (pe_fld (pv 0) rfl) (pe_un un_neg pe_int) (fun _ _ => rfl)) rfl)
      (pss_one (ps_fld (pv 0) (pv 3) rfl))))), ?_⟩
    obtain ⟨cl, na⟩ := nCG T hC
    refine q_fldset (ev_var rfl) (ev_var rfl) hx cl (na _ (by decide)) (by omega) fun H1 e1 => ?_
    have l1 := putF_len "things" (.int t) fs
    have hr1 : SqL K (upd H1 x (.ins C dx (putF "things" (.int t) fs))) r (rk.map V.int) := sql_upd nr (ex_l e1 hr')
    refine q_fldsetU (eu_tuple (ev_var rfl) hr1) (ev_var rfl) upd_same cl (na _ (by decide)) (by omega) fun p H2 hp e2 gp => ?_
    have l2 := putF_len "ranks" (.ref p) (putF "things" (.int t) fs)
    have np : p ≠ x := fun e => by rw [e, upd_same] at hp; cases hp
    have gp2 : upd H2 x (.ins C dx (putF "ranks" (.ref p) (putF "things" (.int t) fs))) p = some (.tup (rk.map V.int)) := by rw [upd_ne np]; exact gp
    obtain ⟨z, hz⟩ := at_last (xs := rk.map V.int) (fun e => hn (List.map_eq_nil_iff.mp e))
    refine q_fldset (ev_op (ev_fld (ev_var rfl) upd_same cl (na _ (by decide)) (by rw [lk_put, if_pos rfl])) (ev_neg ev_c) (rv_ixT (st_of gp2) hz)) (ev_var rfl) upd_same cl (na _ (by decide)) (by omega) fun H3 e3 => ?_
    have l3 := putF_len "full" z (putF "ranks" (.ref p) (putF "things" (.int t) fs))
    refine s_fldset (ev_var rfl) (ev_var rfl) upd_same cl (na _ (by decide)) (by omega) fun H4 e4 => ?_
    have b1 : But x H (upd H1 x (.ins C dx (putF "things" (.int t) fs))) := (But.of e1).upd
    have b2 := (b1.trans (But.of e2)).upd (o := .ins C dx (putF "ranks" (.ref p) (putF "things" (.int t) fs)))
    have b3 := (b2.trans (But.of e3)).upd (o := .ins C dx (putF "full" z (putF "ranks" (.ref p) (putF "things" (.int t) fs))))
    have b4 := (b3.trans (But.of e4)).upd (o := .ins C dx (putF "nodes" (.int n) (putF "full" z (putF "ranks" (.ref p) (putF "things" (.int t) fs)))))
    refine h p z _ ?_ b4 ?_ upd_same
    · cases e : H p with
      | none => rfl
      | some u => rw [b1 p u np e] at hp; cases hp
    · have g3 : upd H3 x (.ins C dx (putF "full" z (putF "ranks" (.ref p) (putF "things" (.int t) fs)))) p = some (.tup (rk.map V.int)) := by rw [upd_ne np]; exact e3 p _ gp2
      rw [upd_ne np]
      exact e4 p _ g3
def spFamE (K : PySem.W.Frag) (c : Ad) : Sp := fun vs H Q E => ∃ (a b : Addr) (t u : Int) (rk sk : List Int), vs = [.ref a, .ref b] ∧ FamAt K c H a t rk ∧ FamAt K c H b u sk ∧ RetV (.bl (decide (t = u) && decide (rk = sk))) H Q
theorem dint (i j : Int) : decide (V.int i = V.int j) = decide (i = j) := by
  by_cases h : i = j
  · rw [h]; simp
  · rw [decide_eq_false h, decide_eq_false (fun e => h (V.int.inj e))]
theorem eqv_tints (rk sk : List Int) : PyData.eqv (.tuple (rk.map PyData.int)) (.tuple (sk.map PyData.int)) = decide (rk = sk) := by
  rw [show PyData.eqv (.tuple (rk.map PyData.int)) (.tuple (sk.map PyData.int)) = PyData.eqvAll (rk.map PyData.int) (sk.map PyData.int) by rw [PyData.eqv], eqv_ints]
theorem ok_Family_eq (T : Tx P w K mg base c) {fL : Addr} {fdL : FuncData} (D : Fun K "__eq__" "Family.__eq__" s_Family_eq fL fdL) : FnOk P w K mg base (L2.CX P w) 3 fL fdL ["self", "other"] (spFamE K c) := by
  refine D.okX sc_Family_eq (fun vs H Q E h => ?len) (fun cdv A outer s H vs Q E hr h => ?body)
  case len =>
    obtain ⟨_, _, _, _, _, _, rfl, _, _, _⟩ := h
    rfl
  case body =>
    have tk : Takes (cxOf (L2.CX P w) P w K mg base ["self", "other"] "Family.__eq__" (defScope s_Family_eq) fL cdv A outer s H E) (fun cls d _ H => E cls d H) := takes_of rfl rfl rfl rfl
    obtain ⟨a, b, t, u, rk, sk, rfl, hA, hB, h⟩ := h
    refine ⟨_, (pss_one (ps_ret (pe_and (pe_callB call_isi (by rfl) T.z_isinstance (by decide +kernel) (pa_cons (pv 1) (pa_cons (pe_glob (v := .ref c.KF) rfl T.e_Family.g rfl) pa_nil))) (pe_and (pe_cmpR op_eq (pe_fld (pv 0) rfl) (pe_fld (pv 1) rfl) (nomark _)) (pe_one (pe_cmpR (op_eqD hr.units) (pe_fld (pv 0) rfl) (pe_fld (pv 1) rfl) (nomark _))))))), ?_⟩
    obtain ⟨C, dx, tr, fs, hC, ga, gt, gr, hr1⟩ := hA
    obtain ⟨D2, dy, ts, gs, hD, gb, ht, hs, hr2⟩ := hB
    obtain ⟨clC, naC⟩ := nCG T hC
    obtain ⟨clD, naD⟩ := nCG T hD
    have hk : PySem.W.kitOne K (.ref D2) (.ref c.KF) = some true := hD.elim (fun z => by rw [z]; exact T.kCF) (fun z => by rw [z]; exact T.kGF)
    have hD4 : D2 = c.KC ∨ D2 = c.KG ∨ D2 = c.KW ∨ D2 = c.KB := hD.elim .inl fun z => .inr (.inl z)
    refine s_ret (ev_is (ev_andV (a := true) (b := decide (t = u) && decide (rk = sk)) (ev_isi (ea_cons (ev_var rfl) (ea_cons ev_c ea_nil)) (.own c.KF) (fun H1 e1 => tyx_i T hD4 (e1 b _ gb)) hk) fun _ => ?_) (by simp)) fun H1 e1 => h H1 e1
    rw [← dint]
    refine ev_andV (ev_op (ev_fld (ev_var rfl) ga clC (naC _ (by decide)) gt) (ev_fld (ev_var rfl) gb clD (naD _ (by decide)) ht) (rv_eq rfl)) fun _ => ?_
    exact ev_op (ev_fld (ev_var rfl) ga clC (naC _ (by decide)) gr) (ev_fld (ev_var rfl) gb clD (naD _ (by decide)) hs) (rv_eqD (.tup hr1 (dp_ints rk)) (.tup hr2 (dp_ints sk)) (shaped_t rk) (shaped_t sk) (eqv_tints rk sk))
theorem s_pln {C : Addr} {sp : Sp} {E : L2.St → XK} {t : TA} {D : Ends} {σ : L2.St} {H : Hp} (h : t σ H fun vs H2 => sp vs H2 (fun _ H' => D.nx σ H') (E σ)) : tDrop (tStaS C sp E (tC (.ref C)) t) D σ H := ⟨rfl, h⟩
/-- x is made a family -/
def FamMade (C x dx : Addr) (t : Int) (rk : List Int) (H H1 : Hp) : Prop := But x H H1 ∧ ∃ (tr : Addr) (fs : List (Str × V)), H1 x = some (.ins C dx fs) ∧ fs.lookup ("things" : Str) = some (.int t) ∧ fs.lookup ("ranks" : Str) = some (.ref tr) ∧ H tr = none ∧ H1 tr = some (.tup (rk.map V.int))
def spChI (c : Ad) : Sp := fun vs H Q E => ∃ (x dx : Addr) (t s : Nat), vs = [.ref x, .int (t : Nat), .int (s : Nat)] ∧ t ≤ 6 ∧ s ≤ t ∧ H x = some (.ins c.KC dx []) ∧ ∀ H1, FamMade c.KC x dx (t : Nat) (rkT t s) H H1 → Q .non H1
theorem ok_Choice_init (T : Tx P w K mg base c) (h_look_number : Has P w K mg base 3 "look_number" ["number", "least", "most"] (spLookNumber c)) (h_look_things : Has P w K mg base 4 "look_things" ["things"] (spLookThings)) (h_sizes_of_masks : Has P w K mg base 4 "sizes_of_masks" ["things"] (spSizes)) (h_FI : HasP P w K mg base 3 c.KF "__init__" ["self", "things", "ranks", "nodes"] (spFamI K c)) {fL : Addr} {fdL : FuncData} (D : Fun K "__init__" "Choice.__init__" s_Choice_init fL fdL) : FnOk P w K mg base (L2.CX P w) 8 fL fdL ["self", "things", "take"] (spChI c) := by
  refine D.okX sc_Choice_init (fun vs H Q E h => ?len) (fun cdv A outer s H vs Q E hr h => ?body)
  case len =>
    obtain ⟨_, _, _, _, rfl, _, _, _, _⟩ := h
    rfl
  case body =>
    have tk : Takes (cxOf (L2.CX P w) P w K mg base ["self", "things", "take", "size"] "Choice.__init__" (defScope s_Choice_init) fL cdv A outer s H E) (fun cls d _ H => E cls d H) := takes_of rfl rfl rfl rfl
    obtain ⟨x, dx, t, s, rfl, ht, hs, hx, h⟩ := h
    refine ⟨_, (pss_cons (ps_expr (pe_hasR h_look_things (hr.mono (by decide)) tk (pa_cons (pv 1) pa_nil)))
      (pss_cons (ps_expr (pe_hasR h_look_number (hr.mono (by decide)) tk (pa_cons (pv 2) (pa_cons pe_int (pa_cons (pe_cst T.c__MOST) pa_nil)))))
      (pss_cons (ps_if (pt_cmpR op_gt (pv 2) (pv 1) (nomark _)) (pss_one (ps_err1 rfl T.e_NumberError (hr.mono (by decide)) tk (pa_cons (pv 2) pa_nil))) pss_nil)
      (pss_cons (ps_fld (pv 0) (pv 2) rfl)
      (pss_one (ps_expr (pe_plnR (pe_glob (v := .ref c.KF) rfl T.e_Family.g rfl) h_FI (hr.mono (by decide)) tk (pa_cons (pv 0) (pa_cons (pv 1) (pa_cons (pe_lc (own := [("size", 3)]) rfl sc_Choice_init.nd (pi_list (pe_hasN h_sizes_of_masks (hr.mono (by decide)) (pa_cons (pv 1) pa_nil))) (blkOk_by (own := [("size", 3)]) (N := ["self", "things", "take", "size"]) (sc := defScope s_Choice_init) (by decide +kernel)) (fun _ _ _ _ _ => (pg_name (i := 3) sc_Choice_init.nd rfl (.inl rfl))) (fun _ _ _ _ _ => pts_nil) (fun _ _ _ _ _ => (pe_callB (call_min2 rfl) (by rfl) T.z_min (by decide +kernel) (pa_cons (pv 3) (pa_cons (pv 2) pa_nil))))) (pa_cons pe_int pa_nil))))))))))), ?_⟩
    refine q_lookT (n := (t : Int)) (ea_cons (ev_var rfl) ea_nil) ⟨by omega, by omega⟩ fun H1 e1 => ?_
    refine q_lookN (z := (s : Int)) (lo := 0) (hi := 10) (ea_cons (ev_var rfl) (ea_cons ev_c (ea_cons ev_c ea_nil))) ⟨by omega, by omega⟩ fun H2 e2 => ?_
    refine q_when (b := false) (et_is (et_test (ev_op (ev_var rfl) (ev_var rfl) rv_I0)) (decide_eq_false (by omega))) (fun hb => Bool.noConfusion hb) (fun _ H3 e3 => ?_)
    have hx3 := ((e1.trans e2).trans e3) x _ hx
    refine q_fldset (ev_var rfl) (ev_var rfl) hx3 T.cC (T.nC _ (by decide)) (by show 0 < 1000; decide) fun H4 e4 => ?_
    have hcomp := el_lcNL (K := K) (σ := [some (.ref x), some (.int (t : Nat)), some (.int (s : Nat)), none]) (H := upd H4 x (.ins c.KC dx [("take", .int (s : Nat))])) (tl := tCallS spSizes (fun _ => E0) (tCons (tVar 1) tNil)) (j := 3) (vs := [3]) (t := tYes) (te := tCB (fun xs H Q => ∃ i j, xs = [.int i, .int j] ∧ Q (.int (if j < i then j else i)) H) (tCons (tVar 3) (tCons (tVar 2) tNil)))
      (fun _ => true) (fun k => V.int (if (s : Int) < (szs t).getD k 0 then (s : Int) else (szs t).getD k 0)) (el_callS (ea_cons (ev_var rfl) ea_nil) fun H5 e5 Q' E' q' => ⟨t, rfl, by omega, q'⟩) (by rw [List.length_map, szs_len]; exact Nat.le_trans (pow64 ht) (by decide)) (by intro x; rfl)
      (fun k x H5 e5 hx => fun H6 e6 Q q => q H6 (Ex.refl H6))
      (fun k x H5 e5 hx _ => by
        obtain ⟨rfl, hk⟩ := at_ints hx
        exact ev_min2 (ev_var rfl) (ev_var rfl))
    have eg := given_map (szs t) (fun z => if (s : Int) < z then (s : Int) else z)
    rw [List.length_map, eg] at hcomp
    refine s_pln ?_
    refine ⟨_, rfl, _, rfl, hcomp _ (Ex.refl _) _ fun p H9 hp e59 g8 => ?_⟩
    refine ⟨x, c.KC, dx, p, [("take", .int (s : Nat))], (t : Nat), 1, rkT t s, rfl, .inl rfl, e59 x _ upd_same, by show 1 ≤ 10; decide, (fun e => by have z := e59 x _ upd_same; rw [← e, g8] at z; cases z), sq_of g8, ?_, fun tr z H10 htr b gtr gx => h H10 ⟨?_, tr, _, gx, famFs_t, famFs_r, ?_, gtr⟩⟩
    · intro e
      have l := rkT_len t s
      rw [e] at l
      have : 0 < 2 ^ t := Nat.pow_pos (by decide)
      simp at l
      omega
    · exact ((But.of (((e1.trans e2).trans e3).trans e4)).upd.trans (But.of e59)).trans b
    · have hb : But x H H9 := (But.of (((e1.trans e2).trans e3).trans e4)).upd.trans (But.of e59)
      cases e : H tr with
      | none => rfl
      | some u =>
        by_cases hxt : tr = x
        · rw [hxt] at htr
          rw [e59 x _ upd_same] at htr
          cases htr
        · rw [hb tr u hxt e] at htr
          cases htr
end
end K4
namespace K4
open PySem PySem.Spec PyProof.Rows L2 Evl Nd
local macro_rules | `(tactic| walk_at "ev") => `(tactic| first
  | exact ev_var rfl
  | exact ev_c
  | (apply ev_op; (walk_at "ev"); (walk_at "ev"); (walk_at "rv"))
  | (apply ev_un; (walk_at "ev"); (walk_at "rv"))
  | (apply ev_lenS; (walk_at "ev"); (walk_at "sq"))
  | (apply ev_andV; (walk_at "ev"); (intro _; walk_at "ev"))
  | (apply ev_orV; (walk_at "ev"); (intro _; walk_at "ev"))
  | (apply ev_notV; (walk_at "ev")))
local macro_rules | `(tactic| walk_at "rv") => `(tactic| first
  | exact rv_I0
  | exact ru_neg
  | exact rv_eq rfl
  | exact rv_ne rfl
  | exact rv_I (by decide)
  | exact rv_I (by first | omega | exact .inl (by omega) | exact .inr (by omega) | (constructor <;> omega)))
local macro_rules | `(tactic| walk_at "sq") => `(tactic| first
  | assumption
  | exact SqS.lst (by assumption)
  | exact SqS.tup (by assumption)
  | exact Or.inl (by assumption)
  | exact Or.inr (by assumption)
  | (refine SqS.mono (by assumption) ?_; walk_at "sq"))
local macro_rules | `(tactic| walk_at "et") => `(tactic| first
  | (apply et_or; (walk_at "et"); (intro _; walk_at "et"))
  | (apply et_and; (walk_at "et"); (intro _; walk_at "et"))
  | (apply et_not; (walk_at "et"))
  | (apply et_test; (walk_at "ev"))
  | (apply et_B; (walk_at "ev")))
local macro_rules | `(tactic| walk_at "ea") => `(tactic| first
  | exact ea_nil
  | (apply ea_cons; (walk_at "ev"); (walk_at "ea")))
section
variable {P : Program} {w : World} {K : PySem.W.Frag} {mg : Str → Option Value} {base : Heap} {c : Ad}
theorem tup2 {t1 t2 : TE} {σ : L2.St} {H : Hp} {Q : VK} (h : t1 σ H fun x H1 => t2 σ H1 fun y H2 => 2 ≤ sizeLine ∧ ∀ p, H2 p = none → Q (.ref p) (upd H2 p (.tup [x, y]))) : tTup (tCons t1 (tCons t2 tNil)) σ H Q := h
theorem s_retLcT {σ : L2.St} {H : Hp} {ta : TA} {g : TG} {tt : TT} {te : TE} {vs : List Nat} {D : Ends} {a : Addr} {xs : List V} (ha : EvA ta σ H [.ref a]) (hT : SqT K H a xs)
    (k : ∀ H2, Ex H H2 → ∀ Dl, H2 Dl = none → ∃ W : Nat → Nat → Hp → Prop, (∃ m, W 0 m (upd H2 Dl (.lst []))) ∧ ∀ i m H, W i m H →
      ((IteT K a).stop i H ∧ D.rt (.ref Dl) H) ∨ ((IteT K a).go i H ∧ ∃ Nx : Hp → Prop, (∀ H', Nx H' → ∃ m', m' < m ∧ W (i + 1) m' H') ∧ ∀ x H', (IteT K a).yld i H x H' → g x (wipe σ vs) H' fun σ2 H2 => wipe σ2 vs = wipe σ vs ∧ tt σ2 H2 fun b H3 =>
        if b = true then te σ2 H3 fun y H4 => ∃ acc, H4 Dl = some (.lst acc) ∧ acc.length < sizeLine ∧ Nx (upd H4 Dl (.lst (acc ++ [y]))) else Nx H3)) : tRet (tLc (iEnumS K ta) g tt te vs) D σ H :=
  ha H (Ex.refl H) _ fun H2 e2 => ⟨a, xs, rfl, .inr ⟨ex_t e2 hT, fun Dl hD => k H2 e2 Dl hD⟩⟩
def spRooms (K : PySem.W.Frag) (c : Ad) : Sp := fun vs H Q E => ∃ (x dx tg tt : Addr) (fs : List (Str × V)) (t s : Nat), vs = [.ref x] ∧ H x = some (.ins c.KG dx fs) ∧ fs.lookup ("groups" : Str) = some (.ref tg) ∧ fs.lookup ("takes" : Str) = some (.ref tt) ∧ SqT K H tg ((List.replicate t (0 : Int)).map V.int) ∧ SqT K H tt [.int (s : Nat)] ∧ t ≤ 6 ∧
  ∀ a b l H1, H a = none → Ex H H1 → H1 a = some (.lst [.ref b]) → H1 b = some (.tup [.ref l, .int (s : Nat)]) → H1 l = some (.lst ((List.range t).map fun i => V.int (i : Nat))) → Q (.ref a) H1
theorem ok_Groups_rooms (T : Tx P w K mg base c) {fL : Addr} {fdL : FuncData} (D : Fun K "_rooms" "Groups._rooms" s_Groups_rooms fL fdL) : FnOk P w K mg base (L2.CX P w) 3 fL fdL ["self"] (spRooms K c) := by
  refine D.okX sc_Groups_rooms (fun vs H Q E h => ?len) (fun cdv A outer s H vs Q E hr h => ?body)
  case len =>
    obtain ⟨_, _, _, _, _, _, _, rfl, _, _, _, _, _, _, _⟩ := h
    rfl
  case body =>
    have tk : Takes (cxOf (L2.CX P w) P w K mg base ["self", "many", "group", "take", "thing"] "Groups._rooms" (defScope s_Groups_rooms) fL cdv A outer s H E) (fun cls d _ H => E cls d H) := takes_of rfl rfl rfl rfl
    obtain ⟨x, dx, tg, tt, fs, t, s, rfl, hx, hg, hk, hG, hT, ht, h⟩ := h
    refine ⟨_, (pss_cons (ps_set (i := 1) sc_Groups_rooms.nd rfl (.inr rfl) (pe_callB call_len_seq (by rfl) T.z_len (by decide +kernel) (pa_cons (pe_fld (pv 0) rfl) pa_nil)))
      (pss_one (ps_ret (pe_lc (own := [("group", 2), ("take", 3)]) rfl sc_Groups_rooms.nd (pi_enumS (by rfl) T.z_enumerate (pa_cons (pe_fld (pv 0) rfl) pa_nil)) (blkOk_by (own := [("group", 2), ("take", 3)]) (N := ["self", "many", "group", "take", "thing"]) (sc := defScope s_Groups_rooms) (by decide +kernel)) (fun _ _ _ _ _ => (pg_tupK K (n := 2) (by rfl) (pgs_cons (pg_name (i := 2) sc_Groups_rooms.nd rfl (.inr rfl)) (pgs_cons (pg_name (i := 3) sc_Groups_rooms.nd rfl (.inl rfl)) pgs_nil)))) (fun _ _ _ _ _ => pts_nil) (fun _ _ _ _ _ => (pe_tup (pa_cons (pe_lc (own := [("thing", 4)]) rfl sc_Groups_rooms.nd (pi_range1 rfl T.z_range (pa_cons (pv 1) pa_nil)) (blkOk_by (own := [("thing", 4)]) (N := ["self", "many", "group", "take", "thing"]) (sc := relS _ (defScope s_Groups_rooms)) (by decide +kernel)) (fun _ _ _ _ _ => (pg_name (i := 4) sc_Groups_rooms.nd rfl (.inl rfl))) (fun _ _ _ _ _ => pts_one (pt_cmpR op_eq (pe_ix (ix_tupK K) (pe_fldK K (pv 0)) (pv 4) (fun _ _ => rfl)) (pv 2) (nomark _))) (fun _ _ _ _ _ => (pv 4))) (pa_cons (pv 3) pa_nil)))))))), ?_⟩
    have lenG : ((List.replicate t (0 : Int)).map V.int).length = t := by rw [List.length_map, List.length_replicate]
    refine q_asg (ev_lenS (ev_fld (ev_var rfl) hx T.cG (T.nG _ (by decide)) hg) (.inr hG)) fun H1 e1 => ?_
    rw [lenG]
    have hx1 := e1 x _ hx
    have ha : EvA (tCons (tFld K (tVar 0) "takes") tNil) [some (.ref x), some (.int (t : Nat)), none, none, none] H1 [.ref tt] := ea_cons (ev_fld (ev_var rfl) hx1 T.cG (T.nG _ (by decide)) hk) ea_nil
    refine s_retLcT (a := tt) (xs := [.int (s : Nat)]) ha (ex_t e1 hT) fun H2 e2 Dl hD => ?_
    have x12 := e1.trans e2
    refine lc_en (K := K) (a := tt) (xs := [.int (s : Nat)]) (σ := [some (.ref x), some (.int (t : Nat)), none, none, none]) (H := H) (j := 2) (k := 3) (vs := [2, 3]) (IteT K tt) (.inr ⟨rfl, fun H' e => ex_t e hT⟩)
      (fun i H' => Ex H2 H' ∧ ((i = 0 ∧ H' Dl = some (.lst [])) ∨ (i = 1 ∧ ∃ b l, H' Dl = some (.lst [.ref b]) ∧ H' b = some (.tup [.ref l, .int (s : Nat)]) ∧ H' l = some (.lst ((List.range t).map fun i => V.int (i : Nat))))))
      ⟨Ex.new hD, .inl ⟨rfl, upd_same⟩⟩ (fun i H' _ p => x12.trans p.1) (fun i H' H'' e p => ⟨p.1.trans e, ?_⟩) (fun i v => rfl) (fun i v H' hv p => ?_) (fun H' p => ?_)
    · rcases p.2 with ⟨h1, h2⟩ | ⟨h1, b, l, h2, h3, h4⟩
      · exact .inl ⟨h1, e _ _ h2⟩
      · exact .inr ⟨h1, b, l, e _ _ h2, e _ _ h3, e _ _ h4⟩
    · have hi : i = 0 := by
        have := (List.getElem?_eq_some_iff.mp hv).1
        simpa using this
      subst hi
      obtain rfl : V.int (s : Nat) = v := by simpa using hv
      obtain ⟨x2, p⟩ := p
      have hDl : H' Dl = some (.lst []) := by
        rcases p with ⟨_, g⟩ | ⟨z, _⟩
        · exact g
        · cases z
      have inner := el_lcR1 (σ := [some (.ref x), some (.int (t : Nat)), some (.int ((0 : Nat) : Int)), some (.int (s : Nat)), none]) (H := H') (ta := tCons (tVar 1) tNil) (j := 4) (vs := [4]) (n := (t : Int))
        (t := tTest (tOp rEq (tOp (rIxT K) (tFld K (tVar 0) "groups") (tVar 4)) (tVar 2))) (te := tVar 4) (fun _ => true) (fun i => V.int (i : Nat)) (ea_cons (ev_var rfl) ea_nil) (by omega) (by intro x; rfl)
        (fun i H3 e3 hi => by
          have hi' : i < t := by omega
          have g3 := ((x12.trans x2).trans e3) x _ hx
          have hat : atI ((List.replicate t (0 : Int)).map V.int) (i : Int) = some (.int 0) := by
            rw [at_int (by rw [List.length_replicate]; exact hi'), List.getD_eq_getElem?_getD, List.getElem?_replicate, if_pos hi']
            rfl
          exact et_is (et_test (ev_op (ev_op (ev_fld (ev_var rfl) g3 T.cG (T.nG _ (by decide)) hg) (ev_var rfl) (rv_ixT (ex_t ((x12.trans x2).trans e3) hG) hat)) (ev_var rfl) (rv_eq rfl))) (by decide))
        (fun i H3 e3 hi _ => ev_var rfl)
      rw [Int.toNat_natCast] at inner
      have eg : given t (fun _ => true) (fun i => V.int (i : Nat)) = (List.range t).map fun i => V.int (i : Nat) := by
        unfold given
        rw [List.filter_eq_self.mpr (fun _ _ => rfl)]
      rw [eg] at inner
      refine yes_go ?_
      rw [if_pos rfl]
      refine tup2 ?_
      refine inner H' (Ex.refl H') _ fun l H3 hl e3 g3 => ⟨_, rfl, by decide, fun b hb => ⟨[], ?_, by decide, ?_⟩⟩
      · rw [upd_ne (fun e => by rw [← e, e3 _ _ hDl] at hb; cases hb)]
        exact e3 _ _ hDl
      · have nl : l ≠ Dl := fun e => by rw [e, hDl] at hl; cases hl
        have nb : b ≠ Dl := fun e => by rw [e, e3 _ _ hDl] at hb; cases hb
        have nlb : l ≠ b := fun e => by rw [← e, g3] at hb; cases hb
        refine ⟨((x2.trans e3).trans (Ex.new hb)).mut hD, .inr ⟨rfl, b, l, upd_same, ?_, ?_⟩⟩
        · rw [upd_ne nb, upd_same]
        · rw [upd_ne nl, upd_ne nlb]; exact g3
    · obtain ⟨x2, p⟩ := p
      rcases p with ⟨z, _⟩ | ⟨_, b, l, h1, h2, h3⟩
      · cases z
      · exact h Dl b l H' (fresh_back x12 hD) (x12.trans x2) h1 h2 h3
theorem q_fldsetF {σ : L2.St} {H : Hp} {te ta : TE} {tz : TS} {D : Ends} {C a dx : Addr} {fs : List (Str × V)} {f : Str} {xs : List V} (hv : EvF te σ H xs) (ho : Ev ta σ H (.ref a)) (g : H a = some (.ins C dx fs)) (cl : Cls K C) (n : NoAttr K C f) (l : fs.length < 1000)
    (k : ∀ p o H1, H p = none → Ex H H1 → H1 p = some (.frz o (.tup xs)) → o.dict = none → tz D σ (upd H1 a (.ins C dx (putF f (.ref p) fs)))) : tSeq (sFld K ta te f) tz D σ H :=
  hv H (Ex.refl H) _ fun p o H1 hp e1 gp ho' => ho H1 e1 _ fun H2 e2 => ⟨a, C, dx, fs, rfl, (e1.trans e2) a _ g, cl, n, l, k p o H2 hp (e1.trans e2) (e2 p _ gp) ho'⟩
def spGrI (K : PySem.W.Frag) (c : Ad) : Sp := fun vs H Q E => ∃ (x dx g k : Addr) (t s : Nat), vs = [.ref x, .ref g, .ref k] ∧ t ≤ 6 ∧ s ≤ t ∧ H x = some (.ins c.KG dx []) ∧ g ≠ x ∧ k ≠ x ∧ SqL K H g ((List.replicate t (0 : Int)).map V.int) ∧ SqL K H k ([(s : Int)].map V.int) ∧ ∀ H1, FamMade c.KG x dx (t : Nat) (rkT t s) H H1 → Q .non H1
theorem ok_Groups_init (T : Tx P w K mg base c) (h_look_numbers : Has P w K mg base 4 "look_numbers" ["numbers", "least", "most"] (spLookNums K)) (h_look_size : Has P w K mg base 3 "look_size" ["count", "least", "most"] (spLookSize c)) (h_ranks_under_rooms : Has P w K mg base 8 "ranks_under_rooms" ["things", "rooms"] (spUnder K)) (h_FI : HasP P w K mg base 3 c.KF "__init__" ["self", "things", "ranks", "nodes"] (spFamI K c)) (h_Groups_rooms : HasM P w K mg base 3 c.KG "_rooms" ["self"] (spRooms K c)) {fL : Addr} {fdL : FuncData} (D : Fun K "__init__" "Groups.__init__" s_Groups_init fL fdL) : FnOk P w K mg base (L2.CX P w) 12 fL fdL ["self", "groups", "takes"] (spGrI K c) := by
  refine D.okX sc_Groups_init (fun vs H Q E h => ?len) (fun cdv A outer s H vs Q E hr h => ?body)
  case len =>
    obtain ⟨_, _, _, _, _, _, rfl, _, _, _, _, _, _, _, _⟩ := h
    rfl
  case body =>
    have tk : Takes (cxOf (L2.CX P w) P w K mg base ["self", "groups", "takes", "group", "take", "things"] "Groups.__init__" (defScope s_Groups_init) fL cdv A outer s H E) (fun cls d _ H => E cls d H) := takes_of rfl rfl rfl rfl
    obtain ⟨x, dx, g, k, t, s, rfl, ht, hs, hx, ng, nk, hG, hK, h⟩ := h
    refine ⟨_, (pss_cons (ps_expr (pe_hasR h_look_size (hr.mono (by decide)) tk (pa_cons (pe_callB call_len_seq (by rfl) T.z_len (by decide +kernel) (pa_cons (pv 1) pa_nil)) (pa_cons pe_int (pa_cons (pe_cst T.c__MOST) pa_nil)))))
      (pss_cons (ps_expr (pe_hasR h_look_numbers (hr.mono (by decide)) tk (pa_cons (pv 1) (pa_cons pe_int (pa_cons (pe_op op_sub (pe_cst T.c__MOST) pe_int) pa_nil)))))
      (pss_cons (ps_expr (pe_hasR h_look_size (hr.mono (by decide)) tk (pa_cons (pe_callB call_len_seq (by rfl) T.z_len (by decide +kernel) (pa_cons (pv 2) pa_nil)) (pa_cons pe_int (pa_cons (pe_cst T.c__MOST) pa_nil)))))
      (pss_cons (ps_expr (pe_hasR h_look_numbers (hr.mono (by decide)) tk (pa_cons (pv 2) (pa_cons pe_int (pa_cons (pe_cst T.c__MOST) pa_nil)))))
      (pss_cons (ps_for (passes_of rfl) rfl (pi_list (pv 1)) (pg_name (i := 3) sc_Groups_init.nd rfl (.inl rfl)) (pss_one (ps_if (pt_cmpR op_ge (pv 3) (pe_callB call_len_seq (by rfl) T.z_len (by decide +kernel) (pa_cons (pv 2) pa_nil)) (nomark _)) (pss_one (ps_err1 rfl T.e_NumberError (hr.mono (by decide)) tk (pa_cons (pv 3) pa_nil))) pss_nil)))
      (pss_cons (ps_fld (pv 0) (pe_tupleF (by rfl) T.z_tuple (pv 1)) rfl)
      (pss_cons (ps_fld (pv 0) (pe_callTy call_tuple_of (by rfl) T.z_tuple (by decide +kernel) (pa_cons (pv 2) pa_nil)) rfl)
      (pss_cons (ps_for (passes_of rfl) rfl (pi_enumS (by rfl) T.z_enumerate (pa_cons (pe_fld (pv 0) rfl) pa_nil)) (pg_tup (by rfl) (pgs_cons (pg_name (i := 3) sc_Groups_init.nd rfl (.inl rfl)) (pgs_cons (pg_name (i := 4) sc_Groups_init.nd rfl (.inl rfl)) pgs_nil))) (pss_one (ps_if (pt_cmpR op_gt (pv 4) (pe_bmF PySem.F.plainAttrs_tuple PySem.F.slot_tuple_count PySem.F.type_tuple_count mt_tcount (pe_fld (pv 0) rfl) (pa_cons (pv 3) pa_nil)) (nomark _)) (pss_one (ps_err1 rfl T.e_NumberError (hr.mono (by decide)) tk (pa_cons (pv 4) pa_nil))) pss_nil)))
      (pss_cons (ps_set (i := 5) sc_Groups_init.nd rfl (.inl rfl) (pe_callB call_len_seq (by rfl) T.z_len (by decide +kernel) (pa_cons (pe_fld (pv 0) rfl) pa_nil)))
      (pss_one (ps_expr (pe_plnR (pe_glob (v := .ref c.KF) rfl T.e_Family.g rfl) h_FI (hr.mono (by decide)) tk (pa_cons (pv 0) (pa_cons (pv 5) (pa_cons (pe_hasN h_ranks_under_rooms (hr.mono (by decide)) (pa_cons (pv 5) (pa_cons (pe_metR0 (pv 0) T.cG h_Groups_rooms (hr.mono (by decide)) tk) pa_nil))) (pa_cons pe_int pa_nil)))))))))))))))), ?_⟩
    have lenG : ((List.replicate t (0 : Int)).map V.int).length = t := by rw [List.length_map, List.length_replicate]
    refine q_lookZ (z := (t : Int)) (lo := 0) (hi := 10) (ea_cons (ev_is (ev_lenS (ev_var rfl) (.inl hG)) (by rw [lenG])) (ea_cons ev_c (ea_cons ev_c ea_nil))) ⟨by omega, by omega⟩ fun H1 e1 => ?_
    refine q_looks (a := g) (ns := List.replicate t 0) (lo := 0) (hi := 9) (ea_cons (ev_var rfl) (ea_cons ev_c (ea_cons (ev_op ev_c ev_c rv_I0) ea_nil))) (.inl (ex_l e1 hG)) (fun z hz => by rw [(List.mem_replicate.mp hz).2]; decide) fun H2 e2 => ?_
    refine q_lookZ (z := 1) (lo := 0) (hi := 10) (ea_cons (ev_is (ev_lenS (ev_var rfl) (.inl (ex_l (e1.trans e2) hK))) rfl) (ea_cons ev_c (ea_cons ev_c ea_nil))) ⟨by omega, by omega⟩ fun H3 e3 => ?_
    refine q_looks (a := k) (ns := [(s : Int)]) (lo := 0) (hi := 10) (ea_cons (ev_var rfl) (ea_cons ev_c (ea_cons ev_c ea_nil))) (.inl (ex_l ((e1.trans e2).trans e3) hK)) (fun z hz => by rw [List.mem_singleton.mp hz]; omega) fun H4 e4 => ?_
    have e14 := ((e1.trans e2).trans e3).trans e4
    refine q_forLn (a := g) (ev_var rfl) (ex_l e14 hG) (fun i σ' H' => ∃ v3, σ' = [some (.ref x), some (.ref g), some (.ref k), v3, none, none] ∧ Ex H H') (fun H5 e5 => ⟨none, rfl, e14.trans e5⟩) (fun i σ' H' _ q => by obtain ⟨_, _, e⟩ := q; exact ex_l e hG) ?turn ?fin
    case turn =>
      rintro i v σ' H5 hv ⟨v3, rfl, x5⟩
      obtain ⟨rfl, hi⟩ := at_ints hv
      have hz : (List.replicate t (0 : Int)).getD i 0 = 0 := by
        rw [List.getD_eq_getElem?_getD, List.getElem?_replicate]
        split <;> rfl
      rw [hz]
      exact s_when (b := false) (et_is (et_test (ev_op (ev_var rfl) (ev_is (ev_lenS (ev_var rfl) (.inl (ex_l x5 hK))) rfl) rv_I0)) (by show decide ((0 : Int) ≥ 1) = false; decide)) (fun hb => Bool.noConfusion hb) (fun _ H6 e6 => ⟨_, rfl, x5.trans e6⟩)
    case fin =>
      rintro σ' H5 ⟨v3, rfl, x5⟩
      have hx5 := x5 x _ hx
      refine q_fldsetF (ef_tuple (ev_var rfl) (ex_l x5 hG)) (ev_var rfl) hx5 T.cG (T.nG _ (by decide)) (by show 0 < 1000; decide) fun tg og H6 htg e6 gtg dog => ?_
      have ntg : tg ≠ x := fun e => by rw [e, hx5] at htg; cases htg
      refine q_fldsetU (eu_tuple (ev_var rfl) (sql_upd nk (ex_l (x5.trans e6) hK))) (ev_var rfl) upd_same T.cG (T.nG _ (by decide)) (by show 1 < 1000; decide) fun tt H7 htt e7 gtt => ?_
      have ntt : tt ≠ x := fun e => by rw [e, upd_same] at htt; cases htt
      have gtg7 : H7 tg = some (.frz og (.tup ((List.replicate t (0 : Int)).map V.int))) := e7 tg _ (by rw [upd_ne ntg]; exact gtg)
      have X8 : ∀ {H'' : Hp}, Ex (upd H7 x (.ins c.KG dx [("groups", .ref tg), ("takes", .ref tt)])) H'' → H'' x = some (.ins c.KG dx [("groups", .ref tg), ("takes", .ref tt)]) ∧ H'' tg = some (.frz og (.tup ((List.replicate t (0 : Int)).map V.int))) ∧ H'' tt = some (.tup ([(s : Int)].map V.int)) := fun e => ⟨e x _ upd_same, e tg _ (by rw [upd_ne ntg]; exact gtg7), e tt _ (by rw [upd_ne ntt]; exact gtt)⟩
      have hb7 : But x H (upd H7 x (.ins c.KG dx [("groups", .ref tg), ("takes", .ref tt)])) := (((But.of (x5.trans e6)).upd).trans (But.of e7)).upd
      show tSeq _ _ _ _ (upd H7 x (.ins c.KG dx [("groups", .ref tg), ("takes", .ref tt)]))
      refine q_forEn (a := tt) (xs := [(s : Int)].map V.int) (ea_cons (ev_fld (ev_var rfl) upd_same T.cG (T.nG _ (by decide)) rfl) ea_nil) (.inr (st_of (X8 (Ex.refl _)).2.2)) (fun i σ' H' => ∃ v3 v4, σ' = [some (.ref x), some (.ref g), some (.ref k), v3, v4, none] ∧ Ex (upd H7 x (.ins c.KG dx [("groups", .ref tg), ("takes", .ref tt)])) H') (fun H8 e8 => ⟨_, _, rfl, e8⟩) (fun i σ' H' _ q => by obtain ⟨_, _, _, e⟩ := q; exact e) (fun i σ' H' H'' e q => by obtain ⟨v3, v4, h1, h2⟩ := q; exact ⟨v3, v4, h1, h2.trans e⟩) ?turn2 ?fin2
      case turn2 =>
        rintro i v σ' H8 hv ⟨v3, v4, rfl, x8⟩
        have hi : i = 0 := by
          have := (List.getElem?_eq_some_iff.mp hv).1
          simpa using this
        subst hi
        obtain rfl : V.int (s : Nat) = v := by simpa using hv
        obtain ⟨gx, g1, g2⟩ := X8 x8
        refine s_when (b := false) (et_is (et_test (ev_op (z := .bl (decide ((s : Int) > (t : Int)))) (ev_var rfl) (fun H9 e9 Q' q' => (ev_fld (ev_var rfl) gx T.cG (T.nG _ (by decide)) rfl) H9 e9 _ fun H10 e10 => ?_) rv_I0)) (decide_eq_false (by omega))) (fun hb => Bool.noConfusion hb) (fun _ H9 e9 => ⟨_, _, rfl, x8.trans e9⟩)
        refine ⟨⟨tg, og, _, rfl, (e9.trans e10) tg _ g1, dog⟩, ?_⟩
        have ha : EvA (tCons (tVar 3) tNil) [some (.ref x), some (.ref g), some (.ref k), some (.int ((0 : Nat) : Int)), some (.int (s : Nat)), none] H10 [.int ((0 : Nat) : Int)] := ea_cons (ev_var rfl) ea_nil
        refine ha H10 (Ex.refl H10) _ fun H11 e11 => ⟨tg, List.replicate t 0, 0, rfl, rfl, sf_of (((e9.trans e10).trans e11) tg _ g1), ?_⟩
        rw [List.count_replicate_self]
        exact q' H11 (e10.trans e11)
      case fin2 =>
        rintro σ' H8 ⟨v3, v4, rfl, x8⟩
        obtain ⟨gx, g1, g2⟩ := X8 x8
        refine q_asg (ev_is (ev_lenS (ev_fld (ev_var rfl) gx T.cG (T.nG _ (by decide)) rfl) (.inr (sf_of g1))) (by rw [lenG])) fun H9 e9 => ?_
        obtain ⟨gx9, g19, g29⟩ := X8 (x8.trans e9)
        refine s_pln ?_
        refine ⟨_, rfl, _, rfl, ⟨_, rfl, _, rfl, ⟨x, dx, [("groups", .ref tg), ("takes", .ref tt)], rfl, gx9, rfl, ⟨x, dx, tg, tt, [("groups", .ref tg), ("takes", .ref tt)], t, s, rfl, gx9, rfl, rfl, sf_of g19, st_of g29, ht, fun ra rb rl H10 hra e10 gra grb grl => ?_⟩⟩⟩⟩
        refine ⟨ra, rb, rl, t, s, rfl, ht, hs, sq_of gra, st_of grb, sq_of grl, fun p H11 hp e11 g11 => ?_⟩
        have e911 := e10.trans e11
        obtain ⟨gx11, _, _⟩ := X8 ((x8.trans e9).trans e911)
        have hb11 : But x H H11 := hb7.trans (But.of ((x8.trans e9).trans e911))
        refine ⟨x, c.KG, dx, p, [("groups", .ref tg), ("takes", .ref tt)], (t : Nat), 1, rkT t s, rfl, .inr rfl, gx11, by show 2 ≤ 10; decide, (fun e => by rw [e, gx11] at g11; cases g11), sq_of g11, ?_, fun tr z H12 htr b gtr gx12 => h H12 ⟨hb11.trans b, tr, _, gx12, famFs_t, famFs_r, ?_, gtr⟩⟩
        · intro e
          have l := rkT_len t s
          rw [e] at l
          have : 0 < 2 ^ t := Nat.pow_pos (by decide)
          simp at l
          omega
        · cases e : H tr with
          | none => rfl
          | some u =>
            by_cases hxt : tr = x
            · rw [hxt, gx11] at htr; cases htr
            · rw [hb11 tr u hxt e] at htr; cases htr
end
end K4
namespace K4
open PySem PySem.Spec PyProof.Rows L2 Evl Nd
local macro_rules | `(tactic| walk_at "ev") => `(tactic| first
  | exact ev_var rfl
  | exact ev_c
  | (apply ev_op; (walk_at "ev"); (walk_at "ev"); (walk_at "rv"))
  | (apply ev_un; (walk_at "ev"); (walk_at "rv"))
  | (apply ev_lenS; (walk_at "ev"); (walk_at "sq"))
  | (apply ev_andV; (walk_at "ev"); (intro _; walk_at "ev"))
  | (apply ev_orV; (walk_at "ev"); (intro _; walk_at "ev"))
  | (apply ev_notV; (walk_at "ev")))
local macro_rules | `(tactic| walk_at "rv") => `(tactic| first
  | exact rv_I0
  | exact ru_neg
  | exact rv_eq rfl
  | exact rv_ne rfl
  | exact rv_I (by decide)
  | exact rv_I (by first | omega | exact .inl (by omega) | exact .inr (by omega) | (constructor <;> omega)))
local macro_rules | `(tactic| walk_at "sq") => `(tactic| first
  | assumption
  | exact SqS.lst (by assumption)
  | exact SqS.tup (by assumption)
  | exact Or.inl (by assumption)
  | exact Or.inr (by assumption)
  | (refine SqS.mono (by assumption) ?_; walk_at "sq"))
local macro_rules | `(tactic| walk_at "et") => `(tactic| first
  | (apply et_or; (walk_at "et"); (intro _; walk_at "et"))
  | (apply et_and; (walk_at "et"); (intro _; walk_at "et"))
  | (apply et_not; (walk_at "et"))
  | (apply et_test; (walk_at "ev"))
  | (apply et_B; (walk_at "ev")))
local macro_rules | `(tactic| walk_at "ea") => `(tactic| first
  | exact ea_nil
  | (apply ea_cons; (walk_at "ev"); (walk_at "ea")))
section
variable {P : Program} {w : World} {K : PySem.W.Frag} {mg : Str → Option Value} {base : Heap} {c : Ad}
/-! ### wishes -/
theorem q_forUn {σ : L2.St} {H : Hp} {tl : TE} {tu tz : TS} {D : Ends} {xs : List V} {j : Nat} (h : EvU tl σ H xs) (Pv : Addr → Nat → L2.St → Hp → Prop) (h0 : ∀ p H1, H p = none → Ex H H1 → H1 p = some (.tup xs) → Pv p 0 σ H1) (hl : ∀ p i σ' H', i ≤ xs.length → Pv p i σ' H' → SqT K H' p xs)
    (hs : ∀ p i x σ' H', xs[i]? = some x → Pv p i σ' H' → tu { D with nx := Pv p (i + 1), ct := Pv p (i + 1), bk := tz D } (σ'.set j (some x)) H') (hd : ∀ p σ' H', Pv p xs.length σ' H' → tz D σ' H') : tSeq (tFor (iTup K tl) (gName j) tu) tz D σ H :=
  h H (Ex.refl H) _ fun p H1 hp e h1 => ⟨p, rfl, ⟨xs, st_of h1⟩, for_tup (D := { D with nx := tz D }) (Pv p) (h0 p H1 hp e h1) (hl p) (hs p) (hd p)⟩
def WishAt (K : PySem.W.Frag) (c : Ad) (H : Hp) (a : Addr) (r : Row) : Prop := ∃ (dx tw : Addr) (fs : List (Str × V)), H a = some (.ins c.KW dx fs) ∧ fs.lookup ("weights" : Str) = some (.ref tw) ∧ fs.lookup ("most" : Str) = some (optV r.top) ∧ fs.lookup ("least" : Str) = some (optV r.low) ∧ fs.lookup ("greatest" : Str) = some (.int (great r)) ∧ fs.lookup ("plain" : Str) = some (.bl (plain r)) ∧ H tw = some (.tup (r.ws.map V.int))
theorem WishAt.mono {H H' : Hp} {a : Addr} {r : Row} (e : Ex H H') : WishAt K c H a r → WishAt K c H' a r := fun ⟨dx, tw, fs, h1, h2, h3, h4, h5, h6, h7⟩ => ⟨dx, tw, fs, e a _ h1, h2, h3, h4, h5, h6, e tw _ h7⟩
theorem dp_opt {H : Hp} : ∀ o : Option Int, Dp K H (optV o) (optD o)
  | none => .non
  | some z => .int z
theorem shaped_opt : ∀ o : Option Int, SeqAt.shaped (optD o) = true
  | none => rfl
  | some z => rfl
theorem eqv_opt (a b : Option Int) : PyData.eqv (optD a) (optD b) = decide (a = b) := by
  cases a with
  | none => cases b with
    | none => rfl
    | some z => rfl
  | some z => cases b with
    | none => rfl
    | some y =>
      show PyData.eqv (.int z) (.int y) = _
      rw [Bool.eq_iff_iff]
      simp [PyData.eqv]
def spWiE (K : PySem.W.Frag) (c : Ad) : Sp := fun vs H Q E => ∃ (a b : Addr) (r s : Row), vs = [.ref a, .ref b] ∧ WishAt K c H a r ∧ WishAt K c H b s ∧ RetV (.bl (decide (r = s))) H Q
theorem ok_Wish_eq (T : Tx P w K mg base c) {fL : Addr} {fdL : FuncData} (D : Fun K "__eq__" "Wish.__eq__" s_Wish_eq fL fdL) : FnOk P w K mg base (L2.CX P w) 4 fL fdL ["self", "other"] (spWiE K c) := by
  refine D.okX sc_Wish_eq (fun vs H Q E h => ?len) (fun cdv A outer s H vs Q E hr h => ?body)
  case len =>
    obtain ⟨_, _, _, _, rfl, _, _, _⟩ := h
    rfl
  case body =>
    have tk : Takes (cxOf (L2.CX P w) P w K mg base ["self", "other"] "Wish.__eq__" (defScope s_Wish_eq) fL cdv A outer s H E) (fun cls d _ H => E cls d H) := takes_of rfl rfl rfl rfl
    obtain ⟨a, b, r, s, rfl, hA, hB, h⟩ := h
    refine ⟨_, (pss_one (ps_ret (pe_and (pe_callB call_isi (by rfl) T.z_isinstance (by decide +kernel) (pa_cons (pv 1) (pa_cons (pe_glob (v := .ref c.KW) rfl T.e_Wish.g rfl) pa_nil))) (pe_and (pe_cmpR (op_eqD hr.units) (pe_fld (pv 0) rfl) (pe_fld (pv 1) rfl) (nomark _)) (pe_and (pe_cmpR (op_eqD hr.units) (pe_fld (pv 0) rfl) (pe_fld (pv 1) rfl) (nomark _)) (pe_one (pe_cmpR (op_eqD hr.units) (pe_fld (pv 0) rfl) (pe_fld (pv 1) rfl) (nomark _)))))))), ?_⟩
    obtain ⟨dx, tr, fs, ga, gw, gm, gl, _, _, hr1⟩ := hA
    obtain ⟨dy, ts, gs, gb, hw, hm, hl, _, _, hr2⟩ := hB
    have e : (decide (r = s)) = (true && (decide (r.ws = s.ws) && (decide (r.top = s.top) && decide (r.low = s.low)))) := by
      cases r with
      | mk a1 a2 a3 =>
        cases s with
        | mk b1 b2 b3 =>
          rw [Bool.eq_iff_iff]
          simp
    rw [e] at h
    refine s_ret (ev_andV (ev_isi (ea_cons (ev_var rfl) (ea_cons ev_c ea_nil)) (.own c.KW) (fun H1 e1 => tyx_i T (.inr (.inr (.inl rfl))) (e1 b _ gb)) T.kWW) fun _ => ?_) fun H1 e1 => h H1 e1
    refine ev_andV (ev_op (ev_fld (ev_var rfl) ga T.cW (T.nW _ (by decide)) gw) (ev_fld (ev_var rfl) gb T.cW (T.nW _ (by decide)) hw) (rv_eqD (.tup (st_of hr1) (dp_ints r.ws)) (.tup (st_of hr2) (dp_ints s.ws)) (shaped_t r.ws) (shaped_t s.ws) (eqv_tints r.ws s.ws))) fun _ => ?_
    refine ev_andV (ev_op (ev_fld (ev_var rfl) ga T.cW (T.nW _ (by decide)) gm) (ev_fld (ev_var rfl) gb T.cW (T.nW _ (by decide)) hm) (rv_eqD (dp_opt _) (dp_opt _) (shaped_opt _) (shaped_opt _) (eqv_opt _ _))) fun _ => ?_
    exact ev_op (ev_fld (ev_var rfl) ga T.cW (T.nW _ (by decide)) gl) (ev_fld (ev_var rfl) gb T.cW (T.nW _ (by decide)) hl) (rv_eqD (dp_opt _) (dp_opt _) (shaped_opt _) (shaped_opt _) (eqv_opt _ _))
def wFs (tw tl : Addr) (r : Row) : List (Str × V) := [("weights", .ref tw), ("most", optV r.top), ("least", optV r.low), ("greatest", .int (great r)), ("plain", .bl (plain r)), ("lot", .ref tl)]
def spWiI (K : PySem.W.Frag) (c : Ad) : Sp := fun vs H Q E => ∃ (x dx l : Addr) (r : Row), vs = [.ref x, .ref l, optV r.top, optV r.low] ∧ RowOk r ∧ H x = some (.ins c.KW dx []) ∧ l ≠ x ∧ SqL K H l (r.ws.map V.int) ∧
  ∀ tw tl H1, But x H H1 → H1 x = some (.ins c.KW dx (wFs tw tl r)) → H1 tw = some (.tup (r.ws.map V.int)) → Q .non H1
theorem rv_isN {v : V} {H : Hp} : RV (fun x y H Q => y = .non ∧ Q (.bl (decide (x = .non))) H) v .non H (.bl (decide (v = .non))) := rv_val fun _ _ _ q => ⟨rfl, q⟩
theorem rv_notN {v : V} {H : Hp} : RV (fun x y H Q => y = .non ∧ Q (.bl (!decide (x = .non))) H) v .non H (.bl (!decide (v = .non))) := rv_val fun _ _ _ q => ⟨rfl, q⟩
theorem optV_non (o : Option Int) : decide (optV o = .non) = o.isNone := by
  cases o with
  | none => rfl
  | some z => exact decide_eq_false (fun e => by cases e)
theorem ok_Wish_init (T : Tx P w K mg base c) (h_look_number : Has P w K mg base 3 "look_number" ["number", "least", "most"] (spLookNumber c)) (h_look_numbers : Has P w K mg base 4 "look_numbers" ["numbers", "least", "most"] (spLookNums K)) (h_look_size : Has P w K mg base 3 "look_size" ["count", "least", "most"] (spLookSize c)) {fL : Addr} {fdL : FuncData} (D : FunD K "__init__" "Wish.__init__" (defArgs s_Wish_init) (defBody s_Wish_init) (defScope s_Wish_init) [] [("most", .non), ("least", .non)] fL fdL) : FnOk P w K mg base (L2.CX P w) 8 fL fdL ["self", "weights", "most", "least"] (spWiI K c) := by
  refine D.ok sc_Wish_init (fun vs H Q E h => ?len) (fun cdv A outer s H vs Q E hr h => ?body)
  case len =>
    obtain ⟨_, _, _, _, rfl, _, _, _, _, _⟩ := h
    rfl
  case body =>
    have tk : Takes (cxOf (L2.CX P w) P w K mg base ["self", "weights", "most", "least", "number", "thing", "weight"] "Wish.__init__" (defScope s_Wish_init) fL cdv A outer s H E) (fun cls d _ H => E cls d H) := takes_of rfl rfl rfl rfl
    obtain ⟨x, dx, l, r, rfl, ok, hx, nl, hL, h⟩ := h
    refine ⟨_, (pss_cons (ps_expr (pe_hasR h_look_size (hr.mono (by decide)) tk (pa_cons (pe_callB call_len_seq (by rfl) T.z_len (by decide +kernel) (pa_cons (pv 1) pa_nil)) (pa_cons pe_int (pa_cons (pe_cst T.c__MOST_WEIGHTS) pa_nil)))))
      (pss_cons (ps_expr (pe_hasR h_look_numbers (hr.mono (by decide)) tk (pa_cons (pv 1) (pa_cons pe_int (pa_cons (pe_cst T.c__MOST_WEIGHT) pa_nil)))))
      (pss_cons (ps_for (passes_of rfl) rfl (pi_tup (pe_tup (pa_cons (pv 2) (pa_cons (pv 3) pa_nil)))) (pg_name (i := 4) sc_Wish_init.nd rfl (.inl rfl)) (pss_one (ps_if (pt_cmpR op_notN (pv 4) pe_non (nomark _)) (pss_one (ps_expr (pe_hasR h_look_number (hr.mono (by decide)) tk (pa_cons (pv 4) (pa_cons (pe_un un_neg (pe_cst T.c__MOST_NUMBER)) (pa_cons (pe_cst T.c__MOST_NUMBER) pa_nil)))))) pss_nil)))
      (pss_cons (ps_fld (pv 0) (pe_callTy call_tuple_of (by rfl) T.z_tuple (by decide +kernel) (pa_cons (pv 1) pa_nil)) rfl)
      (pss_cons (ps_fld (pv 0) (pv 2) rfl)
      (pss_cons (ps_fld (pv 0) (pv 3) rfl)
      (pss_cons (ps_fld (pv 0) (pe_maxK rfl (by rfl) T.z_max (by decide +kernel) (pa_cons (pe_fld (pv 0) rfl) pa_nil) (pk_cons pe_int pk_nil)) rfl)
      (pss_cons (ps_fld (pv 0) (pe_cmpR op_le (pe_fld (pv 0) rfl) pe_int (nomark _)) rfl)
      (pss_cons (ps_fld (pv 0) (pe_callTy call_tuple_of (by rfl) T.z_tuple (by decide +kernel) (pa_cons (pe_lc (own := [("thing", 5), ("weight", 6)]) rfl sc_Wish_init.nd (pi_enumS (by rfl) T.z_enumerate (pa_cons (pe_fld (pv 0) rfl) pa_nil)) (blkOk_by (own := [("thing", 5), ("weight", 6)]) (N := ["self", "weights", "most", "least", "number", "thing", "weight"]) (sc := defScope s_Wish_init) (by decide +kernel)) (fun _ _ _ _ _ => (pg_tupK K (n := 2) (by rfl) (pgs_cons (pg_name (i := 5) sc_Wish_init.nd rfl (.inl rfl)) (pgs_cons (pg_name (i := 6) sc_Wish_init.nd rfl (.inl rfl)) pgs_nil)))) (fun _ _ _ _ _ => pts_one (pt_truthK K (pv 6) (by intro _; rfl))) (fun _ _ _ _ _ => (pv 5))) pa_nil)) rfl)
      (pss_cons (ps_if (PW.pt (pw_and (pt_cmpR op_isN (pv 2) pe_non (nomark _)) (pw_and1 (pt_cmpR op_isN (pv 3) pe_non (nomark _))))) (pss_one (ps_err1 rfl T.e_WishError (hr.mono (by decide)) tk (pa_cons pe_non pa_nil))) pss_nil)
      (pss_one (ps_if (PW.pt (pw_and (pt_cmpR op_notN (pv 3) pe_non (nomark _)) (pw_and1 (PW.pt (pw_or (pt_not (pt_truth (pe_fld (pv 0) rfl) (by intro _; rfl))) (pw_or1 (PW.pt (pw_and (pt_cmpR op_notN (pv 2) pe_non (nomark _)) (pw_and1 (pt_cmpR op_gt (pv 3) (pv 2) (nomark _))))))))))) (pss_one (ps_err1 rfl T.e_WishError (hr.mono (by decide)) tk (pa_cons pe_non pa_nil))) pss_nil)))))))))))), ?_⟩
    refine q_lookZ (z := (r.ws.length : Int)) (lo := 0) (hi := 10) (ea_cons (ev_is (ev_lenS (ev_var rfl) (.inl hL)) (by rw [List.length_map])) (ea_cons ev_c (ea_cons ev_c ea_nil))) ⟨by omega, by have := ok.len; omega⟩ fun H1 e1 => ?_
    refine q_looks (a := l) (ns := r.ws) (lo := 0) (hi := 20) (ea_cons (ev_var rfl) (ea_cons ev_c (ea_cons ev_c ea_nil))) (.inl (ex_l e1 hL)) (fun z hz => ok.w0 z hz) fun H2 e2 => ?_
    have e12 := e1.trans e2
    refine q_forUn (K := K) (eu_tup (ea_cons (ev_var rfl) (ea_cons (ev_var rfl) ea_nil)) (by show 2 ≤ 100000; decide)) (fun p i σ' H' => ∃ v, σ' = [some (.ref x), some (.ref l), some (optV r.top), some (optV r.low), v, none, none] ∧ Ex H H' ∧ SqT K H' p [optV r.top, optV r.low])
      (fun p H3 hp e3 g => ⟨none, rfl, e12.trans e3, st_of g⟩) (fun p i σ' H' _ q => by obtain ⟨_, _, _, s⟩ := q; exact s) ?turn ?fin
    case turn =>
      rintro p i u σ' H3 hu ⟨v, rfl, x3, gp⟩
      have ho : ∃ o : Option Int, u = optV o ∧ ∀ z, o = some z → -1000 ≤ z ∧ z ≤ 1000 := by
        match i, hu with
        | 0, hu => exact ⟨r.top, by simpa using hu.symm, ok.top⟩
        | 1, hu => exact ⟨r.low, by simpa using hu.symm, ok.low⟩
        | n + 2, hu => simp at hu
      obtain ⟨o, rfl, hz⟩ := ho
      cases o with
      | none => exact s_when (b := false) (et_is (et_test (ev_op (ev_var rfl) ev_c rv_notN)) rfl) (fun hb => Bool.noConfusion hb) (fun _ H4 e4 => ⟨_, rfl, x3.trans e4, ex_t e4 gp⟩)
      | some z => exact s_when (b := true) (et_is (et_test (ev_op (ev_var rfl) ev_c rv_notN)) rfl) (fun _ H4 e4 => s_lookN (z := z) (lo := -1000) (hi := 1000) (ea_cons (ev_var rfl) (ea_cons (ev_neg ev_c) (ea_cons ev_c ea_nil))) (hz z rfl) fun H5 e5 => ⟨_, rfl, x3.trans (e4.trans e5), ex_t (e4.trans e5) gp⟩) (fun hb => Bool.noConfusion hb)
    case fin =>
      rintro p σ' H3 ⟨v, rfl, x3, _⟩
      have hx3 := x3 x _ hx
      refine q_fldsetU (eu_tuple (ev_var rfl) (ex_l x3 hL)) (ev_var rfl) hx3 T.cW (T.nW _ (by decide)) (by show 0 < 1000; decide) fun tw H4 htw e4 gtw => ?_
      have ntw : tw ≠ x := fun e => by rw [e, hx3] at htw; cases htw
      have b4 : But x H (upd H4 x (.ins c.KW dx [("weights", .ref tw)])) := (But.of (x3.trans e4)).upd
      have g4 : upd H4 x (.ins c.KW dx [("weights", .ref tw)]) tw = some (.tup (r.ws.map V.int)) := by rw [upd_ne ntw]; exact gtw
      show tSeq _ _ _ _ (upd H4 x (.ins c.KW dx [("weights", .ref tw)]))
      refine q_fldset (ev_var rfl) (ev_var rfl) upd_same T.cW (T.nW _ (by decide)) (by show 1 < 1000; decide) fun H5 e5 => ?_
      have b5 : But x H (upd H5 x (.ins c.KW dx [("weights", .ref tw), ("most", optV r.top)])) := (b4.trans (But.of e5)).upd
      have g5 : upd H5 x (.ins c.KW dx [("weights", .ref tw), ("most", optV r.top)]) tw = some (.tup (r.ws.map V.int)) := by rw [upd_ne ntw]; exact e5 tw _ g4
      show tSeq _ _ _ _ (upd H5 x (.ins c.KW dx [("weights", .ref tw), ("most", optV r.top)]))
      refine q_fldset (ev_var rfl) (ev_var rfl) upd_same T.cW (T.nW _ (by decide)) (by show 2 < 1000; decide) fun H6 e6 => ?_
      have b6 : But x H (upd H6 x (.ins c.KW dx [("weights", .ref tw), ("most", optV r.top), ("least", optV r.low)])) := (b5.trans (But.of e6)).upd
      have g6 : upd H6 x (.ins c.KW dx [("weights", .ref tw), ("most", optV r.top), ("least", optV r.low)]) tw = some (.tup (r.ws.map V.int)) := by rw [upd_ne ntw]; exact e6 tw _ g5
      show tSeq _ _ _ _ (upd H6 x (.ins c.KW dx [("weights", .ref tw), ("most", optV r.top), ("least", optV r.low)]))
      refine q_fldset (ev_maxK (ns := r.ws) (es_ev (ev_fld (ev_var rfl) upd_same T.cW (T.nW _ (by decide)) rfl) (.inr (st_of g6))) (fun _ _ => ev_c)) (ev_var rfl) upd_same T.cW (T.nW _ (by decide)) (by show 3 < 1000; decide) fun H7 e7 => ?_
      have b7 : But x H (upd H7 x (.ins c.KW dx [("weights", .ref tw), ("most", optV r.top), ("least", optV r.low), ("greatest", .int (great r))])) := (b6.trans (But.of e7)).upd
      have g7 : upd H7 x (.ins c.KW dx [("weights", .ref tw), ("most", optV r.top), ("least", optV r.low), ("greatest", .int (great r))]) tw = some (.tup (r.ws.map V.int)) := by rw [upd_ne ntw]; exact e7 tw _ g6
      show tSeq _ _ _ _ (upd H7 x (.ins c.KW dx [("weights", .ref tw), ("most", optV r.top), ("least", optV r.low), ("greatest", .int (great r))]))
      refine q_fldset (v := .bl (plain r)) (ev_op (ev_fld (ev_var rfl) upd_same T.cW (T.nW _ (by decide)) rfl) ev_c rv_I0) (ev_var rfl) upd_same T.cW (T.nW _ (by decide)) (by show 4 < 1000; decide) fun H8 e8 => ?_
      have b8 : But x H (upd H8 x (.ins c.KW dx [("weights", .ref tw), ("most", optV r.top), ("least", optV r.low), ("greatest", .int (great r)), ("plain", .bl (plain r))])) := (b7.trans (But.of e8)).upd
      have g8 : upd H8 x (.ins c.KW dx [("weights", .ref tw), ("most", optV r.top), ("least", optV r.low), ("greatest", .int (great r)), ("plain", .bl (plain r))]) tw = some (.tup (r.ws.map V.int)) := by rw [upd_ne ntw]; exact e8 tw _ g7
      show tSeq _ _ _ _ (upd H8 x (.ins c.KW dx [("weights", .ref tw), ("most", optV r.top), ("least", optV r.low), ("greatest", .int (great r)), ("plain", .bl (plain r))]))
      have comp := el_lcEn (K := K) (a := tw) (xs := r.ws.map V.int) (j := 5) (k := 6) (vs := [5, 6]) (σ := [some (.ref x), some (.ref l), some (optV r.top), some (optV r.low), v, none, none]) (H := upd H8 x (.ins c.KW dx [("weights", .ref tw), ("most", optV r.top), ("least", optV r.low), ("greatest", .int (great r)), ("plain", .bl (plain r))]))
        (ts := tCons (tFld K (tVar 0) "weights") tNil) (t := fun σ H Q => (tVar 6) σ H fun x H' => ∃ k, TruV K x H' k ∧ Q k H') (te := tVar 5) (fun i => r.ws.getD i 0 != 0) (fun i => V.int (i : Nat))
        (ea_cons (ev_fld (ev_var rfl) upd_same T.cW (T.nW _ (by decide)) rfl) ea_nil) (.inr (st_of g8)) (by rw [List.length_map]; have := ok.len; omega) (by intro i y; rfl)
        (fun i y H9 e9 hy => by
          obtain ⟨rfl, hi⟩ := at_ints hy
          exact et_truI (ev_var rfl))
        (fun i y H9 e9 hy _ => ev_var rfl)
      refine q_fldsetU (eu_tupleL comp) (ev_var rfl) upd_same T.cW (T.nW _ (by decide)) (by show 5 < 1000; decide) fun tl H9 htl e9 gtl => ?_
      have b9 : But x H (upd H9 x (.ins c.KW dx (wFs tw tl r))) := (b8.trans (But.of e9)).upd
      have g9 : upd H9 x (.ins c.KW dx (wFs tw tl r)) tw = some (.tup (r.ws.map V.int)) := by rw [upd_ne ntw]; exact e9 tw _ g8
      show tSeq _ _ _ _ (upd H9 x (.ins c.KW dx (wFs tw tl r)))
      refine q_when (b := false) (et_is (et_and (et_test (ev_op (ev_var rfl) ev_c rv_isN)) fun _ => et_test (ev_op (ev_var rfl) ev_c rv_isN)) (by
        rw [optV_non, optV_non]
        rcases ok.one with h1 | h1
        · cases e : r.top with
          | none => exact (h1 e).elim
          | some z => rfl
        · cases e : r.low with
          | none => exact (h1 e).elim
          | some z => exact Bool.and_false _)) (fun hb => Bool.noConfusion hb) fun _ H10 e10 => ?_
      refine s_when (b := false) ?_ (fun hb => Bool.noConfusion hb) (fun _ H11 e11 => h tw tl _ (b9.trans (But.of (e10.trans e11))) ((e10.trans e11) x _ upd_same) ((e10.trans e11) tw _ g9))
      have gx : H10 x = some (.ins c.KW dx (wFs tw tl r)) := e10 x _ upd_same
      cases hlow : r.low with
      | none => exact et_is (et_and (b := false) (et_test (ev_op (ev_var rfl) ev_c rv_notN)) fun hb => (by cases hb)) rfl
      | some lo =>
        have hp : plain r = true := ok.plain (by rw [hlow]; exact fun e => by cases e)
        refine et_is (et_and (a := true) (b := false) (et_is (et_test (ev_op (ev_var rfl) ev_c rv_notN)) rfl) fun _ => ?_) rfl
        refine et_is (et_or (a := false) (b := false) (et_is (et_not (et_truB (ev_fld (ev_var rfl) gx T.cW (T.nW _ (by decide)) rfl))) (by rw [hp]; rfl)) fun _ => ?_) rfl
        cases htop : r.top with
        | none => exact et_is (et_and (b := false) (et_test (ev_op (ev_var rfl) ev_c rv_notN)) fun hb => (by cases hb)) rfl
        | some hi =>
          refine et_is (et_and (a := true) (b := false) (et_is (et_test (ev_op (ev_var rfl) ev_c rv_notN)) rfl) fun _ => ?_) rfl
          exact et_is (et_test (ev_op (ev_var rfl) (ev_var rfl) rv_I0)) (decide_eq_false (by have := ok.ord hi lo htop hlow; omega))
end
end K4
namespace K4
open PySem PySem.Spec PyProof.Rows L2 Evl Nd
local macro_rules | `(tactic| walk_at "ev") => `(tactic| first
  | exact ev_var rfl
  | exact ev_c
  | (apply ev_op; (walk_at "ev"); (walk_at "ev"); (walk_at "rv"))
  | (apply ev_un; (walk_at "ev"); (walk_at "rv"))
  | (apply ev_lenS; (walk_at "ev"); (walk_at "sq"))
  | (apply ev_andV; (walk_at "ev"); (intro _; walk_at "ev"))
  | (apply ev_orV; (walk_at "ev"); (intro _; walk_at "ev"))
  | (apply ev_notV; (walk_at "ev")))
local macro_rules | `(tactic| walk_at "rv") => `(tactic| first
  | exact rv_I0
  | exact ru_neg
  | exact rv_eq rfl
  | exact rv_ne rfl
  | exact rv_I (by decide)
  | exact rv_I (by first | omega | exact .inl (by omega) | exact .inr (by omega) | (constructor <;> omega)))
local macro_rules | `(tactic| walk_at "sq") => `(tactic| first
  | assumption
  | exact SqS.lst (by assumption)
  | exact SqS.tup (by assumption)
  | exact Or.inl (by assumption)
  | exact Or.inr (by assumption)
  | (refine SqS.mono (by assumption) ?_; walk_at "sq"))
local macro_rules | `(tactic| walk_at "et") => `(tactic| first
  | (apply et_or; (walk_at "et"); (intro _; walk_at "et"))
  | (apply et_and; (walk_at "et"); (intro _; walk_at "et"))
  | (apply et_not; (walk_at "et"))
  | (apply et_test; (walk_at "ev"))
  | (apply et_B; (walk_at "ev")))
local macro_rules | `(tactic| walk_at "ea") => `(tactic| first
  | exact ea_nil
  | (apply ea_cons; (walk_at "ev"); (walk_at "ea")))
section
variable {P : Program} {w : World} {K : PySem.W.Frag} {mg : Str → Option Value} {base : Heap} {c : Ad}
/-! ### books: looks, depth, kind -/
def r0 : Row := ⟨[], none, none⟩
theorem map_getD {α : Type} (r0 : α) (rs : List α) : (List.range rs.length).map (fun i => rs.getD i r0) = rs := by
  apply List.ext_getElem
  · simp
  · intro i h1 h2
    simp [List.getD_eq_getElem?_getD, List.getElem?_eq_getElem h2]
theorem given_filter {α : Type} (r0 : α) (rs : List α) (p : α → Bool) (g : α → V) : given rs.length (fun i => p (rs.getD i r0)) (fun i => g (rs.getD i r0)) = (rs.filter p).map g := by
  conv => rhs; rw [← map_getD r0 rs]
  unfold given
  rw [List.filter_map, List.map_map]
  rfl
theorem given_of {α : Type} (r0 : α) (rs : List α) (g : α → V) : given rs.length (fun _ => true) (fun i => g (rs.getD i r0)) = rs.map g := by
  have := given_filter r0 rs (fun _ => true) g
  rw [List.filter_eq_self.mpr (fun _ _ => rfl)] at this
  exact this
def WishesAt (K : PySem.W.Frag) (c : Ad) (H : Hp) (ads : List Addr) (rs : List Row) : Prop := ads.length = rs.length ∧ ∀ i a, ads[i]? = some a → WishAt K c H a (rs.getD i r0)
theorem WishesAt.mono {H H' : Hp} {ads : List Addr} {rs : List Row} (e : Ex H H') (h : WishesAt K c H ads rs) : WishesAt K c H' ads rs := ⟨h.1, fun i a ha => (h.2 i a ha).mono e⟩
theorem at_refs {ads : List Addr} {i : Nat} {x : V} (h : (ads.map V.ref)[i]? = some x) : ∃ a, x = .ref a ∧ ads[i]? = some a := by
  rw [List.getElem?_map] at h
  cases e : ads[i]? with
  | none => rw [e] at h; cases h
  | some z =>
    rw [e] at h
    exact ⟨z, by simpa using h.symm, rfl⟩
theorem WishesAt.row {H : Hp} {ads : List Addr} {rs : List Row} {i : Nat} {a : Addr} (h : WishesAt K c H ads rs) (e : ads[i]? = some a) : rs[i]? = some (rs.getD i r0) := by
  have := (List.getElem?_eq_some_iff.mp e).1
  rw [h.1] at this
  rw [List.getD_eq_getElem?_getD, List.getElem?_eq_getElem this]
  rfl
/-- [.. for wish in wishes if ..] -/
theorem el_wishes {σ : L2.St} {H : Hp} {te tl : TE} {t : TT} {l : Addr} {ads : List Addr} {rs : List Row} {j : Nat} {vs : List Nat} (p : Row → Bool) (g : Row → V) (h : Ev tl σ H (.ref l)) (hL : SqL K H l (ads.map V.ref)) (hW : WishesAt K c H ads rs) (hz : rs.length ≤ 6) (hw : ∀ x, wipe ((wipe σ vs).set j (some x)) vs = wipe σ vs)
    (ht : ∀ a r H1, r ∈ rs → WishAt K c H1 a r → EvT t ((wipe σ vs).set j (some (.ref a))) H1 (p r)) (he : ∀ a r H1, r ∈ rs → WishAt K c H1 a r → Ev te ((wipe σ vs).set j (some (.ref a))) H1 (g r)) :
    EvL (tLc (iList K tl) (gName j) t te vs) σ H ((rs.filter p).map g) := by
  have comp := el_lcL (K := K) (σ := σ) (H := H) (te := te) (t := t) (tl := tl) (a := l) (xs := ads.map V.ref) (j := j) (vs := vs) (fun i => p (rs.getD i r0)) (fun i => g (rs.getD i r0)) h hL (by rw [List.length_map, hW.1]; omega) hw
    (fun i x H1 e1 hx => by
      obtain ⟨a, rfl, ha⟩ := at_refs hx
      exact ht a _ H1 (List.mem_of_getElem? (hW.row ha)) ((hW.2 i a ha).mono e1))
    (fun i x H1 e1 hx _ => by
      obtain ⟨a, rfl, ha⟩ := at_refs hx
      exact he a _ H1 (List.mem_of_getElem? (hW.row ha)) ((hW.2 i a ha).mono e1))
  rw [List.length_map, hW.1, given_filter] at comp
  exact comp
theorem el_wishesA {σ : L2.St} {H : Hp} {te tl : TE} {l : Addr} {ads : List Addr} {rs : List Row} {j : Nat} {vs : List Nat} (g : Row → V) (h : Ev tl σ H (.ref l)) (hL : SqL K H l (ads.map V.ref)) (hW : WishesAt K c H ads rs) (hz : rs.length ≤ 6) (hw : ∀ x, wipe ((wipe σ vs).set j (some x)) vs = wipe σ vs)
    (he : ∀ a r H1, r ∈ rs → WishAt K c H1 a r → Ev te ((wipe σ vs).set j (some (.ref a))) H1 (g r)) :
    EvL (tLc (iList K tl) (gName j) tYes te vs) σ H (rs.map g) := by
  have := el_wishes (K := K) (c := c) (t := tYes) (fun _ => true) g h hL hW hz hw (fun a r H1 _ _ => fun H6 e6 Q q => q H6 (Ex.refl H6)) he
  rw [List.filter_eq_self.mpr (fun _ _ => rfl)] at this
  exact this
theorem WishAt.fld (T : Tx P w K mg base c) {H : Hp} {a : Addr} {r : Row} {σ : L2.St} {te : TE} (h : WishAt K c H a r) (hv : Ev te σ H (.ref a)) :
    Ev (tFld K te "most") σ H (optV r.top) ∧ Ev (tFld K te "least") σ H (optV r.low) ∧ Ev (tFld K te "greatest") σ H (.int (great r)) ∧ Ev (tFld K te "plain") σ H (.bl (plain r)) ∧ ∃ tw, Ev (tFld K te "weights") σ H (.ref tw) ∧ H tw = some (.tup (r.ws.map V.int)) := by
  obtain ⟨dx, tw, fs, g, h1, h2, h3, h4, h5, h6⟩ := h
  exact ⟨ev_fld hv g T.cW (T.nW _ (by decide)) h2, ev_fld hv g T.cW (T.nW _ (by decide)) h3, ev_fld hv g T.cW (T.nW _ (by decide)) h4, ev_fld hv g T.cW (T.nW _ (by decide)) h5, tw, ev_fld hv g T.cW (T.nW _ (by decide)) h1, h6⟩
def bFs (f tw : Addr) (t : Nat) (rs : List Row) : List (Str × V) := [("family", .ref f), ("wishes", .ref tw), ("deep", .int (deep t rs)), ("kind", .str (kindOf rs))]
def BookAt (K : PySem.W.Frag) (c : Ad) (H : Hp) (b f : Addr) (t : Nat) (rs : List Row) : Prop := ∃ (dx tw : Addr) (ads : List Addr), H b = some (.ins c.KB dx (bFs f tw t rs)) ∧ H tw = some (.tup (ads.map V.ref)) ∧ WishesAt K c H ads rs
theorem BookAt.mono {H H' : Hp} {b f : Addr} {t : Nat} {rs : List Row} (e : Ex H H') : BookAt K c H b f t rs → BookAt K c H' b f t rs := fun ⟨dx, tw, ads, h1, h2, h3⟩ => ⟨dx, tw, ads, e b _ h1, e tw _ h2, h3.mono e⟩
def spLW (K : PySem.W.Frag) (c : Ad) : Sp := fun vs H Q E => ∃ (b f : Addr) (t : Nat) (rs : List Row) (z : Int), vs = [.ref b, .int z] ∧ BookAt K c H b f t rs ∧ ((z < 0 ∨ z ≥ rs.length) → Err c.CW "at" (.int z) H E) ∧ (¬ (z < 0 ∨ z ≥ rs.length) → RetV .non H Q)
theorem has_look_wish (T : Tx P w K mg base c) (D : DefAt K mg "look_wish" s_look_wish ["book", "at"]) : Has P w K mg base 4 "look_wish" ["book", "at"] (spLW K c) := by
  refine D.has sc_look_wish (fun vs H Q E h => ?len) (fun f cdv A outer s H vs Q E hr h => ?body)
  case len =>
    obtain ⟨_, _, _, _, _, rfl, _, _, _⟩ := h
    rfl
  case body =>
    have tk : Takes (cxOf (L2.CX P w) P w K mg base ["book", "at"] "look_wish" (defScope s_look_wish) f cdv A outer s H E) (fun cls d _ H => E cls d H) := takes_of rfl rfl rfl rfl
    obtain ⟨b, f, t, rs, z, rfl, hB, h1, h2⟩ := h
    refine ⟨_, (pss_one (ps_if (PW.pt (pw_or (pt_cmpR op_lt (pv 1) pe_int (nomark _)) (pw_or1 (pt_cmpR op_ge (pv 1) (pe_callB call_len_seq (by rfl) T.z_len (by decide +kernel) (pa_cons (pe_fld (pv 0) rfl) pa_nil)) (nomark _))))) (pss_one (ps_err1 rfl T.e_WishError (hr.mono (by decide)) tk (pa_cons (pv 1) pa_nil))) pss_nil)), ?_⟩
    obtain ⟨dx, tw, ads, gb, gt, hW⟩ := hB
    have hl : ((ads.map V.ref).length : Int) = rs.length := by rw [List.length_map, hW.1]
    refine s_when (b := decide (z < 0) || decide (z ≥ (rs.length : Int))) (et_or (et_test (ev_op (ev_var rfl) ev_c rv_I0)) fun _ => et_test (ev_op (ev_var rfl) (ev_is (ev_lenS (ev_fld (ev_var rfl) gb T.cB (T.nB _ (by decide)) rfl) (.inr (st_of gt))) (congrArg V.int hl)) rv_I0)) (fun hb H1 e => ?_) (fun hb H1 e => ?_)
    · exact ⟨_, rfl, _, rfl, Err.mono (h1 (by simpa using hb)) e⟩
    · exact h2 (by simpa using hb) H1 e
def spDep (K : PySem.W.Frag) (c : Ad) : Sp := fun vs H Q E => ∃ (l : Addr) (ads : List Addr) (t : Nat) (rs : List Row), vs = [.int (t : Nat), .ref l] ∧ t ≤ 6 ∧ rs.length ≤ 6 ∧ SqL K H l (ads.map V.ref) ∧ WishesAt K c H ads rs ∧ (∀ r ∈ rs, r.ws.length = t) ∧ RetV (.int (deep t rs)) H Q
theorem sum_ones : ∀ {α : Type} (xs : List α), (xs.map fun _ => (1 : Int)).sum = (xs.length : Int)
  | _, [] => rfl
  | _, x :: xs => by
    rw [List.map_cons, List.sum_cons, sum_ones xs, List.length_cons]
    omega
theorem has__depth_of (T : Tx P w K mg base c) (D : DefAt K mg "_depth_of" s__depth_of ["things", "wishes"]) : Has P w K mg base 4 "_depth_of" ["things", "wishes"] (spDep K c) := by
  refine D.has sc__depth_of (fun vs H Q E h => ?len) (fun f cdv A outer s H vs Q E hr h => ?body)
  case len =>
    obtain ⟨_, _, _, _, rfl, _, _, _, _, _, _⟩ := h
    rfl
  case body =>
    have tk : Takes (cxOf (L2.CX P w) P w K mg base ["things", "wishes", "thing", "wish"] "_depth_of" (defScope s__depth_of) f cdv A outer s H E) (fun cls d _ H => E cls d H) := takes_of rfl rfl rfl rfl
    obtain ⟨l, ads, t, rs, rfl, ht, hr6, hL, hW, hlen, h⟩ := h
    refine ⟨_, (pss_one (ps_ret (pe_maxK rfl (by rfl) T.z_max (by decide +kernel) (pa_cons (pe_lc (own := [("thing", 2)]) rfl sc__depth_of.nd (pi_range1 rfl T.z_range (pa_cons (pv 0) pa_nil)) (blkOk_by (own := [("thing", 2)]) (N := ["things", "wishes", "thing", "wish"]) (sc := defScope s__depth_of) (by decide +kernel)) (fun _ _ _ _ _ => (pg_name (i := 2) sc__depth_of.nd rfl (.inr rfl))) (fun _ _ _ _ _ => pts_nil) (fun _ _ _ _ _ => (pe_callB (cr_sumK K rfl) (by rfl) T.z_sum (by decide +kernel) (pa_cons (pe_lc (own := [("wish", 3)]) rfl sc__depth_of.nd (pi_listK K (pv 1)) (blkOk_by (own := [("wish", 3)]) (N := ["things", "wishes", "thing", "wish"]) (sc := relS _ (defScope s__depth_of)) (by decide +kernel)) (fun _ _ _ _ _ => (pg_name (i := 3) sc__depth_of.nd rfl (.inl rfl))) (fun _ _ _ _ _ => pts_one (pt_truthK K (pe_ix (ix_tupK K) (pe_fldK K (pv 3)) (pv 2) (fun _ _ => rfl)) (by intro _; rfl))) (fun _ _ _ _ _ => pe_int)) pa_nil)))) pa_nil) (pk_cons pe_int pk_nil)))), ?_⟩
    have comp := el_lcR1 (σ := [some (.int (t : Nat)), some (.ref l), none, none]) (H := H) (ta := tCons (tVar 0) tNil) (j := 2) (vs := [2]) (n := (t : Int)) (t := tYes)
      (te := tCB (rSum K) (tCons (tLc (iList K (tVar 1)) (gName 3) (fun σ H Q => (tOp (rIxT K) (tFld K (tVar 3) "weights") (tVar 2)) σ H fun x H' => ∃ k, TruV K x H' k ∧ Q k H') (tC (.int 1)) [3]) tNil)) (fun _ => true) (fun i => V.int (cnt rs i : Int)) (ea_cons (ev_var rfl) ea_nil) (by omega) (by intro x; rfl)
      (fun i H1 e1 hi => fun H6 e6 Q q => q H6 (Ex.refl H6))
      (fun i H1 e1 hi _ => by
        have inner := el_wishes (K := K) (c := c) (σ := [some (.int (t : Nat)), some (.ref l), some (.int (i : Nat)), none]) (H := H1) (tl := tVar 1) (t := fun σ H Q => (tOp (rIxT K) (tFld K (tVar 3) "weights") (tVar 2)) σ H fun x H' => ∃ k, TruV K x H' k ∧ Q k H') (te := tC (.int 1)) (j := 3) (vs := [3]) (fun r => decide (r.ws.getD i 0 ≠ 0)) (fun _ => .int 1) (ev_var rfl) (ex_l e1 hL) (hW.mono e1) hr6 (by intro x; rfl)
          (fun a r H2 hm hA => by
            obtain ⟨_, _, _, _, tw, ew, gw⟩ := hA.fld T (σ := [some (.int (t : Nat)), some (.ref l), some (.int (i : Nat)), some (.ref a)]) (te := tVar 3) (ev_var rfl)
            have hi2 : i < r.ws.length := by rw [hlen r hm]; omega
            exact et_is (et_truI (ev_op ew (ev_var rfl) (rv_ixT (st_of gw) (at_int hi2)))) (by
              by_cases z : r.ws.getD i 0 = 0
              · rw [z]; rfl
              · rw [decide_eq_true z]; exact bne_iff_ne.mpr z))
          (fun a r H2 _ _ => ev_c)
        rw [show (fun _ : Row => V.int 1) = V.int ∘ (fun _ : Row => (1 : Int)) from rfl, ← List.map_map] at inner
        exact ev_is (ev_sumL inner) (by rw [sum_ones]; rfl))
    rw [Int.toNat_natCast] at comp
    have eg : given t (fun _ => true) (fun i => V.int (cnt rs i : Int)) = ((List.range t).map fun i => (cnt rs i : Int)).map V.int := by
      unfold given
      rw [List.filter_eq_self.mpr (fun _ _ => rfl), List.map_map]
      rfl
    rw [eg] at comp
    exact s_ret (ev_maxK (es_el comp) (fun _ _ => ev_c)) fun H1 e1 => h H1 e1
def spKin (K : PySem.W.Frag) (c : Ad) : Sp := fun vs H Q E => ∃ (l : Addr) (ads : List Addr) (rs : List Row), vs = [.ref l] ∧ rs.length ≤ 6 ∧ SqL K H l (ads.map V.ref) ∧ WishesAt K c H ads rs ∧ RetV (.str (kindOf rs)) H Q
theorem ev_allW {te : TE} {σ : L2.St} {H : Hp} {rs : List Row} (p : Row → Bool) (h : EvL te σ H (rs.map fun r => V.bl (p r))) : Ev (tCB (rAll K) (tCons te tNil)) σ H (.bl (rs.all p)) := by
  rw [show (fun r => V.bl (p r)) = V.bl ∘ p from rfl, ← List.map_map] at h
  exact ev_is (ev_allN h) (by rw [List.all_map]; rfl)
theorem has__kind_of (T : Tx P w K mg base c) (D : DefAt K mg "_kind_of" s__kind_of ["wishes"]) : Has P w K mg base 4 "_kind_of" ["wishes"] (spKin K c) := by
  refine D.has sc__kind_of (fun vs H Q E h => ?len) (fun f cdv A outer s H vs Q E hr h => ?body)
  case len =>
    obtain ⟨_, _, _, rfl, _, _, _, _⟩ := h
    rfl
  case body =>
    have tk : Takes (cxOf (L2.CX P w) P w K mg base ["wishes", "wish"] "_kind_of" (defScope s__kind_of) f cdv A outer s H E) (fun cls d _ H => E cls d H) := takes_of rfl rfl rfl rfl
    obtain ⟨l, ads, rs, rfl, h6, hL, hW, h⟩ := h
    refine ⟨_, (pss_cons (ps_if (pt_not (pt_truth (pe_callB (cr_all rfl) (by rfl) T.z_all (by decide +kernel) (pa_cons (pe_lc (own := [("wish", 1)]) rfl sc__kind_of.nd (pi_list (pv 0)) (blkOk_by (own := [("wish", 1)]) (N := ["wishes", "wish"]) (sc := defScope s__kind_of) (by decide +kernel)) (fun _ _ _ _ _ => (pg_name (i := 1) sc__kind_of.nd rfl (.inl rfl))) (fun _ _ _ _ _ => pts_nil) (fun _ _ _ _ _ => (pe_fldK K (pv 1)))) pa_nil)) (by intro _; rfl))) (pss_one (ps_ret pe_str)) pss_nil)
      (pss_cons (ps_if (pt_truth (pe_callB (cr_all rfl) (by rfl) T.z_all (by decide +kernel) (pa_cons (pe_lc (own := [("wish", 1)]) rfl sc__kind_of.nd (pi_list (pv 0)) (blkOk_by (own := [("wish", 1)]) (N := ["wishes", "wish"]) (sc := defScope s__kind_of) (by decide +kernel)) (fun _ _ _ _ _ => (pg_name (i := 1) sc__kind_of.nd rfl (.inl rfl))) (fun _ _ _ _ _ => pts_nil) (fun _ _ _ _ _ => (pe_cmpR op_isN (pe_fldK K (pv 1)) pe_non (nomark _)))) pa_nil)) (by intro _; rfl)) (pss_one (ps_ret pe_str)) pss_nil)
      (pss_one (ps_ret (pe_ifExp (pt_truth (pe_callB (cr_all rfl) (by rfl) T.z_all (by decide +kernel) (pa_cons (pe_lc (own := [("wish", 1)]) rfl sc__kind_of.nd (pi_list (pv 0)) (blkOk_by (own := [("wish", 1)]) (N := ["wishes", "wish"]) (sc := defScope s__kind_of) (by decide +kernel)) (fun _ _ _ _ _ => (pg_name (i := 1) sc__kind_of.nd rfl (.inl rfl))) (fun _ _ _ _ _ => pts_nil) (fun _ _ _ _ _ => (pe_cmpR op_isN (pe_fldK K (pv 1)) pe_non (nomark _)))) pa_nil)) (by intro _; rfl)) pe_str pe_str))))), ?_⟩
    have c1 : ∀ H1, Ex H H1 → ∀ p : Row → Bool, ∀ te : TE, (∀ a r H2, WishAt K c H2 a r → Ev te [some (.ref l), some (.ref a)] H2 (.bl (p r))) → Ev (tCB (rAll K) (tCons (tLc (iList K (tVar 0)) (gName 1) tYes te [1]) tNil)) [some (.ref l), none] H1 (.bl (rs.all p)) := fun H1 e1 p te hp =>
      ev_allW p (el_wishesA (K := K) (c := c) (fun r => V.bl (p r)) (ev_var rfl) (ex_l e1 hL) (hW.mono e1) h6 (by intro x; rfl) (fun a r H2 _ hA => hp a r H2 hA))
    refine q_when (b := !rs.all plain) (et_not (et_truB (c1 H (Ex.refl H) plain _ fun a r H2 hA => (hA.fld T (ev_var rfl)).2.2.2.1))) (fun hb H1 e1 => ?_) (fun hb H1 e1 => ?_)
    · refine s_ret ev_c fun H2 e2 => ?_
      have hp : rs.all plain = false := by simpa using hb
      have ek : kindOf rs = "weighted" := by unfold kindOf; rw [if_pos hp]
      rw [ek] at h
      exact h H2 (e1.trans e2)
    · have hp : ¬ rs.all plain = false := by intro z; rw [z] at hb; cases hb
      refine q_when (b := rs.all fun r => r.low.isNone) (et_truB (c1 H1 e1 (fun r => r.low.isNone) _ fun a r H2 hA => ev_is (ev_op (hA.fld T (ev_var rfl)).2.1 ev_c rv_isN) (by rw [optV_non]))) (fun hb2 H2 e2 => ?_) (fun hb2 H2 e2 => ?_)
      · refine s_ret ev_c fun H3 e3 => ?_
        have ek : kindOf rs = "most" := by unfold kindOf; rw [if_neg hp, if_pos hb2]
        rw [ek] at h
        exact h H3 ((e1.trans e2).trans e3)
      · have hn : ¬ (rs.all fun r => r.low.isNone) = true := by intro z; rw [z] at hb2; cases hb2
        refine s_ret (v := .str (kindOf rs)) (ev_if (b := rs.all fun r => r.top.isNone) (et_truB (c1 H2 (e1.trans e2) (fun r => r.top.isNone) _ fun a r H2 hA => ev_is (ev_op (hA.fld T (ev_var rfl)).1 ev_c rv_isN) (by rw [optV_non]))) (fun hb3 => ?_) (fun hb3 => ?_)) fun H3 e3 => h H3 ((e1.trans e2).trans e3)
        · have ek : kindOf rs = "least" := by unfold kindOf; rw [if_neg hp, if_neg hn, if_pos hb3]
          rw [ek]; exact ev_c
        · have ek : kindOf rs = "both" := by unfold kindOf; rw [if_neg hp, if_neg hn, if_neg (by intro z; rw [z] at hb3; cases hb3)]
          rw [ek]; exact ev_c
end
end K4
namespace K4
open PySem PySem.Spec PyProof.Rows L2 Evl Nd
local macro_rules | `(tactic| walk_at "ev") => `(tactic| first
  | exact ev_var rfl
  | exact ev_c
  | (apply ev_op; (walk_at "ev"); (walk_at "ev"); (walk_at "rv"))
  | (apply ev_un; (walk_at "ev"); (walk_at "rv"))
  | (apply ev_lenS; (walk_at "ev"); (walk_at "sq"))
  | (apply ev_andV; (walk_at "ev"); (intro _; walk_at "ev"))
  | (apply ev_orV; (walk_at "ev"); (intro _; walk_at "ev"))
  | (apply ev_notV; (walk_at "ev")))
local macro_rules | `(tactic| walk_at "rv") => `(tactic| first
  | exact rv_I0
  | exact ru_neg
  | exact rv_eq rfl
  | exact rv_ne rfl
  | exact rv_I (by decide)
  | exact rv_I (by first | omega | exact .inl (by omega) | exact .inr (by omega) | (constructor <;> omega)))
local macro_rules | `(tactic| walk_at "sq") => `(tactic| first
  | assumption
  | exact SqS.lst (by assumption)
  | exact SqS.tup (by assumption)
  | exact Or.inl (by assumption)
  | exact Or.inr (by assumption)
  | (refine SqS.mono (by assumption) ?_; walk_at "sq"))
local macro_rules | `(tactic| walk_at "et") => `(tactic| first
  | (apply et_or; (walk_at "et"); (intro _; walk_at "et"))
  | (apply et_and; (walk_at "et"); (intro _; walk_at "et"))
  | (apply et_not; (walk_at "et"))
  | (apply et_test; (walk_at "ev"))
  | (apply et_B; (walk_at "ev")))
local macro_rules | `(tactic| walk_at "ea") => `(tactic| first
  | exact ea_nil
  | (apply ea_cons; (walk_at "ev"); (walk_at "ea")))
section
variable {P : Program} {w : World} {K : PySem.W.Frag} {mg : Str → Option Value} {base : Heap} {c : Ad}
/-! ### books -/
theorem q_whenM {σ : L2.St} {H : Hp} {t : TT} {tu tz : TS} {D : Ends} {b : Bool} (M : L2.St → Hp → Prop) (h : EvT t σ H b) (k : ∀ σ' H', M σ' H' → tz D σ' H') (h1 : ∀ N : L2.St → Hp → Prop, (∀ σ' H', M σ' H' → N σ' H') → b = true → ∀ H1, Ex H H1 → tu { D with nx := N } σ H1) (h2 : b = false → ∀ H1, Ex H H1 → M σ H1) : tSeq (tIfS t tu tNext) tz D σ H := q_when h (h1 (tz D) k) (fun hb H1 e => k σ H1 (h2 hb H1 e))
theorem q_lookE {ta : TA} {σ : L2.St} {H : Hp} {D : Ends} {tz : TS} {E : L2.St → XK} {z lo hi : Int} (h : EvA ta σ H [.int z, .int lo, .int hi]) (bad : (z < lo ∨ z > hi) → Err c.CS "count" (.int z) H (E σ)) (ok : ¬ (z < lo ∨ z > hi) → ∀ H1, Ex H H1 → tz D σ H1) :
    tSeq (tDrop (tCallS (spLookSize c) E ta)) tz D σ H := h H (Ex.refl H) _ fun H1 e1 => ⟨z, lo, hi, rfl, fun c => (bad c).mono e1, fun c H2 e2 => ok c H2 (e1.trans e2)⟩
theorem s_lookE {ta : TA} {σ : L2.St} {H : Hp} {D : Ends} {E : L2.St → XK} {z lo hi : Int} (h : EvA ta σ H [.int z, .int lo, .int hi]) (bad : (z < lo ∨ z > hi) → Err c.CS "count" (.int z) H (E σ)) (ok : ¬ (z < lo ∨ z > hi) → ∀ H1, Ex H H1 → D.nx σ H1) :
    tDrop (tCallS (spLookSize c) E ta) D σ H := h H (Ex.refl H) _ fun H1 e1 => ⟨z, lo, hi, rfl, fun c => (bad c).mono e1, fun c H2 e2 => ok c H2 (e1.trans e2)⟩
theorem WishesAt.but {H H' : Hp} {x D dx : Addr} {ads : List Addr} {rs : List Row} (b : But x H H') (hx : H x = some (.ins D dx [])) (h : WishesAt K c H ads rs) : WishesAt K c H' ads rs := ⟨h.1, fun i a ha => by
  obtain ⟨dy, tw, fs, g, h1, h2, h3, h4, h5, h6⟩ := h.2 i a ha
  refine ⟨dy, tw, fs, b a _ (fun e => ?_) g, h1, h2, h3, h4, h5, b tw _ (fun e => by rw [e, hx] at h6; cases h6) h6⟩
  rw [e, hx] at g
  cases g
  cases h1⟩
def spBkI (K : PySem.W.Frag) (c : Ad) : Sp := fun vs H Q E => ∃ (x dx f l : Addr) (ads : List Addr) (t : Nat) (rk : List Int) (rs : List Row), vs = [.ref x, .ref f, .ref l] ∧ t ≤ 6 ∧ rs.length ≤ 6 ∧ H x = some (.ins c.KB dx []) ∧ l ≠ x ∧ FamAt K c H f t rk ∧ SqL K H l (ads.map V.ref) ∧ WishesAt K c H ads rs ∧
  (∀ z, bookErr t rs = some (.size z) → Err c.CS "count" (.int z) H E) ∧ (∀ z, bookErr t rs = some (.wish z) → Err c.CW "at" (.int z) H E) ∧
  (bookErr t rs = none → ∀ tw H1, But x H H1 → H1 x = some (.ins c.KB dx (bFs f tw t rs)) → H1 tw = some (.tup (ads.map V.ref)) → Q .non H1)
theorem ok_Book_init (T : Tx P w K mg base c) (h__depth_of : Has P w K mg base 4 "_depth_of" ["things", "wishes"] (spDep K c)) (h__kind_of : Has P w K mg base 4 "_kind_of" ["wishes"] (spKin K c)) (h_look_size : Has P w K mg base 3 "look_size" ["count", "least", "most"] (spLookSize c)) {fL : Addr} {fdL : FuncData} (D : Fun K "__init__" "Book.__init__" s_Book_init fL fdL) : FnOk P w K mg base (L2.CX P w) 8 fL fdL ["self", "family", "wishes"] (spBkI K c) := by
  refine D.okX sc_Book_init (fun vs H Q E h => ?len) (fun cdv A outer s H vs Q E hr h => ?body)
  case len =>
    obtain ⟨_, _, _, _, _, _, _, _, rfl, _, _, _, _, _, _, _, _, _, _⟩ := h
    rfl
  case body =>
    have tk : Takes (cxOf (L2.CX P w) P w K mg base ["self", "family", "wishes", "wish", "at"] "Book.__init__" (defScope s_Book_init) fL cdv A outer s H E) (fun cls d _ H => E cls d H) := takes_of rfl rfl rfl rfl
    obtain ⟨x, dx, f, l, ads, t, rk, rs, rfl, ht, h6, hx, nl, hF, hL, hW, hS, hE, h⟩ := h
    refine ⟨_, (pss_cons (ps_expr (pe_hasR h_look_size (hr.mono (by decide)) tk (pa_cons (pe_callB call_len_seq (by rfl) T.z_len (by decide +kernel) (pa_cons (pv 2) pa_nil)) (pa_cons pe_int (pa_cons (pe_cst T.c_MOST_WISHES) pa_nil)))))
      (pss_cons (ps_for (passes_of rfl) rfl (pi_list (pv 2)) (pg_name (i := 3) sc_Book_init.nd rfl (.inl rfl)) (pss_one (ps_expr (pe_hasR h_look_size (hr.mono (by decide)) tk (pa_cons (pe_callB call_len_seq (by rfl) T.z_len (by decide +kernel) (pa_cons (pe_fld (pv 3) rfl) pa_nil)) (pa_cons (pe_fld (pv 1) rfl) (pa_cons (pe_fld (pv 1) rfl) pa_nil)))))))
      (pss_cons (ps_if (pt_not (pt_truth (pe_callB (cr_all rfl) (by rfl) T.z_all (by decide +kernel) (pa_cons (pe_lc (own := [("wish", 3)]) rfl sc_Book_init.nd (pi_list (pv 2)) (blkOk_by (own := [("wish", 3)]) (N := ["self", "family", "wishes", "wish", "at"]) (sc := defScope s_Book_init) (by decide +kernel)) (fun _ _ _ _ _ => (pg_name (i := 3) sc_Book_init.nd rfl (.inl rfl))) (fun _ _ _ _ _ => pts_nil) (fun _ _ _ _ _ => (pe_fldK K (pv 3)))) pa_nil)) (by intro _; rfl))) (pss_one (ps_for (passes_of rfl) rfl (pi_enumS (by rfl) T.z_enumerate (pa_cons (pv 2) pa_nil)) (pg_tup (by rfl) (pgs_cons (pg_name (i := 4) sc_Book_init.nd rfl (.inl rfl)) (pgs_cons (pg_name (i := 3) sc_Book_init.nd rfl (.inl rfl)) pgs_nil))) (pss_one (ps_if (pt_cmpR op_notN (pe_fld (pv 3) rfl) pe_non (nomark _)) (pss_one (ps_err1 rfl T.e_WishError (hr.mono (by decide)) tk (pa_cons (pv 4) pa_nil))) pss_nil)))) pss_nil)
      (pss_cons (ps_fld (pv 0) (pv 1) rfl)
      (pss_cons (ps_fld (pv 0) (pe_callTy call_tuple_of (by rfl) T.z_tuple (by decide +kernel) (pa_cons (pv 2) pa_nil)) rfl)
      (pss_cons (ps_fld (pv 0) (pe_hasN h__depth_of (hr.mono (by decide)) (pa_cons (pe_fld (pv 1) rfl) (pa_cons (pv 2) pa_nil))) rfl)
      (pss_one (ps_fld (pv 0) (pe_hasN h__kind_of (hr.mono (by decide)) (pa_cons (pv 2) pa_nil)) rfl)))))))), ?_⟩
    obtain ⟨C, dF, tr, fs, hC, gF, lt, _, _⟩ := hF
    obtain ⟨clC, naC⟩ := nCG T hC
    have hl : (ads.map V.ref).length = rs.length := by rw [List.length_map, hW.1]
    have nf : f ≠ x := fun e => by
      rw [e, hx] at gF
      cases gF
      cases lt
    refine q_lookE (c := c) (z := (rs.length : Int)) (lo := 0) (hi := 5) (ea_cons (ev_is (ev_lenS (ev_var rfl) (.inl hL)) (by rw [hl])) (ea_cons ev_c (ea_cons ev_c ea_nil))) (fun hb => hS _ (by unfold bookErr; rw [if_pos (by omega)])) fun hb H1 e1 => ?_
    have h5 : ¬ 5 < rs.length := by omega
    refine q_forLn (a := l) (ev_var rfl) (ex_l e1 hL) (fun i σ' H' => ∃ v3, σ' = [some (.ref x), some (.ref f), some (.ref l), v3, none] ∧ Ex H H' ∧ ∀ j s, j < i → rs[j]? = some s → s.ws.length = t) (fun H2 e2 => ⟨none, rfl, e1.trans e2, fun j s hj => by omega⟩) (fun i σ' H' _ q => by obtain ⟨_, _, e, _⟩ := q; exact ex_l e hL) ?turn ?fin
    case turn =>
      rintro i v σ' H2 hv ⟨v3, rfl, x2, hb⟩
      obtain ⟨a, rfl, ha⟩ := at_refs hv
      have hr := hW.row ha
      obtain ⟨_, _, _, _, tw, ew, gw⟩ := ((hW.2 i a ha).mono x2).fld T (σ := [some (.ref x), some (.ref f), some (.ref l), some (.ref a), none]) (te := tVar 3) (ev_var rfl)
      have et : Ev (tFld K (tVar 1) "things") [some (.ref x), some (.ref f), some (.ref l), some (.ref a), none] H2 (.int (t : Nat)) := ev_fld (ev_var rfl) (x2 f _ gF) clC (naC _ (by decide)) lt
      refine s_lookE (c := c) (z := ((rs.getD i r0).ws.length : Int)) (lo := (t : Nat)) (hi := (t : Nat)) (ea_cons (ev_is (ev_lenS ew (.inr (st_of gw))) (by rw [List.length_map])) (ea_cons et (ea_cons et ea_nil))) (fun hb2 => (hS _ ?_).mono x2) fun hb2 H3 e3 => ?_
      · unfold bookErr
        rw [if_neg h5, badLen_at hr (by omega) hb]
      · refine ⟨_, rfl, x2.trans e3, fun j s hj hs => ?_⟩
        rcases Nat.lt_succ_iff_lt_or_eq.mp hj with hj | rfl
        · exact hb j s hj hs
        · rw [hr] at hs
          cases hs
          omega
    case fin =>
      rintro σ' H2 ⟨v3, rfl, x2, hb⟩
      rw [hl] at hb
      have hlen : ∀ r ∈ rs, r.ws.length = t := fun r hr => by
        obtain ⟨i, hi⟩ := List.mem_iff_getElem?.mp hr
        exact hb i r (List.getElem?_eq_some_iff.mp hi).1 hi
      have hbad : badLen t rs = none := badLen_none.mpr hlen
      refine q_whenM (b := !rs.all plain) (fun σ' H' => ∃ v3 v4, σ' = [some (.ref x), some (.ref f), some (.ref l), v3, v4] ∧ Ex H H' ∧ bookErr t rs = none)
        (et_not (et_truB (ev_allW plain (el_wishesA (K := K) (c := c) (fun r => V.bl (plain r)) (ev_var rfl) (ex_l x2 hL) (hW.mono x2) h6 (by intro y; rfl) (fun a r H2 _ hA => (hA.fld T (ev_var rfl)).2.2.2.1))))) ?rest (fun N hN hp H3 e3 => ?loop) (fun hp H3 e3 => ⟨_, _, rfl, x2.trans e3, ?_⟩)
      case rest =>
        rintro σ' H3 ⟨v3, v4, rfl, x3, hn⟩
        refine q_fldset (ev_var rfl) (ev_var rfl) (x3 x _ hx) T.cB (T.nB _ (by decide)) (by show 0 < 1000; decide) fun H4 e4 => ?_
        have b4 : But x H (upd H4 x (.ins c.KB dx [("family", .ref f)])) := (But.of (x3.trans e4)).upd
        show tSeq _ _ _ _ (upd H4 x (.ins c.KB dx [("family", .ref f)]))
        refine q_fldsetU (eu_tuple (ev_var rfl) (b4.l nl hL)) (ev_var rfl) upd_same T.cB (T.nB _ (by decide)) (by show 1 < 1000; decide) fun tw H5 htw e5 gtw => ?_
        have ntw : tw ≠ x := fun e => by rw [e, upd_same] at htw; cases htw
        have b5 : But x H (upd H5 x (.ins c.KB dx [("family", .ref f), ("wishes", .ref tw)])) := (b4.trans (But.of e5)).upd
        have g5 : upd H5 x (.ins c.KB dx [("family", .ref f), ("wishes", .ref tw)]) tw = some (.tup (ads.map V.ref)) := by rw [upd_ne ntw]; exact gtw
        show tSeq _ _ _ _ (upd H5 x (.ins c.KB dx [("family", .ref f), ("wishes", .ref tw)]))
        refine q_fldset (v := .int (deep t rs)) (ev_callS (ea_cons (ev_fld (ev_var rfl) (b5 f _ nf gF) clC (naC _ (by decide)) lt) (ea_cons (ev_var rfl) ea_nil)) fun H6 e6 Q' E' q' => ⟨l, ads, t, rs, rfl, ht, h6, ex_l e6 (b5.l nl hL), (hW.but b5 hx).mono e6, hlen, q'⟩) (ev_var rfl) upd_same T.cB (T.nB _ (by decide)) (by show 2 < 1000; decide) fun H6 e6 => ?_
        have b6 : But x H (upd H6 x (.ins c.KB dx [("family", .ref f), ("wishes", .ref tw), ("deep", .int (deep t rs))])) := (b5.trans (But.of e6)).upd
        have g6 : upd H6 x (.ins c.KB dx [("family", .ref f), ("wishes", .ref tw), ("deep", .int (deep t rs))]) tw = some (.tup (ads.map V.ref)) := by rw [upd_ne ntw]; exact e6 tw _ g5
        show sFld _ _ _ _ _ _ (upd H6 x (.ins c.KB dx [("family", .ref f), ("wishes", .ref tw), ("deep", .int (deep t rs))]))
        refine s_fldset (v := .str (kindOf rs)) (ev_callS (ea_cons (ev_var rfl) ea_nil) fun H7 e7 Q' E' q' => ⟨l, ads, rs, rfl, h6, ex_l e7 (b6.l nl hL), (hW.but b6 hx).mono e7, q'⟩) (ev_var rfl) upd_same T.cB (T.nB _ (by decide)) (by show 3 < 1000; decide) fun H7 e7 => ?_
        exact h hn tw _ ((b6.trans (But.of e7)).upd) upd_same (by rw [upd_ne ntw]; exact e7 tw _ g6)
      case loop =>
        have hp' : rs.all plain = false := by simpa using hp
        have x3 := x2.trans e3
        refine s_forEn (K := K) (a := l) (xs := ads.map V.ref) (ea_cons (ev_var rfl) ea_nil) (.inl (ex_l x3 hL)) (fun i σ' H' => ∃ v3 v4, σ' = [some (.ref x), some (.ref f), some (.ref l), v3, v4] ∧ Ex H3 H' ∧ ∀ j s, j < i → rs[j]? = some s → s.low.isSome = false) (fun H4 e4 => ⟨_, _, rfl, e4, fun j s hj => by omega⟩) (fun i σ' H' _ q => by obtain ⟨_, _, _, e, _⟩ := q; exact e) (fun i σ' H' H'' e q => by obtain ⟨v3, v4, h1, h2, h3⟩ := q; exact ⟨v3, v4, h1, h2.trans e, h3⟩) ?turn2 ?fin2
        case turn2 =>
          rintro i v σ' H4 hv ⟨v3, v4, rfl, x4, hb2⟩
          obtain ⟨a, rfl, ha⟩ := at_refs hv
          have hr := hW.row ha
          have x4' := x3.trans x4
          obtain ⟨_, el, _⟩ := ((hW.2 i a ha).mono x4').fld T (σ := [some (.ref x), some (.ref f), some (.ref l), some (.ref a), some (.int (i : Nat))]) (te := tVar 3) (ev_var rfl)
          refine s_when (b := (rs.getD i r0).low.isSome) (et_is (et_test (ev_op el ev_c rv_notN)) (by rw [optV_non]; cases (rs.getD i r0).low <;> rfl)) (fun hb3 H5 e5 => ?_) (fun hb3 H5 e5 => ?_)
          · refine ⟨_, rfl, _, rfl, Err.mono (hE (i : Nat) ?_) (x4'.trans e5)⟩
            unfold bookErr
            rw [if_neg h5, hbad]
            show (if rs.all plain = true then none else (firstLow rs 0).map fun i => Er.wish i) = _
            rw [if_neg (by rw [hp']; exact Bool.false_ne_true), firstLow_at hr hb3 hb2]
            simp
          · refine ⟨_, _, rfl, x4.trans e5, fun j s hj hs => ?_⟩
            rcases Nat.lt_succ_iff_lt_or_eq.mp hj with hj | rfl
            · exact hb2 j s hj hs
            · rw [hr] at hs
              cases hs
              exact hb3
        case fin2 =>
          rintro σ' H4 ⟨v3, v4, rfl, x4, hb2⟩
          rw [hl] at hb2
          refine hN _ _ ⟨_, _, rfl, x3.trans x4, ?_⟩
          unfold bookErr
          rw [if_neg h5, hbad]
          show (if rs.all plain = true then none else (firstLow rs 0).map fun i => Er.wish i) = none
          rw [if_neg (by rw [hp']; exact Bool.false_ne_true), firstLow_none fun r hr => by
            obtain ⟨i, hi⟩ := List.mem_iff_getElem?.mp hr
            exact hb2 i r (List.getElem?_eq_some_iff.mp hi).1 hi]
          rfl
      · unfold bookErr
        rw [if_neg h5, hbad]
        show (if rs.all plain = true then none else (firstLow rs 0).map fun i => Er.wish i) = none
        rw [if_pos (by simpa using hp)]
def spSl (K : PySem.W.Frag) (c : Ad) : Sp := fun vs H Q E => ∃ (b f : Addr) (t : Nat) (rs : List Row) (z : Int), vs = [.ref b, .int z] ∧ BookAt K c H b f t rs ∧ rs.length ≤ 6 ∧ ((z < 0 ∨ z ≥ rs.length) → Err c.CW "at" (.int z) H E) ∧ (∀ i : Nat, z = i → i < rs.length → RetV (.int (slackOf t rs (rs.getD i r0))) H Q)
theorem q_lookW {ta : TA} {σ : L2.St} {H : Hp} {D : Ends} {tz : TS} {E : L2.St → XK} {b f : Addr} {t : Nat} {rs : List Row} {z : Int} (h : EvA ta σ H [.ref b, .int z]) (hB : BookAt K c H b f t rs) (bad : (z < 0 ∨ z ≥ rs.length) → Err c.CW "at" (.int z) H (E σ)) (ok : ¬ (z < 0 ∨ z ≥ rs.length) → ∀ H1, Ex H H1 → tz D σ H1) :
    tSeq (tDrop (tCallS (spLW K c) E ta)) tz D σ H := h H (Ex.refl H) _ fun H1 e1 => ⟨b, f, t, rs, z, rfl, hB.mono e1, fun c => (bad c).mono e1, fun c H2 e2 => ok c H2 (e1.trans e2)⟩
theorem dstr (a b : Str) : decide (V.str a = V.str b) = decide (a = b) := by
  by_cases h : a = b
  · rw [h]; simp
  · rw [decide_eq_false h, decide_eq_false (fun e => h (V.str.inj e))]
theorem ok_Book_slack (T : Tx P w K mg base c) (h_look_wish : Has P w K mg base 4 "look_wish" ["book", "at"] (spLW K c)) {fL : Addr} {fdL : FuncData} (D : Fun K "slack" "Book.slack" s_Book_slack fL fdL) : FnOk P w K mg base (L2.CX P w) 8 fL fdL ["self", "at"] (spSl K c) := by
  refine D.okX sc_Book_slack (fun vs H Q E h => ?len) (fun cdv A outer s H vs Q E hr h => ?body)
  case len =>
    obtain ⟨_, _, _, _, _, rfl, _, _, _, _⟩ := h
    rfl
  case body =>
    have tk : Takes (cxOf (L2.CX P w) P w K mg base ["self", "at"] "Book.slack" (defScope s_Book_slack) fL cdv A outer s H E) (fun cls d _ H => E cls d H) := takes_of rfl rfl rfl rfl
    obtain ⟨b, f, t, rs, z, rfl, hB, h6, hE, h⟩ := h
    refine ⟨_, (pss_cons (ps_expr (pe_hasR h_look_wish (hr.mono (by decide)) tk (pa_cons (pv 0) (pa_cons (pv 1) pa_nil))))
      (pss_cons (ps_if (pt_cmpR op_eq (pe_fld (pv 0) rfl) pe_str (nomark _)) (pss_one (ps_ret (pe_op op_mul (pe_fld (pv 0) rfl) (pe_callB (call_max2 rfl) (by rfl) T.z_max (by decide +kernel) (pa_cons pe_int (pa_cons (pe_fld (pe_ix ix_tup (pe_fld (pv 0) rfl) (pv 1) (fun _ _ => rfl)) rfl) pa_nil)))))) pss_nil)
      (pss_one (ps_ret (pe_callB (call_max2 rfl) (by rfl) T.z_max (by decide +kernel) (pa_cons pe_int (pa_cons (pe_ifExp (pt_cmpR op_eq (pe_fld (pv 0) rfl) pe_str (nomark _)) (pe_op op_sub (pe_op op_mul pe_int (pe_fld (pv 0) rfl)) pe_int) (pe_op op_sub (pe_fld (pv 0) rfl) pe_int)) pa_nil))))))), ?_⟩
    refine q_lookW (z := z) (ea_cons (ev_var rfl) (ea_cons (ev_var rfl) ea_nil)) hB hE fun hin H1 e1 => ?_
    obtain ⟨dx, tw, ads, gb, gt, hW⟩ := hB.mono e1
    have hz : z = (z.toNat : Nat) := by omega
    have hi : z.toNat < rs.length := by omega
    have hi2 : z.toNat < ads.length := by rw [hW.1]; exact hi
    have hret := h _ hz hi
    have hd0 := deep0 t rs
    refine q_when (b := decide (kindOf rs = "weighted")) (et_is (et_test (ev_op (ev_fld (ev_var rfl) gb T.cB (T.nB _ (by decide)) rfl) ev_c (rv_eq rfl))) (dstr _ _)) (fun hb H2 e2 => ?_) (fun hb H2 e2 => ?_)
    · have hk : kindOf rs = "weighted" := of_decide_eq_true hb
      have ha : ads[z.toNat]? = some ads[z.toNat] := List.getElem?_eq_getElem hi2
      have hw : WishAt K c H2 ads[z.toNat] (rs.getD z.toNat r0) := (hW.2 _ _ ha).mono e2
      have ei : Ev (tOp (rIxT K) (tFld K (tVar 0) "wishes") (tVar 1)) [some (.ref b), some (.int z)] H2 (.ref ads[z.toNat]) := ev_op (ev_fld (ev_var rfl) (e2 b _ gb) T.cB (T.nB _ (by decide)) rfl) (ev_var (v := .int z) rfl) (by
        refine rv_ixT (st_of (e2 tw _ gt)) ?_
        have := atI_nat (xs := ads.map V.ref) (j := z.toNat) (v := .ref ads[z.toNat]) (by rw [List.getElem?_map, ha]; rfl)
        rwa [← hz] at this)
      have e : slackOf t rs (rs.getD z.toNat r0) = deep t rs * (if great (rs.getD z.toNat r0) > 1 then great (rs.getD z.toNat r0) else 1) := by unfold slackOf; rw [if_pos hk]
      rw [e] at hret
      exact s_ret (ev_op (ev_fld (ev_var rfl) (e2 b _ gb) T.cB (T.nB _ (by decide)) rfl) (ev_max2 ev_c (hw.fld T ei).2.2.1) (rv_I (.inl ⟨by omega, by omega⟩))) fun H3 e3 => hret H3 ((e1.trans e2).trans e3)
    · have hk : ¬ kindOf rs = "weighted" := of_decide_eq_false hb
      have gb2 := e2 b _ gb
      refine s_ret (v := .int (slackOf t rs (rs.getD z.toNat r0))) (ev_is (ev_max2 ev_c (ev_if (v := .int (if kindOf rs = "both" then 2 * deep t rs - 2 else deep t rs - 1)) (b := decide (kindOf rs = "both")) (et_is (et_test (ev_op (ev_fld (ev_var rfl) gb2 T.cB (T.nB _ (by decide)) rfl) ev_c (rv_eq rfl))) (dstr _ _)) (fun hb2 => ?_) (fun hb2 => ?_))) ?_) fun H3 e3 => hret H3 ((e1.trans e2).trans e3)
      · rw [if_pos (of_decide_eq_true hb2)]
        exact ev_op (ev_op ev_c (ev_fld (ev_var rfl) gb2 T.cB (T.nB _ (by decide)) rfl) (rv_I (.inl ⟨by decide, by decide⟩))) ev_c rv_I0
      · rw [if_neg (of_decide_eq_false hb2)]
        exact ev_op (ev_fld (ev_var rfl) gb2 T.cB (T.nB _ (by decide)) rfl) ev_c rv_I0
      · unfold slackOf
        rw [if_neg hk]
        split <;> rfl
theorem optV_inj {a b : Option Int} (h : optV a = optV b) : a = b := by
  cases a with
  | none => cases b with
    | none => rfl
    | some z => cases h
  | some y => cases b with
    | none => cases h
    | some z => cases h; rfl
theorem ints_inj {xs ys : List Int} (h : xs.map V.int = ys.map V.int) : xs = ys := by
  have := congrArg (List.map fun v : V => match v with | .int z => z | _ => 0) h
  rw [List.map_map, List.map_map] at this
  simpa [Function.comp_def] using this
theorem WishAt.same {H : Hp} {a : Addr} {r s : Row} (h : WishAt K c H a r) (h' : WishAt K c H a s) : r = s := by
  obtain ⟨dx, tw, fs, g, h1, h2, h3, _, _, h6⟩ := h
  obtain ⟨dx', tw', fs', g', h1', h2', h3', _, _, h6'⟩ := h'
  rw [g] at g'
  cases g'
  rw [h1] at h1'
  cases h1'
  rw [h6] at h6'
  rw [h2] at h2'
  rw [h3] at h3'
  obtain ⟨w, a1, a2⟩ := r
  obtain ⟨w', b1, b2⟩ := s
  have e1 : w = w' := ints_inj (by injection h6' with z; injection z)
  have e2 : a1 = b1 := optV_inj (by injection h2')
  have e3 : a2 = b2 := optV_inj (by injection h3')
  rw [e1, e2, e3]
def spBkE (K : PySem.W.Frag) (c : Ad) : Sp := fun vs H Q E => ∃ (a f : Addr) (t : Nat) (rk : List Int) (rs : List Row) (v : V), vs = [.ref a, v] ∧ BookAt K c H a f t rs ∧ FamAt K c H f t rk ∧
  ((∃ (b g : Addr) (u : Nat) (sk : List Int) (ss : List Row), v = .ref b ∧ BookAt K c H b g u ss ∧ FamAt K c H g u sk ∧ RetV (.bl ((decide ((t : Int) = (u : Int)) && decide (rk = sk)) && decide (rs = ss))) H Q) ∨ ∃ z : Int, v = .int z ∧ RetV (.bl false) H Q)
theorem ok_Book_eq (T : Tx P w K mg base c) (h_FeqC : HasF P w K mg base 3 c.KC "__eq__" ["self", "other"] (spFamE K c)) (h_FeqG : HasF P w K mg base 3 c.KG "__eq__" ["self", "other"] (spFamE K c)) (h_Weq : HasF P w K mg base 4 c.KW "__eq__" ["self", "other"] (spWiE K c)) {fL : Addr} {fdL : FuncData} (D : Fun K "__eq__" "Book.__eq__" s_Book_eq fL fdL) : FnOk P w K mg base (L2.CX P w) 10 fL fdL ["self", "other"] (spBkE K c) := by
  refine D.okX sc_Book_eq (fun vs H Q E h => ?len) (fun cdv A outer s H vs Q E hr h => ?body)
  case len =>
    obtain ⟨_, _, _, _, _, _, rfl, _, _, _⟩ := h
    rfl
  case body =>
    have tk : Takes (cxOf (L2.CX P w) P w K mg base ["self", "other"] "Book.__eq__" (defScope s_Book_eq) fL cdv A outer s H E) (fun cls d _ H => E cls d H) := takes_of rfl rfl rfl rfl
    obtain ⟨a, f, t, rk, rs, v, rfl, hA, hF, hv⟩ := h
    refine ⟨_, (pss_one (ps_ret (pe_and (pe_callB call_isi (by rfl) T.z_isinstance (by decide +kernel) (pa_cons (pv 1) (pa_cons (pe_glob (v := .ref c.KB) rfl T.e_Book.g rfl) pa_nil))) (pe_and (pe_cmpR (OpR.or (op_eqAny h_FeqC (TB := fun D => D = c.KC ∨ D = c.KG) (fun D h => T.nfF _ D (.inl rfl) h) (T.nfI _ (.inl rfl)) (hr.mono (by decide))) (op_eqAny h_FeqG (TB := fun D => D = c.KC ∨ D = c.KG) (fun D h => T.nfF _ D (.inr rfl) h) (T.nfI _ (.inr (.inl rfl))) (hr.mono (by decide)))) (pe_fld (pv 0) rfl) (pe_fld (pv 1) rfl) (nomark _)) (pe_one (pe_cmpR (op_eqTupI h_Weq (T.nfI _ (.inr (.inr (.inl rfl)))) (hr.mono (by decide))) (pe_fld (pv 0) rfl) (pe_fld (pv 1) rfl) (nomark _))))))), ?_⟩
    rcases hv with ⟨b, g, u, sk, ss, rfl, hB, hG, h⟩ | ⟨z, rfl, h⟩
    · obtain ⟨dx, tw, ads, ga, gt, hW⟩ := hA
      obtain ⟨dy, uw, bds, gb, gu, hX⟩ := hB
      obtain ⟨C, dF, tr, fs, hC, gF, _⟩ := id hF
      obtain ⟨C2, dG, ts, gs, hC2, gG, _⟩ := id hG
      refine s_ret (ev_is (ev_andV (a := true) (b := (decide ((t : Int) = (u : Int)) && decide (rk = sk)) && decide (rs = ss)) (ev_isi (ea_cons (ev_var rfl) (ea_cons ev_c ea_nil)) (.own c.KB) (fun H1 e1 => tyx_i T (.inr (.inr (.inr rfl))) (e1 b _ gb)) T.kBB) fun _ => ?_) (by simp)) fun H1 e1 => h H1 e1
      refine ev_andV (ev_op (ev_fld (ev_var rfl) ga T.cB (T.nB _ (by decide)) rfl) (ev_fld (ev_var rfl) gb T.cB (T.nB _ (by decide)) rfl) (fun H1 e1 Q' q' => ?_)) fun _ => ?_
      · have key : spFamE K c [.ref f, .ref g] H1 Q' E0 := ⟨f, g, (t : Nat), (u : Nat), rk, sk, rfl, hF.mono e1, hG.mono e1, fun H2 e2 => q' H2 e2⟩
        rcases hC with rfl | rfl
        · exact .inl ⟨⟨f, dF, fs, rfl, e1 f _ gF⟩, .inl ⟨g, C2, dG, gs, rfl, e1 g _ gG, hC2⟩, key⟩
        · exact .inr ⟨⟨f, dF, fs, rfl, e1 f _ gF⟩, .inl ⟨g, C2, dG, gs, rfl, e1 g _ gG, hC2⟩, key⟩
      · refine ev_op (ev_fld (ev_var rfl) ga T.cB (T.nB _ (by decide)) rfl) (ev_fld (ev_var rfl) gb T.cB (T.nB _ (by decide)) rfl) (fun H1 e1 Q' q' => ?_)
        refine ⟨tw, uw, ads.map V.ref, bds.map V.ref, fun i => decide (rs.getD i r0 = ss.getD i r0), rfl, rfl, st_of (e1 tw _ gt), st_of (e1 uw _ gu), fun i x y hx hy => ?_, ?_⟩
        · obtain ⟨p, rfl, hp⟩ := at_refs hx
          obtain ⟨q, rfl, hq⟩ := at_refs hy
          have w1 := (hW.2 i p hp).mono e1
          have w2 := (hX.2 i q hq).mono e1
          obtain ⟨d1, _, f1, g1, _⟩ := id w1
          obtain ⟨d2, _, f2, g2, _⟩ := id w2
          refine ⟨p, q, d1, d2, f1, f2, rfl, rfl, g1, g2, fun e => ?_, fun H2 e2 Q2 q2 => ⟨p, q, _, _, rfl, w1.mono e2, w2.mono e2, fun H3 e3 => q2 H3 e3⟩⟩
          subst e
          exact decide_eq_true (w1.same w2)
        · have e : ((List.range (min (ads.map V.ref).length (bds.map V.ref).length)).all (fun i => decide (rs.getD i r0 = ss.getD i r0)) && decide ((ads.map V.ref).length = (bds.map V.ref).length)) = decide (rs = ss) := by
            rw [List.length_map, List.length_map, hW.1, hX.1, Bool.eq_iff_iff]
            simp only [Bool.and_eq_true, List.all_eq_true, List.mem_range, decide_eq_true_eq]
            constructor
            · rintro ⟨h1, h2⟩
              rw [← map_getD r0 rs, ← map_getD r0 ss, h2]
              apply List.map_congr_left
              intro i hi
              exact h1 i (by rw [h2, Nat.min_self]; exact List.mem_range.mp hi)
            · rintro rfl
              exact ⟨fun _ _ => rfl, rfl⟩
          rw [e]
          exact q'
    · refine s_ret (ev_andV (a := false) (b := false) (ev_isi (ea_cons (ev_var rfl) (ea_cons ev_c ea_nil)) (.own c.KB) (fun H1 e1 => .base (.int z)) T.kIB) fun hb => Bool.noConfusion hb) fun H1 e1 => h H1 e1
end
end K4
namespace K4
open PySem PySem.Spec PyProof.Rows L2 Evl Nd
local macro_rules | `(tactic| walk_at "ev") => `(tactic| first
  | exact ev_var rfl
  | exact ev_c
  | (apply ev_op; (walk_at "ev"); (walk_at "ev"); (walk_at "rv"))
  | (apply ev_un; (walk_at "ev"); (walk_at "rv"))
  | (apply ev_lenS; (walk_at "ev"); (walk_at "sq"))
  | (apply ev_andV; (walk_at "ev"); (intro _; walk_at "ev"))
  | (apply ev_orV; (walk_at "ev"); (intro _; walk_at "ev"))
  | (apply ev_notV; (walk_at "ev")))
local macro_rules | `(tactic| walk_at "rv") => `(tactic| first
  | exact rv_I0
  | exact ru_neg
  | exact rv_eq rfl
  | exact rv_ne rfl
  | exact rv_I (by decide)
  | exact rv_I (by first | omega | exact .inl (by omega) | exact .inr (by omega) | (constructor <;> omega)))
local macro_rules | `(tactic| walk_at "sq") => `(tactic| first
  | assumption
  | exact SqS.lst (by assumption)
  | exact SqS.tup (by assumption)
  | exact Or.inl (by assumption)
  | exact Or.inr (by assumption)
  | (refine SqS.mono (by assumption) ?_; walk_at "sq"))
local macro_rules | `(tactic| walk_at "et") => `(tactic| first
  | (apply et_or; (walk_at "et"); (intro _; walk_at "et"))
  | (apply et_and; (walk_at "et"); (intro _; walk_at "et"))
  | (apply et_not; (walk_at "et"))
  | (apply et_test; (walk_at "ev"))
  | (apply et_B; (walk_at "ev")))
local macro_rules | `(tactic| walk_at "ea") => `(tactic| first
  | exact ea_nil
  | (apply ea_cons; (walk_at "ev"); (walk_at "ea")))
section
variable {P : Program} {w : World} {K : PySem.W.Frag} {mg : Str → Option Value} {base : Heap} {c : Ad}
/-! ### the law's drawing -/
def spTake : Sp := fun vs H Q E => ∃ (p : Addr) (many : Int), vs = [.ref p, .int many] ∧ 0 < many ∧ Tape H p ∧ ∀ r H2, 0 ≤ r → r < many → But p H H2 → Tape H2 p → Q (.int r) H2
def spDigits (K : PySem.W.Frag) : Sp := fun vs H Q E => ∃ (a : Addr) (ns : List Int), vs = [.ref a] ∧ SqL K H a (ns.map V.int) ∧ ∀ p H2, H p = none → Ex H H2 → Tape H2 p → Q (.ref p) H2
theorem go_take {ta : TA} {σ : L2.St} {H : Hp} {Q : VK} {E : L2.St → XK} {p : Addr} {many : Int} (h : EvA ta σ H [.ref p, .int many]) (hm : 0 < many) (ht : Tape H p) (k : ∀ r H2, 0 ≤ r → r < many → But p H H2 → Tape H2 p → Q (.int r) H2) :
    tCallS spTake E ta σ H Q := h H (Ex.refl H) _ fun H1 e1 => ⟨p, many, rfl, hm, ht.mono e1, fun r H2 a b c d => k r H2 a b ((But.of e1).trans c) d⟩
theorem q_take {ta : TA} {σ : L2.St} {H : Hp} {D : Ends} {tz : TS} {E : L2.St → XK} {p : Addr} {many : Int} {i : Nat} (h : EvA ta σ H [.ref p, .int many]) (hm : 0 < many) (ht : Tape H p) (k : ∀ r H2, 0 ≤ r → r < many → But p H H2 → Tape H2 p → tz D (σ.set i (some (.int r))) H2) :
    tSeq (tAsg (tCallS spTake E ta) (gName i)) tz D σ H := go_take h hm ht k
theorem has__law_take (T : Tx P w K mg base c) (D : DefAt K mg "_law_take" s__law_take ["tape", "many"]) : Has P w K mg base 4 "_law_take" ["tape", "many"] (spTake) := by
  refine D.has sc__law_take (fun vs H Q E h => ?len) (fun f cdv A outer s H vs Q E hr h => ?body)
  case len =>
    obtain ⟨_, _, rfl, _, ⟨_, _⟩, _⟩ := h
    rfl
  case body =>
    have tk : Takes (cxOf (L2.CX P w) P w K mg base ["tape", "many"] "_law_take" (defScope s__law_take) f cdv A outer s H E) (fun cls d _ H => E cls d H) := takes_of rfl rfl rfl rfl
    obtain ⟨p, many, rfl, hm, ⟨ds, hp⟩, h⟩ := h
    refine ⟨_, (pss_cons (ps_if (pt_cmpR (op_eqD hr.units) (pv 0) (pe_lst pa_nil) (nomark _)) (pss_one (ps_ret pe_int)) pss_nil)
      (pss_one (ps_ret (pe_op op_modN (pe_callTy call_int1 (by rfl) T.z_int (by decide +kernel) (pa_cons (pe_bm PySem.F.plainAttrs_list PySem.F.slot_list_pop PySem.F.type_list_pop mt_popAt (pv 0) (pa_cons pe_int pa_nil)) pa_nil)) (pv 1))))), ?_⟩
    have fin : ∀ d : Int, 0 ≤ d.fmod many ∧ d.fmod many < many := fun d => ⟨Int.fmod_nonneg_of_pos _ hm, Int.fmod_lt_of_pos _ hm⟩
    refine q_when (b := decide (ds = [])) (et_test (ev_eqDD (ed_ev (ev_var rfl) (.lst (sq_of hp) (dp_ints ds))) (ed_el (el_lst ea_nil (by decide)) .nil) (shaped_l ds) (shaped_l []) (by
      cases ds with
      | nil => rfl
      | cons z r => rfl))) (fun hb H2 e2 => ?a) (fun hb H2 e2 => ?b)
    case a => exact s_ret ev_c fun H3 e3 => h 0 H3 (by decide) hm (But.of (e2.trans e3)) ⟨ds, (e2.trans e3) p _ hp⟩
    case b =>
      cases ds with
      | nil => cases hb
      | cons z r =>
        have hp2 := e2 p _ hp
        refine ⟨.ref p, rfl, .inl ⟨rfl, _, sq_of hp2⟩, p, _, 0, 0, .int z, rfl, rfl, hp2, by decide, by decide, by simp [seqIndex?], rfl, .inl ⟨z, rfl, ?_⟩⟩
        refine (ev_var (i := 1) (v := .int many) (σ := [some (.ref p), some (.int many)]) rfl) _ (Ex.refl _) _ fun H3 e3 => ?_
        exact ⟨z, many, rfl, rfl, by omega, h _ H3 (fin z).1 (fin z).2 ((But.of e2).upd.trans (But.of e3)) ⟨r, e3 p _ upd_same⟩⟩
theorem cpow12 : CPowW 12 14 := by unfold CPowW; decide +kernel
theorem has__law_digits (T : Tx P w K mg base c) (D : DefAt K mg "_law_digits" s__law_digits ["script"]) : Has P w K mg base 4 "_law_digits" ["script"] (spDigits K) := by
  refine D.has sc__law_digits (fun vs H Q E h => ?len) (fun f cdv A outer s H vs Q E hr h => ?body)
  case len =>
    obtain ⟨_, _, rfl, _, _⟩ := h
    rfl
  case body =>
    have tk : Takes (cxOf (L2.CX P w) P w K mg base ["script", "tape", "cell", "rest", "turn"] "_law_digits" (defScope s__law_digits) f cdv A outer s H E) (fun cls d _ H => E cls d H) := takes_of rfl rfl rfl rfl
    obtain ⟨a, ns, rfl, hS, h⟩ := h
    refine ⟨_, (pss_cons (ps_set (i := 1) sc__law_digits.nd rfl (.inl rfl) (pe_lst pa_nil))
      (pss_cons (ps_for (passes_of rfl) rfl (pi_list (pe_slice sl_list (pv 0) po_none (po_some pe_int))) (pg_name (i := 2) sc__law_digits.nd rfl (.inl rfl)) (pss_cons (ps_set (i := 3) sc__law_digits.nd rfl (.inl rfl) (pe_op op_modN (pe_callB call_abs (by rfl) T.z_abs (by decide +kernel) (pa_cons (pv 2) pa_nil)) (pe_op op_powW pe_int pe_int)))
      (pss_cons (ps_expr (pe_bm PySem.F.plainAttrs_list PySem.F.slot_list_append PySem.F.type_list_append mt_append (pv 1) (pa_cons (pe_op op_mod (pv 3) pe_int) pa_nil)))
      (pss_cons (ps_set (i := 3) sc__law_digits.nd rfl (.inl rfl) (pe_op op_fdiv (pv 3) pe_int))
      (pss_one (ps_for (passes_of rfl) rfl (pi_range1 rfl T.z_range (pa_cons pe_int pa_nil)) (pg_name (i := 4) sc__law_digits.nd rfl (.inl rfl)) (pss_one (ps_if (pt_cmpR op_gt (pv 3) pe_int (nomark _)) (pss_cons (ps_expr (pe_bm PySem.F.plainAttrs_list PySem.F.slot_list_append PySem.F.type_list_append mt_append (pv 1) (pa_cons (pe_op op_mod (pv 3) pe_int) pa_nil)))
      (pss_one (ps_set (i := 3) sc__law_digits.nd rfl (.inl rfl) (pe_op op_fdiv (pv 3) pe_int)))) pss_nil))))))))
      (pss_one (ps_ret (pv 1))))), ?_⟩
    refine q_asgL (el_lst ea_nil (by decide)) fun p H1 hp e1 g1 => ?_
    refine q_forNL (el_to 63 (ev_var rfl) ev_c (ex_l e1 hS)) (fun q i σ' H' => ∃ v2 v3 v4, σ' = [some (.ref a), some (.ref p), v2, v3, v4] ∧ Ex H H' ∧ SqL K H' q ((ns.take 63).map V.int) ∧ q ≠ p ∧ ∃ ds : List Int, H' p = some (.lst (ds.map V.int)) ∧ ds.length ≤ 14 * i)
      (fun q H2 hq e2 g2 => ⟨none, none, none, rfl, e1.trans e2, sq_of g2, (fun e => by rw [e, g1] at hq; cases hq), [], e2 p _ g1, by simp⟩) (fun q i σ' H' _ w => by obtain ⟨_, _, _, _, _, g, _⟩ := w; exact g) ?turn ?fin
    case turn =>
      rintro q i x σ' H' hx ⟨v2, v3, v4, rfl, x1, hq, hne, ds, hp', hl⟩
      obtain ⟨rfl, hi⟩ := at_ints hx
      have hi63 : i < 63 := by rw [List.length_take] at hi; omega
      have p12 : (0 : Int) < (12 : Int) ^ (14 : Int).toNat := by decide
      refine q_asg (ev_op (ev_abs (ev_var rfl)) (ev_powW ev_c ev_c cpow12) (rv_I (by omega))) fun H2 e2 => ?_
      generalize hz : (Int.fmod (if (List.take 63 ns).getD i 0 < 0 then -(List.take 63 ns).getD i 0 else (List.take 63 ns).getD i 0) ((12 : Int) ^ (14 : Int).toNat)) = z
      have z0 : 0 ≤ z := by rw [← hz]; exact Int.fmod_nonneg_of_pos _ p12
      refine q_app (e2 p _ hp') (ev_var rfl) (ev_op (ev_var rfl) ev_c (rv_mod (by decide))) (by rw [List.length_map]; omega) fun H3 e3 => ?_
      refine q_asg (ev_op (ev_var rfl) ev_c (rv_I (show CDiv z 12 from ⟨by decide, by decide⟩))) fun H4 e4 => ?_
      have xx : Ex H H4 := ((x1.trans (e2.trans e3)).mut hp).trans e4
      have hq4 : SqL K H4 q ((ns.take 63).map V.int) := ex_l e4 (sql_upd hne (ex_l (e2.trans e3) hq))
      have hp4 : H4 p = some (.lst ((ds ++ [z % 12]).map V.int)) := e4 p _ (by rw [upd_same, List.map_append]; rfl)
      have hl4 : (ds ++ [z % 12]).length ≤ 14 * i + 1 := by rw [List.length_append, List.length_cons, List.length_nil]; omega
      clear hz
      generalize ds ++ [z % 12] = ds at hp4 hl4
      refine s_forR1 (n := 13) (ea_cons ev_c ea_nil) (by omega) (fun j σ' H' => ∃ v2 z v4, σ' = [some (.ref a), some (.ref p), v2, some (.int z), v4] ∧ 0 ≤ z ∧ Ex H H' ∧ SqL K H' q ((ns.take 63).map V.int) ∧ ∃ ds : List Int, H' p = some (.lst (ds.map V.int)) ∧ ds.length ≤ 14 * i + 1 + j)
        (fun H3 e3 => ⟨_, _, v4, rfl, by omega, xx.trans e3, ex_l e3 hq4, ds, e3 p _ hp4, by omega⟩) ?turn2 ?fin2
      case turn2 =>
        rintro j σ' H3 hj ⟨v2, z, v4, rfl, z0, x3, hq3, ds, hp3, hl3⟩
        have hj' : j < 13 := by omega
        refine s_when (et_test (ev_op (ev_var rfl) ev_c rv_I0)) (fun hb H4 e4 => ?a) (fun hb H4 e4 => ?b)
        case b => exact ⟨_, z, _, rfl, z0, x3.trans e4, ex_l e4 hq3, ds, e4 p _ hp3, by omega⟩
        case a =>
          refine q_app (e4 p _ hp3) (ev_var rfl) (ev_op (ev_var rfl) ev_c (rv_mod (by decide))) (by rw [List.length_map]; omega) fun H5 e5 => ?_
          refine s_asg (ev_op (ev_var rfl) ev_c (rv_I (show CDiv z 12 from ⟨by decide, by decide⟩))) fun H6 e6 => ?_
          refine ⟨_, z / 12, _, rfl, by omega, ((x3.trans (e4.trans e5)).mut hp).trans e6, ex_l e6 (sql_upd hne (ex_l (e4.trans e5) hq3)), ds ++ [z % 12], e6 p _ (by rw [upd_same, List.map_append]; rfl), by rw [List.length_append, List.length_cons, List.length_nil]; omega⟩
      case fin2 =>
        rintro σ' H3 ⟨v2, z, v4, rfl, z0, x3, hq3, ds, hp3, hl3⟩
        exact ⟨_, _, _, rfl, x3, hq3, hne, ds, hp3, by have e : ((13 : Int)).toNat = 13 := rfl; omega⟩
    case fin =>
      rintro q σ' H' ⟨v2, v3, v4, rfl, x1, hq, hne, ds, hp', hl⟩
      exact s_ret (ev_var rfl) fun H2 e2 => h p H2 (by
        cases z : H p with
        | none => rfl
        | some u => rw [e1 p _ z] at g1; exact absurd hp (by rw [z]; exact fun y => by cases y)) (x1.trans e2) ⟨ds, e2 p _ hp'⟩
theorem has__law_two (T : Tx P w K mg base c) (h__law_take : Has P w K mg base 4 "_law_take" ["tape", "many"] (spTake)) (D : DefAt K mg "_law_two" s__law_two ["tape", "many"]) : Has P w K mg base 6 "_law_two" ["tape", "many"] (spTake) := by
  refine D.has sc__law_two (fun vs H Q E h => ?len) (fun f cdv A outer s H vs Q E hr h => ?body)
  case len =>
    obtain ⟨_, _, rfl, _, _, _⟩ := h
    rfl
  case body =>
    have tk : Takes (cxOf (L2.CX P w) P w K mg base ["tape", "many", "high"] "_law_two" (defScope s__law_two) f cdv A outer s H E) (fun cls d _ H => E cls d H) := takes_of rfl rfl rfl rfl
    obtain ⟨p, many, rfl, hm, ht, h⟩ := h
    refine ⟨_, (pss_cons (ps_set (i := 2) sc__law_two.nd rfl (.inl rfl) (pe_hasN h__law_take (hr.mono (by decide)) (pa_cons (pv 0) (pa_cons pe_int pa_nil))))
      (pss_one (ps_ret (pe_op op_modN (pe_callTy call_int1 (by rfl) T.z_int (by decide +kernel) (pa_cons (pe_op op_add (pe_op op_mul pe_int (pv 2)) (pe_hasN h__law_take (hr.mono (by decide)) (pa_cons (pv 0) (pa_cons pe_int pa_nil)))) pa_nil)) (pv 1))))), ?_⟩
    have fin : ∀ d : Int, 0 ≤ d.fmod many ∧ d.fmod many < many := fun d => ⟨Int.fmod_nonneg_of_pos _ hm, Int.fmod_lt_of_pos _ hm⟩
    refine q_take (many := 12) (ea_cons (ev_var rfl) (ea_cons ev_c ea_nil)) (by decide) ht fun a H1 a0 a1 b1 t1 => ?_
    refine (ev_op (σ := [some (.ref p), some (.int many), some (.int a)]) (ev_c (v := .int 12)) (ev_var (i := 2) (v := .int a) rfl) (rv_I (C := CMul) (g := fun i j => .int (i * j)) (.inl ⟨by decide, by decide⟩))) H1 (Ex.refl H1) _ fun H2 e2 => ?_
    refine go_take (many := 12) (ea_cons (ev_var rfl) (ea_cons ev_c ea_nil)) (by decide) (t1.mono e2) fun r H3 r0 r1 b3 t3 => ?_
    refine ⟨12 * a, r, rfl, rfl, .inl ⟨12 * a + r, rfl, ?_⟩⟩
    refine (ev_var (i := 1) (σ := [some (.ref p), some (.int many), some (.int a)]) (v := .int many) rfl) H3 (Ex.refl H3) _ fun H4 e4 => ?_
    exact ⟨_, many, rfl, rfl, by omega, h _ H4 (fin _).1 (fin _).2 (((b1.trans (But.of e2)).trans b3).trans (But.of e4)) (t3.mono e4)⟩
end
end K4
namespace K4
open PySem PySem.Spec PyProof.Rows L2 Evl Nd
local macro_rules | `(tactic| walk_at "ev") => `(tactic| first
  | exact ev_var rfl
  | exact ev_c
  | (apply ev_op; (walk_at "ev"); (walk_at "ev"); (walk_at "rv"))
  | (apply ev_un; (walk_at "ev"); (walk_at "rv"))
  | (apply ev_lenS; (walk_at "ev"); (walk_at "sq"))
  | (apply ev_andV; (walk_at "ev"); (intro _; walk_at "ev"))
  | (apply ev_orV; (walk_at "ev"); (intro _; walk_at "ev"))
  | (apply ev_notV; (walk_at "ev")))
local macro_rules | `(tactic| walk_at "rv") => `(tactic| first
  | exact rv_I0
  | exact ru_neg
  | exact rv_eq rfl
  | exact rv_ne rfl
  | exact rv_I (by decide)
  | exact rv_I (by first | omega | exact .inl (by omega) | exact .inr (by omega) | (constructor <;> omega)))
local macro_rules | `(tactic| walk_at "sq") => `(tactic| first
  | assumption
  | exact SqS.lst (by assumption)
  | exact SqS.tup (by assumption)
  | exact Or.inl (by assumption)
  | exact Or.inr (by assumption)
  | (refine SqS.mono (by assumption) ?_; walk_at "sq"))
local macro_rules | `(tactic| walk_at "et") => `(tactic| first
  | (apply et_or; (walk_at "et"); (intro _; walk_at "et"))
  | (apply et_and; (walk_at "et"); (intro _; walk_at "et"))
  | (apply et_not; (walk_at "et"))
  | (apply et_test; (walk_at "ev"))
  | (apply et_B; (walk_at "ev")))
local macro_rules | `(tactic| walk_at "ea") => `(tactic| first
  | exact ea_nil
  | (apply ea_cons; (walk_at "ev"); (walk_at "ea")))
section
variable {P : Program} {w : World} {K : PySem.W.Frag} {mg : Str → Option Value} {base : Heap} {c : Ad}
/-! ### the law's looks at data -/
def small : Nat → PyData → Prop
  | 0, _ => False
  | n + 1, .tuple ds => ds.length ≤ 100 ∧ ∀ d ∈ ds, small n d
  | n + 1, .list ds => ds.length ≤ 100 ∧ ∀ d ∈ ds, small n d
  | _ + 1, _ => True
def spSame (K : PySem.W.Frag) (n : Nat) : Sp := fun vs H Q E => ∃ (a b : V) (d : PyData), vs = [a, b] ∧ small n d ∧ Dp K H a d ∧ Dp K H b d ∧ RetV (.bl true) H Q
theorem tyx_l {H : Hp} {a : Addr} {xs : List V} (h : SqL K H a xs) : TyX K H (.ref a) (.type "list") := by
  rcases h with (h | ⟨u, h⟩) | ⟨o, _, _, h, e, _⟩
  · exact .base (.lst h)
  · exact .base (.frz h)
  · exact .kList h e
theorem isN {σ : L2.St} {H : Hp} {te : TE} {v : V} {b : Bool} (h : Ev te σ H v) (e : decide (v = .non) = b) : EvT (tTest (tOp (fun x y H Q => y = .non ∧ Q (.bl (decide (x = .non))) H) te (tC .non))) σ H b := et_is (et_test (ev_op h ev_c rv_isN)) e
theorem isT {σ : L2.St} {H : Hp} {te : TE} {v : V} {t u : String} {b : Bool} (h : Ev te σ H v) (ty : TyX K H v (.type t)) (tm : ∀ H1, Ex H H1 → TyX K H1 v (.type t)) (e : kitB t u = some b) : Ev (tCB (rIsi K) (tCons te (tCons (tC (.ty u)) tNil))) σ H (.bl b) := ev_isi (ea_cons h (ea_cons ev_c ea_nil)) (.ty u) tm (kit_ty e)
theorem same_seq {H : Hp} {n : Nat} {a b : Addr} {xs ys : List V} {ds : List PyData} (hA : SqS K H a xs) (hB : SqS K H b ys) (dA : DpAll K H xs ds) (dB : DpAll K H ys ds) (hn : ds.length ≤ 100 ∧ ∀ d ∈ ds, small n d) {E : L2.St → XK} :
    Ev (tCB (rAll K) (tCons (tLc (iRng1 (tCons (tCB (fun vs H Q => ∃ p ys, vs = [.ref p] ∧ (SqL K H p ys ∨ SqT K H p ys) ∧ Q (.int ys.length) H) (tCons (tVar 1) tNil)) tNil)) (gName 2) tYes (tCallS (spSame K n) E (tCons (tOp (rIx K) (tVar 0) (tVar 2)) (tCons (tOp (rIx K) (tVar 1) (tVar 2)) tNil))) [2]) tNil)) [some (.ref a), some (.ref b), none] H (.bl true) := by
  have lb := dpa_len dB
  have la := dpa_len dA
  have comp := el_lcR1 (σ := [some (.ref a), some (.ref b), none]) (H := H) (ta := tCons (tCB (fun vs H Q => ∃ p ys, vs = [.ref p] ∧ (SqL K H p ys ∨ SqT K H p ys) ∧ Q (.int ys.length) H) (tCons (tVar 1) tNil)) tNil) (j := 2) (vs := [2]) (n := (ys.length : Int)) (t := tYes) (te := tCallS (spSame K n) E (tCons (tOp (rIx K) (tVar 0) (tVar 2)) (tCons (tOp (rIx K) (tVar 1) (tVar 2)) tNil)))
    (fun _ => true) (fun _ => .bl true) (ea_cons (ev_lenS (ev_var rfl) hB) ea_nil) (by omega) (by intro x; rfl)
    (fun i H1 e1 hi => fun H6 e6 Q q => q H6 (Ex.refl H6))
    (fun i H1 e1 hi _ => by
      have hi' : i < ds.length := by omega
      have hd := List.getElem?_eq_getElem hi'
      obtain ⟨u, hu, du⟩ := dpa_get dA hd
      obtain ⟨v, hv, dv⟩ := dpa_get dB hd
      exact ev_callS (ea_cons (ev_op (ev_var rfl) (ev_var rfl) (rv_ixS' (hA.mono e1) (atI_nat hu))) (ea_cons (ev_op (ev_var rfl) (ev_var rfl) (rv_ixS' (hB.mono e1) (atI_nat hv))) ea_nil)) fun H2 e2 Q' E' q' => ⟨u, v, _, rfl, hn.2 _ (List.getElem_mem hi'), dp_mono (e1.trans e2) _ du, dp_mono (e1.trans e2) _ dv, q'⟩)
  have eg : given (ys.length : Int).toNat (fun _ => true) (fun _ => V.bl true) = (List.replicate ys.length true).map V.bl := by
    unfold given
    rw [List.filter_eq_self.mpr (fun _ _ => rfl), Int.toNat_natCast]
    apply List.ext_getElem
    · simp
    · intro i h1 h2
      simp
  rw [eg] at comp
  exact ev_is (ev_allN comp) (by simp)
theorem same_none (D : DefAt K mg "_law_same" s__law_same ["actual", "due"]) : Has P w K mg base 3 "_law_same" ["actual", "due"] (spSame K 0) := by
  refine D.has sc__law_same (fun vs H Q E h => ?len) (fun f cdv A outer s H vs Q E hr h => ?body)
  case len =>
    obtain ⟨_, _, _, _, h, _⟩ := h
    exact h.elim
  case body =>
    obtain ⟨_, _, _, _, h, _⟩ := h
    exact h.elim
theorem same_step {k n : Nat} (T : Tx P w K mg base c) (h__law_same : Has P w K mg base k "_law_same" ["actual", "due"] (spSame K n)) (D : DefAt K mg "_law_same" s__law_same ["actual", "due"]) : Has P w K mg base (k + 3) "_law_same" ["actual", "due"] (spSame K (n + 1)) := by
  refine D.has sc__law_same (fun vs H Q E h => ?len) (fun f cdv A outer s H vs Q E hr h => ?body)
  case len =>
    obtain ⟨_, _, _, rfl, _, _, _, _⟩ := h
    rfl
  case body =>
    obtain ⟨a, b, d, rfl, sm, hA, hB, h⟩ := h
    refine ⟨_, (pss_cons (ps_if (pt_cmpR op_isN (pv 1) pe_non (nomark _)) (pss_one (ps_ret (pe_cmpR op_isN (pv 0) pe_non (nomark _)))) pss_nil)
      (pss_cons (ps_if (pt_val (pe_callB call_isi (by rfl) T.z_isinstance (by decide +kernel) (pa_cons (pv 1) (pa_cons (pe_bltn (v := .ty "bool") rfl T.z_bool (by decide +kernel) rfl) pa_nil)))) (pss_one (ps_ret (pe_and (pe_callB call_isi (by rfl) T.z_isinstance (by decide +kernel) (pa_cons (pv 0) (pa_cons (pe_bltn (v := .ty "bool") rfl T.z_bool (by decide +kernel) rfl) pa_nil))) (pe_one (pe_cmpR op_eq (pv 0) (pv 1) (nomark _)))))) pss_nil)
      (pss_cons (ps_if (pt_val (pe_callB call_isi (by rfl) T.z_isinstance (by decide +kernel) (pa_cons (pv 1) (pa_cons (pe_bltn (v := .ty "int") rfl T.z_int (by decide +kernel) rfl) pa_nil)))) (pss_one (ps_ret (pe_and (pe_callB call_isi (by rfl) T.z_isinstance (by decide +kernel) (pa_cons (pv 0) (pa_cons (pe_bltn (v := .ty "int") rfl T.z_int (by decide +kernel) rfl) pa_nil))) (pe_and (pe_not (pe_callB call_isi (by rfl) T.z_isinstance (by decide +kernel) (pa_cons (pv 0) (pa_cons (pe_bltn (v := .ty "bool") rfl T.z_bool (by decide +kernel) rfl) pa_nil)))) (pe_one (pe_cmpR op_eq (pv 0) (pv 1) (nomark _))))))) pss_nil)
      (pss_cons (ps_if (pt_val (pe_callB call_isi (by rfl) T.z_isinstance (by decide +kernel) (pa_cons (pv 1) (pa_cons (pe_bltn (v := .ty "str") rfl T.z_str (by decide +kernel) rfl) pa_nil)))) (pss_one (ps_ret (pe_and (pe_callB call_isi (by rfl) T.z_isinstance (by decide +kernel) (pa_cons (pv 0) (pa_cons (pe_bltn (v := .ty "str") rfl T.z_str (by decide +kernel) rfl) pa_nil))) (pe_one (pe_cmpR op_eq (pv 0) (pv 1) (nomark _)))))) pss_nil)
      (pss_cons (ps_if (PW.pt (pw_and (pt_val (pe_callB call_isi (by rfl) T.z_isinstance (by decide +kernel) (pa_cons (pv 1) (pa_cons (pe_bltn (v := .ty "tuple") rfl T.z_tuple (by decide +kernel) rfl) pa_nil)))) (pw_and1 (pt_not (pt_val (pe_callB call_isi (by rfl) T.z_isinstance (by decide +kernel) (pa_cons (pv 0) (pa_cons (pe_bltn (v := .ty "tuple") rfl T.z_tuple (by decide +kernel) rfl) pa_nil)))))))) (pss_one (ps_ret pe_bl)) pss_nil)
      (pss_cons (ps_if (PW.pt (pw_and (pt_val (pe_callB call_isi (by rfl) T.z_isinstance (by decide +kernel) (pa_cons (pv 1) (pa_cons (pe_bltn (v := .ty "list") rfl T.z_list (by decide +kernel) rfl) pa_nil)))) (pw_and1 (pt_not (pt_val (pe_callB call_isi (by rfl) T.z_isinstance (by decide +kernel) (pa_cons (pv 0) (pa_cons (pe_bltn (v := .ty "list") rfl T.z_list (by decide +kernel) rfl) pa_nil)))))))) (pss_one (ps_ret pe_bl)) pss_nil)
      (pss_cons (ps_if (pt_cmpR op_ne (pe_callB call_len_seq (by rfl) T.z_len (by decide +kernel) (pa_cons (pv 0) pa_nil)) (pe_callB call_len_seq (by rfl) T.z_len (by decide +kernel) (pa_cons (pv 1) pa_nil)) (nomark _)) (pss_one (ps_ret pe_bl)) pss_nil)
      (pss_one (ps_ret (pe_callB (cr_all rfl) (by rfl) T.z_all (by decide +kernel) (pa_cons (pe_lc (own := [("at", 2)]) rfl sc__law_same.nd (pi_range1 rfl T.z_range (pa_cons (pe_callB call_len_seq (by rfl) T.z_len (by decide +kernel) (pa_cons (pv 1) pa_nil)) pa_nil)) (blkOk_by (own := [("at", 2)]) (N := ["actual", "due", "at"]) (sc := defScope s__law_same) (by decide +kernel)) (fun _ _ _ _ _ => (pg_name (i := 2) sc__law_same.nd rfl (.inl rfl))) (fun _ _ _ _ _ => pts_nil) (fun _ _ _ _ _ => (pe_hasN h__law_same (hr.mono (by omega)) (pa_cons (pe_ix (ix_seqK K) (pv 0) (pv 2) (fun _ _ => rfl)) (pa_cons (pe_ix (ix_seqK K) (pv 1) (pv 2) (fun _ _ => rfl)) pa_nil))))) pa_nil))))))))))), ?_⟩
    cases hB with
    | non =>
      cases hA
      exact q_when (b := true) (isN (ev_var rfl) rfl) (fun _ H1 e1 => s_ret (ev_is (ev_op (ev_var rfl) ev_c rv_isN) rfl) fun H2 e2 => h H2 (e1.trans e2)) (fun hb => Bool.noConfusion hb)
    | bl x =>
      cases hA
      refine q_when (b := false) (isN (ev_var rfl) (decide_eq_false (fun e => by cases e))) (fun hb => Bool.noConfusion hb) fun _ H1 e1 => ?_
      have ib : ∀ {i : Nat} {H : Hp}, ([some (.bl x), some (.bl x), none] : L2.St)[i]? = some (some (.bl x)) → Ev (tCB (rIsi K) (tCons (tVar i) (tCons (tC (.ty "bool")) tNil))) [some (.bl x), some (.bl x), none] H (.bl true) := fun hi => isT (t := "bool") (ev_var hi) (.base (.bl x)) (fun _ _ => .base (.bl x)) (by decide +kernel)
      exact q_when (b := true) (et_test (ib rfl)) (fun _ H2 e2 => s_ret (ev_is (ev_andV (a := true) (b := true) (ib rfl) fun _ => ev_is (ev_op (ev_var rfl) (ev_var rfl) (rv_eq rfl)) (by simp)) rfl) fun H3 e3 => h H3 ((e1.trans e2).trans e3)) (fun hb => Bool.noConfusion hb)
    | int x =>
      cases hA
      refine q_when (b := false) (isN (ev_var rfl) (decide_eq_false (fun e => by cases e))) (fun hb => Bool.noConfusion hb) fun _ H1 e1 => ?_
      have ib : ∀ {i : Nat} {H : Hp}, ([some (.int x), some (.int x), none] : L2.St)[i]? = some (some (.int x)) → Ev (tCB (rIsi K) (tCons (tVar i) (tCons (tC (.ty "bool")) tNil))) [some (.int x), some (.int x), none] H (.bl false) := fun hi => isT (t := "int") (ev_var hi) (.base (.int x)) (fun _ _ => .base (.int x)) (by decide +kernel)
      have ii : ∀ {i : Nat} {H : Hp}, ([some (.int x), some (.int x), none] : L2.St)[i]? = some (some (.int x)) → Ev (tCB (rIsi K) (tCons (tVar i) (tCons (tC (.ty "int")) tNil))) [some (.int x), some (.int x), none] H (.bl true) := fun hi => isT (t := "int") (ev_var hi) (.base (.int x)) (fun _ _ => .base (.int x)) (by decide +kernel)
      refine q_when (b := false) (et_test (ib rfl)) (fun hb => Bool.noConfusion hb) fun _ H2 e2 => ?_
      exact q_when (b := true) (et_test (ii rfl)) (fun _ H3 e3 => s_ret (ev_is (ev_andV (a := true) (b := true) (ii rfl) fun _ => ev_andV (a := true) (b := true) (ev_notV (a := false) (ib rfl)) fun _ => ev_is (ev_op (ev_var rfl) (ev_var rfl) (rv_eq rfl)) (by simp)) rfl) fun H4 e4 => h H4 (((e1.trans e2).trans e3).trans e4)) (fun hb => Bool.noConfusion hb)
    | str x =>
      cases hA
      refine q_when (b := false) (isN (ev_var rfl) (decide_eq_false (fun e => by cases e))) (fun hb => Bool.noConfusion hb) fun _ H1 e1 => ?_
      have is : ∀ {i : Nat} {H : Hp} (u : String) (r : Bool), kitB "str" u = some r → ([some (.str x), some (.str x), none] : L2.St)[i]? = some (some (.str x)) → Ev (tCB (rIsi K) (tCons (tVar i) (tCons (tC (.ty u)) tNil))) [some (.str x), some (.str x), none] H (.bl r) := fun u r hk hi => isT (t := "str") (ev_var hi) (.base (.str x)) (fun _ _ => .base (.str x)) hk
      refine q_when (b := false) (et_test (is "bool" false (by decide +kernel) rfl)) (fun hb => Bool.noConfusion hb) fun _ H2 e2 => ?_
      refine q_when (b := false) (et_test (is "int" false (by decide +kernel) rfl)) (fun hb => Bool.noConfusion hb) fun _ H3 e3 => ?_
      exact q_when (b := true) (et_test (is "str" true (by decide +kernel) rfl)) (fun _ H4 e4 => s_ret (ev_is (ev_andV (a := true) (b := true) (is "str" true (by decide +kernel) rfl) fun _ => ev_is (ev_op (ev_var rfl) (ev_var rfl) (rv_eq rfl)) (by simp)) rfl) fun H5 e5 => h H5 ((((e1.trans e2).trans e3).trans e4).trans e5)) (fun hb => Bool.noConfusion hb)
    | @tup p ys ds sB dB =>
      obtain ⟨q, xs, rfl, sA, dA⟩ : ∃ (q : Addr) (xs : List V), a = .ref q ∧ SqT K H q xs ∧ DpAll K H xs ds := by
        cases hA with
        | tup sA dA => exact ⟨_, _, rfl, sA, dA⟩
      have sm' : ds.length ≤ 100 ∧ ∀ d ∈ ds, small n d := sm
      refine q_when (b := false) (isN (ev_var rfl) (decide_eq_false (fun e => by cases e))) (fun hb => Bool.noConfusion hb) fun _ H1 e1 => ?_
      have is : ∀ {i : Nat} {r : Addr} {zs : List V} (u : String) (b : Bool), kitB "tuple" u = some b → SqT K H r zs → ([some (.ref q), some (.ref p), none] : L2.St)[i]? = some (some (.ref r)) → ∀ {H1 : Hp}, Ex H H1 → Ev (tCB (rIsi K) (tCons (tVar i) (tCons (tC (.ty u)) tNil))) [some (.ref q), some (.ref p), none] H1 (.bl b) := by
        intro i r zs u b hk hs hi H1 e
        exact isT (t := "tuple") (ev_var hi) (tyx_t (ex_t e hs)) (fun _ e' => tyx_t (ex_t (e.trans e') hs)) hk
      refine q_when (b := false) (et_test (is "bool" false (by decide +kernel) sB rfl e1)) (fun hb => Bool.noConfusion hb) fun _ H2 e2 => ?_
      have f2 := e1.trans e2
      refine q_when (b := false) (et_test (is "int" false (by decide +kernel) sB rfl f2)) (fun hb => Bool.noConfusion hb) fun _ H3 e3 => ?_
      have f3 := f2.trans e3
      refine q_when (b := false) (et_test (is "str" false (by decide +kernel) sB rfl f3)) (fun hb => Bool.noConfusion hb) fun _ H4 e4 => ?_
      have f4 := f3.trans e4
      refine q_when (b := false) (et_is (et_and (a := true) (b := false) (et_test (is "tuple" true (by decide +kernel) sB rfl f4)) fun _ => et_is (et_not (et_test (is "tuple" true (by decide +kernel) sA rfl f4))) rfl) rfl) (fun hb => Bool.noConfusion hb) fun _ H5 e5 => ?_
      have f5 := f4.trans e5
      refine q_when (b := false) (et_is (et_and (a := false) (b := false) (et_test (is "list" false (by decide +kernel) sB rfl f5)) fun hb => Bool.noConfusion hb) rfl) (fun hb => Bool.noConfusion hb) fun _ H6 e6 => ?_
      have f6 := f5.trans e6
      refine q_when (b := false) (et_is (et_test (ev_op (ev_lenS (ev_var rfl) (.inr (ex_t f6 sA))) (ev_lenS (ev_var rfl) (.inr (ex_t f6 sB))) (rv_ne rfl))) (by rw [dpa_len dA, dpa_len dB]; simp)) (fun hb => Bool.noConfusion hb) fun _ H7 e7 => ?_
      have f7 := f6.trans e7
      exact s_ret (same_seq (.inr (ex_t f7 sA)) (.inr (ex_t f7 sB)) (dpa_mono f7 _ dA) (dpa_mono f7 _ dB) sm') fun H8 e8 => h H8 (f7.trans e8)
    | @lst p ys ds sB dB =>
      obtain ⟨q, xs, rfl, sA, dA⟩ : ∃ (q : Addr) (xs : List V), a = .ref q ∧ SqL K H q xs ∧ DpAll K H xs ds := by
        cases hA with
        | lst sA dA => exact ⟨_, _, rfl, sA, dA⟩
      have sm' : ds.length ≤ 100 ∧ ∀ d ∈ ds, small n d := sm
      refine q_when (b := false) (isN (ev_var rfl) (decide_eq_false (fun e => by cases e))) (fun hb => Bool.noConfusion hb) fun _ H1 e1 => ?_
      have is : ∀ {i : Nat} {r : Addr} {zs : List V} (u : String) (b : Bool), kitB "list" u = some b → SqL K H r zs → ([some (.ref q), some (.ref p), none] : L2.St)[i]? = some (some (.ref r)) → ∀ {H1 : Hp}, Ex H H1 → Ev (tCB (rIsi K) (tCons (tVar i) (tCons (tC (.ty u)) tNil))) [some (.ref q), some (.ref p), none] H1 (.bl b) := by
        intro i r zs u b hk hs hi H1 e
        exact isT (t := "list") (ev_var hi) (tyx_l (ex_l e hs)) (fun _ e' => tyx_l (ex_l (e.trans e') hs)) hk
      refine q_when (b := false) (et_test (is "bool" false (by decide +kernel) sB rfl e1)) (fun hb => Bool.noConfusion hb) fun _ H2 e2 => ?_
      have f2 := e1.trans e2
      refine q_when (b := false) (et_test (is "int" false (by decide +kernel) sB rfl f2)) (fun hb => Bool.noConfusion hb) fun _ H3 e3 => ?_
      have f3 := f2.trans e3
      refine q_when (b := false) (et_test (is "str" false (by decide +kernel) sB rfl f3)) (fun hb => Bool.noConfusion hb) fun _ H4 e4 => ?_
      have f4 := f3.trans e4
      refine q_when (b := false) (et_is (et_and (a := false) (b := false) (et_test (is "tuple" false (by decide +kernel) sB rfl f4)) fun hb => Bool.noConfusion hb) rfl) (fun hb => Bool.noConfusion hb) fun _ H5 e5 => ?_
      have f5 := f4.trans e5
      refine q_when (b := false) (et_is (et_and (a := true) (b := false) (et_test (is "list" true (by decide +kernel) sB rfl f5)) fun _ => et_is (et_not (et_test (is "list" true (by decide +kernel) sA rfl f5))) rfl) rfl) (fun hb => Bool.noConfusion hb) fun _ H6 e6 => ?_
      have f6 := f5.trans e6
      refine q_when (b := false) (et_is (et_test (ev_op (ev_lenS (ev_var rfl) (.inl (ex_l f6 sA))) (ev_lenS (ev_var rfl) (.inl (ex_l f6 sB))) (rv_ne rfl))) (by rw [dpa_len dA, dpa_len dB]; simp)) (fun hb => Bool.noConfusion hb) fun _ H7 e7 => ?_
      have f7 := f6.trans e7
      exact s_ret (same_seq (.inl (ex_l f7 sA)) (.inl (ex_l f7 sB)) (dpa_mono f7 _ dA) (dpa_mono f7 _ dB) sm') fun H8 e8 => h H8 (f7.trans e8)
theorem has__law_same (T : Tx P w K mg base c) (D : DefAt K mg "_law_same" s__law_same ["actual", "due"]) : Has P w K mg base 12 "_law_same" ["actual", "due"] (spSame K 3) := same_step T (same_step T (same_step T (same_none D) D) D) D
end
end K4
namespace K4
open PySem PySem.Spec PyProof.Rows L2 Evl Nd
local macro_rules | `(tactic| walk_at "ev") => `(tactic| first
  | exact ev_var rfl
  | exact ev_c
  | (apply ev_op; (walk_at "ev"); (walk_at "ev"); (walk_at "rv"))
  | (apply ev_un; (walk_at "ev"); (walk_at "rv"))
  | (apply ev_lenS; (walk_at "ev"); (walk_at "sq"))
  | (apply ev_andV; (walk_at "ev"); (intro _; walk_at "ev"))
  | (apply ev_orV; (walk_at "ev"); (intro _; walk_at "ev"))
  | (apply ev_notV; (walk_at "ev")))
local macro_rules | `(tactic| walk_at "rv") => `(tactic| first
  | exact rv_I0
  | exact ru_neg
  | exact rv_eq rfl
  | exact rv_ne rfl
  | exact rv_I (by decide)
  | exact rv_I (by first | omega | exact .inl (by omega) | exact .inr (by omega) | (constructor <;> omega)))
local macro_rules | `(tactic| walk_at "sq") => `(tactic| first
  | assumption
  | exact SqS.lst (by assumption)
  | exact SqS.tup (by assumption)
  | exact Or.inl (by assumption)
  | exact Or.inr (by assumption)
  | (refine SqS.mono (by assumption) ?_; walk_at "sq"))
local macro_rules | `(tactic| walk_at "et") => `(tactic| first
  | (apply et_or; (walk_at "et"); (intro _; walk_at "et"))
  | (apply et_and; (walk_at "et"); (intro _; walk_at "et"))
  | (apply et_not; (walk_at "et"))
  | (apply et_test; (walk_at "ev"))
  | (apply et_B; (walk_at "ev")))
local macro_rules | `(tactic| walk_at "ea") => `(tactic| first
  | exact ea_nil
  | (apply ea_cons; (walk_at "ev"); (walk_at "ea")))
section
variable {P : Program} {w : World} {K : PySem.W.Frag} {mg : Str → Option Value} {base : Heap} {c : Ad}
/-! ### the law's rows -/
def Er.cls (c : Ad) : Er → Addr
  | .size _ => c.CS
  | .wish _ => c.CW
def Er.fld : Er → Str
  | .size _ => "count"
  | .wish _ => "at"
def Er.val : Er → Int
  | .size z => z
  | .wish z => z
def Er.word : Er → Str
  | .size _ => "size"
  | .wish _ => "wish"
def RetE (r : Er) (H : Hp) (Q : VK) : Prop := ∀ l q H2, H l = none → Ex H H2 → H2 l = some (.lst [.ref q]) → H2 q = some (.tup [.str r.word, .int r.val]) → Q (.ref l) H2
def spRef (c : Ad) (a : Addr) (cls : Value) (d : Option Addr) : Sp := fun vs H Q E => ∃ (r : Er) (dd : Addr), vs = [.ref a] ∧ cls = .ref (r.cls c) ∧ d = some dd ∧ H dd = some (.xd [(r.fld, .int r.val)]) ∧ RetE r H Q
theorem has__law_refusals (T : Tx P w K mg base c) (D : DefAt K mg "_law_refusals" s__law_refusals ["error"]) : HasX P w K mg base 4 "_law_refusals" ["error"] (spRef c) := by
  refine D.hasX sc__law_refusals (fun a cls d vs H Q E h => ?len) (fun f cdv A outer s H vs Q a oe cls d hr hz hf h => ?body)
  case len =>
    obtain ⟨_, _, rfl, _, _, _, _⟩ := h
    rfl
  case body =>
    obtain ⟨r, dd, rfl, hcls, hdd, hd, h⟩ := h
    refine ⟨_, (pss_cons (ps_set (i := 1) sc__law_refusals.nd rfl (.inl rfl) (pe_lst pa_nil))
      (pss_cons (ps_if (pt_val (pe_callB (call_isXP List.mem_cons_self hz hf) (by rfl) T.z_isinstance (by decide +kernel) (pa_cons (pv 0) (pa_cons (pe_glob (v := .ref c.CS) rfl T.e_SizeError.g rfl) pa_nil)))) (pss_one (ps_expr (pe_bm PySem.F.plainAttrs_list PySem.F.slot_list_append PySem.F.type_list_append mt_append (pv 1) (pa_cons (pe_tup (pa_cons pe_str (pa_cons (pe_xfP List.mem_cons_self T.e_SizeError.xf T.e_SizeError.no hz hf (pv 0)) pa_nil))) pa_nil)))) pss_nil)
      (pss_cons (ps_if (pt_val (pe_callB (call_isXP List.mem_cons_self hz hf) (by rfl) T.z_isinstance (by decide +kernel) (pa_cons (pv 0) (pa_cons (pe_glob (v := .ref c.CW) rfl T.e_WishError.g rfl) pa_nil)))) (pss_one (ps_expr (pe_bm PySem.F.plainAttrs_list PySem.F.slot_list_append PySem.F.type_list_append mt_append (pv 1) (pa_cons (pe_tup (pa_cons pe_str (pa_cons (pe_xfP List.mem_cons_self T.e_WishError.xf T.e_WishError.no hz hf (pv 0)) pa_nil))) pa_nil)))) pss_nil)
      (pss_one (ps_ret (pv 1)))))), ?_⟩
    cases hcls
    cases hdd
    refine q_asgL (el_lst ea_nil (by decide)) fun l H1 hl e1 g1 => ?_
    cases r with
    | size z =>
      refine q_when (b := true) (et_test (ev_isX1 (b := true) (ea_cons (ev_var rfl) (ea_cons ev_c ea_nil)) (.own c.CS) T.e_SizeError.is (e1 dd _ hd) T.kSS)) (fun _ H2 e2 => ?_) (fun hb => Bool.noConfusion hb)
      refine s_appU (e2 l _ g1) (ev_var rfl) (eu_tup (ea_cons ev_c (ea_cons (ev_xf (ev_var rfl) ((e1.trans e2) dd _ hd) rfl) ea_nil)) (by show 2 ≤ 100000; decide)) (by decide) fun q H3 hq e3 g3 => ?_
      have hdl : dd ≠ l := fun e => by rw [e, hl] at hd; cases hd
      have hql : q ≠ l := fun e => by rw [e, e2 l _ g1] at hq; cases hq
      refine q_when (b := false) (et_test (ev_isX1 (b := false) (ea_cons (ev_var rfl) (ea_cons ev_c ea_nil)) (.own c.CW) T.e_SizeError.is (dd := dd) (fv := [("count", .int z)]) (by rw [upd_ne hdl]; exact ((e1.trans e2).trans e3) dd _ hd) T.kSW)) (fun hb => Bool.noConfusion hb) (fun _ H4 e4 => ?_)
      exact s_ret (ev_var rfl) fun H5 e5 => h l q H5 hl ((((e1.trans e2).trans e3).mut hl).trans (e4.trans e5)) ((e4.trans e5) l _ upd_same) ((e4.trans e5) q _ (by rw [upd_ne hql]; exact g3))
    | wish z =>
      refine q_when (b := false) (et_test (ev_isX1 (b := false) (ea_cons (ev_var rfl) (ea_cons ev_c ea_nil)) (.own c.CS) T.e_WishError.is (e1 dd _ hd) T.kWS)) (fun hb => Bool.noConfusion hb) (fun _ H2 e2 => ?_)
      refine q_when (b := true) (et_test (ev_isX1 (b := true) (ea_cons (ev_var rfl) (ea_cons ev_c ea_nil)) (.own c.CW) T.e_WishError.is ((e1.trans e2) dd _ hd) T.kEE)) (fun _ H3 e3 => ?_) (fun hb => Bool.noConfusion hb)
      have e13 := (e1.trans e2).trans e3
      refine s_appU ((e2.trans e3) l _ g1) (ev_var rfl) (eu_tup (ea_cons ev_c (ea_cons (ev_xf (ev_var rfl) (e13 dd _ hd) rfl) ea_nil)) (by show 2 ≤ 100000; decide)) (by decide) fun q H4 hq e4 g4 => ?_
      have hql : q ≠ l := fun e => by rw [e, (e2.trans e3) l _ g1] at hq; cases hq
      exact s_ret (ev_var rfl) fun H5 e5 => h l q H5 hl (((e13.trans e4).mut hl).trans e5) (e5 l _ upd_same) (e5 q _ (by rw [upd_ne hql]; exact g4))
def RowIs (H : Hp) (a : Addr) (r : Row) : Prop := ∃ w, H a = some (.tup [.ref w, optV r.top, optV r.low]) ∧ H w = some (.lst (r.ws.map V.int))
theorem RowIs.mono {H H' : Hp} {a : Addr} {r : Row} (e : Ex H H') : RowIs H a r → RowIs H' a r := fun ⟨w, h1, h2⟩ => ⟨w, e a _ h1, e w _ h2⟩
def spMW (K : PySem.W.Frag) (c : Ad) : Sp := fun vs H Q E => ∃ (a : Addr) (r : Row), vs = [.ref a] ∧ RowOk r ∧ RowIs H a r ∧ ∀ x H2, H x = none → Ex H H2 → WishAt K c H2 x r → Q (.ref x) H2
theorem go_wish {σ : L2.St} {H : Hp} {Q : VK} {E : XK} {tl : TE} {tk : TA} {m : Nat} {gV : List V → List V → List V} {zs : List V} {r : Row} (ok : RowOk r) (hl : EvL tl σ H (r.ws.map V.int)) (hk : EvA tk σ H zs) (hm : zs.length = m) (hg : ∀ x l, gV [.ref x, .ref l] zs = [.ref x, .ref l, optV r.top, optV r.low])
    (k : ∀ x H2, H x = none → Ex H H2 → WishAt K c H2 x r → Q (.ref x) H2) : tMakeK c.KW 1 m (spWiI K c) gV E (tCons tl tNil) tk σ H Q := hl H (Ex.refl H) _ fun l H1 hl e1 g1 => hk H1 e1 _ fun H2 e2 => ⟨rfl, hm, fun x dx hx hd ne => by
  have hxu : upd H2 dx (.own x) x = none := by rw [upd_ne (fun e => ne e.symm)]; exact hx
  have X : Ex H2 (upd (upd H2 dx (.own x)) x (.ins c.KW dx [])) := (Ex.new hd).trans (Ex.new hxu)
  have gl := e2 l _ g1
  have nl : l ≠ x := fun e => by rw [e, hx] at gl; cases gl
  rw [hg]
  refine ⟨x, dx, l, r, rfl, ok, upd_same, nl, sq_of (X l _ gl), fun tw tl H3 b gx gtw => ⟨rfl, k x H3 (fresh_back (e1.trans e2) hx) ?_ ⟨dx, tw, wFs tw tl r, gx, rfl, rfl, rfl, rfl, rfl, gtw⟩⟩⟩
  exact (e1.trans e2).trans fun a o ha => b a o (fun e => by rw [e, hx] at ha; cases ha) (X a o ha)⟩
theorem has__law_make_wish (T : Tx P w K mg base c) (h_Wb : MakK P w K mg base 8 c.KW "Wish" ["self", "weights", "most", "least"] 1 ["most", "least"] (fun vs zs => vs ++ zs) (spWiI K c)) (h_Wl : MakK P w K mg base 8 c.KW "Wish" ["self", "weights", "most", "least"] 1 ["least"] (fun vs zs => vs ++ [.non] ++ zs) (spWiI K c)) (h_Wm : MakK P w K mg base 8 c.KW "Wish" ["self", "weights", "most", "least"] 1 ["most"] (fun vs zs => vs ++ zs ++ [.non]) (spWiI K c)) (D : DefAt K mg "_law_make_wish" s__law_make_wish ["row"]) : Has P w K mg base 12 "_law_make_wish" ["row"] (spMW K c) := by
  refine D.has sc__law_make_wish (fun vs H Q E h => ?len) (fun f cdv A outer s H vs Q E hr h => ?body)
  case len =>
    obtain ⟨_, _, rfl, _, ⟨_, _, _⟩, _⟩ := h
    rfl
  case body =>
    have tk : Takes (cxOf (L2.CX P w) P w K mg base ["row"] "_law_make_wish" (defScope s__law_make_wish) f cdv A outer s H E) (fun cls d _ H => E cls d H) := takes_of rfl rfl rfl rfl
    obtain ⟨a, r, rfl, ok, ⟨w, ga, gw⟩, h⟩ := h
    refine ⟨_, (pss_cons (ps_if (pt_cmpR op_isN (pe_ix ix_tup (pv 0) pe_int (fun _ _ => rfl)) pe_non (nomark _)) (pss_one (ps_ret (pe_mkK h_Wm (hr.mono (by decide)) (pa_cons (pe_callTy call_list_of (by rfl) T.z_list (by decide +kernel) (pa_cons (pe_ix ix_tup (pv 0) pe_int (fun _ _ => rfl)) pa_nil)) pa_nil) (pk_cons (pe_ix ix_tup (pv 0) pe_int (fun _ _ => rfl)) pk_nil)))) pss_nil)
      (pss_cons (ps_if (pt_cmpR op_isN (pe_ix ix_tup (pv 0) pe_int (fun _ _ => rfl)) pe_non (nomark _)) (pss_one (ps_ret (pe_mkK h_Wl (hr.mono (by decide)) (pa_cons (pe_callTy call_list_of (by rfl) T.z_list (by decide +kernel) (pa_cons (pe_ix ix_tup (pv 0) pe_int (fun _ _ => rfl)) pa_nil)) pa_nil) (pk_cons (pe_ix ix_tup (pv 0) pe_int (fun _ _ => rfl)) pk_nil)))) pss_nil)
      (pss_one (ps_ret (pe_mkK h_Wb (hr.mono (by decide)) (pa_cons (pe_callTy call_list_of (by rfl) T.z_list (by decide +kernel) (pa_cons (pe_ix ix_tup (pv 0) pe_int (fun _ _ => rfl)) pa_nil)) pa_nil) (pk_cons (pe_ix ix_tup (pv 0) pe_int (fun _ _ => rfl)) (pk_cons (pe_ix ix_tup (pv 0) pe_int (fun _ _ => rfl)) pk_nil))))))), ?_⟩
    have ix : ∀ {H1 : Hp} (j : Nat) (v : V), Ex H H1 → [.ref w, optV r.top, optV r.low][j]? = some v → Ev (tOp (rIxT K) (tVar 0) (tC (.int (j : Nat)))) [some (.ref a)] H1 v := fun j v e hj => ev_op (ev_var rfl) ev_c (rv_ixT (st_of (e a _ ga)) (atI_nat hj))
    have lst : ∀ {H1 : Hp}, Ex H H1 → EvL (tCB (rListS K) (tCons (tOp (rIxT K) (tVar 0) (tC (.int 0))) tNil)) [some (.ref a)] H1 (r.ws.map V.int) := fun e => el_list (ix 0 _ e rfl) (sq_of (e w _ gw))
    refine q_when (b := r.low.isNone) (isN (ix 2 _ (Ex.refl H) rfl) (optV_non _)) (fun hb H1 e1 => ?_) (fun hb H1 e1 => ?_)
    · have en : r.low = none := Option.isNone_iff_eq_none.mp hb
      exact go_wish ok (lst e1) (ea_cons (ix 1 _ e1 rfl) ea_nil) rfl (fun x l => by rw [en]; rfl) fun x H2 hx e2 hw => h x H2 (fresh_back e1 hx) (e1.trans e2) hw
    · refine q_when (b := r.top.isNone) (isN (ix 1 _ e1 rfl) (optV_non _)) (fun hb2 H2 e2 => ?_) (fun hb2 H2 e2 => ?_)
      · have en : r.top = none := Option.isNone_iff_eq_none.mp hb2
        exact go_wish ok (lst (e1.trans e2)) (ea_cons (ix 2 _ (e1.trans e2) rfl) ea_nil) rfl (fun x l => by rw [en]; rfl) fun x H3 hx e3 hw => h x H3 (fresh_back (e1.trans e2) hx) ((e1.trans e2).trans e3) hw
      · exact go_wish ok (lst (e1.trans e2)) (ea_cons (ix 1 _ (e1.trans e2) rfl) (ea_cons (ix 2 _ (e1.trans e2) rfl) ea_nil)) rfl (fun x l => rfl) fun x H3 hx e3 hw => h x H3 (fresh_back (e1.trans e2) hx) ((e1.trans e2).trans e3) hw
def RowsAt (K : PySem.W.Frag) (H : Hp) (l : Addr) (zs : List (Addr × Row)) : Prop := SqL K H l (zs.map fun z => V.ref z.1) ∧ ∀ z ∈ zs, RowIs H z.1 z.2
theorem RowsAt.mono {H H' : Hp} {l : Addr} {zs : List (Addr × Row)} (e : Ex H H') (h : RowsAt K H l zs) : RowsAt K H' l zs := ⟨ex_l e h.1, fun z hz => (h.2 z hz).mono e⟩
def z0 : Addr × Row := (0, r0)
theorem at_row {zs : List (Addr × Row)} {i : Nat} {x : V} (h : (zs.map fun z => V.ref z.1)[i]? = some x) : zs[i]? = some (zs.getD i z0) ∧ x = .ref (zs.getD i z0).1 ∧ zs.getD i z0 ∈ zs := by
  rw [List.getElem?_map] at h
  cases e : zs[i]? with
  | none => rw [e] at h; cases h
  | some z =>
    rw [e] at h
    have ez : zs.getD i z0 = z := by rw [List.getD_eq_getElem?_getD, e]; rfl
    rw [ez]
    exact ⟨rfl, by simpa using h.symm, List.mem_of_getElem? e⟩
/-- [.. for row in rows if ..] -/
theorem el_rows {σ : L2.St} {H : Hp} {te tl : TE} {t : TT} {l : Addr} {zs : List (Addr × Row)} {j : Nat} {vs : List Nat} (p : Row → Bool) (g : Addr × Row → V) (h : Ev tl σ H (.ref l)) (hR : RowsAt K H l zs) (hz : zs.length ≤ 6) (hw : ∀ x, wipe ((wipe σ vs).set j (some x)) vs = wipe σ vs)
    (ht : ∀ z H1, z ∈ zs → RowIs H1 z.1 z.2 → EvT t ((wipe σ vs).set j (some (.ref z.1))) H1 (p z.2)) (he : ∀ z H1, z ∈ zs → RowIs H1 z.1 z.2 → Ev te ((wipe σ vs).set j (some (.ref z.1))) H1 (g z)) :
    EvL (tLc (iList K tl) (gName j) t te vs) σ H ((zs.filter fun z => p z.2).map g) := by
  have comp := el_lcL (K := K) (σ := σ) (H := H) (te := te) (t := t) (tl := tl) (a := l) (xs := zs.map fun z => V.ref z.1) (j := j) (vs := vs) (fun i => p (zs.getD i z0).2) (fun i => g (zs.getD i z0)) h hR.1 (by rw [List.length_map]; omega) hw
    (fun i x H1 e1 hx => by
      obtain ⟨_, rfl, hm⟩ := at_row hx
      exact ht _ H1 hm ((hR.2 _ hm).mono e1))
    (fun i x H1 e1 hx _ => by
      obtain ⟨_, rfl, hm⟩ := at_row hx
      exact he _ H1 hm ((hR.2 _ hm).mono e1))
  rw [List.length_map, given_filter z0 zs (fun z => p z.2) g] at comp
  exact comp
def rowsOf (zs : List (Addr × Row)) : List Row := zs.map Prod.snd
theorem rows_filter (zs : List (Addr × Row)) (p : Row → Bool) : (zs.filter fun z => p z.2).map Prod.snd = (rowsOf zs).filter p := by
  unfold rowsOf
  rw [List.filter_map]
  rfl
theorem rows_mem {zs : List (Addr × Row)} {z : Addr × Row} (h : z ∈ zs) : z.2 ∈ rowsOf zs := List.mem_map_of_mem h
theorem row_ix {H : Hp} {a : Addr} {r : Row} {σ : L2.St} {te : TE} (hR : RowIs H a r) (hv : Ev te σ H (.ref a)) : Ev (tOp (rIxT K) te (tC (.int 1))) σ H (optV r.top) ∧ Ev (tOp (rIxT K) te (tC (.int 2))) σ H (optV r.low) ∧ ∃ w, Ev (tOp (rIxT K) te (tC (.int 0))) σ H (.ref w) ∧ H w = some (.lst (r.ws.map V.int)) := by
  obtain ⟨w, ga, gw⟩ := hR
  exact ⟨ev_op hv ev_c (rv_ixT (st_of ga) (atI_nat (j := 1) rfl)), ev_op hv ev_c (rv_ixT (st_of ga) (atI_nat (j := 2) rfl)), w, ev_op hv ev_c (rv_ixT (st_of ga) (atI_nat (j := 0) rfl)), gw⟩
def spDepthL (K : PySem.W.Frag) : Sp := fun vs H Q E => ∃ (l : Addr) (t : Nat) (zs : List (Addr × Row)), vs = [.int (t : Nat), .ref l] ∧ t ≤ 6 ∧ zs.length ≤ 6 ∧ RowsAt K H l zs ∧ (∀ z ∈ zs, RowOk z.2 ∧ z.2.ws.length = t) ∧ RetV (.int (deep t (rowsOf zs))) H Q
theorem has__law_depth (T : Tx P w K mg base c) (D : DefAt K mg "_law_depth" s__law_depth ["things", "rows"]) : Has P w K mg base 6 "_law_depth" ["things", "rows"] (spDepthL K) := by
  refine D.has sc__law_depth (fun vs H Q E h => ?len) (fun f cdv A outer s H vs Q E hr h => ?body)
  case len =>
    obtain ⟨_, _, _, rfl, _, _, _, _, _⟩ := h
    rfl
  case body =>
    have tk : Takes (cxOf (L2.CX P w) P w K mg base ["things", "rows", "deep", "thing", "row"] "_law_depth" (defScope s__law_depth) f cdv A outer s H E) (fun cls d _ H => E cls d H) := takes_of rfl rfl rfl rfl
    obtain ⟨l, t, zs, rfl, ht, h6, hR, hok, h⟩ := h
    refine ⟨_, (pss_cons (ps_set (i := 2) sc__law_depth.nd rfl (.inl rfl) pe_int)
      (pss_cons (ps_for (passes_of rfl) rfl (pi_range1 rfl T.z_range (pa_cons (pv 0) pa_nil)) (pg_name (i := 3) sc__law_depth.nd rfl (.inr rfl)) (pss_one (ps_set (i := 2) sc__law_depth.nd rfl (.inl rfl) (pe_callB (call_max2 rfl) (by rfl) T.z_max (by decide +kernel) (pa_cons (pv 2) (pa_cons (pe_callB call_len_seq (by rfl) T.z_len (by decide +kernel) (pa_cons (pe_lc (own := [("row", 4)]) rfl sc__law_depth.nd (pi_list (pv 1)) (blkOk_by (own := [("row", 4)]) (N := ["things", "rows", "deep", "thing", "row"]) (sc := defScope s__law_depth) (by decide +kernel)) (fun _ _ _ _ _ => (pg_name (i := 4) sc__law_depth.nd rfl (.inl rfl))) (fun _ _ _ _ _ => pts_one (pt_cmpR op_gt (pe_ix (ix_listK K) (pe_ix (ix_tupK K) (pv 4) pe_int (fun _ _ => rfl)) (pv 3) (fun _ _ => rfl)) pe_int (nomark _))) (fun _ _ _ _ _ => (pv 4))) pa_nil)) pa_nil))))))
      (pss_one (ps_ret (pv 2))))), ?_⟩
    refine q_asg ev_c fun H1 e1 => ?_
    refine q_forR1 (n := (t : Int)) (ea_cons (ev_var rfl) ea_nil) (by omega) (fun i σ' H' => ∃ v3, σ' = [some (.int (t : Nat)), some (.ref l), some (.int (deep i (rowsOf zs))), v3, none] ∧ Ex H H') (fun H2 e2 => ⟨none, rfl, e1.trans e2⟩) ?turn ?fin
    case turn =>
      rintro i σ' H2 hi ⟨v3, rfl, x2⟩
      have hi' : i < t := by omega
      have comp := el_rows (K := K) (σ := [some (.int (t : Nat)), some (.ref l), some (.int (deep i (rowsOf zs))), some (.int (i : Nat)), none]) (H := H2) (te := tVar 4) (tl := tVar 1) (t := tTest (tOp (rI0 fun i j => .bl (decide (i > j))) (tOp (rIxL K) (tOp (rIxT K) (tVar 4) (tC (.int 0))) (tVar 3)) (tC (.int 0)))) (j := 4) (vs := [4]) (fun r => decide (r.ws.getD i 0 ≠ 0)) (fun z => .ref z.1) (ev_var rfl) (hR.mono x2) h6 (by intro x; rfl)
        (fun z H3 hz hr => by
          obtain ⟨_, _, w, ew, gw⟩ := row_ix (K := K) (σ := [some (.int (t : Nat)), some (.ref l), some (.int (deep i (rowsOf zs))), some (.int (i : Nat)), some (.ref z.1)]) (te := tVar 4) hr (ev_var rfl)
          have hlen := (hok z hz).2
          have hi2 : i < z.2.ws.length := by omega
          have h0 := ((hok z hz).1.w0 (z.2.ws.getD i 0) (by rw [List.getD_eq_getElem?_getD, List.getElem?_eq_getElem hi2]; exact List.getElem_mem hi2)).1
          exact et_is (et_test (ev_op (ev_op ew (ev_var rfl) (rv_ixL (sq_of gw) (at_int hi2))) ev_c rv_I0)) (decide_eq_decide.mpr (by omega)))
        (fun z H3 hz hr => ev_var rfl)
      have el : ((zs.filter fun z => decide (z.2.ws.getD i 0 ≠ 0)).map fun z => V.ref z.1).length = cnt (rowsOf zs) i := by
        unfold cnt
        rw [← rows_filter, List.length_map, List.length_map]
      refine s_asg (v := .int (deep (i + 1) (rowsOf zs))) (ev_is (ev_max2 (ev_var rfl) (ev_lenN comp)) (by rw [el, deep_succ])) fun H3 e3 => ⟨_, rfl, x2.trans e3⟩
    case fin =>
      rintro σ' H2 ⟨v3, rfl, x2⟩
      rw [Int.toNat_natCast]
      exact s_ret (ev_var rfl) fun H3 e3 => h H3 (x2.trans e3)
def spKindL (K : PySem.W.Frag) : Sp := fun vs H Q E => ∃ (l : Addr) (zs : List (Addr × Row)), vs = [.ref l] ∧ zs.length ≤ 6 ∧ RowsAt K H l zs ∧ (∀ z ∈ zs, RowOk z.2) ∧ RetV (.str (kindOf (rowsOf zs))) H Q
theorem dp_row {H : Hp} {a : Addr} {r : Row} (h : RowIs H a r) : Dp K H (.ref a) (rowD r) := by
  obtain ⟨w, ga, gw⟩ := h
  exact .tup (st_of ga) (.cons (.lst (sq_of gw) (dp_ints r.ws)) (.cons (dp_opt _) (.cons (dp_opt _) .nil)))
theorem dpa_rows {H : Hp} : ∀ {zs : List (Addr × Row)}, (∀ z ∈ zs, RowIs H z.1 z.2) → DpAll K H (zs.map fun z => V.ref z.1) ((rowsOf zs).map rowD)
  | [], _ => .nil
  | z :: zs, h => .cons (dp_row (h z List.mem_cons_self)) (dpa_rows fun y hy => h y (List.mem_cons_of_mem _ hy))
theorem eqv_rowsN (rs : List Row) : PyData.eqv (rowsD rs) (.list []) = decide (rs = []) := by
  rw [show (PyData.list [] : PyData) = rowsD [] from rfl, eqv_rowsD]
theorem et_noRows {σ : L2.St} {H : Hp} {tl : TE} {t : TT} {l : Addr} {zs : List (Addr × Row)} (p : Row → Bool) (h : Ev tl σ H (.ref l)) (hσ : ∃ x, σ = [some (.ref x), none]) (hR : RowsAt K H l zs) (hz : zs.length ≤ 6)
    (ht : ∀ z H1, z ∈ zs → RowIs H1 z.1 z.2 → EvT t ((wipe σ [1]).set 1 (some (.ref z.1))) H1 (p z.2)) : EvT (tTest (tOp (rEqD K) (tLc (iList K tl) (gName 1) t (tVar 1) [1]) (tLst tNil))) σ H (decide ((rowsOf zs).filter p = [])) := by
  obtain ⟨x, rfl⟩ := hσ
  have comp := el_rows (K := K) (te := tVar 1) (t := t) p (fun z => .ref z.1) h hR hz (vs := [1]) (j := 1) (by intro x; rfl) ht (fun z H1 hz hr => ev_var rfl)
  have hd : DpAll K H ((zs.filter fun z => p z.2).map fun z => V.ref z.1) ((rowsOf (zs.filter fun z => p z.2)).map rowD) := dpa_rows fun z hz => hR.2 z (List.mem_filter.mp hz).1
  refine et_test (ev_eqDD (d := rowsD (rowsOf (zs.filter fun z => p z.2))) (ed_el comp hd) (ed_el (el_lst ea_nil (by decide)) .nil) (shaped_rows _) (shaped_rows []) ?_)
  rw [eqv_rowsN]
  unfold rowsOf
  rw [rows_filter]
  rfl
theorem filt_nil {rs : List Row} {f : Row → Option Int} : decide (rs.filter (fun r => (f r).isSome) = []) = rs.all fun r => (f r).isNone := by
  rw [Bool.eq_iff_iff]
  simp only [decide_eq_true_eq, List.filter_eq_nil_iff, List.all_eq_true]
  constructor
  · intro h r hr
    have := h r hr
    cases e : f r with
    | none => rfl
    | some z => rw [e] at this; exact absurd rfl this
  · intro h r hr
    have := h r hr
    cases e : f r with
    | none => simp
    | some z => rw [e] at this; cases this
theorem has__law_book_kind (T : Tx P w K mg base c) (D : DefAt K mg "_law_book_kind" s__law_book_kind ["rows"]) : Has P w K mg base 6 "_law_book_kind" ["rows"] (spKindL K) := by
  refine D.has sc__law_book_kind (fun vs H Q E h => ?len) (fun f cdv A outer s H vs Q E hr h => ?body)
  case len =>
    obtain ⟨_, _, rfl, _, _, _, _⟩ := h
    rfl
  case body =>
    have tk : Takes (cxOf (L2.CX P w) P w K mg base ["rows", "row"] "_law_book_kind" (defScope s__law_book_kind) f cdv A outer s H E) (fun cls d _ H => E cls d H) := takes_of rfl rfl rfl rfl
    obtain ⟨l, zs, rfl, h6, hR, hok, h⟩ := h
    refine ⟨_, (pss_cons (ps_if (pt_cmpR op_gt (pe_callB (cr_max rfl) (by rfl) T.z_max (by decide +kernel) (pa_cons (pe_op op_cat (pe_lst (pa_cons pe_int pa_nil)) (pe_lc (own := [("row", 1)]) rfl sc__law_book_kind.nd (pi_list (pv 0)) (blkOk_by (own := [("row", 1)]) (N := ["rows", "row"]) (sc := defScope s__law_book_kind) (by decide +kernel)) (fun _ _ _ _ _ => (pg_name (i := 1) sc__law_book_kind.nd rfl (.inl rfl))) (fun _ _ _ _ _ => pts_nil) (fun _ _ _ _ _ => (pe_callB (cr_maxK K rfl) (by rfl) T.z_max (by decide +kernel) (pa_cons (pe_op op_cat (pe_lst (pa_cons pe_int pa_nil)) (pe_ix (ix_tupK K) (pv 1) pe_int (fun _ _ => rfl))) pa_nil))))) pa_nil)) pe_int (nomark _)) (pss_one (ps_ret pe_str)) pss_nil)
      (pss_cons (ps_if (pt_cmpR (op_eqD hr.units) (pe_lc (own := [("row", 1)]) rfl sc__law_book_kind.nd (pi_list (pv 0)) (blkOk_by (own := [("row", 1)]) (N := ["rows", "row"]) (sc := defScope s__law_book_kind) (by decide +kernel)) (fun _ _ _ _ _ => (pg_name (i := 1) sc__law_book_kind.nd rfl (.inl rfl))) (fun _ _ _ _ _ => pts_one (pt_cmpR op_notN (pe_ix (ix_tupK K) (pv 1) pe_int (fun _ _ => rfl)) pe_non (nomark _))) (fun _ _ _ _ _ => (pv 1))) (pe_lst pa_nil) (nomark _)) (pss_one (ps_ret pe_str)) pss_nil)
      (pss_cons (ps_if (pt_cmpR (op_eqD hr.units) (pe_lc (own := [("row", 1)]) rfl sc__law_book_kind.nd (pi_list (pv 0)) (blkOk_by (own := [("row", 1)]) (N := ["rows", "row"]) (sc := defScope s__law_book_kind) (by decide +kernel)) (fun _ _ _ _ _ => (pg_name (i := 1) sc__law_book_kind.nd rfl (.inl rfl))) (fun _ _ _ _ _ => pts_one (pt_cmpR op_notN (pe_ix (ix_tupK K) (pv 1) pe_int (fun _ _ => rfl)) pe_non (nomark _))) (fun _ _ _ _ _ => (pv 1))) (pe_lst pa_nil) (nomark _)) (pss_one (ps_ret pe_str)) pss_nil)
      (pss_one (ps_ret pe_str))))), ?_⟩
    have comp := el_rows (K := K) (σ := [some (.ref l), none]) (H := H) (te := tCB (rMax K) (tCons (tOp (rCat) (tLst (tCons (tC (.int 0)) tNil)) (tOp (rIxT K) (tVar 1) (tC (.int 0)))) tNil)) (tl := tVar 0) (t := tYes) (j := 1) (vs := [1]) (fun _ => true) (fun z => V.int (maxD 0 (0 :: z.2.ws))) (ev_var rfl) hR h6 (by intro x; rfl) (fun z H3 hz hr => fun H6 e6 Q q => q H6 (Ex.refl H6))
      (fun z H3 hz hr => by
        obtain ⟨_, _, w, ew, gw⟩ := row_ix (K := K) (σ := [some (.ref l), some (.ref z.1)]) (te := tVar 1) hr (ev_var rfl)
        exact ev_maxN (ns := 0 :: z.2.ws) (el_cat (xs := [.int 0]) (ys := z.2.ws.map V.int) (em_el (el_lst (ea_cons ev_c ea_nil) (by show 1 ≤ 100000; decide))) (em_ev ew gw) (by rw [List.length_map]; have := (hok z hz).len; show 1 + _ ≤ 100000; omega)) (by simp))
    have hl6 : (rowsOf zs).length ≤ 6 := by unfold rowsOf; rw [List.length_map]; exact h6
    have em : EvL (tLc (iList K (tVar 0)) (gName 1) tYes (tCB (rMax K) (tCons (tOp (rCat) (tLst (tCons (tC (.int 0)) tNil)) (tOp (rIxT K) (tVar 1) (tC (.int 0)))) tNil)) [1]) [some (.ref l), none] H (((rowsOf zs).map fun r => maxD 0 (0 :: r.ws)).map V.int) := by
      have : (zs.filter fun _ => true).map (fun z => V.int (maxD 0 (0 :: z.2.ws))) = ((rowsOf zs).map fun r => maxD 0 (0 :: r.ws)).map V.int := by
        unfold rowsOf
        rw [List.filter_eq_self.mpr (fun _ _ => rfl), List.map_map, List.map_map]
        rfl
      rw [this] at comp
      exact comp
    refine q_when (b := decide (heaviest (rowsOf zs) > 1)) (et_test (ev_op (ev_maxN (ns := 0 :: (rowsOf zs).map fun r : Row => maxD 0 (0 :: r.ws)) (el_cat (xs := [.int 0]) (em_el (el_lst (ea_cons ev_c ea_nil) (by show 1 ≤ 100000; decide))) (em_el em) (by rw [List.length_map, List.length_map]; show 1 + _ ≤ 100000; omega)) (by simp)) ev_c rv_I0)) (fun hb H1 e1 => ?_) (fun hb H1 e1 => ?_)
    · have ek : kindOf (rowsOf zs) = "weighted" := by unfold kindOf; rw [if_pos ((heaviest_iff _).mp (of_decide_eq_true hb))]
      rw [ek] at h
      exact s_ret ev_c fun H2 e2 => h H2 (e1.trans e2)
    · have hn : ¬ (rowsOf zs).all plain = false := fun e => of_decide_eq_false hb ((heaviest_iff _).mpr e)
      refine q_when (b := (rowsOf zs).all fun r => r.low.isNone) (et_is (et_noRows (K := K) (fun r => r.low.isSome) (ev_var rfl) ⟨l, rfl⟩ (hR.mono e1) h6 fun z H2 hz hr => et_is (et_test (ev_op (row_ix hr (ev_var rfl)).2.1 ev_c rv_notN)) (by rw [optV_non]; cases z.2.low <;> rfl)) filt_nil) (fun hb2 H2 e2 => ?_) (fun hb2 H2 e2 => ?_)
      · have ek : kindOf (rowsOf zs) = "most" := by unfold kindOf; rw [if_neg hn, if_pos hb2]
        rw [ek] at h
        exact s_ret ev_c fun H3 e3 => h H3 ((e1.trans e2).trans e3)
      · have hn2 : ¬ ((rowsOf zs).all fun r => r.low.isNone) = true := by intro z; rw [z] at hb2; cases hb2
        refine q_when (b := (rowsOf zs).all fun r => r.top.isNone) (et_is (et_noRows (K := K) (fun r => r.top.isSome) (ev_var rfl) ⟨l, rfl⟩ (hR.mono (e1.trans e2)) h6 fun z H2 hz hr => et_is (et_test (ev_op (row_ix hr (ev_var rfl)).1 ev_c rv_notN)) (by rw [optV_non]; cases z.2.top <;> rfl)) filt_nil) (fun hb3 H3 e3 => ?_) (fun hb3 H3 e3 => ?_)
        · have ek : kindOf (rowsOf zs) = "least" := by unfold kindOf; rw [if_neg hn, if_neg hn2, if_pos hb3]
          rw [ek] at h
          exact s_ret ev_c fun H4 e4 => h H4 (((e1.trans e2).trans e3).trans e4)
        · have ek : kindOf (rowsOf zs) = "both" := by unfold kindOf; rw [if_neg hn, if_neg hn2, if_neg (by intro z; rw [z] at hb3; cases hb3)]
          rw [ek] at h
          exact s_ret ev_c fun H4 e4 => h H4 (((e1.trans e2).trans e3).trans e4)
def spSlackL (K : PySem.W.Frag) : Sp := fun vs H Q E => ∃ (l : Addr) (t i : Nat) (zs : List (Addr × Row)), vs = [.int (t : Nat), .ref l, .int (i : Nat)] ∧ t ≤ 6 ∧ zs.length ≤ 6 ∧ i < zs.length ∧ RowsAt K H l zs ∧ (∀ z ∈ zs, RowOk z.2 ∧ z.2.ws.length = t) ∧ RetV (.int (slackOf t (rowsOf zs) (zs.getD i z0).2)) H Q
theorem has__law_slack (T : Tx P w K mg base c) (h__law_book_kind : Has P w K mg base 6 "_law_book_kind" ["rows"] (spKindL K)) (h__law_depth : Has P w K mg base 6 "_law_depth" ["things", "rows"] (spDepthL K)) (D : DefAt K mg "_law_slack" s__law_slack ["things", "rows", "at"]) : Has P w K mg base 8 "_law_slack" ["things", "rows", "at"] (spSlackL K) := by
  refine D.has sc__law_slack (fun vs H Q E h => ?len) (fun f cdv A outer s H vs Q E hr h => ?body)
  case len =>
    obtain ⟨_, _, _, _, rfl, _, _, _, _, _, _⟩ := h
    rfl
  case body =>
    have tk : Takes (cxOf (L2.CX P w) P w K mg base ["things", "rows", "at", "deep", "kind"] "_law_slack" (defScope s__law_slack) f cdv A outer s H E) (fun cls d _ H => E cls d H) := takes_of rfl rfl rfl rfl
    obtain ⟨l, t, i, zs, rfl, ht, h6, hi, hR, hok, h⟩ := h
    refine ⟨_, (pss_cons (ps_set (i := 3) sc__law_slack.nd rfl (.inl rfl) (pe_hasN h__law_depth (hr.mono (by decide)) (pa_cons (pv 0) (pa_cons (pv 1) pa_nil))))
      (pss_cons (ps_set (i := 4) sc__law_slack.nd rfl (.inl rfl) (pe_hasN h__law_book_kind (hr.mono (by decide)) (pa_cons (pv 1) pa_nil)))
      (pss_cons (ps_if (pt_cmpR op_eq (pv 4) pe_str (nomark _)) (pss_one (ps_ret (pe_op op_mul (pv 3) (pe_callB (cr_max rfl) (by rfl) T.z_max (by decide +kernel) (pa_cons (pe_op op_cat (pe_lst (pa_cons pe_int pa_nil)) (pe_ix ix_tup (pe_ix ix_list (pv 1) (pv 2) (fun _ _ => rfl)) pe_int (fun _ _ => rfl))) pa_nil))))) pss_nil)
      (pss_cons (ps_if (pt_cmpR op_eq (pv 4) pe_str (nomark _)) (pss_one (ps_ret (pe_callB (call_max2 rfl) (by rfl) T.z_max (by decide +kernel) (pa_cons pe_int (pa_cons (pe_op op_sub (pe_op op_mul pe_int (pv 3)) pe_int) pa_nil))))) pss_nil)
      (pss_one (ps_ret (pe_callB (call_max2 rfl) (by rfl) T.z_max (by decide +kernel) (pa_cons pe_int (pa_cons (pe_op op_sub (pv 3) pe_int) pa_nil))))))))), ?_⟩
    have hd0 := deep0 t (rowsOf zs)
    have hl6 : (rowsOf zs).length ≤ 6 := by unfold rowsOf; rw [List.length_map]; exact h6
    refine q_asg (v := .int (deep t (rowsOf zs))) (ev_callS (ea_cons (ev_var rfl) (ea_cons (ev_var rfl) ea_nil)) fun H1 e1 Q' E' q' => ⟨l, t, zs, rfl, ht, h6, hR.mono e1, hok, q'⟩) fun H1 e1 => ?_
    refine q_asg (v := .str (kindOf (rowsOf zs))) (ev_callS (ea_cons (ev_var rfl) ea_nil) fun H2 e2 Q' E' q' => ⟨l, zs, rfl, h6, hR.mono (e1.trans e2), fun z hz => (hok z hz).1, q'⟩) fun H2 e2 => ?_
    have e12 := e1.trans e2
    refine q_when (b := decide (kindOf (rowsOf zs) = "weighted")) (et_is (et_test (ev_op (ev_var rfl) ev_c (rv_eq rfl))) (dstr _ _)) (fun hb H3 e3 => ?_) (fun hb H3 e3 => ?_)
    · have e13 := e12.trans e3
      have hz : zs[i]? = some (zs.getD i z0) := by rw [List.getD_eq_getElem?_getD, List.getElem?_eq_getElem hi]; rfl
      have hm := List.mem_of_getElem? hz
      obtain ⟨_, _, w, ew, gw⟩ := row_ix (K := K) (σ := [some (.int (t : Nat)), some (.ref l), some (.int (i : Nat)), some (.int (deep t (rowsOf zs))), some (.str (kindOf (rowsOf zs)))]) (te := tOp (rIxL K) (tVar 1) (tVar 2)) ((hR.2 _ hm).mono e13) (ev_op (ev_var rfl) (ev_var rfl) (rv_ixL (ex_l e13 hR.1) (atI_nat (by rw [List.getElem?_map, hz]; rfl))))
      have hk : kindOf (rowsOf zs) = "weighted" := of_decide_eq_true hb
      have e : slackOf t (rowsOf zs) (zs.getD i z0).2 = deep t (rowsOf zs) * maxD 0 (1 :: (zs.getD i z0).2.ws) := by unfold slackOf; rw [if_pos hk, max1 (hok _ hm).1]
      rw [e] at h
      exact s_ret (ev_op (ev_var rfl) (ev_maxN (ns := 1 :: (zs.getD i z0).2.ws) (el_cat (xs := [.int 1]) (em_el (el_lst (ea_cons ev_c ea_nil) (by show 1 ≤ 100000; decide))) (em_ev ew gw) (by rw [List.length_map]; have := (hok _ hm).1.len; show 1 + _ ≤ 100000; omega)) (by simp)) (rv_I (.inl ⟨by omega, by omega⟩))) fun H4 e4 => h H4 (e13.trans e4)
    · have hk : ¬ kindOf (rowsOf zs) = "weighted" := of_decide_eq_false hb
      refine q_when (b := decide (kindOf (rowsOf zs) = "both")) (et_is (et_test (ev_op (ev_var rfl) ev_c (rv_eq rfl))) (dstr _ _)) (fun hb2 H4 e4 => ?_) (fun hb2 H4 e4 => ?_)
      · have e : slackOf t (rowsOf zs) (zs.getD i z0).2 = if 2 * deep t (rowsOf zs) - 2 > 0 then 2 * deep t (rowsOf zs) - 2 else 0 := by unfold slackOf; rw [if_neg hk, if_pos (of_decide_eq_true hb2)]
        rw [e] at h
        exact s_ret (ev_max2 ev_c (ev_op (ev_op ev_c (ev_var rfl) (rv_I (.inl ⟨by decide, by decide⟩))) ev_c rv_I0)) fun H5 e5 => h H5 ((e12.trans e3).trans (e4.trans e5))
      · have e : slackOf t (rowsOf zs) (zs.getD i z0).2 = if deep t (rowsOf zs) - 1 > 0 then deep t (rowsOf zs) - 1 else 0 := by unfold slackOf; rw [if_neg hk, if_neg (of_decide_eq_false hb2)]
        rw [e] at h
        exact s_ret (ev_max2 ev_c (ev_op (ev_var rfl) ev_c rv_I0)) fun H5 e5 => h H5 ((e12.trans e3).trans (e4.trans e5))
end
end K4
namespace K4
open PySem PySem.Spec PyProof.Rows L2 Evl Nd
local macro_rules | `(tactic| walk_at "ev") => `(tactic| first
  | exact ev_var rfl
  | exact ev_c
  | (apply ev_op; (walk_at "ev"); (walk_at "ev"); (walk_at "rv"))
  | (apply ev_un; (walk_at "ev"); (walk_at "rv"))
  | (apply ev_lenS; (walk_at "ev"); (walk_at "sq"))
  | (apply ev_andV; (walk_at "ev"); (intro _; walk_at "ev"))
  | (apply ev_orV; (walk_at "ev"); (intro _; walk_at "ev"))
  | (apply ev_notV; (walk_at "ev")))
local macro_rules | `(tactic| walk_at "rv") => `(tactic| first
  | exact rv_I0
  | exact ru_neg
  | exact rv_eq rfl
  | exact rv_ne rfl
  | exact rv_I (by decide)
  | exact rv_I (by first | omega | exact .inl (by omega) | exact .inr (by omega) | (constructor <;> omega)))
local macro_rules | `(tactic| walk_at "sq") => `(tactic| first
  | assumption
  | exact SqS.lst (by assumption)
  | exact SqS.tup (by assumption)
  | exact Or.inl (by assumption)
  | exact Or.inr (by assumption)
  | (refine SqS.mono (by assumption) ?_; walk_at "sq"))
local macro_rules | `(tactic| walk_at "et") => `(tactic| first
  | (apply et_or; (walk_at "et"); (intro _; walk_at "et"))
  | (apply et_and; (walk_at "et"); (intro _; walk_at "et"))
  | (apply et_not; (walk_at "et"))
  | (apply et_test; (walk_at "ev"))
  | (apply et_B; (walk_at "ev")))
local macro_rules | `(tactic| walk_at "ea") => `(tactic| first
  | exact ea_nil
  | (apply ea_cons; (walk_at "ev"); (walk_at "ea")))
section
variable {P : Program} {w : World} {K : PySem.W.Frag} {mg : Str → Option Value} {base : Heap} {c : Ad}
/-! ### the law's drawing of rows -/
theorem s_appT {σ : L2.St} {H : Hp} {ta te : TE} {D : Ends} {l : Addr} {xs : List V} (hl : H l = some (.lst xs)) (ha : Ev ta σ H (.ref l)) (h : ∀ H1, Ex H H1 → te σ H1 fun v H2 => rAppend (.ref l) [v] H2 fun _ H3 => D.nx σ H3) :
    tDrop (tBM K "list" rAppend ta (tCons te tNil)) D σ H := ha H (Ex.refl H) _ fun H1 e1 => ⟨Or.inl ⟨rfl, xs, sq_of (e1 l _ hl)⟩, h H1 e1⟩
theorem go_mix {n x y : Int} {p : Addr} {σ : L2.St} {H : Hp} {Q : VK} {E : L2.St → XK} {ta tb : TE} {tt : TA} (hn : 0 < n) (ha : Ev (tOp (rI0 fun i j => .int (i + j)) ta tb) σ H (.int (x + y))) (ht : ∀ H1, Ex H H1 → EvA tt σ H1 [.ref p, .int n]) (tp : Tape H p) (k : ∀ r H2, 0 ≤ r → r < n → But p H H2 → Tape H2 p → Q (.int r) H2) :
    (tOp (rI (fun _ b => 0 < b) fun i j => .int (i % j)) (tCB (fun xs H Q => (∃ i, xs = [.int i] ∧ Q (.int i) H) ∨ ∃ k, xs = [.bl k] ∧ Q (.int (if k then 1 else 0)) H) (tCons (tOp (rI0 fun i j => .int (i + j)) (tOp (rI0 fun i j => .int (i + j)) ta tb) (tCallS spTake E tt)) tNil)) (tC (.int n))) σ H Q :=
  ha H (Ex.refl H) _ fun H1 e1 => go_take (ht H1 e1) hn (tp.mono e1) fun r H2 r0 r1 b t => ⟨x + y, r, rfl, rfl, .inl ⟨x + y + r, rfl, ⟨x + y + r, n, rfl, rfl, hn, k _ H2 (Int.emod_nonneg _ (by omega)) (Int.emod_lt_of_pos _ hn) ((But.of e1).trans b) t⟩⟩⟩
theorem q_takeSub {ta : TA} {σ : L2.St} {H : Hp} {D : Ends} {tz : TS} {E : L2.St → XK} {p : Addr} {many c : Int} {i : Nat} (h : EvA ta σ H [.ref p, .int many]) (hm : 0 < many) (ht : Tape H p) (k : ∀ r H2, 0 ≤ r → r < many → But p H H2 → Tape H2 p → tz D (σ.set i (some (.int (r - c)))) H2) :
    tSeq (tAsg (tOp (rI0 fun i j => .int (i - j)) (tCallS spTake E ta) (tC (.int c))) (gName i)) tz D σ H := go_take h hm ht fun r H2 a b c' d => ⟨r, c, rfl, rfl, k r H2 a b c' d⟩
theorem q_subTake {ta : TA} {σ : L2.St} {H : Hp} {D : Ends} {tz : TS} {E : L2.St → XK} {p : Addr} {many x : Int} {i j : Nat} (hx : σ[j]? = some (some (.int x))) (h : EvA ta σ H [.ref p, .int many]) (hm : 0 < many) (ht : Tape H p) (k : ∀ r H2, 0 ≤ r → r < many → But p H H2 → Tape H2 p → tz D (σ.set i (some (.int (x - r)))) H2) :
    tSeq (tAsg (tOp (rI0 fun i j => .int (i - j)) (tVar j) (tCallS spTake E ta)) (gName i)) tz D σ H := ⟨.int x, hx, go_take h hm ht fun r H2 a b c' d => ⟨x, r, rfl, rfl, k r H2 a b c' d⟩⟩
theorem s_take {ta : TA} {σ : L2.St} {H : Hp} {D : Ends} {E : L2.St → XK} {p : Addr} {many : Int} {i : Nat} (h : EvA ta σ H [.ref p, .int many]) (hm : 0 < many) (ht : Tape H p) (k : ∀ r H2, 0 ≤ r → r < many → But p H H2 → Tape H2 p → D.nx (σ.set i (some (.int r))) H2) :
    tAsg (tCallS spTake E ta) (gName i) D σ H := go_take h hm ht k
def spRow : Sp := fun vs H Q E => ∃ (p : Addr) (s i : Nat) (mode : Int), vs = [.ref p, .int (s : Nat), .int (i : Nat), .int mode] ∧ s ≤ 7 ∧ i ≤ 6 ∧ 0 ≤ mode ∧ mode ≤ 3 ∧ Tape H p ∧
  ∀ a w r H2, But p H H2 → Tape H2 p → H a = none → H w = none → a ≠ w → H2 a = some (.tup [.ref w, optV r.top, optV r.low]) → H2 w = some (.lst (r.ws.map V.int)) → RowOk r → r.ws.length = s → Q (.ref a) H2
theorem has__law_draw_row (T : Tx P w K mg base c) (h__law_take : Has P w K mg base 4 "_law_take" ["tape", "many"] (spTake)) (h__law_two : Has P w K mg base 6 "_law_two" ["tape", "many"] (spTake)) (D : DefAt K mg "_law_draw_row" s__law_draw_row ["tape", "size", "at", "mode"]) : Has P w K mg base 10 "_law_draw_row" ["tape", "size", "at", "mode"] (spRow) := by
  refine D.has sc__law_draw_row (fun vs H Q E h => ?len) (fun f cdv A outer s H vs Q E hr h => ?body)
  case len =>
    obtain ⟨_, _, _, _, rfl, _, _, _, _, _, _⟩ := h
    rfl
  case body =>
    have tk : Takes (cxOf (L2.CX P w) P w K mg base ["tape", "size", "at", "mode", "weights", "thing", "top", "low", "form"] "_law_draw_row" (defScope s__law_draw_row) f cdv A outer s H E) (fun cls d _ H => E cls d H) := takes_of rfl rfl rfl rfl
    obtain ⟨p, s, i, mode, rfl, hs, hi, m0, m3, ht, h⟩ := h
    refine ⟨_, (pss_cons (ps_set (i := 4) sc__law_draw_row.nd rfl (.inl rfl) (pe_lst pa_nil))
      (pss_cons (ps_for (passes_of rfl) rfl (pi_range1 rfl T.z_range (pa_cons (pv 1) pa_nil)) (pg_name (i := 5) sc__law_draw_row.nd rfl (.inl rfl)) (pss_one (ps_if (pt_cmpR op_eq (pv 3) pe_int (nomark _)) (pss_one (ps_expr (pe_bm PySem.F.plainAttrs_list PySem.F.slot_list_append PySem.F.type_list_append mt_append (pv 4) (pa_cons (pe_op op_mod (pe_callTy call_int1 (by rfl) T.z_int (by decide +kernel) (pa_cons (pe_op op_add (pe_op op_add (pv 5) (pv 2)) (pe_hasN h__law_two (hr.mono (by decide)) (pa_cons (pv 0) (pa_cons pe_int pa_nil)))) pa_nil)) pe_int) pa_nil)))) (pss_one (ps_expr (pe_bm PySem.F.plainAttrs_list PySem.F.slot_list_append PySem.F.type_list_append mt_append (pv 4) (pa_cons (pe_op op_mod (pe_callTy call_int1 (by rfl) T.z_int (by decide +kernel) (pa_cons (pe_op op_add (pe_op op_add (pv 5) (pv 2)) (pe_hasN h__law_take (hr.mono (by decide)) (pa_cons (pv 0) (pa_cons pe_int pa_nil)))) pa_nil)) pe_int) pa_nil)))))))
      (pss_cons (ps_set (i := 6) sc__law_draw_row.nd rfl (.inl rfl) (pe_op op_sub (pe_hasN h__law_take (hr.mono (by decide)) (pa_cons (pv 0) (pa_cons pe_int pa_nil))) pe_int))
      (pss_cons (ps_set (i := 7) sc__law_draw_row.nd rfl (.inl rfl) (pe_op op_sub (pv 6) (pe_hasN h__law_take (hr.mono (by decide)) (pa_cons (pv 0) (pa_cons pe_int pa_nil)))))
      (pss_cons (ps_set (i := 8) sc__law_draw_row.nd rfl (.inl rfl) (pv 3))
      (pss_cons (ps_if (pt_cmpR op_eq (pv 3) pe_int (nomark _)) (pss_one (ps_set (i := 8) sc__law_draw_row.nd rfl (.inl rfl) (pe_hasN h__law_take (hr.mono (by decide)) (pa_cons (pv 0) (pa_cons pe_int pa_nil))))) pss_nil)
      (pss_cons (ps_if (pt_cmpR op_in_seq (pv 8) (pe_tup (pa_cons pe_int (pa_cons pe_int pa_nil))) (by rfl)) (pss_one (ps_set (i := 7) sc__law_draw_row.nd rfl (.inl rfl) pe_non)) pss_nil)
      (pss_cons (ps_if (pt_cmpR op_eq (pv 8) pe_int (nomark _)) (pss_one (ps_set (i := 6) sc__law_draw_row.nd rfl (.inl rfl) pe_non)) pss_nil)
      (pss_one (ps_ret (pe_tup (pa_cons (pv 4) (pa_cons (pv 6) (pa_cons (pv 7) pa_nil)))))))))))))), ?_⟩
    refine q_asgL (el_lst ea_nil (by decide)) fun wl H1 hwl e1 g1 => ?_
    have nwl : ∀ {H' : Hp}, Tape H' p → H' wl = none → False ∨ wl ≠ p := fun ⟨ds, hp⟩ hn => .inr (fun e => by rw [e, hp] at hn; cases hn)
    have hne : wl ≠ p := by
      obtain ⟨ds, hp⟩ := ht
      intro e
      rw [e, hp] at hwl
      cases hwl
    refine q_forR1 (n := (s : Int)) (ea_cons (ev_var rfl) ea_nil) (by omega) (fun j σ' H' => ∃ v5 ws, σ' = [some (.ref p), some (.int (s : Nat)), some (.int (i : Nat)), some (.int mode), some (.ref wl), v5, none, none, none] ∧ But p H H' ∧ Tape H' p ∧ H' wl = some (.lst (ws.map V.int)) ∧ ws.length = j ∧ (∀ w ∈ ws, 0 ≤ w ∧ w ≤ 20) ∧ (mode ≠ 3 → ∀ w ∈ ws, w ≤ 1))
      (fun H2 e2 => ⟨none, [], rfl, But.of (e1.trans e2), ht.mono (e1.trans e2), e2 wl _ g1, rfl, (fun w hw => by cases hw), (fun _ w hw => by cases hw)⟩) ?turn ?fin
    case turn =>
      rintro j σ' H2 hj ⟨v5, ws, rfl, b2, t2, g2, hl, hw0, hw1⟩
      have hj7 : j < 7 := by omega
      refine s_if (b := decide (mode = 3)) (et_is (et_test (ev_op (ev_var rfl) ev_c (rv_eq rfl))) (dint _ _)) (fun hb H3 e3 => ?_) (fun hb H3 e3 => ?_)
      · refine s_appT (e3 wl _ g2) (ev_var rfl) fun H4 e4 => go_mix (x := (j : Nat)) (y := (i : Nat)) (n := 21) (p := p) (by decide) (ev_op (ev_var rfl) (ev_var rfl) rv_I0) (fun H5 e5 => ea_cons (ev_var rfl) (ea_cons ev_c ea_nil)) ((t2.mono e3).mono e4) fun r H5 r0 r1 b5 t5 => ?_
        have g5 : H5 wl = some (.lst (ws.map V.int)) := b5 wl _ hne ((e3.trans e4) wl _ g2)
        refine ⟨wl, ws.map V.int, .int r, rfl, rfl, g5, sz_lt (by rw [List.length_map]; omega), ?_⟩
        refine ⟨_, ws ++ [r], rfl, ((b2.trans (But.of (e3.trans e4))).trans b5).new hwl, ?_, by rw [upd_same, List.map_append]; rfl, by rw [List.length_append, hl]; rfl, fun w hw => ?_, fun hm => absurd (of_decide_eq_true hb) hm⟩
        · obtain ⟨ds, hp⟩ := t5
          exact ⟨ds, by rw [upd_ne hne.symm]; exact hp⟩
        · rcases List.mem_append.mp hw with hw | hw
          · exact hw0 w hw
          · rw [List.mem_singleton.mp hw]; omega
      · refine s_appT (e3 wl _ g2) (ev_var rfl) fun H4 e4 => go_mix (x := (j : Nat)) (y := (i : Nat)) (n := 2) (p := p) (by decide) (ev_op (ev_var rfl) (ev_var rfl) rv_I0) (fun H5 e5 => ea_cons (ev_var rfl) (ea_cons ev_c ea_nil)) ((t2.mono e3).mono e4) fun r H5 r0 r1 b5 t5 => ?_
        have g5 : H5 wl = some (.lst (ws.map V.int)) := b5 wl _ hne ((e3.trans e4) wl _ g2)
        refine ⟨wl, ws.map V.int, .int r, rfl, rfl, g5, sz_lt (by rw [List.length_map]; omega), ?_⟩
        refine ⟨_, ws ++ [r], rfl, ((b2.trans (But.of (e3.trans e4))).trans b5).new hwl, ?_, by rw [upd_same, List.map_append]; rfl, by rw [List.length_append, hl]; rfl, fun w hw => ?_, fun hm w hw => ?_⟩
        · obtain ⟨ds, hp⟩ := t5
          exact ⟨ds, by rw [upd_ne hne.symm]; exact hp⟩
        · rcases List.mem_append.mp hw with hw | hw
          · exact hw0 w hw
          · rw [List.mem_singleton.mp hw]; omega
        · rcases List.mem_append.mp hw with hw | hw
          · exact hw1 hm w hw
          · rw [List.mem_singleton.mp hw]; omega
    case fin =>
      rintro σ' H2 ⟨v5, ws, rfl, b2, t2, g2, hl, hw0, hw1⟩
      rw [Int.toNat_natCast] at hl
      refine q_takeSub (p := p) (many := 12) (ea_cons (ev_var rfl) (ea_cons ev_c ea_nil)) (by decide) t2 fun x H3 x0 x1 b3 t3 => ?_
      generalize hz : x - 1 = top
      have top0 : -1 ≤ top ∧ top ≤ 10 := by omega
      refine q_subTake (p := p) (many := 4) (x := top) rfl (ea_cons (ev_var rfl) (ea_cons ev_c ea_nil)) (by decide) t3 fun y H4 y0 y1 b4 t4 => ?_
      generalize hz2 : top - y = low
      have low0 : -4 ≤ low ∧ low ≤ top := by omega
      have b14 := (b2.trans b3).trans b4
      have g4 : H4 wl = some (.lst (ws.map V.int)) := b4 wl _ hne (b3 wl _ hne g2)
      refine q_asg (v := .int mode) (ev_var rfl) fun H5 e5 => ?_
      refine q_whenM (b := decide (mode = 0)) (fun σ' H' => ∃ f : Int, σ' = [some (.ref p), some (.int (s : Nat)), some (.int (i : Nat)), some (.int mode), some (.ref wl), v5, some (.int top), some (.int low), some (.int f)] ∧ 0 ≤ f ∧ f ≤ 3 ∧ (mode = 3 → f = 3) ∧ But p H H' ∧ Tape H' p ∧ H' wl = some (.lst (ws.map V.int)))
        (et_is (et_test (ev_op (ev_var rfl) ev_c (rv_eq rfl))) (dint _ _)) ?rest (fun N hN hb H6 e6 => ?yes) (fun hb H6 e6 => ⟨mode, rfl, m0, m3, fun z => z, b14.trans (But.of (e5.trans e6)), (t4.mono e5).mono e6, (e5.trans e6) wl _ g4⟩)
      case yes =>
        have hm0 : mode = 0 := of_decide_eq_true hb
        refine s_take (p := p) (many := 3) (ea_cons (ev_var rfl) (ea_cons ev_c ea_nil)) (by decide) ((t4.mono e5).mono e6) fun f H7 f0 f1 b7 t7 => ?_
        exact hN _ _ ⟨f, rfl, f0, by omega, fun z => by omega, (b14.trans (But.of (e5.trans e6))).trans b7, t7, b7 wl _ hne ((e5.trans e6) wl _ g4)⟩
      case rest =>
        rintro σ' H6 ⟨f, rfl, f0, f3, fm, b6, t6, g6⟩
        have din : ∀ (H7 : Hp), inV (.int f) [.int 1, .int 3] = decide (f = 1 ∨ f = 3) := fun _ => by
          rw [show ([.int 1, .int 3] : List V) = ([1, 3] : List Int).map V.int from rfl, inV_ints, decide_eq_decide]
          simp
        refine q_ifAsg (v := if f = 1 ∨ f = 3 then .non else .int low) (et_is (et_test (ev_inU (ev_var rfl) (eu_tup (ea_cons ev_c (ea_cons ev_c ea_nil)) (by show 2 ≤ 100000; decide)) rfl rfl)) (din H6)) (fun hb => by rw [if_pos (of_decide_eq_true hb)]; exact ev_c) (fun hb => by rw [if_neg (of_decide_eq_false hb)]; rfl) fun H7 e7 => ?_
        refine q_ifAsg (v := if f = 2 then .non else .int top) (et_is (et_test (ev_op (ev_var rfl) ev_c (rv_eq rfl))) (dint _ _)) (fun hb => by rw [if_pos (of_decide_eq_true hb)]; exact ev_c) (fun hb => by rw [if_neg (of_decide_eq_false hb)]; rfl) fun H8 e8 => ?_
        refine s_retU (eu_tup (ea_cons (ev_var rfl) (ea_cons (ev_var rfl) (ea_cons (ev_var rfl) ea_nil))) (by show 3 ≤ 100000; decide)) fun a H9 ha e9 g9 => ?_
        have e79 := (e7.trans e8).trans e9
        have e78 := e7.trans e8
        have b8 := b6.trans (But.of e78)
        have t8 := t6.mono e78
        have fr := b8.fresh t8 ha
        have ea : a ≠ wl := fun e => by rw [e, e78 wl _ g6] at ha; cases ha
        refine h a wl ⟨ws, if f = 2 then none else some top, if f = 1 ∨ f = 3 then none else some low⟩ H9 (b8.trans (But.of e9)) (t8.mono e9) fr.1 hwl ea ?_ (e79 wl _ g6) ⟨by show ws.length ≤ 10; omega, hw0, ?_, ?_, ?_, ?_, ?_⟩ hl
        · rw [g9]
          congr 3
          show [(if f = 2 then V.non else .int top), (if f = 1 ∨ f = 3 then V.non else .int low)] = [optV (if f = 2 then none else some top), optV (if f = 1 ∨ f = 3 then none else some low)]
          congr 1
          · split <;> rfl
          · congr 1; split <;> rfl
        · intro z hz
          have hz' : (if f = 2 then none else some top) = some z := hz
          split at hz'
          · cases hz'
          · cases hz'; omega
        · intro z hz
          have hz' : (if f = 1 ∨ f = 3 then none else some low) = some z := hz
          split at hz'
          · cases hz'
          · cases hz'; omega
        · show (if f = 2 then none else some top) ≠ none ∨ (if f = 1 ∨ f = 3 then none else some low) ≠ none
          by_cases f2 : f = 2
          · right; rw [if_neg (by omega)]; exact fun e => by cases e
          · left; rw [if_neg f2]; exact fun e => by cases e
        · intro hz
          refine hw1 fun m => ?_
          apply hz
          show (if f = 1 ∨ f = 3 then none else some low) = none
          rw [if_pos (.inr (fm m))]
        · intro x y hx hy
          have hx' : (if f = 2 then none else some top) = some x := hx
          have hy' : (if f = 1 ∨ f = 3 then none else some low) = some y := hy
          split at hx'
          · cases hx'
          · split at hy'
            · cases hy'
            · cases hx'; cases hy'; omega
/-- what is new in H2 -/
def nw (H H2 : Hp) : Hp := fun a => match H a with
  | none => H2 a
  | some _ => none
theorem nw_of {H H2 : Hp} {a : Addr} {o : HO} (h : nw H H2 a = some o) : H a = none ∧ H2 a = some o := by
  unfold nw at h
  cases e : H a with
  | none => rw [e] at h; exact ⟨rfl, h⟩
  | some u => rw [e] at h; cases h
theorem nw_at {H H2 : Hp} {a : Addr} {o : HO} (h : H a = none) (g : H2 a = some o) : nw H H2 a = some o := by
  unfold nw
  rw [h]
  exact g
theorem nw_ex {H H2 : Hp} : Ex (nw H H2) H2 := fun a o h => (nw_of h).2
theorem nw_but {H Ha Hb : Hp} {p : Addr} (hp : H p ≠ none) (b : But p Ha Hb) : Ex (nw H Ha) (nw H Hb) := fun a o h => nw_at (nw_of h).1 (b a o (fun e => hp (by rw [← e]; exact (nw_of h).1)) (nw_of h).2)
theorem nw_upd {H H' : Hp} {q : Addr} {o : HO} : Ex (hide [q] (nw H H')) (hide [q] (nw H (upd H' q o))) := fun a u h => by
  obtain ⟨n, h⟩ := hide_of h
  exact hide_at n (nw_at (nw_of h).1 (by rw [upd_ne (fun e => n (by rw [e]; exact List.mem_cons_self))]; exact (nw_of h).2))
theorem tape_some {H : Hp} {p : Addr} (t : Tape H p) : H p ≠ none := by
  obtain ⟨ds, h⟩ := t
  rw [h]
  exact fun e => by cases e
def spRows : Sp := fun vs H Q E => ∃ (p : Addr) (t : Nat) (odd : Int), vs = [.ref p, .int (t : Nat), .int odd] ∧ t ≤ 6 ∧ Tape H p ∧
  ∀ (l : Addr) (zs : List (Addr × Row)) (H2 : Hp), But p H H2 → Tape H2 p → H l = none → H2 l = some (.lst (zs.map fun z : Addr × Row => V.ref z.1)) → (∀ z ∈ zs, RowIs (nw H H2) z.1 z.2 ∧ RowOk z.2) → zs.length ≤ 6 → Q (.ref l) H2
theorem tape_upd {H : Hp} {p q : Addr} {o : HO} (t : Tape H p) (n : q ≠ p) : Tape (upd H q o) p := by
  obtain ⟨ds, h⟩ := t
  exact ⟨ds, by rw [upd_ne n.symm]; exact h⟩
theorem inV2 (z : Int) (ns : List Int) : inV (.int z) (ns.map V.int) = decide (z ∈ ns) := inV_ints z ns
def manys : List Int := [2, 3, 1, 4, 5, 0]
theorem manys_at {i : Int} (h : 0 ≤ i ∧ i < 6) : ∃ m : Nat, atI (manys.map V.int) i = some (.int (m : Nat)) ∧ m ≤ 5 := by
  rcases (show i = 0 ∨ i = 1 ∨ i = 2 ∨ i = 3 ∨ i = 4 ∨ i = 5 by omega) with rfl | rfl | rfl | rfl | rfl | rfl
  · exact ⟨2, rfl, by decide⟩
  · exact ⟨3, rfl, by decide⟩
  · exact ⟨1, rfl, by decide⟩
  · exact ⟨4, rfl, by decide⟩
  · exact ⟨5, rfl, by decide⟩
  · exact ⟨0, rfl, by decide⟩
/-- [..][take(..)] -/
theorem q_pick {tl : TE} {ta : TA} {σ : L2.St} {H : Hp} {D : Ends} {tz : TS} {E : L2.St → XK} {p : Addr} {many : Int} {i : Nat} {xs : List V} (hl : EvL tl σ H xs) (h : ∀ H1, Ex H H1 → EvA ta σ H1 [.ref p, .int many]) (hm : 0 < many) (ht : Tape H p) (k : ∀ r H2, 0 ≤ r → r < many → But p H H2 → Tape H2 p → ∃ v, atI xs r = some v ∧ tz D (σ.set i (some v)) H2) :
    tSeq (tAsg (tOp (rIxL K) tl (tCallS spTake E ta)) (gName i)) tz D σ H := hl H (Ex.refl H) _ fun q H1 hq e1 g1 => go_take (h H1 e1) hm (ht.mono e1) fun r H2 r0 r1 b t => by
  have nq : q ≠ p := fun e => by
    obtain ⟨ds, hp⟩ := ht
    rw [e, hp] at hq
    cases hq
  obtain ⟨v, hv, hk⟩ := k r H2 r0 r1 ((But.of e1).trans b) t
  exact ⟨q, xs, r, v, rfl, rfl, sq_of (b q _ nq g1), hv, hk⟩
theorem s_pick {tl : TE} {ta : TA} {σ : L2.St} {H : Hp} {D : Ends} {E : L2.St → XK} {p : Addr} {many : Int} {i : Nat} {xs : List V} (hl : EvL tl σ H xs) (h : ∀ H1, Ex H H1 → EvA ta σ H1 [.ref p, .int many]) (hm : 0 < many) (ht : Tape H p) (k : ∀ r H2, 0 ≤ r → r < many → But p H H2 → Tape H2 p → ∃ v, atI xs r = some v ∧ D.nx (σ.set i (some v)) H2) :
    tAsg (tOp (rIxL K) tl (tCallS spTake E ta)) (gName i) D σ H := hl H (Ex.refl H) _ fun q H1 hq e1 g1 => go_take (h H1 e1) hm (ht.mono e1) fun r H2 r0 r1 b t => by
  have nq : q ≠ p := fun e => by
    obtain ⟨ds, hp⟩ := ht
    rw [e, hp] at hq
    cases hq
  obtain ⟨v, hv, hk⟩ := k r H2 r0 r1 ((But.of e1).trans b) t
  exact ⟨q, xs, r, v, rfl, rfl, sq_of (b q _ nq g1), hv, hk⟩
/-- if c and take(..) == 0: .. -/
theorem q_szM {tt : TT} {ta : TA} {tu tz : TS} {σ : L2.St} {H : Hp} {D : Ends} {E : L2.St → XK} {p : Addr} {many : Int} {b : Bool} (M : L2.St → Hp → Prop) (hc : EvT tt σ H b) (h : ∀ H1, Ex H H1 → EvA ta σ H1 [.ref p, .int many]) (hm : 0 < many) (ht : Tape H p) (k : ∀ σ' H', M σ' H' → tz D σ' H')
    (h2 : ∀ H2, But p H H2 → Tape H2 p → M σ H2) (h1 : ∀ N : L2.St → Hp → Prop, (∀ σ' H', M σ' H' → N σ' H') → ∀ H2, But p H H2 → Tape H2 p → tu { D with nx := N } σ H2) :
    tSeq (tIfS (tAnd tt (tTest (tOp rEq (tCallS spTake E ta) (tC (.int 0))))) tu tNext) tz D σ H := by
  show tAnd tt (tTest (tOp rEq (tCallS spTake E ta) (tC (.int 0)))) σ H fun b H1 => if b = true then tu { D with nx := tz D } σ H1 else tNext { D with nx := tz D } σ H1
  refine hc H (Ex.refl H) _ fun H1 e1 => ?_
  cases b with
  | false => exact k σ H1 (h2 H1 (But.of e1) (ht.mono e1))
  | true =>
    refine go_take (h H1 e1) hm (ht.mono e1) fun r H2 r0 r1 b t => ⟨rfl, _, rfl, ?_⟩
    show if decide (V.int r = V.int 0) = true then tu { D with nx := tz D } σ H2 else tz D σ H2
    split
    · exact h1 _ k H2 ((But.of e1).trans b) t
    · exact k σ H2 (h2 H2 ((But.of e1).trans b) t)
theorem has__law_draw_rows (T : Tx P w K mg base c) (h__law_draw_row : Has P w K mg base 10 "_law_draw_row" ["tape", "size", "at", "mode"] (spRow)) (h__law_take : Has P w K mg base 4 "_law_take" ["tape", "many"] (spTake)) (D : DefAt K mg "_law_draw_rows" s__law_draw_rows ["tape", "things", "odd"]) : Has P w K mg base 12 "_law_draw_rows" ["tape", "things", "odd"] (spRows) := by
  refine D.has sc__law_draw_rows (fun vs H Q E h => ?len) (fun f cdv A outer s H vs Q E hr h => ?body)
  case len =>
    obtain ⟨_, _, _, rfl, _, _, _⟩ := h
    rfl
  case body =>
    have tk : Takes (cxOf (L2.CX P w) P w K mg base ["tape", "things", "odd", "mode", "many", "rows", "at", "size"] "_law_draw_rows" (defScope s__law_draw_rows) f cdv A outer s H E) (fun cls d _ H => E cls d H) := takes_of rfl rfl rfl rfl
    obtain ⟨p, t, odd, rfl, ht6, ht, h⟩ := h
    refine ⟨_, (pss_cons (ps_set (i := 3) sc__law_draw_rows.nd rfl (.inl rfl) (pe_hasN h__law_take (hr.mono (by decide)) (pa_cons (pv 0) (pa_cons pe_int pa_nil))))
      (pss_cons (ps_set (i := 4) sc__law_draw_rows.nd rfl (.inl rfl) (pe_ix ix_list (pe_lst (pa_cons pe_int (pa_cons pe_int (pa_cons pe_int (pa_cons pe_int (pa_cons pe_int (pa_cons pe_int pa_nil))))))) (pe_hasN h__law_take (hr.mono (by decide)) (pa_cons (pv 0) (pa_cons pe_int pa_nil))) (fun _ _ => rfl)))
      (pss_cons (ps_if (pt_cmpR op_in_seq (pv 2) (pe_tup (pa_cons pe_int (pa_cons pe_int pa_nil))) (by rfl)) (pss_one (ps_set (i := 4) sc__law_draw_rows.nd rfl (.inl rfl) pe_int)) pss_nil)
      (pss_cons (ps_set (i := 5) sc__law_draw_rows.nd rfl (.inl rfl) (pe_lst pa_nil))
      (pss_cons (ps_for (passes_of rfl) rfl (pi_range1 rfl T.z_range (pa_cons (pv 4) pa_nil)) (pg_name (i := 6) sc__law_draw_rows.nd rfl (.inl rfl)) (pss_cons (ps_set (i := 7) sc__law_draw_rows.nd rfl (.inl rfl) (pv 1))
      (pss_cons (ps_if (PW.pt (pw_and (pt_cmpR op_in_seq (pv 2) (pe_tup (pa_cons pe_int (pa_cons pe_int (pa_cons pe_int pa_nil)))) (by rfl)) (pw_and1 (pt_cmpR op_eq (pe_hasN h__law_take (hr.mono (by decide)) (pa_cons (pv 0) (pa_cons pe_int pa_nil))) pe_int (nomark _))))) (pss_one (ps_set (i := 7) sc__law_draw_rows.nd rfl (.inl rfl) (pe_ix ix_list (pe_lst (pa_cons (pe_op op_add (pv 1) pe_int) (pa_cons (pe_callB (call_max2 rfl) (by rfl) T.z_max (by decide +kernel) (pa_cons pe_int (pa_cons (pe_op op_sub (pv 1) pe_int) pa_nil))) pa_nil))) (pe_hasN h__law_take (hr.mono (by decide)) (pa_cons (pv 0) (pa_cons pe_int pa_nil))) (fun _ _ => rfl)))) pss_nil)
      (pss_cons (ps_if (pt_cmpR op_in_seq (pv 2) (pe_tup (pa_cons pe_int (pa_cons pe_int pa_nil))) (by rfl)) (pss_one (ps_set (i := 3) sc__law_draw_rows.nd rfl (.inl rfl) (pe_hasN h__law_take (hr.mono (by decide)) (pa_cons (pv 0) (pa_cons pe_int pa_nil))))) pss_nil)
      (pss_one (ps_expr (pe_bm PySem.F.plainAttrs_list PySem.F.slot_list_append PySem.F.type_list_append mt_append (pv 5) (pa_cons (pe_hasN h__law_draw_row (hr.mono (by decide)) (pa_cons (pv 0) (pa_cons (pv 7) (pa_cons (pv 6) (pa_cons (pv 3) pa_nil))))) pa_nil))))))))
      (pss_one (ps_ret (pv 5)))))))), ?_⟩
    refine q_take (p := p) (many := 4) (ea_cons (ev_var rfl) (ea_cons ev_c ea_nil)) (by decide) ht fun mode H1 m0 m1 b1 t1 => ?_
    refine q_pick (p := p) (many := 6) (xs := manys.map V.int) (el_lst (ea_cons ev_c (ea_cons ev_c (ea_cons ev_c (ea_cons ev_c (ea_cons ev_c (ea_cons ev_c ea_nil)))))) (by show 6 ≤ 100000; decide)) (fun H2 e2 => ea_cons (ev_var rfl) (ea_cons ev_c ea_nil)) (by decide) t1 fun r H2 r0 r1 b2 t2 => ?_
    obtain ⟨m, hm, m5⟩ := manys_at ⟨r0, r1⟩
    refine ⟨_, hm, ?_⟩
    have din : ∀ ns : List Int, inV (.int odd) (ns.map V.int) = decide (odd ∈ ns) := fun ns => inV_ints odd ns
    refine q_ifAsg (v := if odd ∈ ([7, 9] : List Int) then .int 6 else .int (m : Nat)) (et_is (et_test (ev_inU (ev_var rfl) (eu_tup (ea_cons ev_c (ea_cons ev_c ea_nil)) (by show 2 ≤ 100000; decide)) rfl rfl)) (din [7, 9])) (fun hb => by rw [if_pos (of_decide_eq_true hb)]; exact ev_c) (fun hb => by rw [if_neg (of_decide_eq_false hb)]; rfl) fun H3 e3 => ?_
    obtain ⟨n, hn, n6⟩ : ∃ n : Nat, (if odd ∈ ([7, 9] : List Int) then V.int 6 else .int (m : Nat)) = .int (n : Nat) ∧ n ≤ 6 := by
      split
      · exact ⟨6, rfl, by decide⟩
      · exact ⟨m, rfl, by omega⟩
    rw [hn]
    have b3 := (b1.trans b2).trans (But.of e3)
    have t3 := t2.mono e3
    refine q_asgL (el_lst ea_nil (by decide)) fun rl H4 hrl e4 g4 => ?_
    have b4 := b3.trans (But.of e4)
    have t4 := t3.mono e4
    obtain ⟨hrl0, nrl⟩ := b3.fresh t3 hrl
    refine q_forR1 (n := (n : Int)) (ea_cons (ev_var rfl) ea_nil) (by omega) (fun i σ' H' => ∃ (md : Int) (v6 v7 : Option V) (zs : List (Addr × Row)), σ' = [some (.ref p), some (.int (t : Nat)), some (.int odd), some (.int md), some (.int (n : Nat)), some (.ref rl), v6, v7] ∧ 0 ≤ md ∧ md ≤ 3 ∧ But p H H' ∧ Tape H' p ∧ H' rl = some (.lst (zs.map fun z => V.ref z.1)) ∧ zs.length = i ∧ ∀ z ∈ zs, RowIs (hide [rl] (nw H H')) z.1 z.2 ∧ RowOk z.2)
      (fun H5 e5 => ⟨mode, none, none, [], rfl, m0, by omega, b4.trans (But.of e5), t4.mono e5, e5 rl _ g4, rfl, fun z hz => by cases hz⟩) ?turn ?fin
    case turn =>
      rintro i σ' H5 hi ⟨md, v6, v7, zs, rfl, md0, md3, b5, t5, g5, hl, hz⟩
      have hi6 : i < 6 := by omega
      refine q_asg (v := .int (t : Nat)) (ev_var rfl) fun H6 e6 => ?_
      have keep : ∀ {Ha Hb : Hp}, But p Ha Hb → (∀ z ∈ zs, RowIs (hide [rl] (nw H Ha)) z.1 z.2 ∧ RowOk z.2) → ∀ z ∈ zs, RowIs (hide [rl] (nw H Hb)) z.1 z.2 ∧ RowOk z.2 := fun b hh z hm => ⟨(hh z hm).1.mono (hide_mono (nw_but (tape_some ht) b)), (hh z hm).2⟩
      refine q_szM (p := p) (M := fun σ' H' => ∃ sz : Nat, σ' = [some (.ref p), some (.int (t : Nat)), some (.int odd), some (.int md), some (.int (n : Nat)), some (.ref rl), some (.int (i : Nat)), some (.int (sz : Nat))] ∧ sz ≤ 7 ∧ But p H5 H' ∧ Tape H' p) (b := decide (odd ∈ ([8, 9, 11] : List Int)))
        (et_is (et_test (ev_inU (ev_var rfl) (eu_tup (ea_cons ev_c (ea_cons ev_c (ea_cons ev_c ea_nil))) (by show 3 ≤ 100000; decide)) rfl rfl)) (din [8, 9, 11])) (fun H7 e7 => ea_cons (ev_var rfl) (ea_cons ev_c ea_nil)) (by decide) (t5.mono e6) ?rest (fun H7 b7 t7 => ⟨t, rfl, by omega, (But.of e6).trans b7, t7⟩) (fun N hN H7 b7 t7 => ?pick)
      case pick =>
        refine s_pick (p := p) (many := 2) (xs := [.int ((t : Int) + 1), .int (if (t : Int) - 1 > 0 then (t : Int) - 1 else 0)]) (el_lst (ea_cons (ev_op (ev_var rfl) ev_c rv_I0) (ea_cons (ev_max2 ev_c (ev_op (ev_var rfl) ev_c rv_I0)) ea_nil)) (by show 2 ≤ 100000; decide)) (fun H8 e8 => ea_cons (ev_var rfl) (ea_cons ev_c ea_nil)) (by decide) t7 fun q H8 q0 q1 b8 t8 => ?_
        rcases (show q = 0 ∨ q = 1 by omega) with rfl | rfl
        · exact ⟨_, rfl, hN _ _ ⟨t + 1, rfl, by omega, ((But.of e6).trans b7).trans b8, t8⟩⟩
        · refine ⟨_, rfl, hN _ _ ⟨t - 1, ?_, by omega, ((But.of e6).trans b7).trans b8, t8⟩⟩
          have : (if (t : Int) - 1 > 0 then (t : Int) - 1 else 0) = ((t - 1 : Nat) : Int) := by split <;> omega
          rw [this]
          rfl
      case rest =>
        rintro σ' H7 ⟨sz, rfl, hsz, b7, t7⟩
        refine q_whenM (b := decide (odd ∈ ([10, 11] : List Int))) (fun σ' H' => ∃ md : Int, σ' = [some (.ref p), some (.int (t : Nat)), some (.int odd), some (.int md), some (.int (n : Nat)), some (.ref rl), some (.int (i : Nat)), some (.int (sz : Nat))] ∧ 0 ≤ md ∧ md ≤ 3 ∧ But p H5 H' ∧ Tape H' p)
          (et_is (et_test (ev_inU (ev_var rfl) (eu_tup (ea_cons ev_c (ea_cons ev_c ea_nil)) (by show 2 ≤ 100000; decide)) rfl rfl)) (din [10, 11])) ?rest2 (fun N hN hb H8 e8 => s_take (p := p) (many := 4) (ea_cons (ev_var rfl) (ea_cons ev_c ea_nil)) (by decide) (t7.mono e8) fun q H9 q0 q1 b9 t9 => hN _ _ ⟨q, rfl, q0, by omega, (b7.trans (But.of e8)).trans b9, t9⟩) (fun hb H8 e8 => ⟨md, rfl, md0, md3, b7.trans (But.of e8), t7.mono e8⟩)
        rintro σ' H8 ⟨md, rfl, md0, md3, b8, t8⟩
        have g8 : H8 rl = some (.lst (zs.map fun z => V.ref z.1)) := b8 rl _ nrl g5
        refine s_appT g8 (ev_var rfl) fun H9 e9 => ?_
        have ha : EvA (tCons (tVar 0) (tCons (tVar 7) (tCons (tVar 6) (tCons (tVar 3) tNil)))) [some (.ref p), some (.int (t : Nat)), some (.int odd), some (.int md), some (.int (n : Nat)), some (.ref rl), some (.int (i : Nat)), some (.int (sz : Nat))] H9 [.ref p, .int (sz : Nat), .int (i : Nat), .int md] := ea_cons (ev_var rfl) (ea_cons (ev_var rfl) (ea_cons (ev_var rfl) (ea_cons (ev_var rfl) ea_nil)))
        refine ha H9 (Ex.refl H9) _ fun H10 e10 => ⟨p, sz, i, md, rfl, hsz, by omega, md0, md3, (t8.mono e9).mono e10, fun a w r H11 b11 t11 ha hw naw ga gw ok hlen => ?_⟩
        have g10 : H10 rl = some (.lst (zs.map fun z => V.ref z.1)) := (e9.trans e10) rl _ g8
        have g11 : H11 rl = some (.lst (zs.map fun z => V.ref z.1)) := b11 rl _ nrl g10
        have bb : But p H5 H11 := (b8.trans (But.of (e9.trans e10))).trans b11
        refine ⟨rl, _, .ref a, rfl, rfl, g11, sz_lt (by rw [List.length_map]; omega), ?_⟩
        have tp10 : Tape H10 p := (t8.mono e9).mono e10
        have nap : a ≠ p := fun e => by obtain ⟨ds, hp⟩ := tp10; rw [e, hp] at ha; cases ha
        have nwp : w ≠ p := fun e => by obtain ⟨ds, hp⟩ := tp10; rw [e, hp] at hw; cases hw
        have nar : a ≠ rl := fun e => by rw [e, g10] at ha; cases ha
        have nwr : w ≠ rl := fun e => by rw [e, g10] at hw; cases hw
        refine ⟨md, _, _, zs ++ [(a, r)], rfl, md0, md3, (b5.trans bb).new hrl0, tape_upd t11 nrl, by rw [upd_same, List.map_append]; rfl, by rw [List.length_append, hl]; rfl, fun z hm => ?_⟩
        rcases List.mem_append.mp hm with hm | hm
        · exact ⟨((keep bb hz z hm).1).mono nw_upd, (hz z hm).2⟩
        · rw [List.mem_singleton.mp hm]
          have n1 : a ∉ [rl] := fun e => nar (List.mem_singleton.mp e)
          have n2 : w ∉ [rl] := fun e => nwr (List.mem_singleton.mp e)
          have b10 : But p H H10 := (b5.trans b8).trans (But.of (e9.trans e10))
          exact ⟨⟨w, hide_at n1 (nw_at (b10.fresh tp10 ha).1 (by rw [upd_ne nar]; exact ga)), hide_at n2 (nw_at (b10.fresh tp10 hw).1 (by rw [upd_ne nwr]; exact gw))⟩, ok⟩
    case fin =>
      rintro σ' H5 ⟨md, v6, v7, zs, rfl, md0, md3, b5, t5, g5, hl, hz⟩
      rw [Int.toNat_natCast] at hl
      refine s_ret (ev_var rfl) fun H6 e6 => h rl zs H6 (b5.trans (But.of e6)) (t5.mono e6) hrl0 (e6 rl _ g5) (fun z hm => ⟨(hz z hm).1.mono ((hide_mono (nw_but (tape_some ht) (But.of e6))).trans hide_ex), (hz z hm).2⟩) (by omega)
end
end K4
namespace K4
open PySem PySem.Spec PyProof.Rows L2 Evl Nd
local macro_rules | `(tactic| walk_at "ev") => `(tactic| first
  | exact ev_var rfl
  | exact ev_c
  | (apply ev_op; (walk_at "ev"); (walk_at "ev"); (walk_at "rv"))
  | (apply ev_un; (walk_at "ev"); (walk_at "rv"))
  | (apply ev_lenS; (walk_at "ev"); (walk_at "sq"))
  | (apply ev_andV; (walk_at "ev"); (intro _; walk_at "ev"))
  | (apply ev_orV; (walk_at "ev"); (intro _; walk_at "ev"))
  | (apply ev_notV; (walk_at "ev")))
local macro_rules | `(tactic| walk_at "rv") => `(tactic| first
  | exact rv_I0
  | exact ru_neg
  | exact rv_eq rfl
  | exact rv_ne rfl
  | exact rv_I (by decide)
  | exact rv_I (by first | omega | exact .inl (by omega) | exact .inr (by omega) | (constructor <;> omega)))
local macro_rules | `(tactic| walk_at "sq") => `(tactic| first
  | assumption
  | exact SqS.lst (by assumption)
  | exact SqS.tup (by assumption)
  | exact Or.inl (by assumption)
  | exact Or.inr (by assumption)
  | (refine SqS.mono (by assumption) ?_; walk_at "sq"))
local macro_rules | `(tactic| walk_at "et") => `(tactic| first
  | (apply et_or; (walk_at "et"); (intro _; walk_at "et"))
  | (apply et_and; (walk_at "et"); (intro _; walk_at "et"))
  | (apply et_not; (walk_at "et"))
  | (apply et_test; (walk_at "ev"))
  | (apply et_B; (walk_at "ev")))
local macro_rules | `(tactic| walk_at "ea") => `(tactic| first
  | exact ea_nil
  | (apply ea_cons; (walk_at "ev"); (walk_at "ea")))
section
variable {P : Program} {w : World} {K : PySem.W.Frag} {mg : Str → Option Value} {base : Heap} {c : Ad}
/-! ### what is due, what is told -/
def RetDp (K : PySem.W.Frag) (d : PyData) (H : Hp) (Q : VK) : Prop := ∀ v H2, Ex H H2 → Dp K H2 v d → Q v H2
theorem RetDp.mono {d : PyData} {H H' : Hp} {Q : VK} (h : RetDp K d H Q) (e : Ex H H') : RetDp K d H' Q := fun v H2 e2 hd => h v H2 (e.trans e2) hd
theorem s_retD {σ : L2.St} {H : Hp} {te : TE} {D : Ends} {d : PyData} (h : EvD K te σ H d) (k : ∀ v H1, Ex H H1 → Dp K H1 v d → D.rt v H1) : tRet te D σ H := h H (Ex.refl H) _ k
/-- new data -/
def RetN (K : PySem.W.Frag) (d : PyData) (H : Hp) (Q : VK) : Prop := ∀ v H2, Ex H H2 → Dp K (nw H H2) v d → Q v H2
theorem nw_r {H H2 H3 : Hp} (e : Ex H2 H3) : Ex (nw H H2) (nw H H3) := fun a o h => nw_at (nw_of h).1 (e a o (nw_of h).2)
theorem nw_l {H H' H2 : Hp} (e : Ex H H') : Ex (nw H' H2) (nw H H2) := fun a o h => nw_at (fresh_back e (nw_of h).1) (nw_of h).2
def EvN (K : PySem.W.Frag) (te : TE) (σ : L2.St) (H : Hp) (d : PyData) : Prop := ∀ H1, Ex H H1 → ∀ Q : VK, (∀ v H2, Ex H1 H2 → Dp K (nw H1 H2) v d → Q v H2) → te σ H1 Q
def EvNs (K : PySem.W.Frag) (tc : TA) (σ : L2.St) (H : Hp) (ds : List PyData) : Prop := ∀ H1, Ex H H1 → ∀ Q : List V → Hp → Prop, (∀ vs H2, Ex H1 H2 → DpAll K (nw H1 H2) vs ds → Q vs H2) → tc σ H1 Q
theorem en_int {te : TE} {σ : L2.St} {H : Hp} {i : Int} (h : Ev te σ H (.int i)) : EvN K te σ H (.int i) := fun H1 e Q q => h H1 e _ fun H2 e2 => q _ H2 e2 (.int i)
theorem en_str {te : TE} {σ : L2.St} {H : Hp} {i : Str} (h : Ev te σ H (.str i)) : EvN K te σ H (.str i) := fun H1 e Q q => h H1 e _ fun H2 e2 => q _ H2 e2 (.str i)
theorem ens_nil {σ : L2.St} {H : Hp} : EvNs K tNil σ H [] := fun H1 _ _ q => q [] H1 (Ex.refl H1) .nil
theorem ens_cons {te : TE} {tc : TA} {σ : L2.St} {H : Hp} {d : PyData} {ds : List PyData} (h : EvN K te σ H d) (hr : EvNs K tc σ H ds) : EvNs K (tCons te tc) σ H (d :: ds) := fun H1 e Q q =>
  h H1 e _ fun v H2 e2 dv => hr H2 (e.trans e2) _ fun vs H3 e3 dvs => q (v :: vs) H3 (e2.trans e3) (.cons (dp_mono (nw_r e3) _ dv) (dpa_mono (nw_l e2) _ dvs))
theorem en_tup {tc : TA} {σ : L2.St} {H : Hp} {ds : List PyData} (h : EvNs K tc σ H ds) (hl : ds.length ≤ 100000) : EvN K (tTup tc) σ H (.tuple ds) := fun H1 e Q q => h H1 e _ fun vs H2 e2 hv =>
  ⟨sz_of (by rw [dpa_len hv]; exact hl), fun p hp => q (.ref p) _ (e2.trans (Ex.new hp)) (.tup (st_of (nw_at (fresh_back e2 hp) upd_same)) (dpa_mono (nw_r (Ex.new hp)) _ hv))⟩
theorem en_lst {tc : TA} {σ : L2.St} {H : Hp} {ds : List PyData} (h : EvNs K tc σ H ds) (hl : ds.length ≤ 100000) : EvN K (tLst tc) σ H (.list ds) := fun H1 e Q q => h H1 e _ fun vs H2 e2 hv =>
  ⟨sz_of (by rw [dpa_len hv]; exact hl), fun p hp => q (.ref p) _ (e2.trans (Ex.new hp)) (.lst (sq_of (nw_at (fresh_back e2 hp) upd_same)) (dpa_mono (nw_r (Ex.new hp)) _ hv))⟩
theorem s_retN {σ : L2.St} {H H0 : Hp} {te : TE} {D : Ends} {d : PyData} (e : Ex H0 H) (h : EvN K te σ H d) (k : RetN K d H0 D.rt) : tRet te D σ H := h H (Ex.refl H) _ fun v H1 e1 hd => k v H1 (e.trans e1) (dp_mono (nw_l e) _ hd)
theorem kind_w (rs : List Row) : decide (kindOf rs = "weighted") = !rs.all plain := by
  unfold kindOf
  cases rs.all plain with
  | false =>
    show decide ((if false = false then ("weighted" : Str) else if rs.all (fun r => r.low.isNone) = true then "most" else if rs.all (fun r => r.top.isNone) = true then "least" else "both") = "weighted") = true
    rw [if_pos rfl]
    decide
  | true =>
    show decide ((if true = false then ("weighted" : Str) else if rs.all (fun r => r.low.isNone) = true then "most" else if rs.all (fun r => r.top.isNone) = true then "least" else "both") = "weighted") = false
    rw [if_neg (by decide)]
    split
    · decide
    · split <;> decide
def spDue (K : PySem.W.Frag) : Sp := fun vs H Q E => ∃ (l : Addr) (t : Nat) (zs : List (Addr × Row)), vs = [.int (t : Nat), .ref l] ∧ t ≤ 6 ∧ zs.length ≤ 6 ∧ RowsAt K H l zs ∧ (∀ z ∈ zs, RowOk z.2) ∧ RetN K (dueD (bookErr t (rowsOf zs))) H Q
theorem rows_at {zs : List (Addr × Row)} {i : Nat} (h : i < zs.length) : (rowsOf zs)[i]? = some (zs.getD i z0).2 := by
  unfold rowsOf
  rw [List.getElem?_map, List.getElem?_eq_getElem h, List.getD_eq_getElem?_getD, List.getElem?_eq_getElem h]
  rfl
theorem has__law_book_due (T : Tx P w K mg base c) (h__law_book_kind : Has P w K mg base 6 "_law_book_kind" ["rows"] (spKindL K)) (D : DefAt K mg "_law_book_due" s__law_book_due ["things", "rows"]) : Has P w K mg base 10 "_law_book_due" ["things", "rows"] (spDue K) := by
  refine D.has sc__law_book_due (fun vs H Q E h => ?len) (fun f cdv A outer s H vs Q E hr h => ?body)
  case len =>
    obtain ⟨_, _, _, rfl, _, _, _, _, _⟩ := h
    rfl
  case body =>
    have tk : Takes (cxOf (L2.CX P w) P w K mg base ["things", "rows", "row", "at"] "_law_book_due" (defScope s__law_book_due) f cdv A outer s H E) (fun cls d _ H => E cls d H) := takes_of rfl rfl rfl rfl
    obtain ⟨l, t, zs, rfl, ht, h6, hR, hok, h⟩ := h
    refine ⟨_, (pss_cons (ps_if (pt_cmpR op_gt (pe_callB call_len_seq (by rfl) T.z_len (by decide +kernel) (pa_cons (pv 1) pa_nil)) pe_int (nomark _)) (pss_one (ps_ret (pe_lst (pa_cons (pe_tup (pa_cons pe_str (pa_cons (pe_callB call_len_seq (by rfl) T.z_len (by decide +kernel) (pa_cons (pv 1) pa_nil)) pa_nil))) pa_nil)))) pss_nil)
      (pss_cons (ps_for (passes_of rfl) rfl (pi_list (pv 1)) (pg_name (i := 2) sc__law_book_due.nd rfl (.inl rfl)) (pss_one (ps_if (pt_cmpR op_ne (pe_callB call_len_seq (by rfl) T.z_len (by decide +kernel) (pa_cons (pe_ix ix_tup (pv 2) pe_int (fun _ _ => rfl)) pa_nil)) (pv 0) (nomark _)) (pss_one (ps_ret (pe_lst (pa_cons (pe_tup (pa_cons pe_str (pa_cons (pe_callB call_len_seq (by rfl) T.z_len (by decide +kernel) (pa_cons (pe_ix ix_tup (pv 2) pe_int (fun _ _ => rfl)) pa_nil)) pa_nil))) pa_nil)))) pss_nil)))
      (pss_cons (ps_if (pt_cmpR op_eq (pe_hasN h__law_book_kind (hr.mono (by decide)) (pa_cons (pv 1) pa_nil)) pe_str (nomark _)) (pss_one (ps_for (passes_of rfl) rfl (pi_range1 rfl T.z_range (pa_cons (pe_callB call_len_seq (by rfl) T.z_len (by decide +kernel) (pa_cons (pv 1) pa_nil)) pa_nil)) (pg_name (i := 3) sc__law_book_due.nd rfl (.inl rfl)) (pss_one (ps_if (pt_cmpR op_notN (pe_ix ix_tup (pe_ix ix_list (pv 1) (pv 3) (fun _ _ => rfl)) pe_int (fun _ _ => rfl)) pe_non (nomark _)) (pss_one (ps_ret (pe_lst (pa_cons (pe_tup (pa_cons pe_str (pa_cons (pv 3) pa_nil))) pa_nil)))) pss_nil)))) pss_nil)
      (pss_one (ps_ret (pe_lst pa_nil)))))), ?_⟩
    have hl : (rowsOf zs).length = zs.length := by unfold rowsOf; rw [List.length_map]
    have hl2 : (zs.map fun z => V.ref z.1).length = zs.length := by rw [List.length_map]
    refine q_when (b := decide ((zs.length : Int) > 5)) (et_test (ev_op (ev_is (ev_lenS (ev_var rfl) (.inl hR.1)) (by rw [hl2])) ev_c rv_I0)) (fun hb H1 e1 => ?_) (fun hb H1 e1 => ?_)
    · have e : bookErr t (rowsOf zs) = some (.size zs.length) := by unfold bookErr; rw [if_pos (by rw [hl]; have := of_decide_eq_true hb; omega), hl]
      rw [e] at h
      exact s_retN (e1) (en_lst (ens_cons (en_tup (ens_cons (en_str ev_c) (ens_cons (en_int (ev_is (ev_lenS (ev_var rfl) (.inl (ex_l e1 hR.1))) (by rw [hl2]))) ens_nil)) (by show 2 ≤ 100000; decide)) ens_nil) (by show 1 ≤ 100000; decide)) h
    have h5 : ¬ 5 < (rowsOf zs).length := by rw [hl]; have := of_decide_eq_false hb; omega
    refine q_forLn (a := l) (ev_var rfl) (ex_l e1 hR.1) (fun i σ' H' => ∃ v2, σ' = [some (.int (t : Nat)), some (.ref l), v2, none] ∧ Ex H H' ∧ ∀ j s, j < i → (rowsOf zs)[j]? = some s → s.ws.length = t) (fun H2 e2 => ⟨none, rfl, e1.trans e2, fun j s hj => by omega⟩) (fun i σ' H' _ q => by obtain ⟨_, _, e, _⟩ := q; exact ex_l e hR.1) ?turn ?fin
    case turn =>
      rintro i v σ' H2 hv ⟨v2, rfl, x2, hb2⟩
      obtain ⟨hz, rfl, hm⟩ := at_row hv
      have hr := rows_at (List.getElem?_eq_some_iff.mp hz).1
      have elen : ∀ {H3 : Hp}, Ex H H3 → Ev (tCB (fun vs H Q => ∃ p ys, vs = [.ref p] ∧ (SqL K H p ys ∨ SqT K H p ys) ∧ Q (.int ys.length) H) (tCons (tOp (rIxT K) (tVar 2) (tC (.int 0))) tNil)) [some (.int (t : Nat)), some (.ref l), some (.ref (zs.getD i z0).1), none] H3 (.int ((zs.getD i z0).2.ws.length : Int)) := fun e => by
        obtain ⟨_, _, w, ew, gw⟩ := row_ix (K := K) (te := tVar 2) ((hR.2 _ hm).mono e) (ev_var (σ := [some (.int (t : Nat)), some (.ref l), some (.ref (zs.getD i z0).1), none]) rfl)
        exact ev_is (ev_lenS ew (.inl (sq_of gw))) (by rw [List.length_map])
      refine s_when (b := !decide (((zs.getD i z0).2.ws.length : Int) = (t : Int))) (et_is (et_test (ev_op (elen x2) (ev_var rfl) (rv_ne rfl))) (by rw [dint])) (fun hb3 H3 e3 => ?_) (fun hb3 H3 e3 => ?_)
      · have hne : (zs.getD i z0).2.ws.length ≠ t := fun e => by rw [e] at hb3; simp at hb3
        have e : bookErr t (rowsOf zs) = some (.size (zs.getD i z0).2.ws.length) := by
          unfold bookErr
          rw [if_neg h5, badLen_at hr hne hb2]
        rw [e] at h
        exact s_retN ((x2.trans e3)) (en_lst (ens_cons (en_tup (ens_cons (en_str ev_c) (ens_cons (en_int (elen (x2.trans e3))) ens_nil)) (by show 2 ≤ 100000; decide)) ens_nil) (by show 1 ≤ 100000; decide)) h
      · refine ⟨_, rfl, x2.trans e3, fun j s hj hs => ?_⟩
        rcases Nat.lt_succ_iff_lt_or_eq.mp hj with hj | rfl
        · exact hb2 j s hj hs
        · rw [hr] at hs
          cases hs
          by_cases e : (zs.getD j z0).2.ws.length = t
          · exact e
          · rw [decide_eq_false (by omega)] at hb3; cases hb3
    case fin =>
      rintro σ' H2 ⟨v2, rfl, x2, hb2⟩
      rw [hl2] at hb2
      have hlen : ∀ r ∈ rowsOf zs, r.ws.length = t := fun r hr => by
        obtain ⟨i, hi⟩ := List.mem_iff_getElem?.mp hr
        exact hb2 i r (by rw [← hl]; exact (List.getElem?_eq_some_iff.mp hi).1) hi
      have hbad : badLen t (rowsOf zs) = none := badLen_none.mpr hlen
      have hE : bookErr t (rowsOf zs) = if (rowsOf zs).all plain = true then none else (firstLow (rowsOf zs) 0).map fun i => Er.wish i := by
        unfold bookErr
        rw [if_neg h5, hbad]
      have fin : ∀ {σ' : L2.St} {H3 : Hp}, Ex H H3 → bookErr t (rowsOf zs) = none → tRet (tLst tNil) { nx := fun _ H' => Q .non H', rt := Q } σ' H3 := fun {σ'} {H3} e hn => by
        rw [hn] at h
        exact s_retN (e) (en_lst (K := K) ens_nil (by show 0 ≤ 100000; decide)) h
      refine q_whenM (b := !(rowsOf zs).all plain) (fun σ' H' => Ex H H' ∧ bookErr t (rowsOf zs) = none) (et_is (et_test (ev_op (ev_callS (z := .str (kindOf (rowsOf zs))) (ea_cons (ev_var rfl) ea_nil) fun H3 e3 Q' E' q' => ⟨l, zs, rfl, h6, hR.mono (x2.trans e3), hok, q'⟩) ev_c (rv_eq rfl))) (by rw [dstr]; exact kind_w _)) (fun σ' H' M => fin M.1 M.2) (fun N hN hp H3 e3 => ?loop) (fun hp H3 e3 => ⟨x2.trans e3, by rw [hE, if_pos (by simpa using hp)]⟩)
      have hp' : (rowsOf zs).all plain = false := by simpa using hp
      have x3 := x2.trans e3
      refine s_forR1 (n := (zs.length : Int)) (ea_cons (ev_is (ev_lenS (ev_var rfl) (.inl (ex_l x3 hR.1))) (by rw [hl2])) ea_nil) (by omega) (fun i σ' H' => ∃ v3, σ' = [some (.int (t : Nat)), some (.ref l), v2, v3] ∧ Ex H H' ∧ ∀ j s, j < i → (rowsOf zs)[j]? = some s → s.low.isSome = false) (fun H4 e4 => ⟨_, rfl, x3.trans e4, fun j s hj => by omega⟩) ?turn2 ?fin2
      case turn2 =>
        rintro i σ' H4 hi ⟨v3, rfl, x4, hb3⟩
        have hi' : i < zs.length := by omega
        have hz : zs[i]? = some (zs.getD i z0) := by rw [List.getD_eq_getElem?_getD, List.getElem?_eq_getElem hi']; rfl
        have hr := rows_at hi'
        have hm := List.mem_of_getElem? hz
        obtain ⟨_, el, _⟩ := row_ix (K := K) (σ := [some (.int (t : Nat)), some (.ref l), v2, some (.int (i : Nat))]) (te := tOp (rIxL K) (tVar 1) (tVar 3)) ((hR.2 _ hm).mono x4) (ev_op (ev_var rfl) (ev_var rfl) (rv_ixL (ex_l x4 hR.1) (atI_nat (by rw [List.getElem?_map, hz]; rfl))))
        refine s_when (b := (zs.getD i z0).2.low.isSome) (et_is (et_test (ev_op el ev_c rv_notN)) (by rw [optV_non]; cases (zs.getD i z0).2.low <;> rfl)) (fun hb4 H5 e5 => ?_) (fun hb4 H5 e5 => ?_)
        · have e : bookErr t (rowsOf zs) = some (.wish (i : Nat)) := by
            rw [hE, if_neg (by rw [hp']; exact Bool.false_ne_true), firstLow_at hr hb4 hb3]
            simp
          rw [e] at h
          exact s_retN ((x4.trans e5)) (en_lst (ens_cons (en_tup (ens_cons (en_str ev_c) (ens_cons (en_int (ev_var rfl)) ens_nil)) (by show 2 ≤ 100000; decide)) ens_nil) (by show 1 ≤ 100000; decide)) h
        · refine ⟨_, rfl, x4.trans e5, fun j s hj hs => ?_⟩
          rcases Nat.lt_succ_iff_lt_or_eq.mp hj with hj | rfl
          · exact hb3 j s hj hs
          · rw [hr] at hs
            cases hs
            exact hb4
      case fin2 =>
        rintro σ' H4 ⟨v3, rfl, x4, hb3⟩
        rw [Int.toNat_natCast] at hb3
        refine hN _ _ ⟨x4, ?_⟩
        rw [hE, if_neg (by rw [hp']; exact Bool.false_ne_true), firstLow_none fun r hr => by
          obtain ⟨i, hi⟩ := List.mem_iff_getElem?.mp hr
          exact hb3 i r (by rw [← hl]; exact (List.getElem?_eq_some_iff.mp hi).1) hi]
        rfl
theorem Er.dat_is (r : Er) : r.dat = .tuple [.str r.word, .int r.val] := by cases r <;> rfl
theorem RetE.of {r : Er} {H : Hp} {Q : VK} (h : RetDp K (dueD (some r)) H Q) : RetE r H Q := fun l q H2 hl e gl gq => h _ H2 e (by
  show Dp K H2 (.ref l) (.list [r.dat])
  rw [r.dat_is]
  exact .lst (sq_of gl) (.cons (.tup (st_of gq) (.cons (.str _) (.cons (.int _) .nil))) .nil))
theorem s_lstMk {C : Addr} {sp : Sp} {E : L2.St → XK} {ta : TA} {D : Ends} {σ : L2.St} {H : Hp} {vs : List V} (h : EvA ta σ H vs) (k : ∀ H1, Ex H H1 → ∀ x dx, H1 x = none → H1 dx = none → dx ≠ x → sp (.ref x :: (vs ++ [])) (upd (upd H1 dx (.own x)) x (.ins C dx [])) (fun v H2 => v = .non ∧ (1 ≤ sizeLine ∧ ∀ p, H2 p = none → D.rt (.ref p) (upd H2 p (.lst [.ref x])))) (E σ)) : tRet (tLst (tCons (tMakS C sp [] E ta) tNil)) D σ H := h H (Ex.refl H) _ k
theorem s_refs {a : Addr} {cls : Value} {d : Option Addr} {D : Ends} {σ : L2.St} {H : Hp} (hσ : σ[2]? = some (some (.ref a))) (h : ∀ H2, Ex H H2 → spRef c a cls d [.ref a] H2 D.rt E0) : tRet (tCallS (spRef c a cls d) (fun _ => E0) (tCons (tVar 2) tNil)) D σ H := by
  have ha : EvA (tCons (tVar 2) tNil) σ H [.ref a] := ea_cons (ev_var hσ) ea_nil
  exact ha H (Ex.refl H) (fun vs H2 => spRef c a cls d vs H2 D.rt E0) h
theorem RetE.mono {r : Er} {H H' : Hp} {Q : VK} (h : RetE r H Q) (e : Ex H H') : RetE r H' Q := fun l q H2 hl e2 gl gq => h l q H2 (fresh_back e hl) (e.trans e2) gl gq
def spMake (K : PySem.W.Frag) (c : Ad) : Sp := fun vs H Q E => ∃ (f l : Addr) (ads : List Addr) (t : Nat) (rk : List Int) (rs : List Row), vs = [.ref f, .ref l] ∧ t ≤ 6 ∧ rs.length ≤ 6 ∧ FamAt K c H f t rk ∧ H l = some (.lst (ads.map V.ref)) ∧ WishesAt K c H ads rs ∧
  (∀ e, bookErr t rs = some e → RetE e H Q) ∧ (bookErr t rs = none → ∀ l' b H2, H l' = none → Ex H H2 → H2 l' = some (.lst [.ref b]) → BookAt K c H2 b f t rs → Q (.ref l') H2)
theorem has__law_make (T : Tx P w K mg base c) (h__law_refusals : HasX P w K mg base 4 "_law_refusals" ["error"] (spRef c)) (h_mkBook : MakC P w K mg base 8 c.KB "Book" ["self", "family", "wishes"] (spBkI K c)) (D : DefAt K mg "_law_make" s__law_make ["family", "wishes"]) : Has P w K mg base 14 "_law_make" ["family", "wishes"] (spMake K c) := by
  refine D.has sc__law_make (fun vs H Q E h => ?len) (fun f cdv A outer s H vs Q E hr h => ?body)
  case len =>
    obtain ⟨_, _, _, _, _, _, rfl, _, _, _, _, _, _, _⟩ := h
    rfl
  case body =>
    have tk : Takes (cxOf (L2.CX P w) P w K mg base ["family", "wishes", "e"] "_law_make" (defScope s__law_make) f cdv A outer s H E) (fun cls d _ H => E cls d H) := takes_of rfl rfl rfl rfl
    obtain ⟨f, l, ads, t, rk, rs, rfl, ht, h6, hF, gl, hW, hE, h⟩ := h
    refine ⟨_, (pss_one (ps_try_ms rfl rfl sc__law_make.nd takes0 (fun W pn xe tk po => (pss_one (ps_ret (pe_lst (pa_cons (pe_makR h_mkBook (hr.mono (by decide)) tk (pa_cons (pv 0) (pa_cons (pv 1) pa_nil))) pa_nil))))) (HdAs.cons (i := 2) (c := .ref c.CO) rfl rfl ⟨rfl, by decide, .inl T.e_NodearerError.g⟩ (fun a oe cls d pn hz hf => (pss_one (ps_ret (pe_hasX rfl rfl h__law_refusals (RoomA.suite (hr.mono (by decide)) _) hz hf (pa_cons (pv 2) pa_nil))))) HdAs.nil))), ?_⟩
    refine s_lstMk (ea_cons (ev_var (v := .ref f) rfl) (ea_cons (ev_var (v := .ref l) rfl) ea_nil)) fun H1 e1 x dx hx hd ne => ?_
    have hxu : upd H1 dx (.own x) x = none := by rw [upd_ne (fun e => ne e.symm)]; exact hx
    have X : Ex H1 (upd (upd H1 dx (.own x)) x (.ins c.KB dx [])) := (Ex.new hd).trans (Ex.new hxu)
    have nl : l ≠ x := fun e => by have := e1 l _ gl; rw [e, hx] at this; cases this
    have X1 := e1.trans X
    refine ⟨x, dx, f, l, ads, t, rk, rs, rfl, ht, h6, upd_same, nl, hF.mono X1, sq_of (X1 l _ gl), hW.mono X1, fun z hz => ?_, fun z hz => ?_, fun hn tw H2 b gx gtw => ⟨rfl, by decide, fun l' hl' => ?_⟩⟩
    · intro d H' e' hd'
      refine ⟨true, T.xSO, fun _ q na => ?_, fun hb => Bool.noConfusion hb⟩
      refine s_refs rfl fun H2 e2 => ⟨.size z, d, rfl, rfl, rfl, e2 d _ hd', ?_⟩
      exact (hE _ hz).mono ((X1.trans e').trans e2)
    · intro d H' e' hd'
      refine ⟨true, T.xWO, fun _ q na => ?_, fun hb => Bool.noConfusion hb⟩
      refine s_refs rfl fun H2 e2 => ⟨.wish z, d, rfl, rfl, rfl, e2 d _ hd', ?_⟩
      exact (hE _ hz).mono ((X1.trans e').trans e2)
    · have e2 : Ex H H2 := e1.trans fun a o ha => b a o (fun e => by rw [e, hx] at ha; cases ha) (X a o ha)
      exact h hn l' x _ (fresh_back e2 hl') (e2.trans (Ex.new hl')) upd_same ⟨dx, tw, ads, (Ex.new hl') x _ gx, (Ex.new hl') tw _ gtw, hW.mono (e2.trans (Ex.new hl'))⟩
def spAsk (K : PySem.W.Frag) (c : Ad) : Sp := fun vs H Q E => ∃ (b f : Addr) (t : Nat) (rs : List Row) (z : Int) (d : PyData), vs = [.ref b, .int z] ∧ BookAt K c H b f t rs ∧ rs.length ≤ 6 ∧ ((z < 0 ∨ z ≥ rs.length) → d = dueD (some (.wish z))) ∧ (∀ i : Nat, z = i → i < rs.length → d = .list [.int (slackOf t rs (rs.getD i r0))]) ∧ RetDp K d H Q
theorem has__law_ask (T : Tx P w K mg base c) (h__law_refusals : HasX P w K mg base 4 "_law_refusals" ["error"] (spRef c)) (h_Book_slack : HasM P w K mg base 8 c.KB "slack" ["self", "at"] (spSl K c)) (D : DefAt K mg "_law_ask" s__law_ask ["book", "at"]) : Has P w K mg base 14 "_law_ask" ["book", "at"] (spAsk K c) := by
  refine D.has sc__law_ask (fun vs H Q E h => ?len) (fun f cdv A outer s H vs Q E hr h => ?body)
  case len =>
    obtain ⟨_, _, _, _, _, _, rfl, _, _, _, _, _⟩ := h
    rfl
  case body =>
    have tk : Takes (cxOf (L2.CX P w) P w K mg base ["book", "at", "e"] "_law_ask" (defScope s__law_ask) f cdv A outer s H E) (fun cls d _ H => E cls d H) := takes_of rfl rfl rfl rfl
    obtain ⟨b, f, t, rs, z, d, rfl, hB, h6, hout, hin, h⟩ := h
    refine ⟨_, (pss_one (ps_try_ms rfl rfl sc__law_ask.nd takes0 (fun W pn xe tk po => (pss_one (ps_ret (pe_lst (pa_cons (pe_metR (pv 0) T.cB h_Book_slack (hr.mono (by decide)) tk (pa_cons (pv 1) pa_nil)) pa_nil))))) (HdAs.cons (i := 2) (c := .ref c.CO) rfl rfl ⟨rfl, by decide, .inl T.e_NodearerError.g⟩ (fun a oe cls d pn hz hf => (pss_one (ps_ret (pe_hasX rfl rfl h__law_refusals (RoomA.suite (hr.mono (by decide)) _) hz hf (pa_cons (pv 2) pa_nil))))) HdAs.nil))), ?_⟩
    obtain ⟨dx, tw, ads, gb, gt, hW⟩ := id hB
    refine ⟨.ref b, rfl, b, dx, _, rfl, gb, rfl, .int z, rfl, b, f, t, rs, z, rfl, hB, h6, fun hz => ?_, fun i hi hlt => ?_⟩
    · intro d' H' e' hd'
      refine ⟨true, T.xWO, fun _ q na => ?_, fun hb => Bool.noConfusion hb⟩
      refine s_refs rfl fun H2 e2 => ⟨.wish z, d', rfl, rfl, rfl, e2 d' _ hd', ?_⟩
      rw [hout hz] at h
      exact RetE.of (h.mono (e'.trans e2))
    · intro H2 e2
      refine ⟨by show 1 ≤ sizeLine; decide, fun p hp => ?_⟩
      rw [hin i hi hlt] at h
      exact h _ _ (e2.trans (Ex.new hp)) (.lst (sq_of upd_same) (.cons (.int _) .nil))
end
end K4
namespace K4
open PySem PySem.Spec PyProof.Rows L2 Evl Nd
local macro_rules | `(tactic| walk_at "ev") => `(tactic| first
  | exact ev_var rfl
  | exact ev_c
  | (apply ev_op; (walk_at "ev"); (walk_at "ev"); (walk_at "rv"))
  | (apply ev_un; (walk_at "ev"); (walk_at "rv"))
  | (apply ev_lenS; (walk_at "ev"); (walk_at "sq"))
  | (apply ev_andV; (walk_at "ev"); (intro _; walk_at "ev"))
  | (apply ev_orV; (walk_at "ev"); (intro _; walk_at "ev"))
  | (apply ev_notV; (walk_at "ev")))
local macro_rules | `(tactic| walk_at "rv") => `(tactic| first
  | exact rv_I0
  | exact ru_neg
  | exact rv_eq rfl
  | exact rv_ne rfl
  | exact rv_I (by decide)
  | exact rv_I (by first | omega | exact .inl (by omega) | exact .inr (by omega) | (constructor <;> omega)))
local macro_rules | `(tactic| walk_at "sq") => `(tactic| first
  | assumption
  | exact SqS.lst (by assumption)
  | exact SqS.tup (by assumption)
  | exact Or.inl (by assumption)
  | exact Or.inr (by assumption)
  | (refine SqS.mono (by assumption) ?_; walk_at "sq"))
local macro_rules | `(tactic| walk_at "et") => `(tactic| first
  | (apply et_or; (walk_at "et"); (intro _; walk_at "et"))
  | (apply et_and; (walk_at "et"); (intro _; walk_at "et"))
  | (apply et_not; (walk_at "et"))
  | (apply et_test; (walk_at "ev"))
  | (apply et_B; (walk_at "ev")))
local macro_rules | `(tactic| walk_at "ea") => `(tactic| first
  | exact ea_nil
  | (apply ea_cons; (walk_at "ev"); (walk_at "ea")))
section
variable {P : Program} {w : World} {K : PySem.W.Frag} {mg : Str → Option Value} {base : Heap} {c : Ad}
/-! ### is a book right? -/
theorem et_same {ta tb : TE} {σ : L2.St} {H : Hp} {E : L2.St → XK} {d : PyData} (ha : EvD K ta σ H d) (hb : EvD K tb σ H d) (sm : small 3 d) : EvT (tB (tCallS (spSame K 3) E (tCons ta (tCons tb tNil)))) σ H true := et_B fun H1 e Q q =>
  ha H1 e _ fun v H2 e2 dv => hb H2 (e.trans e2) _ fun w H3 e3 dw => ⟨v, w, d, rfl, sm, dp_mono e3 _ dv, dw, fun H4 e4 => q H4 ((e2.trans e3).trans e4)⟩
theorem ev_same {ta tb : TE} {σ : L2.St} {H : Hp} {E : L2.St → XK} {d : PyData} (ha : EvD K ta σ H d) (hb : EvD K tb σ H d) (sm : small 3 d) : Ev (tCallS (spSame K 3) E (tCons ta (tCons tb tNil))) σ H (.bl true) := fun H1 e Q q =>
  ha H1 e _ fun v H2 e2 dv => hb H2 (e.trans e2) _ fun w H3 e3 dw => ⟨v, w, d, rfl, sm, dp_mono e3 _ dv, dw, fun H4 e4 => q H4 ((e2.trans e3).trans e4)⟩
theorem ed_ask {ta tb : TE} {σ : L2.St} {H : Hp} {E : L2.St → XK} {b f : Addr} {t : Nat} {rs : List Row} {z : Int} {d : PyData} (ha : Ev ta σ H (.ref b)) (hb : Ev tb σ H (.int z)) (hB : BookAt K c H b f t rs) (h6 : rs.length ≤ 6) (ho : (z < 0 ∨ z ≥ rs.length) → d = dueD (some (.wish z))) (hi : ∀ i : Nat, z = i → i < rs.length → d = .list [.int (slackOf t rs (rs.getD i r0))]) :
    EvD K (tCallS (spAsk K c) E (tCons ta (tCons tb tNil))) σ H d := fun H1 e Q q => (ea_cons ha (ea_cons hb ea_nil) : EvA _ _ _ _) H1 e _ fun H2 e2 => ⟨b, f, t, rs, z, d, rfl, hB.mono (e.trans e2), h6, ho, hi, fun v H3 e3 hd => q v H3 (e2.trans e3) hd⟩
theorem small_ints {n : Nat} {ns : List Int} (h : ns.length ≤ 100) : (ns.map PyData.int).length ≤ 100 ∧ ∀ d ∈ ns.map PyData.int, small (n + 1) d := ⟨by rw [List.length_map]; exact h, fun d hd => by
  obtain ⟨z, _, rfl⟩ := List.mem_map.mp hd
  trivial⟩
theorem small_opt {n : Nat} (o : Option Int) : small (n + 1) (optD o) := by cases o <;> trivial
theorem small_due (e : Option Er) : small 3 (dueD e) := by
  cases e with
  | none => exact ⟨by decide, fun d hd => by cases hd⟩
  | some e =>
    refine ⟨by show 1 ≤ 100; decide, fun d hd => ?_⟩
    rw [List.mem_singleton.mp hd, e.dat_is]
    refine ⟨by show 2 ≤ 100; decide, fun d hd => ?_⟩
    rcases List.mem_cons.mp hd with rfl | hd
    · trivial
    · rw [List.mem_singleton.mp hd]; trivial
theorem rows_getD (zs : List (Addr × Row)) (i : Nat) : (rowsOf zs).getD i r0 = (zs.getD i z0).2 := by
  unfold rowsOf
  rw [List.getD_eq_getElem?_getD, List.getElem?_map, List.getD_eq_getElem?_getD]
  cases zs[i]? <;> rfl
theorem rows_len (zs : List (Addr × Row)) : (rowsOf zs).length = zs.length := by unfold rowsOf; rw [List.length_map]
def spRight (K : PySem.W.Frag) (c : Ad) : Sp := fun vs H Q E => ∃ (b f l : Addr) (t : Nat) (rk : List Int) (zs : List (Addr × Row)) (g : Int), vs = [.ref b, .ref f, .int (t : Nat), .ref l, .int g] ∧ t ≤ 6 ∧ zs.length ≤ 6 ∧ 7 ≤ g ∧ BookAt K c H b f t (rowsOf zs) ∧ FamAt K c H f t rk ∧ RowsAt K H l zs ∧ (∀ z ∈ zs, RowOk z.2 ∧ z.2.ws.length = t) ∧ RetV (.bl true) H Q
theorem has__law_right (T : Tx P w K mg base c) (h__law_ask : Has P w K mg base 14 "_law_ask" ["book", "at"] (spAsk K c)) (h__law_book_kind : Has P w K mg base 6 "_law_book_kind" ["rows"] (spKindL K)) (h__law_depth : Has P w K mg base 6 "_law_depth" ["things", "rows"] (spDepthL K)) (h__law_same : Has P w K mg base 12 "_law_same" ["actual", "due"] (spSame K 3)) (h__law_slack : Has P w K mg base 8 "_law_slack" ["things", "rows", "at"] (spSlackL K)) (h_FeqC : HasF P w K mg base 3 c.KC "__eq__" ["self", "other"] (spFamE K c)) (h_FeqG : HasF P w K mg base 3 c.KG "__eq__" ["self", "other"] (spFamE K c)) (D : DefAt K mg "_law_right" s__law_right ["book", "family", "things", "rows", "great"]) : Has P w K mg base 24 "_law_right" ["book", "family", "things", "rows", "great"] (spRight K c) := by
  refine D.has sc__law_right (fun vs H Q E h => ?len) (fun f cdv A outer s H vs Q E hr h => ?body)
  case len =>
    obtain ⟨_, _, _, _, _, _, _, rfl, _, _, _, _, _, _, _, _⟩ := h
    rfl
  case body =>
    have tk : Takes (cxOf (L2.CX P w) P w K mg base ["book", "family", "things", "rows", "great", "at", "told", "row"] "_law_right" (defScope s__law_right) f cdv A outer s H E) (fun cls d _ H => E cls d H) := takes_of rfl rfl rfl rfl
    obtain ⟨b, f, l, t, rk, zs, g, rfl, ht, h6, hg, hB, hF, hR, hok, h⟩ := h
    refine ⟨_, (pss_cons (ps_if (pt_not (pt_val (pe_hasN h__law_same (hr.mono (by decide)) (pa_cons (pe_fld (pv 0) rfl) (pa_cons (pe_hasN h__law_depth (hr.mono (by decide)) (pa_cons (pv 2) (pa_cons (pv 3) pa_nil))) pa_nil))))) (pss_one (ps_ret pe_bl)) pss_nil)
      (pss_cons (ps_if (pt_not (pt_val (pe_hasN h__law_same (hr.mono (by decide)) (pa_cons (pe_fld (pv 0) rfl) (pa_cons (pe_hasN h__law_book_kind (hr.mono (by decide)) (pa_cons (pv 3) pa_nil)) pa_nil))))) (pss_one (ps_ret pe_bl)) pss_nil)
      (pss_cons (ps_if (PW.pt (pw_or (pt_not (pt_val (pe_callB call_isi (by rfl) T.z_isinstance (by decide +kernel) (pa_cons (pe_fld (pv 0) rfl) (pa_cons (pe_bltn (v := .ty "tuple") rfl T.z_tuple (by decide +kernel) rfl) pa_nil))))) (pw_or1 (pt_cmpR op_ne (pe_callB call_len_seq (by rfl) T.z_len (by decide +kernel) (pa_cons (pe_fld (pv 0) rfl) pa_nil)) (pe_callB call_len_seq (by rfl) T.z_len (by decide +kernel) (pa_cons (pv 3) pa_nil)) (nomark _))))) (pss_one (ps_ret pe_bl)) pss_nil)
      (pss_cons (ps_for (passes_of rfl) rfl (pi_range1 rfl T.z_range (pa_cons (pe_callB call_len_seq (by rfl) T.z_len (by decide +kernel) (pa_cons (pv 3) pa_nil)) pa_nil)) (pg_name (i := 5) sc__law_right.nd rfl (.inl rfl)) (pss_cons (ps_set (i := 6) sc__law_right.nd rfl (.inl rfl) (pe_ix ix_tup (pe_fld (pv 0) rfl) (pv 5) (fun _ _ => rfl)))
      (pss_cons (ps_set (i := 7) sc__law_right.nd rfl (.inl rfl) (pe_ix ix_list (pv 3) (pv 5) (fun _ _ => rfl)))
      (pss_cons (ps_if (PW.pt (pw_or (pt_not (pt_val (pe_callB call_isi (by rfl) T.z_isinstance (by decide +kernel) (pa_cons (pv 6) (pa_cons (pe_glob (v := .ref c.KW) rfl T.e_Wish.g rfl) pa_nil))))) (pw_or1 (pt_not (pt_val (pe_hasN h__law_same (hr.mono (by decide)) (pa_cons (pe_fld (pv 6) rfl) (pa_cons (pe_callTy call_tuple_of (by rfl) T.z_tuple (by decide +kernel) (pa_cons (pe_ix ix_tup (pv 7) pe_int (fun _ _ => rfl)) pa_nil)) pa_nil)))))))) (pss_one (ps_ret pe_bl)) pss_nil)
      (pss_cons (ps_if (pt_not (pt_val (pe_hasN h__law_same (hr.mono (by decide)) (pa_cons (pe_tup (pa_cons (pe_fld (pv 6) rfl) (pa_cons (pe_fld (pv 6) rfl) pa_nil))) (pa_cons (pe_tup (pa_cons (pe_ix ix_tup (pv 7) pe_int (fun _ _ => rfl)) (pa_cons (pe_ix ix_tup (pv 7) pe_int (fun _ _ => rfl)) pa_nil))) pa_nil))))) (pss_one (ps_ret pe_bl)) pss_nil)
      (pss_one (ps_if (pt_not (pt_val (pe_hasN h__law_same (hr.mono (by decide)) (pa_cons (pe_hasN h__law_ask (hr.mono (by decide)) (pa_cons (pv 0) (pa_cons (pv 5) pa_nil))) (pa_cons (pe_lst (pa_cons (pe_hasN h__law_slack (hr.mono (by decide)) (pa_cons (pv 2) (pa_cons (pv 3) (pa_cons (pv 5) pa_nil)))) pa_nil)) pa_nil))))) (pss_one (ps_ret pe_bl)) pss_nil)))))))
      (pss_cons (ps_for (passes_of rfl) rfl (pi_tup (pe_tup (pa_cons (pe_un un_neg pe_int) (pa_cons (pe_un un_neg pe_int) (pa_cons (pe_callB call_len_seq (by rfl) T.z_len (by decide +kernel) (pa_cons (pv 3) pa_nil)) (pa_cons (pe_op op_add (pe_callB call_len_seq (by rfl) T.z_len (by decide +kernel) (pa_cons (pv 3) pa_nil)) pe_int) (pa_cons (pv 4) pa_nil))))))) (pg_name (i := 5) sc__law_right.nd rfl (.inl rfl)) (pss_one (ps_if (pt_not (pt_val (pe_hasN h__law_same (hr.mono (by decide)) (pa_cons (pe_hasN h__law_ask (hr.mono (by decide)) (pa_cons (pv 0) (pa_cons (pv 5) pa_nil))) (pa_cons (pe_lst (pa_cons (pe_tup (pa_cons pe_str (pa_cons (pv 5) pa_nil))) pa_nil)) pa_nil))))) (pss_one (ps_ret pe_bl)) pss_nil)))
      (pss_one (ps_ret (pe_hasN h__law_same (hr.mono (by decide)) (pa_cons (pe_cmpR (OpR.or (op_eqAny h_FeqC (TB := fun D => D = c.KC ∨ D = c.KG) (fun D h => T.nfF _ D (.inl rfl) h) (T.nfI _ (.inl rfl)) (hr.mono (by decide))) (op_eqAny h_FeqG (TB := fun D => D = c.KC ∨ D = c.KG) (fun D h => T.nfF _ D (.inr rfl) h) (T.nfI _ (.inr (.inl rfl))) (hr.mono (by decide)))) (pe_fld (pv 0) rfl) (pv 1) (nomark _)) (pa_cons pe_bl pa_nil)))))))))), ?_⟩
    obtain ⟨dx, tw, ads, gb, gt, hW⟩ := id hB
    have hl2 : (zs.map fun z => V.ref z.1).length = zs.length := by rw [List.length_map]
    have hal : ads.length = zs.length := by rw [hW.1, rows_len]
    have fb : ∀ {σ : L2.St} {H1 : Hp} {te : TE} {fn : Str} {v : V}, Ex H H1 → Ev te σ H1 (.ref b) → fn ∈ (["family", "wishes", "deep", "kind"] : List Str) → (bFs f tw t (rowsOf zs)).lookup fn = some v → Ev (tFld K te fn) σ H1 v := fun e hv hm hk => ev_fld hv (e b _ gb) T.cB (T.nB _ hm) hk
    refine q_when (b := false) (et_is (et_not (et_same (d := .int (deep t (rowsOf zs))) (ed_int (fb (Ex.refl H) (ev_var rfl) (by decide) rfl)) (ed_int (ev_callS (ea_cons (ev_var rfl) (ea_cons (ev_var rfl) ea_nil)) fun H1 e1 Q' E' q' => ⟨l, t, zs, rfl, ht, h6, hR.mono e1, hok, q'⟩)) trivial)) rfl) (fun hb => Bool.noConfusion hb) fun _ H1 e1 => ?_
    refine q_when (b := false) (et_is (et_not (et_same (d := .str (kindOf (rowsOf zs))) (ed_str (fb e1 (ev_var rfl) (by decide) rfl)) (ed_str (ev_callS (ea_cons (ev_var rfl) ea_nil) fun H2 e2 Q' E' q' => ⟨l, zs, rfl, h6, hR.mono (e1.trans e2), fun z hz => (hok z hz).1, q'⟩)) trivial)) rfl) (fun hb => Bool.noConfusion hb) fun _ H2 e2 => ?_
    have e12 := e1.trans e2
    refine q_when (b := false) (et_is (et_or (a := false) (b := false) (et_is (et_not (et_test (ev_isi (b := true) (ea_cons (fb e12 (ev_var rfl) (by decide) rfl) (ea_cons ev_c ea_nil)) (.ty "tuple") (fun H3 e3 => tyx_t (st_of ((e12.trans e3) tw _ gt))) (kit_ty (by decide +kernel))))) rfl) fun _ => et_is (et_test (ev_op (ev_is (ev_lenS (fb e12 (ev_var rfl) (by decide) rfl) (.inr (st_of (e12 tw _ gt)))) (by rw [List.length_map, hal])) (ev_is (ev_lenS (ev_var rfl) (.inl (ex_l e12 hR.1))) (by rw [hl2])) (rv_ne rfl))) (by simp)) rfl) (fun hb => Bool.noConfusion hb) fun _ H3 e3 => ?_
    have e13 := e12.trans e3
    refine q_forR1 (n := (zs.length : Int)) (ea_cons (ev_is (ev_lenS (ev_var rfl) (.inl (ex_l e13 hR.1))) (by rw [hl2])) ea_nil) (by omega) (fun i σ' H' => ∃ v5 v6 v7, σ' = [some (.ref b), some (.ref f), some (.int (t : Nat)), some (.ref l), some (.int g), v5, v6, v7] ∧ Ex H H') (fun H4 e4 => ⟨none, none, none, rfl, e13.trans e4⟩) ?turn ?fin
    case turn =>
      rintro i σ' H4 hi ⟨v5, v6, v7, rfl, x4⟩
      have hi' : i < zs.length := by omega
      have hz : zs[i]? = some (zs.getD i z0) := by rw [List.getD_eq_getElem?_getD, List.getElem?_eq_getElem hi']; rfl
      have hm := List.mem_of_getElem? hz
      have ha : ads[i]? = some ads[i] := List.getElem?_eq_getElem (by omega)
      have hw := hW.2 i _ ha
      rw [rows_getD] at hw
      refine q_asg (v := .ref ads[i]) (ev_op (fb x4 (ev_var rfl) (by decide) rfl) (ev_var rfl) (rv_ixT (st_of (x4 tw _ gt)) (atI_nat (by rw [List.getElem?_map, ha]; rfl)))) fun H5 e5 => ?_
      refine q_asg (v := .ref (zs.getD i z0).1) (ev_op (ev_var rfl) (ev_var rfl) (rv_ixL (ex_l (x4.trans e5) hR.1) (atI_nat (by rw [List.getElem?_map, hz]; rfl)))) fun H6 e6 => ?_
      have x6 := (x4.trans e5).trans e6
      obtain ⟨dW, _, _, gW, _⟩ := id hw
      obtain ⟨em, el, _, _, uw, ew, gw⟩ := (hw.mono x6).fld T (σ := [some (.ref b), some (.ref f), some (.int (t : Nat)), some (.ref l), some (.int g), some (.int (i : Nat)), some (.ref ads[i]), some (.ref (zs.getD i z0).1)]) (te := tVar 6) (ev_var rfl)
      obtain ⟨er, es, rw', eq, gq⟩ := row_ix (K := K) (σ := [some (.ref b), some (.ref f), some (.int (t : Nat)), some (.ref l), some (.int g), some (.int (i : Nat)), some (.ref ads[i]), some (.ref (zs.getD i z0).1)]) (te := tVar 7) ((hR.2 _ hm).mono x6) (ev_var rfl)
      have hln := (hok _ hm).2
      refine q_when (b := false) (et_is (et_or (a := false) (b := false) (et_is (et_not (et_test (ev_isi (b := true) (ea_cons (ev_var rfl) (ea_cons ev_c ea_nil)) (.own c.KW) (fun H7 e7 => tyx_i T (.inr (.inr (.inl rfl))) ((x6.trans e7) _ _ gW)) T.kWW))) rfl) fun _ => et_is (et_not (et_same (d := .tuple ((zs.getD i z0).2.ws.map PyData.int)) (ed_ev ew (.tup (st_of gw) (dp_ints _))) (ed_eu (eu_tuple eq (sq_of gq)) (dp_ints _)) (small_ints (by omega)))) rfl) rfl) (fun hb => Bool.noConfusion hb) fun _ H7 e7 => ?_
      refine q_when (b := false) (et_is (et_not (et_same (d := .tuple [optD (zs.getD i z0).2.top, optD (zs.getD i z0).2.low]) (ed_tup (eds_cons (ed_ev (em.mono e7) (dp_opt _)) (eds_cons (ed_ev (el.mono e7) (dp_opt _)) eds_nil)) (by show 2 ≤ 100000; decide)) (ed_tup (eds_cons (ed_ev (er.mono e7) (dp_opt _)) (eds_cons (ed_ev (es.mono e7) (dp_opt _)) eds_nil)) (by show 2 ≤ 100000; decide)) ⟨by show 2 ≤ 100; decide, fun d hd => by
        rcases List.mem_cons.mp hd with rfl | hd
        · exact small_opt _
        · rw [List.mem_singleton.mp hd]; exact small_opt _⟩)) rfl) (fun hb => Bool.noConfusion hb) fun _ H8 e8 => ?_
      have x8 := (x6.trans e7).trans e8
      refine s_when (b := false) (et_is (et_not (et_same (d := .list [.int (slackOf t (rowsOf zs) (zs.getD i z0).2)]) (ed_ask (c := c) (z := (i : Nat)) (ev_var rfl) (ev_var rfl) (hB.mono x8) (by rw [rows_len]; exact h6) (fun hz => by rw [rows_len] at hz; omega) (fun j hj hlt => by
        obtain rfl : i = j := by omega
        rw [rows_getD])) (ed_lst (eds_cons (ed_int (ev_callS (ea_cons (ev_var rfl) (ea_cons (ev_var rfl) (ea_cons (ev_var rfl) ea_nil))) fun H9 e9 Q' E' q' => ⟨l, t, i, zs, rfl, ht, h6, hi', hR.mono (x8.trans e9), hok, q'⟩)) eds_nil) (by show 1 ≤ 100000; decide)) ⟨by show 1 ≤ 100; decide, fun d hd => by rw [List.mem_singleton.mp hd]; trivial⟩)) rfl) (fun hb => Bool.noConfusion hb) fun _ H9 e9 => ⟨_, _, _, rfl, x8.trans e9⟩
    case fin =>
      rintro σ' H4 ⟨v5, v6, v7, rfl, x4⟩
      have ln : Ev (tCB (fun vs H Q => ∃ p ys, vs = [.ref p] ∧ (SqL K H p ys ∨ SqT K H p ys) ∧ Q (.int ys.length) H) (tCons (tVar 3) tNil)) [some (.ref b), some (.ref f), some (.int (t : Nat)), some (.ref l), some (.int g), v5, v6, v7] H4 (.int (zs.length : Int)) := ev_is (ev_lenS (ev_var rfl) (.inl (ex_l x4 hR.1))) (by rw [hl2])
      refine q_forUn (K := K) (xs := [.int (-2), .int (-1), .int (zs.length : Int), .int ((zs.length : Int) + 1), .int g]) (eu_tup (ea_cons (ev_neg ev_c) (ea_cons (ev_neg ev_c) (ea_cons ln (ea_cons (ev_op ln ev_c rv_I0) (ea_cons (ev_var rfl) ea_nil))))) (by show 5 ≤ 100000; decide)) (fun p i σ' H' => ∃ v5, σ' = [some (.ref b), some (.ref f), some (.int (t : Nat)), some (.ref l), some (.int g), v5, v6, v7] ∧ Ex H H' ∧ SqT K H' p [.int (-2), .int (-1), .int (zs.length : Int), .int ((zs.length : Int) + 1), .int g])
        (fun p H5 hp e5 g5 => ⟨_, rfl, x4.trans e5, st_of g5⟩) (fun p i σ' H' _ q => by obtain ⟨_, _, _, s⟩ := q; exact s) ?turn2 ?fin2
      case turn2 =>
        rintro p i u σ' H5 hu ⟨v5, rfl, x5, gp⟩
        have ho : ∃ z : Int, u = .int z ∧ (z < 0 ∨ z ≥ zs.length) := by
          match i, hu with
          | 0, hu => exact ⟨-2, by simpa using hu.symm, .inl (by decide)⟩
          | 1, hu => exact ⟨-1, by simpa using hu.symm, .inl (by decide)⟩
          | 2, hu => exact ⟨zs.length, by simpa using hu.symm, .inr (Int.le_refl _)⟩
          | 3, hu => exact ⟨zs.length + 1, by simpa using hu.symm, .inr (by omega)⟩
          | 4, hu => exact ⟨g, by simpa using hu.symm, .inr (by omega)⟩
          | n + 5, hu => simp at hu
        obtain ⟨z, rfl, hz⟩ := ho
        exact s_when (b := false) (et_is (et_not (et_same (d := dueD (some (.wish z))) (ed_ask (c := c) (z := z) (ev_var rfl) (ev_var rfl) (hB.mono x5) (by rw [rows_len]; exact h6) (fun _ => rfl) (fun j hj hlt => by rw [rows_len] at hlt; omega)) (ed_lst (eds_cons (ed_tup (eds_cons (ed_str ev_c) (eds_cons (ed_int (ev_var rfl)) eds_nil)) (by show 2 ≤ 100000; decide)) eds_nil) (by show 1 ≤ 100000; decide)) (small_due _))) rfl) (fun hb => Bool.noConfusion hb) fun _ H6 e6 => ⟨_, rfl, x5.trans e6, ex_t e6 gp⟩
      case fin2 =>
        rintro p σ' H5 ⟨v5, rfl, x5, _⟩
        obtain ⟨C, dF, tr, fs, hC, gF, _⟩ := id hF
        refine s_ret (ev_same (d := .bool true) (ed_bl (ev_is (v := .bl (decide ((t : Int) = (t : Int)) && decide (rk = rk))) (ev_op (fb x5 (ev_var rfl) (by decide) rfl) (ev_var rfl) (fun H6 e6 Q' q' => ?_)) (by simp))) (ed_bl ev_c) trivial) fun H6 e6 => h H6 (x5.trans e6)
        have x6 := x5.trans e6
        have key : spFamE K c [.ref f, .ref f] H6 Q' E0 := ⟨f, f, (t : Nat), (t : Nat), rk, rk, rfl, hF.mono x6, hF.mono x6, fun H7 e7 => q' H7 e7⟩
        rcases id hC with rfl | rfl
        · exact .inl ⟨⟨f, dF, fs, rfl, x6 f _ gF⟩, .inl ⟨f, _, dF, fs, rfl, x6 f _ gF, hC⟩, key⟩
        · exact .inr ⟨⟨f, dF, fs, rfl, x6 f _ gF⟩, .inl ⟨f, _, dF, fs, rfl, x6 f _ gF, hC⟩, key⟩
end
end K4
namespace K4
open PySem PySem.Spec PyProof.Rows L2 Evl Nd
local macro_rules | `(tactic| walk_at "ev") => `(tactic| first
  | exact ev_var rfl
  | exact ev_c
  | (apply ev_op; (walk_at "ev"); (walk_at "ev"); (walk_at "rv"))
  | (apply ev_un; (walk_at "ev"); (walk_at "rv"))
  | (apply ev_lenS; (walk_at "ev"); (walk_at "sq"))
  | (apply ev_andV; (walk_at "ev"); (intro _; walk_at "ev"))
  | (apply ev_orV; (walk_at "ev"); (intro _; walk_at "ev"))
  | (apply ev_notV; (walk_at "ev")))
local macro_rules | `(tactic| walk_at "rv") => `(tactic| first
  | exact rv_I0
  | exact ru_neg
  | exact rv_eq rfl
  | exact rv_ne rfl
  | exact rv_I (by decide)
  | exact rv_I (by first | omega | exact .inl (by omega) | exact .inr (by omega) | (constructor <;> omega)))
local macro_rules | `(tactic| walk_at "sq") => `(tactic| first
  | assumption
  | exact SqS.lst (by assumption)
  | exact SqS.tup (by assumption)
  | exact Or.inl (by assumption)
  | exact Or.inr (by assumption)
  | (refine SqS.mono (by assumption) ?_; walk_at "sq"))
local macro_rules | `(tactic| walk_at "et") => `(tactic| first
  | (apply et_or; (walk_at "et"); (intro _; walk_at "et"))
  | (apply et_and; (walk_at "et"); (intro _; walk_at "et"))
  | (apply et_not; (walk_at "et"))
  | (apply et_test; (walk_at "ev"))
  | (apply et_B; (walk_at "ev")))
local macro_rules | `(tactic| walk_at "ea") => `(tactic| first
  | exact ea_nil
  | (apply ea_cons; (walk_at "ev"); (walk_at "ea")))
section
variable {P : Program} {w : World} {K : PySem.W.Frag} {mg : Str → Option Value} {base : Heap} {c : Ad}
/-! ### the law: steps -/
theorem q_digits {ta : TA} {σ : L2.St} {H : Hp} {D : Ends} {tz : TS} {E : L2.St → XK} {a : Addr} {ns : List Int} {i : Nat} (h : EvA ta σ H [.ref a]) (hS : SqL K H a (ns.map V.int)) (k : ∀ p H2, H p = none → Ex H H2 → Tape H2 p → tz D (σ.set i (some (.ref p))) H2) :
    tSeq (tAsg (tCallS (spDigits K) E ta) (gName i)) tz D σ H := h H (Ex.refl H) _ fun H1 e1 => ⟨a, ns, rfl, ex_l e1 hS, fun p H2 hp e2 t => k p H2 (fresh_back e1 hp) (e1.trans e2) t⟩
theorem q_takeM {c : Int} {ta : TA} {tu tz : TS} {σ : L2.St} {H : Hp} {D : Ends} {E : L2.St → XK} {p : Addr} {many : Int} (M : L2.St → Hp → Prop) (h : EvA ta σ H [.ref p, .int many]) (hm : 0 < many) (ht : Tape H p) (k : ∀ σ' H', M σ' H' → tz D σ' H')
    (h2 : ∀ H2, But p H H2 → Tape H2 p → M σ H2) (h1 : ∀ N : L2.St → Hp → Prop, (∀ σ' H', M σ' H' → N σ' H') → ∀ H2, But p H H2 → Tape H2 p → tu { D with nx := N } σ H2) :
    tSeq (tIfS (tTest (tOp rEq (tCallS spTake E ta) (tC (.int c)))) tu tNext) tz D σ H := go_take h hm ht fun r H2 r0 r1 b t => ⟨rfl, _, rfl, by
  show if decide (V.int r = V.int c) = true then tu { D with nx := tz D } σ H2 else tz D σ H2
  split
  · exact h1 _ k H2 b t
  · exact k σ H2 (h2 H2 b t)⟩
/-- [.. for x in range(n)], the tape read at each turn -/
theorem q_tapeLc {n : Nat} {te : TE} {tz : TS} {D : Ends} {σ : L2.St} {H : Hp} {p : Addr} {i j : Nat} {vs : List Nat} (Pf : List V → Addr → Hp → Prop) (hn : n ≤ 100) (ht : Tape H p) (hw : ∀ x, wipe ((wipe σ vs).set j (some x)) vs = wipe σ vs)
    (h0 : ∀ Dl, H Dl = none → Pf [] Dl (upd H Dl (.lst [])))
    (he : ∀ (m : Nat) acc Dl H', m < n → H Dl = none → Dl ≠ p → But p H H' → Tape H' p → H' Dl = some (.lst acc) → acc.length = m → Pf acc Dl H' → ∀ Q : VK, (∀ y H4, But p H' H4 → Tape H4 p → Pf (acc ++ [y]) Dl (upd H4 Dl (.lst (acc ++ [y]))) → Q y H4) → te ((wipe σ vs).set j (some (.int (m : Nat)))) H' Q)
    (k : ∀ Dl ys H2, H Dl = none → Dl ≠ p → But p H H2 → Tape H2 p → H2 Dl = some (.lst ys) → ys.length = n → Pf ys Dl H2 → tz D (σ.set i (some (.ref Dl))) H2) :
    tSeq (tAsg (tLc (iRng1 (tCons (tC (.int (n : Nat))) tNil)) (gName j) tYes te vs) (gName i)) tz D σ H := by
  refine ⟨(n : Int), rfl, by omega, by omega, fun Dl hD => ?_⟩
  have hDp : Dl ≠ p := fun e => tape_some ht (by rw [← e]; exact hD)
  have en : ((n : Int)).toNat = n := by omega
  rw [en]
  refine lc_range (lo := 0) (fun m H' => But p H H' ∧ Tape H' p ∧ ∃ acc, H' Dl = some (.lst acc) ∧ acc.length = m ∧ Pf acc Dl H') ⟨(But.refl p H).new hD, tape_upd ht hDp, [], upd_same, rfl, h0 Dl hD⟩
    (fun m H' hm w => ?_) (fun H' w => by obtain ⟨b, t, ys, g, l, pf⟩ := w; exact k Dl ys H' hD hDp b t g l pf)
  rw [show (0 : Int) + (m : Nat) = (m : Nat) by omega]
  obtain ⟨b, t, acc, g, l, pf⟩ := w
  exact ⟨hw _, he m acc Dl H' hm hD hDp b t g l pf _ fun y H4 b4 t4 pf4 => ⟨acc, b4 Dl _ hDp g, sz_lt (by omega), (b.trans b4).new hD, tape_upd t4 hDp, acc ++ [y], upd_same, by rw [List.length_append, l]; rfl, pf4⟩⟩
theorem go_choice {E : L2.St → XK} {ta : TA} {σ : L2.St} {H : Hp} {Q : VK} {t s : Nat} (ht : t ≤ 6) (hs : s ≤ t) (h : EvA ta σ H [.int (t : Nat), .int (s : Nat)]) (k : ∀ x H2, Ex H H2 → FamAt K c H2 x (t : Nat) (rkT t s) → Q (.ref x) H2) : tMakS c.KC (spChI c) [] E ta σ H Q := h H (Ex.refl H) _ fun H1 e1 x dx hx hd ne => by
  have hxu : upd H1 dx (.own x) x = none := by rw [upd_ne (fun e => ne e.symm)]; exact hx
  have X : Ex H1 (upd (upd H1 dx (.own x)) x (.ins c.KC dx [])) := (Ex.new hd).trans (Ex.new hxu)
  refine ⟨x, dx, t, s, rfl, ht, hs, upd_same, fun H2 hm => ⟨rfl, ?_⟩⟩
  obtain ⟨b, tr, fs, gx, lt, lr, _, gtr⟩ := hm
  exact k x H2 (e1.trans fun a o ha => b a o (fun e => by rw [e, hx] at ha; cases ha) (X a o ha)) ⟨c.KC, dx, tr, fs, .inl rfl, gx, lt, lr, st_of gtr⟩
theorem go_groups {E : L2.St → XK} {tg tk : TE} {σ : L2.St} {H : Hp} {Q : VK} {t s : Nat} (ht : t ≤ 6) (hs : s ≤ t) (hg : EvL tg σ H ((List.replicate t (0 : Int)).map V.int)) (hk : EvL tk σ H [.int (s : Nat)]) (k : ∀ x H2, Ex H H2 → FamAt K c H2 x (t : Nat) (rkT t s) → Q (.ref x) H2) : tMakS c.KG (spGrI K c) [] E (tCons tg (tCons tk tNil)) σ H Q := hg H (Ex.refl H) _ fun g H1 hg1 e1 g1 => hk H1 e1 _ fun q H2 hq e2 g2 x dx hx hd ne => by
  have hxu : upd H2 dx (.own x) x = none := by rw [upd_ne (fun e => ne e.symm)]; exact hx
  have X : Ex H2 (upd (upd H2 dx (.own x)) x (.ins c.KG dx [])) := (Ex.new hd).trans (Ex.new hxu)
  have gg := e2 g _ g1
  refine ⟨x, dx, g, q, t, s, rfl, ht, hs, upd_same, (fun e => by rw [e, hx] at gg; cases gg), (fun e => by rw [e, hx] at g2; cases g2), sq_of (X g _ gg), sq_of (X q _ g2), fun H3 hm => ⟨rfl, ?_⟩⟩
  obtain ⟨b, tr, fs, gx, lt, lr, _, gtr⟩ := hm
  exact k x H3 ((e1.trans e2).trans fun a o ha => b a o (fun e => by rw [e, hx] at ha; cases ha) (X a o ha)) ⟨c.KG, dx, tr, fs, .inr rfl, gx, lt, lr, st_of gtr⟩
theorem q_lst2 {t1 t2 : TE} {tz : TS} {D : Ends} {σ : L2.St} {H : Hp} {i : Nat} (h : t1 σ H fun x H1 => t2 σ H1 fun y H2 => 2 ≤ sizeLine ∧ ∀ p, H2 p = none → tz D (σ.set i (some (.ref p))) (upd H2 p (.lst [x, y]))) : tSeq (tAsg (tLst (tCons t1 (tCons t2 tNil))) (gName i)) tz D σ H := h
theorem q_addTake {te : TE} {ta : TA} {σ : L2.St} {H : Hp} {D : Ends} {tz : TS} {E : L2.St → XK} {p : Addr} {many x : Int} {i : Nat} (hx : Ev te σ H (.int x)) (h : EvA ta σ H [.ref p, .int many]) (hm : 0 < many) (ht : Tape H p) (k : ∀ r H2, 0 ≤ r → r < many → But p H H2 → Tape H2 p → tz D (σ.set i (some (.int (x + r)))) H2) :
    tSeq (tAsg (tOp (rI0 fun i j => .int (i + j)) te (tCallS spTake E ta)) (gName i)) tz D σ H := hx H (Ex.refl H) _ fun H1 e1 => go_take (h.mono e1) hm (ht.mono e1) fun r H2 r0 r1 b t => ⟨x, r, rfl, rfl, k r H2 r0 r1 ((But.of e1).trans b) t⟩
def two {α : Type} (x y : α) (i : Nat) : α := if i = 0 then x else y
theorem two_at {x y : Addr} {i : Nat} (h : i < 2) : ([.ref x, .ref y] : List V)[i]? = some (.ref (two x y i)) := by
  rcases (show i = 0 ∨ i = 1 by omega) with rfl | rfl <;> rfl
/-- what is told when a book is made -/
def Told (K : PySem.W.Frag) (c : Ad) (H : Hp) (l f : Addr) (t : Nat) (rs : List Row) : Prop :=
  (bookErr t rs = none ∧ ∃ b, H l = some (.lst [.ref b]) ∧ BookAt K c H b f t rs) ∨ ∃ e q, bookErr t rs = some e ∧ H l = some (.lst [.ref q]) ∧ H q = some (.tup [.str e.word, .int e.val])
theorem Told.mono {H H' : Hp} {l f : Addr} {t : Nat} {rs : List Row} (e : Ex H H') (h : Told K c H l f t rs) : Told K c H' l f t rs := by
  rcases h with ⟨hn, b, g, hB⟩ | ⟨r, q, hr, g, gq⟩
  · exact .inl ⟨hn, b, e _ _ g, hB.mono e⟩
  · exact .inr ⟨r, q, hr, e _ _ g, e _ _ gq⟩
theorem WishAt.updL {H : Hp} {a q : Addr} {r : Row} {xs : List V} {o : HO} (hq : H q = some (.lst xs)) (h : WishAt K c H a r) : WishAt K c (upd H q o) a r := by
  obtain ⟨dx, tw, fs, g, h1, h2, h3, h4, h5, h6⟩ := h
  refine ⟨dx, tw, fs, ?_, h1, h2, h3, h4, h5, ?_⟩
  · rw [upd_ne (fun e => by rw [e, hq] at g; cases g)]; exact g
  · rw [upd_ne (fun e => by rw [e, hq] at h6; cases h6)]; exact h6
theorem BookAt.updL {H : Hp} {b f q : Addr} {t : Nat} {rs : List Row} {xs : List V} {o : HO} (hq : H q = some (.lst xs)) (h : BookAt K c H b f t rs) : BookAt K c (upd H q o) b f t rs := by
  obtain ⟨dx, tw, ads, g, gt, hW⟩ := h
  refine ⟨dx, tw, ads, ?_, ?_, hW.1, fun i a ha => (hW.2 i a ha).updL hq⟩
  · rw [upd_ne (fun e => by rw [e, hq] at g; cases g)]; exact g
  · rw [upd_ne (fun e => by rw [e, hq] at gt; cases gt)]; exact gt
theorem Told.updL {H : Hp} {l f q : Addr} {t : Nat} {rs : List Row} {xs : List V} {o : HO} (hq : H q = some (.lst xs)) (n : l ≠ q) (h : Told K c H l f t rs) : Told K c (upd H q o) l f t rs := by
  rcases h with ⟨hn, b, g, hB⟩ | ⟨r, u, hr, g, gu⟩
  · exact .inl ⟨hn, b, by rw [upd_ne n]; exact g, hB.updL hq⟩
  · exact .inr ⟨r, u, hr, by rw [upd_ne n]; exact g, by rw [upd_ne (fun e => by rw [e, hq] at gu; cases gu)]; exact gu⟩
theorem q_told {ta : TA} {tz : TS} {D : Ends} {σ : L2.St} {H : Hp} {E : L2.St → XK} {i : Nat} {f l : Addr} {ads : List Addr} {t : Nat} {rk : List Int} {rs : List Row} (ha : EvA ta σ H [.ref f, .ref l]) (ht : t ≤ 6) (h6 : rs.length ≤ 6) (hF : FamAt K c H f t rk) (gl : H l = some (.lst (ads.map V.ref))) (hW : WishesAt K c H ads rs)
    (k : ∀ l' H2, H l' = none → Ex H H2 → Told K c H2 l' f t rs → tz D (σ.set i (some (.ref l'))) H2) : tSeq (tAsg (tCallS (spMake K c) E ta) (gName i)) tz D σ H := ha H (Ex.refl H) _ fun H1 e1 =>
  ⟨f, l, ads, t, rk, rs, rfl, ht, h6, hF.mono e1, e1 l _ gl, hW.mono e1, fun e he l' q H2 hl e2 gl gq => k l' H2 (fresh_back e1 hl) (e1.trans e2) (.inr ⟨e, q, he, gl, gq⟩), fun hn l' b H2 hl e2 gl hB => k l' H2 (fresh_back e1 hl) (e1.trans e2) (.inl ⟨hn, b, gl, hB⟩)⟩
theorem q_due {ta : TA} {tz : TS} {D : Ends} {σ : L2.St} {H : Hp} {E : L2.St → XK} {i : Nat} {l : Addr} {t : Nat} {zs : List (Addr × Row)} (ha : EvA ta σ H [.int (t : Nat), .ref l]) (ht : t ≤ 6) (h6 : zs.length ≤ 6) (hR : RowsAt K H l zs) (ok : ∀ z ∈ zs, RowOk z.2)
    (k : ∀ v H2, Ex H H2 → Dp K H2 v (dueD (bookErr t (rowsOf zs))) → tz D (σ.set i (some v)) H2) : tSeq (tAsg (tCallS (spDue K) E ta) (gName i)) tz D σ H := ha H (Ex.refl H) _ fun H1 e1 =>
  ⟨l, t, zs, rfl, ht, h6, hR.mono e1, ok, fun v H2 e2 hd => k v H2 (e1.trans e2) (dp_mono nw_ex _ hd)⟩
/-- [.. for x in xs], new data at each turn -/
theorem q_newLc {xs : List V} {te tl : TE} {tz : TS} {D : Ends} {σ : L2.St} {H : Hp} {i j : Nat} {vs : List Nat} {a : Addr} (ds : Nat → PyData) (h : Ev tl σ H (.ref a)) (hx : SqL K H a xs) (hz : xs.length ≤ 100) (hw : ∀ x, wipe ((wipe σ vs).set j (some x)) vs = wipe σ vs)
    (he : ∀ (m : Nat) x H1, Ex H H1 → xs[m]? = some x → EvN K te ((wipe σ vs).set j (some x)) H1 (ds m))
    (k : ∀ Dl ys H2, H Dl = none → Ex H H2 → H2 Dl = some (.lst ys) → ys.length = xs.length → (∀ m y, ys[m]? = some y → Dp K H2 y (ds m)) → tz D (σ.set i (some (.ref Dl))) H2) :
    tSeq (tAsg (tLc (iList K tl) (gName j) tYes te vs) (gName i)) tz D σ H := h H (Ex.refl H) _ fun H1 e1 => ⟨a, rfl, ⟨xs, ex_l e1 hx⟩, fun Dl hD => by
  refine lc_list (xs := xs) (fun m H' => Ex H1 H' ∧ ∃ ys, H' Dl = some (.lst ys) ∧ ys.length = m ∧ ∀ n y, ys[n]? = some y → Dp K (hide [Dl] H') y (ds n)) ⟨Ex.new hD, [], upd_same, rfl, fun n y hy => by simp at hy⟩ (fun m H' _ w => ex_l (e1.trans w.1) hx)
    (fun m x H' hm w => ⟨hw x, ?_⟩) (fun H' w => by obtain ⟨x, ys, g, l, p⟩ := w; exact k Dl ys H' (fresh_back e1 hD) (e1.trans x) g l fun m y hy => dp_mono hide_ex _ (p m y hy))
  obtain ⟨x1, ys, g, l, p⟩ := w
  have hm' := (List.getElem?_eq_some_iff.mp hm).1
  refine he m x H' (e1.trans x1) hm H' (Ex.refl H') _ fun y H4 e4 hy => ⟨ys, e4 Dl _ g, sz_lt (by omega), Ex.mut (x1.trans e4) hD, ys ++ [y], upd_same, by rw [List.length_append, l]; rfl, fun n z hn => ?_⟩
  by_cases hn2 : n < ys.length
  · rw [List.getElem?_append_left hn2] at hn
    exact dp_mono (hide_upd List.mem_cons_self) _ (dp_mono (hide_mono e4) _ (p n z hn))
  · rw [List.getElem?_append_right (by omega)] at hn
    have hj2 : n - ys.length = 0 := by
      have := (List.getElem?_eq_some_iff.mp hn).1
      simp at this
      omega
    rw [hj2] at hn
    obtain rfl : y = z := by simpa using hn
    have : n = m := by omega
    subst this
    refine dp_mono (fun b o hb => ?_) _ hy
    obtain ⟨h1, h2⟩ := nw_of hb
    have nb : b ≠ Dl := fun e => by rw [e, g] at h1; cases h1
    exact hide_at (fun e => nb (List.mem_singleton.mp e)) (by rw [upd_ne nb]; exact h2)⟩
def sevens : List Int := [3, 4, 5, 2, 1, 0, 6]
theorem sevens_at {i : Int} (h : 0 ≤ i ∧ i < 7) : ∃ m : Nat, atI (sevens.map V.int) i = some (.int (m : Nat)) ∧ m ≤ 6 := by
  rcases (show i = 0 ∨ i = 1 ∨ i = 2 ∨ i = 3 ∨ i = 4 ∨ i = 5 ∨ i = 6 by omega) with rfl | rfl | rfl | rfl | rfl | rfl | rfl
  · exact ⟨3, rfl, by decide⟩
  · exact ⟨4, rfl, by decide⟩
  · exact ⟨5, rfl, by decide⟩
  · exact ⟨2, rfl, by decide⟩
  · exact ⟨1, rfl, by decide⟩
  · exact ⟨0, rfl, by decide⟩
  · exact ⟨6, rfl, by decide⟩
theorem rep_zero : ∀ t : Nat, (List.replicate t [V.int 0]).flatten = (List.replicate t (0 : Int)).map V.int
  | 0 => rfl
  | t + 1 => by
    rw [List.replicate_succ, List.flatten_cons, rep_zero t, List.replicate_succ, List.map_cons]
    rfl
structure BF (K : PySem.W.Frag) (c : Ad) (t s0 s1 : Nat) (sl fl fc fg : Addr) (H : Hp) : Prop where
  sl : H sl = some (.lst [.int (s0 : Nat), .int (s1 : Nat)])
  fl : H fl = some (.lst [.ref fc, .ref fg])
  fc : FamAt K c H fc (t : Nat) (rkT t s0)
  fg : FamAt K c H fg (t : Nat) (rkT t s1)
theorem BF.mono {t s0 s1 : Nat} {sl fl fc fg : Addr} {H H' : Hp} (e : Ex H H') (h : BF K c t s0 s1 sl fl fc fg H) : BF K c t s0 s1 sl fl fc fg H' := ⟨e _ _ h.sl, e _ _ h.fl, h.fc.mono e, h.fg.mono e⟩
theorem not1 {a p : Addr} (n : a ≠ p) : a ∉ [p] := fun e => n (List.mem_singleton.mp e)
theorem not2 {a p q : Addr} (n : a ≠ p) (m : a ≠ q) : a ∉ [p, q] := fun e => by
  rcases List.mem_cons.mp e with e | e
  · exact n e
  · exact m (List.mem_singleton.mp e)
theorem FamAt.hide {H : Hp} {a p : Addr} {t : Int} {rk : List Int} (tp : Tape H p) (h : FamAt K c H a t rk) : FamAt K c (hide [p] H) a t rk := by
  obtain ⟨ds, hp⟩ := tp
  obtain ⟨C, dx, tr, fs, hC, g, h1, h2, h3⟩ := h
  refine ⟨C, dx, tr, fs, hC, hide_at (not1 fun e => by rw [e, hp] at g; cases g) g, h1, h2, ?_⟩
  rcases h3 with (h3 | ⟨o, h3⟩) | h3
  · exact .inl (.inl (hide_at (not1 fun e => by rw [e, hp] at h3; cases h3) h3))
  · exact .inl (.inr ⟨o, hide_at (not1 fun e => by rw [e, hp] at h3; cases h3) h3⟩)
  · exact .inr h3
theorem BF.hide {t s0 s1 : Nat} {sl fl fc fg p : Addr} {H : Hp} (tp : Tape H p) (n1 : sl ≠ p) (n2 : fl ≠ p) (h : BF K c t s0 s1 sl fl fc fg H) : BF K c t s0 s1 sl fl fc fg (hide [p] H) := ⟨hide_at (not1 n1) h.sl, hide_at (not1 n2) h.fl, h.fc.hide tp, h.fg.hide tp⟩
theorem nw_hide {S : List Addr} {H H2 : Hp} (hS : ∀ a ∈ S, H a ≠ none) : Ex (nw H H2) (hide S H2) := fun a o h => hide_at (fun e => hS a e (nw_of h).1) (nw_of h).2
theorem hide_add {p q : Addr} {H H2 : Hp} (b : But p H H2) (hq : H q = none) : Ex (hide [p] H) (hide [p, q] H2) := fun a o h => by
  obtain ⟨n, h⟩ := hide_of h
  have np : a ≠ p := fun e => n (by rw [e]; exact List.mem_cons_self)
  exact hide_at (not2 np (fun e => by rw [e, hq] at h; cases h)) (b a o np h)
def RL (H : Hp) (l : Addr) (zs : List (Addr × Row)) : Prop := H l = some (.lst (zs.map fun z => V.ref z.1)) ∧ ∀ z ∈ zs, RowIs H z.1 z.2
theorem RL.mono {H H' : Hp} {l : Addr} {zs : List (Addr × Row)} (e : Ex H H') (h : RL H l zs) : RL H' l zs := ⟨e _ _ h.1, fun z hz => (h.2 z hz).mono e⟩
theorem RL.at {H : Hp} {l : Addr} {zs : List (Addr × Row)} (h : RL H l zs) : RowsAt K H l zs := ⟨sq_of h.1, h.2⟩
theorem el_lstRev {σ : L2.St} {H : Hp} {te : TE} {a : Addr} {xs : List V} (h : Ev te σ H (.ref a)) (hs : SqL K H a xs) : EvL (tLstRev K te) σ H xs.reverse := fun H1 e Q q => h H1 e _ fun H2 e2 => ⟨a, xs, rfl, ex_l (e.trans e2) hs, fun l hl => q l _ (fresh_back e2 hl) (e2.trans (Ex.new hl)) upd_same⟩
theorem s_setLN {σ : L2.St} {H : Hp} {te ta tb : TE} {D : Ends} {l : Addr} {xs ys : List V} {j : Nat} (hl : H l = some (.lst xs)) (h : EvL te σ H ys) (ho : Ev ta σ H (.ref l)) (hi : Ev tb σ H (.int (j : Int))) (hj : j < xs.length) (k : ∀ p H1, H p = none → Ex H H1 → H1 p = some (.lst ys) → D.nx σ (upd H1 l (.lst (xs.set j (.ref p))))) :
    tAsg te (gSub ta tb rSetL) D σ H := h H (Ex.refl H) _ fun p H1 hp e1 g1 => ho H1 e1 _ fun H2 e2 => hi H2 (e1.trans e2) _ fun H3 e3 =>
  ⟨l, xs, (j : Int), j, rfl, rfl, ((e1.trans e2).trans e3) l _ hl, ixN_nat hj, k p H3 hp ((e1.trans e2).trans e3) ((e2.trans e3) p _ g1)⟩
theorem q_clear {σ : L2.St} {H : Hp} {ta : TE} {tz : TS} {D : Ends} {l : Addr} {xs : List V} (hl : H l = some (.lst xs)) (ha : Ev ta σ H (.ref l)) (k : ∀ H1, Ex H H1 → tz D σ (upd H1 l (.lst []))) : tSeq (tDrop (tBM0 K "list" rClear ta)) tz D σ H := ha H (Ex.refl H) _ fun H1 e1 => ⟨.inl ⟨rfl, xs, sq_of (e1 l _ hl)⟩, l, xs, rfl, rfl, e1 l _ hl, k H1 e1⟩
theorem wishes_of {H : Hp} {ys : List V} {rs : List Row} (hl : ys.length = rs.length) (h : ∀ j y, ys[j]? = some y → ∃ a, y = .ref a ∧ WishAt K c H a (rs.getD j r0)) : ∃ ads : List Addr, ys = ads.map V.ref ∧ WishesAt K c H ads rs := by
  refine ⟨ys.map fun v => match v with | .ref a => a | _ => 0, ?_, by rw [List.length_map]; exact hl, fun i a ha => ?_⟩
  · rw [List.map_map]
    apply List.ext_getElem
    · simp
    · intro i h1 h2
      obtain ⟨a, e, _⟩ := h i ys[i] (List.getElem?_eq_getElem h1)
      rw [List.getElem_map, e]
      rfl
  · rw [List.getElem?_map] at ha
    cases e : ys[i]? with
    | none => rw [e] at ha; cases ha
    | some y =>
      obtain ⟨b, rfl, hb⟩ := h i y e
      rw [e] at ha
      obtain rfl : b = a := by simpa using ha
      exact hb
theorem solid_wish (rs : List Row) (j : Nat) : Solid (fun y H => ∃ a, y = .ref a ∧ WishAt K c H a (rs.getD j r0)) := ⟨fun e ⟨a, h1, h2⟩ => ⟨a, h1, h2.mono e⟩, fun hl ⟨a, h1, h2⟩ => ⟨a, h1, h2.updL hl⟩⟩
theorem rv_neSame {H : Hp} {a b : Addr} {ps : List Addr} (ha : H a = some (.lst (ps.map V.ref))) (hb : H b = some (.lst (ps.map V.ref))) : RV (rNeSame K) (.ref a) (.ref b) H (.bl false) := fun H1 e Q q => ⟨a, b, ps, rfl, rfl, e _ _ ha, e _ _ hb, q H1 (Ex.refl H1)⟩
theorem cpow10 : CPowW 10 6 := by unfold CPowW; decide +kernel
end
end K4
namespace K4
open PySem PySem.Spec PyProof.Rows L2 Evl Nd
local macro_rules | `(tactic| walk_at "ev") => `(tactic| first
  | exact ev_var rfl
  | exact ev_c
  | (apply ev_op; (walk_at "ev"); (walk_at "ev"); (walk_at "rv"))
  | (apply ev_un; (walk_at "ev"); (walk_at "rv"))
  | (apply ev_lenS; (walk_at "ev"); (walk_at "sq"))
  | (apply ev_andV; (walk_at "ev"); (intro _; walk_at "ev"))
  | (apply ev_orV; (walk_at "ev"); (intro _; walk_at "ev"))
  | (apply ev_notV; (walk_at "ev")))
local macro_rules | `(tactic| walk_at "rv") => `(tactic| first
  | exact rv_I0
  | exact ru_neg
  | exact rv_eq rfl
  | exact rv_ne rfl
  | exact rv_I (by decide)
  | exact rv_I (by first | omega | exact .inl (by omega) | exact .inr (by omega) | (constructor <;> omega)))
local macro_rules | `(tactic| walk_at "sq") => `(tactic| first
  | assumption
  | exact SqS.lst (by assumption)
  | exact SqS.tup (by assumption)
  | exact Or.inl (by assumption)
  | exact Or.inr (by assumption)
  | (refine SqS.mono (by assumption) ?_; walk_at "sq"))
local macro_rules | `(tactic| walk_at "et") => `(tactic| first
  | (apply et_or; (walk_at "et"); (intro _; walk_at "et"))
  | (apply et_and; (walk_at "et"); (intro _; walk_at "et"))
  | (apply et_not; (walk_at "et"))
  | (apply et_test; (walk_at "ev"))
  | (apply et_B; (walk_at "ev")))
local macro_rules | `(tactic| walk_at "ea") => `(tactic| first
  | exact ea_nil
  | (apply ea_cons; (walk_at "ev"); (walk_at "ea")))
section
variable {P : Program} {w : World} {K : PySem.W.Frag} {mg : Str → Option Value} {base : Heap} {c : Ad}
def spLaw (K : PySem.W.Frag) : Sp := fun vs H Q E => ∃ (a : Addr) (ns : List Int), vs = [.ref a] ∧ SqL K H a (ns.map V.int) ∧ RetV (.bl true) H Q
theorem ok_law (T : Tx P w K mg base c) (h__law_book_due : Has P w K mg base 10 "_law_book_due" ["things", "rows"] (spDue K)) (h__law_digits : Has P w K mg base 4 "_law_digits" ["script"] (spDigits K)) (h__law_draw_rows : Has P w K mg base 12 "_law_draw_rows" ["tape", "things", "odd"] (spRows)) (h__law_make : Has P w K mg base 14 "_law_make" ["family", "wishes"] (spMake K c)) (h__law_make_wish : Has P w K mg base 12 "_law_make_wish" ["row"] (spMW K c)) (h__law_right : Has P w K mg base 24 "_law_right" ["book", "family", "things", "rows", "great"] (spRight K c)) (h__law_same : Has P w K mg base 12 "_law_same" ["actual", "due"] (spSame K 3)) (h__law_take : Has P w K mg base 4 "_law_take" ["tape", "many"] (spTake)) (h__law_two : Has P w K mg base 6 "_law_two" ["tape", "many"] (spTake)) (h_Beq : HasF P w K mg base 10 c.KB "__eq__" ["self", "other"] (spBkE K c)) (h_mkChoice : MakC P w K mg base 8 c.KC "Choice" ["self", "things", "take"] (spChI c)) (h_mkGroups : MakC P w K mg base 12 c.KG "Groups" ["self", "groups", "takes"] (spGrI K c)) {fL : Addr} {fdL : FuncData} (D : Fun K "law" "law" s_law fL fdL) : FnOk P w K mg base (L2.CX P w) 32 fL fdL ["script"] (spLaw K) := by
  refine D.okX sc_law (fun vs H Q E h => ?len) (fun cdv A outer s H vs Q E hr h => ?body)
  case len =>
    obtain ⟨_, _, rfl, _, _⟩ := h
    rfl
  case body =>
    have tk : Takes (cxOf (L2.CX P w) P w K mg base ["script", "tape", "odd", "things", "some", "sizes", "families", "great", "rows", "alike", "books", "at", "wishes", "passed", "told", "due", "dues", "book", "turn", "row", "part"] "law" (defScope s_law) fL cdv A outer s H E) (fun cls d _ H => E cls d H) := takes_of rfl rfl rfl rfl
    obtain ⟨a, ns, rfl, hS, h⟩ := h
    refine ⟨_, (pss_cons (ps_set (i := 1) sc_law.nd rfl (.inr rfl) (pe_hasN h__law_digits (hr.mono (by decide)) (pa_cons (pv 0) pa_nil)))
      (pss_cons (ps_set (i := 2) sc_law.nd rfl (.inr rfl) (pe_hasN h__law_take (hr.mono (by decide)) (pa_cons (pv 1) (pa_cons pe_int pa_nil))))
      (pss_cons (ps_set (i := 3) sc_law.nd rfl (.inr rfl) (pe_ix ix_list (pe_lst (pa_cons pe_int (pa_cons pe_int (pa_cons pe_int (pa_cons pe_int (pa_cons pe_int (pa_cons pe_int (pa_cons pe_int pa_nil)))))))) (pe_hasN h__law_take (hr.mono (by decide)) (pa_cons (pv 1) (pa_cons pe_int pa_nil))) (fun _ _ => rfl)))
      (pss_cons (ps_set (i := 4) sc_law.nd rfl (.inr rfl) (pe_op op_add (pv 3) pe_int))
      (pss_cons (ps_setLc (i := 5) (own := [("turn", 18)]) rfl sc_law.nd rfl rfl (sw_true rfl rfl rfl (by decide +kernel)) (pi_range1 rfl T.z_range (pa_cons pe_int pa_nil)) (blkOk_by (own := [("turn", 18)]) (N := ["script", "tape", "odd", "things", "some", "sizes", "families", "great", "rows", "alike", "books", "at", "wishes", "passed", "told", "due", "dues", "book", "turn", "row", "part"]) (sc := defScope s_law) (by decide +kernel)) (fun _ _ _ _ _ => (pg_name (i := 18) sc_law.nd rfl (.inl rfl))) (fun _ _ _ _ _ => pts_nil) (fun _ _ _ _ _ => (pe_op op_modN (pe_callTy call_int1 (by rfl) T.z_int (by decide +kernel) (pa_cons (pe_op op_add (pe_op op_fdiv (pv 4) pe_int) (pe_hasN h__law_take (hr.mono (by decide)) (pa_cons (pv 1) (pa_cons (pv 4) pa_nil)))) pa_nil)) (pv 4))))
      (pss_cons (ps_if (pt_cmpR op_eq (pe_hasN h__law_take (hr.mono (by decide)) (pa_cons (pv 1) (pa_cons pe_int pa_nil))) pe_int (nomark _)) (pss_one (ps_asg (pe_ix ix_list (pv 5) pe_int (fun _ _ => rfl)) (pg_sub (pv 5) pe_int set_list))) pss_nil)
      (pss_cons (ps_set (i := 6) sc_law.nd rfl (.inl rfl) (pe_lst (pa_cons (pe_makR h_mkChoice (hr.mono (by decide)) tk (pa_cons (pv 3) (pa_cons (pe_ix ix_list (pv 5) pe_int (fun _ _ => rfl)) pa_nil))) (pa_cons (pe_makR h_mkGroups (hr.mono (by decide)) tk (pa_cons (pe_op op_rep (pe_lst (pa_cons pe_int pa_nil)) (pv 3)) (pa_cons (pe_lst (pa_cons (pe_ix ix_list (pv 5) pe_int (fun _ _ => rfl)) pa_nil)) pa_nil))) pa_nil))))
      (pss_cons (ps_set (i := 7) sc_law.nd rfl (.inl rfl) (pe_op op_add (pe_op op_powW pe_int pe_int) (pe_hasN h__law_two (hr.mono (by decide)) (pa_cons (pv 1) (pa_cons pe_int pa_nil)))))
      (pss_cons (ps_setLc (i := 8) (own := [("turn", 18)]) rfl sc_law.nd rfl rfl (sw_true rfl rfl rfl (by decide +kernel)) (pi_range1 rfl T.z_range (pa_cons pe_int pa_nil)) (blkOk_by (own := [("turn", 18)]) (N := ["script", "tape", "odd", "things", "some", "sizes", "families", "great", "rows", "alike", "books", "at", "wishes", "passed", "told", "due", "dues", "book", "turn", "row", "part"]) (sc := defScope s_law) (by decide +kernel)) (fun _ _ _ _ _ => (pg_name (i := 18) sc_law.nd rfl (.inl rfl))) (fun _ _ _ _ _ => pts_nil) (fun _ _ _ _ _ => (pe_hasN h__law_draw_rows (hr.mono (by decide)) (pa_cons (pv 1) (pa_cons (pv 3) (pa_cons (pv 2) pa_nil))))))
      (pss_cons (ps_set (i := 9) sc_law.nd rfl (.inl rfl) (pe_hasN h__law_take (hr.mono (by decide)) (pa_cons (pv 1) (pa_cons pe_int pa_nil))))
      (pss_cons (ps_if (pt_cmpR op_eq (pv 9) pe_int (nomark _)) (pss_one (ps_asg (pe_ix ix_list (pv 8) pe_int (fun _ _ => rfl)) (pg_sub (pv 8) pe_int set_list))) pss_nil)
      (pss_cons (ps_if (pt_cmpR op_eq (pv 9) pe_int (nomark _)) (pss_one (ps_asg (pe_lstRev rfl (by rfl) T.z_list (by rfl) T.z_reversed (pe_ix ix_list (pv 8) pe_int (fun _ _ => rfl))) (pg_sub (pv 8) pe_int set_list))) pss_nil)
      (pss_cons (ps_set (i := 10) sc_law.nd rfl (.inl rfl) (pe_lst pa_nil))
      (pss_cons (ps_for (passes_of rfl) rfl (pi_range1 rfl T.z_range (pa_cons pe_int pa_nil)) (pg_name (i := 11) sc_law.nd rfl (.inl rfl)) (pss_cons (ps_setLc (i := 12) (own := [("row", 19)]) rfl sc_law.nd rfl rfl (sw_true rfl rfl rfl (by decide +kernel)) (pi_list (pe_ix ix_list (pv 8) (pv 11) (fun _ _ => rfl))) (blkOk_by (own := [("row", 19)]) (N := ["script", "tape", "odd", "things", "some", "sizes", "families", "great", "rows", "alike", "books", "at", "wishes", "passed", "told", "due", "dues", "book", "turn", "row", "part"]) (sc := defScope s_law) (by decide +kernel)) (fun _ _ _ _ _ => (pg_name (i := 19) sc_law.nd rfl (.inl rfl))) (fun _ _ _ _ _ => pts_nil) (fun _ _ _ _ _ => (pe_hasN h__law_make_wish (hr.mono (by decide)) (pa_cons (pv 19) pa_nil))))
      (pss_cons (ps_set (i := 13) sc_law.nd rfl (.inl rfl) (pe_callTy call_list_of (by rfl) T.z_list (by decide +kernel) (pa_cons (pv 12) pa_nil)))
      (pss_cons (ps_set (i := 14) sc_law.nd rfl (.inl rfl) (pe_hasN h__law_make (hr.mono (by decide)) (pa_cons (pe_ix ix_list (pv 6) (pv 11) (fun _ _ => rfl)) (pa_cons (pv 13) pa_nil))))
      (pss_cons (ps_if (pt_cmpR (op_neSame hr.units) (pv 13) (pv 12) (nomark _)) (pss_one (ps_ret pe_bl)) pss_nil)
      (pss_cons (ps_expr (pe_bm0 PySem.F.plainAttrs_list PySem.F.slot_list_clear PySem.F.type_list_clear mt_clear (pv 13)))
      (pss_cons (ps_set (i := 15) sc_law.nd rfl (.inl rfl) (pe_hasN h__law_book_due (hr.mono (by decide)) (pa_cons (pv 3) (pa_cons (pe_ix ix_list (pv 8) (pv 11) (fun _ _ => rfl)) pa_nil))))
      (pss_cons (ps_if (PW.pt (pw_and (pt_cmpR (op_neD hr.units) (pv 15) (pe_lst pa_nil) (nomark _)) (pw_and1 (pt_not (pt_val (pe_hasN h__law_same (hr.mono (by decide)) (pa_cons (pv 14) (pa_cons (pv 15) pa_nil)))))))) (pss_one (ps_ret pe_bl)) pss_nil)
      (pss_cons (ps_if (PW.pt (pw_and (pt_cmpR (op_eqD hr.units) (pv 15) (pe_lst pa_nil) (nomark _)) (pw_and1 (PW.pt (pw_or (pt_cmpR op_ne (pe_callB call_len_seq (by rfl) T.z_len (by decide +kernel) (pa_cons (pv 14) pa_nil)) pe_int (nomark _)) (pw_or1 (pt_not (pt_val (pe_callB call_isi (by rfl) T.z_isinstance (by decide +kernel) (pa_cons (pe_ix ix_list (pv 14) pe_int (fun _ _ => rfl)) (pa_cons (pe_glob (v := .ref c.KB) rfl T.e_Book.g rfl) pa_nil))))))))))) (pss_one (ps_ret pe_bl)) pss_nil)
      (pss_one (ps_expr (pe_bm PySem.F.plainAttrs_list PySem.F.slot_list_append PySem.F.type_list_append mt_append (pv 10) (pa_cons (pv 14) pa_nil)))))))))))))
      (pss_cons (ps_setLc (i := 16) (own := [("part", 20)]) rfl sc_law.nd rfl rfl (sw_true rfl rfl rfl (by decide +kernel)) (pi_list (pv 8)) (blkOk_by (own := [("part", 20)]) (N := ["script", "tape", "odd", "things", "some", "sizes", "families", "great", "rows", "alike", "books", "at", "wishes", "passed", "told", "due", "dues", "book", "turn", "row", "part"]) (sc := defScope s_law) (by decide +kernel)) (fun _ _ _ _ _ => (pg_name (i := 20) sc_law.nd rfl (.inl rfl))) (fun _ _ _ _ _ => pts_nil) (fun _ _ _ _ _ => (pe_hasN h__law_book_due (hr.mono (by decide)) (pa_cons (pv 3) (pa_cons (pv 20) pa_nil)))))
      (pss_cons (ps_for (passes_of rfl) rfl (pi_tup (pe_tup (pa_cons pe_int (pa_cons pe_int (pa_cons pe_int pa_nil))))) (pg_name (i := 11) sc_law.nd rfl (.inl rfl)) (pss_one (ps_if (pt_cmpR (op_eqD hr.units) (pe_ix ix_list (pv 16) (pv 11) (fun _ _ => rfl)) (pe_lst pa_nil) (nomark _)) (pss_cons (ps_set (i := 17) sc_law.nd rfl (.inl rfl) (pe_ix ix_list (pe_ix ix_list (pv 10) (pv 11) (fun _ _ => rfl)) pe_int (fun _ _ => rfl)))
      (pss_one (ps_if (pt_not (pt_val (pe_hasN h__law_right (hr.mono (by decide)) (pa_cons (pv 17) (pa_cons (pe_ix ix_list (pv 6) (pv 11) (fun _ _ => rfl)) (pa_cons (pv 3) (pa_cons (pe_ix ix_list (pv 8) (pv 11) (fun _ _ => rfl)) (pa_cons (pv 7) pa_nil)))))))) (pss_one (ps_ret pe_bl)) pss_nil))) pss_nil)))
      (pss_cons (ps_if (PW.pt (pw_and (pt_cmpR (op_eqD hr.units) (pe_ix ix_list (pv 16) pe_int (fun _ _ => rfl)) (pe_lst pa_nil) (nomark _)) (pw_and1 (pt_not (pt_val (pe_hasN h__law_same (hr.mono (by decide)) (pa_cons (pe_cmpR (op_eqAny h_Beq (TB := fun D => D = c.KB) (fun D h => by subst h; exact T.nfB) (T.nfI _ (.inr (.inr (.inr rfl)))) (hr.mono (by decide))) (pe_ix ix_list (pe_ix ix_list (pv 10) pe_int (fun _ _ => rfl)) pe_int (fun _ _ => rfl)) pe_int (nomark _)) (pa_cons pe_bl pa_nil)))))))) (pss_one (ps_ret pe_bl)) pss_nil)
      (pss_cons (ps_if (PW.pt (pw_and (pt_cmpR (op_eqD hr.units) (pe_ix ix_list (pv 16) pe_int (fun _ _ => rfl)) (pe_lst pa_nil) (nomark _)) (pw_and1 (pt_cmpR (op_eqD hr.units) (pe_ix ix_list (pv 16) pe_int (fun _ _ => rfl)) (pe_lst pa_nil) (nomark _))))) (pss_cons (ps_set (i := 15) sc_law.nd rfl (.inl rfl) (pe_and (pe_cmpR op_eq (pe_ix ix_list (pv 5) pe_int (fun _ _ => rfl)) (pe_ix ix_list (pv 5) pe_int (fun _ _ => rfl)) (nomark _)) (pe_one (pe_cmpR (op_eqD hr.units) (pe_ix ix_list (pv 8) pe_int (fun _ _ => rfl)) (pe_ix ix_list (pv 8) pe_int (fun _ _ => rfl)) (nomark _)))))
      (pss_one (ps_ret (pe_hasN h__law_same (hr.mono (by decide)) (pa_cons (pe_cmpR (op_eqAny h_Beq (TB := fun D => D = c.KB) (fun D h => by subst h; exact T.nfB) (T.nfI _ (.inr (.inr (.inr rfl)))) (hr.mono (by decide))) (pe_ix ix_list (pe_ix ix_list (pv 10) pe_int (fun _ _ => rfl)) pe_int (fun _ _ => rfl)) (pe_ix ix_list (pe_ix ix_list (pv 10) pe_int (fun _ _ => rfl)) pe_int (fun _ _ => rfl)) (nomark _)) (pa_cons (pv 15) pa_nil)))))) pss_nil)
      (pss_one (ps_ret pe_bl)))))))))))))))))))), ?_⟩
    refine q_digits (ea_cons (ev_var rfl) ea_nil) hS fun p H1 hp e1 t1 => ?_
    refine q_take (p := p) (many := 12) (ea_cons (ev_var rfl) (ea_cons ev_c ea_nil)) (by decide) t1 fun odd H2 o0 o1 b2 t2 => ?_
    refine q_pick (p := p) (many := 7) (xs := sevens.map V.int) (el_lst (ea_cons ev_c (ea_cons ev_c (ea_cons ev_c (ea_cons ev_c (ea_cons ev_c (ea_cons ev_c (ea_cons ev_c ea_nil))))))) (by show 7 ≤ 100000; decide)) (fun H3 e3 => ea_cons (ev_var rfl) (ea_cons ev_c ea_nil)) (by decide) t2 fun r H3 r0 r1 b3 t3 => ?_
    obtain ⟨t, hm, t6⟩ := sevens_at ⟨r0, r1⟩
    refine ⟨_, hm, ?_⟩
    refine q_asg (v := .int ((t : Int) + 1)) (ev_op (ev_var rfl) ev_c rv_I0) fun H4 e4 => ?_
    have b4 : But p H H4 := (((But.of e1).trans b2).trans b3).trans (But.of e4)
    have t4 := t3.mono e4
    refine q_tapeLc (n := 2) (p := p) (fun acc Dl H' => ∀ y ∈ acc, ∃ s : Nat, y = .int (s : Nat) ∧ s ≤ t) (by decide) t4 (by intro x; rfl) (fun Dl hD y hy => by cases hy) (fun m acc Dl H' hm hD nD b' t' g' l' pf Q' q' => ?_) fun sl ys H5 hsl nsl b5 t5 g5 l5 pf => ?_
    · refine (ev_op (σ := [some (.ref a), some (.ref p), some (.int odd), some (.int (t : Nat)), some (.int ((t : Int) + 1)), none, none, none, none, none, none, none, none, none, none, none, none, none, some (.int (m : Nat)), none, none]) (ev_var (i := 4) (v := .int ((t : Int) + 1)) rfl) ev_c (rv_I (C := CDiv) (g := fun i j => .int (i / j)) ⟨by decide, by decide⟩)) H' (Ex.refl H') _ fun H6 e6 => go_take (p := p) (many := (t : Int) + 1) (ea_cons (ev_var rfl) (ea_cons (ev_var rfl) ea_nil)) (by omega) (t'.mono e6) fun r H7 r0 r1 b7 t7 => ?_
      have f0 : 0 ≤ Int.fmod (((t : Int) + 1) / 2 + r) ((t : Int) + 1) := Int.fmod_nonneg_of_pos _ (by omega)
      have f1 : Int.fmod (((t : Int) + 1) / 2 + r) ((t : Int) + 1) < (t : Int) + 1 := Int.fmod_lt_of_pos _ (by omega)
      refine ⟨_, r, rfl, rfl, .inl ⟨_, rfl, .int ((t : Int) + 1), rfl, _, _, rfl, rfl, by omega, q' _ H7 ((But.of e6).trans b7) t7 fun y hy => ?_⟩⟩
      rcases List.mem_append.mp hy with hy | hy
      · exact pf y hy
      · rw [List.mem_singleton.mp hy]
        exact ⟨(Int.fmod (((t : Int) + 1) / 2 + r) ((t : Int) + 1)).toNat, by rw [Int.toNat_of_nonneg f0], by omega⟩
    obtain ⟨s0, s1, rfl, hs0, hs1⟩ : ∃ s0 s1 : Nat, ys = [.int (s0 : Nat), .int (s1 : Nat)] ∧ s0 ≤ t ∧ s1 ≤ t := by
      match ys, l5, pf with
      | [u, v], _, pf =>
        obtain ⟨s0, rfl, h0⟩ := pf u (by simp)
        obtain ⟨s1, rfl, h1⟩ := pf v (by simp)
        exact ⟨s0, s1, rfl, h0, h1⟩
    have hsl0 : H sl = none := (b4.fresh t4 hsl).1
    refine q_takeM (c := 1) (p := p) (many := 2) (fun σ' H' => σ' = [some (.ref a), some (.ref p), some (.int odd), some (.int (t : Nat)), some (.int ((t : Int) + 1)), some (.ref sl), none, none, none, none, none, none, none, none, none, none, none, none, none, none, none] ∧ ∃ s1 : Nat, s1 ≤ t ∧ But p H H' ∧ Tape H' p ∧ H' sl = some (.lst [.int (s0 : Nat), .int (s1 : Nat)])) (ea_cons (ev_var rfl) (ea_cons ev_c ea_nil)) (by decide) t5 ?ph2 (fun H6 b6 t6 => ⟨rfl, s1, hs1, (b4.trans b5).trans b6, t6, b6 sl _ nsl g5⟩) (fun N hN H6 b6 t6' => ?cp)
    case cp =>
      have g6 := b6 sl _ nsl g5
      refine s_setL (j := 1) g6 (ev_op (ev_var rfl) ev_c (rv_ixL (sq_of g6) (atI_nat (j := 0) rfl))) (ev_var rfl) ev_c (by show 1 < 2; decide) fun H7 e7 => ?_
      exact hN _ _ ⟨rfl, s0, hs0, (((b4.trans b5).trans b6).trans (But.of e7)).new hsl0, tape_upd (t6'.mono e7) nsl, upd_same⟩
    clear pf g5 b5 t5 l5 hs1 s1 b4 t4 e4 b2 b3 t1 t2 t3 e1 hm
    rintro σ' H6 ⟨rfl, s1, hs1, b6, t6', g6⟩
    refine q_lst2 (go_choice (K := K) t6 hs0 (ea_cons (ev_var rfl) (ea_cons (ev_op (ev_var rfl) ev_c (rv_ixL (sq_of g6) (atI_nat (j := 0) rfl))) ea_nil)) fun fc H7 e7 hfc => go_groups t6 hs1 ?zeros (el_lst (ea_cons (ev_op (ev_var rfl) ev_c (rv_ixL (sq_of (e7 sl _ g6)) (atI_nat (j := 1) rfl))) ea_nil) (by show 1 ≤ 100000; decide)) fun fg H8 e8 hfg => ⟨by show 2 ≤ sizeLine; decide, fun fl hfl => ?_⟩)
    case zeros =>
      have rp := el_rep (ta := tLst (tCons (tC (.int 0)) tNil)) (tb := tVar 3) (σ := [some (.ref a), some (.ref p), some (.int odd), some (.int (t : Nat)), some (.int ((t : Int) + 1)), some (.ref sl), none, none, none, none, none, none, none, none, none, none, none, none, none, none, none]) (H := H7) (xs := [.int 0]) (k := (t : Nat)) (em_el (el_lst (ea_cons ev_c ea_nil) (by show 1 ≤ 100000; decide))) (ev_var rfl) (by omega) (by show 1 * ((t : Int)).toNat ≤ 100000; omega)
      rw [Int.toNat_natCast, rep_zero] at rp
      exact rp
    have e68 : Ex H6 (upd H8 fl (.lst [.ref fc, .ref fg])) := (e7.trans e8).trans (Ex.new hfl)
    have t9 := t6'.mono e68
    have b9 := b6.trans (But.of e68)
    have nfl : fl ≠ p := fun e => tape_some ((t6'.mono e7).mono e8) (by rw [← e]; exact hfl)
    have F9 : BF K c t s0 s1 sl fl fc fg (upd H8 fl (.lst [.ref fc, .ref fg])) := ⟨e68 sl _ g6, upd_same, hfc.mono (e8.trans (Ex.new hfl)), hfg.mono (Ex.new hfl)⟩
    have G9 := F9.hide t9 nsl nfl
    clear F9 hfc hfg g6 e7 e8 t6' b6 hfl e68
    generalize upd H8 fl (.lst [.ref fc, .ref fg]) = H9 at *
    refine q_addTake (p := p) (many := 144) (ev_powW ev_c ev_c cpow10) (ea_cons (ev_var rfl) (ea_cons ev_c ea_nil)) (by decide) t9 fun r2 Ha r20 r21 ba ta => ?_
    have hgr : 7 ≤ (10 : Int) ^ (6 : Int).toNat + r2 := by
      have : (10 : Int) ^ (6 : Int).toNat = 1000000 := by decide
      omega
    generalize (10 : Int) ^ (6 : Int).toNat + r2 = gr at hgr
    have Ga := G9.mono (hide_but ba List.mem_cons_self)
    have bHa := b9.trans ba
    refine q_tapeLc (n := 2) (p := p) (fun acc Dl H' => ∃ zss : List (Addr × List (Addr × Row)), acc = zss.map (fun q => V.ref q.1) ∧ ∀ q ∈ zss, RL (hide [p, Dl] H') q.1 q.2 ∧ (∀ z ∈ q.2, RowOk z.2) ∧ q.2.length ≤ 6) (by decide) ta (by intro x; rfl) (fun Dl hD => ⟨[], rfl, fun q hq => by cases hq⟩) (fun m acc Dl H' hm hD nD b' t' g' l' pf Q' q' => ?_) fun rl ys Hb hrl nrl bb tb gb lb pf => ?_
    · obtain ⟨zss, rfl, hz⟩ := pf
      have ha : EvA (tCons (tVar 1) (tCons (tVar 3) (tCons (tVar 2) tNil))) [some (.ref a), some (.ref p), some (.int odd), some (.int (t : Nat)), some (.int ((t : Int) + 1)), some (.ref sl), some (.ref fl), some (.int gr), none, none, none, none, none, none, none, none, none, none, some (.int (m : Nat)), none, none] H' [.ref p, .int (t : Nat), .int odd] := ea_cons (ev_var rfl) (ea_cons (ev_var rfl) (ea_cons (ev_var rfl) ea_nil))
      refine ha H' (Ex.refl H') _ fun H'' e'' => ⟨p, t, odd, rfl, t6, t'.mono e'', fun l zs H3 b3 t3 hl gl hzs hlen => ?_⟩
      have gD : H'' Dl = some (.lst (zss.map fun q => V.ref q.1)) := e'' Dl _ g'
      have nlD : l ≠ Dl := fun e => by rw [e, gD] at hl; cases hl
      have nlp : l ≠ p := fun e => tape_some (t'.mono e'') (by rw [← e]; exact hl)
      have sub : ∀ o, Ex (nw H'' H3) (hide [p, Dl] (upd H3 Dl o)) := fun o => (nw_hide (S := [p, Dl]) fun b hb => by
        rcases List.mem_cons.mp hb with rfl | hb
        · exact tape_some (t'.mono e'')
        · rw [List.mem_singleton.mp hb, gD]; exact fun e => by cases e).trans (hide_upd (List.mem_cons_of_mem _ List.mem_cons_self))
      refine q' _ H3 ((But.of e'').trans b3) t3 ⟨zss ++ [(l, zs)], by rw [List.map_append]; rfl, fun q hq => ?_⟩
      rcases List.mem_append.mp hq with hq | hq
      · obtain ⟨h1, h2, h3⟩ := hz q hq
        exact ⟨h1.mono ((hide_mono e'').trans ((hide_but b3 List.mem_cons_self).trans (hide_upd (List.mem_cons_of_mem _ List.mem_cons_self)))), h2, h3⟩
      · rw [List.mem_singleton.mp hq]
        exact ⟨⟨hide_at (not2 nlp nlD) (by rw [upd_ne nlD]; exact gl), fun z hm => ((hzs z hm).1).mono (sub _)⟩, fun z hm => (hzs z hm).2, hlen⟩
    obtain ⟨zss, rfl, hz⟩ := pf
    obtain ⟨⟨l0, zs0⟩, ⟨l1, zs1⟩, rfl⟩ : ∃ q0 q1, zss = [q0, q1] := by
      match zss, lb with
      | [u, v], _ => exact ⟨u, v, rfl⟩
    obtain ⟨R0, ok0, n0⟩ := hz (l0, zs0) (by simp)
    obtain ⟨R1, ok1, n1⟩ := hz (l1, zs1) (by simp)
    have Gb := Ga.mono (hide_add bb hrl)
    have hrl0 : H rl = none := (bHa.fresh ta hrl).1
    refine q_take (p := p) (many := 4) (ea_cons (ev_var rfl) (ea_cons ev_c ea_nil)) (by decide) tb fun alike Hc al0 al1 bc tc => ?_
    have gc : Hc rl = some (.lst [.ref l0, .ref l1]) := bc rl _ nrl gb
    have hbc : Ex (hide [p, rl] Hb) (hide [p, rl] Hc) := hide_but bc List.mem_cons_self
    have Gc := Gb.mono hbc
    have R0c := RL.mono hbc R0
    have R1c := RL.mono hbc R1
    have bHc := (bHa.trans bb).trans bc
    clear Gb hbc R0 R1 bb bc tb gb Ga hz bHa ba ta G9 b9 t9
    refine q_whenM (b := decide (alike = 1)) (fun σ' H' => σ' = [some (.ref a), some (.ref p), some (.int odd), some (.int (t : Nat)), some (.int ((t : Int) + 1)), some (.ref sl), some (.ref fl), some (.int gr), some (.ref rl), some (.int alike), none, none, none, none, none, none, none, none, none, none, none] ∧ ∃ (l1 : Addr) (zs1 : List (Addr × Row)), But p H H' ∧ Tape H' p ∧ H' rl = some (.lst [.ref l0, .ref l1]) ∧ BF K c t s0 s1 sl fl fc fg (hide [p, rl] H') ∧ RL (hide [p, rl] H') l0 zs0 ∧ RL (hide [p, rl] H') l1 zs1 ∧ (∀ z ∈ zs1, RowOk z.2) ∧ zs1.length ≤ 6)
      (et_is (et_test (ev_op (ev_var rfl) ev_c (rv_eq rfl))) (dint _ _)) ?ph3 (fun N hN hb Hd ed => ?cp3) (fun hb Hd ed => ⟨rfl, l1, zs1, bHc.trans (But.of ed), tc.mono ed, ed rl _ gc, Gc.mono (hide_mono ed), R0c.mono (hide_mono ed), R1c.mono (hide_mono ed), ok1, n1⟩)
    case cp3 =>
      have gd := ed rl _ gc
      refine s_setL (j := 1) gd (ev_op (ev_var rfl) ev_c (rv_ixL (sq_of gd) (atI_nat (j := 0) rfl))) (ev_var rfl) ev_c (by show 1 < 2; decide) fun He ee => ?_
      have hh : Ex (hide [p, rl] Hc) (hide [p, rl] (upd He rl (.lst [.ref l0, .ref l0]))) := (hide_mono (ed.trans ee)).trans (hide_upd (List.mem_cons_of_mem _ List.mem_cons_self))
      exact hN _ _ ⟨rfl, l0, zs0, (bHc.trans (But.of (ed.trans ee))).new hrl0, tape_upd (tc.mono (ed.trans ee)) nrl, upd_same, Gc.mono hh, R0c.mono hh, R0c.mono hh, ok0, n0⟩
    clear R1c R0c Gc gc bHc tc ok1 n1 zs1 l1 lb
    rintro σ' Hc ⟨rfl, l1, zs1, bHc, tc, gc, Gc, R0c, R1c, ok1, n1⟩
    refine q_whenM (b := decide (alike = 2)) (fun σ' H' => σ' = [some (.ref a), some (.ref p), some (.int odd), some (.int (t : Nat)), some (.int ((t : Int) + 1)), some (.ref sl), some (.ref fl), some (.int gr), some (.ref rl), some (.int alike), none, none, none, none, none, none, none, none, none, none, none] ∧ ∃ (l1 : Addr) (zs1 : List (Addr × Row)), But p H H' ∧ Tape H' p ∧ H' rl = some (.lst [.ref l0, .ref l1]) ∧ BF K c t s0 s1 sl fl fc fg (hide [p, rl] H') ∧ RL (hide [p, rl] H') l0 zs0 ∧ RL (hide [p, rl] H') l1 zs1 ∧ (∀ z ∈ zs1, RowOk z.2) ∧ zs1.length ≤ 6)
      (et_is (et_test (ev_op (ev_var rfl) ev_c (rv_eq rfl))) (dint _ _)) ?ph4 (fun N hN hb Hd ed => ?cp4) (fun hb Hd ed => ⟨rfl, l1, zs1, bHc.trans (But.of ed), tc.mono ed, ed rl _ gc, Gc.mono (hide_mono ed), R0c.mono (hide_mono ed), R1c.mono (hide_mono ed), ok1, n1⟩)
    case cp4 =>
      have gd := ed rl _ gc
      have R0d := (R0c.mono (hide_mono ed)).mono hide_ex
      refine s_setLN (j := 1) gd (el_lstRev (K := K) (xs := zs0.map fun z => V.ref z.1) (ev_op (ev_var rfl) ev_c (rv_ixL (sq_of gd) (atI_nat (j := 0) rfl))) (sq_of R0d.1)) (ev_var rfl) ev_c (by show 1 < 2; decide) fun ln He hln ee gln => ?_
      have hh : Ex (hide [p, rl] Hc) (hide [p, rl] (upd He rl (.lst [.ref l0, .ref ln]))) := (hide_mono (ed.trans ee)).trans (hide_upd (List.mem_cons_of_mem _ List.mem_cons_self))
      have nlr : ln ≠ rl := fun e => by rw [e, gd] at hln; cases hln
      have nlp : ln ≠ p := fun e => by
        obtain ⟨ds, hpd⟩ : Tape Hd p := tc.mono ed
        rw [e, hpd] at hln; cases hln
      exact hN _ _ ⟨rfl, ln, zs0.reverse, (bHc.trans (But.of (ed.trans ee))).new hrl0, tape_upd (tc.mono (ed.trans ee)) nrl, upd_same, Gc.mono hh, R0c.mono hh, ⟨hide_at (not2 nlp nlr) (by rw [upd_ne nlr, List.map_reverse]; exact gln), fun z hz => (R0c.mono hh).2 z (List.mem_reverse.mp hz)⟩, fun z hz => ok0 z (List.mem_reverse.mp hz), by rw [List.length_reverse]; exact n0⟩
    clear R1c R0c Gc gc bHc tc ok1 n1 zs1 l1
    rintro σ' Hf ⟨rfl, l1, zs1, bHf, _, gf, Gf, R0f, R1f, ok1, n1⟩
    have XX : Ex H Hf := bHf.ex (Ex.refl H) hp
    have F := Gf.mono hide_ex
    have R0 := R0f.mono hide_ex
    have R1 := R1f.mono hide_ex
    clear Gf R0f R1f bHf hrl0 nrl nsl nfl al0 al1 o0 o1 r0 r1 r20 r21
    have Rn : ∀ i, RL Hf (two l0 l1 i) (two zs0 zs1 i) ∧ (∀ z ∈ two zs0 zs1 i, RowOk z.2) ∧ (two zs0 zs1 i).length ≤ 6 := fun i => by
      unfold two
      split
      · exact ⟨R0, ok0, n0⟩
      · exact ⟨R1, ok1, n1⟩
    have Fn : ∀ i, FamAt K c Hf (two fc fg i) (t : Nat) (rkT t (two s0 s1 i)) := fun i => by
      unfold two
      split
      · exact F.fc
      · exact F.fg
    refine q_asgL (el_lst ea_nil (by decide)) fun bl Hg hbl eg gg => ?_
    refine q_forR1 (n := 2) (ea_cons ev_c ea_nil) (by omega) (fun i σ' H' => ∃ (v11 v12 v13 v14 v15 : Option V) (bs : List V), σ' = [some (.ref a), some (.ref p), some (.int odd), some (.int (t : Nat)), some (.int ((t : Int) + 1)), some (.ref sl), some (.ref fl), some (.int gr), some (.ref rl), some (.int alike), some (.ref bl), v11, v12, v13, v14, v15, none, none, none, none, none] ∧ Ex Hf H' ∧ H' bl = some (.lst bs) ∧ bs.length = i ∧ ∀ j v, bs[j]? = some v → ∃ l, v = .ref l ∧ l ≠ bl ∧ Told K c H' l (two fc fg j) t (rowsOf (two zs0 zs1 j)))
      (fun Hh eh => ⟨none, none, none, none, none, [], rfl, eg.trans eh, eh bl _ gg, rfl, fun j v hv => by simp at hv⟩) ?turn ?fin
    case turn =>
      rintro i σ' H1 hi ⟨v11, v12, v13, v14, v15, bs, rfl, x1, g1, hl, hT⟩
      have hi2 : i < 2 := by omega
      obtain ⟨Ri, oki, ni⟩ := Rn i
      have Fi := Fn i
      refine q_asgLG (lg_lcL (K := K) (p := two l0 l1 i) (xs := (two zs0 zs1 i).map fun z => V.ref z.1) (fun j y H => ∃ a, y = .ref a ∧ WishAt K c H a ((rowsOf (two zs0 zs1 i)).getD j r0)) (solid_wish _) (ev_op (ev_var rfl) (ev_var rfl) (rv_ixL (sq_of (x1 rl _ gf)) (atI_nat (two_at hi2)))) (sq_of (Ri.mono x1).1) (by rw [List.length_map]; omega) (by intro x; rfl) (fun m x H3 e3 hx => ?mk)) fun wl ys H2 hwl e2 g2 hly hys => ?_
      case mk =>
        obtain ⟨hz, rfl, hm⟩ := at_row hx
        intro H4 e4 Q' q'
        have ha : EvA (tCons (tVar 19) tNil) [some (.ref a), some (.ref p), some (.int odd), some (.int (t : Nat)), some (.int ((t : Int) + 1)), some (.ref sl), some (.ref fl), some (.int gr), some (.ref rl), some (.int alike), some (.ref bl), some (.int (i : Nat)), v12, v13, v14, v15, none, none, none, some (.ref ((two zs0 zs1 i).getD m z0).1), none] H4 [.ref ((two zs0 zs1 i).getD m z0).1] := ea_cons (ev_var rfl) ea_nil
        refine ha H4 (Ex.refl H4) _ fun H5 e5 => ⟨_, _, rfl, oki _ hm, (Ri.2 _ hm).mono (((x1.trans e3).trans e4).trans e5), fun x H6 hx e6 hw => q' (.ref x) H6 (e5.trans e6) ⟨x, rfl, ?_⟩⟩
        rw [rows_getD]
        exact hw
      obtain ⟨ads, rfl, hW⟩ := wishes_of (rs := rowsOf (two zs0 zs1 i)) (by rw [hly, List.length_map, rows_len]) hys
      refine q_asgL (el_list (ev_var rfl) (sq_of g2)) fun pl H3 hpl e3 g3 => ?_
      refine q_told (K := K) (c := c) (rs := rowsOf (two zs0 zs1 i)) (ads := ads) (rk := rkT t (two s0 s1 i)) (ea_cons (ev_op (ev_var rfl) (ev_var rfl) (rv_ixL (sq_of ((x1.trans (e2.trans e3)) fl _ F.fl)) (atI_nat (two_at hi2)))) (ea_cons (ev_var rfl) ea_nil)) t6 (by rw [rows_len]; exact ni) (Fi.mono (x1.trans (e2.trans e3))) g3 (hW.mono e3) fun tl H4 htl e4 hTl => ?_
      refine q_when (b := false) (et_test (ev_op (ev_var rfl) (ev_var rfl) (rv_neSame (ps := ads) (e4 pl _ g3) ((e3.trans e4) wl _ g2)))) (fun hb => Bool.noConfusion hb) fun _ H5 e5 => ?_
      have g5 := (e4.trans e5) pl _ g3
      refine q_clear g5 (ev_var rfl) fun H6 e6 => ?_
      have npl : tl ≠ pl := fun e => by rw [e, g3] at htl; cases htl
      have hT6 : Told K c (upd H6 pl (.lst [])) tl (two fc fg i) t (rowsOf (two zs0 zs1 i)) := (hTl.mono (e5.trans e6)).updL (e6 pl _ g5) npl
      have x6 : Ex H2 (upd H6 pl (.lst [])) := (e3.trans ((e4.trans e5).trans e6)).mut hpl
      have ntb : tl ≠ bl := fun e => by rw [e, (e2.trans e3) bl _ g1] at htl; cases htl
      have x7 := e2.trans x6
      clear hTl e6 g5 e5 htl e4 hpl e3 g3 hW x6
      generalize upd H6 pl (.lst []) = H7 at *
      have xf := x1.trans x7
      refine q_due (K := K) (zs := two zs0 zs1 i) (ea_cons (ev_var rfl) (ea_cons (ev_op (ev_var rfl) (ev_var rfl) (rv_ixL (sq_of (xf rl _ gf)) (atI_nat (two_at hi2)))) ea_nil)) t6 ni (Ri.mono xf).at oki fun dv H8 e8 hd => ?_
      have hT8 := hT6.mono e8
      refine q_when (b := false) (et_is (et_and (a := !(bookErr t (rowsOf (two zs0 zs1 i))).isNone) (b := false) (et_test (ev_neDD (ed_ev (ev_var rfl) hd) (ed_el (el_lst ea_nil (by decide)) .nil) (shaped_due _) (shaped_due none) (due_nil _))) fun ha => et_is (et_not (et_same (d := dueD (bookErr t (rowsOf (two zs0 zs1 i)))) (ed_ev (v := .ref tl) (ev_var rfl) ?dpt) (ed_ev (ev_var rfl) hd) (small_due _))) rfl) (Bool.and_false _)) (fun hb => Bool.noConfusion hb) fun _ H9 e9 => ?_
      case dpt =>
        rcases hT8 with ⟨hn, _⟩ | ⟨e, q, he, gl, gq⟩
        · rw [hn] at ha; cases ha
        · rw [he]
          show Dp K H8 (.ref tl) (.list [e.dat])
          rw [e.dat_is]
          exact .lst (sq_of gl) (.cons (.tup (st_of gq) (.cons (.str _) (.cons (.int _) .nil))) .nil)
      have hT9 := hT8.mono e9
      refine q_when (b := false) (et_is (et_and (a := (bookErr t (rowsOf (two zs0 zs1 i))).isNone) (b := false) (et_test (ev_eqDD (ed_ev (ev_var rfl) (dp_mono e9 _ hd)) (ed_el (el_lst ea_nil (by decide)) .nil) (shaped_due _) (shaped_due none) (due_nil _))) fun ha => ?isb) (Bool.and_false _)) (fun hb => Bool.noConfusion hb) fun _ H10 e10 => ?_
      case isb =>
        rcases hT9 with ⟨hn, b, gb, hB⟩ | ⟨e, q, he, _⟩
        · obtain ⟨dx, tw, ads', gB, _⟩ := hB
          exact et_is (et_or (a := false) (b := false) (et_is (et_test (ev_op (ev_lenS (ev_var rfl) (.inl (sq_of gb))) ev_c (rv_ne rfl))) (by show (!decide (V.int 1 = V.int 1)) = false; simp)) fun _ => et_is (et_not (et_test (ev_isi (b := true) (ea_cons (ev_op (ev_var rfl) ev_c (rv_ixL (sq_of gb) (atI_nat (j := 0) rfl))) (ea_cons ev_c ea_nil)) (.own c.KB) (fun H11 e11 => tyx_i T (.inr (.inr (.inr rfl))) (e11 b _ gB)) T.kBB))) rfl) rfl
        · rw [he] at ha; cases ha
      have g10 := (((x7.trans e8).trans e9).trans e10) bl _ g1
      refine s_app g10 (ev_var rfl) (ev_var rfl) (by omega) fun H11 e11 => ?_
      have x11 := (((x7.trans e8).trans e9).trans e10).trans e11
      refine ⟨_, _, _, _, _, bs ++ [.ref tl], rfl, (x1.trans x11).mut hbl, upd_same, by rw [List.length_append, hl]; rfl, fun j v hv => ?_⟩
      by_cases hj : j < bs.length
      · rw [List.getElem?_append_left hj] at hv
        obtain ⟨l, rfl, nl, hTo⟩ := hT j v hv
        exact ⟨l, rfl, nl, (hTo.mono x11).updL (e11 bl _ g10) nl⟩
      · rw [List.getElem?_append_right (by omega)] at hv
        have hj2 : j - bs.length = 0 := by
          have := (List.getElem?_eq_some_iff.mp hv).1
          simp at this
          omega
        rw [hj2] at hv
        obtain rfl : V.ref tl = v := by simpa using hv
        have : j = i := by omega
        subst this
        exact ⟨tl, rfl, ntb, (hT9.mono (e10.trans e11)).updL (e11 bl _ g10) ntb⟩
    case fin =>
      rintro σ' H1 ⟨v11, v12, v13, v14, v15, bs, rfl, x1, g1, hl, hT⟩
      obtain ⟨u0, u1, rfl⟩ : ∃ u0 u1, bs = [u0, u1] := by
        match bs, hl with
        | [u, v], _ => exact ⟨u, v, rfl⟩
      obtain ⟨tl0, rfl, _, T0⟩ := hT 0 u0 rfl
      obtain ⟨tl1, rfl, _, T1⟩ := hT 1 u1 rfl
      have Tn : ∀ i, Told K c H1 (two tl0 tl1 i) (two fc fg i) t (rowsOf (two zs0 zs1 i)) := fun i => by
        by_cases h0 : i = 0
        · subst h0; exact T0
        · have e : ∀ {α : Type} (x y : α), two x y i = y := fun x y => by unfold two; rw [if_neg h0]
          rw [e, e, e]
          exact T1
      have F1 := F.mono x1
      refine q_newLc (K := K) (a := rl) (xs := [.ref l0, .ref l1]) (fun m => dueD (bookErr t (rowsOf (two zs0 zs1 m)))) (ev_var rfl) (sq_of (x1 rl _ gf)) (by show 2 ≤ 100; decide) (by intro x; rfl) (fun m x H2 e2 hx => ?due) fun dl ys H2 hdl e2 g2 hly hds => ?_
      case due =>
        have hm2 : m < 2 := (List.getElem?_eq_some_iff.mp hx).1
        obtain rfl : V.ref (two l0 l1 m) = x := by rw [two_at hm2] at hx; exact Option.some.inj hx
        intro H3 e3 Q' q'
        have ha : EvA (tCons (tVar 3) (tCons (tVar 20) tNil)) [some (.ref a), some (.ref p), some (.int odd), some (.int (t : Nat)), some (.int ((t : Int) + 1)), some (.ref sl), some (.ref fl), some (.int gr), some (.ref rl), some (.int alike), some (.ref bl), v11, v12, v13, v14, v15, none, none, none, none, some (.ref (two l0 l1 m))] H3 [.int (t : Nat), .ref (two l0 l1 m)] := ea_cons (ev_var rfl) (ea_cons (ev_var rfl) ea_nil)
        exact ha H3 (Ex.refl H3) _ fun H4 e4 => ⟨_, t, two zs0 zs1 m, rfl, t6, (Rn m).2.2, ((Rn m).1.mono (((x1.trans e2).trans e3).trans e4)).at, (Rn m).2.1, fun v H5 e5 hd => q' v H5 (e4.trans e5) (dp_mono (nw_l e4) _ hd)⟩
      obtain ⟨d0, d1, rfl⟩ : ∃ d0 d1, ys = [d0, d1] := by
        match ys, hly with
        | [u, v], _ => exact ⟨u, v, rfl⟩
      have Dn : ∀ i, i < 2 → ([d0, d1] : List V)[i]? = some (two d0 d1 i) ∧ Dp K H2 (two d0 d1 i) (dueD (bookErr t (rowsOf (two zs0 zs1 i)))) := fun i hi => by
        have e : ([d0, d1] : List V)[i]? = some (two d0 d1 i) := by
          rcases (show i = 0 ∨ i = 1 by omega) with rfl | rfl <;> rfl
        exact ⟨e, hds i _ e⟩
      have x2 := x1.trans e2
      have F2 := F.mono x2
      have gb2 := e2 bl _ g1
      have gr2 := x2 rl _ gf
      refine q_forUn (K := K) (xs := [.int 0, .int 1, .int 0]) (eu_tup (ea_cons ev_c (ea_cons ev_c (ea_cons ev_c ea_nil))) (by show 3 ≤ 100000; decide)) (fun q i σ' H' => ∃ v11 v17, σ' = [some (.ref a), some (.ref p), some (.int odd), some (.int (t : Nat)), some (.int ((t : Int) + 1)), some (.ref sl), some (.ref fl), some (.int gr), some (.ref rl), some (.int alike), some (.ref bl), v11, v12, v13, v14, v15, some (.ref dl), v17, none, none, none] ∧ Ex H2 H' ∧ SqT K H' q [.int 0, .int 1, .int 0])
        (fun q H3 hq e3 g3 => ⟨_, _, rfl, e3, st_of g3⟩) (fun q i σ' H' _ z => by obtain ⟨_, _, _, _, s⟩ := z; exact s) ?turn3 ?fin3
      case turn3 =>
        rintro q m u σ' H3 hu ⟨v11, v17, rfl, x3, gq⟩
        obtain ⟨i, rfl, hi⟩ : ∃ i : Nat, u = .int (i : Nat) ∧ i < 2 := by
          match m, hu with
          | 0, hu => exact ⟨0, by simpa using hu.symm, by decide⟩
          | 1, hu => exact ⟨1, by simpa using hu.symm, by decide⟩
          | 2, hu => exact ⟨0, by simpa using hu.symm, by decide⟩
          | n + 3, hu => simp at hu
        obtain ⟨hdi, hDi⟩ := Dn i hi
        refine s_when (b := (bookErr t (rowsOf (two zs0 zs1 i))).isNone) (et_test (ev_eqDD (ed_ev (ev_op (ev_var rfl) (ev_var rfl) (rv_ixL (sq_of (x3 dl _ g2)) (atI_nat hdi))) (dp_mono x3 _ hDi)) (ed_el (el_lst ea_nil (by decide)) .nil) (shaped_due _) (shaped_due none) (due_nil _))) (fun hb H4 e4 => ?_) (fun hb H4 e4 => ⟨_, _, rfl, x3.trans e4, ex_t e4 gq⟩)
        have x4 := x3.trans e4
        rcases Tn i with ⟨hn, b, gb, hB⟩ | ⟨e, q', he, _⟩
        · refine q_asg (v := .ref b) (ev_op (ev_op (ev_var rfl) (ev_var rfl) (rv_ixL (sq_of (x4 bl _ gb2)) (atI_nat (two_at hi)))) ev_c (rv_ixL (sq_of ((e2.trans x4) _ _ gb)) (atI_nat (j := 0) rfl))) fun H5 e5 => ?_
          have x5 := x4.trans e5
          have hlen := (err_ok hn).2
          exact s_when (b := false) (et_is (et_not (et_B (ev_callS (z := .bl true) (ea_cons (ev_var rfl) (ea_cons (ev_op (ev_var rfl) (ev_var rfl) (rv_ixL (sq_of (x5 fl _ F2.fl)) (atI_nat (two_at hi)))) (ea_cons (ev_var rfl) (ea_cons (ev_op (ev_var rfl) (ev_var rfl) (rv_ixL (sq_of (x5 rl _ gr2)) (atI_nat (two_at hi)))) (ea_cons (ev_var rfl) ea_nil))))) fun H6 e6 Q' E' q' => ⟨b, two fc fg i, two l0 l1 i, t, rkT t (two s0 s1 i), two zs0 zs1 i, gr, rfl, t6, (Rn i).2.2, hgr, hB.mono (e2.trans (x5.trans e6)), (Fn i).mono (x2.trans (x5.trans e6)), ((Rn i).1.mono (x2.trans (x5.trans e6))).at, fun z hz => ⟨(Rn i).2.1 z hz, hlen _ (rows_mem hz)⟩, q'⟩))) rfl) (fun hb => Bool.noConfusion hb) fun _ H6 e6 => ⟨_, _, rfl, x5.trans e6, ex_t ((e4.trans e5).trans e6) gq⟩
        · rw [he] at hb; cases hb
      case fin3 =>
        rintro q σ' H3 ⟨v11, v17, rfl, x3, _⟩
        have dz : ∀ {H4 : Hp} (v15 : Option V) (i : Nat), i < 2 → Ex H3 H4 → EvT (tTest (tOp (rEqD K) (tOp (rIxL K) (tVar 16) (tC (.int (i : Nat)))) (tLst tNil))) [some (.ref a), some (.ref p), some (.int odd), some (.int (t : Nat)), some (.int ((t : Int) + 1)), some (.ref sl), some (.ref fl), some (.int gr), some (.ref rl), some (.int alike), some (.ref bl), v11, v12, v13, v14, v15, some (.ref dl), v17, none, none, none] H4 (bookErr t (rowsOf (two zs0 zs1 i))).isNone := fun v15 i hi e => et_test (ev_eqDD (ed_ev (ev_op (ev_var rfl) ev_c (rv_ixL (sq_of (e dl _ (x3 dl _ g2))) (atI_nat (Dn i hi).1))) (dp_mono (x3.trans e) _ (Dn i hi).2)) (ed_el (el_lst ea_nil (by decide)) .nil) (shaped_due _) (shaped_due none) (due_nil _))
        have bk : ∀ {H4 : Hp} (v15 : Option V) (i : Nat) (b : Addr), i < 2 → H1 (two tl0 tl1 i) = some (.lst [.ref b]) → Ex H3 H4 → Ev (tOp (rIxL K) (tOp (rIxL K) (tVar 10) (tC (.int (i : Nat)))) (tC (.int 0))) [some (.ref a), some (.ref p), some (.int odd), some (.int (t : Nat)), some (.int ((t : Int) + 1)), some (.ref sl), some (.ref fl), some (.int gr), some (.ref rl), some (.int alike), some (.ref bl), v11, v12, v13, v14, v15, some (.ref dl), v17, none, none, none] H4 (.ref b) := fun v15 i b hi gb e => ev_op (ev_op (ev_var rfl) ev_c (rv_ixL (sq_of (e bl _ (x3 bl _ gb2))) (atI_nat (two_at hi)))) ev_c (rv_ixL (sq_of ((e2.trans (x3.trans e)) _ _ gb)) (atI_nat (j := 0) rfl))
        refine q_when (b := false) (et_is (et_and (a := (bookErr t (rowsOf (two zs0 zs1 0))).isNone) (b := false) (dz _ 0 (by decide) (Ex.refl H3)) fun ha => ?z17) (Bool.and_false _)) (fun hb => Bool.noConfusion hb) fun _ H4 e4 => ?_
        case z17 =>
          rcases Tn 0 with ⟨hn, b, gb, hB⟩ | ⟨e, q', he, _⟩
          · refine et_is (et_not (et_same (d := .bool false) (ed_bl (ev_op (bk _ 0 b (by decide) gb (Ex.refl H3)) ev_c (fun H5 e5 Q' q' => ?_))) (ed_bl ev_c) trivial)) rfl
            have xx := e2.trans (x3.trans e5)
            obtain ⟨dx, _, _, gB, _⟩ := id hB
            exact ⟨⟨b, dx, _, rfl, xx b _ gB⟩, .inr ⟨0, rfl⟩, b, two fc fg 0, t, rkT t (two s0 s1 0), rowsOf (two zs0 zs1 0), .int 0, rfl, hB.mono xx, (Fn 0).mono (x1.trans xx), .inr ⟨0, rfl, fun H6 e6 => q' H6 e6⟩⟩
          · rw [he] at ha; cases ha
        refine q_when (b := (bookErr t (rowsOf (two zs0 zs1 0))).isNone && (bookErr t (rowsOf (two zs0 zs1 1))).isNone) (et_and (dz _ 0 (by decide) e4) fun _ => dz _ 1 (by decide) e4) (fun hb H5 e5 => ?_) (fun hb H5 e5 => s_ret ev_c fun H6 e6 => h H6 (XX.trans (x2.trans (x3.trans ((e4.trans e5).trans e6)))))
        obtain ⟨hb0, hb1⟩ := Bool.and_eq_true_iff.mp hb
        have e45 := e4.trans e5
        have y5 := x2.trans (x3.trans e45)
        have F5 := F.mono y5
        refine q_asg (v := .bl (decide (s0 = s1) && decide (rowsOf zs0 = rowsOf zs1))) (ev_andV (ev_is (v := .bl (decide (V.int (s0 : Nat) = V.int (s1 : Nat)))) (ev_op (ev_op (ev_var rfl) ev_c (rv_ixL (sq_of F5.sl) (atI_nat (j := 0) rfl))) (ev_op (ev_var rfl) ev_c (rv_ixL (sq_of F5.sl) (atI_nat (j := 1) rfl))) (rv_eq rfl)) (by rw [dint]; congr 1; exact decide_eq_decide.mpr (by omega))) fun _ => ev_op (ev_op (ev_var rfl) ev_c (rv_ixL (sq_of (y5 rl _ gf)) (atI_nat (j := 0) rfl))) (ev_op (ev_var rfl) ev_c (rv_ixL (sq_of (y5 rl _ gf)) (atI_nat (j := 1) rfl))) (rv_eqD (d := rowsD (rowsOf zs0)) (f := rowsD (rowsOf zs1)) (.lst (sq_of (R0.mono y5).1) (dpa_rows (R0.mono y5).2)) (.lst (sq_of (R1.mono y5).1) (dpa_rows (R1.mono y5).2)) (shaped_rows _) (shaped_rows _) (eqv_rowsD _ _))) fun H6 e6 => ?_
        rcases T0 with ⟨hn0, b0, gb0, hB0⟩ | ⟨e, q', he, _⟩
        · rcases T1 with ⟨hn1, b1, gb1, hB1⟩ | ⟨e, q', he, _⟩
          · refine s_ret (ev_same (d := .bool (decide (s0 = s1) && decide (rowsOf zs0 = rowsOf zs1))) (ed_bl (ev_is (v := .bl ((decide ((t : Int) = (t : Int)) && decide (rkT t s0 = rkT t s1)) && decide (rowsOf zs0 = rowsOf zs1))) (ev_op (bk _ 0 b0 (by decide) gb0 (e45.trans e6)) (bk _ 1 b1 (by decide) gb1 (e45.trans e6)) (fun H7 e7 Q' q' => ?_)) ?_)) (ed_bl (ev_var rfl)) trivial) fun H7 e7 => h H7 (XX.trans (y5.trans (e6.trans e7)))
            · have xx := e2.trans (x3.trans ((e45.trans e6).trans e7))
              obtain ⟨dx, _, _, gB, _⟩ := id hB0
              obtain ⟨dy, _, _, gC, _⟩ := id hB1
              exact ⟨⟨b0, dx, _, rfl, xx b0 _ gB⟩, .inl ⟨b1, c.KB, dy, _, rfl, xx b1 _ gC, rfl⟩, b0, fc, t, rkT t s0, rowsOf zs0, .ref b1, rfl, hB0.mono xx, F.fc.mono (x1.trans xx), .inl ⟨b1, fg, t, rkT t s1, rowsOf zs1, rfl, hB1.mono xx, F.fg.mono (x1.trans xx), fun H8 e8 => q' H8 e8⟩⟩
            · rw [rk_same t6 hs0 hs1]; simp
          · rw [show bookErr t (rowsOf (two zs0 zs1 1)) = some e from he] at hb1; cases hb1
        · rw [show bookErr t (rowsOf (two zs0 zs1 0)) = some e from he] at hb0; cases hb0
end
end K4
namespace K4
open PySem PySem.Spec PyProof.Rows L2 Evl Nd
section
variable {P : Program} {w : World} {K : PySem.W.Frag} {mg : Str → Option Value} {base h : Heap}
abbrev i_SizeError : Stmt := clsBody (topS 3) 0
theorem is_SizeError : SupScope ["self", "count"] ["self", "count"] (defScope i_SizeError) := ⟨rfl, rfl, rfl, by decide, rfl, by decide +kernel, by decide +kernel, by decide +kernel, rfl, rfl⟩
theorem ini_SizeError {C fI cda cc : Addr} {oc kV doc pm ct : Value} {od an : Option Addr} {osl : Array (Option Value)} (S : SupC P K C cda cc) (no : PySem.W.findIn K (.ref C) "count" = some none)
    (lk : K.lookup fI = some ⟨oc, od, .func (PySem.W.ksFn "__init__" "SizeError.__init__" (defArgs i_SizeError) (defBody i_SizeError) (defScope i_SizeError) .none kV doc pm an (.ref cda) ct cc), osl⟩) (c1 : PySem.W.codeIn K (.ref cda) "SizeError.__init__" = true) (hms : mg "super" = none) :
    FnOk P w K mg base CX0 1 fI (PySem.W.ksFn "__init__" "SizeError.__init__" (defArgs i_SizeError) (defBody i_SizeError) (defScope i_SizeError) .none kV doc pm an (.ref cda) ct cc) ["self", "count"] (spIni C (fs1 "count")) := by
  refine fn_sup (k := 0) (pl := (do return (some false : Option Bool).getD true)) (ps := ["self", "count"]) is_SizeError S lk c1 rfl rfl hms (fun vs H Q E h => ?len) (fun vs H Q E h => ?self) (fun env h => ?he) (fun env h => ?hi) (fun env h => ?hs) (fun A outer s H vs Q E hr h => ?body)
  case len =>
    obtain ⟨x, ws, fv, rfl, hf, _⟩ := h
    match ws, hf with
    | [_], _ => rfl
  case self =>
    obtain ⟨x, ws, fv, rfl, hf, hx, _⟩ := h
    exact ⟨x, ws, rfl, hx⟩
  case he => rfl
  case hi => first | rfl | (unfold PySem.interactive; rw [h]; rfl)
  case hs => rfl
  case body =>
    obtain ⟨x, ws, fv, rfl, hf, hx, q⟩ := h
    match ws, hf with
    | [v], hf =>
      obtain rfl := Option.some.inj hf
      exact ⟨_, pss_one (ps_ost (pv 0) (pv 1)), _, rfl, _, rfl, x, C, rfl, S.ox, no, .inl ⟨hx, fun dx h1 h2 => q dx h1 h2⟩⟩
theorem errT_SizeError {C : Addr} (E : ErrS P K mg "SizeError" "count" C i_SizeError "SizeError.__init__") (hms : mg "super" = none) : ErrT P w K mg base "SizeError" "count" C := by
  obtain ⟨fI, cda, cc, oc, kV, doc, pm, ct, od, an, osl, S, lk, c1, iC, tI⟩ := E.ini
  exact ⟨⟨fI, _, ⟨S.ox, iC, tI, ini_SizeError S E.no lk c1 hms, .all (fun us hl => match us, hl with | [_, _], _ => rfl), E.g⟩⟩, E.is, E.xf, E.no, E.g⟩
abbrev i_NumberError : Stmt := clsBody (topS 4) 0
theorem is_NumberError : SupScope ["self", "number"] ["self", "number"] (defScope i_NumberError) := ⟨rfl, rfl, rfl, by decide, rfl, by decide +kernel, by decide +kernel, by decide +kernel, rfl, rfl⟩
theorem ini_NumberError {C fI cda cc : Addr} {oc kV doc pm ct : Value} {od an : Option Addr} {osl : Array (Option Value)} (S : SupC P K C cda cc) (no : PySem.W.findIn K (.ref C) "number" = some none)
    (lk : K.lookup fI = some ⟨oc, od, .func (PySem.W.ksFn "__init__" "NumberError.__init__" (defArgs i_NumberError) (defBody i_NumberError) (defScope i_NumberError) .none kV doc pm an (.ref cda) ct cc), osl⟩) (c1 : PySem.W.codeIn K (.ref cda) "NumberError.__init__" = true) (hms : mg "super" = none) :
    FnOk P w K mg base CX0 1 fI (PySem.W.ksFn "__init__" "NumberError.__init__" (defArgs i_NumberError) (defBody i_NumberError) (defScope i_NumberError) .none kV doc pm an (.ref cda) ct cc) ["self", "number"] (spIni C (fs1 "number")) := by
  refine fn_sup (k := 0) (pl := (do return (some false : Option Bool).getD true)) (ps := ["self", "number"]) is_NumberError S lk c1 rfl rfl hms (fun vs H Q E h => ?len) (fun vs H Q E h => ?self) (fun env h => ?he) (fun env h => ?hi) (fun env h => ?hs) (fun A outer s H vs Q E hr h => ?body)
  case len =>
    obtain ⟨x, ws, fv, rfl, hf, _⟩ := h
    match ws, hf with
    | [_], _ => rfl
  case self =>
    obtain ⟨x, ws, fv, rfl, hf, hx, _⟩ := h
    exact ⟨x, ws, rfl, hx⟩
  case he => rfl
  case hi => first | rfl | (unfold PySem.interactive; rw [h]; rfl)
  case hs => rfl
  case body =>
    obtain ⟨x, ws, fv, rfl, hf, hx, q⟩ := h
    match ws, hf with
    | [v], hf =>
      obtain rfl := Option.some.inj hf
      exact ⟨_, pss_one (ps_ost (pv 0) (pv 1)), _, rfl, _, rfl, x, C, rfl, S.ox, no, .inl ⟨hx, fun dx h1 h2 => q dx h1 h2⟩⟩
theorem errT_NumberError {C : Addr} (E : ErrS P K mg "NumberError" "number" C i_NumberError "NumberError.__init__") (hms : mg "super" = none) : ErrT P w K mg base "NumberError" "number" C := by
  obtain ⟨fI, cda, cc, oc, kV, doc, pm, ct, od, an, osl, S, lk, c1, iC, tI⟩ := E.ini
  exact ⟨⟨fI, _, ⟨S.ox, iC, tI, ini_NumberError S E.no lk c1 hms, .all (fun us hl => match us, hl with | [_, _], _ => rfl), E.g⟩⟩, E.is, E.xf, E.no, E.g⟩
abbrev i_WishError : Stmt := clsBody (topS 6) 0
theorem is_WishError : SupScope ["self", "at"] ["self", "at"] (defScope i_WishError) := ⟨rfl, rfl, rfl, by decide, rfl, by decide +kernel, by decide +kernel, by decide +kernel, rfl, rfl⟩
theorem ini_WishError {C fI cda cc : Addr} {oc kV doc pm ct : Value} {od an : Option Addr} {osl : Array (Option Value)} (S : SupC P K C cda cc) (no : PySem.W.findIn K (.ref C) "at" = some none)
    (lk : K.lookup fI = some ⟨oc, od, .func (PySem.W.ksFn "__init__" "WishError.__init__" (defArgs i_WishError) (defBody i_WishError) (defScope i_WishError) .none kV doc pm an (.ref cda) ct cc), osl⟩) (c1 : PySem.W.codeIn K (.ref cda) "WishError.__init__" = true) (hms : mg "super" = none) :
    FnOk P w K mg base CX0 1 fI (PySem.W.ksFn "__init__" "WishError.__init__" (defArgs i_WishError) (defBody i_WishError) (defScope i_WishError) .none kV doc pm an (.ref cda) ct cc) ["self", "at"] (spIni C (fs1 "at")) := by
  refine fn_sup (k := 0) (pl := (do return (some false : Option Bool).getD true)) (ps := ["self", "at"]) is_WishError S lk c1 rfl rfl hms (fun vs H Q E h => ?len) (fun vs H Q E h => ?self) (fun env h => ?he) (fun env h => ?hi) (fun env h => ?hs) (fun A outer s H vs Q E hr h => ?body)
  case len =>
    obtain ⟨x, ws, fv, rfl, hf, _⟩ := h
    match ws, hf with
    | [_], _ => rfl
  case self =>
    obtain ⟨x, ws, fv, rfl, hf, hx, _⟩ := h
    exact ⟨x, ws, rfl, hx⟩
  case he => rfl
  case hi => first | rfl | (unfold PySem.interactive; rw [h]; rfl)
  case hs => rfl
  case body =>
    obtain ⟨x, ws, fv, rfl, hf, hx, q⟩ := h
    match ws, hf with
    | [v], hf =>
      obtain rfl := Option.some.inj hf
      exact ⟨_, pss_one (ps_ost (pv 0) (pv 1)), _, rfl, _, rfl, x, C, rfl, S.ox, no, .inl ⟨hx, fun dx h1 h2 => q dx h1 h2⟩⟩
theorem errT_WishError {C : Addr} (E : ErrS P K mg "WishError" "at" C i_WishError "WishError.__init__") (hms : mg "super" = none) : ErrT P w K mg base "WishError" "at" C := by
  obtain ⟨fI, cda, cc, oc, kV, doc, pm, ct, od, an, osl, S, lk, c1, iC, tI⟩ := E.ini
  exact ⟨⟨fI, _, ⟨S.ox, iC, tI, ini_WishError S E.no lk c1 hms, .all (fun us hl => match us, hl with | [_, _], _ => rfl), E.g⟩⟩, E.is, E.xf, E.no, E.g⟩
/-- the __init__ of a class -/
structure InitF (K : PySem.W.Frag) (C : Addr) (qual : Str) (st : Stmt) (ps : List Str) : Prop where
  ex : ∃ f fd, Fun K "__init__" qual st f fd ∧ Mk K C f ∧ Binds K fd ps []
/-- .. called by the class -/
structure PlnF (K : PySem.W.Frag) (C : Addr) (m qual : Str) (st : Stmt) (ps : List Str) : Prop where
  ex : ∃ f fd mc, Fun K m qual st f fd ∧ PlnM K C mc m f ∧ Binds K fd ps []
structure EqF (K : PySem.W.Frag) (C : Addr) (qual : Str) (st : Stmt) : Prop where
  ex : ∃ f fd, Fun K "__eq__" qual st f fd ∧ (PySem.W.findIn K (.ref C) "__eq__" = some (some (.ref f)) ∧ PySem.W.isFn K (.ref f) = true) ∧ Binds K fd ["self", "other"] []
structure WishF (K : PySem.W.Frag) (C : Addr) : Prop where
  ex : ∃ f fd, FunD K "__init__" "Wish.__init__" (defArgs s_Wish_init) (defBody s_Wish_init) (defScope s_Wish_init) [] [("most", .non), ("least", .non)] f fd ∧ Mk K C f
section
variable {f : Addr} {fd : FuncData} (F : FunD K "__init__" "Wish.__init__" (defArgs s_Wish_init) (defBody s_Wish_init) (defScope s_Wish_init) [] [("most", .non), ("least", .non)] f fd)
include F
theorem kb_m : ∃ g, KBn K fd ["self", "weights", "most", "least"] (1 + 1) ["most"] g (fun vs zs => vs ++ zs ++ [.non]) := by
  obtain ⟨mv, h⟩ := F.kbinds0 (ps := ["self", "weights", "most", "least"]) 2 ["most"] [("least", .non)] (fun vs mz zs => vs ++ zs ++ mz) (by simp) (by simp) (fun r1 r2 r3 => (r1.append r3).append r2) (fun D doc pm an cdv ct us mv ws h1 h2 h3 => by
    match us, mv, ws, h1, h2, h3 with
    | [_, _], [_], [_], _, _, _ => exact ⟨_, _, _, _, _, _, rfl, rfl, rfl⟩)
  exact ⟨_, h⟩
theorem kb_l : ∃ g, KBn K fd ["self", "weights", "most", "least"] (1 + 1) ["least"] g (fun vs zs => vs ++ [.non] ++ zs) := by
  obtain ⟨mv, h⟩ := F.kbinds0 (ps := ["self", "weights", "most", "least"]) 2 ["least"] [("most", .non)] (fun vs mz zs => vs ++ mz ++ zs) (by simp) (by simp) (fun r1 r2 r3 => (r1.append r2).append r3) (fun D doc pm an cdv ct us mv ws h1 h2 h3 => by
    match us, mv, ws, h1, h2, h3 with
    | [_, _], [_], [_], _, _, _ => exact ⟨_, _, _, _, _, _, rfl, rfl, rfl⟩)
  exact ⟨_, h⟩
theorem kb_b : ∃ g, KBn K fd ["self", "weights", "most", "least"] (1 + 1) ["most", "least"] g (fun vs zs => vs ++ zs) := by
  obtain ⟨mv, h⟩ := F.kbinds0 (ps := ["self", "weights", "most", "least"]) 2 ["most", "least"] [] (fun vs mz zs => vs ++ zs) (by simp) (fun q hq => by cases hq) (fun r1 r2 r3 => r1.append r3) (fun D doc pm an cdv ct us mv ws h1 h2 h3 => by
    match us, mv, ws, h1, h2, h3 with
    | [_, _], [], [_, _], _, _, _ => rfl)
  exact ⟨_, h⟩
end
structure Facts (P : Program) (K : PySem.W.Frag) (mg : Str → Option Value) (c : Ad) : Prop where
  d_look_size : DefAt K mg "look_size" s_look_size ["count", "least", "most"]
  d_look_number : DefAt K mg "look_number" s_look_number ["number", "least", "most"]
  d_look_numbers : DefAt K mg "look_numbers" s_look_numbers ["numbers", "least", "most"]
  d_look_things : DefAt K mg "look_things" s_look_things ["things"]
  d_mask_of : DefAt K mg "mask_of" s_mask_of ["lot"]
  d_sums_of_masks : DefAt K mg "sums_of_masks" s_sums_of_masks ["entries"]
  d_sizes_of_masks : DefAt K mg "sizes_of_masks" s_sizes_of_masks ["things"]
  d_look_wish : DefAt K mg "look_wish" s_look_wish ["book", "at"]
  d__depth_of : DefAt K mg "_depth_of" s__depth_of ["things", "wishes"]
  d__kind_of : DefAt K mg "_kind_of" s__kind_of ["wishes"]
  d_ranks_of_free : DefAt K mg "ranks_of_free" s_ranks_of_free ["things", "free"]
  d_ranks_under_rooms : DefAt K mg "ranks_under_rooms" s_ranks_under_rooms ["things", "rooms"]
  d__parts_of : DefAt K mg "_parts_of" s__parts_of ["mask", "things"]
  d__law_digits : DefAt K mg "_law_digits" s__law_digits ["script"]
  d__law_take : DefAt K mg "_law_take" s__law_take ["tape", "many"]
  d__law_two : DefAt K mg "_law_two" s__law_two ["tape", "many"]
  d__law_same : DefAt K mg "_law_same" s__law_same ["actual", "due"]
  d__law_refusals : DefAt K mg "_law_refusals" s__law_refusals ["error"]
  d__law_make_wish : DefAt K mg "_law_make_wish" s__law_make_wish ["row"]
  d__law_depth : DefAt K mg "_law_depth" s__law_depth ["things", "rows"]
  d__law_book_kind : DefAt K mg "_law_book_kind" s__law_book_kind ["rows"]
  d__law_slack : DefAt K mg "_law_slack" s__law_slack ["things", "rows", "at"]
  d__law_draw_row : DefAt K mg "_law_draw_row" s__law_draw_row ["tape", "size", "at", "mode"]
  d__law_draw_rows : DefAt K mg "_law_draw_rows" s__law_draw_rows ["tape", "things", "odd"]
  d__law_book_due : DefAt K mg "_law_book_due" s__law_book_due ["things", "rows"]
  d__law_make : DefAt K mg "_law_make" s__law_make ["family", "wishes"]
  d__law_ask : DefAt K mg "_law_ask" s__law_ask ["book", "at"]
  d__law_right : DefAt K mg "_law_right" s__law_right ["book", "family", "things", "rows", "great"]
  ini_Choice : InitF K c.KC "Choice.__init__" s_Choice_init ["self", "things", "take"]
  ini_Groups : InitF K c.KG "Groups.__init__" s_Groups_init ["self", "groups", "takes"]
  ini_Book : InitF K c.KB "Book.__init__" s_Book_init ["self", "family", "wishes"]
  pln : PlnF K c.KF "__init__" "Family.__init__" s_Family_init ["self", "things", "ranks", "nodes"]
  eq_FeqC : EqF K c.KC "Family.__eq__" s_Family_eq
  eq_FeqG : EqF K c.KG "Family.__eq__" s_Family_eq
  eq_Weq : EqF K c.KW "Wish.__eq__" s_Wish_eq
  eq_Beq : EqF K c.KB "Book.__eq__" s_Book_eq
  m_rooms : MethAt K c.KG "_rooms" "Groups._rooms" s_Groups_rooms ["self"]
  m_slack : MethAt K c.KB "slack" "Book.slack" s_Book_slack ["self", "at"]
  wish : WishF K c.KW
  z_len : mg "len" = none
  z_sum : mg "sum" = none
  z_min : mg "min" = none
  z_max : mg "max" = none
  z_abs : mg "abs" = none
  z_isinstance : mg "isinstance" = none
  z_tuple : mg "tuple" = none
  z_list : mg "list" = none
  z_bool : mg "bool" = none
  z_int : mg "int" = none
  z_str : mg "str" = none
  z_range : mg "range" = none
  z_all : mg "all" = none
  z_enumerate : mg "enumerate" = none
  z_reversed : mg "reversed" = none
  z_super : mg "super" = none
  c__MOST_THINGS : ∃ u, mg "_MOST_THINGS" = some u ∧ RelV (.int 10) u
  c_MOST_WISHES : ∃ u, mg "MOST_WISHES" = some u ∧ RelV (.int 5) u
  c__MOST : ∃ u, mg "_MOST" = some u ∧ RelV (.int 10) u
  c__MOST_WEIGHTS : ∃ u, mg "_MOST_WEIGHTS" = some u ∧ RelV (.int 10) u
  c__MOST_WEIGHT : ∃ u, mg "_MOST_WEIGHT" = some u ∧ RelV (.int 20) u
  c__MOST_NUMBER : ∃ u, mg "_MOST_NUMBER" = some u ∧ RelV (.int 1000) u
  g_NodearerError : mg "NodearerError" = some (.ref c.CO)
  g_Book : mg "Book" = some (.ref c.KB)
  g_Family : mg "Family" = some (.ref c.KF)
  g_Choice : mg "Choice" = some (.ref c.KC)
  g_Groups : mg "Groups" = some (.ref c.KG)
  g_Wish : mg "Wish" = some (.ref c.KW)
  s_SizeError : ErrS P K mg "SizeError" "count" c.CS i_SizeError "SizeError.__init__"
  s_NumberError : ErrS P K mg "NumberError" "number" c.CN i_NumberError "NumberError.__init__"
  s_WishError : ErrS P K mg "WishError" "at" c.CW i_WishError "WishError.__init__"
  cB : Cls K c.KB
  cC : Cls K c.KC
  cG : Cls K c.KG
  cW : Cls K c.KW
  nB : ∀ f ∈ (["family", "wishes", "deep", "kind"] : List Str), NoAttr K c.KB f
  nC : ∀ f ∈ (["take", "things", "ranks", "full", "nodes"] : List Str), NoAttr K c.KC f
  nG : ∀ f ∈ (["groups", "takes", "things", "ranks", "full", "nodes"] : List Str), NoAttr K c.KG f
  nW : ∀ f ∈ (["weights", "most", "least", "greatest", "plain", "lot"] : List Str), NoAttr K c.KW f
  nfF : ∀ C D, (C = c.KC ∨ C = c.KG) → (D = c.KC ∨ D = c.KG) → PySem.W.notFirst K C (.ref D) = true
  nfB : PySem.W.notFirst K c.KB (.ref c.KB) = true
  nfI : ∀ C, (C = c.KC ∨ C = c.KG ∨ C = c.KW ∨ C = c.KB) → PySem.W.notFirst K C (.type "int") = true
  xSO : PySem.W.exmOne K (.ref c.CS) (.ref c.CO) = some true
  xWO : PySem.W.exmOne K (.ref c.CW) (.ref c.CO) = some true
  kSS : PySem.W.kitOne K (.ref c.CS) (.ref c.CS) = some true
  kSW : PySem.W.kitOne K (.ref c.CS) (.ref c.CW) = some false
  kWS : PySem.W.kitOne K (.ref c.CW) (.ref c.CS) = some false
  kEE : PySem.W.kitOne K (.ref c.CW) (.ref c.CW) = some true
  kCF : PySem.W.kitOne K (.ref c.KC) (.ref c.KF) = some true
  kGF : PySem.W.kitOne K (.ref c.KG) (.ref c.KF) = some true
  kWW : PySem.W.kitOne K (.ref c.KW) (.ref c.KW) = some true
  kBB : PySem.W.kitOne K (.ref c.KB) (.ref c.KB) = some true
  kIB : PySem.W.kitOne K (.type "int") (.ref c.KB) = some false
  tyC : ∀ C, (C = c.KC ∨ C = c.KG ∨ C = c.KW ∨ C = c.KB) → PySem.W.findIn K (.ref C) "__class__" = some (some (.builtin "object.__class__"))
  tyG : PySem.W.specialIn K (.builtin "object.__class__") "__get__" = some (some (.builtin "getset_descriptor.__get__"))
  tyT : PySem.W.takesIn K (.builtin "object.__class__") = some true
  tyM : ∀ C, (C = c.KC ∨ C = c.KG ∨ C = c.KW ∨ C = c.KB) → PySem.W.mroIn K C (.type "object") = some true
theorem Facts.tx {c : Ad} (F : Facts P K mg c) : Tx P w K mg base c where
  z_len := F.z_len
  z_sum := F.z_sum
  z_min := F.z_min
  z_max := F.z_max
  z_abs := F.z_abs
  z_isinstance := F.z_isinstance
  z_tuple := F.z_tuple
  z_list := F.z_list
  z_bool := F.z_bool
  z_int := F.z_int
  z_str := F.z_str
  z_range := F.z_range
  z_all := F.z_all
  z_enumerate := F.z_enumerate
  z_reversed := F.z_reversed
  c__MOST_THINGS := F.c__MOST_THINGS
  c_MOST_WISHES := F.c_MOST_WISHES
  c__MOST := F.c__MOST
  c__MOST_WEIGHTS := F.c__MOST_WEIGHTS
  c__MOST_WEIGHT := F.c__MOST_WEIGHT
  c__MOST_NUMBER := F.c__MOST_NUMBER
  e_NodearerError := ⟨F.g_NodearerError⟩
  e_Book := ⟨F.g_Book⟩
  e_Family := ⟨F.g_Family⟩
  e_Choice := ⟨F.g_Choice⟩
  e_Groups := ⟨F.g_Groups⟩
  e_Wish := ⟨F.g_Wish⟩
  e_SizeError := errT_SizeError F.s_SizeError F.z_super
  e_NumberError := errT_NumberError F.s_NumberError F.z_super
  e_WishError := errT_WishError F.s_WishError F.z_super
  cB := F.cB
  cC := F.cC
  cG := F.cG
  cW := F.cW
  nB := F.nB
  nC := F.nC
  nG := F.nG
  nW := F.nW
  nfF := F.nfF
  nfB := F.nfB
  nfI := F.nfI
  xSO := F.xSO
  xWO := F.xWO
  kSS := F.kSS
  kSW := F.kSW
  kWS := F.kWS
  kEE := F.kEE
  kCF := F.kCF
  kGF := F.kGF
  kWW := F.kWW
  kBB := F.kBB
  kIB := F.kIB
  tyC := F.tyC
  tyG := F.tyG
  tyT := F.tyT
  tyM := F.tyM
theorem law_fn {c : Ad} (F : Facts P K mg c) {fL : Addr} {fdL : FuncData} (FL : Fun K "law" "law" s_law fL fdL) : FnOk P w K mg base (L2.CX P w) 32 fL fdL ["script"] (spLaw K) := by
  have T : Tx P w K mg base c := F.tx
  have H__law_book_kind := has__law_book_kind T  F.d__law_book_kind
  have H__law_book_due := has__law_book_due T H__law_book_kind F.d__law_book_due
  have H__law_digits := has__law_digits T  F.d__law_digits
  have H__law_take := has__law_take T  F.d__law_take
  have H__law_two := has__law_two T H__law_take F.d__law_two
  have H__law_draw_row := has__law_draw_row T H__law_take H__law_two F.d__law_draw_row
  have H__law_draw_rows := has__law_draw_rows T H__law_draw_row H__law_take F.d__law_draw_rows
  have H__law_refusals := has__law_refusals T  F.d__law_refusals
  have H__depth_of := has__depth_of T  F.d__depth_of
  have H__kind_of := has__kind_of T  F.d__kind_of
  have H_look_size := has_look_size T  F.d_look_size
  obtain ⟨fiBook, fdiBook, FDBook, MBook, BBook⟩ := F.ini_Book.ex
  have H_mkBook : MakC P w K mg base 8 c.KB "Book" ["self", "family", "wishes"] (spBkI K c) := ⟨⟨fiBook, fdiBook, ok_Book_init T H__depth_of H__kind_of H_look_size FDBook, MBook, BBook⟩, F.g_Book⟩
  have H__law_make := has__law_make T H__law_refusals H_mkBook F.d__law_make
  have H_look_number := has_look_number T  F.d_look_number
  have H_look_numbers := has_look_numbers T H_look_number F.d_look_numbers
  obtain ⟨fiW, fdiW, FDW, MW⟩ := F.wish.ex
  obtain ⟨gWm, BWm⟩ := kb_m FDW
  have H_Wm : MakK P w K mg base 8 c.KW "Wish" ["self", "weights", "most", "least"] 1 ["most"] (fun vs zs => vs ++ zs ++ [.non]) (spWiI K c) := ⟨⟨fiW, fdiW, gWm, ok_Wish_init T H_look_number H_look_numbers H_look_size FDW, MW, BWm⟩, F.g_Wish⟩
  obtain ⟨gWl, BWl⟩ := kb_l FDW
  have H_Wl : MakK P w K mg base 8 c.KW "Wish" ["self", "weights", "most", "least"] 1 ["least"] (fun vs zs => vs ++ [.non] ++ zs) (spWiI K c) := ⟨⟨fiW, fdiW, gWl, ok_Wish_init T H_look_number H_look_numbers H_look_size FDW, MW, BWl⟩, F.g_Wish⟩
  obtain ⟨gWb, BWb⟩ := kb_b FDW
  have H_Wb : MakK P w K mg base 8 c.KW "Wish" ["self", "weights", "most", "least"] 1 ["most", "least"] (fun vs zs => vs ++ zs) (spWiI K c) := ⟨⟨fiW, fdiW, gWb, ok_Wish_init T H_look_number H_look_numbers H_look_size FDW, MW, BWb⟩, F.g_Wish⟩
  have H__law_make_wish := has__law_make_wish T H_Wb H_Wl H_Wm F.d__law_make_wish
  have H_look_wish := has_look_wish T  F.d_look_wish
  obtain ⟨fmslack, fdmslack, FMslack, MMslack, BMslack⟩ := F.m_slack.ex
  have H_Book_slack : HasM P w K mg base 8 c.KB "slack" ["self", "at"] (spSl K c) := ⟨⟨fmslack, fdmslack, ok_Book_slack T H_look_wish FMslack, MMslack, BMslack⟩⟩
  have H__law_ask := has__law_ask T H__law_refusals H_Book_slack F.d__law_ask
  have H__law_depth := has__law_depth T  F.d__law_depth
  have H__law_same := has__law_same T F.d__law_same
  have H__law_slack := has__law_slack T H__law_book_kind H__law_depth F.d__law_slack
  obtain ⟨feFeqC, fdeFeqC, FEFeqC, AFeqC, BFeqC⟩ := F.eq_FeqC.ex
  have H_FeqC : HasF P w K mg base 3 c.KC "__eq__" ["self", "other"] (spFamE K c) := ⟨⟨feFeqC, fdeFeqC, ok_Family_eq T  FEFeqC, AFeqC, BFeqC⟩⟩
  obtain ⟨feFeqG, fdeFeqG, FEFeqG, AFeqG, BFeqG⟩ := F.eq_FeqG.ex
  have H_FeqG : HasF P w K mg base 3 c.KG "__eq__" ["self", "other"] (spFamE K c) := ⟨⟨feFeqG, fdeFeqG, ok_Family_eq T  FEFeqG, AFeqG, BFeqG⟩⟩
  have H__law_right := has__law_right T H__law_ask H__law_book_kind H__law_depth H__law_same H__law_slack H_FeqC H_FeqG F.d__law_right
  obtain ⟨feWeq, fdeWeq, FEWeq, AWeq, BWeq⟩ := F.eq_Weq.ex
  have H_Weq : HasF P w K mg base 4 c.KW "__eq__" ["self", "other"] (spWiE K c) := ⟨⟨feWeq, fdeWeq, ok_Wish_eq T  FEWeq, AWeq, BWeq⟩⟩
  obtain ⟨feBeq, fdeBeq, FEBeq, ABeq, BBeq⟩ := F.eq_Beq.ex
  have H_Beq : HasF P w K mg base 10 c.KB "__eq__" ["self", "other"] (spBkE K c) := ⟨⟨feBeq, fdeBeq, ok_Book_eq T H_FeqC H_FeqG H_Weq FEBeq, ABeq, BBeq⟩⟩
  have H_look_things := has_look_things T H_look_number F.d_look_things
  have H_sums_of_masks := has_sums_of_masks T  F.d_sums_of_masks
  have H_sizes_of_masks := has_sizes_of_masks T H_sums_of_masks F.d_sizes_of_masks
  obtain ⟨fi1, fdi1, mc1, FD1, PM1, B1⟩ := F.pln.ex
  have H_FI : HasP P w K mg base 3 c.KF "__init__" ["self", "things", "ranks", "nodes"] (spFamI K c) := ⟨⟨fi1, fdi1, mc1, ok_Family_init T FD1, PM1, B1⟩⟩
  obtain ⟨fiChoice, fdiChoice, FDChoice, MChoice, BChoice⟩ := F.ini_Choice.ex
  have H_mkChoice : MakC P w K mg base 8 c.KC "Choice" ["self", "things", "take"] (spChI c) := ⟨⟨fiChoice, fdiChoice, ok_Choice_init T H_look_number H_look_things H_sizes_of_masks H_FI FDChoice, MChoice, BChoice⟩, F.g_Choice⟩
  have H_mask_of := has_mask_of T  F.d_mask_of
  have H__parts_of := has__parts_of T  F.d__parts_of
  have H_ranks_of_free := has_ranks_of_free T H__parts_of H_sizes_of_masks F.d_ranks_of_free
  have H_ranks_under_rooms := has_ranks_under_rooms T H_mask_of H_ranks_of_free H_sizes_of_masks F.d_ranks_under_rooms
  obtain ⟨fmrooms, fdmrooms, FMrooms, MMrooms, BMrooms⟩ := F.m_rooms.ex
  have H_Groups_rooms : HasM P w K mg base 3 c.KG "_rooms" ["self"] (spRooms K c) := ⟨⟨fmrooms, fdmrooms, ok_Groups_rooms T  FMrooms, MMrooms, BMrooms⟩⟩
  obtain ⟨fiGroups, fdiGroups, FDGroups, MGroups, BGroups⟩ := F.ini_Groups.ex
  have H_mkGroups : MakC P w K mg base 12 c.KG "Groups" ["self", "groups", "takes"] (spGrI K c) := ⟨⟨fiGroups, fdiGroups, ok_Groups_init T H_look_numbers H_look_size H_ranks_under_rooms H_FI H_Groups_rooms FDGroups, MGroups, BGroups⟩, F.g_Groups⟩
  exact ok_law T H__law_book_due H__law_digits H__law_draw_rows H__law_make H__law_make_wish H__law_right H__law_same H__law_take H__law_two H_Beq H_mkChoice H_mkGroups FL
end
end K4
namespace K4
open PySem PySem.Spec PyProof.Rows L2 Evl Nd
section
variable {P : Program} {K : PySem.W.Frag} {mg : Str → Option Value} {h : Heap}
theorem fun_at {m qual : Str} {st : Stmt} {ps : List Str} {f : Addr} {oc : Value} {od an : Option Addr} {osl : Array (Option Value)} {kV doc pm cdv ct : Value}
    (l : K.lookup f = some ⟨oc, od, .func (PySem.W.fnOf m qual (defArgs st) (defBody st) (defScope st) .none kV doc pm an cdv ct), osl⟩) (c : PySem.W.codeIn K cdv qual = true) (k : PySem.W.keepIn K (.ref f) = true)
    (b : ∀ (kV doc pm : Value) (an : Option Addr) (cdv ct : Value) (us : List Value), us.length = ps.length → bindArgs (PySem.W.fnOf m qual (defArgs st) (defBody st) (defScope st) .none kV doc pm an cdv ct) ⟨us, []⟩ = pure (ps.zip us)) : ∃ fd, Fun K m qual st f fd ∧ Binds K fd ps [] :=
  ⟨_, fun_mk l c k, (fun_mk (st := st) l c k).binds b⟩
theorem meth_at {m qual : Str} {st : Stmt} {ps : List Str} {C f : Addr} {oc : Value} {od an : Option Addr} {osl : Array (Option Value)} {kV doc pm cdv ct : Value} (a : PySem.W.findIn K (.ref C) m = some (some (.ref f)))
    (l : K.lookup f = some ⟨oc, od, .func (PySem.W.fnOf m qual (defArgs st) (defBody st) (defScope st) .none kV doc pm an cdv ct), osl⟩) (c : PySem.W.codeIn K cdv qual = true) (k : PySem.W.keepIn K (.ref f) = true) (n : PySem.W.isFn K (.ref f) = true)
    (b : ∀ (kV doc pm : Value) (an : Option Addr) (cdv ct : Value) (us : List Value), us.length = ps.length → bindArgs (PySem.W.fnOf m qual (defArgs st) (defBody st) (defScope st) .none kV doc pm an cdv ct) ⟨us, []⟩ = pure (ps.zip us)) : MethAt K C m qual st ps :=
  ⟨f, _, fun_mk l c k, ⟨a, n, k⟩, (fun_mk (st := st) l c k).binds b⟩
theorem eq_at {qual : Str} {st : Stmt} {C f : Addr} {oc : Value} {od an : Option Addr} {osl : Array (Option Value)} {kV doc pm cdv ct : Value} (a : PySem.W.findIn K (.ref C) "__eq__" = some (some (.ref f)))
    (l : K.lookup f = some ⟨oc, od, .func (PySem.W.fnOf "__eq__" qual (defArgs st) (defBody st) (defScope st) .none kV doc pm an cdv ct), osl⟩) (c : PySem.W.codeIn K cdv qual = true) (k : PySem.W.keepIn K (.ref f) = true) (n : PySem.W.isFn K (.ref f) = true)
    (b : ∀ (kV doc pm : Value) (an : Option Addr) (cdv ct : Value) (us : List Value), us.length = 2 → bindArgs (PySem.W.fnOf "__eq__" qual (defArgs st) (defBody st) (defScope st) .none kV doc pm an cdv ct) ⟨us, []⟩ = pure ((["self", "other"] : List Str).zip us)) : EqF K C qual st :=
  ⟨f, _, fun_mk l c k, ⟨a, n⟩, (fun_mk (st := st) l c k).binds b⟩
theorem init_at {qual : Str} {st : Stmt} {ps : List Str} {C f : Addr} {oc : Value} {od an : Option Addr} {osl : Array (Option Value)} {kV doc pm cdv ct : Value} (mk : PySem.W.makesIn K C = true) (a : PySem.W.findIn K (.ref C) "__init__" = some (some (.ref f)))
    (n : PySem.W.isFn K (.ref f) = true) (kC : PySem.W.keepIn K (.ref C) = true) (l : K.lookup f = some ⟨oc, od, .func (PySem.W.fnOf "__init__" qual (defArgs st) (defBody st) (defScope st) .none kV doc pm an cdv ct), osl⟩) (c : PySem.W.codeIn K cdv qual = true) (k : PySem.W.keepIn K (.ref f) = true)
    (b : ∀ (kV doc pm : Value) (an : Option Addr) (cdv ct : Value) (us : List Value), us.length = ps.length → bindArgs (PySem.W.fnOf "__init__" qual (defArgs st) (defBody st) (defScope st) .none kV doc pm an cdv ct) ⟨us, []⟩ = pure (ps.zip us)) : InitF K C qual st ps :=
  ⟨f, _, fun_mk l c k, ⟨mk, a, n, kC⟩, (fun_mk (st := st) l c k).binds b⟩
theorem pln_at {m qual : Str} {st : Stmt} {ps : List Str} {C f : Addr} {mc : Value} {oc : Value} {od an : Option Addr} {osl : Array (Option Value)} {kV doc pm cdv ct : Value} (rd : PySem.W.readsIn K C mc = true) (ga : PySem.W.specialIn K (.ref C) "__getattribute__" = some (some (.builtin "type.__getattribute__")))
    (a : PySem.W.findCls K (.ref C) mc m = some (.val (.ref f))) (l : K.lookup f = some ⟨oc, od, .func (PySem.W.fnOf m qual (defArgs st) (defBody st) (defScope st) .none kV doc pm an cdv ct), osl⟩) (c : PySem.W.codeIn K cdv qual = true) (k : PySem.W.keepIn K (.ref f) = true)
    (b : ∀ (kV doc pm : Value) (an : Option Addr) (cdv ct : Value) (us : List Value), us.length = ps.length → bindArgs (PySem.W.fnOf m qual (defArgs st) (defBody st) (defScope st) .none kV doc pm an cdv ct) ⟨us, []⟩ = pure (ps.zip us)) : PlnF K C m qual st ps :=
  ⟨f, _, mc, fun_mk l c k, ⟨⟨rd, ga⟩, a, k⟩, (fun_mk (st := st) l c k).binds b⟩
theorem wish_at {C f D : Addr} {oc : Value} {od an : Option Addr} {osl : Array (Option Value)} {doc pm cdv ct : Value} (mk : PySem.W.makesIn K C = true) (a : PySem.W.findIn K (.ref C) "__init__" = some (some (.ref f)))
    (n : PySem.W.isFn K (.ref f) = true) (kC : PySem.W.keepIn K (.ref C) = true) (l : K.lookup f = some ⟨oc, od, .func (PySem.W.fnOf "__init__" "Wish.__init__" (defArgs s_Wish_init) (defBody s_Wish_init) (defScope s_Wish_init) .none (.ref D) doc pm an cdv ct), osl⟩) (c : PySem.W.codeIn K cdv "Wish.__init__" = true) (k : PySem.W.keepIn K (.ref f) = true)
    (d1 : PySem.W.nsIn K D "most" = some (some .none)) (d2 : PySem.W.nsIn K D "least" = some (some .none)) : WishF K C :=
  ⟨f, _, ⟨⟨oc, od, _, _, doc, pm, an, cdv, ct, osl, rfl, l, c, .inl ⟨rfl, rfl⟩, .inr ⟨D, rfl, fun q hq => by
    rcases List.mem_cons.mp hq with rfl | hq
    · exact ⟨_, d1, rfl⟩
    · rw [List.mem_singleton.mp hq]
      exact ⟨_, d2, rfl⟩⟩⟩, k⟩, ⟨mk, a, n, kC⟩⟩
theorem not_first {C : Addr} {t : Value} (s : PySem.W.subIn K t (.ref C) = some false) : PySem.W.notFirst K C t = true := by
  unfold PySem.W.notFirst
  rw [s]
  simp
theorem not_first_same {C : Addr} : PySem.W.notFirst K C (.ref C) = true := by
  unfold PySem.W.notFirst
  simp
theorem kit_same {t : Value} (h : (t == t) = true) : PySem.W.kitOne K t t = some true := by
  unfold PySem.W.kitOne
  rw [if_pos h]
theorem kit_tyown {t : String} {b : Addr} {r : Bool} (hc : PySem.W.isClsIn K b = true) (ht : PySem.W.typeIn K (.ref b) = some (.type "type")) (hs : PySem.W.subIn K (.type t) (.ref b) = some r) : PySem.W.kitOne K (.type t) (.ref b) = some r := by
  have e2 : ((PySem.W.clsIn K b).isSome && PySem.W.typeIn K (.ref b) == some (.type "type")) = true := by
    have hc' : (PySem.W.clsIn K b).isSome = true := hc
    rw [hc', ht] <;> rfl
  unfold PySem.W.kitOne
  rw [show (Value.type t == Value.ref b) = false from rfl]
  show (if ((PySem.W.clsIn K b).isSome && PySem.W.typeIn K (.ref b) == some (.type "type")) = true then PySem.W.subIn K (.type t) (.ref b) else none) = some r
  rw [if_pos e2]
  exact hs
theorem four {Q : Addr → Prop} {c : Ad} (h1 : Q c.KC) (h2 : Q c.KG) (h3 : Q c.KW) (h4 : Q c.KB) : ∀ C, (C = c.KC ∨ C = c.KG ∨ C = c.KW ∨ C = c.KB) → Q C := fun C h => by
  rcases h with rfl | rfl | rfl | rfl
  · exact h1
  · exact h2
  · exact h3
  · exact h4
theorem fin_mk {w : World} {c_CO c_CS c_CN c_CW c_KB c_KF c_KC c_KG c_KW : Addr} {fa fL : Addr} {oc kV doc pm cdv ct : Value} {od an : Option Addr} {osl : Array (Option Value)} {t_0 t_1 t_2 t_3 t_4 t_5 : Tok} (X : K.In h) (G : h.Ns mainGlobals mg) (hfa : mg "law" = some (.ref fa))
    (aL : PySem.W.nsIn K mainGlobals "law" = some (some (.ref fL))) (lL : K.lookup fL = some ⟨oc, od, .func (PySem.W.fnOf "law" "law" (defArgs s_law) (defBody s_law) (defScope s_law) .none kV doc pm an cdv ct), osl⟩) (cL : PySem.W.codeIn K cdv "law" = true) (kL : PySem.W.keepIn K (.ref fL) = true)
    (g_NodearerError : PySem.W.nsIn K mainGlobals "NodearerError" = some (some (.ref c_CO)))
    (g_Book : PySem.W.nsIn K mainGlobals "Book" = some (some (.ref c_KB)))
    (g_Family : PySem.W.nsIn K mainGlobals "Family" = some (some (.ref c_KF)))
    (g_Choice : PySem.W.nsIn K mainGlobals "Choice" = some (some (.ref c_KC)))
    (g_Groups : PySem.W.nsIn K mainGlobals "Groups" = some (some (.ref c_KG)))
    (g_Wish : PySem.W.nsIn K mainGlobals "Wish" = some (some (.ref c_KW)))
    (d_look_size : DefAt K mg "look_size" s_look_size ["count", "least", "most"])
    (d_look_number : DefAt K mg "look_number" s_look_number ["number", "least", "most"])
    (d_look_numbers : DefAt K mg "look_numbers" s_look_numbers ["numbers", "least", "most"])
    (d_look_things : DefAt K mg "look_things" s_look_things ["things"])
    (d_mask_of : DefAt K mg "mask_of" s_mask_of ["lot"])
    (d_sums_of_masks : DefAt K mg "sums_of_masks" s_sums_of_masks ["entries"])
    (d_sizes_of_masks : DefAt K mg "sizes_of_masks" s_sizes_of_masks ["things"])
    (d_look_wish : DefAt K mg "look_wish" s_look_wish ["book", "at"])
    (d__depth_of : DefAt K mg "_depth_of" s__depth_of ["things", "wishes"])
    (d__kind_of : DefAt K mg "_kind_of" s__kind_of ["wishes"])
    (d_ranks_of_free : DefAt K mg "ranks_of_free" s_ranks_of_free ["things", "free"])
    (d_ranks_under_rooms : DefAt K mg "ranks_under_rooms" s_ranks_under_rooms ["things", "rooms"])
    (d__parts_of : DefAt K mg "_parts_of" s__parts_of ["mask", "things"])
    (d__law_digits : DefAt K mg "_law_digits" s__law_digits ["script"])
    (d__law_take : DefAt K mg "_law_take" s__law_take ["tape", "many"])
    (d__law_two : DefAt K mg "_law_two" s__law_two ["tape", "many"])
    (d__law_same : DefAt K mg "_law_same" s__law_same ["actual", "due"])
    (d__law_refusals : DefAt K mg "_law_refusals" s__law_refusals ["error"])
    (d__law_make_wish : DefAt K mg "_law_make_wish" s__law_make_wish ["row"])
    (d__law_depth : DefAt K mg "_law_depth" s__law_depth ["things", "rows"])
    (d__law_book_kind : DefAt K mg "_law_book_kind" s__law_book_kind ["rows"])
    (d__law_slack : DefAt K mg "_law_slack" s__law_slack ["things", "rows", "at"])
    (d__law_draw_row : DefAt K mg "_law_draw_row" s__law_draw_row ["tape", "size", "at", "mode"])
    (d__law_draw_rows : DefAt K mg "_law_draw_rows" s__law_draw_rows ["tape", "things", "odd"])
    (d__law_book_due : DefAt K mg "_law_book_due" s__law_book_due ["things", "rows"])
    (d__law_make : DefAt K mg "_law_make" s__law_make ["family", "wishes"])
    (d__law_ask : DefAt K mg "_law_ask" s__law_ask ["book", "at"])
    (d__law_right : DefAt K mg "_law_right" s__law_right ["book", "family", "things", "rows", "great"])
    (ini_Choice : InitF K c_KC "Choice.__init__" s_Choice_init ["self", "things", "take"])
    (ini_Groups : InitF K c_KG "Groups.__init__" s_Groups_init ["self", "groups", "takes"])
    (ini_Book : InitF K c_KB "Book.__init__" s_Book_init ["self", "family", "wishes"])
    (pln : PlnF K c_KF "__init__" "Family.__init__" s_Family_init ["self", "things", "ranks", "nodes"])
    (eq_FeqC : EqF K c_KC "Family.__eq__" s_Family_eq)
    (eq_FeqG : EqF K c_KG "Family.__eq__" s_Family_eq)
    (eq_Weq : EqF K c_KW "Wish.__eq__" s_Wish_eq)
    (eq_Beq : EqF K c_KB "Book.__eq__" s_Book_eq)
    (m_rooms : MethAt K c_KG "_rooms" "Groups._rooms" s_Groups_rooms ["self"])
    (m_slack : MethAt K c_KB "slack" "Book.slack" s_Book_slack ["self", "at"])
    (wish : WishF K c_KW)
    (s_SizeError : ErrS P K mg "SizeError" "count" c_CS i_SizeError "SizeError.__init__")
    (s_NumberError : ErrS P K mg "NumberError" "number" c_CN i_NumberError "NumberError.__init__")
    (s_WishError : ErrS P K mg "WishError" "at" c_CW i_WishError "WishError.__init__")
    (z_len : PySem.W.nsIn K mainGlobals "len" = some none)
    (z_sum : PySem.W.nsIn K mainGlobals "sum" = some none)
    (z_min : PySem.W.nsIn K mainGlobals "min" = some none)
    (z_max : PySem.W.nsIn K mainGlobals "max" = some none)
    (z_abs : PySem.W.nsIn K mainGlobals "abs" = some none)
    (z_isinstance : PySem.W.nsIn K mainGlobals "isinstance" = some none)
    (z_tuple : PySem.W.nsIn K mainGlobals "tuple" = some none)
    (z_list : PySem.W.nsIn K mainGlobals "list" = some none)
    (z_bool : PySem.W.nsIn K mainGlobals "bool" = some none)
    (z_int : PySem.W.nsIn K mainGlobals "int" = some none)
    (z_str : PySem.W.nsIn K mainGlobals "str" = some none)
    (z_range : PySem.W.nsIn K mainGlobals "range" = some none)
    (z_all : PySem.W.nsIn K mainGlobals "all" = some none)
    (z_enumerate : PySem.W.nsIn K mainGlobals "enumerate" = some none)
    (z_reversed : PySem.W.nsIn K mainGlobals "reversed" = some none)
    (z_super : PySem.W.nsIn K mainGlobals "super" = some none)
    (v__MOST_THINGS : PySem.W.nsIn K mainGlobals "_MOST_THINGS" = some (some (.int 10 t_0)))
    (v_MOST_WISHES : PySem.W.nsIn K mainGlobals "MOST_WISHES" = some (some (.int 5 t_1)))
    (v__MOST : PySem.W.nsIn K mainGlobals "_MOST" = some (some (.int 10 t_2)))
    (v__MOST_WEIGHTS : PySem.W.nsIn K mainGlobals "_MOST_WEIGHTS" = some (some (.int 10 t_3)))
    (v__MOST_WEIGHT : PySem.W.nsIn K mainGlobals "_MOST_WEIGHT" = some (some (.int 20 t_4)))
    (v__MOST_NUMBER : PySem.W.nsIn K mainGlobals "_MOST_NUMBER" = some (some (.int 1000 t_5)))
    (cB_pg : PySem.W.plainGet K c_KB Str.empty = true)
    (cB_hd : PySem.W.hasDictIn K c_KB = true)
    (cB_po : PySem.W.plainOver K c_KB = true)
    (cB_sa : PySem.W.findIn K (.ref c_KB) "__setattr__" = some (some (.builtin "object.__setattr__")))
    (cC_pg : PySem.W.plainGet K c_KC Str.empty = true)
    (cC_hd : PySem.W.hasDictIn K c_KC = true)
    (cC_po : PySem.W.plainOver K c_KC = true)
    (cC_sa : PySem.W.findIn K (.ref c_KC) "__setattr__" = some (some (.builtin "object.__setattr__")))
    (cG_pg : PySem.W.plainGet K c_KG Str.empty = true)
    (cG_hd : PySem.W.hasDictIn K c_KG = true)
    (cG_po : PySem.W.plainOver K c_KG = true)
    (cG_sa : PySem.W.findIn K (.ref c_KG) "__setattr__" = some (some (.builtin "object.__setattr__")))
    (cW_pg : PySem.W.plainGet K c_KW Str.empty = true)
    (cW_hd : PySem.W.hasDictIn K c_KW = true)
    (cW_po : PySem.W.plainOver K c_KW = true)
    (cW_sa : PySem.W.findIn K (.ref c_KW) "__setattr__" = some (some (.builtin "object.__setattr__")))
    (nB_family : PySem.W.findIn K (.ref c_KB) "family" = some none)
    (nB_wishes : PySem.W.findIn K (.ref c_KB) "wishes" = some none)
    (nB_deep : PySem.W.findIn K (.ref c_KB) "deep" = some none)
    (nB_kind : PySem.W.findIn K (.ref c_KB) "kind" = some none)
    (nC_take : PySem.W.findIn K (.ref c_KC) "take" = some none)
    (nC_things : PySem.W.findIn K (.ref c_KC) "things" = some none)
    (nC_ranks : PySem.W.findIn K (.ref c_KC) "ranks" = some none)
    (nC_full : PySem.W.findIn K (.ref c_KC) "full" = some none)
    (nC_nodes : PySem.W.findIn K (.ref c_KC) "nodes" = some none)
    (nG_groups : PySem.W.findIn K (.ref c_KG) "groups" = some none)
    (nG_takes : PySem.W.findIn K (.ref c_KG) "takes" = some none)
    (nG_things : PySem.W.findIn K (.ref c_KG) "things" = some none)
    (nG_ranks : PySem.W.findIn K (.ref c_KG) "ranks" = some none)
    (nG_full : PySem.W.findIn K (.ref c_KG) "full" = some none)
    (nG_nodes : PySem.W.findIn K (.ref c_KG) "nodes" = some none)
    (nW_weights : PySem.W.findIn K (.ref c_KW) "weights" = some none)
    (nW_most : PySem.W.findIn K (.ref c_KW) "most" = some none)
    (nW_least : PySem.W.findIn K (.ref c_KW) "least" = some none)
    (nW_greatest : PySem.W.findIn K (.ref c_KW) "greatest" = some none)
    (nW_plain : PySem.W.findIn K (.ref c_KW) "plain" = some none)
    (nW_lot : PySem.W.findIn K (.ref c_KW) "lot" = some none)
    (sCG : PySem.W.subIn K (.ref c_KC) (.ref c_KG) = some false)
    (sGC : PySem.W.subIn K (.ref c_KG) (.ref c_KC) = some false)
    (sI_KC : PySem.W.subIn K (.type "int") (.ref c_KC) = some false)
    (sI_KG : PySem.W.subIn K (.type "int") (.ref c_KG) = some false)
    (sI_KW : PySem.W.subIn K (.type "int") (.ref c_KW) = some false)
    (sI_KB : PySem.W.subIn K (.type "int") (.ref c_KB) = some false)
    (xSO : PySem.W.exmOne K (.ref c_CS) (.ref c_CO) = some true)
    (xWO : PySem.W.exmOne K (.ref c_CW) (.ref c_CO) = some true)
    (kSW : PySem.W.kitOne K (.ref c_CS) (.ref c_CW) = some false)
    (kWS : PySem.W.kitOne K (.ref c_CW) (.ref c_CS) = some false)
    (kCF : PySem.W.kitOne K (.ref c_KC) (.ref c_KF) = some true)
    (kGF : PySem.W.kitOne K (.ref c_KG) (.ref c_KF) = some true)
    (kIB : PySem.W.kitOne K (.type "int") (.ref c_KB) = some false)
    (tyC_KC : PySem.W.findIn K (.ref c_KC) "__class__" = some (some (.builtin "object.__class__")))
    (tyC_KG : PySem.W.findIn K (.ref c_KG) "__class__" = some (some (.builtin "object.__class__")))
    (tyC_KW : PySem.W.findIn K (.ref c_KW) "__class__" = some (some (.builtin "object.__class__")))
    (tyC_KB : PySem.W.findIn K (.ref c_KB) "__class__" = some (some (.builtin "object.__class__")))
    (tyG : PySem.W.specialIn K (.builtin "object.__class__") "__get__" = some (some (.builtin "getset_descriptor.__get__")))
    (tyT : PySem.W.takesIn K (.builtin "object.__class__") = some true)
    (tyM_KC : PySem.W.mroIn K c_KC (.type "object") = some true)
    (tyM_KG : PySem.W.mroIn K c_KG (.type "object") = some true)
    (tyM_KW : PySem.W.mroIn K c_KW (.type "object") = some true)
    (tyM_KB : PySem.W.mroIn K c_KB (.type "object") = some true) :
    ∃ fd : FuncData, (∀ (s : Shared) (u : Value), BindsTo s fd ⟨[u], []⟩ [("script", u)]) ∧ ∀ base : Heap, K.In base → base.Ns mainGlobals mg → FnOk P w K mg base (L2.CX P w) 32 fa fd ["script"] (spLaw K) := by
  have e := hfa.symm.trans (PySem.W.mg_of X G aL)
  cases e
  let c : Ad := ⟨c_CO, c_CS, c_CN, c_CW, c_KB, c_KF, c_KC, c_KG, c_KW⟩
  have f_nB : ∀ f ∈ (["family", "wishes", "deep", "kind"] : List Str), NoAttr K c_KB f := fun f hf => by
    rcases List.mem_cons.mp hf with rfl | hf
    · exact nB_family
    rcases List.mem_cons.mp hf with rfl | hf
    · exact nB_wishes
    rcases List.mem_cons.mp hf with rfl | hf
    · exact nB_deep
    rcases List.mem_cons.mp hf with rfl | hf
    · exact nB_kind
    cases hf
  have f_nC : ∀ f ∈ (["take", "things", "ranks", "full", "nodes"] : List Str), NoAttr K c_KC f := fun f hf => by
    rcases List.mem_cons.mp hf with rfl | hf
    · exact nC_take
    rcases List.mem_cons.mp hf with rfl | hf
    · exact nC_things
    rcases List.mem_cons.mp hf with rfl | hf
    · exact nC_ranks
    rcases List.mem_cons.mp hf with rfl | hf
    · exact nC_full
    rcases List.mem_cons.mp hf with rfl | hf
    · exact nC_nodes
    cases hf
  have f_nG : ∀ f ∈ (["groups", "takes", "things", "ranks", "full", "nodes"] : List Str), NoAttr K c_KG f := fun f hf => by
    rcases List.mem_cons.mp hf with rfl | hf
    · exact nG_groups
    rcases List.mem_cons.mp hf with rfl | hf
    · exact nG_takes
    rcases List.mem_cons.mp hf with rfl | hf
    · exact nG_things
    rcases List.mem_cons.mp hf with rfl | hf
    · exact nG_ranks
    rcases List.mem_cons.mp hf with rfl | hf
    · exact nG_full
    rcases List.mem_cons.mp hf with rfl | hf
    · exact nG_nodes
    cases hf
  have f_nW : ∀ f ∈ (["weights", "most", "least", "greatest", "plain", "lot"] : List Str), NoAttr K c_KW f := fun f hf => by
    rcases List.mem_cons.mp hf with rfl | hf
    · exact nW_weights
    rcases List.mem_cons.mp hf with rfl | hf
    · exact nW_most
    rcases List.mem_cons.mp hf with rfl | hf
    · exact nW_least
    rcases List.mem_cons.mp hf with rfl | hf
    · exact nW_greatest
    rcases List.mem_cons.mp hf with rfl | hf
    · exact nW_plain
    rcases List.mem_cons.mp hf with rfl | hf
    · exact nW_lot
    cases hf
  have f_nfF : ∀ C D, (C = c_KC ∨ C = c_KG) → (D = c_KC ∨ D = c_KG) → PySem.W.notFirst K C (.ref D) = true := fun C D h1 h2 => by
    rcases h1 with rfl | rfl
    · rcases h2 with rfl | rfl
      · exact not_first_same
      · exact not_first sGC
    · rcases h2 with rfl | rfl
      · exact not_first sCG
      · exact not_first_same
  have F : Facts P K mg c := {
    g_NodearerError := PySem.W.mg_of X G g_NodearerError,
    g_Book := PySem.W.mg_of X G g_Book,
    g_Family := PySem.W.mg_of X G g_Family,
    g_Choice := PySem.W.mg_of X G g_Choice,
    g_Groups := PySem.W.mg_of X G g_Groups,
    g_Wish := PySem.W.mg_of X G g_Wish,
    d_look_size := d_look_size,
    d_look_number := d_look_number,
    d_look_numbers := d_look_numbers,
    d_look_things := d_look_things,
    d_mask_of := d_mask_of,
    d_sums_of_masks := d_sums_of_masks,
    d_sizes_of_masks := d_sizes_of_masks,
    d_look_wish := d_look_wish,
    d__depth_of := d__depth_of,
    d__kind_of := d__kind_of,
    d_ranks_of_free := d_ranks_of_free,
    d_ranks_under_rooms := d_ranks_under_rooms,
    d__parts_of := d__parts_of,
    d__law_digits := d__law_digits,
    d__law_take := d__law_take,
    d__law_two := d__law_two,
    d__law_same := d__law_same,
    d__law_refusals := d__law_refusals,
    d__law_make_wish := d__law_make_wish,
    d__law_depth := d__law_depth,
    d__law_book_kind := d__law_book_kind,
    d__law_slack := d__law_slack,
    d__law_draw_row := d__law_draw_row,
    d__law_draw_rows := d__law_draw_rows,
    d__law_book_due := d__law_book_due,
    d__law_make := d__law_make,
    d__law_ask := d__law_ask,
    d__law_right := d__law_right,
    ini_Choice := ini_Choice,
    ini_Groups := ini_Groups,
    ini_Book := ini_Book,
    pln := pln,
    eq_FeqC := eq_FeqC,
    eq_FeqG := eq_FeqG,
    eq_Weq := eq_Weq,
    eq_Beq := eq_Beq,
    m_rooms := m_rooms,
    m_slack := m_slack,
    wish := wish,
    s_SizeError := s_SizeError,
    s_NumberError := s_NumberError,
    s_WishError := s_WishError,
    z_len := PySem.W.mg_none_of X G z_len,
    z_sum := PySem.W.mg_none_of X G z_sum,
    z_min := PySem.W.mg_none_of X G z_min,
    z_max := PySem.W.mg_none_of X G z_max,
    z_abs := PySem.W.mg_none_of X G z_abs,
    z_isinstance := PySem.W.mg_none_of X G z_isinstance,
    z_tuple := PySem.W.mg_none_of X G z_tuple,
    z_list := PySem.W.mg_none_of X G z_list,
    z_bool := PySem.W.mg_none_of X G z_bool,
    z_int := PySem.W.mg_none_of X G z_int,
    z_str := PySem.W.mg_none_of X G z_str,
    z_range := PySem.W.mg_none_of X G z_range,
    z_all := PySem.W.mg_none_of X G z_all,
    z_enumerate := PySem.W.mg_none_of X G z_enumerate,
    z_reversed := PySem.W.mg_none_of X G z_reversed,
    z_super := PySem.W.mg_none_of X G z_super,
    c__MOST_THINGS := ⟨_, PySem.W.mg_of X G v__MOST_THINGS, ⟨_, rfl⟩⟩,
    c_MOST_WISHES := ⟨_, PySem.W.mg_of X G v_MOST_WISHES, ⟨_, rfl⟩⟩,
    c__MOST := ⟨_, PySem.W.mg_of X G v__MOST, ⟨_, rfl⟩⟩,
    c__MOST_WEIGHTS := ⟨_, PySem.W.mg_of X G v__MOST_WEIGHTS, ⟨_, rfl⟩⟩,
    c__MOST_WEIGHT := ⟨_, PySem.W.mg_of X G v__MOST_WEIGHT, ⟨_, rfl⟩⟩,
    c__MOST_NUMBER := ⟨_, PySem.W.mg_of X G v__MOST_NUMBER, ⟨_, rfl⟩⟩,
    cB := ⟨cB_pg, cB_hd, cB_po, cB_sa⟩,
    cC := ⟨cC_pg, cC_hd, cC_po, cC_sa⟩,
    cG := ⟨cG_pg, cG_hd, cG_po, cG_sa⟩,
    cW := ⟨cW_pg, cW_hd, cW_po, cW_sa⟩,
    nB := f_nB,
    nC := f_nC,
    nG := f_nG,
    nW := f_nW,
    nfF := f_nfF,
    nfB := not_first_same,
    nfI := four (Q := fun C => PySem.W.notFirst K C (.type "int") = true) (not_first sI_KC) (not_first sI_KG) (not_first sI_KW) (not_first sI_KB),
    xSO := xSO,
    xWO := xWO,
    kSW := kSW,
    kWS := kWS,
    kCF := kCF,
    kGF := kGF,
    kIB := kIB,
    kSS := kit_same (by simp),
    kEE := kit_same (by simp),
    kWW := kit_same (by simp),
    kBB := kit_same (by simp),
    tyC := four (Q := fun C => PySem.W.findIn K (.ref C) "__class__" = some (some (.builtin "object.__class__"))) tyC_KC tyC_KG tyC_KW tyC_KB,
    tyG := tyG,
    tyT := tyT,
    tyM := four (Q := fun C => PySem.W.mroIn K C (.type "object") = some true) tyM_KC tyM_KG tyM_KW tyM_KB }
  exact ⟨_, fun s u => .of_eq rfl, fun base _ _ => law_fn F (fun_mk (st := s_law) lL cL kL)⟩
end
end K4
open PySem PySem.W PyProof.Rows
set_option maxRecDepth 100000 in
set_option maxHeartbeats 0 in
theorem PySem.Challenge.cw_nodearer_k34_depth_and_slack_holds : PySem.Challenge.rw_nodearer_k34_depth_and_slack.Holds := by
  w_on; o_law; k_head; (case hw => w_witness2)
  k_fill
  refine Nd.walk_x (l := PySem.Challenge.rw_nodearer_k34_depth_and_slack) (n := 63) (k := 32) (x := "script") (CX := fun w => L2.CX PySem.Challenge.rw_nodearer_k34_depth_and_slack.prog w) (sp := K4.spLaw) rfl (by decide) rfl ⟨rfl, by decide, by decide⟩ (fun w h Y => PySem.W.kIn_of Y) ?F (fun _ _ a ns hl _ hS => ⟨a, ns, rfl, hS, fun _ _ => rfl⟩) (fun _ _ _ _ _ => Nd.cx_no)
  case F =>
    intro w mg fa h XX KX G hmg
    refine' K4.fin_mk KX G hmg ?aL ?lL ?cL ?kL ?g_NodearerError ?g_Book ?g_Family ?g_Choice ?g_Groups ?g_Wish ?d_look_size ?d_look_number ?d_look_numbers ?d_look_things ?d_mask_of ?d_sums_of_masks ?d_sizes_of_masks ?d_look_wish ?d__depth_of ?d__kind_of ?d_ranks_of_free ?d_ranks_under_rooms ?d__parts_of ?d__law_digits ?d__law_take ?d__law_two ?d__law_same ?d__law_refusals ?d__law_make_wish ?d__law_depth ?d__law_book_kind ?d__law_slack ?d__law_draw_row ?d__law_draw_rows ?d__law_book_due ?d__law_make ?d__law_ask ?d__law_right ?ini_Choice ?ini_Groups ?ini_Book ?pln ?eq_FeqC ?eq_FeqG ?eq_Weq ?eq_Beq ?m_rooms ?m_slack ?wish ?s_SizeError ?s_NumberError ?s_WishError ?z_len ?z_sum ?z_min ?z_max ?z_abs ?z_isinstance ?z_tuple ?z_list ?z_bool ?z_int ?z_str ?z_range ?z_all ?z_enumerate ?z_reversed ?z_super ?v__MOST_THINGS ?v_MOST_WISHES ?v__MOST ?v__MOST_WEIGHTS ?v__MOST_WEIGHT ?v__MOST_NUMBER ?cB_pg ?cB_hd ?cB_po ?cB_sa ?cC_pg ?cC_hd ?cC_po ?cC_sa ?cG_pg ?cG_hd ?cG_po ?cG_sa ?cW_pg ?cW_hd ?cW_po ?cW_sa ?nB_family ?nB_wishes ?nB_deep ?nB_kind ?nC_take ?nC_things ?nC_ranks ?nC_full ?nC_nodes ?nG_groups ?nG_takes ?nG_things ?nG_ranks ?nG_full ?nG_nodes ?nW_weights ?nW_most ?nW_least ?nW_greatest ?nW_plain ?nW_lot ?sCG ?sGC ?sI_KC ?sI_KG ?sI_KW ?sI_KB ?xSO ?xWO ?kSW ?kWS ?kCF ?kGF ?kIB ?tyC_KC ?tyC_KG ?tyC_KW ?tyC_KB ?tyG ?tyT ?tyM_KC ?tyM_KG ?tyM_KW ?tyM_KB
    (case aL => k_is)
    (case lL => k_is)
    (case cL => k_is)
    (case kL => k_is)
    (case g_NodearerError => k_is)
    (case g_Book => k_is)
    (case g_Family => k_is)
    (case g_Choice => k_is)
    (case g_Groups => k_is)
    (case g_Wish => k_is)
    case d_look_size =>
      refine' Nd.def_at KX G ?a ?l ?c ?k (fun _ _ _ _ _ _ us hl => match us, hl with | [_, _, _], _ => rfl)
      (case a => k_is); (case l => k_is); (case c => k_is); (case k => k_is)
    case d_look_number =>
      refine' Nd.def_at KX G ?a ?l ?c ?k (fun _ _ _ _ _ _ us hl => match us, hl with | [_, _, _], _ => rfl)
      (case a => k_is); (case l => k_is); (case c => k_is); (case k => k_is)
    case d_look_numbers =>
      refine' Nd.def_at KX G ?a ?l ?c ?k (fun _ _ _ _ _ _ us hl => match us, hl with | [_, _, _], _ => rfl)
      (case a => k_is); (case l => k_is); (case c => k_is); (case k => k_is)
    case d_look_things =>
      refine' Nd.def_at KX G ?a ?l ?c ?k (fun _ _ _ _ _ _ us hl => match us, hl with | [_], _ => rfl)
      (case a => k_is); (case l => k_is); (case c => k_is); (case k => k_is)
    case d_mask_of =>
      refine' Nd.def_at KX G ?a ?l ?c ?k (fun _ _ _ _ _ _ us hl => match us, hl with | [_], _ => rfl)
      (case a => k_is); (case l => k_is); (case c => k_is); (case k => k_is)
    case d_sums_of_masks =>
      refine' Nd.def_at KX G ?a ?l ?c ?k (fun _ _ _ _ _ _ us hl => match us, hl with | [_], _ => rfl)
      (case a => k_is); (case l => k_is); (case c => k_is); (case k => k_is)
    case d_sizes_of_masks =>
      refine' Nd.def_at KX G ?a ?l ?c ?k (fun _ _ _ _ _ _ us hl => match us, hl with | [_], _ => rfl)
      (case a => k_is); (case l => k_is); (case c => k_is); (case k => k_is)
    case d_look_wish =>
      refine' Nd.def_at KX G ?a ?l ?c ?k (fun _ _ _ _ _ _ us hl => match us, hl with | [_, _], _ => rfl)
      (case a => k_is); (case l => k_is); (case c => k_is); (case k => k_is)
    case d__depth_of =>
      refine' Nd.def_at KX G ?a ?l ?c ?k (fun _ _ _ _ _ _ us hl => match us, hl with | [_, _], _ => rfl)
      (case a => k_is); (case l => k_is); (case c => k_is); (case k => k_is)
    case d__kind_of =>
      refine' Nd.def_at KX G ?a ?l ?c ?k (fun _ _ _ _ _ _ us hl => match us, hl with | [_], _ => rfl)
      (case a => k_is); (case l => k_is); (case c => k_is); (case k => k_is)
    case d_ranks_of_free =>
      refine' Nd.def_at KX G ?a ?l ?c ?k (fun _ _ _ _ _ _ us hl => match us, hl with | [_, _], _ => rfl)
      (case a => k_is); (case l => k_is); (case c => k_is); (case k => k_is)
    case d_ranks_under_rooms =>
      refine' Nd.def_at KX G ?a ?l ?c ?k (fun _ _ _ _ _ _ us hl => match us, hl with | [_, _], _ => rfl)
      (case a => k_is); (case l => k_is); (case c => k_is); (case k => k_is)
    case d__parts_of =>
      refine' Nd.def_at KX G ?a ?l ?c ?k (fun _ _ _ _ _ _ us hl => match us, hl with | [_, _], _ => rfl)
      (case a => k_is); (case l => k_is); (case c => k_is); (case k => k_is)
    case d__law_digits =>
      refine' Nd.def_at KX G ?a ?l ?c ?k (fun _ _ _ _ _ _ us hl => match us, hl with | [_], _ => rfl)
      (case a => k_is); (case l => k_is); (case c => k_is); (case k => k_is)
    case d__law_take =>
      refine' Nd.def_at KX G ?a ?l ?c ?k (fun _ _ _ _ _ _ us hl => match us, hl with | [_, _], _ => rfl)
      (case a => k_is); (case l => k_is); (case c => k_is); (case k => k_is)
    case d__law_two =>
      refine' Nd.def_at KX G ?a ?l ?c ?k (fun _ _ _ _ _ _ us hl => match us, hl with | [_, _], _ => rfl)
      (case a => k_is); (case l => k_is); (case c => k_is); (case k => k_is)
    case d__law_same =>
      refine' Nd.def_at KX G ?a ?l ?c ?k (fun _ _ _ _ _ _ us hl => match us, hl with | [_, _], _ => rfl)
      (case a => k_is); (case l => k_is); (case c => k_is); (case k => k_is)
    case d__law_refusals =>
      refine' Nd.def_at KX G ?a ?l ?c ?k (fun _ _ _ _ _ _ us hl => match us, hl with | [_], _ => rfl)
      (case a => k_is); (case l => k_is); (case c => k_is); (case k => k_is)
    case d__law_make_wish =>
      refine' Nd.def_at KX G ?a ?l ?c ?k (fun _ _ _ _ _ _ us hl => match us, hl with | [_], _ => rfl)
      (case a => k_is); (case l => k_is); (case c => k_is); (case k => k_is)
    case d__law_depth =>
      refine' Nd.def_at KX G ?a ?l ?c ?k (fun _ _ _ _ _ _ us hl => match us, hl with | [_, _], _ => rfl)
      (case a => k_is); (case l => k_is); (case c => k_is); (case k => k_is)
    case d__law_book_kind =>
      refine' Nd.def_at KX G ?a ?l ?c ?k (fun _ _ _ _ _ _ us hl => match us, hl with | [_], _ => rfl)
      (case a => k_is); (case l => k_is); (case c => k_is); (case k => k_is)
    case d__law_slack =>
      refine' Nd.def_at KX G ?a ?l ?c ?k (fun _ _ _ _ _ _ us hl => match us, hl with | [_, _, _], _ => rfl)
      (case a => k_is); (case l => k_is); (case c => k_is); (case k => k_is)
    case d__law_draw_row =>
      refine' Nd.def_at KX G ?a ?l ?c ?k (fun _ _ _ _ _ _ us hl => match us, hl with | [_, _, _, _], _ => rfl)
      (case a => k_is); (case l => k_is); (case c => k_is); (case k => k_is)
    case d__law_draw_rows =>
      refine' Nd.def_at KX G ?a ?l ?c ?k (fun _ _ _ _ _ _ us hl => match us, hl with | [_, _, _], _ => rfl)
      (case a => k_is); (case l => k_is); (case c => k_is); (case k => k_is)
    case d__law_book_due =>
      refine' Nd.def_at KX G ?a ?l ?c ?k (fun _ _ _ _ _ _ us hl => match us, hl with | [_, _], _ => rfl)
      (case a => k_is); (case l => k_is); (case c => k_is); (case k => k_is)
    case d__law_make =>
      refine' Nd.def_at KX G ?a ?l ?c ?k (fun _ _ _ _ _ _ us hl => match us, hl with | [_, _], _ => rfl)
      (case a => k_is); (case l => k_is); (case c => k_is); (case k => k_is)
    case d__law_ask =>
      refine' Nd.def_at KX G ?a ?l ?c ?k (fun _ _ _ _ _ _ us hl => match us, hl with | [_, _], _ => rfl)
      (case a => k_is); (case l => k_is); (case c => k_is); (case k => k_is)
    case d__law_right =>
      refine' Nd.def_at KX G ?a ?l ?c ?k (fun _ _ _ _ _ _ us hl => match us, hl with | [_, _, _, _, _], _ => rfl)
      (case a => k_is); (case l => k_is); (case c => k_is); (case k => k_is)
    case ini_Choice =>
      refine' K4.init_at ?mk ?a ?n ?kC ?l ?c ?k (fun _ _ _ _ _ _ us hl => match us, hl with | [_, _, _], _ => rfl)
      (case mk => k_is); (case a => k_is); (case n => k_is); (case kC => k_is); (case l => k_is); (case c => k_is); (case k => k_is)
    case ini_Groups =>
      refine' K4.init_at ?mk ?a ?n ?kC ?l ?c ?k (fun _ _ _ _ _ _ us hl => match us, hl with | [_, _, _], _ => rfl)
      (case mk => k_is); (case a => k_is); (case n => k_is); (case kC => k_is); (case l => k_is); (case c => k_is); (case k => k_is)
    case ini_Book =>
      refine' K4.init_at ?mk ?a ?n ?kC ?l ?c ?k (fun _ _ _ _ _ _ us hl => match us, hl with | [_, _, _], _ => rfl)
      (case mk => k_is); (case a => k_is); (case n => k_is); (case kC => k_is); (case l => k_is); (case c => k_is); (case k => k_is)
    case pln =>
      refine' K4.pln_at (mc := .type "type") ?rd ?ga ?a ?l ?c ?k (fun _ _ _ _ _ _ us hl => match us, hl with | [_, _, _, _], _ => rfl)
      (case rd => k_is); (case ga => k_is); (case a => k_is); (case l => k_is); (case c => k_is); (case k => k_is)
    case eq_FeqC =>
      refine' K4.eq_at ?a ?l ?c ?k ?n (fun _ _ _ _ _ _ us hl => match us, hl with | [_, _], _ => rfl)
      (case a => k_is); (case l => k_is); (case c => k_is); (case k => k_is); (case n => k_is)
    case eq_FeqG =>
      refine' K4.eq_at ?a ?l ?c ?k ?n (fun _ _ _ _ _ _ us hl => match us, hl with | [_, _], _ => rfl)
      (case a => k_is); (case l => k_is); (case c => k_is); (case k => k_is); (case n => k_is)
    case eq_Weq =>
      refine' K4.eq_at ?a ?l ?c ?k ?n (fun _ _ _ _ _ _ us hl => match us, hl with | [_, _], _ => rfl)
      (case a => k_is); (case l => k_is); (case c => k_is); (case k => k_is); (case n => k_is)
    case eq_Beq =>
      refine' K4.eq_at ?a ?l ?c ?k ?n (fun _ _ _ _ _ _ us hl => match us, hl with | [_, _], _ => rfl)
      (case a => k_is); (case l => k_is); (case c => k_is); (case k => k_is); (case n => k_is)
    case m_rooms =>
      refine' K4.meth_at ?a ?l ?c ?k ?n (fun _ _ _ _ _ _ us hl => match us, hl with | [_], _ => rfl)
      (case a => k_is); (case l => k_is); (case c => k_is); (case k => k_is); (case n => k_is)
    case m_slack =>
      refine' K4.meth_at ?a ?l ?c ?k ?n (fun _ _ _ _ _ _ us hl => match us, hl with | [_, _], _ => rfl)
      (case a => k_is); (case l => k_is); (case c => k_is); (case k => k_is); (case n => k_is)
    case wish =>
      refine' K4.wish_at ?mk ?a ?n ?kC ?l ?c ?k ?d1 ?d2
      (case mk => k_is); (case a => k_is); (case n => k_is); (case kC => k_is); (case l => k_is); (case c => k_is); (case k => k_is); (case d1 => k_is); (case d2 => k_is)
    case s_SizeError =>
      refine' Nd.errS_mk KX G ?g ?xL ?rv ?ic ?sa ?ga ?gg ?no ?sb ?ca ?cg ?ctk ?mo ?tC ?kC ?hd ?mr ?a1 ?t1 ?l1 ?c1 ?cL ?cv ?cf ?eL ?su ?ve ?tp ?top
      (case g => k_is); (case xL => k_is); (case rv => decide +kernel); (case ic => k_is); (case sa => k_is); (case ga => k_is); (case gg => k_is); (case no => k_is); (case sb => k_is); (case ca => k_is); (case cg => k_is); (case ctk => k_is); (case mo => k_is); (case tC => k_is); (case kC => k_is); (case hd => k_is); (case mr => k_is); (case a1 => k_is); (case t1 => k_is); (case l1 => k_is); (case c1 => k_is); (case cL => k_is); (case cv => rfl); (case cf => decide +kernel); (case eL => k_is); (case su => kernel_rfl); (case ve => k_is); (case tp => k_is); (case top => decide +kernel)
    case s_NumberError =>
      refine' Nd.errS_mk KX G ?g ?xL ?rv ?ic ?sa ?ga ?gg ?no ?sb ?ca ?cg ?ctk ?mo ?tC ?kC ?hd ?mr ?a1 ?t1 ?l1 ?c1 ?cL ?cv ?cf ?eL ?su ?ve ?tp ?top
      (case g => k_is); (case xL => k_is); (case rv => decide +kernel); (case ic => k_is); (case sa => k_is); (case ga => k_is); (case gg => k_is); (case no => k_is); (case sb => k_is); (case ca => k_is); (case cg => k_is); (case ctk => k_is); (case mo => k_is); (case tC => k_is); (case kC => k_is); (case hd => k_is); (case mr => k_is); (case a1 => k_is); (case t1 => k_is); (case l1 => k_is); (case c1 => k_is); (case cL => k_is); (case cv => rfl); (case cf => decide +kernel); (case eL => k_is); (case su => kernel_rfl); (case ve => k_is); (case tp => k_is); (case top => decide +kernel)
    case s_WishError =>
      refine' Nd.errS_mk KX G ?g ?xL ?rv ?ic ?sa ?ga ?gg ?no ?sb ?ca ?cg ?ctk ?mo ?tC ?kC ?hd ?mr ?a1 ?t1 ?l1 ?c1 ?cL ?cv ?cf ?eL ?su ?ve ?tp ?top
      (case g => k_is); (case xL => k_is); (case rv => decide +kernel); (case ic => k_is); (case sa => k_is); (case ga => k_is); (case gg => k_is); (case no => k_is); (case sb => k_is); (case ca => k_is); (case cg => k_is); (case ctk => k_is); (case mo => k_is); (case tC => k_is); (case kC => k_is); (case hd => k_is); (case mr => k_is); (case a1 => k_is); (case t1 => k_is); (case l1 => k_is); (case c1 => k_is); (case cL => k_is); (case cv => rfl); (case cf => decide +kernel); (case eL => k_is); (case su => kernel_rfl); (case ve => k_is); (case tp => k_is); (case top => decide +kernel)
    (case z_len => k_is)
    (case z_sum => k_is)
    (case z_min => k_is)
    (case z_max => k_is)
    (case z_abs => k_is)
    (case z_isinstance => k_is)
    (case z_tuple => k_is)
    (case z_list => k_is)
    (case z_bool => k_is)
    (case z_int => k_is)
    (case z_str => k_is)
    (case z_range => k_is)
    (case z_all => k_is)
    (case z_enumerate => k_is)
    (case z_reversed => k_is)
    (case z_super => k_is)
    (case v__MOST_THINGS => k_is)
    (case v_MOST_WISHES => k_is)
    (case v__MOST => k_is)
    (case v__MOST_WEIGHTS => k_is)
    (case v__MOST_WEIGHT => k_is)
    (case v__MOST_NUMBER => k_is)
    (case cB_pg => k_is)
    (case cB_hd => k_is)
    (case cB_po => k_is)
    (case cB_sa => k_is)
    (case cC_pg => k_is)
    (case cC_hd => k_is)
    (case cC_po => k_is)
    (case cC_sa => k_is)
    (case cG_pg => k_is)
    (case cG_hd => k_is)
    (case cG_po => k_is)
    (case cG_sa => k_is)
    (case cW_pg => k_is)
    (case cW_hd => k_is)
    (case cW_po => k_is)
    (case cW_sa => k_is)
    (case nB_family => k_is)
    (case nB_wishes => k_is)
    (case nB_deep => k_is)
    (case nB_kind => k_is)
    (case nC_take => k_is)
    (case nC_things => k_is)
    (case nC_ranks => k_is)
    (case nC_full => k_is)
    (case nC_nodes => k_is)
    (case nG_groups => k_is)
    (case nG_takes => k_is)
    (case nG_things => k_is)
    (case nG_ranks => k_is)
    (case nG_full => k_is)
    (case nG_nodes => k_is)
    (case nW_weights => k_is)
    (case nW_most => k_is)
    (case nW_least => k_is)
    (case nW_greatest => k_is)
    (case nW_plain => k_is)
    (case nW_lot => k_is)
    (case sCG => k_is)
    (case sGC => k_is)
    (case sI_KC => k_is)
    (case sI_KG => k_is)
    (case sI_KW => k_is)
    (case sI_KB => k_is)
    case xSO =>
      refine' PySem.W.exm_ref ?a ?b ?c ?d
      (case a => k_is); (case b => k_is); (case c => k_is); (case d => k_is)
    case xWO =>
      refine' PySem.W.exm_ref ?a ?b ?c ?d
      (case a => k_is); (case b => k_is); (case c => k_is); (case d => k_is)
    case kSW =>
      refine' Nd.kit_own ?a ?b ?c ?d
      (case a => decide); (case b => k_is); (case c => k_is); (case d => k_is)
    case kWS =>
      refine' Nd.kit_own ?a ?b ?c ?d
      (case a => decide); (case b => k_is); (case c => k_is); (case d => k_is)
    case kCF =>
      refine' Nd.kit_own ?a ?b ?c ?d
      (case a => decide); (case b => k_is); (case c => k_is); (case d => k_is)
    case kGF =>
      refine' Nd.kit_own ?a ?b ?c ?d
      (case a => decide); (case b => k_is); (case c => k_is); (case d => k_is)
    case kIB =>
      refine' K4.kit_tyown ?a ?b ?c
      (case a => k_is); (case b => k_is); (case c => k_is)
    (case tyC_KC => k_is)
    (case tyC_KG => k_is)
    (case tyC_KW => k_is)
    (case tyC_KB => k_is)
    (case tyG => k_is)
    (case tyT => k_is)
    (case tyM_KC => k_is)
    (case tyM_KG => k_is)
    (case tyM_KW => k_is)
    (case tyM_KB => k_is)
